import PyProof.Rows.All
import Wide.All
import OpenK.AllK
import Wide.FinOn
import Lean
import PyProof.EqAt
import PyProof.EqKinds
import PyProof.TupleCall
import PyProof.NeKinds
import PySem.Challenge.RW_oncewise_k62_exchanges_listed
import OpenK.ZGo
set_option genSizeOf false
set_option bootstrap.genMatcherCode false
set_option compiler.extract_closed false
set_option hygiene false
local macro_rules|`(tactic| walk_at "t")=>`(tactic| (first|assumption|exact Nat.succ_pos _|exact z9.tk (by assumption)|exact Nat.lt_of_lt_of_le (z9.tk (by assumption)) (Nat.le_add_right _ _)|exact Nat.lt_of_lt_of_le (z9.tk (by assumption)) (by assumption)))
set_option hygiene true
local macro_rules|`(tactic| walk_at "w")=>`(tactic| conv=>whnf)
local macro_rules|`(tactic| walk_at "y")=>`(tactic| ((refine PySem.W.look_both ?_ ?_);(refine PySem.W.look_both ?_ ?_);(refine PySem.W.look_both ?_ ?_);(refine PySem.W.look_both ?_ ?_);(refine PySem.W.look_both ?_ ?_);(refine PySem.W.look_both ?_ ?_)))
set_option Elab.async false
set_option linter.all false
set_option maxRecDepth 100000
abbrev Aa:=@PySem.wpAny_bind
abbrev Ab:=@List.length_map
abbrev Ac:=@List.length_append
abbrev Ad:=@List.mem_cons_of_mem
abbrev Ae:=@List.getElem?_eq_getElem
abbrev Af:=@PySem.W.Frag
abbrev Ag:=@PySem.wpAny_pure
abbrev Ah:=@List.mem_append_right
abbrev Ai:=@List.mem_singleton
abbrev Aj:=@List.map_append
abbrev Ak:=@List.mem_cons_self
abbrev Al:=@Nat.le_refl
abbrev Am:=@Option.map_eq_some_iff
abbrev An:=@List.getElem?_map
abbrev Ao:=@List.size_toArray
abbrev Ap:=@List.mem_cons
abbrev Aq:=@List.mem_append_left
abbrev Ar:=@List.mem_append
abbrev Au:=@decide_eq_false
abbrev Av:=@List.getElem?_append_right
abbrev Aw:=@List.mem_of_getElem?
abbrev Ax:=@PyProof.Rows.wpS_bind
abbrev Ay:=@List.flatMap_append
abbrev Az:=@List.nodup_append
abbrev AA:=@Bool.false_ne_true
abbrev AB:=@Ne.symm
abbrev AC:=@List.nodup_cons
abbrev AD:=@if_pos
abbrev AE:=@if_neg
abbrev AF:=@List.getElem?_append_left
abbrev AG:=@decide_eq_true
abbrev AH:=@List.append_assoc
abbrev AI:=@List.append_nil
abbrev AJ:=@PyProof.Rows.wpS_pure
abbrev AK:=@List.getElem?_eq_some_iff
abbrev AL:=@List.length_cons
abbrev AM:=@Nat.lt_of_lt_of_le
abbrev AN:=@PySem.wpAny_field
abbrev AO:=@List.map_cons
abbrev AQ:=@Nat.le_trans
abbrev AR:=@List.flatMap_cons
abbrev AS:=@List.mem_map
abbrev AU:=@List.mem_filter
abbrev AV:=@Option.some.inj
abbrev AW:=@PySem.wpAny_mono
abbrev AX:=@List.length_take
abbrev AY:=@Int.toNat_natCast
abbrev AZ:=@Int.natCast_nonneg
abbrev A1:=@Nat.ne_of_lt
abbrev A2:=@List.mem_flatMap
abbrev A3:=@PySem.wpAny_holding
abbrev A4:=@Bool.and_eq_true
abbrev A5:=@List.take_of_length_le
abbrev A6:=@List.mem_range
abbrev A7:=@List.perm_ext_iff_of_nodup
abbrev A8:=@PySem.W.mg_none_of
abbrev A9:=@List.take_succ
abbrev Ba:=@List.take_append_drop
abbrev Bb:=@congrArg
abbrev Bc:=@PySem.wpAny_seqItems
abbrev Bd:=@Nat.le_of_lt
abbrev Be:=@Array.getElem?_toList
abbrev Bf:=@PySem.wpAny_newObj_type
abbrev Bg:=@Bool.eq_iff_iff
abbrev Bh:=@List.take_length
abbrev Bi:=@Nat.zero_le
abbrev Bj:=@List.getElem?_of_mem
abbrev Bk:=@List.length_reverse
abbrev Bl:=@PySem.W.kia_one
abbrev Bm:=@List.find?_cons
abbrev Bo:=@List.getD_eq_getElem?_getD
abbrev Bp:=@List.lookup_cons
abbrev Bq:=@PyProof.Rows.wpS_forRange
abbrev Br:=@List.not_mem_nil
abbrev Bs:=@List.cons_ne_nil
abbrev Bt:=@PySem.mem_of_lookup
abbrev Bu:=@List.length_singleton
abbrev Bv:=@Nat.le_of_ble_eq_true
abbrev Bw:=@List.length_range
abbrev Bx:=@Array.length_toList
abbrev Bz:=@List.getElem_take
abbrev BA:=@List.map_map
abbrev BB:=@PySem.W.hideAll_none
abbrev BC:=@PySem.wpAny_rule
abbrev BD:=@List.perm_iff_count
abbrev BE:=@List.eq_nil_or_concat
abbrev BF:=@List.concat_eq_append
abbrev BG:=@Nat.le_add_right
abbrev BH:=@List.all_eq_true
abbrev BI:=@Int.zero_add
abbrev BJ:=@List.getElem?_set_ne
abbrev BK:=@List.eq_nil_of_length_eq_zero
abbrev BL:=@Nat.lt_succ_of_lt
abbrev BM:=@List.count_append
abbrev BN:=@List.sum_append
abbrev BO:=@PyProof.Rows.callWith_type1
abbrev BP:=@Bool.false_eq_true
abbrev BQ:=@List.filter_append
abbrev BR:=@List.perm_append_singleton
abbrev BS:=@List.length_replicate
abbrev BU:=@List.getElem?_eq_none
abbrev BV:=@List.sublist_append_right
abbrev BW:=@List.forIn_cons
abbrev BX:=@Nat.min_eq_left
abbrev BY:=@PySem.W.look_both
abbrev BZ:=@Nat.le_succ
abbrev B1:=@Nat.le_succ_of_le
abbrev B3:=@List.mem_of_mem_take
abbrev B4:=@Bool.eq_false_iff
abbrev B5:=@List.any_cons
abbrev B6:=@PyProof.Rows.slot_tuple_getitem
abbrev B7:=@List.getElem?_replicate
abbrev B8:=@List.eraseIdx_cons_succ
abbrev B9:=@List.Perm.refl
abbrev Cb:=@List.nodup_range
abbrev Cc:=@PySem.W.of_hideAll
abbrev Cd:=@List.getElem?_set_self
abbrev Ce:=@PySem.W.funFrames_hide
abbrev Cf:=@Nat.sub_self
abbrev Cg:=@List.getElem_cons_drop
abbrev Ci:=@List.nil_append
abbrev Cj:=@Nat.lt_irrefl
abbrev Ck:=@PySem.W.mg_of
abbrev Cm:=@List.cons.inj
abbrev Cn:=@List.getElem?_reverse
abbrev Co:=@List.length_filter_le
abbrev Cp:=@Option.isSome_map
abbrev Cq:=@Bool.not_eq_true'
abbrev Cr:=@List.perm_append_right_iff
abbrev Cs:=@Nat.ne_of_gt
abbrev Ct:=@List.length_drop
abbrev Cu:=@List.perm_middle
abbrev Cv:=@Nat.lt_succ_self
abbrev Cw:=@List.drop_eq_getElem_cons
abbrev Cy:=@List.findIdx?_eq_none_iff
abbrev Cz:=@PySem.W.hideAll_get
abbrev CA:=@List.filterMap_cons
abbrev CB:=@List.sublist_append_left
abbrev CC:=@Int.emod_nonneg
abbrev CD:=@Nat.lt_of_le_of_lt
abbrev CF:=@List.getElem?_take
abbrev CG:=@Int.emod_lt_of_pos
abbrev CH:=@List.append_of_mem
abbrev CI:=@List.getElem?_cons_succ
abbrev CK:=@List.length_eraseIdx_le
abbrev CL:=@List.findIdx?_eq_some_iff_getElem
abbrev CM:=@List.map_nil
abbrev CN:=@List.reverse_cons
abbrev CO:=@List.drop_zero
abbrev CP:=@List.forIn_nil
abbrev CQ:=@List.mem_range'_1
abbrev CS:=@List.Sublist.refl
abbrev CT:=@List.flatMap_singleton
abbrev CU:=@List.eraseIdxIfInBounds_toArray
abbrev CV:=@List.map_reverse
abbrev CW:=@Nat.max_eq_right
abbrev CY:=@Int.mul_le_mul_of_nonneg_right
abbrev CZ:=@List.cons_append
abbrev C0:=@List.flatMap_nil
abbrev C1:=@List.filter_cons
abbrev C2:=@List.getElem?_zipIdx
abbrev C3:=@Int.le_refl
abbrev C4:=@List.pairwise_append
abbrev C5:=@List.reverse_reverse
abbrev C6:=@List.of_mem_zip
abbrev C7:=@Nat.max_eq_left
abbrev C8:=@List.getElem?_range
abbrev C9:=@Array.toList_append
abbrev Dd:=@List.mem_map_of_mem
abbrev De:=@List.reverse_append
abbrev Df:=@Nat.sub_zero
abbrev Dg:=@Nat.lt_or_ge
abbrev Dh:=@Int.le_of_lt
abbrev Di:=@List.mem_filterMap
abbrev Dj:=@PySem.F.excBase_ValueError
abbrev Dk:=@List.getElem?_drop
abbrev Dl:=@List.map_singleton
abbrev Dm:=@List.sum_singleton
abbrev Dn:=@congrFun
abbrev Do:=@PySem.F.slot_dict_getitem
abbrev Dp:=@List.pairwise_iff_getElem
abbrev Dq:=@List.perm_append_left_iff
abbrev Dr:=@List.getElem?_zip_eq_some
abbrev Ds:=@PySem.W.kitx_list
abbrev Dt:=@List.reverse_perm
abbrev Du:=@List.pairwise_map
abbrev Dv:=@List.nodup_range'
abbrev Dw:=@List.getElem?_take_of_lt
abbrev Dx:=@PySem.F.args_tuple_add_2
abbrev Dy:=@List.all_cons
abbrev Dz:=@List.getElem_append_left
abbrev DA:=@Int.ofNat_inj
abbrev DB:=@PySem.F.entry_tuple_add
abbrev DC:=@PySem.F.plainAttrs_list
abbrev DD:=@Nat.min_eq_right
abbrev DE:=@List.range'_succ
abbrev DF:=@Nat.add_sub_cancel_left
abbrev DG:=@List.any_eq_true
abbrev DH:=@Nat.succ_pos
abbrev DI:=@PySem.W.cellsFrom_some
abbrev DJ:=@PySem.F.slot_tuple_add
abbrev DK:=@Int.le_trans
abbrev DL:=@List.filter_eq_nil_iff
abbrev DM:=@List.reverse_singleton
abbrev DN:=@Array.size_push
abbrev DO:=@Bool.or_eq_true
abbrev DP:=@beq_false_of_ne
abbrev DQ:=@List.length_zip
abbrev DR:=@Nat.le_add_left
abbrev DS:=@Bool.and_false
abbrev xT:=@PySem.Heap.get?_push_of_some
abbrev ya:=@PySem.Heap.lt_size
abbrev y1:=@PySem.Heap.get?_push_size
abbrev As:=@PySem.PassesOwn.never
abbrev At:=@PySem.Heap.get?_update_other
abbrev Db:=@PySem.Heap.SameBut.update
abbrev DT:=@PySem.Heap.get?_update_self
abbrev Ef:=@PySem.Calls.spliced_cons
abbrev Eg:=@PySem.F.slot_tuple_iterator_next
abbrev Eh:=@PySem.MeetsSeq.plain_remove_loop
abbrev Ei:=@PySem.W.look_both
abbrev Ej:=@PySem.Around.under_plainId
abbrev Ek:=@PySem.Calls.spliced_nil
abbrev El:=@PySem.F.plain_extend_loop
abbrev Em:=@PySem.Heap.size_push
abbrev En:=@PySem.F.slot_zip_next
abbrev Eo:=@Sum.inr.inj
noncomputable section
namespace L2
open PySem PyProof.Rows
theorem iP{M:Model}{g:Ctx}{p:Pos}{t:Sem Fin}{fs:List Frame}{s s':Shared}{e:End}(h:Runs M g p t fs s e s'):s.toks<=s'.toks:=by induction h with|fresh _ j=>exact AQ (BZ _) j|call _ _ J U=>exact AQ J U|resumeFresh _ _ _ _ J U=>exact AQ J U|resumeSuspended _ _ _ _ J U=>exact AQ J U|segRet _ _ J U=>exact AQ J U|segGen _ _ J U=>exact AQ J U|segSuspGen _ _ _ _ J U=>exact AQ J U|_=>first|exact Al _|assumption
theorem ud{M:Model}{U:Ctx}{p:Pos}{g:Nat}{r:Resume}{s s':Shared}{res:GenResult}(h:Wakes M U p g r s res s'):s.toks<=s'.toks:=by
 unfold Wakes at h;split at h
 ·exact h.elim
 ·split at h
  ·obtain⟨e,j,J,_,_,rfl⟩:=h;have q:=iP J;exact q
  ·obtain⟨_,rfl⟩:=h;exact Al _
  ·obtain⟨_,rfl⟩:=h;exact Al _
 ·obtain⟨e,j,J,_,_,rfl⟩:=h;have q:=iP J;exact q
 ·obtain⟨_,rfl⟩:=h;exact Al _
 ·obtain⟨_,rfl⟩:=h;exact Al _
theorem ah8{α:Type}{M:Model}{C:Ctx}(t:Sem α):∀{Q:α->Pos->Shared->Prop} {E:Value->Pos->Shared->Prop} {p:Pos} {s:Shared} (n:Nat),n<=s.toks->Sem.wp M C t Q E p s->Sem.wp M C t (λa j s'=>Q a j s'/\n<=s'.toks) (λe j s'=>E e j s'/\n<=s'.toks) p s:=by induction t with|pure a=>intro Q E p s n J h;exact⟨h,J⟩|raise e=>intro Q E p s n J h;exact⟨h,J⟩|load a part k U=>intro Q E p s n J ⟨o,h1,h2⟩;exact⟨o,h1,U o n J h2⟩|update a part f k U=>intro Q E p s n J ⟨h1,h2⟩;exact⟨h1,U () n J h2⟩|fresh k U=>intro Q E p s n J h;exact U s.toks n (AQ J (BZ _)) h|choose I m k U=>intro Q E p s n J ⟨h1,h2⟩;exact⟨h1,U _ n J h2⟩|call c hd g l k U=>intro Q E p s n J ⟨r,s',h1,h2⟩;exact⟨r,s',h1,U r n (AQ J (iP h1)) h2⟩|genState g k U=>intro Q E p s n J ⟨st,h1,h2⟩;exact⟨st,h1,U _ n J h2⟩|resume g r l k U=>intro Q E p s n J ⟨res,s',h1,h2⟩;exact⟨res,s',h1,U _ n (AQ J (ud h1)) h2⟩|rule tag k U=>intro Q E p s n J h;exact U () n J h|«at» pos k U=>intro Q E p s n J h;exact U () n J h|alloc o k U=>intro Q E p s n J h;exact U _ n J h|loadIfAlive a k U=>intro Q E p s n J h;exact U _ n J h|point l k U=>intro Q E p s n J h;exact U _ n J h|ask k U=>intro Q E p s n J h;exact U _ n J h|os q l k U=>intro Q E p s n J h;exact U _ n J h|handled own k U=>intro Q E p s n J h;exact U _ n J h|newGen c k U=>intro Q E p s n J h;exact U _ n J h|stack k U=>intro Q E p s n J h;exact U _ n J h|thread k U=>intro Q E p s n J h;exact U _ n J h|unsupported w=>intro Q E p s n J h;exact h.elim|finish e=>intro Q E p s n J h;exact h.elim|register a k U=>intro Q E p s n J h;exact h.elim|yield v g l k U=>intro Q E p s n J h;exact h.elim|fork c k U=>intro Q E p s n J h;exact h.elim|await a f d l k U=>intro Q E p s n J h;exact h.elim
theorem uG{α:Type}{M:Model}{A:Around}{t:Sem α}{Q:α->Shared->Prop}{E:Value->Shared->Prop}{s:Shared}(h:wpAny M A t Q E s):wpAny M A t (λa s'=>Q a s'/\s.toks<=s'.toks) (λe s'=>E e s'/\s.toks<=s'.toks) s:=
 λU p J=>ah8 t s.toks (Al _) (h U p J)
theorem x0{α:Type}{M:Model}{A:Around}{t:Sem α}{Q:α->Shared->Prop}{E:Value->Shared->Prop}{s:Shared}(J:0<s.toks)(h:wpAny M A t (λa s'=>0<s'.toks->Q a s') (λe s'=>0<s'.toks->E e s') s):wpAny M A t Q E s:=
 AW (uG h) (λ_ _ z=>z.1 (AM J z.2)) λ_ _ z=>z.1 (AM J z.2)
end L2
variable {M:PySem.Model}{apos fm vb lp np p p1 p2 p3 p4 p5 pos gf tp:PySem.Pos}{t t1 t2:Bool}{s s':PySem.Shared}{c e nC o target tg value:PySem.Expr}{α β κ:Type}{A:PySem.Around}{E Q xe:PySem.Value->PySem.Shared->Prop}{eH us:List PySem.Value}{C Pt a b dx f fa i1 i2 it ka l l1 l2 pa z:PySem.Addr}{cd fx ct hQ oc pm u:PySem.Value}{base h h':PySem.Heap}{i j m n t' x1:Nat}{ch fp:List PySem.Addr}{kx name px q eK x:PySem.Str}{pins:List (PySem.Addr×PySem.Obj)}{st:PySem.Stmt}{oi es ni:List PySem.Expr}{body:List PySem.Stmt}{lo:Int}{mA mg:PySem.Str->Option PySem.Value}{fd:PySem.FuncData}{ps:List PySem.Str}{fy scope:PySem.Scope}{outer:List PySem.Env}{an od:Option PySem.Addr}{sm:Array (Option PySem.Value)}{prog:PySem.Program}{env:PySem.Env}{rks:List Int}
namespace L2
open PySem PySem.Spec PyProof.Rows
abbrev jg:=Sum Int Str
def lD:jg->Value->Bool
 |.inl k,v=>Value.isInt k v
 |.inr x,v=>Value.isStrOf x v
def apq(w:World):jg->Int
 |.inl k=>hashInt k
 |.inr x=>hashStr w x
theorem xz:∀{k:jg} {v:Value},lD k v=true->(∃i t,k=Sum.inl i/\v=Value.int i t)\/(∃x t,k=Sum.inr x/\v=Value.str x t)
 |.inl i,v,h=>by obtain⟨t,e⟩:=Value.isInt_shape (k:=i) (v:=v) h;exact .inl ⟨i,t,rfl,e⟩
 |.inr x,v,h=>by obtain⟨t,e⟩:=Value.isStrOf_shape (x:=x) (v:=v) h;exact .inr ⟨x,t,rfl,e⟩
theorem yd(i:Int)(t:Tok):lD (.inl i) (.int i t)=true:=by simp[lD,Value.isInt]
theorem hG(x:Str)(t:Tok):lD (.inr x) (.str x t)=true:=by simp[lD,Value.isStrOf]
theorem ajs(a b:Int):decide ((Sum.inl a:jg)=Sum.inl b)=(a==b):=by
 by_cases e:a=b
 ·subst e;simp
 ·have h:¬(Sum.inl a:jg)=Sum.inl b:=λq=>e (Sum.inl.inj q);rw[Au h];exact(beq_eq_false_iff_ne.mpr e).symm
theorem ala(a b:Str):decide ((Sum.inr a:jg)=Sum.inr b)=decide (a=b):=by
 by_cases e:a=b
 ·subst e;simp
 ·have h:¬(Sum.inr a:jg)=Sum.inr b:=λq=>e (Eo q);rw[Au h,Au e]
theorem al3(a:Int)(b:Str):decide ((Sum.inl a:jg)=Sum.inr b)=false:=Au (λq=>nomatch q)
theorem ak8(a:Str)(b:Int):decide ((Sum.inr a:jg)=Sum.inl b)=false:=Au (λq=>nomatch q)
def v4(prog:Program)(w:World):PySem.KeyKind prog w jg where
 is:=lD
 hash:=apq w
 inj:=λv a b l g=>by
  rcases xz l with⟨i,t,rfl,rfl⟩|⟨x,t,rfl,rfl⟩
  ·rcases xz g with⟨j,u,rfl,e⟩|⟨y,u,rfl,e⟩
   ·injection e with J _;rw[J]
   ·exact nomatch e
  ·rcases xz g with⟨j,u,rfl,e⟩|⟨y,u,rfl,e⟩
   ·exact nomatch e
   ·injection e with J _;rw[J]
 byValue:=λk v h=>by rcases xz h with⟨i,t,rfl,rfl⟩|⟨x,t,rfl,rfl⟩<;>rfl
 pyHash:=λU h=>by
  rcases xz U with⟨i,t,rfl,rfl⟩|⟨x,t,rfl,rfl⟩
  ·exact wpAny_pyHash_int h
  ·exact wpAny_pyHash_str h
 eqBool:=λo U h=>by
  rcases xz o with⟨i,t,rfl,rfl⟩|⟨x,t,rfl,rfl⟩
  ·rcases xz U with⟨j,u,rfl,rfl⟩|⟨y,u,rfl,rfl⟩
   ·rw[ajs] at h;exact wpAny_eqBool_int h
   ·rw[al3] at h;exact SeqAt.EqAt.int_str i t y u _ _ _ _ h
  ·rcases xz U with⟨j,u,rfl,rfl⟩|⟨y,u,rfl,rfl⟩
   ·rw[ak8] at h;exact SeqAt.EqAt.str_int x t j u _ _ _ _ h
   ·rw[ala] at h;exact wpAny_eqBool_str h
 «strs» := λk x t v h=>by
  rcases xz h with⟨i,u,rfl,e⟩|⟨y,u,rfl,e⟩
  ·exact nomatch e
  ·injection e with J _
   subst J;cases v<;>rfl
theorem tD(prog:Program)(w:World)(i:Int)(t:Tok):(v4 prog w).is (.inl i) (.int i t)=true:=yd i t
theorem tF(prog:Program)(w:World)(x:Str)(t:Tok):(v4 prog w).is (.inr x) (.str x t)=true:=hG x t
inductive V where
 |non|bl (b:Bool)|int (i:Int)|str (x:Str)|byt (b:Array UInt8)|flt (b:UInt64)|ref (a:Addr)|ty (n:String)
 deriving DecidableEq
def zx:V->Value->Prop
 |.non,u=>u=Value.none
 |.bl b,u=>u=Value.bool b
 |.int i,u=>∃t,u=Value.int i t
 |.str x,u=>∃t,u=Value.str x t
 |.byt b,u=>∃t,u=Value.bytes b t
 |.flt b,u=>∃t,u=Value.float b t
 |.ref a,u=>u=Value.ref a
 |.ty n,u=>u=Value.type n
abbrev zo:List V->List Value->Prop:=Paired zx
theorem zo.length{xs:List V}(r:zo xs us):xs.length=us.length:=Paired.length r
theorem zo.get:∀{xs:List V} {us:List Value} {i:Nat} {x:V},zo xs us->xs[i]?=some x->∃u,us[i]?=some u/\zx x u
 |_,_,_,_,.nil,e=>by simp at e
 |_,_,0,_,.cons r _,e=>by simp at e;subst e;exact⟨_,rfl,r⟩
 |_,_,i+1,x,.cons _ t,e=>by obtain⟨u,h1,h2⟩:=zo.get (i:=i) (x:=x) t (by simpa using e);exact⟨u,by simpa using h1,h2⟩
theorem zo.set{x:V}{u:Value}(r:zx x u):∀{xs:List V} {us:List Value} (i:Nat),zo xs us->zo (xs.set i x) (us.set i u)
 |_,_,_,.nil=>.nil
 |_,_,0,.cons _ t=>.cons r t
 |_,_,i+1,.cons q t=>.cons q (zo.set r i t)
theorem zo.append:∀{xs ys:List V} {us J:List Value},zo xs us->zo ys J->zo (xs++ys) (us++J)
 |_,_,_,_,.nil,s=>s
 |_,_,_,_,.cons r t,s=>.cons r (zo.append t s)
theorem zo.take:∀{xs:List V} {us:List Value} (n:Nat),zo xs us->zo (xs.take n) (us.take n)
 |_,_,0,_=>.nil
 |_,_,_+1,.nil=>.nil
 |_,_,n+1,.cons r t=>.cons r (zo.take n t)
theorem zo.drop:∀{xs:List V} {us:List Value} (n:Nat),zo xs us->zo (xs.drop n) (us.drop n)
 |_,_,0,r=>r
 |_,_,_+1,.nil=>.nil
 |_,_,n+1,.cons _ t=>zo.drop n t
def hJ:Option V->Option Value->Prop
 |some v,some u=>zx v u
 |none,none=>True
 |_,_=>False
def KV :List (κ×V)->List (κ×Value)->Prop:=Paired λ(p:κ×V) (q:κ×Value)=>p.1=q.1/\zx p.2 q.2
def kV:jg->V
 |.inl i=>.int i
 |.inr x=>.str x
inductive HO where
 |lst (xs:List V)
 |tup (xs:List V)
 |dK (kvs:List (jg×V))|dT (kvs:List (List jg×V))
 |set (S:Int->Bool) (n:Nat)
 |ins (C dx:Addr) (fs:List (Str×V))
 |own (x:Addr)
 |xd (fs:List (Str×V))
 |met (f x:Addr)
 |rng (lo hi:Int)
 |frz (o:Obj) (u:HO)
 |tbl (ps:Array Value)
 |ext (φ:Heap->Prop)
abbrev Hp:=Addr->Option HO
def upd(H:Hp)(a:Addr)(o:HO):Hp:=λb=>if b=a then some o else H b
theorem zp{H:Hp}{o:HO}:upd H a o a=some o:=by unfold upd;rw[AD rfl]
theorem qp{H:Hp}{o:HO}(h:b≠a):upd H a o b=H b:=by unfold upd;rw[AE h]
theorem wJ{H:Hp}{o u:HO}:upd (upd H a o) a u=upd H a u:=by funext b;unfold upd;split<;>rfl
theorem ao5{H:Hp}{o u:HO}(h:H a=some o)(h':H b=some u)(d:o≠u):a≠b:=by intro e;subst e;rw[h] at h';exact d (AV h')
theorem zu{H:Hp}{o:HO}(h:H a=some o)(h':H b=none):a≠b:=by intro e;subst e;rw[h] at h';cases h'
section
variable (P:Program)(w:World)
def xo(H:Hp)(h:Heap)(a:Addr):HO->Prop
 |.lst xs=>xs.length<=sizeLine/\∃(eH:List Value) (n:Nat),zo xs eH/\h.get? a=some { cls:=.type "list",data:=.seq eH.toArray n }
 |.tup xs=>xs.length<=sizeLine/\∃eH:List Value,zo xs eH/\IsTup h a eH.toArray
 |.dK kvs=>kvs.length<=sizeLine/\(a==sysModules)=false/\∃vs,KV kvs vs/\h.DictOf (v4 P w) a vs
 |.dT kvs=>kvs.length<=sizeLine/\(a==sysModules)=false/\∃xs:List (List jg×Addr×Value),
  Paired (λ(p:List jg×V) (q:List jg×Addr×Value)=>p.1=q.1/\H q.2.1=some (.tup (p.1.map kV))/\zx p.2 q.2.2) kvs xs/\
  ∃o es U,h.get? a=some o/\o.ExactDict/\o.data=.dict es U/\es.toList=xs.map (entryOfKey (tupleKind (v4 P w)))/\(xs.map (·.1)).Nodup
 |.set S n=>h.SetOf (intKind P w) a S n
 |.ins C dx fs=>H dx=some (.own a)/\fs.length<=1000/\dx≠a/\h.get? a=some (PySem.W.instObj C dx)/\
  ∃mA,h.Ns1 dx mA/\(∀f,hJ (fs.lookup f) (mA f))/\PySem.Within mA (fs.map (·.1))
 |.own _=>∃o,h.get? a=some o
 |.xd fs=>∃mA,h.Ns1 a mA/\∀f,hJ (fs.lookup f) (mA f)
 |.rng lo hi=>∃t u v,h.get? a=some { cls:=.type "range",data:=.fields #[.int lo t,.int hi u,.int 1 v] }
 |.frz o u=>h.get? a=some o/\xo H h a u
 |.tbl ps=>h.get? a=some { cls:=.none,data:=.fields ps }
 |.met f x=>h.get? a=some (PySem.W.methodObj (.ref f) (.ref x))
 |.ext J=>J h/\(∃o,h.get? a=some o)/\∀h1 h2:Heap,J h1->(∀o,h1.get? a=some o->h2.get? a=some o)->J h2
def dF(H:Hp)(h:Heap):Prop:=∀a o,H a=some o->xo P w H h a o
end
section
variable {P:Program}{w:World}{H H':Hp}{o:HO}
theorem xo.lt(x:xo P w H h a o):a<h.objs.size:=by
 cases o with
 |lst U=>obtain⟨_,_,_,_,e⟩:=x;exact ya e
 |tup U=>obtain⟨_,_,_,p⟩:=x;exact p.lt
 |dK J=>obtain⟨_,_,_,_,o,_,_,e,_⟩:=x;exact ya e
 |dT J=>obtain⟨_,_,_,_,o,_,_,e,_⟩:=x;exact ya e
 |set S n=>obtain⟨o,_,_,_,e,_⟩:=x;exact ya e
 |ins C g fs=>obtain⟨_,_,_,e,_⟩:=x;exact ya e
 |own y=>obtain⟨_,e⟩:=x;exact ya e
 |xd fs=>obtain⟨_,⟨_,_,_,e,_⟩,_⟩:=x;exact ya e
 |rng lo j=>obtain⟨_,_,_,e⟩:=x;exact ya e
 |frz ob u=>obtain⟨e,_⟩:=x;exact ya e
 |tbl l=>exact ya (show h.get? a=some _ from x)
 |met f y=>exact ya (show h.get? a=some _ from x)
 |ext r=>obtain⟨_,⟨_,e⟩,_⟩:=x;exact ya e
theorem Paired.mapP{α β:Type}{F G:α->β->Prop}:∀{l₁:List α} {J:List β},Paired F l₁ J->(∀a b,F a b->G a b)->Paired G l₁ J
 |_,_,.nil,_=>.nil
 |_,_,.cons r t,f=>.cons (f _ _ r) (Paired.mapP t f)
abbrev DY:=@Paired.mapP
theorem xo.stay(x:xo P w H h a o)(k:∀b u,(b=a\/H b=some (.own a))->h.get? b=some u->h'.get? b=some u)
 (ho:∀b,H b=some (.own a)->H' b=some (.own a)) (ht:∀b xs,H b=some (.tup xs)->H' b=some (.tup xs)):xo P w H' h' a o:=by
 induction o with
 |lst xs=>obtain⟨z,g,n,r,e⟩:=x;exact⟨z,g,n,r,k _ _ (.inl rfl) e⟩
 |tup xs=>obtain⟨z,g,r,ob,e,c⟩:=x;exact⟨z,g,r,ob,k _ _ (.inl rfl) e,c⟩
 |dK j=>obtain⟨z,y,vs,r,ob,J,U,e,c⟩:=x;exact⟨z,y,vs,r,ob,J,U,k _ _ (.inl rfl) e,c⟩
 |dT j=>
  obtain⟨z,y,xs,r,ob,J,U,e,c⟩:=x;exact⟨z,y,xs,DY r λp q z=>⟨z.1,ht _ _ z.2.1,z.2.2⟩,ob,J,U,k _ _ (.inl rfl) e,c⟩
 |set S n=>obtain⟨ob,J,U,t,e,c⟩:=x;exact⟨ob,J,U,t,k _ _ (.inl rfl) e,c⟩
 |ins C dx fs=>
  obtain⟨d,z,ne,e,l,⟨I,J,U,e2,c⟩,r⟩:=x;exact⟨ho _ d,z,ne,k _ _ (.inl rfl) e,l,⟨I,J,U,k _ _ (.inr d) e2,c⟩,r⟩
 |own y=>obtain⟨ob,e⟩:=x;exact⟨ob,k _ _ (.inl rfl) e⟩
 |xd fs=>obtain⟨l,⟨I,J,U,e,c⟩,r⟩:=x;exact⟨l,⟨I,J,U,k _ _ (.inl rfl) e,c⟩,r⟩
 |rng lo hi=>obtain⟨t,u,v,e⟩:=x;exact⟨t,u,v,k _ _ (.inl rfl) e⟩
 |frz ob u ih=>obtain⟨e,q⟩:=x;exact⟨k _ _ (.inl rfl) e,ih q⟩
 |tbl T=>
  have e:h.get? a=some { cls:=.none,data:=.fields T }:=x;show h'.get? a=some { cls:=.none,data:=.fields T };exact k a _ (.inl rfl) e
 |met f y=>
  have e:h.get? a=some (PySem.W.methodObj (.ref f) (.ref y)):=x;show h'.get? a=some (PySem.W.methodObj (.ref f) (.ref y));exact k a _ (.inl rfl) e
 |ext φ=>obtain⟨p,⟨o,e⟩,st⟩:=x;exact⟨st _ _ p λo q=>k _ _ (.inl rfl) q,⟨o,k _ _ (.inl rfl) e⟩,st⟩
theorem dF.lt(x:dF P w H h)(e:H a=some o):a<h.objs.size:=(x a o e).lt
theorem dF.fresh(x:dF P w H h)(e:h.objs.size<=a):H a=none:=by cases q:H a with|none=>rfl|some u=>exact absurd (AM (x.lt q) e) (Cj _)
theorem dF.kept(x:dF P w H h)(k:∀b u,h.get? b=some u->h'.get? b=some u):dF P w H h':=λa o e=>
 (x a o e).stay (λb u _ q=>k b u q) (λ_ q=>q) λ_ _ q=>q
theorem dF.laid(x:dF P w H h)(k:∀b u,h.get? b=some u->h'.get? b=some u)(g:h.objs.size<=a)(new:xo P w (upd H a o) h' a o):dF P w (upd H a o) h':=λb u e=>by
 have J:=x.fresh g;by_cases U:b=a
 ·subst U;rw[zp] at e;cases e;exact new
 ·rw[qp U] at e;exact(x b u e).stay (λc v _ q=>k c v q) (λc q=>by rw[qp (zu q J)];exact q) λc j q=>by rw[qp (zu q J)];exact q
end
def Rd(H:Hp)(a:Addr)(u:HO):Prop:=H a=some u\/∃o,H a=some (.frz o u)
theorem Rd.ok{P:Program}{w:World}{H:Hp}{u:HO}(r:Rd H a u)(x:dF P w H h):xo P w H h a u:=by
 rcases r with r|⟨o,r⟩
 ·exact x a u r
 ·obtain⟨_,q⟩:=x a _ r;exact q
def Mut:Option HO->Prop
 |some (.lst _)=>True
 |some (.dK _)=>True
 |some (.dT _)=>True
 |some (.set _ _)=>True
 |some (.ins _ _ _)=>True
 |some (.ext _)=>True
 |_=>False
section
variable {P:Program}{w:World}{H:Hp}{x e:Addr}{o':HO}
theorem dF.write(ok:dF P w H h)(j:Mut (H x))(C:e=x\/H e=some (.own x))(k:∀b u,b≠e->h.get? b=some u->h'.get? b=some u)(t:∃u,h'.get? e=some u)
 (new:xo P w (upd H x o') h' x o'):dF P w (upd H x o') h':=λb u q=>by
 have U:∀c y,H c=some (.own y)->c≠x:=λc y r z=>by subst z;rw[r] at j;exact j
 have g:∀c l,H c=some (.tup l)->c≠x:=λc l r z=>by subst z;rw[r] at j;exact j
 by_cases o:b=x
 ·subst o;rw[zp] at q;cases q;exact new
 ·rw[qp o] at q;by_cases J:b=e
  ·have I:H b=some (.own x):=by
    rcases C with z|z
    ·exact absurd (J.trans z) o
    ·rw[J];exact z
   rw[q] at I;cases I;obtain⟨v,T⟩:=t;exact⟨v,by rw[J];exact T⟩
  ·refine(ok b u q).stay (λc v p r=>k c v ?_ r) (λc r=>by rw[qp (U c b r)];exact r) λc l r=>by rw[qp (g c l r)];exact r
   rcases p with rfl|p
   ·exact J
   ·rintro rfl;rcases C with z|z
    ·exact U c b p z
    ·rw[p] at z;cases z;exact o rfl
end
structure Un(fs ex:List Addr)(H H':Hp)(h h':Heap):Prop where
 keep:∀b o,h.get? b=some o->H b=none->b∉fs->b∉ex->h'.get? b=some o
 slot:∀b o,h.get? b=some o->H b=none->b∈fs->b∉ex->∃sl,h'.get? b=some { o with slots:=sl }
 free:∀b o,h.get? b=some o->H b=none->b∉ex->H' b=none
 there:∀b o,h.get? b=some o->b∉ex->∃o',h'.get? b=some o'
 tups:∀b xs,H b=some (.tup xs)->H' b=some (.tup xs)
 frzs:∀b o u,H b=some (.frz o u)->H' b=some (.frz o u)
 tbls:∀b ps,H b=some (.tbl ps)->∃more,H' b=some (.tbl (ps++more))
section
variable {fs fs' ex ex':List Addr}{H H1 H2:Hp}{h1 h2:Heap}{x e:Addr}{o:HO}
theorem Un.any(u:Un fs ex H H1 h h1){ob:Obj}(q:h.get? b=some ob)(n:H b=none)(J:b∉ex):∃g,h1.get? b=some { ob with slots:=g }:=by
 by_cases U:b∈fs
 ·exact u.slot b ob q n U J
 ·exact⟨ob.slots,u.keep b ob q n U J⟩
theorem Un.kept(k:∀b u,h.get? b=some u->h'.get? b=some u):Un fs ex H H h h':=
 ⟨λb ob q _ _ _=>k b ob q,λb ob q _ _ _=>⟨ob.slots,k b ob q⟩,λ_ _ _ n _=>n,λb ob q _=>⟨ob,k b ob q⟩,λ_ _ q=>q,λ_ _ _ q=>q,λ_ J q=>⟨#[],by rw[q];simp⟩⟩
theorem Un.refl:Un fs ex H H h h:=Un.kept λ_ _ q=>q
theorem Un.laid(k:∀b u,h.get? b=some u->h'.get? b=some u)(U:h.objs.size<=a)(J:H a=none):Un fs ex H (upd H a o) h h' where
 keep:=λb u q _ _ _=>k b u q
 slot:=λb u q _ _ _=>⟨u.slots,k b u q⟩
 free:=λb u q n _=>by rw[qp (A1 (AM (ya q) U))];exact n
 there:=λb u q _=>⟨u,k b u q⟩
 tups:=λb g q=>by rw[qp (zu q J)];exact q
 frzs:=λb u g q=>by rw[qp (zu q J)];exact q
 tbls:=λb j q=>⟨#[],by rw[qp (zu q J),q];simp⟩
theorem Un.write(U:Mut (H x))(t:e=x\/H e=some (.own x))(k:∀b u,b≠e->h.get? b=some u->h'.get? b=some u)(g:∃u,h'.get? e=some u):Un fs ex H (upd H x o) h h':=by
 have l:∀b,H b=none->b≠x:=λb n z=>by subst z;rw[n] at U;exact U
 have p:∀b,H b=none->b≠e:=λb n z=>by
  subst z;rcases t with r|r
  ·exact l b n r
  ·rw[n] at r;cases r
 have j:∀b u,H b=some u->¬Mut (some u)->b≠x:=λb u q nm z=>by subst z;rw[q] at U;exact nm U
 refine⟨λb u q n _ _=>k b u (p b n) q,λb u q n _ _=>⟨u.slots,k b u (p b n) q⟩,λb u q n _=>by rw[qp (l b n)];exact n,λb u q _=>?_,
  λb C q=>by rw[qp (j b _ q λz=>z)];exact q,λb u C q=>by rw[qp (j b _ q λz=>z)];exact q,λb I q=>⟨#[],by rw[qp (j b _ q λz=>z),q];simp⟩⟩
 by_cases J:b=e
 ·subst J;exact g
 ·exact⟨u,k b u J q⟩
end
def trk(h:Heap)(H:Hp):List Addr:=(List.range h.objs.size).filter λa=>(H a).isSome
def qG(h:Heap)(H:Hp):Heap:=PySem.W.hideAll h (trk h H)
theorem xD(h:Heap)(H:Hp):(qG h H).objs.size=h.objs.size:=PySem.W.hideAll_size _ _
theorem zO{H:Hp}{o:Obj}(e:h.get? b=some o)(n:H b=none):(qG h H).get? b=some o:=
 Cz _ e λJ=>by have q:(H b).isSome=true:=(AU.mp J).2;rw[n] at q;simp at q
theorem ahb{H:Hp}{o:Obj}(e:(qG h H).get? b=some o):h.get? b=some o/\H b=none:=by
 have J:h.get? b=some o:=Cc (trk h H) e;refine⟨J,?_⟩;cases q:H b with
 |none=>rfl
 |some x=>
  have U:b∈trk h H:=AU.mpr ⟨A6.mpr (ya J),by simp[q]⟩;have z:(qG h H).get? b=none:=BB (trk h H) U;rw[z] at e;cases e
end L2
variable {vs xs zs:List L2.V}{H H' H₀:L2.Hp}{v:L2.V}
namespace L2
open PySem PySem.Spec PyProof.Rows
structure Mod(K:Af)(mg:Str->Option Value)(base:Heap):Prop where
 kin:K.In base
 glob:base.Ns mainGlobals mg
 blt:∃mb,base.Ns builtinsNs mb/\∀x:Str,x ≠ "__name__" -> mb x=bootBuiltins x
 nolimit:base.NoLimit
structure Cx where
 prog:Program
 w:World
 K:Af
 mg:Str->Option Value
 base:Heap
 A:Around
 N:List Str
 s₀:Shared
 H₀:Hp
 env:Env
 outer:List Env
 stack:List Env
 ex:List Addr
 fn:Str->Bool
 calm:Bool
 pn:List (Addr×Obj)
 xe:Value->Shared->Prop
def bH(l:List Env):List Addr:=l.filterMap (·.frame)
abbrev Cx.fs(X:Cx):List Addr:=bH X.outer
def Vis(J:Scope)(x:Str):Prop:=J.names.lookup x=some .local\/J.names.lookup x=some .cell\/J.names.lookup x=some .free
def Loc(J:Scope)(x:Str):Prop:=J.names.lookup x=some .local\/J.names.lookup x=some .cell
def aq2(env:Env)(h:Heap)(m:Str->Option Value)(x:Str)(u:Value):Prop:=
 (env.kindOf x=some .local/\m x=some u)\/((env.kindOf x=some .cell\/env.kindOf x=some .free)/\∃c,env.cells.lookup x=some c/\h.IsCell c (some u))
structure Cx.Ok(X:Cx):Prop where
 mod:Mod X.K X.mg X.base
 kind:X.env.scope.kind=.function
 glob:X.env.globals=mainGlobals
 blt:X.env.builtins=builtinsNs
 above:X.s₀.heap.objs.size<=X.env.locals
 inj:∀x y c,X.env.cells.lookup x=some c->X.env.cells.lookup y=some c->x=y
 has:∀x,(X.env.kindOf x=some .cell\/X.env.kindOf x=some .free)->∃c,X.env.cells.lookup x=some c
 cab:∀x c,X.fn x=true->X.env.cells.lookup x=some c->X.s₀.heap.objs.size<=c
 hd:X.calm=true->X.A.handled=none
 frames:X.A.frames=some X.stack
 stk:X.stack=X.outer\/(X.stack=X.env::X.outer/\X.env.frame=some X.env.locals)
 exf:∀b∈X.ex,b≠X.env.locals/\∀x c,X.env.cells.lookup x=some c->c≠b
 bs:∀b o,X.base.get? b=some o->X.s₀.heap.get? b=some o/\X.H₀ b=none
 bsz:X.base.objs.size<=X.s₀.heap.objs.size
 noex:∀b o,X.base.get? b=some o->b∉X.ex
 exfs:∀b∈X.ex,b∉X.fs
 funs:X.s₀.heap.FunFrames X.base X.outer
 frf:∀b∈X.fs,X.H₀ b=none
structure z9(X:Cx)(pins:List (Addr×Obj))(σ:List (Option V))(H:Hp)(s:Shared):Prop where
 ok:X.Ok
 os:s.os=X.s₀.os
 bare:AllBare s.gens
 base:Un X.fs X.ex X.H₀ H X.s₀.heap s.heap
 loc:∃m,s.heap.Ns X.env.locals m/\∀(i:Nat) (x:Str) (v:V),X.N[i]?=some x->σ[i]?=some (some v)->Vis X.env.scope x->∃u,zx v u/\aq2 X.env s.heap m x u
 cell:∀x c,X.env.cells.lookup x=some c->∃v,s.heap.IsCell c v
 free:H X.env.locals=none
 freeC:∀x c,X.env.cells.lookup x=some c->H c=none
 pin:∀p∈X.pn++pins,s.heap.get? p.1=some p.2/\H p.1=none/\p.1≠X.env.locals/\p.1∉X.fs/\∀v,p.2.data≠.cell v
 hok:dF X.prog X.w H s.heap
 len:σ.length=X.N.length
 tk:0<s.toks
section
variable {X:Cx}{σ:List (Option V)}
theorem Cx.Ok.nofr(ok:X.Ok){o:Obj}(e:X.base.get? b=some o):b∉X.fs:=λJ=>by have:=(ok.funs.mem J).1;rw[e] at this;cases this
theorem z9.bs(I:z9 X pins σ H s):∀b o,X.base.get? b=some o->s.heap.get? b=some o/\H b=none:=λb o e=>
 ⟨I.base.keep b o (I.ok.bs b o e).1 (I.ok.bs b o e).2 (I.ok.nofr e) (I.ok.noex b o e),I.base.free b o (I.ok.bs b o e).1 (I.ok.bs b o e).2 (I.ok.noex b o e)⟩
theorem z9.bk(I:z9 X pins σ H s):∀b o,X.base.get? b=some o->s.heap.get? b=some o:=λb o e=>(I.bs b o e).1
theorem z9.mod(I:z9 X pins σ H s):Mod X.K X.mg X.base:=I.ok.mod
theorem z9.kIn(I:z9 X pins σ H s):X.K.In s.heap:=I.ok.mod.kin.keeps I.bk
theorem z9.nolimit(I:z9 X pins σ H s):s.heap.NoLimit:=I.ok.mod.nolimit.keeps I.bk
theorem z9.lt(I:z9 X pins σ H s):X.env.locals<s.heap.objs.size:=let ⟨_,J,_⟩:=I.loc;J.lt
theorem z9.sz(I:z9 X pins σ H s):X.s₀.heap.objs.size<=s.heap.objs.size:=AQ I.ok.above (Bd I.lt)
theorem z9.nofs(I:z9 X pins σ H s)(h:s.heap.objs.size<=a):a∉X.fs:=λJ=>by obtain⟨_,o,U,_⟩:=I.ok.funs.mem J;exact absurd (AM (ya U) (AQ I.sz h)) (Cj _)
theorem z9.cne(I:z9 X pins σ H s):∀x c,X.env.cells.lookup x=some c->c≠X.env.locals:=λx c e z=>by obtain⟨v,o,g,hd⟩:=I.cell x c e;obtain⟨m,⟨j,l,p,J,U,_⟩,_⟩:=I.loc;rw[z,J] at g;cases g;rw[U] at hd;cases hd
theorem z9.funs(I:z9 X pins σ H s):s.heap.FunFrames X.base X.outer:=by
 have all:∀(l:List Env),(∀b∈bH l,b∈X.fs)->X.s₀.heap.FunFrames X.base l->s.heap.FunFrames X.base l:=by
  intro l
  induction l with
  |nil=>intro _ _;trivial
  |cons p r t=>
   intro j C;obtain⟨T,⟨L,o,J,hn,ho,hd⟩,hr⟩:=C;have U:L∈X.fs:=j L (by unfold bH;rw[CA,J];exact Ak);obtain⟨sl,e⟩:=I.base.slot L o ho (I.ok.frf L U) U λz=>I.ok.exfs L z U;exact⟨T,⟨L,_,J,hn,e,hd⟩,t (λb g=>j b (by unfold bH;rw[CA,J];exact Ad _ g)) hr⟩
 exact all X.outer (λ_ g=>g) I.ok.funs
theorem z9.stack(I:z9 X pins σ H s):s.heap.FunFrames X.base X.stack:=by
 rcases I.ok.stk with e|⟨e,J⟩
 ·rw[e];exact I.funs
 ·rw[e];obtain⟨m,U,_⟩:=I.loc;refine .cons (by rw[I.ok.kind];decide) J U ?_ I.funs;exact Heap.get?_none_of_le (AQ I.ok.bsz I.ok.above)
theorem z9.stkSub(I:z9 X pins σ H s):∀b∈bH X.stack,b∈X.env.locals::X.fs:=λb J=>by
 rcases I.ok.stk with e|⟨e,U⟩
 ·rw[e] at J;exact Ad _ J
 ·rw[e] at J;unfold bH at J;rw[CA,U] at J;exact J
theorem z9.stkFree(I:z9 X pins σ H s):∀b∈bH X.stack,H b=none:=λb J=>by
 rcases Ap.mp (I.stkSub b J) with e|J
 ·rw[e];exact I.free
 ·obtain⟨_,o,U,_⟩:=I.ok.funs.mem J;exact I.base.free b o U (I.ok.frf b J) λz=>I.ok.exfs b z J
theorem z9.step{g':Array GenState}{d':Drawn}(I:z9 X pins σ H s)
 (U:∀b∈ch,(b∈X.ex\/X.s₀.heap.objs.size<=b)/\b≠X.env.locals/\(∀x c,X.env.cells.lookup x=some c->c≠b)/\∀p∈X.pn++pins,p.1≠b)
 (keep:∀b o,b≠X.env.locals->b∉X.fs->b∉ch->s.heap.get? b=some o->H b=none->h'.get? b=some o)
 (slot:∀b o,b≠X.env.locals->b∈X.fs->b∉ch->s.heap.get? b=some o->H b=none->∃sl,h'.get? b=some { o with slots:=sl }) (free:∀b o,b∉ch->s.heap.get? b=some o->H b=none->H' b=none)
 (there:∀b o,b∉ch->s.heap.get? b=some o->∃o',h'.get? b=some o')
 (tups:∀b xs,H b=some (.tup xs)->H' b=some (.tup xs)) (frzs:∀b o u,H b=some (.frz o u)->H' b=some (.frz o u)) (tbls:∀b ps,H b=some (.tbl ps)->∃more,H' b=some (.tbl (ps++more)))
 (ns:∀m,s.heap.Ns X.env.locals m->h'.Ns X.env.locals m) (hok:dF X.prog X.w H' h') (hg:AllBare g') (ht:0<t':=by walk_at "t"):
 z9 X pins σ H' { s with heap:=h',gens:=g',drawn:=d',toks:=t' }:=by
 have v5:∀b o,X.s₀.heap.get? b=some o->b≠X.env.locals:=λb o e=>A1 (AM (ya e) I.ok.above);have t:∀b o,X.s₀.heap.get? b=some o->b∉X.ex->b∉ch:=λb o e J T=>by
  rcases (U b T).1 with z|z
  ·exact J z
  ·exact absurd (AM (ya e) z) (Cj _)
 have g:∀x c,X.env.cells.lookup x=some c->∀v,s.heap.IsCell c v->h'.IsCell c v:=λx c e v ⟨o,ho,hd⟩=>by
  have j:c∉ch:=λz=>(U c z).2.2.1 x c e rfl;by_cases hc:c∈X.fs
  ·obtain⟨sl,q⟩:=slot c o (I.cne x c e) hc j ho (I.freeC x c e);exact⟨_,q,hd⟩
  ·exact⟨o,keep c o (I.cne x c e) hc j ho (I.freeC x c e),hd⟩
 refine⟨I.ok,I.os,hg,⟨λb o e n T J=>?_,λb o e n T J=>?_,λb o e n J=>?_,λb o e J=>?_,λb xs e=>tups b xs (I.base.tups b xs e),λb o xs e=>frzs b o xs (I.base.frzs b o xs e),λb ps e=>?_⟩,?_,λx c e=>?_,?_,λx c e=>?_,λp hp=>?_,hok,I.len,ht⟩
 ·exact keep b o (v5 b o e) T (t b o e J) (I.base.keep b o e n T J) (I.base.free b o e n J)
 ·obtain⟨sl,C⟩:=I.base.slot b o e n T J;obtain⟨a1,e2⟩:=slot b _ (v5 b o e) T (t b o e J) C (I.base.free b o e n J);exact⟨a1,e2⟩
 ·obtain⟨o',C⟩:=I.base.there b o e J;exact free b o' (t b o e J) C (I.base.free b o e n J)
 ·obtain⟨o',C⟩:=I.base.there b o e J;exact there b o' (t b o e J) C
 ·obtain⟨m1,C⟩:=I.base.tbls b ps e;obtain⟨m2,e2⟩:=tbls b _ C;exact⟨m1++m2,by rw[e2,Array.append_assoc]⟩
 ·obtain⟨m,hn,hl⟩:=I.loc;refine⟨m,ns m hn,λi x v C e2 e3=>?_⟩;obtain⟨u,r,l⟩:=hl i x v C e2 e3;refine⟨u,r,?_⟩;rcases l with l|⟨k,c,e,z⟩
  ·exact .inl l
  ·exact .inr ⟨k,c,e,g x c e _ z⟩
 ·obtain⟨v,z⟩:=I.cell x c e;exact⟨v,g x c e v z⟩
 ·obtain⟨m,⟨o,_,_,ho,_⟩,_⟩:=I.loc;exact free _ o (λz=>(U _ z).2.1 rfl) ho I.free
 ·obtain⟨v,o,ho,hd⟩:=I.cell x c e;exact free c o (λz=>(U c z).2.2.1 x c e rfl) ho (I.freeC x c e)
 ·obtain⟨e,n,ne,nf,d⟩:=I.pin p hp;have j:p.1∉ch:=λz=>(U p.1 z).2.2.2 p hp rfl;exact⟨keep p.1 p.2 ne nf j e n,free p.1 p.2 j e n,ne,nf,d⟩
theorem z9.un(I:z9 X pins σ H s)(u:Un X.fs [] H H' s.heap h')(hok:dF X.prog X.w H' h')(T:0<t':=by walk_at "t"):z9 X pins σ H' { s with heap:=h',toks:=t' }:=by obtain⟨m,⟨o,es,ep,l,r⟩,_⟩:=id I.loc;obtain⟨sl,p⟩:=u.any l I.free (by simp);exact I.step (g':=s.gens) (d':=s.drawn) (ch:=[]) (λ_ z=>nomatch z) (λb o _ U _ e n=>u.keep b o e n U (by simp)) (λb o _ U _ e n=>u.slot b o e n U (by simp)) (λb o _ e n=>u.free b o e n (by simp)) (λb o _ e=>u.there b o e (by simp)) u.tups u.frzs u.tbls (λm' t=>by obtain⟨o',g,j,J,C⟩:=t;rw[l] at J;cases J;exact⟨_,g,j,p,C⟩) hok I.bare
theorem z9.call{g':Array GenState}{d':Drawn}(I:z9 X pins σ H s)(u:Un (bH X.stack) ch H H' s.heap h')(hok:dF X.prog X.w H' h')(T:AllBare g')
 (U:∀b∈ch,(b∈X.ex\/X.s₀.heap.objs.size<=b)/\b≠X.env.locals/\(∀x c,X.env.cells.lookup x=some c->c≠b)/\∀p∈X.pn++pins,p.1≠b) (ht:0<t':=by walk_at "t"):
 z9 X pins σ H' { s with heap:=h',gens:=g',drawn:=d',toks:=t' }:=by
 obtain⟨m,⟨o,es,ep,C,r⟩,_⟩:=id I.loc;obtain⟨sl,j⟩:=u.any C I.free λz=>(U _ z).2.1 rfl;exact I.step (ch:=ch) U (λb o j hb J e n=>u.keep b o e n (λz=>(Ap.mp (I.stkSub b z)).elim j hb) J) (λb o _ _ J e n=>u.any e n J) (λb o J e n=>u.free b o e n J) (λb o J e=>u.there b o e J) u.tups u.frzs u.tbls (λm' hm=>by obtain⟨o',l,t,g,r'⟩:=hm;rw[C] at g;cases g;exact⟨_,l,t,j,r'⟩) hok T
theorem z9.turned(I:z9 X pins σ H s)(k:∀b o,b≠it->s.heap.get? b=some o->h'.get? b=some o)(j:H it=none)(g:it≠X.env.locals)
 (h1:it∈X.ex\/X.s₀.heap.objs.size<=it) (h2:∀x c,X.env.cells.lookup x=some c->c≠it) (h3:∀p∈X.pn++pins,p.1≠it) (ht:0<t':=by walk_at "t"):z9 X pins σ H { s with heap:=h',toks:=t' }:=by
 have U:∀b u,H b=some u->b≠it:=λb u e z=>by rw[z,j] at e;cases e
 refine I.step (g':=s.gens) (d':=s.drawn) (ch:=[it]) (λb l=>?_) (λb o _ _ J e _=>k b o (λz=>J (by simp[z])) e) (λb o _ _ J e _=>⟨o.slots,k b o (λz=>J (by simp[z])) e⟩) (λ_ _ _ _ n=>n)
  (λb o J e=>⟨o,k b o (λz=>J (by simp[z])) e⟩) (λ_ _ e=>e) (λ_ _ _ e=>e) (λb ps e=>⟨#[],by rw[e];simp⟩) (λm t=>?_) (λb u e=>?_) I.bare
 ·have e:b=it:=by simpa using l
  subst e;exact⟨h1,g,h2,h3⟩
 ·obtain⟨o,C,T,ho,r⟩:=t;exact⟨o,C,T,k _ o (AB g) ho,r⟩
 ·refine(I.hok b u e).stay (λc v J q=>k c v ?_ q) (λ_ q=>q) λ_ _ q=>q;rcases J with z|z
  ·rw[z];exact U b u e
  ·exact U c _ z
theorem z9.tok(I:z9 X pins σ H s)(t:Nat)(J:0<t:=by walk_at "t"):z9 X pins σ H { s with toks:=t }:=I.un (h':=s.heap) (t':=t) Un.refl I.hok
theorem z9.kept(I:z9 X pins σ H s)(k:∀b u,s.heap.get? b=some u->h'.get? b=some u)(J:0<t':=by walk_at "t"):z9 X pins σ H { s with heap:=h',toks:=t' }:=I.un (Un.kept k) (I.hok.kept k)
theorem z9.laid{o:HO}(I:z9 X pins σ H s)(k:∀b u,s.heap.get? b=some u->h'.get? b=some u)(J:s.heap.objs.size<=a)(new:xo X.prog X.w (upd H a o) h' a o)(U:0<t':=by walk_at "t"):
 z9 X pins σ (upd H a o) { s with heap:=h',toks:=t' }:=I.un (Un.laid k J (I.hok.fresh J)) (I.hok.laid k J new)
theorem z9.write{x e:Addr}{o:HO}(I:z9 X pins σ H s)(U:Mut (H x))(g:e=x\/H e=some (.own x))(k:∀b u,b≠e->s.heap.get? b=some u->h'.get? b=some u)(J:∃u,h'.get? e=some u)
 (new:xo X.prog X.w (upd H x o) h' x o) (j:0<t':=by walk_at "t"):z9 X pins σ (upd H x o) { s with heap:=h',toks:=t' }:=I.un (Un.write U g k J) (I.hok.write U g k J new)
theorem z9.weak{ir:List (Option V)}(I:z9 X pins σ H s)(U:ir.length=σ.length)(w:∀(i:Nat) v,ir[i]?=some (some v)->σ[i]?=some (some v)):z9 X pins ir H s:=
 ⟨I.ok,I.os,I.bare,I.base,let ⟨m,g,J⟩:=I.loc;⟨m,g,λi x v j l o=>J i x v j (w i v l) o⟩,I.cell,I.free,I.freeC,I.pin,I.hok,U.trans I.len,I.tk⟩
theorem z9.pins_of{J:List (Addr×Obj)}(I:z9 X pins σ H s)(h:∀p∈J,s.heap.get? p.1=some p.2/\H p.1=none/\p.1≠X.env.locals/\p.1∉X.fs/\∀v,p.2.data≠.cell v):z9 X J σ H s:=
 ⟨I.ok,I.os,I.bare,I.base,I.loc,I.cell,I.free,I.freeC,λp U=>(Ar.mp U).elim (λz=>I.pin p (Aq _ z)) (h p),I.hok,I.len,I.tk⟩
theorem sE{N:List Str}(J:N.Nodup)(a:N[i]?=some x)(b:N[j]?=some x):i=j:=by obtain⟨h1,U⟩:=AK.mp a;obtain⟨h2,g⟩:=AK.mp b;exact(List.getElem_inj J).mp (U.trans g.symm)
theorem oG{Q:Unit->Shared->Prop}(I:z9 X pins σ H s)(hN:X.N.Nodup)(hi:X.N[i]?=some x)(t:Loc X.env.scope x)(r:zx v u)
 (h:∀s',z9 X pins (σ.set i (some v)) H s'->(∃a,Heap.SameBut a s.heap s'.heap/\(a=X.env.locals\/X.env.cells.lookup x=some a))->(X.env.kindOf x=some .local->∃m',s'.heap.Ns X.env.locals m'/\m' x=some u)->Q () s') (hf:X.fn x=true\/X.env.scope.names.lookup x=some .local:=by first|exact .inl rfl|exact .inr rfl|assumption):wpAny M A (storeName X.env x u) Q E s:=by
 obtain⟨m,hn,hl⟩:=id I.loc;have a3:(X.env.scope.kind==.class||(X.env.scope.kind==.module&&X.env.locals != X.env.globals))=false:=by rw[I.ok.kind];rfl
 have a1:i<σ.length:=by rw[I.len];exact(AK.mp hi).1
 have cne:=I.cne;have U:∀{a:Addr} {h':Heap},(∃o,s.heap.get? a=some o/\H a=none)->Heap.SameBut a s.heap h'->dF X.prog X.w H h':=λ{a h'} ha J b ob e=>by
  obtain⟨_,_,C⟩:=ha;refine(I.hok b ob e).stay (λc w' l q=>(J.2 c ?_).trans q) (λ_ q=>q) λ_ _ q=>q;rintro rfl;rcases l with rfl|l
  ·rw[C] at e;cases e
  ·rw[C] at l;cases l
 rcases t with T|T
 ·refine wpAny_storeName_local T hn (λh' a4 J=>?_) a3;obtain⟨oL,_,_,av,_⟩:=id hn;refine h _ ⟨I.ok,I.os,I.bare,⟨λb o e n hb t=>?_,λb o e n hb t=>?_,I.base.free,λb o e t=>?_,I.base.tups,I.base.frzs,I.base.tbls⟩,⟨_,a4,λj y v' g e2 e3=>?_⟩,λy c e=>?_,I.free,I.freeC,λp hp=>?_,U ⟨oL,av,I.free⟩ J,by simpa using I.len,by first|exact I.tk|exact DH _⟩ ⟨_,J,.inl rfl⟩ (λ_=>⟨_,a4,by simp⟩)
  ·exact(J.2 b (A1 (AM (ya e) I.ok.above))).trans (I.base.keep b o e n hb t)
  ·obtain⟨sl,g⟩:=I.base.slot b o e n hb t;exact⟨sl,(J.2 b (A1 (AM (ya e) I.ok.above))).trans g⟩
  ·obtain⟨o',g⟩:=I.base.there b o e t;exact⟨o',(J.2 b (A1 (AM (ya e) I.ok.above))).trans g⟩
  ·by_cases hj:j=i
   ·subst hj;rw[hi] at g;cases g;rw[Cd a1] at e2;cases e2;exact⟨u,r,.inl ⟨T,by simp⟩⟩
   ·rw[BJ (AB hj)] at e2;obtain⟨u',r',q⟩:=hl j y v' g e2 e3;refine⟨u',r',?_⟩;rcases q with⟨k,e⟩|⟨k,c,e,z⟩
    ·refine .inl ⟨k,?_⟩;have:y≠x:=λe=>hj (sE hN g (e▸hi));simp[this,e]
    ·exact .inr ⟨k,c,e,z.sameBut J (cne y c e)⟩
  ·obtain⟨w',z⟩:=I.cell y c e;exact⟨w',z.sameBut J (cne y c e)⟩
  ·obtain⟨e,n,ne,nf,d⟩:=I.pin p hp;exact⟨(J.2 p.1 ne).trans e,n,ne,nf,d⟩
 ·have a2:X.fn x=true:=by
   rcases hf with z|z
   ·exact z
   ·rw[z] at T;cases T
  obtain⟨c,l⟩:=I.ok.has x (.inl T);obtain⟨w',z⟩:=I.cell x c l;refine wpAny_storeName_cell I.ok.kind T l z (λh' a5 J=>?_);obtain⟨oc,ag,al⟩:=id z;refine h { s with heap:=h' } ⟨I.ok,I.os,I.bare,⟨λb o e n hb t=>?_,λb o e n hb t=>?_,I.base.free,λb o e t=>?_,I.base.tups,I.base.frzs,I.base.tbls⟩,⟨m,hn.sameBut J (AB (cne x c l)),λj y v' g e2 e3=>?_⟩,λy c' e=>?_,I.free,I.freeC,λp hp=>?_,U ⟨oc,ag,I.freeC x c l⟩ J,by simpa using I.len,I.tk⟩ ⟨c,J,.inr l⟩ (λz=>by have e:=(show X.env.kindOf x=some .cell from T).symm.trans z;cases e)
  ·exact(J.2 b (A1 (AM (ya e) (I.ok.cab x c a2 l)))).trans (I.base.keep b o e n hb t)
  ·obtain⟨sl,g⟩:=I.base.slot b o e n hb t;exact⟨sl,(J.2 b (A1 (AM (ya e) (I.ok.cab x c a2 l)))).trans g⟩
  ·obtain⟨o',g⟩:=I.base.there b o e t;exact⟨o',(J.2 b (A1 (AM (ya e) (I.ok.cab x c a2 l)))).trans g⟩
  ·by_cases hj:j=i
   ·subst hj;rw[hi] at g;cases g;rw[Cd a1] at e2;cases e2;exact⟨u,r,.inr ⟨.inl T,c,l,a5⟩⟩
   ·rw[BJ (AB hj)] at e2;obtain⟨u',r',q⟩:=hl j y v' g e2 e3;refine⟨u',r',?_⟩;rcases q with q|⟨k,c',e,z'⟩
    ·exact .inl q
    ·refine .inr ⟨k,c',e,z'.sameBut J ?_⟩;rintro rfl;exact hj (sE hN g (I.ok.inj _ _ _ e l▸hi))
  ·by_cases au:c'=c
   ·subst au;exact⟨_,a5⟩
   ·obtain⟨w2,z2⟩:=I.cell y c' e;exact⟨w2,z2.sameBut J au⟩
  ·obtain⟨e,n,ne,nf,d⟩:=I.pin p hp;refine⟨(J.2 p.1 ?_).trans e,n,ne,nf,d⟩;intro q;rw[q,ag] at e;have q':oc=p.2:=AV e;exact d w' (by rw[<-q'];exact al)
theorem gU{Q:Unit->Shared->Prop}(I:z9 X pins σ H s)(J:X.N.Nodup)(hi:X.N[i]?=some x)(U:Loc X.env.scope x)(r:zx v u)
 (h:∀s',z9 X pins (σ.set i (some v)) H s'->Q () s') (g:X.fn x=true\/X.env.scope.names.lookup x=some .local:=by first|exact .inl rfl|exact .inr rfl|assumption):wpAny M A (storeName X.env x u) Q E s:=
 oG I J hi U r (λs' j _ _=>h s' j) g
theorem z9.call'(I:z9 X pins σ H s)(U:s'.os=s.os)(u:Un (bH X.stack) ch H H' s.heap s'.heap)(hok:dF X.prog X.w H' s'.heap)(g:AllBare s'.gens)
 (J:∀b∈ch,(b∈X.ex\/X.s₀.heap.objs.size<=b)/\b≠X.env.locals/\(∀x c,X.env.cells.lookup x=some c->c≠b)/\∀p∈X.pn++pins,p.1≠b) (j:0<s'.toks:=by walk_at "t"):z9 X pins σ H' s':=by
 obtain⟨o,g',d',t',l⟩:=s';have e:l=s.os:=U;subst e;exact I.call (g':=g') (t':=t') (d':=d') u hok g J j
end
abbrev XK:=Value->Option Addr->Hp->Prop
abbrev St:=List (Option V)
abbrev VK:=V->Hp->Prop
abbrev TE:=St->Hp->VK->Prop
abbrev TT:=St->Hp->(Bool->Hp->Prop)->Prop
abbrev TA:=St->Hp->(List V->Hp->Prop)->Prop
structure oX where
 nx:St->Hp->Prop
 rt:VK
 bk:St->Hp->Prop:=λ_ _=>False
 ct:St->Hp->Prop:=λ_ _=>False
abbrev TS:=oX->St->Hp->Prop
def EP(X:Cx)(pins:List (Addr×Obj))(σ:St)(Q:VK)(u:Value)(s':Shared):Prop:=∃v H',z9 X pins σ H' s'/\zx v u/\Q v H'
def TP(X:Cx)(pins:List (Addr×Obj))(σ:St)(Q:Bool->Hp->Prop)(b:Bool)(s':Shared):Prop:=∃H',z9 X pins σ H' s'/\Q b H'
def AP(X:Cx)(pins:List (Addr×Obj))(σ:St)(Q:List V->Hp->Prop)(us:List Value)(s':Shared):Prop:=∃vs H',z9 X pins σ H' s'/\zo vs us/\Q vs H'
def SP(X:Cx)(pins:List (Addr×Obj))(D:oX)(f:Flow)(s':Shared):Prop:=
 match f with
 |.next=>∃ir H',z9 X pins ir H' s'/\D.nx ir H'
 |.brk=>∃ir H',z9 X pins ir H' s'/\D.bk ir H'
 |.cont=>∃ir H',z9 X pins ir H' s'/\D.ct ir H'
 |.ret u=>∃v ir H',z9 X pins ir H' s'/\zx v u/\D.rt v H'
def PE(X:Cx)(e:Expr)(t:TE):Prop:=
 ∀(pins:List (Addr×Obj)) (s:Shared) (σ:St) (H:Hp) (Q:VK),z9 X pins σ H s->t σ H Q->wpAny (model X.prog X.w) X.A (eval e X.env) (EP X pins σ Q) X.xe s
def PT(X:Cx)(e:Expr)(t:TT):Prop:=
 ∀(pins:List (Addr×Obj)) (s:Shared) (σ:St) (H:Hp) (Q:Bool->Hp->Prop),z9 X pins σ H s->t σ H Q->wpAny (model X.prog X.w) X.A (isTrue e X.env (eval e X.env)) (TP X pins σ Q) X.xe s
def PW(X:Cx)(e:Expr)(t:TT):Prop:=
 ∀(whole:Sem Value) (pins:List (Addr×Obj)) (s:Shared) (σ:St) (H:Hp) (Q:Bool->Hp->Prop),z9 X pins σ H s->t σ H Q->wpAny (model X.prog X.w) X.A (isTrue e X.env whole) (TP X pins σ Q) X.xe s
theorem PW.pt{X:Cx}{t:TT}(h:PW X e t):PT X e t:=h _
def PA(X:Cx)(es:List Expr)(t:TA):Prop:=
 ∀(pos:Pos) (pins:List (Addr×Obj)) (s:Shared) (σ:St) (H:Hp) (Q:List V->Hp->Prop),z9 X pins σ H s->t σ H Q->wpAny (model X.prog X.w) X.A (spliced (backTo pos (starEach es X.env))) (AP X pins σ Q) X.xe s
def PS(X:Cx)(st:Stmt)(t:TS):Prop:=
 ∀(pins:List (Addr×Obj)) (s:Shared) (σ:St) (H:Hp) (D:oX),z9 X pins σ H s->t D σ H->wpAny (model X.prog X.w) X.A (exec st X.env) (SP X pins D) X.xe s
def gH(X:Cx)(st:List Stmt)(t:TS):Prop:=
 ∀(pins:List (Addr×Obj)) (s:Shared) (σ:St) (H:Hp) (D:oX),z9 X pins σ H s->t D σ H->wpAny (model X.prog X.w) X.A (execs st X.env) (SP X pins D) X.xe s
theorem aI{t:Sem α}{Q J:α->Shared->Prop}(h:wpAny M A t Q E s)(U:∀a s,Q a s->J a s):wpAny M A t J E s:=AW h U λ_ _ x=>x
theorem aX{t:Sem Value}{X:Cx}{σ:St}{Q:VK}{J:Value->Shared->Prop}(h:wpAny M A t (EP X pins σ Q) E s)(U:∀v s x H,z9 X pins σ H s->zx x v->Q x H->J v s):wpAny M A t J E s:=aI h λv s ⟨x,H,a,b,c⟩=>U v s x H a b c
theorem yb{t:Sem (List Value)}{X:Cx}{σ:St}{Q:List V->Hp->Prop}{J:List Value->Shared->Prop}(h:wpAny M A t (AP X pins σ Q) E s)(U:∀v s x H,z9 X pins σ H s->zo x v->Q x H->J v s):wpAny M A t J E s:=aI h λv s ⟨x,H,a,b,c⟩=>U v s x H a b c
end L2
variable {r:L2.V->Option Int->Option Int->L2.Hp->L2.VK->Prop}{X:L2.Cx}{σ:L2.St}{tc:L2.TT}
namespace L2
open PySem PySem.Spec PyProof.Rows
section
def al8(i:Nat):TE:=λσ H Q=>∃v,σ[i]?=some (some v)/\Q v H
def tC(v:V):TE:=λ_ H Q=>Q v H
abbrev Ed(x:Str):Prop:=(x==("__debug__":Str))=false
abbrev Ee(x:Str):Prop:=(x==("__classdict__":Str))=false
theorem ak3(p:X.N[i]?=some x)(t:Vis X.env.scope x)(hd:Ed x:=by decide)(j:Ee x:=by decide):PE X (.Name x pos) (al8 i):=by
 intro g s C H Q I h;obtain⟨v,e,h⟩:=h;obtain⟨m,T,hl⟩:=I.loc;obtain⟨u,r,l⟩:=hl i x v p e t;have js:EP X g C Q u s:=⟨v,H,I,r,h⟩;rcases l with⟨U,hm⟩|⟨U,c,o,J⟩
 ·exact wpAny_Name (wpAny_loadName_local I.ok.kind U T hm js) hd
 ·rcases U with U|U
  ·exact wpAny_Name (wpAny_loadName_cell I.ok.kind U o J js) hd
  ·exact wpAny_Name (wpAny_loadName_free I.ok.kind U o J js j) hd
theorem akj{i j pos}:PE X (.Constant (.int i) j pos) (tC (.int i)):=λ_ _ _ H _ I h=>wpAny_Constant_int ⟨.int i,H,I.tok _,⟨_,rfl⟩,h⟩
theorem aof{b j pos}:PE X (.Constant (.bool b) j pos) (tC (.bl b)):=λ_ _ _ H _ I h=>Constant_bool ⟨.bl b,H,I,rfl,h⟩
theorem ale{j pos}:PE X (.Constant .none j pos) (tC .non):=λ_ _ _ H _ I h=>Constant_none ⟨.non,H,I,rfl,h⟩
theorem cL{x j pos}:PE X (.Constant (.str x) j pos) (tC (.str x)):=λ_ _ _ H _ I h=>Calls.Constant_str ⟨.str x,H,I.tok _,⟨_,rfl⟩,h⟩
def Gl(X:Cx)(x:Str):Prop:=X.env.kindOf x=some .globalImplicit
theorem gE(I:z9 X pins σ H s)(J:Gl X x)(U:X.mg x=some u)(h:Q u s)
 (hd:Ed x:=by decide):wpAny (model X.prog X.w) X.A (eval (.Name x pos) X.env) Q E s:=
 Calls.Name_function_global I.ok.kind J (Calls.loadGlobal_global (by rw[I.ok.glob];exact I.mod.glob.keeps I.bk) U h) hd
theorem az(I:z9 X pins σ H s)(J:Gl X x)(U:X.mg x=none)(g:bootBuiltins x=some u)(h:Q u s)
 (j:x ≠ "__name__" := by decide) (hd:Ed x:=by decide):wpAny (model X.prog X.w) X.A (eval (.Name x pos) X.env) Q E s:=by
 obtain⟨l,h1,h2⟩:=I.mod.blt;exact Calls.Name_function_global I.ok.kind J (Calls.loadGlobal_builtin (by rw[I.ok.glob];exact I.mod.glob.keeps I.bk) U (by rw[I.ok.blt];exact h1.keeps I.bk) ((h2 x j).trans g) h) hd
theorem vN(J:Gl X x)(U:X.mg x=some u)(r:zx v u)(hd:Ed x:=by decide):PE X (.Name x pos) (tC v):=
 λ_ _ _ H _ I h=>gE I J U ⟨v,H,I,r,h⟩ hd
theorem afi(J:Gl X x)(U:X.mg x=none)(g:bootBuiltins x=some u)(r:zx v u)(j:x ≠ "__name__" := by decide)(hd:Ed x:=by decide):PE X (.Name x pos) (tC v):=
 λ_ _ _ H _ I h=>az I J U g ⟨v,H,I,r,h⟩ j hd
variable {a b:Expr}{ta tb:TE}
def PC(X:Cx)(op:CmpOp)(a b:Expr)(t:TE):Prop:=
 ∀(pins:List (Addr×Obj)) (s:Shared) (σ:St) (H:Hp) (Q:VK),z9 X pins σ H s->t σ H Q->
  wpAny (model X.prog X.w) X.A (eval a X.env) (λv J=>wpAny (model X.prog X.w) X.A (eval b X.env) (λu U=>wpAny (model X.prog X.w) X.A (compareOp op v u) (EP X pins σ Q) X.xe U) X.xe J) X.xe s
theorem rg(b:Expr){op:CmpOp}(h:op≠.In)(h2:op≠.NotIn):behindInMarks op b=false:=by
 have J:(op==CmpOp.In)=false:=by cases op<;>first|rfl|exact absurd rfl h
 have U:(op==CmpOp.NotIn)=false:=by cases op<;>first|rfl|exact absurd rfl h2
 cases b<;>simp[behindInMarks,J,U]
def aod(ta:TE):TE:=λσ H Q=>ta σ H λx H1=>Q (.bl (decide (x=.non))) H1
def aib(ta:TE):TE:=λσ H Q=>ta σ H λx H1=>Q (.bl (!decide (x=.non))) H1
theorem zx.none_iff{x:V}{v:Value}(r:zx x v):(v==Value.none)=decide (x=.non):=by
 cases x with
 |non=>cases r;rfl
 |bl _=>cases r;rfl
 |int _=>obtain⟨t,rfl⟩:=r;rfl
 |str _=>obtain⟨t,rfl⟩:=r;rfl
 |byt _=>obtain⟨t,rfl⟩:=r;rfl
 |flt _=>obtain⟨t,rfl⟩:=r;rfl
 |ref _=>cases r;rfl
 |ty _=>cases r;rfl
theorem zL{j gf}(U:PE X a ta):PC X .Is a (.Constant .none j gf) (aod ta):=by intro J s g H Q I h;refine aX (U J s g H _ I h) λv t x l o p r=>?_;exact Constant_none (is_none_gen ⟨.bl _,l,o,by rw[p.none_iff];rfl,r⟩)
theorem aeg{j gf}(U:PE X a ta):PC X .IsNot a (.Constant .none j gf) (aib ta):=by intro J s g H Q I h;refine aX (U J s g H _ I h) λv t x l o p r=>?_;exact Constant_none (isnot_none_gen ⟨.bl _,l,o,by rw[p.none_iff];rfl,r⟩)
def tB(t:TE):TT:=λσ H Q=>t σ H λx H1=>∃c,x=.bl c/\Q c H1
theorem ajx{op:CmpOp}{t:TE}(h:PC X op a b t)(h1:behindInMarks op b=false:=by first|exact rg _ (by decide) (by decide)|rfl):PE X (.Compare a [op] [b] pos) t:=λJ s U H Q I hw=>wpAny_Compare1 (h J s U H Q I hw) h1
theorem ac5{op:CmpOp}{t:TE}(h:PC X op a b t)(h1:behindInMarks op b=false:=by first|exact rg _ (by decide) (by decide)|rfl):PT X (.Compare a [op] [b] pos) (tB t):=by intro J s U H Q I hw;refine wpAny_isTrue_Compare1 (aI (h J s U H _ I hw) λv p h1=>aI h1 λu r h2=>aI h2 λc C ⟨x,g,j,l,o⟩=>?_) h1;obtain⟨d,rfl,q⟩:=o;cases l;exact wpAny_truthy_bool ⟨g,j,q⟩
theorem ajn{t:TE}(h:PE X e t)(U:∀whole,isTrue e X.env whole=(do let v <-whole;standAt e.pos;holding [v] (truthy v)):=by intro _;rfl):PT X e (tB t):=by intro J s g H Q I hw;refine isTrue_plain (aX (h J s g H _ I hw) λv r x j l o p=>?_) (U _);obtain⟨d,rfl,q⟩:=p;cases o;exact wpAny_truthy_bool ⟨j,l,q⟩
variable {tA wh:TT}{rest:List Expr}
def aq1(t u:TT):TT:=λσ H Q=>t σ H λc H1=>if c=true then u σ H1 Q else Q false H1
def tOr(t u:TT):TT:=λσ H Q=>t σ H λc H1=>if c=true then Q true H1 else u σ H1 Q
def ar5(t:TT):TT:=λσ H Q=>t σ H λc H1=>Q (!c) H1
theorem agi(U:PT X a tA):PW X (.BoolOp .And [a] pos) tA:=by intro j J s g H Q I h;refine isTrue_and (aI (U J s g H Q I h) λc l e=>?_);cases c with|true=>exact isTrue_and_nil e|false=>exact e
theorem aik(U:PT X a tA):PW X (.BoolOp .Or [a] pos) tA:=by intro j J s g H Q I h;refine isTrue_or (aI (U J s g H Q I h) λc l e=>?_);cases c with|false=>exact isTrue_or_nil e|true=>exact e
theorem al9(o:PT X a tA)(p:PW X (.BoolOp .And (b::rest) pos) wh):PW X (.BoolOp .And (a::b::rest) pos) (aq1 tA wh):=by intro r J s U H Q I h;refine isTrue_and (aI (o J s U H _ I h) λc t ⟨g,j,l⟩=>?_);cases c with|true=>exact p r J t U g Q j l|false=>exact⟨g,j,l⟩
theorem am7(o:PT X a tA)(p:PW X (.BoolOp .Or (b::rest) pos) wh):PW X (.BoolOp .Or (a::b::rest) pos) (tOr tA wh):=by intro r J s U H Q I h;refine isTrue_or (aI (o J s U H _ I h) λc t ⟨g,j,l⟩=>?_);cases c with|true=>exact⟨g,j,l⟩|false=>exact p r J t U g Q j l
theorem aku(U:PT X a tA):PT X (.UnaryOp .Not a pos) (ar5 tA):=by intro J s g H Q I h;exact isTrue_not (U J s g H (λc j=>Q (!c) j) I h)
def ams(ta tb:TE):TE:=λσ H Q=>ta σ H λx H1=>∃c,x=.bl c/\if c=true then tb σ H1 Q else Q (.bl false) H1
def amt(ta:TE):TE:=λσ H Q=>ta σ H λx H1=>∃c,x=.bl c/\Q (.bl (!c)) H1
theorem aj1{op}{t:TE}(h:PE X a t):PE X (.BoolOp op [a] pos) t:=λJ s U H Q I hw=>BoolOp_one (h J s U H Q I hw)
theorem aiu(o:PE X a ta)(p:PE X (.BoolOp .And (b::rest) pos) tb):PE X (.BoolOp .And (a::b::rest) pos) (ams ta tb):=by
 intro J s g H Q I h;refine BoolOp_and (aX (o J s g H _ I h) λv r x j l t U=>?_);obtain⟨c,rfl,U⟩:=U;cases t;refine wpAny_truthy_bool ?_;cases c with
 |true=>exact p J r g j Q l U
 |false=>exact⟨.bl false,j,l,rfl,U⟩
theorem aj2(g:PE X a ta):PE X (.UnaryOp .Not a pos) (amt ta):=by intro J s j H Q I h;refine UnaryOp_ (aX (g J s j H _ I h) λv r x l o p U=>?_);obtain⟨c,rfl,U⟩:=U;cases p;exact not_of (wpAny_truthy_bool ⟨.bl (!c),l,o,rfl,U⟩)
def tIf(t:TT)(ta tb:TE):TE:=λσ H Q=>t σ H λc H1=>if c=true then ta σ H1 Q else tb σ H1 Q
theorem ab0(hc:PT X c tA)(p:PE X a ta)(r:PE X b tb):PE X (.IfExp c a b pos) (tIf tA ta tb):=by intro J s U H Q I h;refine wpAny_IfExp (aI (hc J s U H _ I h) λd g ⟨j,l,o⟩=>?_);cases d with|true=>exact p J g U j Q l o|false=>exact r J g U j Q l o
end
def aK(K:Af)(H:Hp)(a:Addr)(xs:List V):Prop:=
 Rd H a (.lst xs)\/
  ∃(o:Obj) (eH:Array Value) (n:Nat),K.lookup a=some o/\o.cls=.type "list" /\ o.dict=none/\o.data=.seq eH n/\eH.size<=sizeLine/\zo xs eH.toList
def cD(K:Af)(H:Hp)(a:Addr)(xs:List V):Prop:=
 Rd H a (.tup xs)\/
  ∃(o:Obj) (eH:Array Value) (n:Nat),K.lookup a=some o/\o.cls=.type "tuple" /\ o.data=.seq eH n/\eH.size<=sizeLine/\zo xs eH.toList
def apw:Value->Option V
 |.none=>some .non
 |.bool b=>some (.bl b)
 |.int i _=>some (.int i)
 |.str x _=>some (.str x)
 |.bytes b _=>some (.byt b)
 |.float b _=>some (.flt b)
 |.ref a=>some (.ref a)
 |.type n=>some (.ty n)
 |_=>none
theorem zx.abs{x:V}(r:zx x u):apw u=some x:=by
 cases x with
 |non=>cases r;rfl
 |bl _=>cases r;rfl
 |int _=>obtain⟨t,rfl⟩:=r;rfl
 |str _=>obtain⟨t,rfl⟩:=r;rfl
 |byt _=>obtain⟨t,rfl⟩:=r;rfl
 |flt _=>obtain⟨t,rfl⟩:=r;rfl
 |ref _=>cases r;rfl
 |ty _=>cases r;rfl
theorem zx.inj{x y:V}(r:zx x u)(q:zx y u):x=y:=AV (r.abs.symm.trans q.abs)
theorem zo.inj:∀{xs ys:List V} {us:List Value},zo xs us->zo ys us->xs=ys
 |_,_,_,.nil,.nil=>rfl
 |_,_,_,.cons r t,.cons J U=>by rw[r.inj J,zo.inj t U]
section
variable {ys:List V}
theorem aK.of{K:Af}(h:H a=some (.lst xs)):aK K H a xs:=.inl (.inl h)
theorem cD.of{K:Af}(h:H a=some (.tup xs)):cD K H a xs:=.inl (.inl h)
theorem z9.list(I:z9 X pins σ H s)(h:aK X.K H a xs):∃eH:List Value,zo xs eH/\PlainL s.heap a eH.toArray/\xs.length<=sizeLine:=by
 rcases h with h|⟨o,eH,n,J,U,hd,g,j,r⟩
 ·obtain⟨z,eH,n,r,e⟩:=h.ok I.hok;exact⟨eH,r,⟨_,n,e,rfl,rfl,rfl⟩,z⟩
 ·refine⟨eH.toList,r,⟨o,n,I.kIn a o J,U,hd,by simpa using g⟩,?_⟩;have e:=r.length;simp only[Bx] at e;lia
theorem z9.tuple(I:z9 X pins σ H s)(h:cD X.K H a xs):∃eH:List Value,zo xs eH/\IsTup s.heap a eH.toArray/\xs.length<=sizeLine:=by
 rcases h with h|⟨o,eH,n,J,U,g,j,r⟩
 ·obtain⟨z,eH,r,p⟩:=h.ok I.hok;exact⟨eH,r,p,z⟩
 ·refine⟨eH.toList,r,⟨o,I.kIn a o J,U,n,by simpa using g⟩,?_⟩;have e:=r.length;simp only[Bx] at e;lia
theorem z9.list_inj(I:z9 X pins σ H s)(h:aK X.K H a xs)(h':aK X.K H a ys):xs=ys:=by
 obtain⟨U,r,⟨o,n,e,_,_,d⟩,_⟩:=I.list h;obtain⟨J,l,⟨p,t,g,_,_,j⟩,_⟩:=I.list h';rw[e] at g;cases g;rw[d] at j;injection j with d1 _
 have:U=J:=by simpa using Bb Array.toList d1
 subst this;exact r.inj l
theorem z9.tuple_inj(I:z9 X pins σ H s)(h:cD X.K H a xs)(h':cD X.K H a ys):xs=ys:=by
 obtain⟨U,r,⟨o,e,_,n,d⟩,_⟩:=I.tuple h;obtain⟨J,l,⟨p,g,_,t,j⟩,_⟩:=I.tuple h';rw[e] at g;cases g;rw[d] at j;injection j with d1 _
 have:U=J:=by simpa using Bb Array.toList d1
 subst this;exact r.inj l
end
abbrev Cx.wish(X:Cx)(E:Value->Shared->Prop):Cx:={ X with xe:=E }
abbrev Cx.nox(X:Cx):Cx:=X.wish λ_ _=>False
theorem Cx.Ok.wish(ok:X.Ok)(E:Value->Shared->Prop):(X.wish E).Ok:=
 ⟨ok.mod,ok.kind,ok.glob,ok.blt,ok.above,ok.inj,ok.has,ok.cab,ok.hd,ok.frames,ok.stk,ok.exf,ok.bs,ok.bsz,ok.noex,ok.exfs,ok.funs,ok.frf⟩
theorem Cx.Ok.unwish(ok:(X.wish E).Ok):X.Ok:=
 ⟨ok.mod,ok.kind,ok.glob,ok.blt,ok.above,ok.inj,ok.has,ok.cab,ok.hd,ok.frames,ok.stk,ok.exf,ok.bs,ok.bsz,ok.noex,ok.exfs,ok.funs,ok.frf⟩
theorem z9.wish(I:z9 X pins σ H s)(E:Value->Shared->Prop):z9 (X.wish E) pins σ H s:=⟨I.ok.wish E,I.os,I.bare,I.base,I.loc,I.cell,I.free,I.freeC,I.pin,I.hok,I.len,I.tk⟩
theorem z9.unwish(I:z9 (X.wish E) pins σ H s):z9 X pins σ H s:=⟨I.ok.unwish,I.os,I.bare,I.base,I.loc,I.cell,I.free,I.freeC,I.pin,I.hok,I.len,I.tk⟩
theorem SP.unwish{D:oX}{f:Flow}(h:SP (X.wish E) pins D f s'):SP X pins D f s':=by
 cases f with
 |next=>obtain⟨J,U,I,q⟩:=h;exact⟨J,U,I.unwish,q⟩
 |brk=>obtain⟨J,U,I,q⟩:=h;exact⟨J,U,I.unwish,q⟩
 |cont=>obtain⟨J,U,I,q⟩:=h;exact⟨J,U,I.unwish,q⟩
 |ret u=>obtain⟨v,J,U,I,r,q⟩:=h;exact⟨v,J,U,I.unwish,r,q⟩
theorem gH.nox{st:List Stmt}{t:TS}(h:gH X.nox st t):gH X st t:=λJ s U H D I hw=>
 AW (h J s U H D (I.wish _) hw) (λ_ _ q=>q.unwish) λ_ _ z=>False.elim z
section
variable {rest:List Stmt}{t u:TS}{te:TE}
def amg:TS:=λD σ H=>D.nx σ H
def ar6(t u:TS):TS:=λD σ H=>t { D with nx:=u D } σ H
theorem ae6:gH X [] amg:=λ_ _ J H _ I h=>wpAny_execs_nil ⟨J,H,I,h⟩
theorem qQ(h1:PS X st t)(h2:gH X rest u):gH X (st::rest) (ar6 t u):=by
 intro J s g H D I h;refine wpAny_execs_cons (aI (h1 J s g H { D with nx:=u D } I h) λf j q=>?_);cases f with
 |next=>
  obtain⟨U,l,o,q⟩:=q;exact h2 J j U l D o q
 |ret v=>exact q
 |brk=>exact q
 |cont=>exact q
theorem vJ(h1:PS X st t):gH X [st] t:=by intro J s U H D I h;refine wpAny_execs_cons (aI (h1 J s U H D I h) λf g q=>?_);cases f with|next=>exact wpAny_execs_nil q|ret v=>exact q|brk=>exact q|cont=>exact q
def am9:TS:=λD σ H=>D.ct σ H
theorem rR:PS X (.Continue pos) am9:=λ_ _ J H _ I h=>wpAny_Continue ⟨J,H,I,h⟩
theorem z9.quiet(I:z9 X pins σ H s):interactive X.env=false:=by simp[interactive,I.ok.kind]
def ano(te:TE):TS:=λD σ H=>te σ H λ_ H1=>D.nx σ H1
theorem vX(g:PE X e te)(hs:swapsWith e none pos.line X.env=pure false:=by rfl):PS X (.Expr e pos) (ano te):=by intro J s U H D I h;exact wpAny_Expr_any (aX (g J s U H _ I h) λv p x j l r o=>⟨U,j,l,o⟩) I.quiet hs
def asi(te:TE):TS:=λD σ H=>te σ H D.rt
theorem al2(g:PE X e te):PS X (.Return (some e) pos) (asi te):=by intro J s U H D I h;exact wpAny_Return_some (aX (g J s U H _ I h) λv r x j l o p=>⟨x,U,j,l,o,p⟩)
def aoa:TS:=λD _ H=>D.rt .non H
theorem aep:PS X (.Return none pos) aoa:=λ_ _ J H _ I h=>wpAny_Return_none ⟨.non,J,H,I,rfl,h⟩
def arh(c:TT)(t u:TS):TS:=λD σ H=>c σ H λb H1=>if b=true then t D σ H1 else u D σ H1
theorem an9{a b:List Stmt}(hc:PT X c tc)(p:gH X a t)(r:gH X b u):PS X (.If c a b pos) (arh tc t u):=by intro J s U H D I h;refine wpAny_If (aI (hc J s U H _ I h) λd g ⟨j,l,o⟩=>?_);cases d with|true=>exact p J g U j D l o|false=>exact r J g U j D l o
end
abbrev TG:=V->St->Hp->(St->Hp->Prop)->Prop
abbrev TGs:=List V->St->Hp->(St->Hp->Prop)->Prop
def PG(X:Cx)(target:Expr)(t:TG):Prop:=
 ∀(pins:List (Addr×Obj)) (s:Shared) (σ:St) (H:Hp) (v:V) (u:Value) (Q:St->Hp->Prop),z9 X pins σ H s->zx v u->t v σ H Q->
  wpAny (model X.prog X.w) X.A (assign target X.env u) (λ_ s'=>∃ir H',z9 X pins ir H' s'/\Q ir H') X.xe s
def PGs(X:Cx)(ts:List Expr)(t:TGs):Prop:=
 ∀(pins:List (Addr×Obj)) (s:Shared) (σ:St) (H:Hp) (vs:List V) (us:List Value) (Q:St->Hp->Prop),z9 X pins σ H s->zo vs us->t vs σ H Q->
  wpAny (model X.prog X.w) X.A (assignInOrder ((assignEach ts X.env).map (·.2)) us) (λ_ s'=>∃ir H',z9 X pins ir H' s'/\Q ir H') X.xe s
abbrev ajg:=V->V->V->Hp->(Hp->Prop)->Prop
def aog(X:Cx)(t:ajg):Prop:=
 ∀(pins:List (Addr×Obj)) (s:Shared) (σ:St) (H:Hp) (o i v:V) (J U u:Value) (Q:Hp->Prop),z9 X pins σ H s->zx o J->zx i U->zx v u->t o i v H Q->
  wpAny (model X.prog X.w) X.A (setItem J U u) (λ_ s'=>∃H',z9 X pins σ H' s'/\Q H') X.xe s
def dZ(i:Nat):TG:=λv σ H Q=>Q (σ.set i (some v)) H
theorem jN(U:X.N.Nodup)(hi:X.N[i]?=some x)(g:Loc X.env.scope x)(j:X.fn x=true\/X.env.scope.names.lookup x=some .local:=by first|exact .inl rfl|exact .inr rfl|assumption):PG X (.Name x pos) (dZ i):=by intro J s o H v u Q I r h;exact wpAny_assign_Name (gU I U hi g r (λp l=>⟨_,H,l,h⟩) j)
def aii:TGs:=λvs σ H Q=>vs=[]/\Q σ H
def rV(t:TG)(u:TGs):TGs:=λvs σ H Q=>∃v r,vs=v::r/\t v σ H λir H'=>u r ir H' Q
theorem vV:PGs X [] aii:=by intro J s U H g j Q I r h;obtain⟨e,h⟩:=h;subst e;cases r;exact assignInOrder_nil ⟨U,H,I,h⟩
theorem lE{t:TG}{u:TGs}(h1:PG X e t)(h2:PGs X es u)
 (hs:(assignEach (e::es) X.env).map (·.2)=assign e X.env::(assignEach es X.env).map (·.2):=by rfl):PGs X (e::es) (rV t u):=by
 intro J s g H T us Q I r h;obtain⟨v,vr,j,h⟩:=h;subst j;cases r with
 |cons r rr=>
  rw[hs];refine assignInOrder_cons (aI (h1 J s g H _ _ _ I r h) λ_ l ⟨U,o,p,C⟩=>?_);exact h2 J l U o _ _ Q p rr C
def ail(K:Af)(n:Nat)(t:TGs):TG:=λv σ H Q=>∃a xs,v=.ref a/\cD K H a xs/\xs.length=n/\t xs σ H Q
theorem acu{k:Nat}{t:TGs}(hc:X.calm=true)(h:PGs X es t)
 (l:(assignEach es X.env).length=n:=by rfl) (U:(assignEach es X.env).findIdx? (·.1)=none:=by rfl):PG X (.Tuple es k pos) (ail X.K n t):=by
 intro J s g H v u Q I r hw;obtain⟨a,p,C,T,hl,hw⟩:=hw;subst C;cases r;obtain⟨a1,j,ht,hz⟩:=I.tuple T;refine assign_Tuple_tuple (I.ok.hd hc) ht (by simp[l,<-hl,j.length]) U λh' hx=>?_;have I1:z9 X J g H { s with heap:=h' }:=I.kept (t':=s.toks) λb o e=>hx b o (A1 (ya e)) e;exact h J _ g H p _ Q I1 (by simpa using j) hw
def arj(to ti:TE)(t:ajg):TG:=λv σ H Q=>to σ H λo H1=>ti σ H1 λi H2=>t o i v H2 λJ=>Q σ J
theorem akq{i:Expr}{to ti:TE}{t:ajg}(l:PE X o to)(hi:PE X i ti)(hs:aog X t)
 (p:∀v,assign (.Subscript o i pos) X.env v=(do
  let U <-holding [v] (eval o X.env)
  let g <-holding [v,U] (eval i X.env)
  standAt pos
  holding [v,U,g] (setItem U g v)
  release [v,U,g] []):=by intro _;rfl):PG X (.Subscript o i pos) (arj to ti t):=by
 intro J s j H v u Q I r h;rw[p];refine Aa (A3 (aX (l J s j H _ I h) λU C x T I1 r1 q1=>?_));refine Aa (A3 (aX (hi J C j T _ I1 q1) λg s2 y H2 I2 r2 q2=>?_));refine Aa (wpAny_standAt (Aa (A3 (aI (hs J s2 j H2 x y v U g u _ I2 r1 r2 r q2) λ_ s3 ⟨H3,I3,q3⟩=>?_))));exact wpAny_release ⟨j,H3,I3,q3⟩
def aj6(te:TE)(g:TG):TS:=λD σ H=>te σ H λx H1=>g x σ H1 D.nx
theorem aao{te:TE}{g:TG}(j:PE X e te)(l:PG X tg g)(hs:swapsWithSole [tg] e pos.line X.env=pure false:=by rfl)(hw:swappedStores [tg] e X.env=pure none:=by rfl)
 (h1:(assignEach [tg] X.env).map (·.2)=[assign tg X.env]:=by rfl):PS X (.Assign [tg] e pos) (aj6 te g):=by
 intro J s U H D I h;refine wpAny_Assign_stores (aX (j J s U H _ I h) λv o x p r t C=>?_) hs hw;rw[h1];exact aI (l J o U p x v _ r t C) λ_ T q=>q
theorem aks{te:TE}(U:X.N.Nodup)(hi:X.N[i]?=some x)(g:Loc X.env.scope x)(j:PE X e te)(hs:swapsWith e (some (.Name x gf)) pos.line X.env=pure false:=by rfl)(l:X.fn x=true\/X.env.scope.names.lookup x=some .local:=by first|exact .inl rfl|exact .inr rfl|assumption):
 PS X (.Assign [.Name x gf] e pos) (aj6 te (dZ i)):=by
 intro J s o H D I h;refine wpAny_Assign_Name (aX (j J s o H _ I h) λv s1 y p r t C=>?_) hs;exact gU r U hi g t (λs2 T=>⟨_,p,T,C⟩) l
def aoy(i j:Nat)(ta:TA):TS:=λD σ H=>ta σ H λvs H1=>∃v w,vs=[v,w]/\D.nx ((σ.set i (some v)).set j (some w)) H1
theorem akc{y:Str}{a b:Expr}{ta:TA}{px py pt:Pos}{t k2 U}(hc:X.calm=true)(hN:X.N.Nodup)(hi:X.N[i]?=some x)(hj:X.N[j]?=some y)(C:i≠j)
 (hx:X.env.scope.names.lookup x=some .local) (hy:X.env.scope.names.lookup y=some .local) (ha:PA X [a,b] ta)
 (hw:swappedStores [.Tuple [.Name x px,.Name y py] t pt] (.Tuple [a,b] k2 U) X.env=pure (some [x,y]))
 (hs:swapsWithSole [.Tuple [.Name x px,.Name y py] t pt] (.Tuple [a,b] k2 U) pos.line X.env=pure false:=by rfl):
 PS X (.Assign [.Tuple [.Name x px,.Name y py] t pt] (.Tuple [a,b] k2 U) pos) (aoy i j ta):=by
 intro J s σ H D I h;rw[exec_Assign_arm];refine Aa (wpAny_standAt ?_);rw[hs];refine Aa (Ag ?_);rw[AE (by decide)];refine Aa (Tuple_ (yb (ha _ J s σ H _ I h) λus g vs H1 I1 r1 T=>?_));obtain⟨v,w,e1,T⟩:=T;subst e1;obtain⟨l,r,rfl,rv,a1⟩:∃l r,us=[l,r]/\zx v l/\zx w r:=by
  cases r1 with
  |cons p q=>
   cases q with
   |cons p' q'=>
    cases q';exact⟨_,_,rfl,p,p'⟩
 refine Bf ?_ (by show 2<=sizeLine;decide);have I2:z9 X J σ H1 { g with heap:=g.heap.push { cls:=.type "tuple",data:=.seq [l,r].toArray } }:=I1.kept (t':=g.toks) λb o e=>xT _ e;rw[hw];refine Aa (Ag ?_);show wpAny (model X.prog X.w) X.A (do rule "assign.swapped-stores";let items <-unpackItems (.ref g.heap.objs.size) 2 none;assignInOrder [λv=>bindName X.env y v,λv=>bindName X.env x v] items.reverse;pure Flow.next) _ _ _;refine Aa (BC (Aa (unpackItems_tuple (items:=#[l,r]) (I.ok.hd hc) (IsTup.new g.heap _) λh' a2=>?_)));have I3:=I2.kept (h':=h') (t':=g.toks) λb o e=>a2 b o (A1 (ya e)) e;show wpAny _ _ (assignInOrder [λv=>bindName X.env y v,λv=>bindName X.env x v] [r,l] >>= λ_=>pure Flow.next) _ _ _;refine Aa (assignInOrder_cons (wpAny_bindName (gU I3 hN hj (.inl hy) a1 (λs2 I4=>?_) (.inr hy))));refine assignInOrder_cons (wpAny_bindName (gU I4 hN hi (.inl hx) rv (λs3 I5=>assignInOrder_nil (Ag ?_)) (.inr hx)));rw[List.set_comm _ _ (AB C)] at I5;exact⟨_,H1,I5,T⟩
def ajv(c:TT)(tb:TS):TS:=λD σ H=>∃W:Nat->St->Hp->Prop,(∃m,W m σ H)/\∀m σ H,W m σ H->
 c σ H λb H1=>if b=true then ∃N:St->Hp->Prop,(∀ir H',N ir H'->∃J,J<m/\W J ir H')/\tb { D with nx:=N,ct:=N,bk:=D.nx } σ H1 else D.nx σ H1
theorem zU{tb:TS}(hp:PassesOwn (model X.prog X.w) X.A X.env X.xe)(hc:PT X c tc)(hb:gH X body tb):PS X (.While c body [] pos) (ajv tc tb):=by
 intro J s σ H D I h;obtain⟨W,⟨m0,w0⟩,turn⟩:=h;refine wpAny_While (codeAny_whileLoop (λn s'=>∃j H',z9 X J j H' s'/\W n j H') ?_ m0 ⟨σ,H,I,w0⟩);rintro n s1 ⟨g,H1,I1,w1⟩;refine wpAny_passesOwn hp (aI (hc J s1 g H1 _ I1 (turn n g H1 w1)) λb s2 ⟨H2,I2,o⟩=>?_);cases b with
 |true=>
  obtain⟨N,hN,o⟩:=o;rw[AD rfl];refine wpAny_passesOwn hp (aI (hb J s2 g H2 _ I2 o) λf s3 p=>?_);cases f with
  |next=>
   obtain⟨U,l,r,t⟩:=p;obtain⟨C,T,w3⟩:=hN U l t;exact⟨C,T,U,l,r,w3⟩
  |cont=>
   obtain⟨U,l,r,t⟩:=p;obtain⟨C,T,w3⟩:=hN U l t;exact⟨C,T,U,l,r,w3⟩
  |brk=>exact p
  |ret v=>exact p
 |false=>
  rw[AE AA];exact wpAny_execs_nil ⟨g,H2,I2,o⟩
structure It where
 go:Nat->Hp->Prop
 yld:Nat->Hp->V->Hp->Prop
 stop:Nat->Hp->Prop
def jJ(X:Cx)(pins:List (Addr×Obj))(H:Hp)(b:Addr):Prop:=
 H b=none/\b≠X.env.locals/\b∉X.fs/\(b∈X.ex\/X.s₀.heap.objs.size<=b)/\(∀x c,X.env.cells.lookup x=some c->c≠b)/\∀p∈X.pn++pins,p.1≠b
theorem z9.fpOk(I:z9 X pins σ H s)(J:s.heap.objs.size<=b)(U:H' b=none):jJ X pins H' b:=by
 refine⟨U,Cs (AM I.lt J),I.nofs J,.inr (AQ I.sz J),λx c e z=>?_,λp g z=>?_⟩
 ·obtain⟨v,q⟩:=I.cell x c e;exact absurd (AM q.lt (by rw[z];exact J)) (Cj _)
 ·exact absurd (AM (ya (I.pin p g).1) (by rw[z];exact J)) (Cj _)
structure uW(P:Program)(w:World)(K:Af)(tg:Expr)(J:It)(fp:List Addr)(it:Addr)(tn:Nat->Heap->Prop):Prop where
 mem:it∈fp
 obj:∀i h,tn i h->∀b∈fp,∃o,h.get? b=some o/\∀v,o.data≠.cell v
 keep:∀i h h',tn i h->(∀b∈fp,∀o,h.get? b=some o->h'.get? b=some o)->tn i h'
 item:∀(X:Cx),X.prog=P->X.w=w->X.K=K->X.calm=true->∀(i:Nat) (pins:List (Addr×Obj)) (s:Shared) (σ:St) (H:Hp) (E:Value->Shared->Prop),z9 X pins σ H s->(∀b∈fp,jJ X pins H b)->tn i s.heap->J.go i H->
  wpAny (model P w) X.A (pyNext (.ref it)) (λr s1=>∃u,r=some u/\
   wpAny (model P w) X.A (letOwnedTupleGo tg (.ref it) u) (λ_ s2=>∃x H',z9 X pins σ H' s2/\zx x u/\J.yld i H x H'/\tn (i+1) s2.heap/\∀b∈fp,H' b=none) E s1) E s
 done:∀(X:Cx),X.prog=P->X.w=w->X.K=K->X.calm=true->∀(i:Nat) (pins:List (Addr×Obj)) (s:Shared) (σ:St) (H:Hp) (E:Value->Shared->Prop),z9 X pins σ H s->(∀b∈fp,jJ X pins H b)->tn i s.heap->J.stop i H->
  wpAny (model P w) X.A (pyNext (.ref it)) (λr s1=>r=none/\z9 X pins σ H s1) E s
 self:∀(A:Around) (i:Nat) (s:Shared) (Q:Value->Shared->Prop) (E:Value->Shared->Prop),tn i s.heap->Q (.ref it) s->wpAny (model P w) A (pyIter (.ref it)) Q E s
abbrev TI:=St->Hp->(It->Hp->Prop)->Prop
def PIE(X:Cx)(pins:List (Addr×Obj))(σ:St)(tg:Expr)(R:It->Hp->Prop)(U:Value)(g:Shared):Prop:=
 ∃(it:Addr) (fp:List Addr) (j:Nat->Heap->Prop) (J:It) (H':Hp),U=.ref it/\z9 X pins σ H' g/\uW X.prog X.w X.K tg J fp it j/\j 0 g.heap/\(∀b∈fp,jJ X pins H' b)/\R J H'
def PI(X:Cx)(tg iter:Expr)(wi:TI):Prop:=
 ∀(pins:List (Addr×Obj)) (s:Shared) (σ:St) (H:Hp) (R:It->Hp->Prop),z9 X pins σ H s->wi σ H R->
  wpAny (model X.prog X.w) X.A (eval iter X.env) (λv J=>wpAny (model X.prog X.w) X.A (pyIter v) (PIE X pins σ tg R) X.xe J) X.xe s
theorem rH{o:Obj}{n:String}{vs:Array Value}{Q:Unit->Shared->Prop}(U:s.heap.get? it=some o)(hc:o.cls=.type n)(hd:o.data=.fields vs)
 (g:["enumerate","zip","dict_itemiterator","dict_reverseitemiterator","odict_iterator","itertools.zip_longest","itertools.pairwise"].contains n=false) (J:Q () s):wpAny M A (letOwnedTupleGo tg (.ref it) u) Q E s:=by
 unfold letOwnedTupleGo;cases tg<;>first
  |exact Ag J
  |(cases u<;>first
   |exact Ag J
   |(refine Aa (wpAny_load U ?_)
     rw[hc,hd];show wpAny M A (if (["enumerate","zip","dict_itemiterator","dict_reverseitemiterator","odict_iterator","itertools.zip_longest","itertools.pairwise"].contains n&&vs[0]?==some (rawInt _))=true then _ else _) Q E s;rw[AE (by intro h;rw[g,Bool.false_and] at h;cases h)];exact Ag J))
def Itl(K:Af)(a:Addr):It:=
 ⟨λi H=>∃xs x,aK K H a xs/\xs[i]?=some x,λi H x H'=>H'=H/\∀xs,aK K H a xs->xs[i]?=some x,λi H=>∃xs,aK K H a xs/\xs.length<=i⟩
def Itt(K:Af)(a:Addr):It:=
 ⟨λi H=>∃xs x,cD K H a xs/\xs[i]?=some x,λi H x H'=>H'=H/\∀xs,cD K H a xs->xs[i]?=some x,λi H=>∃xs,cD K H a xs/\xs.length<=i⟩
def Itr(lo:Int)(n:Nat):It:=⟨λi _=>i<n,λi H x H'=>H'=H/\x=.int (lo+i),λi _=>n<=i⟩
theorem xY{P:Program}{w:World}{K:Af}(a it:Addr):uW P w K tg (Itl K a) [it] it (λi h=>h.IsListIter it a i) where
 mem:=by simp
 obj:=λi h st b U=>by
  have e:b=it:=by simpa using U
  subst e;obtain⟨o,e,c,d⟩:=st;exact⟨o,e,λv z=>by rw[d] at z;cases z⟩
 keep:=λi h j st k=>st.at λo e=>k it (by simp) o e
 item:=by intro X t hw C hc i J s σ H E I l st T;subst t hw C;obtain⟨xs,x,r,hx⟩:=T;obtain⟨a1,rv,p,hz⟩:=I.list r;obtain⟨u,hu,ru⟩:=rv.get hx;obtain⟨f0,f1,f2,f3,f4,f5⟩:=l it (by simp);refine wpAny_pyNext_list_item st p.isList (x:=u) (by simpa using hu) λj g sb=>?_;have I1:z9 X J σ H { s with heap:=j }:=I.turned (t':=s.toks) (λb o U e=>(sb.2 b U).trans e) f0 f1 f3 f4 f5;obtain⟨o,e,c,d⟩:=id g;exact⟨u,rfl,rH (s:={ s with heap:=j }) e c d (by decide) ⟨x,H,I1,ru,⟨rfl,λys hy=>by rw[I.list_inj hy r];exact hx⟩,g,λb U=>(l b U).1⟩⟩
 done:=by intro X t hw C hc i J s σ H E I l st T;subst t hw C;obtain⟨xs,r,hx⟩:=T;obtain⟨a1,rv,p,hz⟩:=I.list r;obtain⟨f0,f1,f2,f3,f4,f5⟩:=l it (by simp);have hl:=rv.length;exact wpAny_pyNext_list_end (I.ok.hd hc) st p.isList (by simp;lia) λj eb=>⟨rfl,I.turned (t':=s.toks) (λb o U e=>eb b o U e) f0 f1 f3 f4 f5⟩
 self:=λ_ _ _ _ _ st h=>wpAny_pyIter_listiter st h
theorem uF{P:Program}{w:World}{K:Af}(a it:Addr):uW P w K tg (Itt K a) [it] it (λi h=>h.IsTupleIter it a i) where
 mem:=by simp
 obj:=λi h st b U=>by
  have e:b=it:=by simpa using U
  subst e;obtain⟨o,e,c,d⟩:=st;exact⟨o,e,λv z=>by rw[d] at z;cases z⟩
 keep:=λi h l st k=>st.at λo e=>k it (by simp) o e
 item:=by intro X C hw T hc i J s σ H E I r st hg;subst C hw T;obtain⟨xs,x,t,hx⟩:=hg;obtain⟨g,rv,p,hz⟩:=I.tuple t;obtain⟨u,hu,ru⟩:=rv.get hx;obtain⟨f0,f1,f2,f3,f4,f5⟩:=r it (by simp);refine wpAny_pyNext_tuple_item st (show s.heap.IsTuple a g.toArray from p) (x:=u) (by simpa using hu) λl j sb=>?_;have I1:z9 X J σ H { s with heap:=l }:=I.turned (t':=s.toks) (λb o U e=>(sb.2 b U).trans e) f0 f1 f3 f4 f5;obtain⟨o,e,c,d⟩:=id j;exact⟨u,rfl,rH (s:={ s with heap:=l }) e c d (by decide) ⟨x,H,I1,ru,⟨rfl,λys hy=>by rw[I.tuple_inj hy t];exact hx⟩,j,λb U=>(r b U).1⟩⟩
 done:=by intro X C hw T hc i J s σ H E I r st hg;subst C hw T;obtain⟨xs,t,hx⟩:=hg;obtain⟨g,rv,p,hz⟩:=I.tuple t;obtain⟨f0,f1,f2,f3,f4,f5⟩:=r it (by simp);have hl:=rv.length;exact wpAny_pyNext_tuple_end (I.ok.hd hc) st (show s.heap.IsTuple a g.toArray from p) (by simp;lia) λl eb=>⟨rfl,I.turned (t':=s.toks) (λb o U e=>eb b o U e) f0 f1 f3 f4 f5⟩
 self:=λ_ _ _ _ _ st h=>wpAny_pyIter_tupleiter st h
theorem uD{P:Program}{w:World}{K:Af}(it:Addr)(lo:Int)(n:Nat):uW P w K tg (Itr lo n) [it] it (λi h=>IsRangeIter h it (lo+(i:Nat)*1) ((n:Int)-(i:Nat)) 1) where
 mem:=by simp
 obj:=λi h st b U=>by
  have e:b=it:=by simpa using U
  subst e;exact⟨_,st,λv z=>by have z':Data.fields _=Data.cell v:=z;cases z'⟩
 keep:=λi h j st k=>k it (by simp) _ st
 item:=by intro X p hw r C i J s σ H E I l st T;subst p hw r;obtain⟨f0,f1,f2,f3,f4,f5⟩:=l it (by simp);have W:=Walks.range (prog:=X.prog) (w:=X.w) (I.ok.hd C) it lo 1 n;refine x0 I.tk (W.item i s _ _ T st λv j tk hv g kk ht=>?_);obtain⟨t,rfl⟩:=hv;have I1:z9 X J σ H { s with heap:=j,toks:=tk }:=I.turned (λb o U e=>kk b o (by simpa using U) e) f0 f1 f3 f4 f5;refine⟨_,rfl,rH (s:={ s with heap:=j,toks:=tk }) (n:="range_iterator") g rfl rfl (by decide) ⟨.int (lo+i),H,I1,⟨t,?_⟩,⟨rfl,rfl⟩,g,λb U=>(l b U).1⟩⟩;rw[Int.mul_one]
 done:=by intro X p hw r C i J s σ H E I l st T;subst p hw r;obtain⟨f0,f1,f2,f3,f4,f5⟩:=l it (by simp);exact wpAny_pyNext_range_end (I.ok.hd C) st (by have:n<=i:=T;lia) λj eb=>⟨rfl,I.turned (t':=s.toks) (λb o U e=>eb b o U e) f0 f1 f3 f4 f5⟩
 self:=λ_ _ _ _ _ st h=>wpAny_pyIter_rangeiter st h
end L2
variable {wi:L2.TI}
namespace L2
open PySem PySem.Spec PyProof.Rows
def amb(K:Af)(tl:TE):TI:=λσ H R=>tl σ H λx H1=>∃a,x=.ref a/\(∃xs,aK K H1 a xs)/\R (Itl K a) H1
def as8(K:Af)(tl:TE):TI:=λσ H R=>tl σ H λx H1=>∃a,x=.ref a/\(∃xs,cD K H1 a xs)/\R (Itt K a) H1
theorem age{l:Expr}{tl:TE}(j:PE X l tl):PI X tg l (amb X.K tl):=by
 intro J s r H R I h;refine aX (j J s r H _ I h) λv U x t g C T=>?_;obtain⟨a,e,⟨xs,hq⟩,q⟩:=T;subst e;cases C;obtain⟨a1,rv,p,hz⟩:=g.list hq;refine wpAny_pyIter_list p.isList ?_;refine⟨U.heap.objs.size,[U.heap.objs.size],_,_,t,rfl,g.kept (t':=U.toks) λb o e=>xT _ e,xY a _,⟨_,y1 _ rfl,rfl,rfl⟩,λb hb=>?_,q⟩;have e:b=U.heap.objs.size:=by simpa using hb
 subst e;exact g.fpOk (Al _) (g.hok.fresh (Al _))
theorem aki{l:Expr}{tl:TE}(r:PE X l tl):PI X tg l (as8 X.K tl):=by
 intro J s t H R I h;refine aX (r J s t H _ I h) λv U x C g T q1=>?_;obtain⟨a,e,⟨xs,hq⟩,q⟩:=q1;subst e;cases T;obtain⟨j,rv,p,hz⟩:=g.tuple hq;refine wpAny_pyIter_tuple (show U.heap.IsTuple a j.toArray from p) ?_;refine⟨U.heap.objs.size,[U.heap.objs.size],_,_,C,rfl,g.kept (t':=U.toks) λb o e=>xT _ e,uF a _,⟨_,y1 _ rfl,rfl,rfl⟩,λb hb=>?_,q⟩;have e:b=U.heap.objs.size:=by simpa using hb
 subst e;exact g.fpOk (Al _) (g.hok.fresh (Al _))
theorem ab6{R:It->Hp->Prop}{hi:Int}{t u v:Tok}{tk:Nat}(I:z9 X pins σ H s)(h1 : -(2 ^ 62)<=lo)(h2:lo<2 ^ 62)(h3 : -(2 ^ 62)<=hi)(U:hi<2 ^ 62)
 (q:R (Itr lo (hi-lo).toNat) H) (p:0<tk:=by walk_at "t"):wpAny (model X.prog X.w) X.A (pyIter (.ref s.heap.objs.size)) (PIE X pins σ tg R) E { s with heap:=s.heap.push { cls:=.type "range",data:=.fields #[.int lo t,.int hi u,.int 1 v] },toks:=tk }:=by
 refine wpAny_pyIter_range (IsRange.new ..) (small_one h1 h2 h3 U) ?_;have J:z9 X pins σ H { s with heap:=s.heap.push { cls:=.type "range",data:=.fields #[.int lo t,.int hi u,.int 1 v] },toks:=tk }:=I.kept λb o e=>xT _ e;refine⟨(s.heap.push { cls:=.type "range",data:=.fields #[.int lo t,.int hi u,.int 1 v] }).objs.size,[(s.heap.push { cls:=.type "range",data:=.fields #[.int lo t,.int hi u,.int 1 v] }).objs.size],_,_,H,rfl,
  J.kept (t':=tk) λb o e=>xT _ e,uD _ lo (hi-lo).toNat,?_,λb g=>?_,q⟩
 ·have j:lo+((0:Nat):Int)*1=lo:=by simp
  have l:(((hi-lo).toNat:Nat):Int)-((0:Nat):Int)=Builtin.Range.rangeSize lo hi 1:=by rw[rangeSize_one];split<;>lia
  show IsRangeIter _ _ (lo+((0:Nat):Int)*1) ((((hi-lo).toNat:Nat):Int)-((0:Nat):Int)) 1;rw[j,l];exact y1 _ rfl
 ·have e:b=(s.heap.push { cls:=.type "range",data:=.fields #[.int lo t,.int hi u,.int 1 v] }).objs.size:=by simpa using g
  subst e;exact J.fpOk (Al _) (J.hok.fresh (Al _))
def amr(ta:TA):TI:=λσ H R=>ta σ H λvs H1=>∃j:Int,vs=[.int j] /\ -(2 ^ 62)<=j/\j<2 ^ 62/\R (Itr 0 j.toNat) H1
theorem y7{a:Expr}{ta:TA}(g:Gl X "range")(l:X.mg "range"=none)(o:PA X [a] ta)(hs:starEach [a] X.env=[(false,eval a X.env)]:=by rfl):PI X tg (.Call (.Name "range" p) [a] [] pos) (amr ta):=by
 intro J s C H R I h;refine Call_ (az I g l boot_range (BO (yb (o pos J s C H _ I h) λus s1 vs H1 T r1 U=>?_) hs rfl));obtain⟨j,e,U,q2,q⟩:=U;subst e;cases r1 with
 |cons r rr=>
  cases rr;obtain⟨t,rfl⟩:=r;exact call_range_1 (ab6 T (by lia) (by lia) U q2 (by simpa using q))
def aq4(wi:TI)(g:TG)(tb:TS):TS:=λD σ H=>wi σ H λJ H1=>∃W:Nat->Nat->St->Hp->Prop,(∃m,W 0 m σ H1)/\∀i m σ H,W i m σ H->
 (J.stop i H/\D.nx σ H)\/(J.go i H/\∃N:St->Hp->Prop,(∀ir H',N ir H'->∃j,j<m/\W (i+1) j ir H')/\∀x H',J.yld i H x H'->g x σ H' λU H2=>tb { D with nx:=N,ct:=N,bk:=D.nx } U H2)
def lJ(fp:List Addr)(h:Heap):List (Addr×Obj):=fp.filterMap λb=>(h.get? b).map λo=>(b,o)
theorem cQ{o:Obj}(J:b∈fp)(e:h.get? b=some o):(b,o)∈lJ fp h:=Di.mpr ⟨b,J,by rw[e];rfl⟩
theorem yw{p:Addr×Obj}(J:p∈lJ fp h):p.1∈fp/\h.get? p.1=some p.2:=by
 obtain⟨b,U,e⟩:=Di.mp J;cases q:h.get? b with
 |none=>rw[q] at e;cases e
 |some o=>
  rw[q] at e;have g:(b,o)=p:=AV e;subst g;exact⟨U,q⟩
theorem z9.pinned(I:z9 X pins σ H s)(g:∀b∈fp,jJ X pins H b)(j:∀b∈fp,∃o,s.heap.get? b=some o/\∀v,o.data≠.cell v):z9 X (pins++lJ fp s.heap) σ H s:=
 I.pins_of λp l=>(Ar.mp l).elim (λz=>I.pin p (Ah _ z)) λz=>by obtain⟨J,e⟩:=yw z;obtain⟨r,f1,f2,_⟩:=g p.1 J;obtain⟨o,U,d⟩:=j p.1 J;rw[e] at U;cases U;exact⟨e,r,f1,f2,d⟩
theorem z9.unpinned{pl:List (Addr×Obj)}(I:z9 X (pins++pl) σ H s):z9 X pins σ H s:=I.pins_of λp J=>I.pin p (Ah _ (Aq _ J))
theorem ajf{iter:Expr}{g:TG}{tb:TS}(hp:PassesOwn (model X.prog X.w) X.A X.env X.xe)(hc:X.calm=true)(hi:PI X tg iter wi)(hg:PG X tg g)(l:gH X body tb)
 (hs:∀x,foldedSetIterable iter X.env x=pure x:=by intro _;rfl):PS X (.For tg iter body [] pos) (aq4 wi g tb):=by
 intro U s σ H D I h;refine wpAny_For (aI (hi U s σ H _ I h) λv s1 h1=>aI h1 λal s2 h2=>?_) hs;obtain⟨it,fp,tn,J,H2,e,I2,T,a3,f2,W,⟨m0,w0⟩,turn⟩:=h2;subst e;have p:∀{H':Hp},(∀b∈fp,H' b=none)->∀b∈fp,jJ X U H' b:=λhn b l=>⟨hn b l,(f2 b l).2⟩;refine codeAny_forLoop_any (λn s'=>∃i t H',z9 X U t H' s'/\tn i s'.heap/\(∀b∈fp,H' b=none)/\W i n t H') ?_ m0 ⟨0,σ,H2,I2,a3,λb l=>(f2 b l).1,w0⟩;rintro n s3 ⟨i,C,H3,I3,qM,a2,w3⟩;rcases turn i n C H3 w3 with⟨stop,qn⟩|⟨go,N,hN,step⟩
 ·refine wpAny_passesOwn hp (aI (T.done X rfl rfl rfl hc i U s3 C H3 X.xe I3 (p a2) qM stop) λr s4 ⟨hr,I4⟩=>?_);subst hr;exact wpAny_execs_nil ⟨C,H3,I4,qn⟩
 ·refine wpAny_passesOwn hp (aI (T.item X rfl rfl rfl hc i U s3 C H3 X.xe I3 (p a2) qM go) λr s4 ⟨u,hr,h4⟩=>?_);subst hr;refine wpAny_passesOwn hp (aI h4 λ_ s5 ⟨x,H5,I5,r5,y5,a1,a4⟩=>?_);have a5:=I5.pinned (p a4) (T.obj _ _ a1);refine wpAny_passesOwn hp (aI (hg _ s5 C H5 x u _ a5 r5 (step x H5 y5)) λ_ s6 ⟨ag,H6,I6,q6⟩=>?_);refine wpAny_passesOwn hp (aI (l _ s6 ag H6 _ I6 q6) λf s7 q7=>?_);have again:∀{j:St} {H7:Hp},z9 X (U++lJ fp s5.heap) j H7 s7->N j H7->∃m,m<n/\∃i t H',z9 X U t H' s7/\tn i s7.heap/\(∀b∈fp,H' b=none)/\W i m t H':=λ{j H7} I7 n7=>by obtain⟨m',hm,w7⟩:=hN j H7 n7;refine⟨m',hm,i+1,j,H7,I7.unpinned,T.keep _ _ _ a1 λb l o e=>(I7.pin (b,o) (Ah _ (Ah _ (cQ l e)))).1,λb l=>?_,w7⟩;obtain⟨o,e,d⟩:=T.obj _ _ a1 b l;exact(I7.pin (b,o) (Ah _ (Ah _ (cQ l e)))).2.1
  cases f with
  |next=>obtain⟨j,H7,I7,n7⟩:=q7;exact again I7 n7
  |cont=>obtain⟨j,H7,I7,n7⟩:=q7;exact again I7 n7
  |brk=>obtain⟨j,H7,I7,q7⟩:=q7;exact⟨j,H7,I7.unpinned,q7⟩
  |ret v=>obtain⟨x7,j,H7,I7,r7,q7⟩:=q7;exact⟨x7,j,H7,I7.unpinned,r7,q7⟩
abbrev R2:=V->V->Hp->VK->Prop
def vq(X:Cx)(f:Value->Value->Sem Value)(r:R2):Prop:=
 ∀(pins:List (Addr×Obj)) (s:Shared) (σ:St) (H:Hp) (x y:V) (v u:Value) (Q:VK),z9 X pins σ H s->zx x v->zx y u->r x y H Q->
  wpAny (model X.prog X.w) X.A (f v u) (EP X pins σ Q) X.xe s
def UnR(X:Cx)(f:Value->Sem Value)(r:V->Hp->VK->Prop):Prop:=
 ∀(pins:List (Addr×Obj)) (s:Shared) (σ:St) (H:Hp) (x:V) (v:Value) (Q:VK),z9 X pins σ H s->zx x v->r x H Q->
  wpAny (model X.prog X.w) X.A (f v) (EP X pins σ Q) X.xe s
def x4(X:Cx)(f:Value)(r:List V->Hp->VK->Prop):Prop:=
 ∀(pins:List (Addr×Obj)) (s:Shared) (σ:St) (H:Hp) (xs:List V) (us:List Value) (Q:VK),z9 X pins σ H s->zo xs us->r xs H Q->
  wpAny (model X.prog X.w) X.A (call f us) (EP X pins σ Q) X.xe s
def tOp(r:R2)(ta tb:TE):TE:=λσ H Q=>ta σ H λx H1=>tb σ H1 λy H2=>r x y H2 Q
def tUn(r:V->Hp->VK->Prop)(ta:TE):TE:=λσ H Q=>ta σ H λx H1=>r x H1 Q
def rI(C:Int->Int->Prop)(g:Int->Int->V):R2:=λx y H Q=>∃i j,x=.int i/\y=.int j/\C i j/\Q (g i j) H
def rI0(g:Int->Int->V):R2:=λx y H Q=>∃i j,x=.int i/\y=.int j/\Q (g i j) H
def rU(g:Int->V):V->Hp->VK->Prop:=λx H Q=>∃i,x=.int i/\Q (g i) H
section
variable {a b:Expr}{ta tb tc:TE}
theorem aim(j:PE X a ta)(l:PE X b tb){R:V->V->Hp->Prop}(I:z9 X pins σ H s)
 (h:ta σ H λx H1=>tb σ H1 λy H2=>R x y H2) {f:Value->Value->Sem Value}
 (o:∀v u g x y H2,z9 X pins σ H2 g->zx x v->zx y u->R x y H2->wpAny (model X.prog X.w) X.A (f v u) Q X.xe g):
 wpAny (model X.prog X.w) X.A (eval a X.env) (λv J=>wpAny (model X.prog X.w) X.A (eval b X.env) (λu U=>wpAny (model X.prog X.w) X.A (f v u) Q X.xe U) X.xe J) X.xe s:=by
 refine aX (j pins s σ H _ I h) λv p x H1 r t C=>?_;refine aX (l pins p σ H1 _ r C) λu g y H2 T r2 q2=>?_;exact o v u g x y H2 T t r2 q2
theorem ang{op:Operator}{r:R2}(U:vq X (binaryOp op) r)(g:PE X a ta)(j:PE X b tb):PE X (.BinOp a op b pos) (tOp r ta tb):=by intro J s l H Q I h;exact wpAny_BinOp (aim g j I h λv u o x y p t C T q=>U J o l p x y v u Q t C T q)
theorem aoj{op:UnaryOp}{r:V->Hp->VK->Prop}(g:UnR X (unaryOp op) r)(j:PE X a ta):PE X (.UnaryOp op a pos) (tUn r ta):=by intro J s U H Q I h;exact UnaryOp_ (aX (j J s U H _ I h) λv l x o p t C=>g J l U o x v Q p t C)
theorem opI{f:Value->Value->Sem Value}{C:Int->Int->Prop}{g:Int->Int->Int}
 (rule:∀(i j:Int) (t u:Tok) (s:Shared) (Q:Value->Shared->Prop) (E:Value->Shared->Prop),C i j->Q (.int (g i j) s.toks) { s with toks:=s.toks+1 }->wpAny (model X.prog X.w) X.A (f (.int i t) (.int j u)) Q E s):
 vq X f (rI C λi j=>.int (g i j)):=by
 intro J s r H x y v u Q I U l h;obtain⟨i,j,rfl,rfl,o,q⟩:=h;obtain⟨t,rfl⟩:=U;obtain⟨p,rfl⟩:=l;exact rule i j t p s _ _ o ⟨.int (g i j),H,I.tok _,⟨_,rfl⟩,q⟩
theorem am3{f:Value->Value->Sem Value}{g:Int->Int->Int}
 (rule:∀(i j:Int) (t u:Tok) (s:Shared) (Q:Value->Shared->Prop) (E:Value->Shared->Prop),Q (.int (g i j) s.toks) { s with toks:=s.toks+1 }->wpAny (model X.prog X.w) X.A (f (.int i t) (.int j u)) Q E s):
 vq X f (rI0 λi j=>.int (g i j)):=by
 intro J s p H x y v u Q I U l h;obtain⟨i,j,rfl,rfl,q⟩:=h;obtain⟨t,rfl⟩:=U;obtain⟨o,rfl⟩:=l;exact rule i j t o s _ _ ⟨.int (g i j),H,I.tok _,⟨_,rfl⟩,q⟩
theorem af7{f:Value->Value->Sem Value}{g:Int->Int->Bool}
 (rule:∀(i j:Int) (t u:Tok) (s:Shared) (Q:Value->Shared->Prop) (E:Value->Shared->Prop),Q (.bool (g i j)) s->wpAny (model X.prog X.w) X.A (f (.int i t) (.int j u)) Q E s):
 vq X f (rI0 λi j=>.bl (g i j)):=by
 intro J s p H x y v u Q I U l h;obtain⟨i,j,rfl,rfl,q⟩:=h;obtain⟨t,rfl⟩:=U;obtain⟨o,rfl⟩:=l;exact rule i j t o s _ _ ⟨.bl (g i j),H,I,rfl,q⟩
def akz(i j:Int):Prop:=0<j/\j<1073741824
def ak7(i j:Int):Prop:=0<=j/\j<=1000000/\i.natAbs<2 ^ 64
def abj(i j:Int):Prop:=(-(2 ^ 64)<i/\i<2 ^ 64)\/(-(2 ^ 64)<j/\j<2 ^ 64)
theorem abj.ok{i j:Int}(h:abj i j):IntMulOk i j:=by
 rcases h with⟨h1,h2⟩|⟨h1,h2⟩
 ·exact .of_left (intBits_le_64 h1 h2)
 ·exact .of_right (intBits_le_64 h1 h2)
theorem aif:vq X (binaryOp .Add) (rI0 λi j=>.int (i+j)):=am3 λ_ _ _ _ _ _ _ q=>add_int q
theorem ajc:vq X (binaryOp .Sub) (rI0 λi j=>.int (i-j)):=am3 λ_ _ _ _ _ _ _ q=>sub_int q
theorem akm:vq X (binaryOp .Mult) (rI abj λi j=>.int (i*j)):=opI λ_ _ _ _ _ _ _ J q=>mul_int q J.ok
theorem aha:vq X (binaryOp .FloorDiv) (rI akz λi j=>.int (i / j)):=opI λi j _ _ _ _ _ J q=>by have h1:(0:Int)<j:=J.1;have h2:j<1073741824:=J.2;exact floordiv_int (by lia) (by rw[Int.fdiv_eq_ediv_of_nonneg i (by lia)];exact q) (.inl (PyProof.noPylong_small (by lia)))
theorem ajj:vq X (binaryOp .Mod) (rI (λ_ j=>0<j) λi j=>.int (i % j)):=opI λi j _ _ _ _ _ J q=>by have h1:(0:Int)<j:=J;exact mod_int' (by lia) (by rw[Int.fmod_eq_emod_of_nonneg i (by lia)];exact q)
theorem ait:vq X (binaryOp .Pow) (rI ak7 λi j=>.int (i ^ j.toNat)):=opI λ_ _ _ _ _ _ _ J q=>pow_int_small J.1 J.2.1 J.2.2 q
theorem unI{f:Value->Sem Value}{g:Int->Int}
 (rule:∀(i:Int) (t:Tok) (s:Shared) (Q:Value->Shared->Prop) (E:Value->Shared->Prop),Q (.int (g i) s.toks) { s with toks:=s.toks+1 }->wpAny (model X.prog X.w) X.A (f (.int i t)) Q E s):
 UnR X f (rU λi=>.int (g i)):=by
 intro J s j H x v Q I U h;obtain⟨i,rfl,q⟩:=h;obtain⟨t,rfl⟩:=U;exact rule i t s _ _ ⟨.int (g i),H,I.tok _,⟨_,rfl⟩,q⟩
theorem akd:UnR X (unaryOp .USub) (rU λi=>.int (-i)):=unI λ_ _ _ _ _ q=>neg_int q
end
def aeb:V->V->Bool
 |.non,.non=>true|.non,.int _=>true|.int _,.non=>true|.non,.bl _=>true|.bl _,.non=>true|.non,.str _=>true|.str _,.non=>true
 |.int _,.int _=>true|.bl _,.bl _=>true|.str _,.str _=>true|.byt _,.byt _=>true
 |.int _,.str _=>true|.str _,.int _=>true|.bl _,.str _=>true|.str _,.bl _=>true
 |_,_=>false
def rEq:R2:=λx y H Q=>aeb x y=true/\Q (.bl (decide (x=y))) H
def rNe:R2:=λx y H Q=>aeb x y=true/\Q (.bl (!decide (x=y))) H
theorem uv{i j:Int}:decide (V.int i=V.int j)=(i==j):=by rw[Bg];simp
theorem zX{i j:Bool}:decide (V.bl i=V.bl j)=(i==j):=by rw[Bg];simp
theorem wM{i j:Str}:decide (V.str i=V.str j)=(i==j):=by rw[Bg];simp
theorem vI{i j:Array UInt8}:decide (V.byt i=V.byt j)=(i.toList==j.toList):=by rw[Bg];cases i;cases j;simp
section
variable {a b:Expr}{ta tb tc:TE}
theorem jn{Q:VK}{k J:Bool}(I:z9 X pins σ H s)(q:Q (.bl k) H)(e:k=J):EP X pins σ Q (.bool J) s:=by subst e;exact⟨.bl k,H,I,rfl,q⟩
theorem ai2:vq X (compareOp .Eq) rEq:=by
 intro o s p H x y v u Q I l J h;obtain⟨g,q⟩:=h;cases x with
 |non=>
  cases l;cases y with
  |non=>cases J;exact PySem.EqNone.eq_none_none (jn I q (by simp))
  |bl j=>cases J;exact PySem.EqNone.eq_none_bool (jn I q (by simp))
  |int j=>obtain⟨U,rfl⟩:=J;exact PySem.EqNone.eq_none_int (jn I q (by simp))
  |str j=>obtain⟨U,rfl⟩:=J;exact PySem.EqNone.eq_none_str (jn I q (by simp))
  |_=>exact absurd (show false=true from g) AA
 |bl i=>
  cases l;cases y with
  |non=>cases J;exact PySem.EqNone.eq_bool_none (jn I q (by simp))
  |bl j=>cases J;exact eq_bool (jn I q zX)
  |str j=>obtain⟨U,rfl⟩:=J;exact PySem.EqMixed.eq_bool_str (jn I q (by simp))
  |_=>exact absurd (show false=true from g) AA
 |int i=>
  obtain⟨t,rfl⟩:=l;cases y with
  |non=>cases J;exact PySem.EqNone.eq_int_none (jn I q (by simp))
  |int j=>obtain⟨U,rfl⟩:=J;exact eq_int (jn I q uv)
  |str j=>obtain⟨U,rfl⟩:=J;exact PySem.EqMixed.eq_int_str (jn I q (by simp))
  |_=>exact absurd (show false=true from g) AA
 |str i=>
  obtain⟨t,rfl⟩:=l;cases y with
  |non=>cases J;exact PySem.EqNone.eq_str_none (jn I q (by simp))
  |bl j=>cases J;exact PySem.EqMixed.eq_str_bool (jn I q (by simp))
  |int j=>obtain⟨U,rfl⟩:=J;exact PySem.EqMixed.eq_str_int (jn I q (by simp))
  |str j=>obtain⟨U,rfl⟩:=J;exact eq_str (jn I q wM)
  |_=>exact absurd (show false=true from g) AA
 |byt i=>
  obtain⟨t,rfl⟩:=l;cases y with
  |byt j=>obtain⟨U,rfl⟩:=J;exact PySem.W.eq_bytes (jn I q vI)
  |_=>exact absurd (show false=true from g) AA
 |_=>cases y<;>exact absurd (show false=true from g) AA
theorem ahp:vq X (compareOp .NotEq) rNe:=by
 intro o s p H x y v u Q I l J h;obtain⟨g,q⟩:=h;cases x with
 |non=>
  cases l;cases y with
  |non=>cases J;exact PySem.EqNone.ne_none_none (jn I q (by simp))
  |bl j=>cases J;exact PySem.EqNone.ne_none_bool (jn I q (by simp))
  |int j=>obtain⟨U,rfl⟩:=J;exact PySem.EqNone.ne_none_int (jn I q (by simp))
  |str j=>obtain⟨U,rfl⟩:=J;exact PySem.EqNone.ne_none_str (jn I q (by simp))
  |_=>exact absurd (show false=true from g) AA
 |bl i=>
  cases l;cases y with
  |non=>cases J;exact PySem.EqNone.ne_bool_none (jn I q (by simp))
  |bl j=>cases J;exact ne_bool (jn I q (Bb not zX))
  |str j=>obtain⟨U,rfl⟩:=J;exact PySem.EqMixed.ne_bool_str (jn I q (by simp))
  |_=>exact absurd (show false=true from g) AA
 |int i=>
  obtain⟨t,rfl⟩:=l;cases y with
  |non=>cases J;exact PySem.EqNone.ne_int_none (jn I q (by simp))
  |int j=>obtain⟨U,rfl⟩:=J;exact ne_int (jn I q (Bb not uv))
  |str j=>obtain⟨U,rfl⟩:=J;exact PySem.EqMixed.ne_int_str (jn I q (by simp))
  |_=>exact absurd (show false=true from g) AA
 |str i=>
  obtain⟨t,rfl⟩:=l;cases y with
  |non=>cases J;exact PySem.EqNone.ne_str_none (jn I q (by simp))
  |bl j=>cases J;exact PySem.EqMixed.ne_str_bool (jn I q (by simp))
  |int j=>obtain⟨U,rfl⟩:=J;exact PySem.EqMixed.ne_str_int (jn I q (by simp))
  |str j=>obtain⟨U,rfl⟩:=J;exact ne_str (jn I q (Bb not wM))
  |_=>exact absurd (show false=true from g) AA
 |byt i=>
  obtain⟨t,rfl⟩:=l;cases y with
  |byt j=>obtain⟨U,rfl⟩:=J;exact PySem.W.ne_bytes (jn I q (Bb not vI))
  |_=>exact absurd (show false=true from g) AA
 |_=>cases y<;>exact absurd (show false=true from g) AA
theorem ane:vq X (compareOp .Lt) (rI0 λi j=>.bl (decide (i<j))):=af7 λ_ _ _ _ _ _ _ q=>lt_int q
theorem amm:vq X (compareOp .LtE) (rI0 λi j=>.bl (decide (i<=j))):=af7 λ_ _ _ _ _ _ _ q=>le_int q
theorem ank:vq X (compareOp .Gt) (rI0 λi j=>.bl (decide (j<i))):=af7 λ_ _ _ _ _ _ _ q=>gt_int q
theorem aly:vq X (compareOp .GtE) (rI0 λi j=>.bl (decide (j<=i))):=af7 λ_ _ _ _ _ _ _ q=>ge_int q
theorem w5(b:Expr){op:CmpOp}(h:op≠.In:=by decide)(h2:op≠.NotIn:=by decide):behindInMarks op b=false:=by
 have J:(op==CmpOp.In)=false:=by cases op<;>first|rfl|exact absurd rfl h
 have U:(op==CmpOp.NotIn)=false:=by cases op<;>first|rfl|exact absurd rfl h2
 cases b<;>simp[behindInMarks,J,U]
theorem ah9{op:CmpOp}{r:R2}(U:vq X (compareOp op) r)(g:PE X a ta)(j:PE X b tb)(l:behindInMarks op b=false):PE X (.Compare a [op] [b] pos) (tOp r ta tb):=by intro J s o H Q I h;exact wpAny_Compare1 (aim g j I h λv u p x y t C T ry q=>U J p o t x y v u Q C T ry q) l
def ab3(t:TE):TT:=λσ H Q=>t σ H λx H'=>∃k,x=.bl k/\Q k H'
theorem ag8{op:CmpOp}{r:R2}(g:vq X (compareOp op) r)(j:PE X a ta)(l:PE X b tb)(o:behindInMarks op b=false):PT X (.Compare a [op] [b] pos) (ab3 (tOp r ta tb)):=by
 intro J s U H Q I h;refine wpAny_isTrue_Compare1 (aX (j J s U H _ I h) λv p x t C T q1=>aX (l J p U t _ C q1) λu s2 y H2 I2 r2 q2=>
  aI (g J s2 U H2 x y v u _ I2 T r2 q2) λc s3 ⟨z,H3,I3,r3,k,e,q3⟩=>?_) o
 subst e;cases r3;exact wpAny_truthy_bool ⟨H3,I3,q3⟩
theorem iC:(sizeLine:Nat)<2 ^ 63:=by rw[sizeLine_eq];decide
theorem tX:vq X (binaryOp .Add) (λx y H Q=>∃i j,x=.str i/\y=.str j/\i.length+j.length<=sizeLine/\Q (.str (i++j)) H):=by intro J s p H x y v u Q I U g h;obtain⟨i,j,rfl,rfl,l,q⟩:=h;obtain⟨t,rfl⟩:=U;obtain⟨o,rfl⟩:=g;exact x0 I.tk (add_str (λo tk r=>⟨.str (i++j),H,I.tok _,⟨_,rfl⟩,q⟩) l)
theorem i3{x:V}(r:zo [x] us):∃u,us=[u]/\zx x u:=by cases r with|cons J U=>cases U;exact⟨_,rfl,J⟩
theorem ahv{x y:V}(r:zo [x,y] us):∃u J,us=[u,J]/\zx x u/\zx y J:=by
 cases r with
 |cons U g=>
  cases g with|cons j l=>cases l;exact⟨_,_,rfl,U,j⟩
theorem xB(hc:X.calm=true):x4 X (.builtin "max") (λxs H Q=>∃i j,xs=[.int i,.int j]/\Q (.int (if j > i then j else i)) H):=by
 intro U s g H xs l Q I r h;obtain⟨i,j,rfl,q⟩:=h;obtain⟨u,o,rfl,⟨t,rfl⟩,⟨p,rfl⟩⟩:=ahv r;refine x0 I.tk (max_two_ints (I.ok.hd hc) λC tk k T=>⟨_,H,I.kept k,?_,q⟩);by_cases J:j > i
 ·rw[AD J,AD J];exact⟨_,rfl⟩
 ·rw[AE J,AE J];exact⟨_,rfl⟩
theorem yQ(hc:X.calm=true):x4 X (.builtin "min") (λxs H Q=>∃i j,xs=[.int i,.int j]/\Q (.int (if j<i then j else i)) H):=by
 intro U s g H xs l Q I r h;obtain⟨i,j,rfl,q⟩:=h;obtain⟨u,o,rfl,⟨t,rfl⟩,⟨p,rfl⟩⟩:=ahv r;refine x0 I.tk (min_two_ints (I.ok.hd hc) λC tk k T=>⟨_,H,I.kept k,?_,q⟩);by_cases J:j<i
 ·rw[AD J,AD J];exact⟨_,rfl⟩
 ·rw[AE J,AE J];exact⟨_,rfl⟩
end
structure alc(h:Heap)(x dx C:Addr)(mA:Str->Option Value):Prop where
 obj:h.get? x=some (PySem.W.instObj C dx)
 ns:h.Ns1 dx mA
 ne:dx≠x
theorem yV(n:h.Ns1 dx mA):∃od,h.get? dx=some od/\∀name,PySem.W.lookIn name od=some (mA name):=by
 obtain⟨o,U,C,g,hd,j,_,l⟩:=n;refine⟨o,g,λname=>?_⟩;have e:=l name;unfold nsFind findBy at e;rw[<-Array.find?_toList] at e;unfold PySem.W.lookIn;rw[hd];dsimp only;split
 ·rename_i y q;rw[q] at e;exact Bb some e
 ·rename_i q;rw[q] at e;have a:U.toList.any (·.refKey)=false:=by rw[List.any_eq_false];intro y p;obtain⟨z,t,J⟩:=j y (Array.mem_toList_iff.mp p);simp[DictEntry.refKey,J]
  have r:¬U.toList.any (·.refKey)=true:=by rw[a];exact AA
  rw[AE r];exact Bb some e
theorem alc.look{x:Addr}(I:alc h x dx C mA):∃od,PySem.W.InstAt h x (PySem.W.instObj C dx) C (some od)/\∀name,PySem.W.lookIn name od=some (mA name):=
 let ⟨od,J,U⟩:=yV I.ns
 ⟨od,⟨I.obj,rfl,rfl,J⟩,U⟩
section
variable {w:World}{K:Af}{x:Addr}{v:Value}
end
theorem hJ.some_of{o:Option Value}(r:hJ (some v) o):∃u,o=some u/\zx v u:=by cases o with|none=>exact(show False from r).elim|some u=>exact⟨u,rfl,r⟩
abbrev EK:=@hJ.some_of
section
variable {P:Program}{w:World}{fs fs':List (Str×V)}
theorem ags(hok:dF P w H h)(e:H a=some (.ins C dx fs)):∃mA,alc h a dx C mA/\(∀f,hJ (fs.lookup f) (mA f))/\PySem.Within mA (fs.map (·.1))/\fs.length<=1000/\H dx=some (.own a):=by obtain⟨d,z,ne,ob,mA,n,r,q⟩:=(show xo P w H h a (.ins C dx fs) from hok a _ e);exact⟨mA,⟨ob,n,ne⟩,r,q,z,d⟩
end
structure Cls(K:Af)(C:Addr):Prop where
 pg:PySem.W.plainGet K C Str.empty=true
 hd:PySem.W.hasDictIn K C=true
 po:PySem.W.plainOver K C=true
 sa:PySem.W.findIn K (.ref C) "__setattr__"=some (some (.builtin "object.__setattr__"))
theorem Cls.get{K:Af}(c:Cls K C)(f:Str):PySem.W.plainGet K C f=true:=c.pg
section
variable {fs:List (Str×V)}{f:Str}
end
section
variable {f:Str}{tpos:Pos}{ta tv:TE}
end
section
variable {c:Value}{b:Bool}
inductive jF(K:Af)(H:Hp):V->Value->Prop where
 |non:jF K H .non (.type "NoneType")
 |bl (x:Bool):jF K H (.bl x) (.type "bool")
 |int (i:Int):jF K H (.int i) (.type "int")
 |str (x:Str):jF K H (.str x) (.type "str")
 |flt (x:UInt64):jF K H (.flt x) (.type "float")
 |lst {a:Addr} {xs:List V} (e:H a=some (.lst xs)):jF K H (.ref a) (.type "list")
 |frz {a:Addr} {o:Obj} {xs:List V} (e:H a=some (.frz o (.lst xs))):jF K H (.ref a) (.type "list")
 |tup {a:Addr} {xs:List V} (e:H a=some (.tup xs)):jF K H (.ref a) (.type "tuple")
 |dK {a:Addr} {kvs:List (jg×V)} (e:H a=some (.dK kvs)):jF K H (.ref a) (.type "dict")
 |dT {a:Addr} {kvs:List (List jg×V)} (e:H a=some (.dT kvs)):jF K H (.ref a) (.type "dict")
 |ins {a C dx:Addr} {fs:List (Str×V)} (e:H a=some (.ins C dx fs)) (cl:Cls K C) (ha:PySem.W.findIn K (.ref C) "__class__"=some (some (.builtin "object.__class__")))
  (hn:PySem.W.specialIn K (.builtin "object.__class__") "__get__"=some (some (.builtin "getset_descriptor.__get__"))) (htk:PySem.W.takesIn K (.builtin "object.__class__")=some true)
  (hm:PySem.W.mroIn K C (.type "object")=some true):jF K H (.ref a) (.ref C)
theorem af{x:V}{t:Value}(I:z9 X pins σ H s)(U:zx x u)(ty:jF X.K H x t)(e:PySem.W.kitOne X.K t c=some b)(h:∀tk,Q (.bool b) { s with toks:=tk }):
 wpAny (model X.prog X.w) A (call (.builtin "isinstance") [u,c]) Q E s:=by
 cases ty with
 |non=>cases (show u=Value.none from U);exact Bl PySem.W.kitx_none I.kIn True.intro e (λz=>nomatch z) h
 |bl y=>cases (show u=Value.bool y from U);exact Bl PySem.W.kitx_bool I.kIn True.intro e (λz=>nomatch z) h
 |int i=>obtain⟨t,q⟩:=(show ∃t,u=Value.int i t from U);cases q;exact Bl PySem.W.kitx_int I.kIn True.intro e (λz=>nomatch z) h
 |str y=>obtain⟨t,q⟩:=(show ∃t,u=Value.str y t from U);cases q;exact Bl PySem.W.kitx_str I.kIn True.intro e (λz=>nomatch z) h
 |flt y=>obtain⟨t,q⟩:=(show ∃t,u=Value.float y t from U);cases q;exact Bl PySem.W.kitx_float I.kIn True.intro e (λz=>nomatch z) h
 |@lst a l g=>
  cases (show u=Value.ref a from U);obtain⟨_,_,n,_,h1⟩:=(show xo X.prog X.w H s.heap a (.lst l) from I.hok a _ g);exact Bl Ds I.kIn ⟨_,h1,rfl⟩ e (λz=>nomatch z) h
 |@frz a ob l g=>
  cases (show u=Value.ref a from U);obtain⟨_,_,_,n,_,h1⟩:=(show xo X.prog X.w H s.heap a (.frz ob (.lst l)) from I.hok a _ g);exact Bl Ds I.kIn ⟨_,h1,rfl⟩ e (λz=>nomatch z) h
 |@tup a l g=>
  cases (show u=Value.ref a from U);obtain⟨_,_,_,p⟩:=(show xo X.prog X.w H s.heap a (.tup l) from I.hok a _ g);obtain⟨o,h1,h2,_⟩:=p;exact Bl PySem.W.kitx_tuple I.kIn ⟨o,h1,h2⟩ e (λz=>nomatch z) h
 |@dK a j g=>
  cases (show u=Value.ref a from U);obtain⟨_,_,vs,_,p⟩:=(show xo X.prog X.w H s.heap a (.dK j) from I.hok a _ g);obtain⟨o,es,ep,h1,h2,_⟩:=p;exact Bl PySem.W.kitx_dict I.kIn ⟨o,h1,h2.1⟩ e (λz=>nomatch z) h
 |@dT a j g=>
  cases (show u=Value.ref a from U);obtain⟨_,_,l,_,o,es,ep,h1,h2,_⟩:=(show xo X.prog X.w H s.heap a (.dT j) from I.hok a _ g);exact Bl PySem.W.kitx_dict I.kIn ⟨o,h1,h2.1⟩ e (λz=>nomatch z) h
 |@ins a C dx fs g T ha hn r hm=>
  cases (show u=Value.ref a from U);obtain⟨mA,O,_⟩:=ags I.hok g;obtain⟨od,J,_⟩:=O.look;exact Bl (PySem.W.kitx_own (T.get _) T.hd ha hn r hm) I.kIn J e (λz=>nomatch z) h
end
structure wb(k:Nat)(A:Around):Prop where
 hd:A.handled=none
 dp:A.depth+3*k+5<recursionLimit
 un:A.units+16*k+200<cLine
theorem wb.mono{k:Nat}(r:wb k A)(h:j<=k):wb j A:=⟨r.hd,by have:=r.dp;lia,by have:=r.un;lia⟩
theorem wb.deeper{k:Nat}(r:wb (k+1) A)(env:Env):wb k (A.deeper env):=
 ⟨r.hd,by have:=r.dp;show A.depth+1+3*k+5<_;lia,by have:=r.un;show A.units+3+16*k+200<_;lia⟩
theorem wb.depth{k:Nat}(r:wb k A):A.depth<recursionLimit:=by have:=r.dp;lia
def asn:TA:=λ_ H Q=>Q [] H
def amh(ta:TE)(tr:TA):TA:=λσ H Q=>ta σ H λx H1=>tr σ H1 λxs H2=>Q (x::xs) H2
section
variable {te:TE}{t:TA}
theorem iF:PA X [] asn:=λ_ _ _ _ H Q I h=>Ek ⟨[],H,I,.nil,h⟩
abbrev Eb(e:Expr)(es:List Expr)(X:Cx):Prop:=starEach (e::es) X.env=(false,eval e X.env)::starEach es X.env
theorem ck(g:PE X e te)(j:PA X es t)(hs:Eb e es X:=by rfl):PA X (e::es) (amh te t):=by intro pos J s U H Q I h;rw[hs];show wpAny _ _ (spliced ((false,eval e X.env)::backTo pos (starEach es X.env))) _ _ s;refine Ef (aX (g J s U H _ I h) λu l x o p r C=>?_);exact yb (j pos J l U o _ p C) λus s2 T H2 I2 r2 q2=>⟨x::T,H2,I2,.cons r r2,q2⟩
def as6(t:TA):TE:=λσ H Q=>t σ H λxs H1=>xs.length<=sizeLine/\∀p,H1 p=none->Q (.ref p) (upd H1 p (.tup xs))
def asr(t:TA):TE:=λσ H Q=>t σ H λxs H1=>xs.length<=sizeLine/\∀p,H1 p=none->Q (.ref p) (upd H1 p (.lst xs))
theorem aiw{x1}(h:PA X es t):PE X (.Tuple es x1 pos) (as6 t):=by intro J s l H Q I o;refine wpAny_Tuple_spliced (aI (h pos J s l H _ I o) λp U ⟨C,g,j,r,z,q⟩=>⟨by rw[<-r.length];exact z,?_⟩);have T:g U.heap.objs.size=none:=j.hok.fresh (Al _);refine⟨.ref U.heap.objs.size,upd g U.heap.objs.size (.tup C),j.laid (t':=U.toks) (λb u e=>xT _ e) (Al _) ?_,rfl,q _ T⟩;exact⟨z,p,r,⟨_,y1 _ rfl,rfl,_,rfl⟩⟩
theorem aam(h:PA X es t):PE X (.List es pos) (asr t):=by intro J s l H Q I o;refine wpAny_List_spliced (aI (h pos J s l H _ I o) λp U ⟨C,g,j,r,z,q⟩=>⟨by rw[<-r.length];exact z,?_⟩);have T:g U.heap.objs.size=none:=j.hok.fresh (Al _);refine⟨.ref U.heap.objs.size,upd g U.heap.objs.size (.lst C),j.laid (t':=U.toks) (λb u e=>xT _ e) (Al _) ?_,rfl,q _ T⟩;exact⟨z,p,0,r,y1 _ rfl⟩
end
abbrev Sp:=List V->Hp->VK->XK->Prop
abbrev vU:=List Env->Hp->Shared->XK->Value->Shared->Prop
structure aej(P:Program)(w:World)(K:Af)(mg:Str->Option Value)(base:Heap)(A:Around)(outer:List Env)(s:Shared)(H:Hp):Prop where
 frames:A.frames=some outer
 mod:Mod K mg base
 bs:∀b o,base.get? b=some o->s.heap.get? b=some o/\H b=none
 bsz:base.objs.size<=s.heap.objs.size
 funs:s.heap.FunFrames base outer
 frf:∀b∈bH outer,H b=none
 hok:dF P w H s.heap
 bare:AllBare s.gens
 tk:0<s.toks
def CE(outer:List Env)(P:Program)(w:World)(H:Hp)(s:Shared)(Q:VK)(u:Value)(s':Shared):Prop:=
 ∃v H',s'.os=s.os/\AllBare s'.gens/\Un (bH outer) [] H H' s.heap s'.heap/\dF P w H' s'.heap/\zx v u/\Q v H'/\0<s'.toks
def CR(CX:vU)(outer:List Env)(P:Program)(w:World)(H:Hp)(s:Shared)(Q:VK)(E:XK)(r:Result)(s':Shared):Prop:=
 match r with
 |.ok (.ret u)=>CE outer P w H s Q u s'
 |.ok _=>False
 |.error e=>CX outer H s E e s'
structure ar(P:Program)(w:World)(K:Af)(mg:Str->Option Value)(base:Heap)(CX:vU)(k:Nat)(f:Addr)(fd:FuncData)(ps:List Str)(sp:Sp):Prop where
 len:∀vs H Q E,sp vs H Q E->vs.length=ps.length
 run:∀(A:Around) (outer:List Env) (s:Shared) (H:Hp) (args:Args) (us:List Value) (vs:List V) (Q:VK) (E:XK),wb k A->aej P w K mg base A outer s H->BindsTo s fd args (ps.zip us)->zo vs us->sp vs H Q E->
  codeAny (model P w) A (.call (.ref f) args) (CR CX outer P w H s Q E) s
theorem ar.mono{P:Program}{w:World}{K:Af}{CX:vU}{k:Nat}{sp:Sp}(F:ar P w K mg base CX j f fd ps sp)(h:j<=k):
 ar P w K mg base CX k f fd ps sp:=⟨F.len,λA J s H args U g Q E l=>F.run A J s H args U g Q E (l.mono h)⟩
theorem ar.imp{P:Program}{w:World}{K:Af}{CX:vU}{k:Nat}{sp U:Sp}(F:ar P w K mg base CX k f fd ps sp)
 (h:∀vs H Q E,U vs H Q E->sp vs H Q E):ar P w K mg base CX k f fd ps U:=
 ⟨λvs H Q E q=>F.len vs H Q E (h _ _ _ _ q),λA J s H args g vs Q E j l o p r=>F.run A J s H args g vs Q E j l o p (h _ _ _ _ r)⟩
theorem z9.env0(I:z9 X pins σ H s):aej X.prog X.w X.K X.mg X.base X.A X.stack s H:=
 ⟨I.ok.frames,I.ok.mod,I.bs,AQ I.ok.bsz I.sz,I.stack,I.stkFree,I.hok,I.bare,I.tk⟩
theorem z9.after{Q:VK}(I:z9 X pins σ H s)(h:CE X.stack X.prog X.w H s Q u s'):EP X pins σ Q u s':=by obtain⟨v,j,os,bare,un,J,r,q,o⟩:=h;obtain⟨l,g,d,t,U⟩:=s';obtain rfl:U=s.os:=os;exact⟨v,j,I.call (h':=l) (g':=g) (d':=d) (t':=t) (ch:=[]) un J bare (λb z=>absurd z (by simp)),r,q⟩
def ai5(sp:Sp)(sy:List V)(E:XK)(t:TA):TE:=λσ H Q=>t σ H λvs H1=>sp (vs++sy) H1 Q E
def cz(K:Af)(fd:FuncData)(ps:List Str)(ds:List Value):Prop:=
 ∀(s:Shared) (us:List Value),K.In s.heap->(us++ds).length=ps.length->BindsTo s fd ⟨us,[]⟩ (ps.zip (us++ds))
theorem cz.all{K:Af}(h:∀us:List Value,us.length=ps.length->bindArgs fd ⟨us,[]⟩=pure (ps.zip us)):cz K fd ps []:=λs us _ J=>by rw[AI] at J ⊢;exact .of_eq (h us J)
def uT(CX:vU)(X:Cx)(E:XK):Prop:=∀(pins:List (Addr×Obj)) (σ:St) (H:Hp) (s:Shared) (e:Value) (s':Shared),z9 X pins σ H s->CX X.stack H s E e s'->X.xe e s'
section
variable {CX:vU}{k:Nat}{sp:Sp}{sy:List V}{ds:List Value}{E:XK}{m:Str}{ta:TE}{t:TA}
theorem alh{Q:VK}(F:ar X.prog X.w X.K X.mg X.base CX k f fd ps sp)(g:wb k X.A)(j:cz X.K fd ps ds)(hd:zo sy ds)(l:uT CX X E)
 (I:z9 X pins σ H s) (r:zo vs us) (h:sp (vs++sy) H Q E):wpAny (model X.prog X.w) X.A (call (.ref f) us) (EP X pins σ Q) X.xe s:=by
 have U:zo (vs++sy) (us++ds):=r.append hd;have o:(us++ds).length=ps.length:=by rw[<-U.length];exact F.len _ _ _ _ h
 refine wpAny_call (codeAny_mono (F.run X.A X.stack s H ⟨us,[]⟩ (us++ds) (vs++sy) Q E g I.env0 (j s us I.kIn o) U h) λr p J=>?_);cases r with
 |error e=>exact l pins σ H s e p I J
 |ok t=>
  cases t with|ret u=>exact I.after J|next=>exact False.elim J|brk=>exact False.elim J|cont=>exact False.elim J
abbrev Ec(p:Pos)(es:List Expr)(X:Cx):Prop:=(backTo p (starEach es X.env)).any (·.1)=false
theorem agg(F:ar X.prog X.w X.K X.mg X.base CX k f fd ps sp)(l:wb k X.A)(o:Gl X x)(C:X.mg x=some (.ref f))(T:PySem.W.keepIn X.K (.ref f)=true)(hb:cz X.K fd ps ds)(hd:zo sy ds)(hx:uT CX X E)
 (ha:PA X (e::es) t) (U:Ed x:=by decide) (he:Eb e es X:=by rfl) (g:Ec pos es X:=by rfl):
 PE X (.Call (.Name x p) (e::es) [] pos) (ai5 sp sy E t):=by
 intro J s σ H Q I h;refine wpAny_Call_Name_kw (gE I o C ?_ U);refine PySem.W.callWith_K (h₀:=X.base) I.ok.mod.kin T (yb (ha pos J s σ H _ I h) λus s1 vs H1 j r q=>⟨j.kIn,?_⟩) he g;exact alh F l hb hd hx j r q
end
section
variable {CX:vU}{k:Nat}{ks:List Str}{sp:Sp}{E:XK}{m:Str}{kws:List Keyword}{te ta:TE}{t tk:TA}{nm:Option Str}
variable {g:List Value->List Value->List Value}{gV:List V->List V->List V}
end
structure aD(N P:List Str)(sc:Scope):Prop where
 kind:sc.kind=.function
 co:sc.isCoroutine=false
 gen:sc.isGenerator=false
 nd:N.Nodup
 pre:N.take P.length=P
 par:∀x∈P,sc.names.lookup x=some .local\/sc.names.lookup x=some .cell
 nofree:∀y∈sc.names,y.2≠.free
theorem oN{kindOf:Str->Option NameKind}{x:Str}:∀{J:List (Str×Value)} {m:Str->Option Value},(∀v,(x,v)∉J)->bindL kindOf J m x=m x
 |[],_,_=>rfl
 |(n,v)::r,m,h=>by
  unfold bindL;rw[oN λw hw=>h w (Ad _ hw)];split
  ·have:x≠n:=by rintro rfl;exact h v Ak
   simp[this]
  ·rfl
theorem mh{kindOf:Str->Option NameKind}{x:Str}:∀{J:List (Str×Value)} {m:Str->Option Value},(∀v,(x,v)∉J)->bindC kindOf J m x=m x
 |[],_,_=>rfl
 |(n,v)::r,m,h=>by
  unfold bindC;rw[mh λw hw=>h w (Ad _ hw)];split
  ·rfl
  ·have:x≠n:=by rintro rfl;exact h v Ak
   simp[this]
theorem oM{kindOf:Str->Option NameKind}{x:Str}{v:Value}:∀{P:List Str} {vs:List Value} {i:Nat} {m:Str->Option Value},P.Nodup->P[i]?=some x->vs[i]?=some v->kindOf x=some .local->
 bindL kindOf (P.zip vs) m x=some v
 |[],_,_,_,_,h,_,_=>by simp at h
 |_::_,[],_,_,_,_,h,_=>by simp at h
 |p::P,w::vs,0,m,nd,h1,h2,J=>by simp at h1 h2;subst h1;subst h2;show bindL kindOf ((p,w)::P.zip vs) m p=_;unfold bindL;rw[oN λv U=>(AC.mp nd).1 (C6 U).1,AD J];simp
 |p::P,w::vs,i+1,m,nd,h1,h2,J=>by show bindL kindOf ((p,w)::P.zip vs) m x=_;unfold bindL;exact oM (i:=i) (AC.mp nd).2 (by simpa using h1) (by simpa using h2) J
theorem mj{kindOf:Str->Option NameKind}{x:Str}{v:Value}:∀{P:List Str} {vs:List Value} {i:Nat} {m:Str->Option Value},P.Nodup->P[i]?=some x->vs[i]?=some v->kindOf x≠some .local->
 bindC kindOf (P.zip vs) m x=some v
 |[],_,_,_,_,h,_,_=>by simp at h
 |_::_,[],_,_,_,_,h,_=>by simp at h
 |p::P,w::vs,0,m,nd,h1,h2,J=>by simp at h1 h2;subst h1;subst h2;show bindC kindOf ((p,w)::P.zip vs) m p=_;unfold bindC;rw[mh λv U=>(AC.mp nd).1 (C6 U).1,AE J];simp
 |p::P,w::vs,i+1,m,nd,h1,h2,J=>by show bindC kindOf ((p,w)::P.zip vs) m x=_;unfold bindC;exact mj (i:=i) (AC.mp nd).2 (by simpa using h1) (by simpa using h2) J
def start(N:List Str)(vs:List V):St:=vs.map some++List.replicate (N.length-vs.length) none
def cZ(CX:vU)(P:Program)(w:World)(K:Af)(mg:Str->Option Value)(base:Heap)(N:List Str)(eK:Str)(scope:Scope)(f:Addr)(cd:Value)(A:Around)(outer:List Env)(s:Shared)(H:Hp)(E:XK):Cx where
 prog:=P
 w:=w
 K:=K
 mg:=mg
 base:=base
 A:=A.deeper (envOfC eK scope s.heap.objs.size f cd)
 N:=N
 s₀:=s
 H₀:=H
 env:=envOfC eK scope s.heap.objs.size f cd
 outer:=outer
 stack:=envOfC eK scope s.heap.objs.size f cd::outer
 ex:=[]
 calm:=true
 fn:=λ_=>true
 pn:=[]
 xe:=λe s'=>wpAny (model P w) (A.deeper (envOfC eK scope s.heap.objs.size f cd)) (leaving (envOfC eK scope s.heap.objs.size f cd) e) (λ_ J=>CX outer H s E e J) (λU J=>CX outer H s E U J) s'
theorem rc{J:Scope}(h:J.names.lookup x=some .cell):∃c,(cellsFrom n J.names []).lookup x=some c:=by have q:=DI J.names n [] (.inl h);exact Option.isSome_iff_exists.mp q
theorem yU{CX:vU}{P:Program}{w:World}{K:Af}{N:List Str}{t:Shared}{E:XK}
 (S:aD N ps scope) (hd:A.handled=none) (J:aej P w K mg base A outer s H) (hl:vs.length=ps.length) (r:zo vs us)
 (x:InCallC s s.heap.objs.size (bindL (envOfC eK scope s.heap.objs.size f cd).kindOf (ps.zip us) λ_=>none) (cellsFrom (s.heap.objs.size+1) scope.names []) (bindC (envOfC eK scope s.heap.objs.size f cd).kindOf (ps.zip us) λ_=>none) t) (T:0<t.toks):
 z9 (cZ CX P w K mg base N eK scope f cd A outer s H E) [] (start N vs) H t:=by
 have a1:ps.length<=N.length:=by have:=Bb List.length S.pre;rw[AX] at this;lia
 obtain⟨h1,tk,rfl,C⟩:=x.done;have U:∀b:Addr,b∉(cZ CX P w K mg base N eK scope f cd A outer s H E).ex:=λb z=>absurd (show b∈([]:List Addr) from z) (by simp);refine⟨⟨J.mod,S.kind,rfl,rfl,Al _,λy z c h1 h2=>?_,λy g=>?_,λy c _ h=>?_,λ_=>hd,Around.frames_deeper J.frames,.inr ⟨rfl,rfl⟩,λb z=>absurd z (U b),J.bs,J.bsz,λb _ _=>U b,λb z=>absurd z (U b),J.funs,J.frf⟩,
  rfl,J.bare,Un.kept C,⟨_,x.toInCall.ns,λi y v h1 h2 h3=>?_⟩,λy c h=>⟨_,x.cell y c h⟩,J.hok.fresh (Al _),λy c h=>?_,λp j=>absurd (show p∈([]:List (Addr×Obj)) from j) (by simp),J.hok.kept C,?_,T⟩
 ·exact name_of_addr x.apart (Bt h1) (Bt h2)
 ·have g:scope.names.lookup y=some .cell\/scope.names.lookup y=some .free:=g;rcases g with g|g
  ·exact rc g
  ·exact absurd rfl (S.nofree _ (Bt g))
 ·exact Bd (x.above y c (Bt h))
 ·have o:i<vs.length:=by
   unfold start at h2;by_cases o:i<vs.length
   ·exact o
   ·rw[Av (by simpa using o)] at h2;rw[B7] at h2;split at h2<;>cases h2
  have ha:vs[i]?=some v:=by unfold start at h2;rw[AF (by simpa using o),An] at h2;cases e:vs[i]? with|none=>rw[e] at h2;cases h2|some a=>rw[e] at h2;cases h2;rfl
  obtain⟨u,I,rv⟩:=r.get ha;have j:ps[i]?=some y:=by rw[<-S.pre,Dw (by lia)];exact h1
  have l:ps.Nodup:=by rw[<-S.pre];exact S.nd.sublist (List.take_sublist _ _)
  refine⟨u,rv,?_⟩;rcases S.par y (Aw j) with k|k
  ·exact .inl ⟨k,oM l j I k⟩
  ·obtain⟨c,e⟩:=rc (n:=s.heap.objs.size+1) k;refine .inr ⟨.inl k,c,e,?_⟩;have q:=x.cell y c e;rw[mj l j I (by show scope.names.lookup y≠_;rw[k];decide)] at q;exact q
 ·exact J.hok.fresh (Bd (x.above y c (Bt h)))
 ·unfold start;show _=N.length;rw[Ac,Ab,BS];lia
theorem adm{CX:vU}{P:Program}{w:World}{K:Af}{k:Nat}{U:Arguments}{dV kV:Value}
 {N:List Str} {sp:Sp} (lk:K.lookup f=some ⟨oc,od,.func (PySem.W.fnOf name eK U body scope dV kV hQ pm an fx ct),sm⟩) (a1:PySem.W.codeIn K fx eK=true) (S:aD N ps scope)
 (len:∀vs H Q E,sp vs H Q E->vs.length=ps.length)
 (j:∀(A:Around) (outer:List Env) (s:Shared) (H:Hp) (vs:List V) (Q:VK) (E:XK),wb k (A.deeper (envOfC eK scope s.heap.objs.size f fx))->sp vs H Q E->
  ∃t,gH (cZ CX P w K mg base N eK scope f fx A outer s H E) body t/\t { nx:=λ_ H'=>Q .non H',rt:=Q } (start N vs) H):
 ar P w K mg base CX (k+1) f (PySem.W.fnOf name eK U body scope dV kV hQ pm an fx ct) ps sp:=by
 refine⟨len,λA outer s H args us vs Q E hr p hb r T=>?_⟩;have hl:=len _ _ _ _ T;have KX:K.In s.heap:=p.mod.kin.keeps λb o e=>(p.bs b o e).1;have a2:s.heap.NoLimit:=p.mod.nolimit.keeps λb o e=>(p.bs b o e).1;have l:∀y∈ps.zip us,scope.names.lookup y.1=some .local\/(scope.names.lookup y.1=some .cell/\((cellsFrom (s.heap.objs.size+1) scope.names []).lookup y.1).isSome=true):=λ⟨n,v⟩ hy=>by
  rcases S.par n (C6 hy).1 with q|q
  ·exact .inl q
  ·exact .inr ⟨q,DI _ _ _ (.inl q)⟩
 refine codeAny_call_function hr.depth (KX _ _ lk) rfl S.co S.gen rfl (PySem.W.codeRec_of KX a1) (hb _ _ _ _ ?_);refine x0 p.tk (wpAny_newFunctionEnv_cells S.kind l λa4 he s1 x a3=>?_);subst he;refine⟨a2.keeps x.toInCall.keep,codeAny_func ?_⟩;obtain⟨t,ht,hq⟩:=j A outer s H vs Q E (hr.deeper _) T;have I:z9 (cZ CX P w K mg base N eK scope f fx A outer s H E) [] (start N vs) H s1:=yU S hr.hd p hl r x a3;refine AW (ht [] s1 (start N vs) H _ I hq) (λfl s' C=>?_) λe s' C=>C;have js:∀{g:St} {H':Hp} {v:V} {u:Value},z9 (cZ CX P w K mg base N eK scope f fx A outer s H E) [] g H' s'->zx v u->Q v H'->CE outer P w H s Q u s':=
  λ{g H' v u} J rv q=>⟨v,H',J.os,J.bare,J.base,J.hok,rv,q,J.tk⟩
 cases fl with
 |ret u=>
  obtain⟨v,g,H',J,rv,q⟩:=C;exact js J rv q
 |next=>
  obtain⟨g,H',J,q⟩:=C;exact js (v:=V.non) (u:=Value.none) J rfl q
 |brk=>
  obtain⟨_,_,_,q⟩:=C;exact False.elim q
 |cont=>
  obtain⟨_,_,_,q⟩:=C;exact False.elim q
end L2
variable {sp:L2.Sp}
namespace L2
open PySem PySem.Spec PyProof.Rows
section
variable {t:TA}{id T:String}{r:List V->Hp->VK->Prop}
def tCB(r:List V->Hp->VK->Prop)(t:TA):TE:=λσ H Q=>t σ H λvs H1=>r vs H1 Q
theorem rF(hc:x4 X (.builtin id) r)(l:Gl X x)(o:X.mg x=none)(C:bootBuiltins x=some (.builtin id))(T:PA X (e::es) t)(hn:x ≠ "__name__" := by decide)(U:Ed x:=by decide)
 (he:Eb e es X:=by rfl) (g:Ec pos es X:=by rfl):PE X (.Call (.Name x p) (e::es) [] pos) (tCB r t):=by
 intro J s j H Q I h;refine wpAny_Call_Name_kw (az I l o C ?_ hn U);exact PyProof.Rows.callWith_builtin1 (yb (T pos J s j H _ I h) λus s1 vs H1 I1 r1 q1=>hc J s1 j H1 vs us Q I1 r1 q1) he g
theorem iA(hc:x4 X (.type T) r)(l:Gl X x)(o:X.mg x=none)(C:bootBuiltins x=some (.type T))(ha:PA X (e::es) t)(hn:x ≠ "__name__" := by decide)(U:Ed x:=by decide)
 (he:Eb e es X:=by rfl) (g:Ec pos es X:=by rfl):PE X (.Call (.Name x p) (e::es) [] pos) (tCB r t):=by
 intro J s j H Q I h;refine wpAny_Call_Name_kw (az I l o C ?_ hn U);exact BO (yb (ha pos J s j H _ I h) λus s1 vs H1 I1 r1 q1=>hc J s1 j H1 vs us Q I1 r1 q1) he g
end
section
variable [DecidableEq κ]
def a8(kvs:List (κ×V))(k:κ):Option V:=(kvs.find? λJ=>decide (J.1=k)).map (·.2)
def dh(kvs:List (κ×V))(k:κ)(v:V):List (κ×V):=
 if (kvs.any λJ=>decide (J.1=k))=true then kvs.map (λJ=>if J.1=k then(J.1,v) else J) else kvs++[(k,v)]
theorem lF{p:κ×V}{r:List (κ×V)}{k:κ}(e:p.1=k):a8 (p::r) k=some p.2:=by simp[a8,Bm,e]
theorem lB{p:κ×V}{r:List (κ×V)}{k:κ}(e:¬p.1=k):a8 (p::r) k=a8 r k:=by simp[a8,Bm,e]
theorem rX(k:κ):∀kvs:List (κ×V),(kvs.any λJ=>decide (J.1=k))=(a8 kvs k).isSome
 |[]=>rfl
 |p::r=>by
  rw[B5];by_cases e:p.1=k
  ·simp only[lF e,AG e,Bool.true_or,Option.isSome_some]
  ·rw[lB e,Au e,Bool.false_or];exact rX k r
theorem dq(kvs:List (κ×V))(k:κ)(v:V):(dh kvs k v).length<=kvs.length+1:=by
 unfold dh;split
 ·rw[Ab];lia
 ·rw[Ac,AL,List.length_nil];lia
theorem hJ.isSome_eq{o:Option V}{u:Option Value}(r:hJ o u):o.isSome=u.isSome:=by
 cases o with
 |none=>cases u with|none=>rfl|some _=>exact(show False from r).elim
 |some _=>cases u with|none=>exact(show False from r).elim|some _=>rfl
theorem KV.val{kvs:List (κ×V)}{vs:List (κ×Value)}(r:KV kvs vs)(k:κ):hJ (a8 kvs k) (valueAt vs k):=by
 unfold KV at r
 induction r with
 |nil=>exact True.intro
 |@cons p q j J h t g=>
  obtain⟨h1,h2⟩:=h;by_cases e:p.1=k
  ·have U:q.1=k:=h1.symm.trans e;have b:valueAt (q::J) k=some q.2:=by simp[valueAt,Bm,U]
   rw[lF e,b];exact h2
  ·have U:¬q.1=k:=λz=>e (h1.trans z);have b:valueAt (q::J) k=valueAt J k:=by simp[valueAt,Bm,U]
   rw[lB e,b];exact g
theorem KV.any{kvs:List (κ×V)}{vs:List (κ×Value)}(r:KV kvs vs)(k:κ):(kvs.any λJ=>decide (J.1=k))=vs.any λJ=>decide (J.1=k):=by
 unfold KV at r
 induction r with|nil=>rfl|cons h t U=>rw[B5,B5,U,h.1]
theorem KV.repl{kvs:List (κ×V)}{vs:List (κ×Value)}(r:KV kvs vs)(k:κ){y:V}(U:zx y u):
 KV (kvs.map λJ=>if J.1=k then(J.1,y) else J) (vs.map λJ=>if J.1=k then(J.1,u) else J):=by
 unfold KV at r ⊢
 induction r with
 |nil=>exact .nil
 |@cons p q j l h t g=>
  rw[AO,AO];refine .cons ?_ g;obtain⟨h1,h2⟩:=h;by_cases e:p.1=k
  ·rw[AD e,AD (h1.symm.trans e)];exact⟨h1,U⟩
  ·rw[AE e,AE (λz=>e (h1.trans z))];exact⟨h1,h2⟩
theorem KV.put{kvs:List (κ×V)}{vs:List (κ×Value)}(r:KV kvs vs)(k:κ){y:V}(J:zx y u):KV (dh kvs k y) (stored vs k u):=by
 unfold dh stored;rw[r.any k];by_cases e:(vs.any λU=>decide (U.1=k))=true
 ·rw[AD e,AD e];exact r.repl k J
 ·rw[AE e,AE e];exact Paired.snoc r ⟨rfl,J⟩
theorem KV.length{kvs:List (κ×V)}{vs:List (κ×Value)}(r:KV kvs vs):kvs.length=vs.length:=Paired.length r
end
theorem iY{P:Program}{w:World}{k:jg}(r:zx (kV k) u):(v4 P w).is k u=true:=by
 cases k with
 |inl i=>obtain⟨t,e⟩:=(show ∃t,u=Value.int i t from r);subst e;exact tD P w i t
 |inr x=>obtain⟨t,e⟩:=(show ∃t,u=Value.str x t from r);subst e;exact tF P w x t
theorem oH{P:Program}{w:World}:∀{ks:List jg} {us:List Value},zo (ks.map kV) us->ItemsAre (v4 P w) ks us
 |[],_,r=>by rw[CM] at r;cases r;exact .nil
 |k::ks,_,r=>by rw[AO] at r;cases r with|cons h t=>exact .cons (iY h) (oH t)
abbrev KT(H:Hp):List (List jg×V)->List (List jg×Addr×Value)->Prop:=Paired λp q=>p.1=q.1/\H q.2.1=some (.tup (p.1.map kV))/\zx p.2 q.2.2
theorem KT.val{kvs:List (List jg×V)}{xs:List (List jg×Addr×Value)}(r:KT H kvs xs)(k:List jg):hJ (a8 kvs k) ((atKey xs k).map (·.2)):=by
 induction r with
 |nil=>exact True.intro
 |@cons p q j J h t g=>
  obtain⟨h1,_,h2⟩:=h;by_cases e:p.1=k
  ·have U:q.1=k:=h1.symm.trans e;have b:atKey (q::J) k=some q.2:=by simp[atKey,Bm,U]
   rw[lF e,b];exact h2
  ·have U:¬q.1=k:=λz=>e (h1.trans z);have b:atKey (q::J) k=atKey J k:=by simp[atKey,Bm,U]
   rw[lB e,b];exact g
theorem KT.repl{kvs:List (List jg×V)}{xs:List (List jg×Addr×Value)}(r:KT H kvs xs)(k:List jg){y:V}(U:zx y u):
 KT H (kvs.map λJ=>if J.1=k then(J.1,y) else J) (xs.map (putAt k u)):=by
 induction r with
 |nil=>exact .nil
 |@cons p q j l h t g=>
  rw[AO,AO];refine .cons ?_ g;obtain⟨h1,h2,h3⟩:=h;unfold putAt;by_cases e:p.1=k
  ·rw[AD e,AD (h1.symm.trans e)];exact⟨h1,h2,U⟩
  ·rw[AE e,AE (λz=>e (h1.trans z))];exact⟨h1,h2,h3⟩
theorem KT.put{kvs:List (List jg×V)}{xs:List (List jg×Addr×Value)}(r:KT H kvs xs)(k:List jg){y:V}(U:H b=some (.tup (k.map kV)))(J:zx y u):
 KT H (dh kvs k y) (storedH xs k b u):=by
 have e:(kvs.any λg=>decide (g.1=k))=(atKey xs k).isSome:=by rw[rX,(r.val k).isSome_eq,Cp]
 unfold dh storedH;rw[e];by_cases q:(atKey xs k).isSome=true
 ·rw[AD q,AD q];exact r.repl k J
 ·rw[AE q,AE q];exact Paired.snoc r ⟨rfl,U,J⟩
theorem KT.keeps{kvs:List (List jg×V)}{xs:List (List jg×Addr×Value)}(r:KT H kvs xs)(J:∀b ys,H b=some (.tup ys)->H' b=some (.tup ys)):KT H' kvs xs:=
 DY r λ_ _ z=>⟨z.1,J _ _ z.2.1,z.2.2⟩
section
variable {P:Program}{w:World}
theorem ahk{u:HO}(ok:dF P w H h)(e:Rd H a u):xo P w H h a u:=e.ok ok
theorem oQ{kvs:List (jg×V)}(ok:dF P w H h)(e:Rd H a (.dK kvs)):kvs.length<=sizeLine/\(a==sysModules)=false/\∃vs,KV kvs vs/\h.DictOf (v4 P w) a vs:=
 show xo P w H h a (.dK kvs) from ahk ok e
theorem ahr{kvs:List (jg×V)}(ok:dF P w H h)(e:H a=some (.dK kvs)):kvs.length<=sizeLine/\(a==sysModules)=false/\∃vs,KV kvs vs/\h.DictOf (v4 P w) a vs:=oQ ok (.inl e)
theorem lM{ks:List jg}(ok:dF P w H h)(e:H a=some (.tup (ks.map kV))):(tupleKind (v4 P w)).is h ks a:=by obtain⟨_,J,r,o,h1,h2,n,h3⟩:=(show xo P w H h a (.tup (ks.map kV)) from ok a _ e);exact⟨o,J.toArray,n,h1,h2,h3,by simpa using oH r⟩
theorem rW{kvs:List (List jg×V)}(ok:dF P w H h)(e:Rd H a (.dT kvs)):kvs.length<=sizeLine/\(a==sysModules)=false/\
 ∃xs,KT H kvs xs/\h.DictOfH (tupleKind (v4 P w)) a xs:=by
 obtain⟨z,y,xs,r,o,g,j,h1,h2,h3,C,I⟩:=(show xo P w H h a (.dT kvs) from ahk ok e);refine⟨z,y,xs,r,o,g,j,h1,h2,h3,C,λx J=>?_,I⟩;have all:∀{l:List (List jg×V)} {m:List (List jg×Addr×Value)},KT H l m->∀x∈m,(tupleKind (v4 P w)).is h x.1 x.2.1:=by
  intro l m q
  induction q with
  |nil=>intro x J;exact nomatch J
  |@cons p q ps qs U t T=>
   intro x J;rcases Ap.mp J with e|J
   ·subst e;exact lM ok (by rw[<-U.1];exact U.2.1)
   ·exact T x J
 exact all r x J
theorem ami{kvs:List (List jg×V)}(ok:dF P w H h)(e:H a=some (.dT kvs)):kvs.length<=sizeLine/\(a==sysModules)=false/\
 ∃xs,KT H kvs xs/\h.DictOfH (tupleKind (v4 P w)) a xs:=rW ok (.inl e)
end
def pJ(H:Hp)(a:Addr)(y:V)(r:Option V):Prop:=
 (∃kvs k,Rd H a (.dK kvs)/\y=kV k/\r=a8 kvs k)\/∃kvs k b,Rd H a (.dT kvs)/\y=.ref b/\H b=some (.tup (k.map kV))/\r=a8 kvs k
def ao9(H:Hp)(a:Addr)(y v:V)(H':Hp):Prop:=
 (∃kvs k,H a=some (.dK kvs)/\y=kV k/\kvs.length<sizeLine/\H'=upd H a (.dK (dh kvs k v)))\/
 ∃kvs k b,H a=some (.dT kvs)/\y=.ref b/\H b=some (.tup (k.map kV))/\kvs.length<sizeLine/\H'=upd H a (.dT (dh kvs k v))
theorem pJ.k{kvs:List (jg×V)}{k:jg}(e:H a=some (.dK kvs)):pJ H a (kV k) (a8 kvs k):=.inl ⟨kvs,k,.inl e,rfl,rfl⟩
section
variable {y:V}{r:Value}{o:Option V}
theorem z9.big(I:z9 X pins σ H s):sysModules<s.heap.objs.size:=by have h:mainGlobals<s.heap.objs.size:=(I.mod.glob.keeps I.bk).lt;exact Nat.lt_trans (by decide) h
theorem zE(hu:A.units+1<cLine)(I:z9 X pins σ H s)(g:pJ H a y (some v))(T:zx y u)(h:∀U s',z9 X pins σ H s'->zx v U->Q U s'):
 wpAny (model X.prog X.w) A (getItem (.ref a) u) Q E s:=by
 rcases g with⟨j,k,e,r,l⟩|⟨j,k,b,e,r,eb,l⟩
 ·subst r;obtain⟨z,hd,vs,rel,t⟩:=oQ I.hok e;obtain⟨U,hw,J⟩:=EK (v:=v) (o:=valueAt vs k) (by rw[l];exact rel.val k);exact wpAny_getItem_of (iY T) t.mapOf hw (h U _ (I.tok _) J)
 ·subst r;cases (show u=Value.ref b from T);obtain⟨z,hd,xs,rel,t⟩:=rW I.hok e;obtain⟨U,hw,J⟩:=EK (v:=v) (o:=(atKey xs k).map (·.2)) (by rw[l];exact rel.val k);obtain⟨p,hp,C⟩:=Am.mp hw;refine wpAny_getItem_heap (tupleKind_room_in1 hu) (lM I.hok eb) t hp ?_;rw[C];exact h U _ (I.tok _) J
theorem arp(r:A.units+1<cLine)(I:z9 X pins σ H s)(g:pJ H a y o)(p:zx y u)(h:∀s',z9 X pins σ H s'->Q (.bool o.isSome) s'):
 wpAny (model X.prog X.w) A (compareOp .In u (.ref a)) Q E s:=by
 rcases g with⟨J,k,e,U,l⟩|⟨J,k,b,e,U,t,l⟩
 ·subst U;obtain⟨z,hd,C,rel,j⟩:=oQ I.hok e;refine wpAny_in_of (iY p) hd j.mapOf ?_;rw[<-(rel.val k).isSome_eq,<-l];exact h _ (I.tok _)
 ·subst U;cases (show u=Value.ref b from p);obtain⟨z,hd,T,rel,j⟩:=rW I.hok e;refine wpAny_in_heap (tupleKind_room_in1 r) (lM I.hok t) hd j ?_;have q:=(rel.val k).isSome_eq;rw[Cp] at q;rw[<-q,<-l];exact h _ (I.tok _)
theorem afs(r:A.units+1<cLine)(I:z9 X pins σ H s)(g:pJ H a y o)(p:zx y u)(h:∀s',z9 X pins σ H s'->Q (.bool (!o.isSome)) s'):
 wpAny (model X.prog X.w) A (compareOp .NotIn u (.ref a)) Q E s:=by
 rcases g with⟨J,k,e,U,l⟩|⟨J,k,b,e,U,t,l⟩
 ·subst U;obtain⟨z,hd,C,rel,j⟩:=oQ I.hok e;refine wpAny_notIn_of (iY p) hd j.mapOf ?_;rw[<-(rel.val k).isSome_eq,<-l];exact h _ (I.tok _)
 ·subst U;cases (show u=Value.ref b from p);obtain⟨z,hd,T,rel,j⟩:=rW I.hok e;refine wpAny_notIn_heap (tupleKind_room_in1 r) (lM I.hok t) hd j ?_;have q:=(rel.val k).isSome_eq;rw[Cp] at q;rw[<-q,<-l];exact h _ (I.tok _)
theorem oq{ob:HO}(I:z9 X pins σ H s)(J:Mut (H a))(hs:Heap.SameBut a s.heap h')(U:∃q,h'.get? a=some q)(new:xo X.prog X.w (upd H a ob) h' a ob)(j:0<t':=by walk_at "t"):
 z9 X pins σ (upd H a ob) { s with heap:=h',toks:=t' }:=
 I.write (x:=a) (e:=a) J (.inl rfl) (λb q g z=>(hs.2 b g).trans z) U new
theorem acd{P:Program}{w:World}{kvs:List (jg×V)}{vs:List (jg×Value)}(z:kvs.length<=sizeLine)(hd:(a==sysModules)=false)(rel:KV kvs vs)(dd:h'.DictOf (v4 P w) a vs):
 xo P w H' h' a (.dK kvs):=⟨z,hd,vs,rel,dd⟩
theorem wS{Q:Unit->Shared->Prop}(hu:A.units+1<cLine)(I:z9 X pins σ H s)(g:ao9 H a y v H')(ry:zx y u)(rv:zx v r)(h:∀s',z9 X pins σ H' s'->Q () s'):
 wpAny (model X.prog X.w) A (setItem (.ref a) u r) Q E s:=by
 rcases g with⟨J,k,e,o,l,p⟩|⟨J,k,b,e,o,eb,l,p⟩
 ·subst o p;obtain⟨z,hd,vs,rel,t⟩:=ahr I.hok e;have C:vs.length<=sizeLine:=by rw[<-rel.length];exact z
  have T:(dh J k v).length<=sizeLine:=by have:=dq J k v;lia
  refine wpAny_setItem_pairs (hsz:=C) (iY ry) t λh' U hs=>h _ ?_;have he:∃q,h'.get? a=some q:=let ⟨q,_,_,j,_⟩:=U;⟨q,j⟩;exact oq I (by rw[e];exact True.intro) hs he (acd T hd (rel.put k rv) U)
 ·subst o p;cases (show u=Value.ref b from ry);obtain⟨z,hd,xs,rel,t⟩:=ami I.hok e;have C:xs.length<=sizeLine:=by rw[<-Paired.length rel];exact z
  have T:(dh J k v).length<=sizeLine:=by have:=dq J k v;lia
  refine wpAny_setItem_heap (hsz:=C) (tupleKind_room_in1 hu) (lM I.hok eb) t λh' U hs=>h _ ?_;obtain⟨q,es,ep,j,h2,h3,h4,_,h5⟩:=U;refine oq I (by rw[e];exact True.intro) hs ⟨q,j⟩ ⟨T,hd,_,(rel.put k eb rv).keeps λc ys ec=>?_,q,es,ep,j,h2,h3,h4,h5⟩;rw[qp (ao5 ec e (λz=>nomatch z))];exact ec
end
section
variable {kvs:List (jg×V)}{k:jg}
end
def aie(i:Expr):Prop:=∀J U,subscripted i false J U=operate [J,U] (getItem J U)
theorem aeo{w:World}{slice:Expr}{T id:String}
 (C:typeLookup (.type T) "__getitem__" = pure (some (.builtin id))) (hs:aie slice)
 (h:wpAny (model prog w) A (eval value env) (λo g=>wpAny (model prog w) A (eval slice env) (λi J=>J.TypeIs o T/\wpAny (model prog w) A (getItem o i) Q E J) E g) E s):
 wpAny (model prog w) A (eval (.Subscript value slice pos) env) Q E s:=by
 refine Subscript_ (AW h (λo g l=>AW l (λi J U=>?_) λ_ _ x=>x) λ_ _ x=>x);obtain⟨t,U⟩:=U;unfold subscriptTail;refine Aa ?_;rw[getitemInPython_of_ne t.not_modules];refine Aa (wpAny_specialOf t C ?_);have js:wpAny (model prog w) A (subscripted slice false o i) (λr j=>wpAny (model prog w) A (letTemporaryGo value o r >>= λ_=>pure r) Q E j) E J:=by rw[hs o i];exact wpAny_operating (AW U (λr j p=>Aa (wpAny_letTemporaryGo (Ag p))) λ_ _ x=>x)
 first
  |exact Ag (Aa js)
  |exact Aa (Ag (Aa js))
  |exact Aa js
theorem r6{y:V}{o:Option V}(I:z9 X pins σ H s)(g:pJ H a y o):s.TypeIs (.ref a) "dict" := by
 rcases g with⟨J,k,e,_,_⟩|⟨J,k,b,e,_,_,_⟩
 ·obtain⟨_,_,j,_,U⟩:=oQ I.hok e;exact U.typeIs
 ·obtain⟨_,_,l,_,U⟩:=rW I.hok e;exact U.typeIs
def an2(td ty:TE):TE:=λσ H Q=>td σ H λx H1=>ty σ H1 λy H2=>∃a v,x=.ref a/\pJ H2 a y (some v)/\Q v H2
def an1(td ty tv:TE):TS:=λD σ H=>tv σ H λv H1=>td σ H1 λx H2=>ty σ H2 λy U=>∃a J,x=.ref a/\ao9 U a y v J/\D.nx σ J
section
variable {i:Expr}{tpos:Pos}{td ty tv:TE}
theorem af4(p:X.A.units+1<cLine)(r:PE X o td)(hi:PE X i ty)(hs:aie i):PE X (.Subscript o i pos) (an2 td ty):=by intro J s j H Q I h;refine aeo Do.lookup hs (aX (r J s j H _ I h) λu t x C T rx q1=>aI (hi J t j C _ T q1) λiv s2 ⟨y,H2,l,ry,a,v,ex,g,q2⟩=>?_);subst ex;obtain rfl:u=Value.ref a:=rx;exact⟨r6 l g,zE p l g ry λw' s3 I3 U=>⟨v,H2,I3,U,q2⟩⟩
theorem afh(j:X.A.units+1<cLine)(l:PE X o td)(hi:PE X i ty)(p:PE X value tv)(hs:swapsWith value (some (.Subscript o i gf)) pos.line X.env=pure false):
 PS X (.Assign [.Subscript o i gf] value pos) (an1 td ty tv):=by
 intro J s U H D I h;refine wpAny_Assign_Subscript (aX (p J s U H _ I h) λr t v C T rv q1=>aX (l J t U C _ T q1) λu s2 x H2 I2 rx q2=>aI (hi J s2 U H2 _ I2 q2) λiv s3 ⟨y,H3,I3,ry,a,H4,ex,g,q3⟩=>?_) hs;subst ex;obtain rfl:u=Value.ref a:=rx;exact wS j I3 g ry rv λs4 I4=>⟨U,H4,I4,q3⟩
end
theorem sG{P:Program}{w:World}(h:Heap)(J:sysModules<h.objs.size):xo P w H (h.push { cls:=.type "dict",data:=.dict #[] }) h.objs.size (.dK []):=
 ⟨Bi _,beq_eq_false_iff_ne.mpr (AB (A1 J)),[],.nil,Heap.DictOf.new h⟩
def akx:TE:=λ_ H Q=>∀p,H p=none->Q (.ref p) (upd H p (.dK []))
theorem ado:PE X (.Dict [] [] pos) akx:=λJ s U H Q I h=>
 wpAny_Dict_empty ⟨.ref s.heap.objs.size,_,I.laid (a:=s.heap.objs.size) (o:=.dK []) (t':=s.toks) (λ_ _ q=>xT _ q) (Al _) (sG s.heap I.big),rfl,h _ (I.hok.fresh (Al _))⟩
def pW:List (TE×TE)->St->Hp->(List (V×V)->Hp->Prop)->Prop
 |[],_,H,Q=>Q [] H
 |(tk,tv)::r,σ,H,Q=>tk σ H λx H1=>tv σ H1 λy H2=>pW r σ H2 λps J=>Q ((x,y)::ps) J
abbrev VV:List (V×V)->List (Value×Value)->Prop:=Paired λp q=>zx p.1 q.1/\zx p.2 q.2
def PPs(X:Cx)(pos:Pos)(keys:List (Option Expr))(values:List Expr)(J:List (TE×TE)):Prop:=
 ∀(pins:List (Addr×Obj)) (s:Shared) (σ:St) (H:Hp) (Q:List (V×V)->Hp->Prop),z9 X pins σ H s->pW J σ H Q->
  wpAny (model X.prog X.w) X.A (evalPairs (pairTrees keys values X.env pos)) (λvs s'=>∃ps H',z9 X pins σ H' s'/\VV ps vs/\Q ps H') X.xe s
theorem aew :PPs X pos [] [] []:=λJ s U H Q I h=>pairTrees_nil_walk ⟨[],H,I,.nil,h⟩
theorem fe{k v:Expr}{ks:List (Option Expr)}{vs:List Expr}{tk tv:TE}{U:List (TE×TE)}(j:PE X k tk)(l:PE X v tv)(o:PPs X pos ks vs U):
 PPs X pos (some k::ks) (v::vs) ((tk,tv)::U):=λJ s g H Q I h=>
 pairTrees_cons_walk (aX (j J s g H _ I h) λu p x r t C T=>aX (l J p g r _ t T) λw2 s2 y H2 I2 ry q2=>
  aI (o J s2 g H2 _ I2 q2) λws s3 ⟨ps,H3,I3,rel,q3⟩=>⟨(x,y)::ps,H3,I3,.cons ⟨C,ry⟩ rel,q3⟩)
def gy(kvs more:List (jg×V)):List (jg×V):=more.foldl (λJ U=>dh J U.1 U.2) kvs
theorem KV.merge:∀{more:List (jg×V)} {J:List (jg×Value)} {kvs:List (jg×V)} {vs:List (jg×Value)},KV more J->KV kvs vs->KV (gy kvs more) (merged vs J):=by
 intro more J kvs vs r;unfold KV at r
 induction r generalizing kvs vs with
 |nil=>intro q;exact q
 |@cons p q j l h t U=>
  intro g;have e:KV (dh kvs p.1 p.2) (stored vs q.1 q.2):=by have:=g.put p.1 h.2;rw[<-h.1];exact this
  exact U e
theorem fF:∀(more kvs:List (jg×V)),(gy kvs more).length<=kvs.length+more.length
 |[],kvs=>by show kvs.length<=kvs.length+0;lia
 |p::r,kvs=>by have h1:=fF r (dh kvs p.1 p.2);have h2:=dq kvs p.1 p.2;show(gy (dh kvs p.1 p.2) r).length<=_;rw[AL];lia
theorem l6{P:Program}{w:World}:∀{kvs:List (jg×V)} {U:List (Value×Value)},VV (kvs.map λg=>(kV g.1,g.2)) U->∃J,Carries (v4 P w) U J/\KV kvs J
 |[],_,r=>by rw[CM] at r;cases r;exact⟨[],True.intro,.nil⟩
 |p::kvs,_,r=>by
  rw[AO] at r;cases r with
  |@cons a b as bs h t=>
   obtain⟨J,c,q⟩:=l6 (P:=P) (w:=w) t;obtain⟨b1,b2⟩:=b;exact⟨(p.1,b2)::J,⟨iY h.1,rfl,c⟩,.cons ⟨rfl,h.2⟩ q⟩
def anm(J:List (TE×TE)):TE:=λσ H Q=>∀p,H p=none->pW J σ (upd H p (.dK [])) λps H2=>H2 p=some (.dK [])/\∃kvs:List (jg×V),ps=kvs.map (λU=>(kV U.1,U.2))/\kvs.length<=15/\Q (.ref p) (upd H2 p (.dK (gy [] kvs)))
theorem afw{keys:List (Option Expr)}{values:List Expr}{J:List (TE×TE)}(h:PPs X pos keys values J)(U:keys.all (·.isSome)=true)(t:keys.length=values.length)(h0:keys≠[])
 (p:keys.length<=15):PE X (.Dict keys values pos) (anm J):=by
 intro g s C H Q I q;have T:=I.hok.fresh (Al s.heap.objs.size);have I1:=I.laid (a:=s.heap.objs.size) (o:=.dK []) (h':=s.heap.push { cls:=.type "dict",data:=.dict #[] }) (t':=s.toks) (λ_ _ q=>xT _ q) (Al _) (sG s.heap I.big);refine wpAny_Dict_walk (knd:=v4 X.prog X.w) U t h0 p (aI (h g _ C _ _ I1 (q _ T)) λws s2 ⟨ps,H2,r,rel,e,j,ep,lk,q2⟩=>?_);subst ep;obtain⟨rs,c,rk⟩:=l6 (P:=X.prog) (w:=X.w) rel;obtain⟨z,hd,a1,r0,dd⟩:=ahr r.hok e;cases r0;refine⟨rs,c,dd,λh' l hs=>⟨.ref s.heap.objs.size,_,?_,rfl,q2⟩⟩;have hz:(gy [] j).length<=sizeLine:=by have h1:=fF j [];rw[List.length_nil] at h1;rw[sizeLine_eq];lia
 have he:∃q,h'.get? s.heap.objs.size=some q:=let ⟨q,_,_,hq,_⟩:=l;⟨q,hq⟩;exact oq r (by rw[e];exact True.intro) hs he (acd hz hd (rk.merge .nil) l)
section
variable {y d:V}{r:Value}{o:Option V}
end
section
variable {f:Expr}{td ty tx:TE}
end
section
variable {kvs:List (jg×V)}
end
section
variable {y:V}
end
end L2
namespace HT
open PySem PyProof.Rows
section
open PySem.SeqAt
open PySem.AutoSeq1 (wpAny_loadPart')
open PySem.MeetsSeq PySem.MeetsSeq2 PySem.MeetsSeq3
end
section
variable {w:World}
theorem cat_tup{t:Addr}{vs J:List Value}(ht:IsTup s.heap t vs.toArray)(hb:IsTup s.heap b J.toArray)(r:vs≠[])
 (h1:J=[]->Q (.ref t) s) (h2:J≠[]->Q (.ref s.heap.objs.size) { s with heap:=s.heap.push { cls:=.type "tuple",data:=.seq (vs++J).toArray } })
 (hsz:vs.length+J.length<=sizeLine):wpAny (model prog w) A (binaryOp .Add (.ref t) (.ref b)) Q E s:=by
 obtain⟨⟨cls,C,data,I⟩,p,T,n,hd⟩:=id ht;obtain⟨⟨a1,g,data2,j⟩,U,l,n2,o⟩:=id hb;simp only at T hd l o;subst T hd l o;have e:vs.toArray++J.toArray=(vs++J).toArray:=by simp
 by_cases hw:J=[]
 ·exact concat_meets ⟨_,p,rfl⟩ ⟨_,U,rfl⟩ noFill_tuple_add seq_tuple_add DJ DB (Dx _ _)
   (tuple_addW1 t b vs.toArray J.toArray n n2 C g I j (by simpa using r) (by simp[hw])) ⟨p,U,h1 hw⟩
 ·refine concat_meets ⟨_,p,rfl⟩ ⟨_,U,rfl⟩ noFill_tuple_add seq_tuple_add DJ DB (Dx _ _)
   (tuple_addW2 t b vs.toArray J.toArray n n2 C g I j (by simpa using r) (by simpa using hw) (by rw[Ao,Ao];exact hsz)) ⟨p,U,?_⟩
  rw[e];exact h2 hw
def sIx(n d:Nat):Option Int->Nat
 |none=>d
 |some v=>if v<0 then(v+(n:Int)).toNat else min v.toNat n
theorem sIx_none(n d:Nat):sIx n d none=d:=rfl
theorem sIx_nat(n d k:Nat):sIx n d (some (k:Int))=min k n:=by show(if (k:Int)<0 then((k:Int)+(n:Int)).toNat else min (k:Int).toNat n)=min k n;rw[AE (by lia),AY]
theorem sIx_le(n d:Nat)(hd:d<=n)(o:Option Int):sIx n d o<=n:=by
 cases o with
 |none=>exact hd
 |some v=>
  show(if v<0 then(v+(n:Int)).toNat else min v.toNat n)<=n;by_cases J:v<0
  ·rw[AD J];lia
  ·rw[AE J];exact Nat.min_le_right _ _
theorem vP(v:Int)(n d:Nat):(if v<0 then max (v+(n:Int)) 0 else min v (n:Int))=((sIx n d (some v):Nat):Int):=by
 show(if v<0 then max (v+(n:Int)) 0 else min v (n:Int))=(((if v<0 then(v+(n:Int)).toNat else min v.toNat n):Nat):Int);by_cases J:v<0
 ·simp only[AD J];lia
 ·simp only[AE J];lia
theorem um(lo hi:Option Int)(n:Nat):Builtin.Slice.sliceAdjust lo hi 1 (n:Int)=(((sIx n 0 lo:Nat):Int),(sIx n n hi:Int)):=by
 have h1:¬((1:Int)<0):=by lia
 unfold Builtin.Slice.sliceAdjust;simp only[h1,if_false];refine Prod.ext ?_ ?_
 ·cases lo with|none=>rfl|some v=>exact vP v n 0
 ·cases hi with|none=>rfl|some v=>exact vP v n n
theorem uf(i j:Nat):Builtin.Slice.slicePlaces (i:Int) (j:Int) 1=j-i:=by
 unfold Builtin.Slice.slicePlaces;have h1:(1:Int) > 0:=by lia
 simp only[h1,if_true,Int.ediv_one];split<;>lia
theorem jX{v:Value}{o:Option Int}{Q:Option Int->Shared->Prop}(p:IsPart v o)(h:Q o s):wpAny (model prog w) A (Builtin.Slice.slicePartIndex v) Q E s:=by cases p with|none=>exact slicePart_none h|int i t=>exact slicePart_int h
theorem gq{l:Addr}{g j:Value}{lo hi:Option Int}{Q:Int×Int×Nat->Shared->Prop}(hs:s.heap.IsSliceOf l g j .none)(pl:IsPart g lo)(o:IsPart j hi)
 (h:Q (((sIx n 0 lo:Nat):Int),1,sIx n n hi-sIx n 0 lo) s):wpAny (model prog w) A (Builtin.Slice.sliceApplied (.ref l) (pure (n:Int))) Q E s:=by
 obtain⟨os,J,p,U⟩:=id hs;unfold Builtin.Slice.sliceApplied Builtin.Slice.sliceFields;refine Aa (Aa (AN J U (x:=g) rfl (Aa (AN J U (x:=j) rfl (Aa (AN J U (x:=.none) rfl (Ag ?_)))))));refine Aa (slicePart_none ?_);show wpAny _ _ (if ((1:Int)==0)=true then _ else _) _ _ s;rw[AE (by decide)];refine Aa (jX pl (Aa (jX o (Aa (Ag ?_)))));show wpAny _ _ (match Builtin.Slice.sliceAdjust lo hi 1 (n:Int) with|(lo,hi)=>pure (lo,(1:Int),Builtin.Slice.slicePlaces lo hi 1)) _ _ s;rw[um lo hi n];show wpAny _ _ (pure (((sIx n 0 lo:Nat):Int),(1:Int),Builtin.Slice.slicePlaces ((sIx n 0 lo:Nat):Int) (sIx n n hi:Int) 1)) _ _ s;rw[uf];exact Ag h
theorem ad1(xs:Array Value)(i k:Nat):((List.range k).filterMap λ(m:Nat)=>xs[((i:Int)+(m:Int)*1).toNat]?).toArray=((xs.toList.drop i).take k).toArray:=by
 have e:(λ(m:Nat)=>xs[((i:Int)+(m:Int)*1).toNat]?)=λm=>xs[i+m]?:=by
  funext m;have:((i:Int)+(m:Int)*1).toNat=i+m:=by lia
  rw[this]
 rw[e];have:=pick_run xs i k;rw[List.filterMap_map] at this;have J:((λx=>xs[x]?)∘λx=>i+x)=λm=>xs[i+m]?:=rfl;rw[J] at this;rw[this]
theorem getItem_tuple_cut{t g:Addr}{items:Array Value}{r C:Value}{lo hi:Option Int}(U:IsTup s.heap t items)(hs:s.heap.IsSliceOf g r C .none)(pl:IsPart r lo)(I:IsPart C hi)
 (hw:¬(sIx items.size 0 lo=0/\sIx items.size items.size hi=items.size))
 (h:Q (.ref s.heap.objs.size) { s with heap:=s.heap.push { cls:=.type "tuple",data:=.seq ((items.toList.drop (sIx items.size 0 lo)).take (sIx items.size items.size hi-sIx items.size 0 lo)).toArray } })
 (hsz:items.size<=sizeLine):wpAny (model prog w) A (getItem (.ref t) (.ref g)) Q E s:=by
 have J:sizeOk (.seq ((items.toList.drop (sIx items.size 0 lo)).take (sIx items.size items.size hi-sIx items.size 0 lo)).toArray):=by show((items.toList.drop (sIx items.size 0 lo)).take (sIx items.size items.size hi-sIx items.size 0 lo)).toArray.size<=sizeLine;rw[Ao,AX,Ct,Bx];lia
 have hj:sIx items.size items.size hi<=items.size:=sIx_le _ _ (Al _) hi;obtain⟨os,j,l,T⟩:=id hs;have o:s.TypeIs (.ref g) "slice" := ⟨os,j,l⟩;unfold getItem
 try with_reducible refine A3 ?_
 first|refine Aa (Ag ?_)|skip
 refine Aa (wpAny_sequenceKey U.typeIs (by decide) ?_);refine Aa (wpAny_callSpecial?_slot (name:=Str.ofString "__getitem__") U.typeIs B6
  (wpAny_call_entry B6 U.typeIs entry_tuple_getitem ?_ (args_tuple_getitem _ _)))
 show wpAny _ _ (Builtin.Tuple.tupleItemsOf (.ref t) >>= _) _ _ s;refine Aa (tupleItemsOf_ U ?_);refine Aa (wpAny_typeOf o ?_);rw[AD (by decide)];refine Aa (gq hs pl I ?_);have p:¬((((sIx items.size 0 lo:Nat):Int)==0&&(1:Int)==1&&(sIx items.size items.size hi-sIx items.size 0 lo)==items.size)=true):=by intro q;rw[A4,A4] at q;have q1:((sIx items.size 0 lo:Nat):Int)=0:=eq_of_beq q.1.1;have q2:sIx items.size items.size hi-sIx items.size 0 lo=items.size:=eq_of_beq q.2;exact hw ⟨by lia,by lia⟩
 show wpAny _ _ (if (((sIx items.size 0 lo:Nat):Int)==0&&(1:Int)==1&&(sIx items.size items.size hi-sIx items.size 0 lo)==items.size)=true then _ else _) _ _ s;rw[AE p,ad1]
 first
  |exact Aa (m:=Builtin.Tuple.tupleExact _) (Bf (Ag ⟨_,rfl,Ag h⟩) J)
  |exact Aa (m:=Builtin.Tuple.tupleExact _) (Bf (Aa (Ag (Ag ⟨_,rfl,Ag h⟩))) J)
  |exact Aa (Aa (m:=Builtin.Tuple.tupleExact _) (Bf (Ag (Ag ⟨_,rfl,Ag h⟩)) J))
  |exact Aa (Aa (m:=Builtin.Tuple.tupleExact _) (Bf (Ag ⟨_,rfl,Ag h⟩) J))
end
end HT
namespace L2
open PySem PySem.Spec PyProof.Rows
abbrev TO:=St->Hp->(Option Int->Hp->Prop)->Prop
def PO(X:Cx)(e:Option Expr)(t:TO):Prop:=
 ∀(pins:List (Addr×Obj)) (s:Shared) (σ:St) (H:Hp) (Q:Option Int->Hp->Prop),z9 X pins σ H s->t σ H Q->
  wpAny (model X.prog X.w) X.A (evalPart e X.env) (λu s'=>∃o H',z9 X pins σ H' s'/\IsPart u o/\Q o H') X.xe s
def aeu:TO:=λ_ H Q=>Q none H
def amp(t:TE):TO:=λσ H Q=>t σ H λx H1=>∃i,x=.int i/\Q (some i) H1
section
variable {te:TE}{lo hi:Option Expr}{tl th:TO}
theorem aex:PO X none aeu:=by intro J s U H Q I h;rw[evalPart_none];exact Ag ⟨none,H,I,.none,h⟩
theorem ahd(h:PE X e te):PO X (some e) (amp te):=by intro J s U H Q I hw;rw[evalPart_some];refine aX (h J s U H _ I hw) λu p x g j l o=>?_;obtain⟨i,rfl,q⟩:=o;obtain⟨t,rfl⟩:=l;exact⟨some i,g,j,.int i t,q⟩
def qN(X:Cx)(r:V->Option Int->Option Int->Hp->VK->Prop):Prop:=
 ∀(pins:List (Addr×Obj)) (s:Shared) (σ:St) (H:Hp) (x:V) (v J U:Value) (lo hi:Option Int) (g:Addr) (Q:VK),z9 X pins σ H s->zx x v->s.heap.IsSliceOf g J U .none->IsPart J lo->IsPart U hi->r x lo hi H Q->
  ∃T id,typeLookup (.type T) "__getitem__" = pure (some (.builtin id))/\s.TypeIs v T/\wpAny (model X.prog X.w) X.A (getItem v (.ref g)) (EP X pins σ Q) X.xe s
theorem qN.or{U:V->Option Int->Option Int->Hp->VK->Prop}(h:qN X r)(h':qN X U):qN X (λx lo hi H Q=>r x lo hi H Q\/U x lo hi H Q):=by
 intro J s g H x v j l lo hi o Q I p t pl C q;rcases q with q|q
 ·exact h J s g H x v j l lo hi o Q I p t pl C q
 ·exact h' J s g H x v j l lo hi o Q I p t pl C q
def tSl(r:V->Option Int->Option Int->Hp->VK->Prop)(te:TE)(tl th:TO):TE:=λσ H Q=>te σ H λx H1=>tl σ H1 λl H2=>th σ H2 λu J=>r x l u J Q
theorem adr(t:qN X r)(C:PE X e te)(hl:PO X lo tl)(hu:PO X hi th):PE X (.Subscript e (.Slice lo hi none p2) pos) (tSl r te tl th):=by intro J s g H Q I h;refine Subscript_ (aI (C J s g H _ I h) λv s1 ⟨x,H1,I1,r1,q1⟩=>?_);refine wpAny_Slice (aI (hl J s1 g H1 _ I1 q1) λj s2 ⟨l,H2,I2,pl,q2⟩=>aI (hu J s2 g H2 _ I2 q2) λo U ⟨u,p,I3,pu,q3⟩=>?_);rw[evalPart_none];refine Ag ?_;have I4:z9 X J g p { U with heap:=U.heap.push { cls:=.type "slice",data:=.fields #[j,o,.none] } }:=I3.kept (t':=U.toks) λb ob q=>xT _ q;obtain⟨T,id,hT,ht,hg⟩:=t J { U with heap:=U.heap.push { cls:=.type "slice",data:=.fields #[j,o,.none] } } g p x v j o l u U.heap.objs.size Q I4 r1 (Heap.IsSliceOf.new ..) pl pu q3;show wpAny (model X.prog X.w) X.A (subscriptTail e (.Slice lo hi none p2) v (.ref U.heap.objs.size)) (EP X J g Q) X.xe { U with heap:=U.heap.push { cls:=.type "slice",data:=.fields #[j,o,.none] } };exact tail_any (ops:=[.ref U.heap.objs.size,v]) ht hT hg (by with_unfolding_all rfl)
def rS(xs:List V)(lo hi:Option Int):List V:=(xs.drop (HT.sIx xs.length 0 lo)).take (HT.sIx xs.length xs.length hi-HT.sIx xs.length 0 lo)
theorem i8(xs:List V)(lo hi:Option Int):(rS xs lo hi).length<=xs.length:=by unfold rS;rw[AX,Ct];lia
def arb(K:Af):V->Option Int->Option Int->Hp->VK->Prop:=λx lo hi H Q=>∃a xs,x=.ref a/\cD K H a xs/\
 ¬(HT.sIx xs.length 0 lo=0/\HT.sIx xs.length xs.length hi=xs.length)/\∀p,H p=none->Q (.ref p) (upd H p (.tup (rS xs lo hi)))
theorem akg:qN X (arb X.K):=by
 intro l s σ H x v vl vu lo g sl Q I C T pl pu h;obtain⟨a,U,rfl,hx,hw,q⟩:=h;cases C;obtain⟨j,r,p,t⟩:=I.tuple hx;have J:j.toArray.size=U.length:=by rw[Ao];exact r.length.symm
 refine⟨"tuple",_,B6.lookup,p.typeIs,?_⟩;refine HT.getItem_tuple_cut p T pl pu (by rw[J];exact hw) ?_ (by rw[J];exact t);rw[J];refine⟨.ref s.heap.objs.size,_,I.laid (t':=s.toks) (o:=.tup (rS U lo g)) (λb ob q=>xT _ q) (Al _) ?_,rfl,q _ (I.hok.fresh (Al _))⟩;exact⟨AQ (i8 U lo g) t,_,(r.drop (HT.sIx U.length 0 lo)).take (HT.sIx U.length U.length g-HT.sIx U.length 0 lo),IsTup.new _ _⟩
def an8(K:Af):R2:=λx y H Q=>∃a b xs ys,x=.ref a/\y=.ref b/\cD K H a xs/\cD K H b ys/\xs≠[]/\xs.length+ys.length<=sizeLine/\
 (ys=[]->Q (.ref a) H)/\(ys≠[]->∀p,H p=none->Q (.ref p) (upd H p (.tup (xs++ys))))
theorem zo.nil_iff(r:zo xs us):us=[]↔xs=[]:=by cases r with|nil=>simp|cons _ _=>simp
theorem aey:vq X (binaryOp .Add) (an8 X.K):=by intro g s σ H x y v u Q I p r h;obtain⟨a,b,t,C,rfl,rfl,T,hb,hx,j,q1,q2⟩:=h;cases p;cases r;obtain⟨a1,U,p1,_⟩:=I.tuple T;obtain⟨l,J,p2,_⟩:=I.tuple hb;refine HT.cat_tup p1 p2 (λz=>hx (U.nil_iff.mp z)) (λz=>⟨.ref a,H,I,rfl,q1 (J.nil_iff.mp z)⟩) (λz=>?_) (by rw[<-U.length,<-J.length];exact j);refine⟨.ref s.heap.objs.size,_,I.laid (t':=s.toks) (o:=.tup (t++C)) (λb ob q=>xT _ q) (Al _) ?_,rfl,q2 (λw=>z (J.nil_iff.mpr w)) _ (I.hok.fresh (Al _))⟩;exact⟨by rw[Ac];exact j,_,U.append J,IsTup.new _ _⟩
end
def ixN(n:Nat)(i:Int):Option Nat:=if 0<=i then(if i<n then some i.toNat else none) else if -(n:Int)<=i then some (i+n).toNat else none
def eM(xs:List α)(i:Int):Option α:=(ixN xs.length i).bind λj=>xs[j]?
theorem wA{i:Int}(h:ixN n i=some j):seqIndex? i n=some j/\j<n /\ -(n:Int)<=i/\i<n:=by
 unfold ixN at h;by_cases h0:0<=i
 ·rw[AD h0] at h;by_cases h1:i<n
  ·rw[AD h1] at h;have e:i.toNat=j:=AV h;exact⟨by rw[seqIndex_of h0 h1,e],by lia,by lia,h1⟩
  ·rw[AE h1] at h;cases h
 ·rw[AE h0] at h;by_cases h1 : -(n:Int)<=i
  ·rw[AD h1] at h;have e:(i+n).toNat=j:=AV h;exact⟨by rw[seqIndex_neg (by lia) h1,e],by lia,h1,by lia⟩
  ·rw[AE h1] at h;cases h
theorem pN{xs:List α}{i:Int}{v:α}(h:eM xs i=some v):∃j,seqIndex? i xs.length=some j/\xs[j]?=some v/\j<xs.length /\ -(xs.length:Int)<=i/\i<xs.length:=by
 unfold eM at h;cases e:ixN xs.length i with
 |none=>rw[e] at h;cases h
 |some j=>
  rw[e] at h;obtain⟨h1,h2,h3,J⟩:=wA e;exact⟨j,h1,h,h2,h3,J⟩
theorem xq{xs:List α}{v:α}(h:xs[j]?=some v):eM xs (j:Int)=some v:=by
 have J:j<xs.length:=(AK.mp h).1;have e:ixN xs.length (j:Int)=some j:=by unfold ixN;rw[AD (by lia),AD (by lia)];simp
 unfold eM;rw[e];exact h
theorem kG(xs:List α)(v:α):eM (xs++[v]) (-1)=some v:=by
 have J:(xs++[v]).length=xs.length+1:=by simp
 have e:ixN (xs++[v]).length (-1)=some xs.length:=by unfold ixN;rw[J,AE (by decide),AD (by lia)];congr 1;lia
 unfold eM;rw[e];show(xs++[v])[xs.length]?=some v;simp
def gJ(b:Expr):Prop:=∀o i,subscripted b false o i=operate [o,i] (getItem o i)
def IxR(X:Cx)(r:R2):Prop:=
 ∀(value slice:Expr) (pins:List (Addr×Obj)) (s:Shared) (σ:St) (H:Hp) (x y:V) (v u:Value) (Q:VK),z9 X pins σ H s->zx x v->zx y u->r x y H Q->
  subscripted slice false v u=operate [v,u] (getItem v u)->wpAny (model X.prog X.w) X.A (subscriptTail value slice v u) (EP X pins σ Q) X.xe s
def MtR(X:Cx)(id:String)(r:V->List V->Hp->VK->Prop):Prop:=
 ∀(pins:List (Addr×Obj)) (s:Shared) (σ:St) (H:Hp) (x:V) (xs:List V) (v:Value) (us:List Value) (Q:VK),z9 X pins σ H s->zx x v->zo xs us->r x xs H Q->
  wpAny (model X.prog X.w) X.A (call (.builtin id) (v::us)) (EP X pins σ Q) X.xe s
section
variable {a b:Expr}{ta tb:TE}
theorem abr{r:R2}(U:IxR X r)(g:PE X a ta)(j:PE X b tb)(hs:gJ b):PE X (.Subscript a b pos) (tOp r ta tb):=by intro J s l H Q I h;exact Subscript_ (aim g j I h λv u o x y p t C T q=>U a b J o l p x y v u Q t C T q (hs _ _))
def apz(K:Af):R2:=λx y H Q=>∃p xs i v,x=.ref p/\y=.int i/\aK K H p xs/\eM xs i=some v/\Q v H
def arl(K:Af):R2:=λx y H Q=>∃p xs i v,x=.ref p/\y=.int i/\cD K H p xs/\eM xs i=some v/\Q v H
def asv:R2:=λx y H Q=>∃z i c,x=.str z/\y=.int i/\z.length<=sizeLine/\eM z.cps.toList i=some c/\Q (.str ⟨#[c]⟩) H
theorem afl:IxR X (apz X.K):=by
 intro value slice J s o H x y v u Q I rx ry h C;obtain⟨p,xs,i,z,rfl,rfl,hq,he,q⟩:=h;cases rx;obtain⟨t,rfl⟩:=ry;obtain⟨U,r,pl,hz⟩:=I.list hq;obtain⟨j,h1,h2,h3,h4,h5⟩:=pN he;obtain⟨w,T,g⟩:=r.get h2;have hl:=r.length;have hn:=iC;have js:EP X J o Q w s:=⟨z,H,I,g,q⟩;by_cases h0:0<=i
 ·have l:i.toNat=j:=by rw[seqIndex_of h0 h5] at h1;exact AV h1
  exact item_listR pl.isList h0 (by lia) (by rw[l];simpa using T) js C
 ·have l:(i+(U.toArray.size:Int)).toNat=j:=by rw[seqIndex_neg (by lia) h4] at h1;rw[Ao,<-hl];exact AV h1
  exact subscriptTail_builtinR (x:=w) pl.isList.typeIs slot_list_getitem.lookup
   (wpAny_getItem_list_neg (Q:=λr s'=>r=w/\EP X J o Q r s') pl.isList (by lia) (by rw[Ao]<;>lia) (by lia) (by rw[l];simpa using T) ⟨rfl,js⟩) C
theorem ajk:IxR X (arl X.K):=by
 intro value slice J s g H x y v u Q I l o h C;obtain⟨p,xs,i,z,rfl,rfl,T,he,q⟩:=h;cases l;obtain⟨t,rfl⟩:=o;obtain⟨a1,r,pl,hz⟩:=I.tuple T;obtain⟨j,h1,h2,h3,h4,h5⟩:=pN he;obtain⟨w,ew,U⟩:=r.get h2;have hl:=r.length;have hn:=iC;have js:EP X J g Q w s:=⟨z,H,I,U,q⟩;exact subscriptTail_builtinR (x:=w) pl.typeIs slot_tuple_getitem.lookup
  (getItem_tuple (j:=j) (Q:=λr s'=>r=w/\EP X J g Q r s') pl (by lia) (by lia) (by rw[Ao,<-hl];exact h1) (by simpa using ew) ⟨rfl,js⟩) C
theorem aix:IxR X asv:=by
 intro value slice J s σ H x y v u Q I U g h l;obtain⟨z,i,c,rfl,rfl,hz,o,q⟩:=h;obtain⟨t,rfl⟩:=U;obtain⟨t',rfl⟩:=g;obtain⟨j,h1,h2,h3,p,r⟩:=pN o;have C:z.cps.toList.length=z.length:=by simp[Str.length]
 rw[C] at h1 p r;have hn:=iC;exact tail_any (typeIs_str s z t) slot_str_getitem.lookup (getItem_str (c:=c) (by have T:decide (i < -(2 ^ 63:Int))=false:=Au (by lia);have e2:decide (i>=2 ^ 63)=false:=Au (by lia);rw[T,e2,Bool.or_false]) (by rw[h1];simpa using h2) ⟨.str ⟨#[c]⟩,H,I.tok _,⟨_,rfl⟩,q⟩) l
theorem u3(eH:List Value)(n j:Nat)(u:Value):Obj.mapSeq (·.setIfInBounds j u) { cls:=.type "list",data:=.seq eH.toArray n }={ cls:=.type "list",data:=.seq (eH.set j u).toArray n }:=by simp[Obj.mapSeq]
theorem z9.lst{p:Addr}(I:z9 X pins σ H s)(h:H p=some (.lst xs)):
 ∃(eH:List Value) (n:Nat),zo xs eH/\s.heap.get? p=some { cls:=.type "list",data:=.seq eH.toArray n }/\xs.length<=sizeLine:=by
 obtain⟨z,eH,n,r,e⟩:=I.hok p _ h;exact⟨eH,n,r,e,z⟩
theorem z9.lstUpd{p:Addr}{ys:List V}{its':List Value}{J:Nat}{f:Obj->Obj}(I:z9 X pins σ H s)(h:H p=some (.lst xs))
 (g:s.heap.get? p=some { cls:=.type "list",data:=.seq eH.toArray n }) (U:f { cls:=.type "list",data:=.seq eH.toArray n }={ cls:=.type "list",data:=.seq its'.toArray J }) (r:zo ys its') (hz:ys.length<=sizeLine) (t:Nat) (l:0<t:=by walk_at "t"):
 z9 X pins σ (upd H p (.lst ys)) { s with heap:=s.heap.update p f,toks:=t }:=by
 have e:(s.heap.update p f).get? p=some { cls:=.type "list",data:=.seq its'.toArray J }:=by rw[DT f g (by rw[U]<;>rfl),U]
 refine I.write (x:=p) (e:=p) (by rw[h];trivial) (.inl rfl) (λb u j q=>(At _ _ (AB j)).trans q) ⟨_,e⟩ ?_;exact⟨hz,its',J,r,e⟩
def ao2:V->V->V->Hp->(Hp->Prop)->Prop:=λo i v H Q=>∃p xs k j,o=.ref p/\i=.int k/\H p=some (.lst xs)/\ixN xs.length k=some j/\Q (upd H p (.lst (xs.set j v)))
theorem ack:aog X ao2:=by
 intro J s σ H o i v ov iv u Q I ro ri rv h;obtain⟨p,xs,k,j,rfl,rfl,T,hj,q⟩:=h;cases ro;obtain⟨t,rfl⟩:=ri;obtain⟨U,n,r,g,hz⟩:=I.lst T;obtain⟨h1,h2,h3,h4⟩:=wA hj;have l:=r.length;have hn:=iC;have I':z9 X J σ (upd H p (.lst (xs.set j v))) { s with heap:=s.heap.update p (Obj.mapSeq (·.setIfInBounds j u)) }:=
  I.lstUpd T g (u3 U n j u) (r.set rv j) (by rw[List.length_set];exact hz) s.toks
 by_cases h0:0<=k
 ·have C:k.toNat=j:=by rw[seqIndex_of h0 h4] at h1;exact AV h1
  exact PySem.W.ki_setAt g h0 (by lia) (by rw[Ao,<-l];exact h4) (by rw[C];exact⟨_,I',q⟩)
 ·have C:(k+(U.toArray.size:Int)).toNat=j:=by rw[seqIndex_neg (by lia) h3] at h1;rw[Ao,<-l];exact AV h1
  exact PySem.W.ki_setBack g (by lia) (by rw[Ao,<-l];exact h3) (by lia) (by rw[C];exact⟨_,I',q⟩)
theorem ou(lo hi:Option Int)(n:Nat):(sliceBounds lo hi none n).1=((HT.sIx n 0 lo:Nat):Int)/\(sliceBounds lo hi none n).2.1=((HT.sIx n n hi:Nat):Int)/\(sliceBounds lo hi none n).2.2=1:=by
 refine⟨?_,?_,rfl⟩
 ·cases lo with
  |none=>simp[sliceBounds,HT.sIx]
  |some i=>
   simp only[sliceBounds,HT.sIx,Option.getD_none,show(1:Int) > 0 by decide,if_true];by_cases h:i<0
   ·simp only[h,if_true]<;>lia
   ·simp only[h,if_false]<;>lia
 ·cases hi with
  |none=>simp[sliceBounds,HT.sIx]
  |some i=>
   simp only[sliceBounds,HT.sIx,Option.getD_none,show(1:Int) > 0 by decide,if_true];by_cases h:i<0
   ·simp only[h,if_true]<;>lia
   ·simp only[h,if_false]<;>lia
theorem mX(eH:List Value)(lo hi:Option Int):slicePick eH.toArray lo hi none=((eH.drop (HT.sIx eH.length 0 lo)).take (HT.sIx eH.length eH.length hi-HT.sIx eH.length 0 lo)).toArray:=by obtain⟨h1,h2,h3⟩:=ou lo hi eH.toArray.size;unfold slicePick;rw[h1,h2,h3];simp only[sliceRange_one,pick_run,Ao]<;>rfl
def aq9(K:Af):V->Option Int->Option Int->Hp->VK->Prop:=λx lo hi H Q=>∃a xs,x=.ref a/\aK K H a xs/\∀p,H p=none->Q (.ref p) (upd H p (.lst (rS xs lo hi)))
theorem afq:qN X (aq9 X.K):=by intro j s σ H x v vl vu lo g sl Q I p t pl C h;obtain⟨a,J,rfl,T,q⟩:=h;cases p;obtain⟨a1,r,l,hz⟩:=I.list T;have U:=r.length;refine⟨"list",_,slot_list_getitem.lookup,l.isList.typeIs,?_⟩;refine wpAny_getItem_list_slice l.isList t pl C .none (by simp) ?_ (by rw[Ao]<;>lia);rw[mX,<-U];refine⟨.ref s.heap.objs.size,_,I.laid (t':=s.toks) (o:=.lst (rS J lo g)) (λb ob q=>xT _ q) (Al _) ?_,rfl,q _ (I.hok.fresh (Al _))⟩;exact⟨AQ (i8 J lo g) hz,_,0,(r.drop (HT.sIx J.length 0 lo)).take (HT.sIx J.length J.length g-HT.sIx J.length 0 lo),y1 _ rfl⟩
def a7:V->Bool
 |.non=>true
 |.bl _=>true
 |.int _=>true
 |.str _=>true
 |_=>false
def ij:V->V->Bool
 |.non,.non=>true
 |.bl a,.bl b=>a==b
 |.bl a,.int b=>(if a then 1 else 0)==b
 |.int a,.bl b=>a==(if b then 1 else 0)
 |.int a,.int b=>a==b
 |.str a,.str b=>a==b
 |_,_=>false
theorem lL{y x:V}{v:Value}(g:zx y u)(J:zx x v)(l:a7 y=true)(j:a7 x=true):SeqAt.EqAt A s u v (ij y x):=by
 cases y with
 |non=>
  cases g;cases x with
  |non=>cases J;exact SeqAt.EqAt.same _
  |bl b=>cases J;exact SeqAt.EqAt.none_bool b
  |int b=>obtain⟨t,rfl⟩:=J;exact SeqAt.EqAt.none_int b t
  |str b=>obtain⟨t,rfl⟩:=J;exact SeqAt.EqAt.none_str b t
  |_=>exact absurd (show false=true from j) AA
 |bl a=>
  cases g;cases x with
  |non=>cases J;exact SeqAt.EqAt.bool_none a
  |bl b=>cases J;exact SeqAt.EqAt.bool_bool a b
  |int b=>obtain⟨t,rfl⟩:=J;exact SeqAt.EqAt.bool_int a b t
  |str b=>obtain⟨t,rfl⟩:=J;exact SeqAt.EqAt.bool_str a b t
  |_=>exact absurd (show false=true from j) AA
 |int a=>
  obtain⟨U,rfl⟩:=g;cases x with
  |non=>cases J;exact SeqAt.EqAt.int_none a U
  |bl b=>cases J;exact SeqAt.EqAt.int_bool a U b
  |int b=>obtain⟨t,rfl⟩:=J;exact SeqAt.EqAt.int_int a U b t
  |str b=>obtain⟨t,rfl⟩:=J;exact SeqAt.EqAt.int_str a U b t
  |_=>exact absurd (show false=true from j) AA
 |str a=>
  obtain⟨U,rfl⟩:=g;cases x with
  |non=>cases J;exact SeqAt.EqAt.str_none a U
  |bl b=>cases J;exact SeqAt.EqAt.str_bool a U b
  |int b=>obtain⟨t,rfl⟩:=J;exact SeqAt.EqAt.str_int a U b t
  |str b=>obtain⟨t,rfl⟩:=J;exact SeqAt.EqAt.str_str a U b t
  |_=>exact absurd (show false=true from j) AA
 |_=>exact absurd (show false=true from l) AA
def u5(x:V)(u:Value):Bool:=match u with
 |.none=>ij .non x
 |.bool b=>ij (.bl b) x
 |.int i _=>ij (.int i) x
 |.str z _=>ij (.str z) x
 |_=>false
theorem zW{x y:V}(r:zx y u)(f:a7 y=true):u5 x u=ij y x:=by
 cases y with
 |non=>cases r;rfl
 |bl b=>cases r;rfl
 |int i=>obtain⟨t,rfl⟩:=r;rfl
 |str z=>obtain⟨t,rfl⟩:=r;rfl
 |_=>exact absurd (show false=true from f) AA
theorem fg{x:V}:∀{xs:List V} {us:List Value},zo xs us->xs.all a7=true->us.any (u5 x)=xs.any λy=>ij y x
 |_,_,.nil,_=>rfl
 |y::xs,u::us,.cons r t,f=>by rw[Dy,A4] at f;rw[B5,B5,zW r f.1,fg t f.2]
theorem dt{A:Around}{s:Shared}{x:V}{v:Value}(U:zx x v)(g:a7 x=true):∀{xs:List V} {us:List Value},zo xs us->xs.all a7=true->∀u∈us,SeqAt.EqAt A s u v (u5 x u)
 |_,_,.nil,_=>λu J=>by cases J
 |y::xs,u::us,.cons r t,f=>λj J=>by
  rw[Dy,A4] at f;rcases Ap.mp J with rfl|J
  ·rw[zW r f.1];exact lL r U f.1 g
  ·exact dt U g t f.2 j J
def uY(x:V)(xs:List V):Bool:=xs.any λy=>ij y x
def rIn(K:Af)(neg:Bool):R2:=λx y H Q=>∃p xs,y=.ref p/\(aK K H p xs\/cD K H p xs)/\a7 x=true/\xs.all a7=true/\Q (.bl (if neg then !uY x xs else uY x xs)) H
theorem yO:vq X (compareOp .In) (rIn X.K false):=by
 intro g s C H x y v u Q I j o h;obtain⟨p,T,rfl,U,l,fs,q⟩:=h;cases o;rcases U with U|U
 ·obtain⟨J,r,pl,t⟩:=I.list U;refine SeqAt.in_listAt (u5 x) pl.isList (λw hw=>dt j l r fs w (by simpa using hw)) ⟨.bl _,H,I,rfl,?_⟩;rw[show J.toArray.any (u5 x)=J.any (u5 x) by simp,fg r fs];exact q
 ·obtain⟨J,r,pl,t⟩:=I.tuple U;refine SeqAt.in_tupleAt (u5 x) pl (λw hw=>dt j l r fs w (by simpa using hw)) ⟨.bl _,H,I,rfl,?_⟩;rw[show J.toArray.any (u5 x)=J.any (u5 x) by simp,fg r fs];exact q
theorem qJ:vq X (compareOp .NotIn) (rIn X.K true):=by
 intro g s C H x y v u Q I j o h;obtain⟨p,T,rfl,U,l,fs,q⟩:=h;cases o;rcases U with U|U
 ·obtain⟨J,r,pl,t⟩:=I.list U;refine SeqAt.notIn_listAt (u5 x) pl.isList (λw hw=>dt j l r fs w (by simpa using hw)) ⟨.bl _,H,I,rfl,?_⟩;rw[show J.toArray.any (u5 x)=J.any (u5 x) by simp,fg r fs];exact q
 ·obtain⟨J,r,pl,t⟩:=I.tuple U;refine SeqAt.notIn_tupleAt (u5 x) pl (λw hw=>dt j l r fs w (by simpa using hw)) ⟨.bl _,H,I,rfl,?_⟩;rw[show J.toArray.any (u5 x)=J.any (u5 x) by simp,fg r fs];exact q
theorem pq:x4 X (.builtin "len") (λxs H Q=>∃p ys,xs=[.ref p]/\(aK X.K H p ys\/cD X.K H p ys)/\Q (.int ys.length) H):=by
 intro l s C H xs T Q I r h;obtain⟨p,ys,rfl,U,q⟩:=h;obtain⟨u,rfl,o⟩:=i3 r;cases o;have hn:=iC;rcases U with U|U
 ·obtain⟨g,j,pl,t⟩:=I.list U;have J:=j.length;exact Calls.call_len_list pl.isList (by simp only[Ao]<;>lia) ⟨.int ys.length,H,I.tok _,⟨s.toks+1,by rw[Ao,J]⟩,q⟩
 ·obtain⟨g,j,pl,t⟩:=I.tuple U;have J:=j.length;exact len_tuple pl (by simp only[Ao]<;>lia) ⟨.int ys.length,H,I.tok _,⟨s.toks+1,by rw[Ao,J]⟩,q⟩
theorem o5:x4 X (.builtin "len") (λxs H Q=>∃z,xs=[.str z]/\z.length<=sizeLine/\Q (.int z.length) H):=by intro J s U H xs g Q I r h;obtain⟨z,rfl,j,q⟩:=h;obtain⟨u,rfl,t,rfl⟩:=i3 r;have l:=iC;exact len_str (by lia) ⟨.int z.length,H,I.tok _,⟨_,rfl⟩,q⟩
theorem pI:x4 X (.type "list") (λxs H Q=>∃p ys,xs=[.ref p]/\(aK X.K H p ys\/cD X.K H p ys)/\∀l,H l=none->Q (.ref l) (upd H l (.lst ys))):=by
 intro t s σ H xs us Q I r h;obtain⟨p,ys,rfl,C,q⟩:=h;obtain⟨u,rfl,rx⟩:=i3 r;cases rx;have js:∀(J:List Value),zo ys J->ys.length<=sizeLine->∀(U:Heap) (g:Nat),(∀b o',s.heap.get? b=some o'->U.get? b=some o')->
  U.get? s.heap.objs.size=some { cls:=.type "list",dict:=none,data:=.seq J.toArray g,slots:=#[] }->EP X t σ Q (.ref s.heap.objs.size) { s with heap:=U }:=λJ j T U g kp e=>
  ⟨.ref s.heap.objs.size,_,I.laid (t':=s.toks) kp (Al _) (show xo X.prog X.w _ U _ (.lst ys) from⟨T,J,g,j,e⟩),rfl,q _ (I.hok.fresh (Al _))⟩
 rcases C with C|C
 ·obtain⟨J,j,pl,T⟩:=I.list C;have a1:=j.length;obtain⟨o,ho,hc,n,hd⟩:=pl.isList;exact call_list_seq p (.inl rfl) ho hc hd (λU g kp e=>js J j T U g kp e) (by simp only[Ao]<;>lia)
 ·obtain⟨J,j,pl,T⟩:=I.tuple C;have a1:=j.length;obtain⟨o,ho,hc,n,hd⟩:=pl;exact call_list_seq p (.inr rfl) ho hc hd (λU g kp e=>js J j T U g kp e) (by simp only[Ao]<;>lia)
theorem m8:x4 X (.type "tuple") (λxs H Q=>∃p ys,xs=[.ref p]/\((aK X.K H p ys/\∀l,H l=none->Q (.ref l) (upd H l (.tup ys)))\/(cD X.K H p ys/\Q (.ref p) H))):=by
 intro J s C H xs us Q I r h;obtain⟨p,ys,rfl,h⟩:=h;obtain⟨u,rfl,rx⟩:=i3 r;cases rx;rcases h with⟨j,q⟩|⟨j,q⟩
 ·obtain⟨U,t,pl,T⟩:=I.list j;have a1:=t.length;refine call_tuple_list pl.isList (λg kp=>?_) (by simp only[Ao]<;>lia);have I1:z9 X J C H { s with heap:=g }:=I.kept (t':=s.toks) kp;have I2:z9 X J C (upd H g.objs.size (.tup ys)) { s with heap:=g.push { cls:=.type "tuple",data:=.seq U.toArray } }:=
   I1.laid (t':=s.toks) (λb o e=>xT _ e) (Al _) (show xo X.prog X.w _ _ _ (.tup ys) from⟨T,U,t,IsTup.new _ _⟩)
  exact⟨.ref g.objs.size,_,I2,rfl,q _ (I1.hok.fresh (Al _))⟩
 ·obtain⟨U,t,pl,T⟩:=I.tuple j;exact call_tuple_same pl ⟨.ref p,H,I,rfl,q⟩
def tyV(K:Af)(T:String)(x:V)(H:Hp):Prop:=match x with
 |.str _=>T = "str"
 |.int _=>T = "int"
 |.ref p=>(T = "list" /\ ∃xs,aK K H p xs)\/(T = "tuple" /\ ∃o,K.lookup p=some o/\o.cls=.type "tuple" /\ o.dict=none)\/
  (T = "dict" /\ ((∃kvs,H p=some (.dK kvs))\/∃kvs,H p=some (.dT kvs)))\/(T = "set" /\ ∃S n,H p=some (.set S n))
 |_=>False
theorem zS{T:String}{x:V}{v:Value}(I:z9 X pins σ H s)(r:zx x v)(ty:tyV X.K T x H):
 s.TypeIs v T/\∀a,v=.ref a->∃ob,s.heap.get? a=some ob/\ob.dict=none:=by
 cases x with
 |str z=>
  obtain⟨t,rfl⟩:=r;cases (show T = "str" from ty);exact⟨typeIs_str s z t,λ_ e=>nomatch e⟩
 |int i=>
  obtain⟨t,rfl⟩:=r;cases (show T = "int" from ty);exact⟨typeIs_int s i t,λ_ e=>nomatch e⟩
 |ref p=>
  cases r;rcases ty with⟨rfl,xs,j⟩|⟨rfl,o,J,l,hd⟩|⟨rfl,J⟩|⟨rfl,S,n,J⟩
  ·obtain⟨C,_,pl,_⟩:=I.list j;refine⟨pl.isList.typeIs,λa e=>?_⟩;cases e;obtain⟨o,n,e,c,hd,_⟩:=pl;exact⟨o,e,hd⟩
  ·refine⟨⟨o,I.kIn p o J,l⟩,λa e=>?_⟩;cases e;exact⟨o,I.kIn _ o J,hd⟩
  ·have z:∃o,s.heap.get? p=some o/\o.ExactDict:=by
    rcases J with⟨U,J⟩|⟨U,J⟩
    ·obtain⟨_,_,_,_,o,_,_,e,ex,_⟩:=I.hok p _ J;exact⟨o,e,ex⟩
    ·obtain⟨_,_,_,_,o,_,_,e,ex,_⟩:=I.hok p _ J;exact⟨o,e,ex⟩
   obtain⟨o,e,ex⟩:=z;refine⟨⟨o,e,ex.1⟩,λa g=>?_⟩;cases g;exact⟨o,e,ex.2.1⟩
  ·obtain⟨o,_,_,_,e,ex,_⟩:=I.hok p _ J;refine⟨⟨o,e,ex.1⟩,λa g=>?_⟩;cases g;exact⟨o,e,ex.2.1⟩
 |_=>exact False.elim ty
def aqb(K:Af)(T:String)(r:V->List V->Hp->VK->Prop)(to:TE):TE:=λσ H Q=>to σ H λx H1=>tyV K T x H1/\r x [] H1 Q
def tBM(K:Af)(T:String)(r:V->List V->Hp->VK->Prop)(to:TE)(t:TA):TE:=λσ H Q=>to σ H λx H1=>tyV K T x H1/\t σ H1 λxs H2=>r x xs H2 Q
variable {to:TE}{t:TA}{T id:String}{r:V->List V->Hp->VK->Prop}
theorem aju(pa:PlainAttrs T)(slot:Slot T name id)(j:typeOf (.builtin id)=pure (.type "method_descriptor"))(C:MtR X id r)(ho:PE X o to)
 (U:attributeBase o name X.env (eval o X.env)=eval o X.env:=by rfl) (g:(apos.endLine==fm.line)=true:=by rfl):PE X (.Call (.Attribute o name apos) [] [] fm) (aqb X.K T r to):=by
 intro J s l H Q I h;refine wpAny_Call_method0_late U g (aI (ho J s l H _ I h) λv s1 ⟨x,H1,p,t,ty,q1⟩=>?_);obtain⟨h1,h2⟩:=zS p t ty;exact⟨T,id,pa,slot,j,h1,h2,Calls.callWith_builtin rfl (PySem.evalArgs_none (C J s1 l H1 x [] v [] Q p t .nil q1))⟩
theorem ahi(pa:PlainAttrs T)(slot:Slot T name id)(p:typeOf (.builtin id)=pure (.type "method_descriptor"))(hm:MtR X id r)(ho:PE X o to)(ha:PA X (e::es) t)
 (g:attributeBase o name X.env (eval o X.env)=eval o X.env:=by rfl)
 (l:((backTo fm (starEach (e::es) X.env)).all (λx=>!x.1)&&(backToKw fm (keywordEach [] X.env)).all (λx=>x.1.isSome)
  && decide ((e::es).length+([]:List Keyword).length+(if ([]:List Keyword).isEmpty then 0 else 1)<30))=true:=by rfl)
 (j:(apos.endLine==fm.line)=true:=by rfl) (hs:Eb e es X:=by rfl) (U:Ec fm es X:=by rfl):
 PE X (.Call (.Attribute o name apos) (e::es) [] fm) (tBM X.K T r to t):=by
 intro J s C H Q I h;refine wpAny_Call_method_late g l j rfl (aI (ho J s C H _ I h) λv s1 ⟨x,H1,I1,r1,ty,q1⟩=>?_);obtain⟨h1,h2⟩:=zS I1 r1 ty;refine⟨T,id,pa,slot,p,h1,h2,?_⟩;have hA:=ha fm J s1 C H1 _ I1 q1;rw[hs] at hA ⊢;refine Calls.callWith_builtin (by show(false||(backTo fm (starEach es X.env)).any (·.1))=false;rw[U]<;>rfl) (Calls.evalArgs_plain ?_);exact aI hA λus s2 ⟨vs,H2,I2,r2,q2⟩=>hm J s2 C H2 x vs v us Q I2 r1 r2 q2
end
def fZ(X:Cx)(id:String)(r:V->List V->Hp->VK->Prop):Prop:=
 ∀(pins:List (Addr×Obj)) (s:Shared) (σ:St) (H:Hp) (x:V) (xs:List V) (v:Value) (us:List Value) (Q:VK),z9 X pins σ H s->zx x v->zo xs us->r x xs H Q->
  wpAny (model X.prog X.w) X.A (call (.builtin id) (v::us)) (EP X pins σ Q) X.xe s
theorem zo.one{x:V}(h:zo [x] us):∃u,us=[u]/\zx x u:=by cases h with|cons r t=>cases t;exact⟨_,rfl,r⟩
theorem zo.two{x y:V}(h:zo [x,y] us):∃u v,us=[u,v]/\zx x u/\zx y v:=by cases h with|cons r t=>cases t with|cons q t=>cases t;exact⟨_,_,rfl,r,q⟩
theorem zo.zero:∀{us:List Value},zo [] us->us=[]
 |_,.nil=>rfl
theorem zo.dropLast(h:zo xs us):zo xs.dropLast us.dropLast:=by
 induction h with
 |nil=>exact .nil
 |cons r t J=>
  cases t with|nil=>exact .nil|cons q U=>exact .cons r J
theorem zo.eraseIdx:∀{xs:List V} {us:List Value} (i:Nat),zo xs us->zo (xs.eraseIdx i) (us.eraseIdx i)
 |_,_,_,.nil=>.nil
 |_,_,0,.cons _ t=>t
 |_,_,i+1,.cons r t=>.cons r (zo.eraseIdx i t)
theorem zo.reverse(h:zo xs us):zo xs.reverse us.reverse:=by induction h with|nil=>exact .nil|cons r t J=>rw[CN,CN];exact zo.append J (.cons r .nil)
theorem uV(l:List α):l.eraseIdx (l.length-1)=l.dropLast:=by
 induction l with
 |nil=>rfl
 |cons a r J=>
  cases r with
  |nil=>rfl
  |cons b r=>
   have e:(a::b::r).length-1=((b::r).length-1)+1:=by have h1:(a::b::r).length=r.length+2:=rfl;have h2:(b::r).length=r.length+1:=rfl;lia
   rw[e,B8,J]
   all_goals rfl
theorem oD{α:Type}:∀(l:List α) (i:Nat),(l.eraseIdx i).length<=l.length
 |[],_=>Al _
 |_::_,0=>BZ _
 |_::r,i+1=>Nat.succ_le_succ (oD r i)
section
variable {ys:List V}
theorem z9.lset{its':List Value}{f:Array Value->Array Value}(I:z9 X pins σ H s)(J:H l=some (.lst xs))
 (e:s.heap.get? l=some { cls:=.type "list",data:=.seq eH.toArray n }) (U:f eH.toArray=its'.toArray) (g:zo ys its') (hz:ys.length<=sizeLine) (p:0<t':=by walk_at "t"):
 z9 X pins σ (upd H l (.lst ys)) { s with heap:=s.heap.update l (Obj.mapSeq f),toks:=t' }:=by
 have q:=PySem.IsL.update e f;rw[U] at q;refine I.write (x:=l) (e:=l) (by rw[J];exact trivial) (.inl rfl) (λr u j o=>(At s.heap (Obj.mapSeq f) (AB j)).trans o) ⟨_,q⟩ ?_;exact⟨hz,its',_,g,q⟩
theorem z9.lnew(I:z9 X pins σ H s)(J:zo ys eH)(hz:ys.length<=sizeLine)(U:0<t':=by walk_at "t"):
 z9 X pins σ (upd H s.heap.objs.size (.lst ys)) { s with heap:=s.heap.push { cls:=.type "list",data:=.seq eH.toArray },toks:=t' }:=
 I.laid (λ_ _ q=>xT _ q) (Al _) ⟨hz,eH,0,J,y1 _ rfl⟩
theorem z9.fresh(I:z9 X pins σ H s):H s.heap.objs.size=none:=I.hok.fresh (Al _)
theorem z9.lstM(I:z9 X pins σ H s)(J:H l=some (.lst xs)):xs.length<=sizeLine/\∃(eH:List Value) (n:Nat),zo xs eH/\xs.length=eH.length/\s.heap.get? l=some { cls:=.type "list",data:=.seq eH.toArray n }:=by obtain⟨z,eH,n,r,e⟩:=I.hok l _ J;exact⟨z,eH,n,r,r.length,e⟩
theorem zT(h:n<=sizeLine):Builtin.List.listTooLong n=false:=by unfold Builtin.List.listTooLong;exact Au (by lia)
end
def ah5:V->List V->Hp->VK->Prop:=λx vs H Q=>∃l xs y,x=.ref l/\vs=[y]/\H l=some (.lst xs)/\xs.length<sizeLine/\Q .non (upd H l (.lst (xs++[y])))
theorem y9:fZ X "list.append" ah5:=by intro U s t H x C v T Q I j o h;obtain⟨l,xs,y,rfl,rfl,g,hz,q⟩:=h;cases j;obtain⟨u,rfl,p⟩:=o.one;obtain⟨z,J,n,r,hl,e⟩:=I.lstM g;refine call_meets F.slot_list_append ⟨_,e,rfl⟩ F.entry_list_append (F.args_list_append_2 _ _) (PySem.list_append l J.toArray n u (by rw[Ao];lia)) ⟨e,?_⟩;refine⟨.non,_,I.lset (its':=J++[u]) g e (by simp) (r.append (.cons p .nil)) ?_,rfl,q⟩;rw[Ac,Bu];lia
def afa:V->List V->Hp->VK->Prop:=λx vs H Q=>∃l b xs zs,x=.ref l/\vs=[.ref b]/\H l=some (.lst xs)/\H b=some (.lst zs)/\xs.length+zs.length<=sizeLine/\Q .non (upd H l (.lst (xs++zs)))
theorem yR:fZ X "list.extend" afa:=by
 intro o s σ H x vs v us Q I t C h;obtain⟨l,b,xs,zs,rfl,rfl,p,T,hz,q⟩:=h;cases t;obtain⟨u,rfl,ru⟩:=C.one;cases ru;obtain⟨z,U,n,r,hl,e⟩:=I.lstM p;obtain⟨z2,J,n2,r2,a1,e2⟩:=I.lstM T;have j:U.toArray.size+J.toArray.size<=sizeLine:=by rw[Ao,Ao];lia
 have g:¬(!U.toArray.isEmpty&&Builtin.List.listTooLong (U.toArray.size+J.toArray.size))=true:=by rw[zT j,DS];exact AA
 refine call_meets F.slot_list_extend ⟨_,e,rfl⟩ F.entry_list_extend (F.args_list_extend_2 _ _)
  (AutoSeq1.list_extend_list_list_0 l U.toArray n b J.toArray n2 g (by rw[Ao];lia) (by lia)) ⟨e,e2,?_⟩
 refine⟨.non,_,I.lset (its':=U++J) p e (by simp) (r.append r2) ?_,rfl,q⟩;rw[Ac];lia
def art:V->List V->Hp->VK->Prop:=λx vs H Q=>∃l xs y,x=.ref l/\vs=[]/\H l=some (.lst xs)/\xs[xs.length-1]?=some y/\Q y (upd H l (.lst xs.dropLast))
theorem aiv:fZ X "list.pop" art:=by
 intro j s σ H x vs v us Q I p t h;obtain⟨l,xs,y,rfl,rfl,o,C,q⟩:=h;cases p;have U:=t.zero;subst U;obtain⟨z,J,n,r,T,e⟩:=I.lstM o;obtain⟨u,hu,ru⟩:=r.get C;have g:J.toArray[J.toArray.size-1]?=some u:=by show J.toArray[J.length-1]?=some u;rw[<-Be,<-T];exact hu
 refine call_meets F.slot_list_pop ⟨_,e,rfl⟩ F.entry_list_pop (F.args_list_pop_1 _) (MeetsSeq.list_pop_last l J.toArray n u g (by rw[Ao];lia)) ⟨e,?_⟩;refine⟨y,_,I.lset (its':=J.dropLast) o e ?_ r.dropLast ?_,ru,q⟩
 ·show J.toArray.eraseIdxIfInBounds (J.toArray.size-1)=J.dropLast.toArray;rw[Ao,CU,uV]
 ·rw[List.length_dropLast];lia
def ak9:V->List V->Hp->VK->Prop:=λx vs H Q=>∃l xs i k y,x=.ref l/\vs=[.int i]/\H l=some (.lst xs) /\ -(2 ^ 63)<=i/\i<2 ^ 63/\seqIndex? i xs.length=some k/\xs[k]?=some y/\Q y (upd H l (.lst (xs.eraseIdx k)))
theorem aah:fZ X "list.pop" ak9:=by
 intro g s σ H x vs v us Q I o p h;obtain⟨l,C,i,k,y,rfl,rfl,j,h1,h2,T,hy,q⟩:=h;cases o;obtain⟨u,rfl,ru⟩:=p.one;obtain⟨t,rfl⟩:=ru;obtain⟨z,J,n,r,hl,e⟩:=I.lstM j;obtain⟨w,hw,U⟩:=r.get hy;refine call_meets F.slot_list_pop ⟨_,e,rfl⟩ F.entry_list_pop (F.args_list_pop_2 _ _)
  (MeetsSeq.list_pop_at l J.toArray n i t k w (fitsIndex_both h1 h2) (by rw[Ao,<-hl];exact T) (by rw[<-Be];exact hw) (by rw[Ao];lia)) ⟨e,?_⟩
 refine⟨y,_,I.lset (its':=J.eraseIdx k) j e ?_ (r.eraseIdx k) ?_,U,q⟩
 ·show J.toArray.eraseIdxIfInBounds k=(J.eraseIdx k).toArray;rw[CU]
 ·have:=oD C k;lia
def zV:V->List V->Hp->VK->Prop:=λx vs H Q=>∃l xs,x=.ref l/\vs=[]/\H l=some (.lst xs)/\Q .non (upd H l (.lst xs.reverse))
theorem u7:fZ X "list.reverse" zV:=by intro g s t H x C v T Q I o p h;obtain⟨l,xs,rfl,rfl,j,q⟩:=h;cases o;have U:=p.zero;subst U;obtain⟨z,J,n,r,hl,e⟩:=I.lstM j;refine call_meets F.slot_list_reverse ⟨_,e,rfl⟩ F.entry_list_reverse (F.args_list_reverse_1 _) (AutoSeq1.list_reverse_list_0 l J.toArray n (by rw[Ao];lia)) ⟨e,?_⟩;refine⟨.non,_,I.lset (its':=J.reverse) j e (by simp) r.reverse ?_,rfl,q⟩;rw[Bk];lia
def at7:R2:=λx y H Q=>∃l b xs zs,x=.ref l/\y=.ref b/\H l=some (.lst xs)/\H b=some (.lst zs)/\xs.length+zs.length<=sizeLine/\∀p,H p=none->Q (.ref p) (upd H p (.lst (xs++zs)))
theorem aj8:vq X (binaryOp .Add) at7:=by
 intro g s σ H x y v u Q I j o h;obtain⟨l,b,xs,zs,rfl,rfl,p,t,hz,q⟩:=h;cases j;cases o;obtain⟨z,U,n,r,hl,e⟩:=I.lstM p;obtain⟨z2,J,n2,C,T,e2⟩:=I.lstM t;refine PySem.P.add_list e e2 ?_ (by rw[Ao,Ao];lia);have ea:U.toArray++J.toArray=(U++J).toArray:=by simp
 rw[ea];exact⟨.ref _,_,I.lnew (t':=s.toks) (r.append C) (by rw[Ac];lia),rfl,q _ I.fresh⟩
section
variable {w:World}
set_option maxRecDepth 100000 in
end
end L2
namespace Att
open PySem PySem.W PySem.Calls PyProof.Rows
theorem jC{P:Params} :∀(J:List Int) (vs:List Value),WellAll P h vs (J.map WData.int)->IntsAre vs J:=by
 intro J
 induction J with
 |nil=>
  intro vs w;rw[CM] at w;cases w;exact .nil
 |cons n J U=>
  intro vs w;rw[AO] at w;cases w with
  |cons a b=>
   cases a;exact .cons _ _ (U _ b)
theorem yN{l:OpenLaw}(hn:l.most=some n){P:Params}{args:List WData}{U:List Value}
 (g:l.row.toRowW.claim.pre args=true) (C:WellAll P h U args):
 ∃a vs J,U=[Value.ref a]/\args=[WData.list (J.map WData.int)]/\h.get? a=some { cls:=.type "list",data:=.seq vs.toArray }/\IntsAre vs J/\J.length<=n:=by
 have I:WShape.hasAll [] args [.list .int]=true:=(pre_splitW g).1;have T:l.pre.holds [] { args:=args }=true:=(pre_splitW g).2;obtain⟨d,r,rfl,h1,h2⟩:=hasAllW_cons I;obtain rfl:=hasAllW_nil h2;obtain⟨xs,rfl,h3⟩:=hasW_list h1;obtain⟨J,rfl⟩:=items_int h3;have j:J.length<=n:=by
  unfold OpenLaw.pre at T;have p:(WTm.not (.lt (.lit (.int (n:Int))) (.len (.arg 0)))).holds [] { args:=[.list (J.map .int)] }=true:=by have p:=(holds_andW T).1;rw[hn] at p;exact p
  have t:=condW_of p (w_not (w_lt w_lit (w_len_list (w_arg rfl))));rw[Ab] at t;refine Nat.le_of_not_lt λq=>?_;have q':(n:Int)<((J.length:Nat):Int):=by lia
  first
   |(rw[AG q'] at t;exact absurd t (by decide))
   |(simp at t;lia)
 cases C with
 |cons w1 w2=>
  cases w2;cases w1 with|list ho o=>exact⟨_,_,J,rfl,rfl,ho,jC J _ o,j⟩
theorem ye(l:OpenLaw)(args:List WData):l.row.toRowW.claim.post args (.bool true) args=true:=
 postW_of (r:=l.row.toRowW) (X:=(true==true))
  (show WShape.has [] (.bool true) .bool=true by first|rfl|decide|simp[WShape.has,WShape.arms,WShape.armsAll])
  (show(WTm.eq .res (.lit (.bool true))).value [] { args:=args,res:=some (.bool true),after:=args }=some (.bool (true==true)) from w_eq_bool (w_res rfl) w_lit) rfl
theorem attach_callZ{l:OpenLaw}{q:Program}{loose:List Str}{XP:(Str->Option Value)->Heap->Prop}{as0:List Addr}{N t:Nat}{K:Params->Frag}{d:DefRec}
 (hn:l.most=some n) (I:d.params.defaults=[]) (ek:∀P,as0=(K P).map (·.1)) (T:0<t)
 (call:∀(w:World) (s₀ J:Shared) (mg mb:Str->Option Value) (fa:Addr) (o:Obj) (pm cd hQ:Value) (a:Addr) (vs:List Value) (U:List Int),
  Ground q loose [] XP w s₀ mg mb J.heap->(K w.params).In J.heap->0<J.toks->
  J.heap.get? fa=some o->o.data=.func (docDef d.name d.params d.body d.scope pm cd hQ)->J.heap.CodeRec cd d.name->mg d.name=some (.ref fa)->
  J.heap.get? a=some { cls:=.type "list",data:=.seq vs.toArray }->IntsAre vs U->U.length<=n->J.gens=#[]->
  codeAny (model l.prog w) callerA (.call (.ref fa) ⟨[.ref a],[]⟩) (λr s'=>r=.ok (.ret (.bool true))/\OldK J.heap s'.heap/\s'.os=J.os/\AllBare s'.gens) J):
 WalkX q loose XP (PySem.W.X.obsZ as0) (PySem.W.X.valZ K N t) l.row.toRowW d [] (λf vs=>PySem.call f vs):=by
 intro w s₀ J mg mb G Y fa o pm cd hQ dV kV ho hd a1 hD a2 hg args a5 as L j ag al a3 au;obtain rfl:dV=.none:=Dflts.none hD I;obtain rfl:kV=.none:=Dflts.noKw hD;obtain⟨a,vs,U,rfl,rfl,p,g,C⟩:=yN hn j a3;obtain⟨_,zi,_,zt⟩:=X.z_facts ek Y;have eP:∀U:List Int,ofPy (PyData.list (U.map PyData.int))=WData.list (U.map WData.int):=λU=>by
  simp only[ofPy];congr 1
  induction U with|nil=>simp[ofPys]|cons n r ih=>simp only[AO,ofPys,ofPy,ih]
 rw[<-eP] at L;have KX:=InK.keeps w s₀.heap J.heap zi L.keeps;have a4:0<J.toks:=AM T (X.script_toks L zt);refine enter_call (codeAny_mono (call w s₀ J mg mb fa o pm cd hQ a vs U G KX a4 ho (fd_plain hd) a1 a2 p g C hg) λr s' hq=>?_);obtain⟨rfl,h2,h3,h4⟩:=hq;exact⟨.inl ⟨.bool true,.bool true,[],rfl,λ_=>rfl,.bool true,ye l _,λ_=>⟨List.Pairwise.nil,λ_ hm=>(nomatch hm)⟩⟩,h2,h3,h4⟩
section
variable {w:World}{K:Frag}
end
end Att
namespace L2
open PySem PySem.Spec PyProof.Rows
theorem mf:∀{vs:List Value} {J:List Int},IntsAre vs J->zo (J.map V.int) vs
 |_,_,.nil=>.nil
 |_,_,.cons n t h=>.cons ⟨t,rfl⟩ (mf h)
def xx(s:Stmt):Arguments:=match s with
 |.FunctionDef _ a _ _ _ _ _ _ _ _=>a
 |_=>{ posonlyargs:=[],args:=[],vararg:=none,kwonlyargs:=[],kw_defaults:=[],kwarg:=none,defaults:=[] }
def ji(s:Stmt):List Stmt:=match s with
 |.FunctionDef _ _ b _ _ _ _ _ _ _=>b
 |_=>[]
def qy(s:Stmt):Scope:=match s with
 |.FunctionDef _ _ _ _ _ _ J _ _ _=>J
 |_=>{ kind:=.function,names:=[],isGenerator:=false,isCoroutine:=false }
abbrev CX0:vU:=λ_ _ _ _ _ _=>False
abbrev E0:XK:=λ_ _ _=>False
theorem ao4 :uT CX0 X E0:=λ_ _ _ _ _ _ _ h=>h.elim
structure Fun(K:Af)(x eK:Str)(st:Stmt)(f:Addr)(fd:FuncData):Prop where
 ex:∃(oc:Value) (od:Option Addr) (kV hQ pm:Value) (an:Option Addr) (fx ct:Value) (sm:Array (Option Value)),
  fd=PySem.W.fnOf x eK (xx st) (ji st) (qy st) .none kV hQ pm an fx ct/\K.lookup f=some ⟨oc,od,.func fd,sm⟩/\PySem.W.codeIn K fx eK=true
 kp:PySem.W.keepIn K (.ref f)=true
section
variable {P:Program}{w:World}{K:Af}
theorem Fun.ok{N:List Str}{k:Nat}(F:Fun K x eK st f fd)(S:aD N ps (qy st))(len:∀vs H Q E,sp vs H Q E->vs.length=ps.length)
 (J:∀(fx:Value) (A:Around) (outer:List Env) (s:Shared) (H:Hp) (vs:List V) (Q:VK) (E:XK),wb k (A.deeper (envOfC eK (qy st) s.heap.objs.size f fx))->sp vs H Q E->
  ∃t,gH (cZ CX0 P w K mg base N eK (qy st) f fx A outer s H E).nox (ji st) t/\t { nx:=λ_ H'=>Q .non H',rt:=Q } (start N vs) H):ar P w K mg base CX0 (k+1) f fd ps sp:=by
 obtain⟨p,r,kV,j,pm,an,fx,C,l,rfl,lk,U⟩:=F.ex;refine adm lk U S len λA outer s H vs Q E o g=>?_;obtain⟨t,h,q⟩:=J fx A outer s H vs Q E o g;exact⟨t,h.nox,q⟩
theorem akh{kV:Value}(l:K.lookup f=some ⟨oc,od,.func (PySem.W.fnOf x eK (xx st) (ji st) (qy st) .none kV hQ pm an fx ct),sm⟩)
 (c:PySem.W.codeIn K fx eK=true) (k:PySem.W.keepIn K (.ref f)=true):Fun K x eK st f (PySem.W.fnOf x eK (xx st) (ji st) (qy st) .none kV hQ pm an fx ct):=⟨⟨oc,od,kV,hQ,pm,an,fx,ct,sm,rfl,l,c⟩,k⟩
end
theorem oP(h:n<=1000):n<sizeLine:=CD h (by decide)
theorem pv(i:Nat)(U:X.N[i]?=some x:=by rfl)(g:Vis X.env.scope x:=by first|exact Or.inl rfl|exact Or.inr (Or.inl rfl)|exact Or.inr (Or.inr rfl))(hd:Ed x:=by decide)
 (J:Ee x:=by decide):PE X (.Name x pos) (al8 i):=ak3 U g hd J
section
variable [DecidableEq κ]
end
end L2
set_option maxHeartbeats 8000000
theorem asy{a b c:Nat}(h:a<b:=by assumption)(k:b<=c:=by assumption):a<c:=AM h k
theorem acx{a b c:Nat}(h:a<=b:=by assumption)(k:b<c:=by assumption):a<c:=CD h k
theorem amq{a b c:Nat}(h:a<=b:=by assumption)(k:b<=c:=by assumption):a<=c:=AQ h k
theorem abk{a b c:Nat}(h:a<b:=by assumption)(k:b<c:=by assumption):a<c:=Nat.lt_trans h k
theorem ah1{a b c:Nat}(h:a<=b:=by assumption)(k:b<=c:=by decide):a<=c:=AQ h k
theorem aiy{a b:Nat}(h:a<=b:=by assumption):a<b+1:=Nat.lt_succ_of_le h
theorem asc{a b:Nat}(h:a<=b:=by assumption):a<=b+1:=B1 h
theorem uI{a b:Nat}(h:a<b:=by assumption):a<=b:=Bd h
theorem ame{a b:Nat}(h:a<b:=by assumption):a≠b:=A1 h
theorem arq{a b:Nat}(h:b<a:=by assumption):a≠b:=Cs h
theorem ar3{a:Nat}(h:a≠0:=by assumption):0<a:=Nat.pos_of_ne_zero h
theorem amk{a b c:Nat}(h:a<b:=by assumption)(k:b<=c:=by assumption):a<=c:=AQ (Bd h) k
theorem ao1{a b c:Nat}(h:a<b:=by assumption):a<b+c:=AM h (BG _ _)
theorem yK{a b:Nat}(h:a=b:=by assumption):a<=b:=Nat.le_of_eq h
theorem aaj{a b:Nat}(h:¬a<b:=by assumption):b<=a:=Nat.le_of_not_lt h
theorem ark{a b:Nat}(h:a<b+1:=by assumption):a<=b:=Nat.le_of_lt_succ h
theorem amu{a b:Nat}(h:0<a:=by assumption)(k:0<b:=by decide):a-b<a:=Nat.sub_lt h k
theorem tj{a b c:Nat}(h:a<c:=by assumption):a-b<c:=CD (Nat.sub_le _ _) h
theorem aqh{a b:Nat}(h:a<=b:=by assumption)(k:a≠b:=by assumption):a<b:=Nat.lt_of_le_of_ne h k
namespace L2
open PySem PySem.Spec PyProof.Rows
def aqv:R2:=λx y H Q=>match x,y with
 |.int i,.int j=>Q (.int (i+j)) H
 |.str a,.str b=>a.length+b.length<=sizeLine/\Q (.str (a++b)) H
 |.ref l,.ref b=>∃xs zs,H l=some (.lst xs)/\H b=some (.lst zs)/\xs.length+zs.length<=sizeLine/\∀p,H p=none->Q (.ref p) (upd H p (.lst (xs++zs)))
 |_,_=>False
theorem ahf:vq X (binaryOp .Add) aqv:=by
 intro J s U H x y v u Q I g j h;cases x<;>cases y<;>first
  |exact False.elim h
  |exact aif J s U H _ _ v u Q I g j ⟨_,_,rfl,rfl,h⟩
  |exact tX J s U H _ _ v u Q I g j ⟨_,_,rfl,rfl,h.1,h.2⟩
  |(obtain⟨l,o,h1,h2,h3,p⟩:=h;exact aj8 J s U H _ _ v u Q I g j ⟨_,_,l,o,rfl,rfl,h1,h2,h3,p⟩)
def KD(K:Af)(P:Program)(w:World)(a:Addr)(kvs:List (jg×V)):Prop:=
 (a==sysModules)=false/\kvs.length<=sizeLine/\∀h:Heap,K.In h->∃vs,KV kvs vs/\h.DictOf (v4 P w) a vs
def uIx(K:Af)(P:Program)(w:World):R2:=λx y H Q=>match x,y with
 |.str z,.int i=>z.length<=sizeLine/\∃c,eM z.cps.toList i=some c/\Q (.str ⟨#[c]⟩) H
 |.ref p,.int i=>∃xs v,(aK K H p xs\/cD K H p xs)/\eM xs i=some v/\Q v H
 |.ref p,.str k=>∃kvs v,(Rd H p (.dK kvs)\/KD K P w p kvs)/\a8 kvs (Sum.inr k)=some v/\Q v H
 |_,_=>False
theorem abc{slice:Expr}{vs:List (jg×Value)}{k:jg}{J:Value}{Q:VK}(I:z9 X pins σ H s)(dd:s.heap.DictOf (v4 X.prog X.w) a vs)(U:lD k u=true)
 (hw:valueAt vs k=some J) (r:zx v J) (q:Q v H) (hs:subscripted slice false (.ref a) u=operate [.ref a,u] (getItem (.ref a) u)):wpAny (model X.prog X.w) X.A (subscriptTail value slice (.ref a) u) (EP X pins σ Q) X.xe s:=
 tail_any dd.typeIs Do.lookup (wpAny_getItem_of U dd.mapOf hw ⟨v,H,I.tok _,r,q⟩) hs
theorem ao6:IxR X (uIx X.K X.prog X.w):=by
 intro value slice J s T H x y v u Q I t C q g;cases x with
 |str z=>
  cases y with
  |int i=>
   obtain⟨h1,c,h2,h3⟩:=q;exact aix value slice J s T H _ _ v u Q I t C ⟨z,i,c,rfl,rfl,h1,h2,h3⟩ g
  |_=>exact q.elim
 |ref p=>
  cases y with
  |int i=>
   obtain⟨xs,j,h1,h2,h3⟩:=q;rcases h1 with h1|h1
   ·exact afl value slice J s T H _ _ v u Q I t C ⟨p,xs,i,j,rfl,rfl,h1,h2,h3⟩ g
   ·exact ajk value slice J s T H _ _ v u Q I t C ⟨p,xs,i,j,rfl,rfl,h1,h2,h3⟩ g
  |str k=>
   obtain⟨a1,j,h1,h2,h3⟩:=q;have l:zx (kV (Sum.inr k)) u:=C;cases (show v=Value.ref p from t);rcases h1 with h1|h1
   ·obtain⟨z,hd,vs,rel,r⟩:=oQ I.hok h1;obtain⟨w2,hw,U⟩:=EK (v:=j) (o:=valueAt vs (Sum.inr k)) (by rw[<-h2];exact rel.val _);exact abc I r (iY (P:=X.prog) (w:=X.w) l) hw U h3 g
   ·obtain⟨hd,z,r⟩:=h1;obtain⟨vs,rel,r⟩:=r s.heap I.kIn;obtain⟨w2,hw,U⟩:=EK (v:=j) (o:=valueAt vs (Sum.inr k)) (by rw[<-h2];exact rel.val _);exact abc I r (iY (P:=X.prog) (w:=X.w) l) hw U h3 g
  |_=>exact q.elim
 |_=>cases y<;>exact q.elim
def apm(K:Af):List V->Hp->VK->Prop:=λxs H Q=>match xs with
 |[.str z]=>z.length<=sizeLine/\Q (.int z.length) H
 |[.ref p]=>∃ys,(aK K H p ys\/cD K H p ys)/\Q (.int ys.length) H
 |_=>False
theorem xR:x4 X (.builtin "len") (apm X.K):=by
 intro J s U H j g Q I r h
 match j,h with
 |[.str z],h=>exact o5 J s U H _ g Q I r ⟨z,rfl,h.1,h.2⟩
 |[.ref p],h=>
  obtain⟨l,h1,h2⟩:=h;exact pq J s U H _ g Q I r ⟨p,l,rfl,h1,h2⟩
inductive Da where
 |s (v:V)
 |tup (xs:List Da)
 |lst (xs:List Da)
mutual
def Da.eq:Da->Da->Bool
 |.s v,.s w=>ij v w
 |.tup xs,.tup ys=>Da.eqs xs ys
 |.lst xs,.lst ys=>Da.eqs xs ys
 |_,_=>false
def Da.eqs:List Da->List Da->Bool
 |[],[]=>true
 |x::xs,y::ys=>Da.eq x y&&Da.eqs xs ys
 |_,_=>false
end
def vg(K:Af)(H:Hp):Nat->V->Da->Prop
 |0,v,d=>d=.s v/\a7 v=true
 |n+1,v,d=>(d=.s v/\a7 v=true)\/(∃a xs ds,v=.ref a/\d=.tup ds/\cD K H a xs/\Paired (vg K H n) xs ds)\/(∃a xs ds,v=.ref a/\d=.lst ds/\aK K H a xs/\Paired (vg K H n) xs ds)
theorem Da.eqs_range:∀(ds es:List Da),((List.range (min ds.length es.length)).all (λj=>Da.eq (ds.getD j (.s .non)) (es.getD j (.s .non)))&&ds.length==es.length)=Da.eqs ds es
 |[],[]=>by simp[Da.eqs]
 |[],e::es=>by simp[Da.eqs]
 |d::ds,[]=>by simp[Da.eqs]
 |d::ds,e::es=>by
  have J:=Da.eqs_range ds es;rw[Da.eqs,<-J];have:min (d::ds).length (e::es).length=min ds.length es.length+1:=by simp only[AL];lia
  rw[this,List.range_succ_eq_map,Dy,List.all_map];have h2:((d::ds).length==(e::es).length)=(ds.length==es.length):=by simp
  rw[h2,Bool.and_assoc];rfl
abbrev EC:=@Da.eqs_range
theorem Paired.at{α β:Type}{F:α->β->Prop}:∀{xs:List α} {ys:List β} {j:Nat} {x:α} {y:β},Paired F xs ys->xs[j]?=some x->ys[j]?=some y->F x y
 |_,_,_,_,_,.nil,h,_=>by simp at h
 |_,_,0,_,_,.cons r _,h1,h2=>by simp at h1 h2;subst h1 h2;exact r
 |_,_,j+1,_,_,.cons _ t,h1,h2=>Paired.at (j:=j) t (by simpa using h1) (by simpa using h2)
abbrev DZ:=@Paired.at
theorem gc:∀{v:V},a7 v=true->ij v v=true
 |.non,_=>rfl
 |.bl _,_=>by simp[ij]
 |.int _,_=>by simp[ij]
 |.str _,_=>by simp[ij]
theorem j7(h:a7 (.ref a)=true):False:=by simp[a7] at h
theorem z9.notBoth(I:z9 X pins σ H s){ys:List V}(h:cD X.K H a xs)(h':aK X.K H a ys):False:=by
 obtain⟨j,_,⟨o,e,c,_⟩,_⟩:=I.tuple h;obtain⟨U,_,⟨l,p,g,J,_⟩,_⟩:=I.list h';rw[e] at g;cases g;rw[c] at J;injection J with J
 exact absurd J (by decide)
theorem jM(I:z9 X pins σ H s):∀(n:Nat) {m:Nat} {x:V} {d e:Da},vg X.K H n x d->vg X.K H m x e->Da.eq d e=true
 |0,m,x,d,e,h1,h2=>by
  obtain⟨rfl,f⟩:=h1;cases m with
  |zero=>obtain⟨rfl,_⟩:=h2;exact gc f
  |succ m=>
   rcases h2 with⟨rfl,_⟩|⟨a,g,j,rfl,_⟩|⟨a,g,j,rfl,_⟩
   ·exact gc f
   ·exact(j7 f).elim
   ·exact(j7 f).elim
 |n+1,m,x,d,e,h1,h2=>by
  have both:∀{g:List V} {j l:List Da} {m:Nat},Paired (vg X.K H n) g j->Paired (vg X.K H m) g l->Da.eqs j l=true:=by
   intro g j l m p
   induction p generalizing l with
   |nil=>intro q;cases q;rfl
   |cons r t ih=>
    intro q;cases q with|cons r' t'=>rw[Da.eqs,jM I n r r',ih t'];rfl
  rcases h1 with⟨rfl,f⟩|⟨a,g,j,rfl,rfl,C,T⟩|⟨a,g,j,rfl,rfl,C,T⟩
  ·cases m with
   |zero=>obtain⟨rfl,_⟩:=h2;exact gc f
   |succ m=>
    rcases h2 with⟨rfl,_⟩|⟨a,g,j,rfl,_⟩|⟨a,g,j,rfl,_⟩
    ·exact gc f
    ·exact(j7 f).elim
    ·exact(j7 f).elim
  ·cases m with
   |zero=>exact(j7 h2.2).elim
   |succ m=>
    rcases h2 with⟨_,f⟩|⟨a',ys,l,o,rfl,J,U⟩|⟨a',ys,l,o,rfl,J,U⟩
    ·exact(j7 f).elim
    ·cases o;cases I.tuple_inj C J;exact both T U
    ·cases o;exact(I.notBoth C J).elim
  ·cases m with
   |zero=>exact(j7 h2.2).elim
   |succ m=>
    rcases h2 with⟨_,f⟩|⟨a',ys,l,o,rfl,J,U⟩|⟨a',ys,l,o,rfl,J,U⟩
    ·exact(j7 f).elim
    ·cases o;exact(I.notBoth J C).elim
    ·cases o;cases I.list_inj C J;exact both T U
theorem j5{eH:Array Value}(p:PlainL h a eH):h.IsList a eH:=let ⟨o,n,e,c,_,d⟩:=p;⟨o,e,c,n,d⟩
theorem fk{ys:List V}{ds es:List Da}{vs:List Value}(px:Paired (vg X.K H n) xs ds)(py:Paired (vg X.K H m) ys es)(J:zo xs us)(U:zo ys vs)
 (r:∀{x y:V} {d e:Da} {u v:Value},vg X.K H n x d->vg X.K H m y e->zx x u->zx y v->SeqAt.EqAt A.in1 s u v (Da.eq d e)):
 ∀j (h1:j<us.toArray.size) (h2:j<vs.toArray.size),SeqAt.EqAt A.in1 s us.toArray[j] vs.toArray[j] (Da.eq (ds.getD j (.s .non)) (es.getD j (.s .non))):=by
 intro j h1 h2;have I:=px.length;have T:=py.length;have l3:=J.length;have l4:=U.length;rw[Ao] at h1 h2;have g:xs[j]?=some xs[j]:=Ae (by lia);have l:ys[j]?=some ys[j]:=Ae (by lia);have o:ds[j]?=some ds[j]:=Ae (by lia);have p:es[j]?=some es[j]:=Ae (by lia);have t:us[j]?=some us[j]:=Ae (by lia);have C:vs[j]?=some vs[j]:=Ae (by lia);rw[Bo,Bo,o,p];exact r (DZ px g o) (DZ py l p) (DZ J g t) (DZ U l C)
theorem mi{ys:List V}{ds es:List Da}(I:z9 X pins σ H s)(g:A.units<cLine)(j:cD X.K H a xs)(l:cD X.K H b ys)(px:Paired (vg X.K H n) xs ds)(py:Paired (vg X.K H m) ys es)
 (o:∀{x y:V} {d e:Da} {u v:Value},vg X.K H n x d->vg X.K H m y e->zx x u->zx y v->SeqAt.EqAt A.in1 s u v (Da.eq d e)):SeqAt.RcAt A s (.ref a) (.ref b) (Da.eqs ds es):=by
 obtain⟨r,J,p,_⟩:=I.tuple j;obtain⟨t,U,ty,_⟩:=I.tuple l;have q:=SeqAt.RcAt.tuples p ty g (fk px py J U o);rw[Ao,Ao,<-J.length,<-U.length,px.length,py.length,EC] at q;exact q
theorem qX{ys:List V}{ds es:List Da}(I:z9 X pins σ H s)(l:A.units<cLine)(p:aK X.K H a xs)(r:aK X.K H b ys)(px:Paired (vg X.K H n) xs ds)(py:Paired (vg X.K H m) ys es)
 (t:∀{x y:V} {d e:Da} {u v:Value},vg X.K H n x d->vg X.K H m y e->zx x u->zx y v->SeqAt.EqAt A.in1 s u v (Da.eq d e)):SeqAt.RcAt A s (.ref a) (.ref b) (Da.eqs ds es):=by
 obtain⟨C,U,o,_⟩:=I.list p;obtain⟨T,j,ty,_⟩:=I.list r;by_cases g:C.toArray.size=T.toArray.size
 ·have q:=SeqAt.RcAt.lists (j5 o) (j5 ty) g l (fk px py U j t);have J:ds.length=es.length:=by rw[<-px.length,<-py.length,U.length,j.length];simpa using g
  have e:=EC ds es;rw[J,Nat.min_self] at e;rw[<-J] at e;rw[Ao,<-U.length,px.length] at q;simp only[beq_self_eq_true,Bool.and_true] at e;rw[e] at q;exact q
 ·have q:=SeqAt.RcAt.lists_lengths (j5 o) (j5 ty) (by simpa using g) l;have J:ds.length≠es.length:=by rw[<-px.length,<-py.length,U.length,j.length];intro z;exact g (by simpa using z)
  have e:=EC ds es;have f:(ds.length==es.length)=false:=by simpa using J
  rw[f,DS] at e;rw[<-e];exact q
theorem gv(I:z9 X pins σ H s):∀(n:Nat) {m:Nat} {A:Around} {x y:V} {d e:Da} {u v:Value},A.units+n<cLine->vg X.K H n x d->vg X.K H m y e->zx x u->zx y v->SeqAt.EqAt A s u v (Da.eq d e):=by
 have J:∀{A:Around} {x:V} {u:Value} {b:Addr} {p:List V},A.units<cLine->a7 x=true->zx x u->(cD X.K H b p\/aK X.K H b p)->SeqAt.EqAt A s u (.ref b) false/\SeqAt.EqAt A s (.ref b) u false:=by
  intro A x u b p g f r h;have h':(∃C,s.heap.IsTuple b C)\/∃C,s.heap.IsList b C:=by
   rcases h with h|h
   ·obtain⟨C,_,t,_⟩:=I.tuple h;exact .inl ⟨_,t⟩
   ·obtain⟨C,_,t,_⟩:=I.list h;exact .inr ⟨_,j5 t⟩
  cases x with
  |non=>cases r;rcases h' with⟨_,t⟩|⟨_,t⟩;exact⟨.none_tuple t g,.tuple_none t g⟩;exact⟨.none_list t g,.list_none t g⟩
  |bl k=>cases r;rcases h' with⟨_,t⟩|⟨_,t⟩;exact⟨.bool_tuple k t g,.tuple_bool k t g⟩;exact⟨.bool_list k t g,.list_bool k t g⟩
  |int k=>obtain⟨tk,rfl⟩:=r;rcases h' with⟨_,t⟩|⟨_,t⟩;exact⟨.int_tuple k tk t g,.tuple_int k tk t g⟩;exact⟨.int_list k tk t g,.list_int k tk t g⟩
  |str k=>obtain⟨tk,rfl⟩:=r;rcases h' with⟨_,t⟩|⟨_,t⟩;exact⟨.str_tuple k tk t g,.tuple_str k tk t g⟩;exact⟨.str_list k tk t g,.list_str k tk t g⟩
  |_=>simp[a7] at f
 intro n
 induction n with
 |zero=>
  intro m A x y d e u v g h1 h2 T j;obtain⟨rfl,f⟩:=h1;cases m with
  |zero=>obtain⟨rfl,l⟩:=h2;exact lL T j f l
  |succ m=>
   rcases h2 with⟨rfl,l⟩|⟨b,p,es,rfl,rfl,U,py⟩|⟨b,p,es,rfl,rfl,U,py⟩
   ·exact lL T j f l
   ·cases j;exact(J (by lia) f T (.inl U)).1
   ·cases j;exact(J (by lia) f T (.inr U)).1
 |succ n ih=>
  intro m A x y d e u v g h1 h2 T j;have a2:A.in1.units+n<cLine:=by show A.units+1+n<cLine;lia
  rcases h1 with⟨rfl,f⟩|⟨a,xs,ds,rfl,rfl,o,px⟩|⟨a,xs,ds,rfl,rfl,o,px⟩
  ·cases m with
   |zero=>obtain⟨rfl,l⟩:=h2;exact lL T j f l
   |succ m=>
    rcases h2 with⟨rfl,l⟩|⟨b,p,es,rfl,rfl,U,py⟩|⟨b,p,es,rfl,rfl,U,py⟩
    ·exact lL T j f l
    ·cases j;exact(J (by lia) f T (.inl U)).1
    ·cases j;exact(J (by lia) f T (.inr U)).1
  ·cases T;cases m with
   |zero=>obtain⟨rfl,l⟩:=h2;exact(J (by lia) l j (.inl o)).2
   |succ m=>
    rcases h2 with⟨rfl,l⟩|⟨b,p,es,rfl,rfl,U,py⟩|⟨b,p,es,rfl,rfl,U,py⟩
    ·exact(J (by lia) l j (.inl o)).2
    ·cases j;by_cases a1:a=b
     ·subst a1;cases I.tuple_inj o U;have e:Da.eq (.tup ds) (.tup es)=true:=jM I (n+1) (m:=m+1) (x:=.ref a) (.inr (.inl ⟨a,xs,ds,rfl,rfl,o,px⟩)) (.inr (.inl ⟨a,xs,es,rfl,rfl,U,py⟩));rw[e];exact .same _
     ·exact .of_refs a1 (mi I (by lia) o U px py λh1 h2 r1 r2=>ih a2 h1 h2 r1 r2)
    ·cases j;obtain⟨us,vx,tx,_⟩:=I.tuple o;obtain⟨vs,vy,ty,_⟩:=I.list U;exact .tuple_list tx (j5 ty) (by lia)
  ·cases T;cases m with
   |zero=>obtain⟨rfl,l⟩:=h2;exact(J (by lia) l j (.inr o)).2
   |succ m=>
    rcases h2 with⟨rfl,l⟩|⟨b,p,es,rfl,rfl,U,py⟩|⟨b,p,es,rfl,rfl,U,py⟩
    ·exact(J (by lia) l j (.inr o)).2
    ·cases j;obtain⟨us,vx,tx,_⟩:=I.list o;obtain⟨vs,vy,ty,_⟩:=I.tuple U;exact .list_tuple (j5 tx) ty (by lia)
    ·cases j;by_cases a1:a=b
     ·subst a1;cases I.list_inj o U;have e:Da.eq (.lst ds) (.lst es)=true:=jM I (n+1) (m:=m+1) (x:=.ref a) (.inr (.inr ⟨a,xs,ds,rfl,rfl,o,px⟩)) (.inr (.inr ⟨a,xs,es,rfl,rfl,U,py⟩));rw[e];exact .same _
     ·exact .of_refs a1 (qX I (by lia) o U px py λh1 h2 r1 r2=>ih a2 h1 h2 r1 r2)
def uEq(K:Af)(k:Nat):R2:=λx y H Q=>match x,y with
 |.ref a,.ref b=>∃n m d e,n<=k/\vg K H n (.ref a) d/\vg K H m (.ref b) e/\Q (.bl (Da.eq d e)) H
 |x,y=>aeb x y=true/\Q (.bl (decide (x=y))) H
theorem al4{k:Nat}(hu:X.A.units+k<cLine):vq X (compareOp .Eq) (uEq X.K k):=by
 intro J s o H x y v u Q I p t h;cases x with
 |ref a=>
  cases y with
  |ref b=>
   obtain⟨n,m,d,e,hn,h1,h2,q⟩:=h;cases p;cases t;have js:∀{k:Bool},k=Da.eq d e->SeqAt.RcAt X.A s (.ref a) (.ref b) k->wpAny (model X.prog X.w) X.A (compareOp .Eq (.ref a) (.ref b)) (EP X J o Q) X.xe s:=λ{k} e' r=>
    r X.prog X.w X.xe (EP X J o Q) (by rw[e'];exact⟨.bl _,H,I,rfl,q⟩)
   cases n with
   |zero=>exact(j7 h1.2).elim
   |succ n=>
    cases m with
    |zero=>exact(j7 h2.2).elim
    |succ m=>
     have j:X.A.in1.units+n<cLine:=by show X.A.units+1+n<cLine;lia
     rcases h1 with⟨_,f⟩|⟨a',xs,ds,C,rfl,l,T⟩|⟨a',xs,ds,C,rfl,l,T⟩
     ·exact(j7 f).elim
     ·cases C;rcases h2 with⟨_,f⟩|⟨b',ys,es,U,rfl,g,py⟩|⟨b',ys,es,U,rfl,g,py⟩
      ·exact(j7 f).elim
      ·cases U;exact js rfl (mi I (by lia) l g T py λh1 h2 r1 r2=>gv I n j h1 h2 r1 r2)
      ·cases U;obtain⟨us,vx,tx,_⟩:=I.tuple l;obtain⟨vs,vy,ty,_⟩:=I.list g;exact js rfl (.tuple_list tx (j5 ty) (by lia))
     ·cases C;rcases h2 with⟨_,f⟩|⟨b',ys,es,U,rfl,g,py⟩|⟨b',ys,es,U,rfl,g,py⟩
      ·exact(j7 f).elim
      ·cases U;obtain⟨us,vx,tx,_⟩:=I.list l;obtain⟨vs,vy,ty,_⟩:=I.tuple g;exact js rfl (.list_tuple (j5 tx) ty (by lia))
      ·cases U;exact js rfl (qX I (by lia) l g T py λh1 h2 r1 r2=>gv I n j h1 h2 r1 r2)
  |_=>exact ai2 J s o H _ _ v u Q I p t h
 |_=>cases y<;>exact ai2 J s o H _ _ v u Q I p t h
theorem anh{c:Addr}(J:Gl X x)(U:X.mg x=some (.ref c))(hd:Ed x:=by decide):PE X (.Name x pos) (tC (.ref c)):=vN J U (v:=.ref c) rfl hd
theorem anf{T:String}(J:Gl X x)(U:X.mg x=none)(g:bootBuiltins x=some (.type T))(j:x ≠ "__name__" := by decide)(hd:Ed x:=by decide):PE X (.Name x pos) (tC (.ty T)):=afi J U g (v:=.ty T) rfl j hd
structure zG(P:Program)(w:World)(K:Af)(mg:Str->Option Value)(base:Heap)(k:Nat)(x:Str)(ps:List Str)(sp:Sp):Prop where
 ex:∃f fd,ar P w K mg base CX0 k f fd ps sp/\cz K fd ps []/\PySem.W.keepIn K (.ref f)=true/\mg x=some (.ref f)
theorem ar1{k:Nat}{t:TA}(c:zG X.prog X.w X.K X.mg X.base k x ps sp)(g:wb k X.A)(j:Gl X x)(l:PA X (e::es) t)(J:Ed x:=by decide)
 (o:Eb e es X:=by rfl) (U:Ec pos es X:=by rfl):PE X (.Call (.Name x p) (e::es) [] pos) (ai5 sp [] E0 t):=by
 obtain⟨f,fd,F,b,r,m⟩:=c.ex;exact agg F g j m r b .nil ao4 l J o U
theorem zG.mono{P:Program}{w:World}{K:Af}{k:Nat}(c:zG P w K mg base j x ps sp)(h:j<=k):zG P w K mg base k x ps sp:=by obtain⟨f,fd,F,b,J,m⟩:=c.ex;exact⟨f,fd,F.mono h,b,J,m⟩
end L2
variable {ds:List L2.Da}
namespace L2
open PySem PySem.Spec PyProof.Rows
def lH(env:Env):List (Str×NameKind)->List (Str×Addr)->List (Str×Addr)
 |[],cs=>cs
 |(n,k)::r,cs=>lH env r (if k==.free then(n,(env.cells.lookup n).getD 0)::cs else cs)
def eZ(scope:Scope)(env:Env):List (Str×Addr):=lH env scope.names []
theorem sP{env:Env}:∀{names:List (Str×NameKind)} {cs:List (Str×Addr)} {p:Str×Addr},p∈lH env names cs->p∈cs\/((p.1,NameKind.free)∈names/\p.2=(env.cells.lookup p.1).getD 0)
 |[],_,_,h=>.inl h
 |(n,k)::r,cs,p,h=>by
  rcases sP (names:=r) h with q|⟨q,e⟩
  ·by_cases J:(k==NameKind.free)=true
   ·rw[AD J] at q;rcases Ap.mp q with rfl|q
    ·have:k=.free:=by simpa using J
     exact .inr ⟨by rw[this];exact Ak,rfl⟩
    ·exact .inl q
   ·rw[AE J] at q;exact .inl q
  ·exact .inr ⟨Ad _ q,e⟩
theorem sY{env:Env}{x:Str}:∀{names:List (Str×NameKind)} {cs:List (Str×Addr)},((∃c,(x,c)∈cs)\/(x,NameKind.free)∈names)->∃c,(x,c)∈lH env names cs
 |[],_,.inl h=>h
 |[],_,.inr h=>by simp at h
 |(n,k)::r,cs,h=>by
  refine sY (names:=r) ?_;rcases h with⟨c,h⟩|h
  ·left;by_cases J:(k==NameKind.free)=true
   ·rw[AD J];exact⟨c,Ad _ h⟩
   ·rw[AE J];exact⟨c,h⟩
  ·rcases Ap.mp h with e|h
   ·left;injection e with U g
    subst U;subst g;exact⟨_,Ak⟩
   ·exact .inr h
theorem eh{x:Str}:∀{l:List (Str×Addr)} {c:Addr},(x,c)∈l->∃J,l.lookup x=some J
 |(n,d)::r,c,h=>by
  rw[Bp];cases U:x==n with
  |true=>exact⟨d,rfl⟩
  |false=>
   rcases Ap.mp h with e|h
   ·injection e with g _;subst g;simp at U
   ·exact eh h
theorem jI(h:∀n,(n,NameKind.free)∈scope.names->∃c,env.cells.lookup n=some c):closureFor scope env=pure (eZ scope env):=by
 unfold closureFor eZ;have key:∀(names:List (Str×NameKind)) (J:List (Str×Addr)),(∀n,(n,NameKind.free)∈names->∃c,env.cells.lookup n=some c)->
  (forIn names J λx (r:List (Str×Addr))=>(match x with|(name,kind)=>if kind==NameKind.free then do let a <-cellOf env name;pure (ForInStep.yield ((name,a)::r)) else pure (ForInStep.yield r):Sem (ForInStep (List (Str×Addr)))))=pure (lH env names J):=by
  intro names
  induction names with
  |nil=>intro J _;rfl
  |cons p r t=>
   intro J U;obtain⟨n,k⟩:=p;rw[BW];cases g:k==NameKind.free with
   |true=>
    have j:k=.free:=by simpa using g
    subst j;obtain⟨c,C⟩:=U n Ak;have e:cellOf env n=pure c:=by unfold cellOf;rw[C]
    simp only[beq_self_eq_true,if_true,e];have l:lH env ((n,NameKind.free)::r) J=lH env r ((n,c)::J):=by show lH env r _=_;rw[C];rfl
    rw[l];exact t ((n,c)::J) λm o=>U m (Ad _ o)
   |false=>
    simp only[g,BP,if_false];have l:lH env ((n,k)::r) J=lH env r J:=by show lH env r (if (k==NameKind.free)=true then _ else _)=_;rw[g];rfl
    rw[l];exact t J λm o=>U m (Ad _ o)
 exact(Bb (· >>= pure) (key scope.names [] h))
theorem wv{env:Env}{x:Str}:∀{names:List (Str×NameKind)},
 (names.map λ(n,k)=>if (k==NameKind.free&&env.scope.kind==.function&&env.kindOf n==some .cell) then(n,NameKind.cell) else(n,k)).lookup x
  = (names.lookup x).map λk=>if (k==NameKind.free&&env.scope.kind==.function&&env.kindOf x==some .cell) then NameKind.cell else k
 |[]=>rfl
 |(n,k)::r=>by
  have j:=@wv env x r;show List.lookup x ((if (k==NameKind.free&&env.scope.kind==.function&&env.kindOf n==some .cell)=true then(n,NameKind.cell) else(n,k))::_)=_;cases U:x==n with
  |true=>
   have g:x=n:=by simpa using U
   subst g;by_cases J:(k==NameKind.free&&env.scope.kind==.function&&env.kindOf x==some .cell)=true
   ·rw[AD J];simp only[Bp,beq_self_eq_true,Option.map_some];rw[AD J]
   ·rw[AE J];simp only[Bp,beq_self_eq_true,Option.map_some];rw[AE J]
  |false=>
   by_cases J:(k==NameKind.free&&env.scope.kind==.function&&env.kindOf n==some .cell)=true
   ·rw[AD J];simp only[Bp,U];exact j
   ·rw[AE J];simp only[Bp,U];exact j
def Cx.comp(X:Cx)(scope:Scope)(T:List Str)(C:Addr)(fp:List Addr)(s₀:Shared)(H₀:Hp):Cx:=
 { X with N:=X.N++T,s₀:=s₀,H₀:=H₀,env:=compEnvC scope (eZ scope X.env) C X.env,outer:=X.stack,ex:=fp,fn:=λ_=>false,xe:=λ_ _=>False }
structure jj(X:Cx)(scope:Scope):Prop where
 kind:scope.kind=.function
 nocell:∀y∈scope.names,y.2≠.cell
 names:∀y∈scope.names,y.2=.local->scope.names.lookup y.1=some .local
 free:∀n,scope.names.lookup n=some .free->X.env.kindOf n=some .cell\/X.env.kindOf n=some .free
 freeM:∀n,(n,NameKind.free)∈scope.names->X.env.kindOf n=some .cell\/X.env.kindOf n=some .free
 apart:∀x∈X.N,scope.names.lookup x≠some .local
theorem jj.clo(S:jj X scope)(I:z9 X pins σ H s):closureFor scope X.env=pure (eZ scope X.env):=
 jI λn h=>I.ok.has n (S.freeM n h)
theorem jj.cl_old(S:jj X scope)(I:z9 X pins σ H s){c:Addr}(h:(eZ scope X.env).lookup x=some c):X.env.cells.lookup x=some c:=by
 rcases sP (Bt h) with q|⟨q,e⟩
 ·simp at q
 ·obtain⟨d,hd⟩:=I.ok.has x (S.freeM x q);have J:c=(X.env.cells.lookup x).getD 0:=e;rw[hd] at J ⊢;rw[J];rfl
theorem jj.cl_has(_:jj X scope)(h:scope.names.lookup x=some .free):∃c,(eZ scope X.env).lookup x=some c:=by obtain⟨c,J⟩:=sY (env:=X.env) (names:=scope.names) (cs:=[]) (x:=x) (.inr (Bt h));exact eh J
theorem jj.kindOf(S:jj X scope)(h:(compEnvC scope (eZ scope X.env) C X.env).kindOf x=some .cell\/(compEnvC scope (eZ scope X.env) C X.env).kindOf x=some .free):scope.names.lookup x=some .free:=by
 have e:(compEnvC scope (eZ scope X.env) C X.env).kindOf x=(scope.names.lookup x).map λk=>if (k==NameKind.free&&X.env.scope.kind==.function&&X.env.kindOf x==some .cell) then NameKind.cell else k:=wv
 rw[e] at h;cases J:scope.names.lookup x with
 |none=>rw[J] at h;rcases h with h|h<;>cases h
 |some k=>
  rw[J] at h;cases k with|free=>rfl|cell=>exact absurd rfl (S.nocell _ (Bt J))|_=>rcases h with h|h<;>cases h
theorem jj.vis(S:jj X scope)(g:x∈X.N)(h:Vis (compEnvC scope (eZ scope X.env) C X.env).scope x):scope.names.lookup x=some .free:=by
 rcases h with h|h|h
 ·exfalso;have e:(compEnvC scope (eZ scope X.env) C X.env).kindOf x=(scope.names.lookup x).map λk=>if (k==NameKind.free&&X.env.scope.kind==.function&&X.env.kindOf x==some .cell) then NameKind.cell else k:=wv
  have J:(compEnvC scope (eZ scope X.env) C X.env).kindOf x=some .local:=h;rw[e] at J;cases U:scope.names.lookup x with
  |none=>rw[U] at J;cases J
  |some k=>
   rw[U] at J;have J:(if (k==NameKind.free&&X.env.scope.kind==.function&&X.env.kindOf x==some .cell)=true then NameKind.cell else k)=.local:=AV J;split at J
   ·cases J
   ·subst J;exact S.apart x g U
 ·exact S.kindOf (C:=C) (.inl h)
 ·exact S.kindOf (C:=C) (.inr h)
theorem jj.back(S:jj X scope)(h:scope.names.lookup x=some .free):(compEnvC scope (eZ scope X.env) C X.env).kindOf x=some .cell\/(compEnvC scope (eZ scope X.env) C X.env).kindOf x=some .free:=by
 have e:(compEnvC scope (eZ scope X.env) C X.env).kindOf x=(scope.names.lookup x).map λk=>if (k==NameKind.free&&X.env.scope.kind==.function&&X.env.kindOf x==some .cell) then NameKind.cell else k:=wv
 rw[e,h];show some (if _ then _ else _)=_\/some (if _ then _ else _)=_;split
 ·exact .inl rfl
 ·exact .inr rfl
def PF(X:Cx)(ni:List Expr)(t:TT):Prop:=
 ∀(pins:List (Addr×Obj)) (s:Shared) (σ:St) (H:Hp) (Q:Bool->Hp->Prop),z9 X pins σ H s->t σ H Q->
  wpAny (model X.prog X.w) X.A (forIn ni true λc r=>if r=true then do let ok <-isTrue c X.env (eval c X.env);pure (ForInStep.yield ok) else pure (ForInStep.yield r)) (TP X pins σ Q) X.xe s
def arw:TT:=λ_ H Q=>Q true H
theorem ako :PF X [] arw:=λ_ _ _ H _ I h=>Ag ⟨H,I,h⟩
theorem ajo{t:TT}(hc:PT X c t):PF X [c] t:=by intro J s U H Q I h;rw[BW];simp only[if_true];refine Aa (Aa (aI (hc J s U H Q I h) λb g q=>Ag ?_));exact Ag q
theorem eX{w:World}{R:Result->Shared->Prop}{iter:Expr}{it C:Value}(I:Nat->Shared->Prop)
 (turn:∀n s,I n s->wpAny (model prog w) A (pyNext it) (λr J=>match r with
  |none=>R (.ok .next) J
  |some v=>wpAny (model prog w) A (letOwnedTupleGo target it v) (λ_ J=>wpAny (model prog w) A (assign target env v) (λ_ l=>
   wpAny (model prog w) A (forIn ni true λc r=>if r=true then do let ok <-isTrue c env (eval c env);pure (ForInStep.yield ok) else pure (ForInStep.yield r)) (λok g=>
    if ok=true then wpAny (model prog w) A (eval nC env) (λx o=>
     wpAny (model prog w) A (call (.builtin "list.append") [C,x]) (λ_ p=>∃m,m<n/\I m p) (λ_ _=>False) o) (λ_ _=>False) g
    else ∃m,m<n/\I m g) (λ_ _=>False) l) (λ_ _=>False) J) (λ_ _=>False) J) (λ_ _=>False) s)
 (n:Nat) (h:I n s):
 codeAny (model prog w) A (.compLoop (.ListComp nC [⟨target,iter,ni,0⟩] scope pos) 0 it C env) R s:=by
 refine codeAny_loop rfl I (λn s hI=>?_) n h;show wpAny _ A ((compTurn (.ListComp nC [⟨target,iter,ni,0⟩] scope pos) 0 it C env).onRaise (λx=>do noteFrame x env;theTreesLotGoes x)) _ _ s;refine wpAny_noted ?_;rw[compTurn_list];refine Aa (wpAny_standAt (Aa (AW (turn n s hI) (λr J U=>?_) λ_ _ j=>j.elim)));cases r with
 |none=>exact Ag U
 |some v=>
  refine Aa (AW U (λ_ J U=>?_) λ_ _ j=>j.elim);refine Aa (AW U (λ_ l T=>Aa (AW T (λok g t=>?_) λ_ _ j=>j.elim)) λ_ _ j=>j.elim);cases ok with
  |false=>exact Ag ⟨rfl,t⟩
  |true=>
   exact Aa (Aa (AW t (λx o a1=>Aa (AW a1 (λ_ p a2=>Ag (Ag ⟨rfl,a2⟩)) λ_ _ j=>j.elim)) λ_ _ j=>j.elim))
def tLC(n:Nat)(wi:TI)(g:TG)(tc:TT)(te:TE):TE:=λσ H Q=>wi σ H λJ H1=>∃W:Nat->Nat->List V->Hp->Prop,(∃m,W 0 m [] H1)/\∀i m ys H,W i m ys H->
 (J.stop i H/\ys.length<=sizeLine/\∀D,H D=none->Q (.ref D) (upd H D (.lst ys)))\/
 (J.go i H/\ys.length<sizeLine/\∀x H',J.yld i H x H'->g x (σ++List.replicate n none) H' λU H2=>tc U H2 λb l=>
  if b=true then te U l λy o=>∃j,j<m/\W (i+1) j (ys++[y]) o else ∃j,j<m/\W (i+1) j ys l)
def mx(g:TG)(n k:Nat):Prop:=∀(σ:St),σ.length=n->∀x H Q,g x (σ++List.replicate k none) H Q->
 g x (σ++List.replicate k none) H λJ H2=>((J.length=n+k/\∀(i:Nat) v,(σ++List.replicate k none)[i]?=some (some v)->J[i]?=some (some v))/\Q J H2)
section
variable {T:List Str}{iter:Expr}{g:TG}{te:TE}
theorem ltN{o:Obj}(e:h.get? b=some o):@LT.lt Nat instLTNat b h.objs.size:=ya e
theorem tI(h:@Ne Nat a b):a≠b:=h
theorem leN(h:@LE.le Nat instLENat a b):a<=b:=h
theorem aaa(eH:List Value)(n:Nat)(u:Value):∃J,Obj.mapSeq (·.push u) { cls:=.type "list",data:=.seq eH.toArray n }=({ cls:=.type "list",data:=.seq (eH++[u]).toArray J }:Obj):=
 ⟨_,by simp[Obj.mapSeq];rfl⟩
theorem tQ{w:World}{D:Addr}(J:s.heap.get? D=some { cls:=.type "list",data:=.seq eH.toArray n })
 (hz:eH.length<=sizeLine) (h:∀h' U,Heap.SameBut D s.heap h'->h'.get? D=some { cls:=.type "list",data:=.seq (eH++[u]).toArray U }->Q .none { s with heap:=h' }):
 wpAny (model prog w) A (call (.builtin "list.append") [.ref D,u]) Q E s:=by
 have j:s.heap.IsList D eH.toArray:=⟨_,J,rfl,n,rfl⟩;refine wpAny_call_entry slot_list_append j.typeIs entry_list_append ?_ (args_list_append _ _);show wpAny _ _ (updateSeq D (·.push u) >>= λ_=>ret .none) _ _ s;refine Aa ?_;obtain⟨U,g⟩:=aaa eH n u;refine wpAny_updateSeq (f:=(·.push u)) J rfl (Ag ⟨.none,rfl,h _ U (Db ..) ?_⟩) (by rw[Ao];exact hz) (by rw[DN,Ao];exact Nat.succ_le_succ hz);rw[<-g];exact DT _ J (by rw[g];rfl)
theorem kQ{Q:VK}{ca:Value}{U:Shared}{RR:Value->Addr->Result->Shared->Prop}
 (S:jj X scope) (hc:X.calm=true)
 (hg:∀C fp s₀ H₀,PG (X.comp scope T C fp s₀ H₀) target g) (dv:mx g X.N.length T.length) (hf:∀C fp s₀ H₀,PF (X.comp scope T C fp s₀ H₀) ni tc) (he:∀C fp s₀ H₀,PE (X.comp scope T C fp s₀ H₀) nC te)
 (h:PIE X pins σ target (λJ H1=>∃W:Nat->Nat->List V->Hp->Prop,(∃m,W 0 m [] H1)/\∀i m ys H,W i m ys H->
  (J.stop i H/\ys.length<=sizeLine/\∀D,H D=none->Q (.ref D) (upd H D (.lst ys)))\/
  (J.go i H/\ys.length<sizeLine/\∀x H',J.yld i H x H'->g x (σ++List.replicate T.length none) H' λcb H2=>tc cb H2 λb H3=>
   if b=true then te cb H3 λy H4=>∃m',m'<m/\W (i+1) m' (ys++[y]) H4 else ∃m',m'<m/\W (i+1) m' ys H3)) ca U)
 (dI:∀D C s' H' m',z9 X pins σ H' s'->jJ X pins H' C->s'.heap.Ns C m'->Q (.ref D) H'->RR (.ref D) C (.ok .next) s'):
 wpAny (model X.prog X.w) X.A (newList []) (λcc av=>wpAny (model X.prog X.w) X.A (newFunctionEnv scope X.env.globals (eZ scope X.env) [] X.env.qual none .none (some X.env)) (λbh cg=>
  codeAny (model X.prog X.w) X.A (.compStart (.ListComp nC [⟨target,iter,ni,0⟩] scope pos) 0 ca cc { bh with scope:=relabel scope X.env }) (RR cc bh.locals) cg) E av) E U:=by
 obtain⟨it,fp,tn,J,H2,rfl,j,Tn,bj,f2,W,⟨m0,w0⟩,turn⟩:=h;refine Bf (wpAny_newFunctionEnv S.nocell (by intro y hy;simp at hy) (λbb al I=>?_) S.kind);dsimp only at al I ⊢;generalize bn:U.heap.push { cls:=.type "list",dict:=none,data:=.seq ([]:List Value).toArray }=G at al I ⊢;have hC:G.objs.size=U.heap.objs.size+1:=by rw[<-bn,Em]
 obtain⟨D,eD⟩:∃D,U.heap.objs.size=D:=⟨_,rfl⟩;obtain⟨C,eC⟩:∃C,G.objs.size=C:=⟨_,rfl⟩;rw[eD] at hC ⊢;rw[eC] at hC al I ⊢;have bp:D≠C:=by lia
 have old:∀b o,U.heap.get? b=some o->bb.get? b=some o:=λb o e=>by have t:=ltN e;exact I.extBut b o (tI (by lia)) (xT _ (bn▸xT _ e))
 have cl:bb.get? D=some { cls:=.type "list",data:=.seq ([]:List Value).toArray 0 }:=by refine I.extBut _ _ bp (xT _ ?_);rw[<-bn,<-eD];exact y1 _ rfl
 have bq:∀b∈fp,@LT.lt Nat instLTNat b U.heap.objs.size:=λb t=>by obtain⟨o,e,_⟩:=Tn.obj _ _ bj b t;exact ltN e
 have cm:@LT.lt Nat instLTNat X.env.locals U.heap.objs.size:=j.lt;have ek:X.s₀.heap.objs.size<=U.heap.objs.size:=j.sz;have HD:H2 D=none:=j.hok.fresh (leN (by exact yK));have HC:H2 C=none:=j.hok.fresh (leN (by lia));have dS:∀b:Addr,@LE.le Nat instLENat U.heap.objs.size b->b∉bH X.stack:=λb t z=>by
  have q:=j.stkSub b z;rcases Ap.mp q with q|q
  ·rw[<-q] at cm;exact absurd cm (Nat.not_lt.mpr t)
  ·exact j.nofs t q
 have bc:∀x c,X.env.cells.lookup x=some c->@LT.lt Nat instLTNat c U.heap.objs.size:=λx c e=>by obtain⟨v,q⟩:=j.cell x c e;exact q.lt
 let X':Cx:=X.comp scope T C fp U H2
 have br:X'.Ok:={
  mod:=j.ok.mod,kind:=S.kind,glob:=j.ok.glob,blt:=j.ok.blt
  above:=leN (by show @LE.le Nat instLENat U.heap.objs.size C;lia)
  inj:=λx y c h1 h2=>j.ok.inj x y c (S.cl_old j h1) (S.cl_old j h2)
  has:=λx hx=>S.cl_has (S.kindOf hx)
  cab:=λx c hx=>absurd (show false=true from hx) (by simp)
  hd:=j.ok.hd,frames:=j.ok.frames,stk:=.inl rfl
  exf:=λb t=>⟨tI (by have:=bq b t;show @Ne Nat b C;lia),λx c e=>(f2 b t).2.2.2.2.1 x c (S.cl_old j e)⟩
  bs:=j.bs,bsz:=AQ j.ok.bsz j.sz
  noex:=λb o e t=>by
   obtain⟨e0,n0⟩:=j.ok.bs b o e;rcases (f2 b t).2.2.2.1 with q|q
   ·exact j.ok.noex b o e q
   ·have q':@LE.le Nat instLENat X.s₀.heap.objs.size b:=q;have:=ltN e0;lia
  exfs:=λb t z=>by
   rcases Ap.mp (j.stkSub b z) with q|q
   ·exact(f2 b t).2.1 q
   ·exact(f2 b t).2.2.1 q
  funs:=j.stack,frf:=j.stkFree }
 have I4:∀tk,0<tk->z9 X' pins (σ++List.replicate T.length none) H2 { U with heap:=bb,toks:=tk }:=λtk dV=>{
  tk:=dV,ok:=br,os:=rfl,bare:=j.bare,base:=Un.kept old
  loc:=⟨_,al,λi x v e1 e2 e3=>by
   have hi:i<σ.length:=by
    by_cases hi:i<σ.length
    ·exact hi
    ·rw[Av (by exact aaj),B7] at e2;split at e2<;>cases e2
   rw[AF hi] at e2;have e4:i<X.N.length:=by rw[<-j.len];exact hi
   have cv:X.N[i]?=some x:=by have:(X.N++T)[i]?=some x:=e1;rw[AF e4] at this;exact this
   have bu:=S.vis (Aw cv) e3;obtain⟨m,hn,hl⟩:=j.loc;have hk:=S.free x bu;obtain⟨u,r,l⟩:=hl i x v cv e2 (.inr hk);refine⟨u,r,.inr ⟨S.back bu,?_⟩⟩;rcases l with⟨l,_⟩|⟨_,c,e,z⟩
   ·rw[l] at hk;rcases hk with q|q<;>cases q
   ·obtain⟨c',e'⟩:=S.cl_has bu;have cy:=S.cl_old j e';rw[e] at cy;cases cy;exact⟨c,e',z.keeps old⟩⟩
  cell:=λx c e=>by obtain⟨v,z⟩:=j.cell x c (S.cl_old j e);exact⟨v,z.keeps old⟩
  free:=HC,freeC:=λx c e=>j.freeC x c (S.cl_old j e)
  pin:=λp hp=>by
   obtain⟨a,b,c,d,e⟩:=j.pin p hp;have e5:=ltN a;refine⟨old _ _ a,b,tI (by show @Ne Nat p.1 C;lia),λz=>?_,e⟩;rcases Ap.mp (j.stkSub _ z) with q|q
   ·exact c q
   ·exact d q
  hok:=j.hok.kept old
  len:=by show(σ++_).length=(X.N++T).length;rw[Ac,Ac,BS,j.len] }
 have bv:∀(aL:List (Addr×Obj)) (H':Hp),(∀p∈aL,p∈pins\/p.1=D)->(∀b∈fp,H' b=none)->∀b∈fp,jJ X' aL H' b:=λaL H' hp hn b t=>by
  obtain⟨_,q1,q2,q3,q4,q5⟩:=f2 b t;have e5:=bq b t;refine⟨hn b t,tI (by show @Ne Nat b C;lia),br.exfs b t,.inl t,(br.exf b t).2,λp e6=>?_⟩;rcases Ar.mp e6 with z|z
  ·exact q5 p (Aq _ z)
  ·rcases hp p z with z|z
   ·exact q5 p (Ah _ z)
   ·rw[z];exact tI (by lia)
 have stay:Tn.keep=Tn.keep:=rfl;have bi:∀av:Shared,av={ U with heap:=bb,toks:=U.toks+([]:List (Str×Value)).length }->
  codeAny (model X.prog X.w) X.A (.compLoop (.ListComp nC [⟨target,iter,ni,0⟩] scope pos) 0 (.ref it) (.ref D) X'.env) (RR (.ref D) C) av:=by
  rintro av rfl;refine eX (λn s'=>∃i bw H' ys au k,z9 X' pins bw H' s'/\(bw.length=X.N.length+T.length/\∀(i:Nat) v,(σ++List.replicate T.length none)[i]?=some (some v)->bw[i]?=some (some v))/\
   s'.heap.get? D=some { cls:=.type "list",data:=.seq (au:List Value).toArray k }/\zo ys au/\H' D=none/\tn i s'.heap/\(∀b∈fp,H' b=none)/\W i n ys H') ?_ m0
   ⟨0,_,H2,[],[],0,I4 _ j.tk,⟨by rw[Ac,BS,j.len],λ_ _ e=>e⟩,cl,.nil,HD,Tn.keep _ _ _ bj λb _ o e=>old b o e,λb t=>(f2 b t).1,w0⟩
  rintro n s3 ⟨i,el,H3,ys,au,k,I3,⟨e7,e8⟩,ea,bf,bg,qM,cP,w3⟩;have ej:au.length=ys.length:=bf.length.symm;have d0:D∉X'.fs:=dS D (by exact yK);have da:D≠X'.env.locals:=bp;have de:z9 X' (pins++[(D,{ cls:=.type "list",data:=.seq au.toArray k })]) (σ++List.replicate T.length none) H3 s3:=
   (I3.weak (by rw[e7,Ac,BS,j.len]) e8).pins_of λp hp=>by
    rcases Ar.mp hp with z|z
    ·exact I3.pin p (Ah _ z)
    ·have e:=Ai.mp z;subst e;exact⟨ea,bg,da,d0,λv z=>by cases z⟩
  have ba:∀p∈pins++[(D,({ cls:=.type "list",data:=.seq au.toArray k }:Obj))],p∈pins\/p.1=D:=λp hp=>by
   rcases Ar.mp hp with z|z
   ·exact .inl z
   ·exact .inr (by rw[Ai.mp z])
  rcases turn i n ys H3 w3 with⟨stop,hz,qn⟩|⟨go,hz,step⟩
  ·refine aI (Tn.done X' rfl rfl rfl hc i _ s3 _ H3 _ de (bv _ H3 ba cP) qM stop) λr s4 ⟨hr,ag⟩=>?_;subst hr;obtain⟨eb,en,_⟩:=ag.pin (D,_) (Ah _ (Ah _ Ak));obtain⟨m',ec,_⟩:=ag.loc;have un:Un (bH X.stack) fp H2 (upd H3 D (.lst ys)) U.heap s4.heap:={
    keep:=ag.base.keep,slot:=ag.base.slot
    free:=λb o e n hx=>by have:=ltN e;rw[qp (tI (by lia))];exact ag.base.free b o e n hx
    there:=ag.base.there
    tups:=λb xs e=>by rw[qp (λz=>by rw[z,HD] at e;cases e)];exact ag.base.tups b xs e
    frzs:=λb o u e=>by rw[qp (λz=>by rw[z,HD] at e;cases e)];exact ag.base.frzs b o u e
    tbls:=λb ps e=>by rw[qp (λz=>by rw[z,HD] at e;cases e)];exact ag.base.tbls b ps e }
   have ed:dF X.prog X.w (upd H3 D (.lst ys)) s4.heap:=λb u e=>by
    by_cases t:b=D
    ·subst t;rw[zp] at e;cases e;exact⟨hz,au,k,bf,eb⟩
    ·rw[qp t] at e;refine(ag.hok b u e).stay (λ_ _ _ q=>q) (λc q=>?_) λc xs q=>?_
     ·rw[qp (zu q bg)];exact q
     ·rw[qp (zu q bg)];exact q
   have I5:z9 X pins σ (upd H3 D (.lst ys)) s4:=j.call' (ch:=fp) ag.os un ed ag.bare λb t=>⟨(f2 b t).2.2.2.1,(f2 b t).2.1,(f2 b t).2.2.2.2.1,(f2 b t).2.2.2.2.2⟩;refine dI D C s4 _ m' I5 ?_ ec (qn D bg);refine⟨by rw[qp (AB bp)];exact ag.free,?_,?_,.inr ?_,λx c e=>?_,λp hp=>?_⟩
   ·exact tI (by lia)
   ·exact j.nofs (leN (by lia))
   ·exact leN (by lia)
   ·exact tI (by have:=bc x c e;lia)
   ·exact tI (by have:=ltN (j.pin p hp).1;lia)
  ·refine aI (Tn.item X' rfl rfl rfl hc i _ s3 _ H3 _ de (bv _ H3 ba cP) qM go) λr s4 ⟨u,hr,h4⟩=>?_;subst hr;refine aI h4 λ_ s5 ⟨x,H5,I5,r5,y5,bS,ee⟩=>?_;have ef:=I5.pinned (bv _ H5 ba ee) (Tn.obj _ _ bS);refine AW ((hg C fp U H2) _ s5 _ H5 x u _ ef r5 (dv σ j.len x H5 _ (step x H5 y5))) (λ_ s6 ⟨bd,H6,I6,⟨di,dj⟩,q6⟩=>?_) λ_ _ z=>z;refine AW ((hf C fp U H2) _ s6 bd H6 _ I6 q6) (λb s7 ⟨H7,I7,q7⟩=>?_) λ_ _ z=>z;have js:∀{s8:Shared} {H8:Hp} (I8:z9 X' ((pins++[(D,{ cls:=.type "list",data:=.seq au.toArray k })])++lJ fp s5.heap) bd H8 s8),tn (i+1) s8.heap/\(∀b∈fp,H8 b=none)/\s8.heap.get? D=some { cls:=.type "list",data:=.seq au.toArray k }/\H8 D=none/\z9 X' pins bd H8 s8:=λ{s8 H8} I8=>by
    refine⟨Tn.keep _ _ _ bS λb t o e=>(I8.pin (b,o) (Ah _ (Ah _ (cQ t e)))).1,λb t=>?_,?_,?_,I8.unpinned.unpinned⟩
    ·obtain⟨o,e,d⟩:=Tn.obj _ _ bS b t;exact(I8.pin (b,o) (Ah _ (Ah _ (cQ t e)))).2.1
    ·exact(I8.pin (D,_) (Ah _ (Aq _ (Ah _ Ak)))).1
    ·exact(I8.pin (D,_) (Ah _ (Aq _ (Ah _ Ak)))).2.1
   cases b with
   |false=>
    rw[AE AA] at q7 ⊢;obtain⟨m',hm,w7⟩:=q7;obtain⟨a1,a2,a3,a4,a5⟩:=js I7;exact⟨m',hm,i+1,bd,H7,ys,au,k,a5,⟨di,dj⟩,a3,bf,a4,a1,a2,w7⟩
   |true=>
    rw[AD rfl] at q7 ⊢;refine AW ((he C fp U H2) _ s7 bd H7 _ I7 q7) (λv s8 ⟨y,H8,I8,r8,m',hm,w8⟩=>?_) λ_ _ z=>z;obtain⟨a1,a2,a3,a4,a5⟩:=js I8;refine tQ a3 (by lia) λh9 k9 dp eg=>?_;have nD:∀b∈fp,b≠D:=λb t=>tI (by have:=bq b t;lia);refine⟨m',hm,i+1,bd,H8,ys++[y],au++[v],k9,?_,⟨di,dj⟩,eg,bf.append (.cons r8 .nil),a4,Tn.keep _ _ _ a1 λb t o e=>(dp.2 b (nD b t)).trans e,a2,w8⟩;exact a5.turned (t':=s8.toks) (it:=D) (λb o t e=>(dp.2 b t).trans e) a4 da (.inr (leN (by show @LE.le Nat instLENat U.heap.objs.size D;exact yK))) (λx c e=>tI (by have:=bc x c (S.cl_old j e);lia)) λp hp=>tI (by have:=ltN (j.pin p hp).1;lia)
 exact codeAny_compStart_list (bi _ rfl) (Tn.self _ _ _ _ _ (Tn.keep _ _ _ bj λb _ o e=>old b o e) (bi _ rfl))
end
section
variable {T:List Str}{iter:Expr}{g:TG}{te:TE}
theorem anb(T:List Str)(S:jj X scope)(hc:X.calm=true)(hi:PI X target iter wi)(t:∀C fp s₀ H₀,PG (X.comp scope T C fp s₀ H₀) target g)(j:mx g X.N.length T.length)
 (hf:∀C fp s₀ H₀,PF (X.comp scope T C fp s₀ H₀) ni tc) (he:∀C fp s₀ H₀,PE (X.comp scope T C fp s₀ H₀) nC te)
 (hs:∀x,foldedSetIterable iter X.env x=pure x:=by intro _;rfl):PE X (.ListComp nC [⟨target,iter,ni,0⟩] scope pos) (tLC T.length wi g tc te):=by
 intro J s r H Q I h;rw[eval_ListComp];refine wpAny_comprehension_free (use:=none) rfl hs (S.clo I) S.kind S.names (aI (hi J s r H _ I h) λv s1 h1=>aI h1 λa1 s2 h2=>?_);refine kQ (RR:=λl C=>compPost (model X.prog X.w) X.A X.xe none (EP X J r Q) l C) S hc t j hf he h2 ?_;intro D C s' H' m' I' U hn q;exact⟨m',hn,λh' p=>⟨.ref D,H',I'.turned (t':=s'.toks) (it:=C) (λb o hb e=>(p.2 b hb).trans e) U.1 (AB (AB U.2.1)) U.2.2.2.1 U.2.2.2.2.1 U.2.2.2.2.2,rfl,q⟩⟩
theorem ac0(T:List Str){px:Pos}(hN:X.N.Nodup)(j:X.N[i]?=some x)(hx:Loc X.env.scope x)(S:jj X scope)(hc:X.calm=true)(hi:PI X target iter wi)
 (hg:∀C fp s₀ H₀,PG (X.comp scope T C fp s₀ H₀) target g) (l:mx g X.N.length T.length)
 (hf:∀C fp s₀ H₀,PF (X.comp scope T C fp s₀ H₀) ni tc) (he:∀C fp s₀ H₀,PE (X.comp scope T C fp s₀ H₀) nC te)
 (p:swapsWith (.ListComp nC [⟨target,iter,ni,0⟩] scope lp) (some (.Name x px)) pos.line X.env=pure true:=by rfl)
 (r:X.fn x=true\/X.env.scope.names.lookup x=some .local:=by first|exact .inl rfl|exact .inr rfl|assumption)
 (hs:∀x,foldedSetIterable iter X.env x=pure x:=by intro _;rfl):PS X (.Assign [.Name x px] (.ListComp nC [⟨target,iter,ni,0⟩] scope lp) pos) (aj6 (tLC T.length wi g tc te) (dZ i)):=by
 intro pins s σ H D I h;rw[exec_Assign_Name_used _ _ _ _ p];refine Aa (wpAny_standAt (Aa ?_));show wpAny _ X.A (do let _ <-comprehension (.ListComp nC [⟨target,iter,ni,0⟩] scope lp) scope X.env _ (newList []) false (eval iter X.env) (some (assign (.Name x px) X.env))) _ _ s;refine Aa (AW (wpAny_comprehension_free (use:=some (assign (.Name x px) X.env)) (Q:=λ_ U=>SP X pins D .next U) rfl hs (S.clo I) S.kind S.names
  (aI (hi pins s σ H _ I h) λv s1 h1=>aI h1 λa5 s2 h2=>?_)) (λ_ U hq=>Ag (Ag hq)) λ_ _ e=>e)
 refine kQ (RR:=λt C=>compPost (model X.prog X.w) X.A X.xe (some (assign (.Name x px) X.env)) (λ_ U=>SP X pins D .next U) t C) (pins:=pins) (σ:=σ) (Q:=λx H1=>dZ i x σ H1 D.nx) S hc hg l hf he h2 ?_;intro A C U H' m' I' J hn q;show wpAny _ X.A (assign (.Name x px) X.env (.ref A)) _ _ U;refine wpAny_assign_Name (oG I' hN j hx (v:=.ref A) rfl (λa1 a2 ⟨a,hs,ha⟩ _=>?_) r);have a3:C≠a:=by
  rcases ha with z|z
  ·rw[z];exact J.2.1
  ·exactλe=>J.2.2.2.2.1 x a z e.symm
 exact⟨m',hn.sameBut hs a3,λh' a4=>⟨_,H',a2.turned (t':=a1.toks) (it:=C) (λb o hb e=>(a4.2 b hb).trans e) J.1 J.2.1 J.2.2.2.1 J.2.2.2.2.1 J.2.2.2.2.2,q⟩⟩
end
def wy(outer:Scope)(N:List Str)(J:Scope):Bool:=
 decide (J.kind=.function)&&J.names.all (λp=>decide (p.2≠.cell)&&(decide (p.2≠.local)||decide (J.names.lookup p.1=some .local))&&(decide (p.2≠.free)||(decide (outer.names.lookup p.1=some .cell)||decide (outer.names.lookup p.1=some .free))))
  && N.all (λx=>decide (J.names.lookup x≠some .local))
theorem wy.mk{J:Scope}(h:wy X.env.scope X.N J=true):jj X J:=by
 unfold wy at h;rw[A4,A4,BH,BH] at h;obtain⟨⟨h1,h2⟩,h3⟩:=h;have j:∀n,(n,NameKind.free)∈J.names->X.env.kindOf n=some .cell\/X.env.kindOf n=some .free:=λn U=>by
  have q:=h2 _ U;simp only[A4,DO,decide_eq_true_eq] at q;rcases q.2 with z|z
  ·exact absurd rfl z
  ·exact z
 refine⟨of_decide_eq_true h1,λy g=>?_,λy g e=>?_,λn U=>j n (Bt U),j,λx l=>of_decide_eq_true (h3 x l)⟩
 ·have q:=h2 _ g;simp only[A4,DO,decide_eq_true_eq] at q;exact q.1.1
 ·have q:=h2 _ g;simp only[A4,DO,decide_eq_true_eq] at q;rcases q.1.2 with z|z
  ·exact absurd e z
  ·exact z
abbrev EM:=@wy.mk
theorem uc(n:Nat):mx (dZ n) n 1:=by
 intro g J x H Q h;refine⟨⟨by simp[J],λi v e=>?_⟩,h⟩;by_cases U:i=n
 ·subst U;rw[Av (by exact yK)] at e;simp[J] at e
 ·rw[BJ (AB U)];exact e
theorem mW:bootBuiltins "isinstance"=some (.builtin "isinstance"):=by decide +kernel
theorem fb:bootBuiltins "tuple"=some (.type "tuple"):=by decide +kernel
theorem abt:bootBuiltins "str"=some (.type "str"):=by decide +kernel
theorem uN:bootBuiltins "int"=some (.type "int"):=by decide +kernel
theorem ku:bootBuiltins "list"=some (.type "list"):=by decide +kernel
theorem al6:bootBuiltins "len"=some (.builtin "len"):=by decide +kernel
theorem huK{k:Nat}(J:wb k A):A.units+128<cLine:=by have:=J.un;lia
theorem small(h:n<=1000):n<=sizeLine:=Bd (oP h)
theorem zG.of{P:Program}{w:World}{K:Af}{k:Nat}(F:ar P w K mg base CX0 k f fd ps sp)(b:cz K fd ps [])(J:PySem.W.keepIn K (.ref f)=true)(m:mg x=some (.ref f)):
 zG P w K mg base k x ps sp:=⟨f,fd,F,b,J,m⟩
theorem ar.never{P:Program}{w:World}{K:Af}{k:Nat}(no:∀vs H Q E,¬sp vs H Q E):ar P w K mg base CX0 k f fd ps sp:=
 ⟨λvs H Q E h=>absurd h (no vs H Q E),λA J s H args U vs Q E _ _ _ _ h=>absurd h (no vs H Q E)⟩
section
variable (K:Af)(P:Program)(w:World)
end
structure zb(K:Af)(x:Str)(st:Stmt):Prop where
 ex:∃(f:Addr) (kV hQ pm:Value) (an:Option Addr) (fx ct:Value),PySem.W.nsIn K mainGlobals x=some (some (.ref f))/\Fun K x x st f (PySem.W.fnOf x x (xx st) (ji st) (qy st) .none kV hQ pm an fx ct)
theorem def_in{K:Af}{kV:Value}(a:PySem.W.nsIn K mainGlobals x=some (some (.ref f)))
 (l:K.lookup f=some ⟨oc,od,.func (PySem.W.fnOf x x (xx st) (ji st) (qy st) .none kV hQ pm an fx ct),sm⟩) (c:PySem.W.codeIn K fx x=true) (k:PySem.W.keepIn K (.ref f)=true):zb K x st:=
 ⟨f,kV,hQ,pm,an,fx,ct,a,akh (st:=st) l c k⟩
theorem zb.use{K:Af}(D:zb K x st)(X:K.In h)(G:h.Ns mainGlobals mg)
 (J:∀(kV hQ pm:Value) (an:Option Addr) (fx ct:Value) (us:List Value),us.length=ps.length->bindArgs (PySem.W.fnOf x x (xx st) (ji st) (qy st) .none kV hQ pm an fx ct) ⟨us,[]⟩=pure (ps.zip us)):
 ∃f fd,Fun K x x st f fd/\cz K fd ps []/\mg x=some (.ref f):=by
 obtain⟨f,kV,hQ,pm,an,fx,ct,a,F⟩:=D.ex;exact⟨f,_,F,cz.all (J kV hQ pm an fx ct),Ck X G a⟩
end L2
namespace Words
open PySem L2
inductive Wd where
 |leaf (t:Bool) (n:Str)
 |node (e:Bool) (l r:Wd)
def kL:Bool->Str
 |false => "plain"
 |true => "turned"
def kN:Bool->Str
 |false => "both"
 |true => "either"
def Wd.turn:Wd->Wd
 |.leaf t n=>.leaf (!t) n
 |.node e l r=>.node (!e) l.turn r.turn
def Wd.depth:Wd->Nat
 |.leaf _ _=>1
 |.node _ l r=>max l.depth r.depth+1
def Wd.leaves:Wd->Nat
 |.leaf _ _=>1
 |.node _ l r=>l.leaves+r.leaves
theorem Wd.leaves_pos:∀w:Wd,1<=w.leaves
 |.leaf _ _=>Al _
 |.node _ l r=>by have:=Wd.leaves_pos l;show 1<=l.leaves+r.leaves;exact ao1
abbrev EH:=@Wd.leaves_pos
theorem Wd.depth_le:∀w:Wd,w.depth<=w.leaves
 |.leaf _ _=>Al _
 |.node _ l r=>by have:=Wd.depth_le l;have:=Wd.depth_le r;have:=EH l;have:=EH r;show max l.depth r.depth+1<=l.leaves+r.leaves;lia
def o6:Wd->Da
 |.leaf t n=>.tup [.s (.str (kL t)),.s (.str n)]
 |.node e l r=>.tup [.s (.str (kN e)),o6 l,o6 r]
def df(x:Str):Prop:=1<=x.length/\x.length<=8/\∀c∈x.cps.toList,97<=c/\c<=122
def Wd.ok:Wd->Prop
 |.leaf _ n=>df n
 |.node _ l r=>l.ok/\r.ok
theorem Paired.app{α β:Type}{F:α->β->Prop}:∀{xs J:List α} {ys U:List β},Paired F xs ys->Paired F J U->Paired F (xs++J) (ys++U)
 |_,_,_,_,.nil,s=>s
 |_,_,_,_,.cons r t,s=>.cons r (Paired.app t s)
theorem Paired.getP{α β:Type}{F:α->β->Prop}:∀{xs:List α} {ys:List β} {i:Nat} {x:α},Paired F xs ys->xs[i]?=some x->∃y,ys[i]?=some y/\F x y
 |_,_,_,_,.nil,h=>by simp at h
 |_,_,0,_,.cons (b:=y) r _,h=>by simp at h;subst h;exact⟨y,rfl,r⟩
 |_,_,i+1,_,.cons _ t,h=>by obtain⟨y,e,q⟩:=Paired.getP (i:=i) t (by simpa using h);exact⟨y,by simpa using e,q⟩
end Words
namespace L2
open PySem PySem.Spec PyProof.Rows
theorem wW{ys:List V}{es:List Da}(I:z9 X pins σ H s)(g:A.units<cLine)(j:cD X.K H a xs)(l:cD X.K H b ys)(px:Paired (vg X.K H n) xs ds)(py:Paired (vg X.K H m) ys es)
 (o:∀{x y:V} {d e:Da} {u v:Value},vg X.K H n x d->vg X.K H m y e->zx x u->zx y v->SeqAt.EqAt A.in1 s u v (Da.eq d e)):SeqAt.RcNeAt A s (.ref a) (.ref b) (!Da.eqs ds es):=by
 obtain⟨r,J,p,_⟩:=I.tuple j;obtain⟨t,U,ty,_⟩:=I.tuple l;have q:=SeqAt.RcNeAt.tuples p ty g (fk px py J U o);rw[Ao,Ao,<-J.length,<-U.length,px.length,py.length,EC] at q;exact q
theorem acn{ys:List V}{es:List Da}(I:z9 X pins σ H s)(l:A.units<cLine)(p:aK X.K H a xs)(r:aK X.K H b ys)(px:Paired (vg X.K H n) xs ds)(py:Paired (vg X.K H m) ys es)
 (t:∀{x y:V} {d e:Da} {u v:Value},vg X.K H n x d->vg X.K H m y e->zx x u->zx y v->SeqAt.EqAt A.in1 s u v (Da.eq d e)):SeqAt.RcNeAt A s (.ref a) (.ref b) (!Da.eqs ds es):=by
 obtain⟨C,U,o,_⟩:=I.list p;obtain⟨T,j,ty,_⟩:=I.list r;by_cases g:C.toArray.size=T.toArray.size
 ·have q:=SeqAt.RcNeAt.lists (j5 o) (j5 ty) g l (fk px py U j t);have J:ds.length=es.length:=by rw[<-px.length,<-py.length,U.length,j.length];simpa using g
  have e:=EC ds es;rw[J,Nat.min_self] at e;rw[<-J] at e;rw[Ao,<-U.length,px.length] at q;simp only[beq_self_eq_true,Bool.and_true] at e;rw[e] at q;exact q
 ·have q:=SeqAt.RcNeAt.lists_lengths (j5 o) (j5 ty) (by simpa using g) l;have J:ds.length≠es.length:=by rw[<-px.length,<-py.length,U.length,j.length];intro z;exact g (by simpa using z)
  have e:=EC ds es;have f:(ds.length==es.length)=false:=by simpa using J
  rw[f,DS] at e;rw[<-e];exact q
def uNe(K:Af)(k:Nat):R2:=λx y H Q=>match x,y with
 |.ref a,.ref b=>∃n m d e,n<=k/\vg K H n (.ref a) d/\vg K H m (.ref b) e/\Q (.bl (!Da.eq d e)) H
 |x,y=>aeb x y=true/\Q (.bl (!decide (x=y))) H
theorem ak5{k:Nat}(hu:X.A.units+k<cLine):vq X (compareOp .NotEq) (uNe X.K k):=by
 intro J s o H x y v u Q I p t h;cases x with
 |ref a=>
  cases y with
  |ref b=>
   obtain⟨n,m,d,e,hn,h1,h2,q⟩:=h;cases p;cases t;have js:∀{k:Bool},k=(!Da.eq d e)->SeqAt.RcNeAt X.A s (.ref a) (.ref b) k->wpAny (model X.prog X.w) X.A (compareOp .NotEq (.ref a) (.ref b)) (EP X J o Q) X.xe s:=λ{k} e' r=>
    r X.prog X.w X.xe (EP X J o Q) (by rw[e'];exact⟨.bl _,H,I,rfl,q⟩)
   cases n with
   |zero=>exact(j7 h1.2).elim
   |succ n=>
    cases m with
    |zero=>exact(j7 h2.2).elim
    |succ m=>
     have j:X.A.in1.units+n<cLine:=by show X.A.units+1+n<cLine;lia
     rcases h1 with⟨_,f⟩|⟨a',xs,ds,C,rfl,l,T⟩|⟨a',xs,ds,C,rfl,l,T⟩
     ·exact(j7 f).elim
     ·cases C;rcases h2 with⟨_,f⟩|⟨b',ys,es,U,rfl,g,py⟩|⟨b',ys,es,U,rfl,g,py⟩
      ·exact(j7 f).elim
      ·cases U;exact js rfl (wW I (by lia) l g T py λh1 h2 r1 r2=>gv I n j h1 h2 r1 r2)
      ·cases U;obtain⟨us,vx,tx,_⟩:=I.tuple l;obtain⟨vs,vy,ty,_⟩:=I.list g;exact js rfl (.tuple_list tx (j5 ty) (by lia))
     ·cases C;rcases h2 with⟨_,f⟩|⟨b',ys,es,U,rfl,g,py⟩|⟨b',ys,es,U,rfl,g,py⟩
      ·exact(j7 f).elim
      ·cases U;obtain⟨us,vx,tx,_⟩:=I.list l;obtain⟨vs,vy,ty,_⟩:=I.tuple g;exact js rfl (.list_tuple (j5 tx) ty (by lia))
      ·cases U;exact js rfl (acn I (by lia) l g T py λh1 h2 r1 r2=>gv I n j h1 h2 r1 r2)
  |_=>exact ahp J s o H _ _ v u Q I p t h
 |_=>cases y<;>exact ahp J s o H _ _ v u Q I p t h
theorem acq:bootBuiltins "max"=some (.builtin "max"):=by decide +kernel
theorem ael:bootBuiltins "bool"=some (.type "bool"):=by decide +kernel
end L2
namespace Words
open PySem L2
def Wd.size:Wd->Nat
 |.leaf _ _=>1
 |.node _ l r=>1+l.size+r.size
theorem Wd.size_eq:∀w:Wd,w.size+1=2*w.leaves
 |.leaf _ _=>rfl
 |.node _ l r=>by have:=Wd.size_eq l;have:=Wd.size_eq r;show 1+l.size+r.size+1=2*(l.leaves+r.leaves);lia
end Words
namespace L2
open PySem PySem.Spec PyProof.Rows
theorem xo.get{P:Program}{w:World}{o:HO}(x:xo P w H h a o):∃ob,h.get? a=some ob:=by
 cases o with
 |lst U=>obtain⟨_,_,_,_,e⟩:=x;exact⟨_,e⟩
 |tup U=>obtain⟨_,_,_,_,e,_⟩:=x;exact⟨_,e⟩
 |dK J=>obtain⟨_,_,_,_,o,_,_,e,_⟩:=x;exact⟨_,e⟩
 |dT J=>obtain⟨_,_,_,_,o,_,_,e,_⟩:=x;exact⟨_,e⟩
 |set S n=>obtain⟨o,_,_,_,e,_⟩:=x;exact⟨_,e⟩
 |ins C g fs=>obtain⟨_,_,_,e,_⟩:=x;exact⟨_,e⟩
 |own y=>exact x
 |xd fs=>obtain⟨_,⟨_,_,_,e,_⟩,_⟩:=x;exact⟨_,e⟩
 |rng lo j=>obtain⟨_,_,_,e⟩:=x;exact⟨_,e⟩
 |frz ob u=>obtain⟨e,_⟩:=x;exact⟨_,e⟩
 |tbl l=>exact⟨_,show h.get? a=some _ from x⟩
 |met f y=>exact⟨_,show h.get? a=some _ from x⟩
 |ext p=>obtain⟨_,e,_⟩:=x;exact e
def pH(h0 h:Heap)(H:Hp)(a C:Addr)(tr:Option Addr):Prop:=
 h0.get? a=none/\H a=none/\∃J vs a0,h.get? a=some J/\J.cls=.ref C/\J.data=.fields vs/\vs[0]?=some a0/\
  match tr with
  |none=>vs[1]?=some .none
  |some T=>vs[1]?=some (.ref T)/\h0.get? T=none/\H T=none/\T≠a/\∃U ts,h.get? T=some U/\U.data=.fields ts/\ts[3]?=some .none
def aW(a:Addr)(tr:Option Addr)(fs:List Addr):List Addr:=a::(tr.toList++fs)
section
variable {tr:Option Addr}
theorem jW{l:List Env}(h:env∈l)(e:env.frame=some b):b∈bH l:=Di.mpr ⟨env,h,e⟩
theorem jU(I:z9 X pins σ H s)(hs:X.stack=X.env::X.outer)(hx:X.ex=[])(new:X.s₀.heap.get? a=none)(free:H a=none)(j:∀T,tr=some T->X.s₀.heap.get? T=none/\H T=none){a0 fl:Value}
 (k1:(PySem.W.hideAll s.heap (aW a tr (bH X.stack))).StaysIn h') (k2:h'.FunFrames (PySem.W.hideAll s.heap (aW a tr (bH X.stack))) X.stack) (k3:h'.TracedAtW (PySem.W.hideAll s.heap (aW a tr (bH X.stack))) a (.ref C) a0 fl)
 (k4:∀b o,s.heap.get? b=some o->(∀vs,o.data≠.fields vs)->∃sl,h'.get? b=some { o with slots:=sl }):
 Un X.fs [] X.H₀ H X.s₀.heap h'/\dF X.prog X.w H h'/\∃T,(∀b o,s.heap.get? b=some o->(∀T0,tr=some T0->b≠T0)->b≠T)/\X.s₀.heap.get? T=none/\H T=none/\T≠a/\∃oe vs oT ts,h'.get? a=some oe/\oe.cls=.ref C/\vs[0]?=some a0/\oe.data=.fields vs/\vs[1]?=some (.ref T)/\h'.get? T=some oT/\oT.data=.fields ts/\ts[3]?=some fl:=by
 have kp:∀b o,s.heap.get? b=some o->b∉aW a tr (bH X.stack)->h'.get? b=some o:=λb o e n=>k1 b o (Cz _ e n);have sl:∀b o,s.heap.get? b=some o->b∈bH X.stack->∃sl,h'.get? b=some { o with slots:=sl }:=λb o e J=>by obtain⟨_,l,e',nf⟩:=I.stack.mem J;rw[e] at e';cases e';exact k4 b o e nf
 have p:∀b,b∈aW a tr (bH X.stack)->H b=none:=λb J=>by
  rcases Ap.mp J with e|J
  ·rw[e];exact free
  ·rcases Ar.mp J with q|q
   ·exact(j b (by simpa using q)).2
   ·exact I.stkFree b q
 have g:∀b o,X.s₀.heap.get? b=some o->b∉X.fs->b∉aW a tr (bH X.stack):=λb o e nb J=>by
  rcases Ap.mp J with q|J
  ·rw[q,new] at e;cases e
  ·rcases Ar.mp J with q|q
   ·rw[(j b (by simpa using q)).1] at e;cases e
   ·rcases Ap.mp (I.stkSub b q) with q|q
    ·exact absurd (AM (ya e) I.ok.above) (by rw[q];exact Cj _)
    ·exact nb q
 have r:∀b,b∈X.fs->b∈bH X.stack:=λb J=>by
  rw[hs];unfold bH;rw[CA];split
  ·exact J
  ·exact Ad _ J
 have U:∀b:Addr,b∉X.ex:=λb=>by rw[hx];simp
 have a3:dF X.prog X.w H h':=λb u e=>(I.hok b u e).stay (λc w' hc q=>kp c w' q λhm=>by
  have n:=p c hm;rcases hc with z|z
  ·rw[z,e] at n;cases n
  ·rw[z] at n;cases n) (λ_ q=>q) λ_ _ q=>q
 refine⟨⟨λb o e n J _=>?_,λb o e n J _=>?_,λb o e n _=>I.base.free b o e n (U b),λb o e _=>?_,I.base.tups,I.base.frzs,I.base.tbls⟩,a3,?_⟩
 ·exact kp b o (I.base.keep b o e n J (U b)) (g b o e J)
 ·obtain⟨z,t⟩:=I.base.slot b o e n J (U b);obtain⟨z',e2⟩:=sl b _ t (r b J);exact⟨z',e2⟩
 ·obtain⟨l,t⟩:=I.base.there b o e (U b);by_cases J:b∈X.fs
  ·obtain⟨z',e2⟩:=sl b _ t (r b J);exact⟨_,e2⟩
  ·exact⟨l,kp b l t (g b o e J)⟩
 ·obtain⟨al,au,T,oT,ts,av,⟨aL,ba⟩,bb,bc,a4,a1,hT,a5,h3⟩:=k3;have a2:∀o,s.heap.get? T=some o->T∈aW a tr (bH X.stack):=λo e=>by
   by_cases q:T∈aW a tr (bH X.stack)
   ·exact q
   ·rw[Cz _ e q] at a4;cases a4
  have ag:T∉bH X.stack:=λJ=>by obtain⟨_,l,e',nf⟩:=k2.mem J;rw[hT] at e';cases e';exact nf ts a5
  refine⟨T,λb o e ne z=>?_,?_,?_,a1,al,au,oT,ts,av,aL,ba,bb,bc,hT,a5,h3⟩
  ·subst z;rcases Ap.mp (a2 o e) with z|z
   ·exact a1 z
   ·rcases Ar.mp z with z|z
    ·exact ne b (by simpa using z) rfl
    ·exact ag z
  ·cases q:X.s₀.heap.get? T with
   |none=>rfl
   |some o=>
    obtain⟨l,t⟩:=I.base.there T o q (U T);rcases Ap.mp (a2 l t) with z|z
    ·exact absurd z a1
    ·rcases Ar.mp z with z|z
     ·rw[(j T (by simpa using z)).1] at q;cases q
     ·exact absurd z ag
  ·cases q:H T with
   |none=>rfl
   |some u=>
    obtain⟨l,t⟩:=(I.hok T u q).get;have:=p T (a2 l t);rw[q] at this;cases this
theorem abu{Q:Unit->Shared->Prop}(I:z9 X pins σ H s)(hs:X.stack=X.env::X.outer)(hf:X.env.frame=some X.env.locals)(hx:X.ex=[])(L:pH X.s₀.heap s.heap H a C tr)
 (h:∀h' T,Un X.fs [] X.H₀ H X.s₀.heap h'->dF X.prog X.w H h'->pH X.s₀.heap h' H a C (some T)->Q () { s with heap:=h' }):wpAny M X.A (leaving X.env (.ref a)) Q E s:=by
 have L0:=L;obtain⟨new,free,oe,vs,b0,g,hc,hd,h0,J⟩:=L0;have j:s.heap.FunFrames (PySem.W.hideAll s.heap (aW a tr (bH X.stack))) X.stack:=Ce I.stack λenv g b hb=>Ad _ (Ah _ (jW g hb));have st:(PySem.W.hideAll s.heap (aW a tr (bH X.stack))).StaysIn s.heap:=λb o e=>Cc _ e;have l:(PySem.W.hideAll s.heap (aW a tr (bH X.stack))).get? a=none:=BB _ Ak;have U:X.A.frames=some (X.env::X.outer):=by rw[<-hs];exact I.ok.frames
 have go:∀h',Heap.LeftW (PySem.W.hideAll s.heap (aW a tr (bH X.stack))) (X.env::X.outer) a (.ref C) b0 s.heap h'->Q () { s with heap:=h' }:=λh' ⟨k1,k2,k3,k4⟩=>by obtain⟨u,p,T,_,n1,n2,ne,r,t,oT,ts,e1,e2,e3,e4,e5,e6,e7,e8⟩:=jU I hs hx new free (by intro T e;subst e;exact⟨J.2.1,J.2.2.1⟩) k1 (by rw[hs];rw[hs] at k2;exact k2) k3.at k4;exact h h' T u p ⟨new,free,r,t,b0,e1,e2,e4,e3,e5,n1,n2,ne,oT,ts,e6,e7,e8⟩
 have nT:∀T,tr=some T->(PySem.W.hideAll s.heap (aW a tr (bH X.stack))).get? T=none:=λT e=>by subst e;exact BB _ (Ad _ (Aq _ (by simp)))
 generalize PySem.W.hideAll s.heap (aW a tr (bH X.stack))=base at j st l go nT;rw[hs] at j;cases tr with
 |none=>exact wpAny_leaving_firstW U j hf g st l hd J h0 (by rw[hc];exact go)
 |some T=>
  obtain⟨h1,_,_,a1,oT,ts,hT,a2,h3⟩:=J;exact wpAny_leaving_nextW U j hf ⟨oe,vs,T,oT,ts,g,⟨hc,h0⟩,hd,h1,nT T rfl,a1,hT,a2,h3⟩ st l go
end
def CXE(P:Program)(w:World):vU:=λouter H s E e s'=>∃a C T H',e=.ref a/\s'.os=s.os/\AllBare s'.gens/\Un (bH outer) [] H H' s.heap s'.heap/\dF P w H' s'.heap/\pH s.heap s'.heap H' a C (some T)/\E (.ref C) none H'/\0<s'.toks
def vC(X:Cx)(a:Addr):Prop:=a≠X.env.locals/\(∀x c,X.env.cells.lookup x=some c->c≠a)/\∀p∈X.pn,p.1≠a
abbrev X1:=St->Value->Hp->Prop
def bK(X:Cx)(E1:X1):Prop:=∀(pins:List (Addr×Obj)) (σ:St) (H:Hp) (s:Shared) (a C:Addr) (tr:Option Addr),z9 X pins σ H s->pH X.s₀.heap s.heap H a C tr->vC X a->(∀T,tr=some T->vC X T)->E1 σ (.ref C) H->X.xe (.ref a) s
section
variable {T:Addr}{tr:Option Addr}{E1:X1}
theorem z9.apart(I:z9 X pins σ H s)(h:s.heap.get? b=none):vC X b:=by
 refine⟨λe=>?_,λx c e z=>?_,λp U z=>?_⟩
 ·obtain⟨m,⟨o,_,_,J,_⟩,_⟩:=I.loc;rw[<-e,h] at J;cases J
 ·obtain⟨v,o,J,_⟩:=I.cell x c e;rw[z,h] at J;cases J
 ·obtain⟨e,_⟩:=I.pin p (Aq _ U);rw[z,h] at e;cases e
theorem z9.news(I:z9 X pins σ H s)(J:X.ex=[])(h:s.heap.get? b=none):X.s₀.heap.get? b=none:=by
 cases q:X.s₀.heap.get? b with
 |none=>rfl
 |some o=>
  obtain⟨U,e⟩:=I.base.there b o q (by rw[J];simp);rw[h] at e;cases e
theorem bK.pass(t:bK X E1)(U:X.ex=[]){e:Value}(I:z9 X pins σ H s)(h:CXE X.prog X.w X.stack H s (λc _ H'=>E1 σ c H') e s'):X.xe e s':=by obtain⟨a,C,T,H',rfl,j,l,u,J,⟨new,free,o,p,r,he,hc,hd,h0,h1,g,fT,rest⟩,q,a1⟩:=h;have I':z9 X pins σ H' s':=I.call' (ch:=[]) j u J l (λb z=>absurd z (by simp));exact t pins σ H' s' a C (some T) I' ⟨I.news U new,free,o,p,r,he,hc,hd,h0,h1,I.news U g,fT,rest⟩ (I.apart new) (λT' e=>by cases e;exact I.apart g) q
theorem ag6{k:Nat}{Q:VK}(F:ar X.prog X.w X.K X.mg X.base (CXE X.prog X.w) k f fd ps sp)(U:wb k X.A)(g:cz X.K fd ps [])(j:bK X E1)(l:X.ex=[])
 (I:z9 X pins σ H s) (r:zo vs us) (h:sp vs H Q (λc _ H'=>E1 σ c H')):wpAny (model X.prog X.w) X.A (call (.ref f) us) (EP X pins σ Q) X.xe s:=by
 have o:(us++[]).length=ps.length:=by rw[AI,<-r.length];exact F.len _ _ _ _ h
 refine wpAny_call (codeAny_mono (F.run X.A X.stack s H ⟨us,[]⟩ us vs Q _ U I.env0 (by have:=g s us I.kIn o;rw[AI] at this;exact this) r h) λr t J=>?_);cases r with
 |error e=>exact j.pass l I J
 |ok p=>
  cases p with|ret u=>exact I.after J|next=>exact False.elim J|brk=>exact False.elim J|cont=>exact False.elim J
end
def akn(sp:Sp)(E1:X1)(t:TA):TE:=λσ H Q=>t σ H λvs H1=>sp vs H1 Q λc _ H'=>E1 σ c H'
section
variable {k:Nat}{E1:X1}{t:TA}
theorem sR(F:ar X.prog X.w X.K X.mg X.base (CXE X.prog X.w) k f fd ps sp)(l:wb k X.A)(o:Gl X x)(C:X.mg x=some (.ref f))(T:PySem.W.keepIn X.K (.ref f)=true)(hb:cz X.K fd ps [])(ht:bK X E1)(hx:X.ex=[])
 (ha:PA X (e::es) t) (U:Ed x:=by decide) (he:Eb e es X:=by rfl) (g:Ec pos es X:=by rfl):
 PE X (.Call (.Name x p) (e::es) [] pos) (akn sp E1 t):=by
 intro J s σ H Q I h;refine wpAny_Call_Name_kw (gE I o C ?_ U);refine PySem.W.callWith_K (h₀:=X.base) I.ok.mod.kin T (aI (ha pos J s σ H _ I h) λus s1 ⟨vs,H1,j,r,q⟩=>⟨j.kIn,?_⟩) he g;exact ag6 F l hb ht hx j r q
end
theorem acb{P:Program}{w:World}{K:Af}{N:List Str}{E:XK}:
 bK (cZ (CXE P w) P w K mg base N eK scope f cd A outer s H E) λ_ c H'=>E c none H':=by
 intro U j H' l a C tr I L _ _ q;refine abu (X:=cZ (CXE P w) P w K mg base N eK scope f cd A outer s H E) I rfl rfl rfl L λo T u J g=>?_;exact⟨a,C,T,H',rfl,I.os,I.bare,u,J,g,q,I.tk⟩
structure aab(K:Af)(C:Addr):Prop where
 ex:∃(nm q:Str) (N:Addr) (bs bm:List Value) (hdct:Bool) (sn:List Str) (sub:List Value) (ab:Bool) (col:Option Bool) (dd:Option Addr) (k0 k1 k2 k3 k5:Option Value) (B Bn newId nid initId inN:String) (bmB bmN:List Value),
  ExcBaseFacts Bn newId inN bmN/\bmB.contains (.type Bn)=true/\ExcBaseFacts B nid initId bmB/\
  ∀h,K.In h->h.get? C=some (excClassObj nm q C N bs bm hdct sn sub ab col dd k0 k1 k2 k3 k5 newId)/\(∃mN,h.Ns N mN/\mN "__init__"=none)/\OwnTail h bmB bm
theorem ah6{K:Af}{g p:List Value}{B T U r J t:String}(q:PySem.W.excIn K C g U=true)(Fn:ExcBaseFacts T U t p)(a1:g.contains (.type T)=true)(F:ExcBaseFacts B r J g):aab K C:=by
 unfold PySem.W.excIn at q;split at q
 ·rename_i dd cd sl ho;split at q
  ·rename_i C' bm k0 k1 k2 k3 n k5 hm hs;simp only[A4,beq_iff_eq,Cq] at q;obtain⟨⟨⟨⟨⟨rfl,rfl⟩,j⟩,ht⟩,o⟩,I⟩:=q;obtain⟨nm,bs,a4,ns,qn,hd,sn,sub,ab,a2,del⟩:=cd;dsimp only at hm j o I;subst hm j;have a3:sl=#[k0,k1,k2,k3,some (.builtin n),k5]:=by obtain⟨l⟩:=sl;simp only at hs;rw[hs]
   subst a3;exact⟨nm,qn,ns,bs,bm,hd,sn,sub,ab,a2,dd,k0,k1,k2,k3,k5,B,T,n,r,J,t,g,p,Fn,a1,F,λh X=>⟨X _ _ ho,⟨_,.of_isNs (PySem.W.isNs_of_in X o),PySem.W.nsMap_none_of_in X o I⟩,PySem.W.tail_of_in X ht⟩⟩
  ·cases q
 ·cases q
def akk(C:Addr)(E1:X1)(t:TA):TS:=λ_ σ H=>t σ H λvs H1=>vs.length<=sizeLine/\E1 σ (.ref C) H1
theorem aad{E1:X1}{t:TA}(c:aab X.K C)(hg:Gl X x)(U:X.mg x=some (.ref C))(hc:X.calm=true)(ht:bK X E1)(hx:X.ex=[])(ha:PA X (e::es) t)(a1:Ed x:=by decide)
 (he:Eb e es X:=by rfl) (a2:Ec fm es X:=by rfl):
 PS X (.Raise (some (.Call (.Name x np) (e::es) [] fm)) none pos) (akk C E1 t):=by
 intro J s σ H D I h;obtain⟨nm,q,N,bs,bm,hdct,sn,sub,ab,col,dd,k0,k1,k2,k3,k5,B,Bn,a3,ag,l,al,au,av,Fn,a4,F,all⟩:=c.ex;obtain⟨_,⟨mN,hn,a5⟩,ow⟩:=all X.base I.ok.mod.kin;refine wpAny_Raise_call_subU (C:=C) (nm:=nm) (q:=q) (N:=N) (bs:=bs) (bm:=bm) (hdct:=hdct) (sn:=sn) (sub:=sub) (ab:=ab) (col:=col) (dd:=dd) (k0:=k0) (k1:=k1) (k2:=k2) (k3:=k3) (k5:=k5) Fn a4 F (mN:=mN) (ow.hasType F.hasBase) (I.ok.hd hc)
  (by rw[he];show(false||(backTo fm (starEach es X.env)).any (·.1))=false;rw[a2];rfl) a5 (gE I hg U ⟨rfl,?_⟩ a1)
 rw[he];have j:=ha fm J s σ H _ I h;rw[he] at j;refine Calls.evalArgs_plain (aI j λus s2 ⟨vs,p,g,r,hl,q1⟩=>⟨rfl,by rw[<-r.length];exact hl,(all _ g.kIn).1,hn.keeps g.bk,(all _ g.kIn).2.2,λh' a U=>?_⟩);obtain⟨t0,e1,_,_⟩:=U.there;have I2:z9 X J σ p { s2 with heap:=h' }:=g.kept (t':=s2.toks) U.keeps;have fr:p a=none:=by
  cases z:p a with
  |none=>rfl
  |some u=>
   obtain⟨o,eo⟩:=(g.hok a u z).get;rw[U.new] at eo;cases eo
 exact ht J σ p _ a C none I2 ⟨g.news hx U.new,fr,_,_,.ref t0,e1,rfl,rfl,rfl,rfl⟩ (g.apart U.new) (λT z=>nomatch z) q1
section
variable {T:Addr}{tr:Option Addr}
theorem iD(I:z9 X pins σ H s)(hx:X.ex=[])(hf:X.stack=X.env::X.outer)(un:Un X.fs [] X.H₀ H X.s₀.heap h')(hok:dF X.prog X.w H h')
 (k1:(PySem.W.hideAll s.heap (aW a tr (bH X.stack))).StaysIn h') (l:∀b o,s.heap.get? b=some o->(∀vs,o.data≠.fields vs)->∃J,h'.get? b=some { o with slots:=J })
 (pa:∀p∈X.pn++pins,p.1≠a/\∀T,tr=some T->p.1≠T):z9 X pins σ H { s with heap:=h' }:=by
 have t:∀{c:Addr} {v:Option Value},s.heap.IsCell c v->h'.IsCell c v:=λ{c v} ⟨o,U,hd⟩=>by
  obtain⟨J,e⟩:=l c o U λvs q=>by rw[hd] at q;cases q
  exact⟨_,e,hd⟩
 obtain⟨m,hn,hl⟩:=id I.loc;have g:h'.Ns X.env.locals m:=by
  obtain⟨o,es,ep,U,hd,r⟩:=hn;obtain⟨J,e⟩:=l _ o U λvs q=>by rw[hd] at q;cases q
  exact⟨_,es,ep,e,hd,r⟩
 refine⟨I.ok,I.os,I.bare,by rw[hx];exact un,⟨m,g,λi x v e1 e2 e3=>?_⟩,λx c e=>?_,I.free,I.freeC,λp j=>?_,hok,I.len,I.tk⟩
 ·obtain⟨u,ru,lk⟩:=hl i x v e1 e2 e3;refine⟨u,ru,?_⟩;rcases lk with lk|⟨k,c,e,z⟩
  ·exact .inl lk
  ·exact .inr ⟨k,c,e,t z⟩
 ·obtain⟨v,z⟩:=I.cell x c e;exact⟨v,t z⟩
 ·obtain⟨e,n,ne,C,d⟩:=I.pin p j;refine⟨k1 _ _ (Cz _ e λhm=>?_),n,ne,C,d⟩;rcases Ap.mp hm with z|z
  ·exact(pa p j).1 z
  ·rcases Ar.mp z with z|z
   ·exact(pa p j).2 p.1 (by simpa using z) rfl
   ·rcases Ap.mp (I.stkSub _ z) with z|z
    ·exact ne z
    ·exact C z
theorem ag7{Q:Unit->Shared->Prop}(I:z9 X pins σ H s)(hs:X.stack=X.env::X.outer)(hf:X.env.frame=some X.env.locals)(hx:X.ex=[])(L:pH X.s₀.heap s.heap H a C tr)
 (pa:∀p∈X.pn++pins,p.1≠a/\∀T,tr=some T->p.1≠T)
 (h:∀h' T,z9 X pins σ H { s with heap:=h' }->pH X.s₀.heap h' H a C (some T)->(∀p∈X.pn++pins,p.1≠T)->Q () { s with heap:=h' }):
 wpAny M X.A (noteFrame (.ref a) X.env) (λ_ j=>wpAny M X.A (setFlight (.ref a) none) Q E j) E s:=by
 obtain⟨new,free,oe,vs,b0,g,hc,hd,h0,J⟩:=id L;have r:∀T,tr=some T->X.s₀.heap.get? T=none/\H T=none:=by intro T e;subst e;exact⟨J.2.1,J.2.2.1⟩
 have fr:s.heap.FunFrames (PySem.W.hideAll s.heap (aW a tr (bH X.stack))) X.stack:=Ce I.stack λenv g b hb=>Ad _ (Ah _ (jW g hb));have st:(PySem.W.hideAll s.heap (aW a tr (bH X.stack))).StaysIn s.heap:=λb o e=>Cc _ e;have na:(PySem.W.hideAll s.heap (aW a tr (bH X.stack))).get? a=none:=BB _ Ak;have t:X.A.frames=some (X.env::X.outer):=by rw[<-hs];exact I.ok.frames
 have nT:∀T,tr=some T->(PySem.W.hideAll s.heap (aW a tr (bH X.stack))).get? T=none:=λT e=>by subst e;exact BB _ (Ad _ (Aq _ (by simp)))
 have go:∀h',Heap.NotedW (PySem.W.hideAll s.heap (aW a tr (bH X.stack))) (X.env::X.outer) a (.ref C) b0 (rawInt X.env.locals) s.heap h'->wpAny M X.A (setFlight (.ref a) none) Q E { s with heap:=h' }:=λh' ⟨k1,k2,k3,k4⟩=>by
  rw[<-hs] at k2;obtain⟨u,a4,T,a5,n1,n2,ne,ag,al,oT,ts,e1,e2,e3,e4,e5,e6,e7,e8⟩:=jU I hs hx new free r k1 k2 k3 k4;have I2:z9 X pins σ H { s with heap:=h' }:=iD I hx hs u a4 k1 k4 pa;have m6:∀p∈X.pn++pins,p.1≠T:=λp U=>by obtain⟨e,_⟩:=I.pin p U;exact a5 p.1 _ e (pa p U).2
  have au:h'.FunFrames (PySem.W.hideAll h' (aW a (some T) (bH X.stack))) X.stack:=Ce I2.stack λenv g b hb=>Ad _ (Ah _ (jW g hb));refine wpAny_setFlight_noneW (s:={ s with heap:=h' }) (base:=PySem.W.hideAll h' (aW a (some T) (bH X.stack))) (l:=X.stack) (e:=a) (cls:=.ref C) (a0:=b0) (fl:=rawInt X.env.locals) (λb o e=>Cc _ e) au
   ⟨ag,al,T,oT,ts,e1,⟨e2,e3⟩,e4,e5,BB _ (Ad _ (Aq _ (by simp))),ne,e6,e7,e8⟩ λh3 j1 j2 j3 j4=>?_
  have a1:∀b o,h'.get? b=some o->(∀vs,o.data≠.fields vs)->∃sl,h3.get? b=some { o with slots:=sl }:=λb o e q=>⟨o.slots,j4 b o e q⟩;obtain⟨u',a2,T',a3,av,aL,ba,bb,bc,bd,bf,f1,f2,f3,f4,f5,f6,f7,f8⟩:=jU (s:={ s with heap:=h' }) (tr:=some T) I2 hs hx new free (λT0 e=>by cases e;exact⟨n1,n2⟩) j1 j2 j3.at a1;have I3:z9 X pins σ H { s with heap:=h3 }:=iD (s:={ s with heap:=h' }) (h':=h3) (tr:=some T) I2 hx hs u' a2 j1 a1 λp U=>⟨(pa p U).1,λT0 e=>by cases e;exact m6 p U⟩;refine h h3 T' I3 ⟨new,free,bb,bc,b0,f1,f2,f4,f3,f5,av,aL,ba,bd,bf,f6,f7,f8⟩ λp U=>?_;obtain⟨e,_⟩:=I2.pin p U;exact a3 p.1 _ e λT0 z=>by cases z;exact m6 p U
 generalize PySem.W.hideAll s.heap (aW a tr (bH X.stack))=base at fr st na go nT;rw[hs] at fr;cases tr with
 |none=>
  unfold noteFrame;simp only[hf];refine Aa (AN g hd J ?_);rw[AE (by decide)];exact wpAny_entryW t fr hf g st na hd (Array.getElem?_eq_some_iff.mp J).1 h0 (by rw[hc];exact go)
 |some T=>
  obtain⟨h1,_,_,bg,oT,ts,hT,bh,h3⟩:=J;exact wpAny_noteFrame_onW t fr hf ⟨oe,vs,T,oT,ts,g,⟨hc,h0⟩,hd,h1,nT T rfl,bg,hT,bh,h3⟩ st na go
end
abbrev Cx.tr(X:Cx)(pn:List (Addr×Obj))(xe:Value->Shared->Prop):Cx:={ X with pn:=pn,xe:=xe }
abbrev Cx.hnd(X:Cx)(a:Addr):Cx:={ X with A:=X.A.mark (some (.ref a)),calm:=false,xe:=λ_ _=>False }
theorem Cx.Ok.tr(ok:X.Ok)(pn:List (Addr×Obj))(xe:Value->Shared->Prop):(X.tr pn xe).Ok:=
 ⟨ok.mod,ok.kind,ok.glob,ok.blt,ok.above,ok.inj,ok.has,ok.cab,ok.hd,ok.frames,ok.stk,ok.exf,ok.bs,ok.bsz,ok.noex,ok.exfs,ok.funs,ok.frf⟩
theorem Cx.Ok.untr{pn:List (Addr×Obj)}(ok:(X.tr pn xe).Ok):X.Ok:=
 ⟨ok.mod,ok.kind,ok.glob,ok.blt,ok.above,ok.inj,ok.has,ok.cab,ok.hd,ok.frames,ok.stk,ok.exf,ok.bs,ok.bsz,ok.noex,ok.exfs,ok.funs,ok.frf⟩
theorem Cx.Ok.hnd(ok:X.Ok)(a:Addr):(X.hnd a).Ok:=
 ⟨ok.mod,ok.kind,ok.glob,ok.blt,ok.above,ok.inj,ok.has,ok.cab,(λz=>nomatch z),ok.frames,ok.stk,ok.exf,ok.bs,ok.bsz,ok.noex,ok.exfs,ok.funs,ok.frf⟩
section
variable {T:Addr}
theorem z9.tr(I:z9 X pins σ H s)(xe:Value->Shared->Prop):z9 (X.tr (X.pn++pins) xe) [] σ H s:=⟨I.ok.tr _ _,I.os,I.bare,I.base,I.loc,I.cell,I.free,I.freeC,(λp J=>I.pin p (by simpa using J)),I.hok,I.len,I.tk⟩
theorem z9.untr{J:List (Addr×Obj)}(I:z9 (X.tr (X.pn++pins) xe) J σ H s):z9 X pins σ H s:=⟨I.ok.untr,I.os,I.bare,I.base,I.loc,I.cell,I.free,I.freeC,(λp U=>I.pin p (Aq _ U)),I.hok,I.len,I.tk⟩
theorem z9.hnd(I:z9 X pins σ H s)(a:Addr):z9 (X.hnd a) pins σ H s:=⟨I.ok.hnd a,I.os,I.bare,I.base,I.loc,I.cell,I.free,I.freeC,I.pin,I.hok,I.len,I.tk⟩
theorem z9.unhnd(ok:X.Ok)(I:z9 (X.hnd a) pins σ H s):z9 X pins σ H s:=⟨ok,I.os,I.bare,I.base,I.loc,I.cell,I.free,I.freeC,I.pin,I.hok,I.len,I.tk⟩
theorem SP.untr{D:oX}{f:Flow}(h:SP (X.tr (X.pn++pins) xe) [] D f s'):SP X pins D f s':=by
 cases f with
 |next=>obtain⟨U,g,J,q⟩:=h;exact⟨U,g,J.untr,q⟩
 |brk=>obtain⟨U,g,J,q⟩:=h;exact⟨U,g,J.untr,q⟩
 |cont=>obtain⟨U,g,J,q⟩:=h;exact⟨U,g,J.untr,q⟩
 |ret u=>obtain⟨v,U,g,J,r,q⟩:=h;exact⟨v,U,g,J.untr,r,q⟩
theorem xJ{Q:Unit->Shared->Prop}(I:z9 X pins σ H s)(hs:X.stack=X.env::X.outer)(hx:X.ex=[])(L:pH X.s₀.heap s.heap H a C (some T))
 (pa:∀p∈X.pn++pins,p.1≠a/\p.1≠T) (h:∀h' g,z9 X pins σ H { s with heap:=h' }->pH X.s₀.heap h' H a C (some g)->Q () { s with heap:=h' }):wpAny M A (setFlight (.ref a) none) Q E s:=by
 obtain⟨new,free,oe,j,b0,r,hc,hd,h0,h1,n1,n2,ne,oT,ts,hT,t,h3⟩:=L;have a1:s.heap.FunFrames (PySem.W.hideAll s.heap (aW a (some T) (bH X.stack))) X.stack:=Ce I.stack λenv r b hb=>Ad _ (Ah _ (jW r hb));refine wpAny_setFlight_noneW (base:=PySem.W.hideAll s.heap (aW a (some T) (bH X.stack))) (l:=X.stack) (e:=a) (cls:=.ref C) (a0:=b0) (fl:=.none) (λb o e=>Cc _ e) a1
  ⟨oe,j,T,oT,ts,r,⟨hc,h0⟩,hd,h1,BB _ (Ad _ (Aq _ (by simp))),ne,hT,t,h3⟩ λh3 j1 j2 j3 j4=>?_
 have J:∀b o,s.heap.get? b=some o->(∀j,o.data≠.fields j)->∃sl,h3.get? b=some { o with slots:=sl }:=λb o e q=>⟨o.slots,j4 b o e q⟩;obtain⟨u',U,g,av,a2,a3,a4,a5,ag,al,au,f1,f2,f3,f4,f5,f6,f7,f8⟩:=jU (tr:=some T) I hs hx new free (λT0 e=>by cases e;exact⟨n1,n2⟩) j1 j2 j3.at J;exact h h3 g (iD (tr:=some T) I hx hs u' U j1 J λp hp=>⟨(pa p hp).1,λT0 e=>by cases e;exact(pa p hp).2⟩) ⟨new,free,a5,ag,b0,f1,f2,f4,f3,f5,a2,a3,a4,al,au,f6,f7,f8⟩
end
open PySem PySem.Spec PyProof.Rows PySem.W
open Builtin.ObjectAttr in
section
variable {w:World}{K:Frag}
open Builtin Builtin.ObjectAttr Builtin.Getset_descriptor in
end
def anl(K:Af)(H:Hp)(a C:Addr):Prop:=∃J,H a=some (.frz J (.own 0))/\J.cls=.ref C
def oz(H:Hp)(P:Addr)(q:Str):Prop:=∃ps,H P=some (.tbl ps)/\TriplesOk ps.toList/\∀pos J,codeAmong pos ps.toList=some J->∃U oc vs t,J=.ref U/\H U=some (.frz oc (.own 0))/\oc.data=.fields vs/\vs[1]?=some (.str q t)
theorem oz.keep{P:Addr}(h:oz H P q)(e:H' P=H P)(t:∀b o u,H b=some (.frz o u)->H' b=some (.frz o u)):oz H' P q:=by obtain⟨J,h1,h2,h3⟩:=h;refine⟨J,e.trans h1,h2,λpos U z=>?_⟩;obtain⟨g,j,l,p,r,C,I⟩:=h3 pos U z;exact⟨g,j,l,p,r,t _ _ _ C,I⟩
end L2
namespace L3
open PySem L2
inductive Y where
 |non|bl (b:Bool)|int (i:Int)|str (x:Str)|ref (a:Addr)|ty (n:String)|cd (kvs:List (Str×Str))|tup (ys:List Y)|sq (ys:List Y)
inductive LO where
 |lst (ys:List Y)|dct (kvs:List (jg×Y))|ins (C:Addr) (fs:List (Str×Y))|exc (C:Addr)|tb (q:Str)
abbrev qm:=Addr->Option LO
def qf(L:qm)(a:Addr)(o:LO):qm:=λb=>if b=a then some o else L b
theorem q8{L:qm}{o:LO}:qf L a o a=some o:=by unfold qf;rw[AD rfl]
theorem q9{L:qm}{o:LO}(h:b≠a):qf L a o b=L b:=by unfold qf;rw[AE h]
theorem xw{L:qm}{o u:LO}:qf (qf L a o) a u=qf L a u:=by funext b;unfold qf;split<;>rfl
theorem v5{L:qm}{o:LO}(h:L a=some o)(h':L b=none):a≠b:=by intro e;subst e;rw[h] at h';cases h'
structure G3 where
 K:Af
 P:Program
 w:World
abbrev _root_.L2.Cx.g3(X:Cx):G3:=⟨X.K,X.prog,X.w⟩
def SqF(K:Af)(H:Hp)(a:Addr)(xs:List V):Prop:=(∃o,H a=some (.frz o (.lst xs)))\/
 ∃(o:Obj) (eH:Array Value) (n:Nat),K.lookup a=some o/\o.cls=.type "list" /\ o.dict=none/\o.data=.seq eH n/\eH.size<=sizeLine/\zo xs eH.toList
theorem SqF.sq{K:Af}(h:SqF K H a xs):aK K H a xs:=by
 rcases h with⟨o,h⟩|h
 ·exact .inl (.inr ⟨o,h⟩)
 ·exact .inr h
mutual
def RV(G:G3)(H:Hp):Y->V->Prop
 |.non,v=>v=.non
 |.bl b,v=>v=.bl b
 |.int i,v=>v=.int i
 |.str x,v=>v=.str x
 |.ref a,v=>v=.ref a
 |.ty n,v=>v=.ty n
 |.cd kvs,v=>∃a,v=.ref a/\KD G.K G.P G.w a (kvs.map λp=>(Sum.inr p.1,V.str p.2))
 |.tup ys,v=>∃a xs,v=.ref a/\cD G.K H a xs/\x6 G H ys xs
 |.sq ys,v=>∃a xs,v=.ref a/\SqF G.K H a xs/\x6 G H ys xs
def x6(G:G3)(H:Hp):List Y->List V->Prop
 |[],xs=>xs=[]
 |y::ys,xs=>∃x J,xs=x::J/\RV G H y x/\x6 G H ys J
end
def Imm:HO->Bool
 |.tup _=>true
 |.frz _ _=>true
 |_=>false
def j8(H H':Hp):Prop:=∀a u,Imm u=true->H a=some u->H' a=some u
theorem j8.refl(H:Hp):j8 H H:=λ_ _ _ h=>h
abbrev DV:=@j8.refl
theorem j8.trans{H1 H2:Hp}(a:j8 H H1)(b:j8 H1 H2):j8 H H2:=λc u i h=>b c u i (a c u i h)
theorem j8.new{p:Addr}{o:HO}(h:H p=none):j8 H (upd H p o):=λ_ _ _ q=>by rw[qp (zu q h)];exact q
abbrev DW:=@j8.new
theorem j8.lst{p:Addr}{o:HO}(h:H p=some (.lst zs)):j8 H (upd H p o):=λa u i q=>by rw[qp ?_];exact q;rintro rfl;rw[h] at q;cases q;cases i
abbrev EF:=@j8.lst
theorem cD.ts{K:Af}(h:cD K H a xs)(t:j8 H H'):cD K H' a xs:=by
 rcases h with(h|⟨o,h⟩)|h
 ·exact .inl (.inl (t _ _ rfl h))
 ·exact .inl (.inr ⟨o,t _ _ rfl h⟩)
 ·exact .inr h
theorem SqF.ts{K:Af}(h:SqF K H a xs)(t:j8 H H'):SqF K H' a xs:=by
 rcases h with⟨o,h⟩|h
 ·exact .inl ⟨o,t _ _ rfl h⟩
 ·exact .inr h
mutual
theorem RV.ts{G:G3}{H H':Hp}(t:j8 H H'):∀{y:Y} {v:V},RV G H y v->RV G H' y v
 |.non,_,h=>h
 |.bl _,_,h=>h
 |.int _,_,h=>h
 |.str _,_,h=>h
 |.ref _,_,h=>h
 |.ty _,_,h=>h
 |.cd _,_,h=>h
 |.tup _,_,⟨a,J,e,s,r⟩=>⟨a,J,e,cD.ts s t,x6.ts t r⟩
 |.sq _,_,⟨a,J,e,s,r⟩=>⟨a,J,e,s.ts t,x6.ts t r⟩
theorem x6.ts{G:G3}{H H':Hp}(t:j8 H H'):∀{ys:List Y} {xs:List V},x6 G H ys xs->x6 G H' ys xs
 |[],_,h=>h
 |_::_,_,⟨x,J,e,r,s⟩=>⟨x,J,e,RV.ts t r,x6.ts t s⟩
end
theorem x6.length{G:G3}{H:Hp}:∀{ys:List Y} {xs:List V},x6 G H ys xs->ys.length=xs.length
 |[],_,h=>by cases h;rfl
 |_::_,_,⟨x,J,e,_,s⟩=>by subst e;simp[x6.length s]
theorem x6.get{G:G3}{H:Hp}:∀{ys:List Y} {xs:List V} {i:Nat} {y:Y},x6 G H ys xs->ys[i]?=some y->∃x,xs[i]?=some x/\RV G H y x
 |[],_,_,_,_,h=>by simp at h
 |_::_,_,0,_,⟨x,J,e,r,_⟩,h=>by subst e;simp at h;subst h;exact⟨x,rfl,r⟩
 |_::_,_,i+1,_,⟨x,J,e,_,s⟩,h=>by subst e;obtain⟨U,q,r⟩:=x6.get (i:=i) s (by simpa using h);exact⟨U,by simpa using q,r⟩
theorem x6.app{G:G3}{H:Hp}:∀{ys zs:List Y} {xs us:List V},x6 G H ys xs->x6 G H zs us->x6 G H (ys++zs) (xs++us)
 |[],_,_,_,h,q=>by cases h;exact q
 |_::_,_,_,_,⟨x,J,e,r,s⟩,q=>by subst e;exact⟨x,J++_,rfl,r,x6.app s q⟩
theorem x6.one{G:G3}{y:Y}{x:V}(r:RV G H y x):x6 G H [y] [x]:=⟨x,[],rfl,r,rfl⟩
theorem x6.take{G:G3}{H:Hp}:∀{ys:List Y} {xs:List V} (n:Nat),x6 G H ys xs->x6 G H (ys.take n) (xs.take n)
 |[],_,n,h=>by cases h;simp[x6]
 |_::_,_,0,_=>by simp[x6]
 |_::_,_,n+1,⟨x,J,e,r,s⟩=>by subst e;exact⟨x,J.take n,rfl,r,x6.take n s⟩
theorem x6.drop{G:G3}{H:Hp}:∀{ys:List Y} {xs:List V} (n:Nat),x6 G H ys xs->x6 G H (ys.drop n) (xs.drop n)
 |[],_,n,h=>by cases h;simp[x6]
 |_::_,_,0,h=>h
 |_::_,_,n+1,⟨x,J,e,r,s⟩=>by subst e;exact x6.drop n s
theorem x6.setY{G:G3}{H:Hp}{y:Y}{x:V}(r:RV G H y x):∀{ys:List Y} {xs:List V} (i:Nat),x6 G H ys xs->x6 G H (ys.set i y) (xs.set i x)
 |[],_,_,h=>by cases h;simp[x6]
 |_::_,_,0,⟨U,J,e,_,s⟩=>by subst e;exact⟨x,J,rfl,r,s⟩
 |_::_,_,i+1,⟨U,J,e,q,s⟩=>by subst e;exact⟨U,J.set i x,rfl,q,x6.setY r i s⟩
theorem x6.dropLast{G:G3}{ys:List Y}(h:x6 G H ys xs):x6 G H ys.dropLast xs.dropLast:=by rw[List.dropLast_eq_take,List.dropLast_eq_take,h.length];exact h.take _
theorem x6.eraseIdx{G:G3}{H:Hp}:∀{ys:List Y} {xs:List V} (n:Nat),x6 G H ys xs->x6 G H (ys.eraseIdx n) (xs.eraseIdx n)
 |[],_,n,h=>by cases h;simp[x6]
 |_::_,_,0,⟨x,J,e,r,s⟩=>by subst e;exact s
 |_::_,_,n+1,⟨x,J,e,r,s⟩=>by subst e;exact⟨x,J.eraseIdx n,rfl,r,x6.eraseIdx n s⟩
def RO(G:G3)(H:Hp)(a:Addr):LO->Prop
 |.lst ys=>∃xs,H a=some (.lst xs)/\x6 G H ys xs
 |.dct kvs=>∃xs,H a=some (.dK xs)/\Paired (λ(p:jg×Y) (q:jg×V)=>p.1=q.1/\RV G H p.2 q.2) kvs xs
 |.ins C fs=>∃dx xs,H a=some (.ins C dx xs)/\Paired (λ(p:Str×Y) (q:Str×V)=>p.1=q.1/\RV G H p.2 q.2) fs xs
 |.exc C=>anl G.K H a C
 |.tb q=>oz H a q
def zy(G:G3)(H:Hp)(L:qm):Prop:=∀a o,L a=some o->RO G H a o
theorem RO.ex{G:G3} :∀{o:LO},RO G H a o->∃u,H a=some u
 |.lst _,⟨_,h,_⟩=>⟨_,h⟩
 |.dct _,⟨_,h,_⟩=>⟨_,h⟩
 |.ins _ _,⟨_,_,h,_⟩=>⟨_,h⟩
 |.exc _,⟨_,h,_⟩=>⟨_,h⟩
 |.tb _,⟨_,h,_⟩=>⟨_,h⟩
theorem zy.none{G:G3}{L:qm}(h:zy G H L){p:Addr}(J:H p=none):L p=none:=by cases e:L p with|none=>rfl|some o=>obtain⟨u,q⟩:=(h p o e).ex;rw[J] at q;cases q
theorem RO.keep{G:G3}(t:j8 H H')(e:H' a=H a):∀{o:LO},RO G H a o->RO G H' a o
 |.lst _,⟨J,h,r⟩=>⟨J,e.trans h,r.ts t⟩
 |.dct _,⟨J,h,r⟩=>⟨J,e.trans h,DY r λ_ _ ⟨a,b⟩=>⟨a,b.ts t⟩⟩
 |.ins _ _,⟨U,J,h,r⟩=>⟨U,J,e.trans h,DY r λ_ _ ⟨a,b⟩=>⟨a,b.ts t⟩⟩
 |.exc _,⟨o,h,c⟩=>⟨o,e.trans h,c⟩
 |.tb _,h=>oz.keep h e λb o u z=>t b _ rfl z
theorem zy.skip{G:G3}{L:qm}(h:zy G H L){p:Addr}{o:HO}(J:H p=.none):zy G (upd H p o) L:=λa u e=>by obtain⟨x,q⟩:=(h a u e).ex;exact(h a u e).keep (DW J) (qp (zu q J))
theorem zy.newL{G:G3}{L:qm}(h:zy G H L){p:Addr}{ys:List Y}(J:H p=.none)(r:x6 G H ys xs):zy G (upd H p (.lst xs)) (qf L p (.lst ys)):=λa u e=>by
 by_cases c:a=p
 ·subst c;rw[q8] at e;cases e;exact⟨xs,zp,r.ts (DW J)⟩
 ·rw[q9 c] at e;exact(h a u e).keep (DW J) (qp c)
theorem zy.setL{G:G3}{L:qm}(h:zy G H L){p:Addr}{ys:List Y}(J:H p=some (.lst zs))(r:x6 G H ys xs):zy G (upd H p (.lst xs)) (qf L p (.lst ys)):=λa u e=>by
 by_cases c:a=p
 ·subst c;rw[q8] at e;cases e;exact⟨xs,zp,r.ts (EF J)⟩
 ·rw[q9 c] at e;exact(h a u e).keep (EF J) (qp c)
def qg(L L':qm):Prop:=∀a o,L a=some o->L' a=some o
theorem qg.refl(L:qm):qg L L:=λ_ _ h=>h
abbrev DU:=@qg.refl
theorem qg.trans{L L1 L2:qm}(a:qg L L1)(b:qg L1 L2):qg L L2:=λc o h=>b c o (a c o h)
theorem qg.new{L:qm}{p:Addr}{o:LO}(h:L p=none):qg L (qf L p o):=λa u e=>by rw[q9 (v5 e h)];exact e
abbrev By:=@qg.new
theorem zy.sub{G:G3}{L L':qm}(h:zy G H L')(s:qg L L'):zy G H L:=λa o e=>h a o (s a o e)
abbrev jq:=List (Option Y)
structure vd(G:G3)(H:Hp)(σ:St)(τ:jq):Prop where
 len:σ.length=τ.length
 get:∀(i:Nat) y,τ[i]?=some (some y)->∃v,σ[i]?=some (some v)/\RV G H y v
theorem vd.ts{G:G3}{τ:jq}(h:vd G H σ τ)(t:j8 H H'):vd G H' σ τ:=
 ⟨h.len,λi y e=>let ⟨v,a,b⟩:=h.get i y e;⟨v,a,b.ts t⟩⟩
theorem vd.set{G:G3}{τ:jq}(h:vd G H σ τ){y:Y}(r:RV G H y v):vd G H (σ.set i (some v)) (τ.set i (some y)):=by
 refine⟨by simp[h.len],λj z e=>?_⟩;by_cases c:i=j
 ·subst c;have J:i<τ.length:=by
   by_cases q:i<τ.length
   ·exact q
   ·rw[BU (by simp;omega)] at e;cases e
  rw[Cd J] at e;cases e;exact⟨v,Cd (by rw[h.len];exact J),r⟩
 ·rw[BJ c] at e ⊢;exact h.get j z e
theorem vd.more{G:G3}{τ:jq}(h:vd G H σ τ)(n:Nat):vd G H (σ++List.replicate n none) (τ++List.replicate n none):=by
 refine⟨by simp[h.len],λj z e=>?_⟩;by_cases c:j<τ.length
 ·rw[AF c] at e;rw[AF (by rw[h.len];exact c)];exact h.get j z e
 ·rw[Av (by omega),B7] at e;split at e<;>cases e
def yM:jq->Nat->Option Y
 |[],_=>none
 |o::_,0=>o
 |_::r,i+1=>yM r i
theorem o9:∀(τ:jq) (i:Nat) {y:Y},yM τ i=some y->τ[i]?=some (some y)
 |[],_,_,h=>by cases h
 |o::_,0,_,h=>by simp[yM] at h;simp[h]
 |_::r,i+1,_,h=>by simp only[CI];exact o9 r i h
abbrev YK:=Y->qm->Prop
abbrev xj:=jq->qm->YK->Prop
abbrev jH:=jq->qm->(Bool->qm->Prop)->Prop
abbrev dE:=jq->qm->(List Y->qm->Prop)->Prop
structure k6 where
 nx:jq->qm->Prop
 rt:YK
 bk:jq->qm->Prop:=λ_ _=>False
 ct:jq->qm->Prop:=λ_ _=>False
abbrev ke:=k6->jq->qm->Prop
abbrev mQ:=Y->jq->qm->(jq->qm->Prop)->Prop
abbrev sh:=List Y->jq->qm->(jq->qm->Prop)->Prop
abbrev TI3:=jq->qm->(List Y->(qm->Prop)->qm->Prop)->Prop
abbrev mR:=Y->Y->qm->YK->Prop
def qK(G:G3)(H:Hp)(J:YK)(Q:VK):Prop:=∀v H' y L',j8 H H'->zy G H' L'->RV G H' y v->J y L'->Q v H'
def yY(G:G3)(H:Hp)(J:Bool->qm->Prop)(Q:Bool->Hp->Prop):Prop:=∀b H' L',j8 H H'->zy G H' L'->J b L'->Q b H'
def am8(G:G3)(H:Hp)(J:List Y->qm->Prop)(Q:List V->Hp->Prop):Prop:=∀vs H' ys L',j8 H H'->zy G H' L'->x6 G H' ys vs->J ys L'->Q vs H'
def m5(G:G3)(H:Hp)(J:jq->qm->Prop)(Q:St->Hp->Prop):Prop:=∀σ H' τ L',j8 H H'->vd G H' σ τ->zy G H' L'->J τ L'->Q σ H'
theorem qK.ts{G:G3}{J:YK}{Q:VK}(h:qK G H J Q)(t:j8 H H'):qK G H' J Q:=λv U y g j=>h v U y g (t.trans j)
theorem yY.ts{G:G3}{J:Bool->qm->Prop}{Q:Bool->Hp->Prop}(h:yY G H J Q)(t:j8 H H'):yY G H' J Q:=λv U g j=>h v U g (t.trans j)
theorem m5.ts{G:G3}{J:jq->qm->Prop}{Q:St->Hp->Prop}(h:m5 G H J Q)(t:j8 H H'):m5 G H' J Q:=λv U y g j=>h v U y g (t.trans j)
structure uC(G:G3)(H:Hp)(D3:k6)(D:oX):Prop where
 nx:m5 G H D3.nx D.nx
 rt:qK G H D3.rt D.rt
 bk:m5 G H D3.bk D.bk
 ct:m5 G H D3.ct D.ct
theorem uC.ts{G:G3}{D3:k6}{D:oX}(h:uC G H D3 D)(t:j8 H H'):uC G H' D3 D:=⟨h.nx.ts t,h.rt.ts t,h.bk.ts t,h.ct.ts t⟩
def pS(G:G3)(t:xj):TE:=λσ H Q=>∃τ L J,vd G H σ τ/\zy G H L/\t τ L J/\qK G H J Q
def upT(G:G3)(t:jH):TT:=λσ H Q=>∃τ L J,vd G H σ τ/\zy G H L/\t τ L J/\yY G H J Q
def upA(G:G3)(t:dE):TA:=λσ H Q=>∃τ L J,vd G H σ τ/\zy G H L/\t τ L J/\am8 G H J Q
def upS(G:G3)(t:ke):L2.TS:=λD σ H=>∃τ L D3,vd G H σ τ/\zy G H L/\t D3 τ L/\uC G H D3 D
def upG(G:G3)(g:mQ):TG:=λv σ H Q=>∃y τ L J,RV G H y v/\vd G H σ τ/\zy G H L/\g y τ L J/\m5 G H J Q
def aqt(G:G3)(g:sh):TGs:=λvs σ H Q=>∃ys τ L J,x6 G H ys vs/\vd G H σ τ/\zy G H L/\g ys τ L J/\m5 G H J Q
structure dc(G:G3)(H₀:Hp)(J:It)(ys:List Y)(keep:qm->Prop):Prop where
 go:∀i H L,j8 H₀ H->zy G H L->keep L->i<ys.length->J.go i H
 yld:∀i H L x H' y,j8 H₀ H->zy G H L->keep L->ys[i]?=some y->J.yld i H x H'->j8 H H'/\zy G H' L/\RV G H' y x
 stop:∀H L,j8 H₀ H->zy G H L->keep L->J.stop ys.length H
def upI(G:G3)(wi:TI3):TI:=λσ H R=>∃τ L U,vd G H σ τ/\zy G H L/\wi τ L U/\∀J H' ys keep L',j8 H H'->zy G H' L'->dc G H' J ys keep->U ys keep L'->R J H'
def eV(G:G3)(g:mR):R2:=λx y H Q=>∃x3 J L U,RV G H x3 x/\RV G H J y/\zy G H L/\g x3 J L U/\qK G H U Q
def upL(G:G3)(U:List Y->qm->YK->Prop):List V->Hp->VK->Prop:=λxs H Q=>∃ys L J,x6 G H ys xs/\zy G H L/\U ys L J/\qK G H J Q
def upU(G:G3)(U:Y->qm->YK->Prop):V->Hp->VK->Prop:=λx H Q=>∃y L J,RV G H y x/\zy G H L/\U y L J/\qK G H J Q
theorem PE.imp{t u:TE}(h:PE X e t)(q:∀σ H Q,u σ H Q->t σ H Q):PE X e u:=λJ s σ H Q I z=>h J s σ H Q I (q σ H Q z)
abbrev EO:=@PE.imp
theorem PE.imq{G:G3}{t:TE}{u:xj}(h:PE X e t)(q:∀σ H Q τ L J,vd G H σ τ->zy G H L->u τ L J->qK G H J Q->t σ H Q):PE X e (pS G u):=EO h λσ H Q ⟨τ,L,J,a,b,c,d⟩=>q σ H Q τ L J a b c d
abbrev DX:=@PE.imq
theorem PT.imp{t u:TT}(h:PT X e t)(q:∀σ H Q,u σ H Q->t σ H Q):PT X e u:=λJ s σ H Q I z=>h J s σ H Q I (q σ H Q z)
theorem PT.imq{G:G3}{t:TT}{u:jH}(h:PT X e t)(q:∀σ H Q τ L J,vd G H σ τ->zy G H L->u τ L J->yY G H J Q->t σ H Q):PT X e (upT G u):=PT.imp h λσ H Q ⟨τ,L,J,a,b,c,d⟩=>q σ H Q τ L J a b c d
theorem PW.imp{t u:TT}(h:PW X e t)(q:∀σ H Q,u σ H Q->t σ H Q):PW X e u:=λU J s σ H Q I z=>h U J s σ H Q I (q σ H Q z)
theorem PW.imq{G:G3}{t:TT}{u:jH}(h:PW X e t)(q:∀σ H Q τ L J,vd G H σ τ->zy G H L->u τ L J->yY G H J Q->t σ H Q):PW X e (upT G u):=PW.imp h λσ H Q ⟨τ,L,J,a,b,c,d⟩=>q σ H Q τ L J a b c d
theorem PA.imp{e:List Expr}{t u:TA}(h:PA X e t)(q:∀σ H Q,u σ H Q->t σ H Q):PA X e u:=λpos J s σ H Q I z=>h pos J s σ H Q I (q σ H Q z)
theorem PA.imq{G:G3}{e:List Expr}{t:TA}{u:dE}(h:PA X e t)(q:∀σ H Q τ L J,vd G H σ τ->zy G H L->u τ L J->am8 G H J Q->t σ H Q):PA X e (upA G u):=PA.imp h λσ H Q ⟨τ,L,J,a,b,c,d⟩=>q σ H Q τ L J a b c d
theorem PS.imp{e:Stmt}{t u:L2.TS}(h:PS X e t)(q:∀D σ H,u D σ H->t D σ H):PS X e u:=λJ s σ H Q I z=>h J s σ H Q I (q _ σ H z)
theorem PS.imq{G:G3}{e:Stmt}{t:L2.TS}{u:ke}(h:PS X e t)(q:∀D σ H τ L D3,vd G H σ τ->zy G H L->u D3 τ L->uC G H D3 D->t D σ H):PS X e (upS G u):=PS.imp h λD σ H ⟨τ,L,D3,a,b,c,d⟩=>q D σ H τ L D3 a b c d
abbrev EE:=@PS.imq
theorem gH.imp{e:List Stmt}{t u:L2.TS}(h:gH X e t)(q:∀D σ H,u D σ H->t D σ H):gH X e u:=λJ s σ H Q I z=>h J s σ H Q I (q _ σ H z)
theorem gH.imq{G:G3}{e:List Stmt}{t:L2.TS}{u:ke}(h:gH X e t)(q:∀D σ H τ L D3,vd G H σ τ->zy G H L->u D3 τ L->uC G H D3 D->t D σ H):gH X e (upS G u):=gH.imp h λD σ H ⟨τ,L,D3,a,b,c,d⟩=>q D σ H τ L D3 a b c d
theorem PF.imp{e:List Expr}{t u:TT}(h:PF X e t)(q:∀σ H Q,u σ H Q->t σ H Q):PF X e u:=λJ s σ H Q I z=>h J s σ H Q I (q σ H Q z)
end L3
variable {g:L3.mQ}{y:L3.Y}{D:L3.k6}{ta tb te ti to:L3.xj}{kvs:List (L2.jg×L3.Y)}{ys:List L3.Y}{L L' L0 L1:L3.qm}{G:L3.G3}{τ:L3.jq}{gs:L3.sh}{tA:L3.jH}
namespace L3
open PySem L2
def kj(b:Bool)(A B:Prop):Prop:=match b with
 |true=>A
 |false=>B
theorem ag3{b:Bool}{A B:Prop}(h:b=true->A)(k:b=false->B):kj b A B:=by cases b with|true=>exact h rfl|false=>exact k rfl
theorem kn{b:Bool}{A B:Prop}(e:b=true)(h:A):kj b A B:=by rw[e];exact h
theorem xr{b:Bool}{A B:Prop}(e:b=false)(h:B):kj b A B:=by rw[e];exact h
theorem v0{p:Prop} [Decidable p]{A B:Prop}(h:p->A)(k:¬p->B):kj (decide p) A B:=by
 by_cases c:p
 ·rw[AG c];exact h c
 ·rw[Au c];exact k c
def nb(neg b:Bool):Bool:=match neg with
 |true=>!b
 |false=>b
def qb(i:Nat)(τ:jq)(L:qm)(Q:YK):Prop:=match yM τ i with
 |some y=>Q y L
 |none=>False
def yC(y:Y)(_:jq)(L:qm)(Q:YK):Prop:=Q y L
def zn(r:mR)(ta tb:xj)(τ:jq)(L:qm)(Q:YK):Prop:=ta τ L λx L1=>tb τ L1 λy L2=>r x y L2 Q
def yUn(r:Y->qm->YK->Prop)(ta:xj)(τ:jq)(L:qm)(Q:YK):Prop:=ta τ L λx L1=>r x L1 Q
def yI(C:Int->Int->Prop)(g:Int->Int->Y)(x y:Y)(L:qm)(Q:YK):Prop:=match x,y with
 |.int i,.int j=>C i j/\Q (g i j) L
 |_,_=>False
def yI0(g:Int->Int->Y)(x y:Y)(L:qm)(Q:YK):Prop:=match x,y with
 |.int i,.int j=>Q (g i j) L
 |_,_=>False
def tw(x:Y)(L:qm)(Q:YK):Prop:=match x with
 |.int i=>Q (.int (-i)) L
 |_=>False
def bZ(L:qm):Y->Option (List Y)
 |.tup ys=>some ys
 |.sq ys=>some ys
 |.ref a=>match L a with
  |some (.lst ys)=>some ys
  |_=>none
 |_=>none
@[irreducible] def cU (L:qm) (a:Addr) (k:List Y->Prop):Prop:=match L a with
 |some (.lst ys)=>k ys
 |_=>False
theorem xn{k:List Y->Prop}(h:cU L a k):∃ys,L a=some (.lst ys)/\k ys:=by
 unfold cU at h;split at h
 ·rename_i ys e;exact⟨ys,e,h⟩
 ·exact h.elim
theorem qx{k:List Y->Prop}(e:L a=some (.lst ys))(h:k ys):cU L a k:=by unfold cU;rw[e];exact h
def dU(L:qm)(x:Y)(k:List Y->Prop):Prop:=match x with
 |.tup ys=>k ys
 |.sq ys=>k ys
 |.ref a=>cU L a k
 |_=>False
theorem aO(h:L a=some (.lst ys)):bZ L (.ref a)=some ys:=by show(match L a with|some (.lst ys)=>some ys|_=>none)=some ys;rw[h]
theorem kh{x:Y}{k:List Y->Prop}(h:dU L x k):∃ys,bZ L x=some ys/\k ys:=by
 cases x with
 |tup ys=>exact⟨ys,rfl,h⟩
 |sq ys=>exact⟨ys,rfl,h⟩
 |ref a=>obtain⟨ys,e,q⟩:=xn h;exact⟨ys,aO e,q⟩
 |_=>exact h.elim
theorem oB(h:bZ L (.ref a)=some ys):L a=some (.lst ys):=by
 have J:(match L a with|some (.lst ys)=>some ys|_=>none)=some ys:=h;split at J
 ·rename_i e;cases J;exact e
 ·cases J
theorem aek{x:Y}{k:List Y->Prop}(e:bZ L x=some ys)(h:k ys):dU L x k:=by cases x with|tup J=>cases e;exact h|sq J=>cases e;exact h|ref a=>exact qx (oB e) h|_=>cases e
theorem qc{k:List Y->Prop}(e:L a=some (.lst ys))(h:k ys):dU L (.ref a) k:=aek (aO e) h
def kc(x y:Y)(L:qm)(Q:YK):Prop:=match x,y with
 |.int i,.int j=>Q (.int (i+j)) L
 |.str a,.str b=>a.length+b.length<=sizeLine/\Q (.str (a++b)) L
 |.ref a,.ref b=>∃ys zs,L a=some (.lst ys)/\L b=some (.lst zs)/\ys.length+zs.length<=sizeLine/\∀p,L p=none->Q (.ref p) (qf L p (.lst (ys++zs)))
 |_,_=>False
def tJ(L:qm)(Q:α->qm->Prop):Option α->Prop
 |some v=>Q v L
 |none=>False
def kg(kvs:List (jg×Y))(k:jg):Option Y:=(kvs.find? λp=>decide (p.1=k)).map (·.2)
@[irreducible] def sk (L:qm) (a:Addr) (k:List (jg×Y)->Prop):Prop:=match L a with
 |some (.dct kvs)=>k kvs
 |_=>False
theorem fc{k:List (jg×Y)->Prop}(h:sk L a k):∃kvs,L a=some (.dct kvs)/\k kvs:=by
 unfold sk at h;split at h
 ·rename_i J e;exact⟨J,e,h⟩
 ·exact h.elim
theorem ju{k:List (jg×Y)->Prop}(e:L a=some (.dct kvs))(h:k kvs):sk L a k:=by unfold sk;rw[e];exact h
def ay(x y:Y)(L:qm)(Q:YK):Prop:=match x,y with
 |.str z,.int i=>z.length<=sizeLine/\tJ L (λc L=>Q (.str ⟨#[c]⟩) L) (eM z.cps.toList i)
 |.cd kvs,.str k=>tJ L (λs L=>Q (.str s) L) (kvs.lookup k)
 |.ref a,.str k=>sk L a λkvs=>tJ L Q (kg kvs (.inr k))
 |x,.int i=>dU L x λys=>tJ L Q (eM ys i)
 |_,_=>False
def jL(xs:List Y)(L:qm)(Q:YK):Prop:=match xs with
 |[.str z]=>z.length<=sizeLine/\Q (.int z.length) L
 |[x]=>dU L x λys=>Q (.int ys.length) L
 |_=>False
def ag2(xs:List Y)(L:qm)(Q:YK):Prop:=match xs with
 |[.int i,.int j]=>Q (.int (max i j)) L
 |_=>False
def ak6(xs:List Y)(L:qm)(Q:YK):Prop:=match xs with
 |[.int i,.int j]=>Q (.int (min i j)) L
 |_=>False
inductive qO where
 |non|bool|int|str|tuple|list|dict
def qO.nm:qO->String
 |.non => "NoneType"
 |.bool => "bool"
 |.int => "int"
 |.str => "str"
 |.tuple => "tuple"
 |.list => "list"
 |.dict => "dict"
def tyY(L:qm):Y->Option qO
 |.non=>some .non
 |.bl _=>some .bool
 |.int _=>some .int
 |.str _=>some .str
 |.tup _=>some .tuple
 |.sq _=>some .list
 |.ref a=>match L a with
  |some (.lst _)=>some .list
  |some (.dct _)=>some .dict
  |_=>none
 |_=>none
theorem tyL(h:L a=some (.lst ys)):tyY L (.ref a)=some .list:=by show(match L a with|some (.lst _)=>some qO.list|some (.dct _)=>some .dict|_=>none)=some .list;rw[h]
def acm:qO->qO->Bool
 |.bool,.int=>true
 |.bool,.bool=>true
 |.int,.int=>true
 |.str,.str=>true
 |.tuple,.tuple=>true
 |.list,.list=>true
 |.dict,.dict=>true
 |.non,.non=>true
 |_,_=>false
@[irreducible] def tyK (L:qm) (a:Addr) (k:qO->Prop):Prop:=match tyY L (.ref a) with
 |some T=>k T
 |none=>False
theorem aft{k:qO->Prop}(h:tyK L a k):∃T,tyY L (.ref a)=some T/\k T:=by
 unfold tyK at h;split at h
 ·rename_i T e;exact⟨T,e,h⟩
 ·exact h.elim
theorem eQ{k:qO->Prop}(e:L a=some (.lst ys))(h:k .list):tyK L a k:=by unfold tyK;rw[tyL e];exact h
def am1(L:qm)(x:Y)(k:qO->Prop):Prop:=match x with
 |.non=>k .non
 |.bl _=>k .bool
 |.int _=>k .int
 |.str _=>k .str
 |.tup _=>k .tuple
 |.sq _=>k .list
 |.ref a=>tyK L a k
 |_=>False
theorem ad4{x:Y}{k:qO->Prop}(h:am1 L x k):∃T,tyY L x=some T/\k T:=by cases x with|ref a=>exact aft h|ty n=>exact h.elim|cd k=>exact h.elim|_=>exact⟨_,rfl,h⟩
def cn(S:qO)(te:xj)(τ:jq)(L:qm)(Q:YK):Prop:=te τ L λx L1=>am1 L1 x λT=>Q (.bl (acm T S)) L1
def fH:Y->Bool
 |.non=>true
 |.bl _=>true
 |.int _=>true
 |.str _=>true
 |_=>false
def fW:Y->V
 |.non=>.non
 |.bl b=>.bl b
 |.int i=>.int i
 |.str x=>.str x
 |_=>.ty "?"
theorem RV.flat :∀{y:Y} {v:V},fH y=true->RV G H y v->v=fW y
 |.non,_,_,h=>h
 |.bl _,_,_,h=>h
 |.int _,_,_,h=>h
 |.str _,_,_,h=>h
theorem gT:∀{y:Y},fH y=true->a7 (fW y)=true
 |.non,_=>rfl
 |.bl _,_=>rfl
 |.int _,_=>rfl
 |.str _,_=>rfl
theorem x6.flat :∀{ys:List Y} {xs:List V},ys.all fH=true->x6 G H ys xs->xs=ys.map fW
 |[],_,_,h=>h
 |y::ys,_,f,⟨x,J,e,r,s⟩=>by rw[Dy,A4] at f;rw[e,r.flat f.1,s.flat f.2];rfl
def rC:Y->Bool
 |.ref _=>true
 |.sq _=>true
 |_=>false
def jc(L:qm):Nat->Y->Da->Prop
 |0,y,d=>fH y=true/\d=.s (fW y)
 |n+1,y,d=>(fH y=true/\d=.s (fW y))\/(∃ys ds,y=.tup ys/\d=.tup ds/\Paired (jc L n) ys ds)\/(∃ys ds,rC y=true/\d=.lst ds/\bZ L y=some ys/\Paired (jc L n) ys ds)
def xN:Y->Bool
 |.ref _=>true
 |.tup _=>true
 |.sq _=>true
 |_=>false
def wB(neg:Bool)(x y:Y)(L:qm)(Q:YK):Prop:=match x,y with
 |.int i,.int j=>Q (.bl (nb neg (decide (i=j)))) L
 |.str i,.str j=>Q (.bl (nb neg (decide (i=j)))) L
 |.bl i,.bl j=>Q (.bl (nb neg (decide (i=j)))) L
 |x,y=>xN x=true/\xN y=true/\∃n m d e,n<=128/\jc L n x d/\jc L m y e/\Q (.bl (nb neg (Da.eq d e))) L
def fY(neg:Bool)(ta:xj)(τ:jq)(L:qm)(Q:YK):Prop:=ta τ L λx L1=>match x with
 |.non=>Q (.bl (!neg)) L1
 |_=>Q (.bl neg) L1
def yB(t:xj)(τ:jq)(L:qm)(Q:Bool->qm->Prop):Prop:=t τ L λx L1=>match x with
 |.bl c=>Q c L1
 |_=>False
def wZ(t u:jH)(τ:jq)(L:qm)(Q:Bool->qm->Prop):Prop:=t τ L λc L1=>kj c (u τ L1 Q) (Q false L1)
def yOr(t u:jH)(τ:jq)(L:qm)(Q:Bool->qm->Prop):Prop:=t τ L λc L1=>kj c (Q true L1) (u τ L1 Q)
def abo(t:jH)(τ:jq)(L:qm)(Q:Bool->qm->Prop):Prop:=t τ L λc L1=>Q (!c) L1
def vW(ta tb:xj)(τ:jq)(L:qm)(Q:YK):Prop:=ta τ L λx L1=>match x with
 |.bl c=>kj c (tb τ L1 Q) (Q (.bl false) L1)
 |_=>False
def aic(ta:xj)(τ:jq)(L:qm)(Q:YK):Prop:=ta τ L λx L1=>match x with
 |.bl c=>Q (.bl (!c)) L1
 |_=>False
def yIf(t:jH)(ta tb:xj)(τ:jq)(L:qm)(Q:YK):Prop:=t τ L λc L1=>kj c (ta τ L1 Q) (tb τ L1 Q)
def qz(_:jq)(L:qm)(Q:List Y->qm->Prop):Prop:=Q [] L
def qd(ta:xj)(tr:dE)(τ:jq)(L:qm)(Q:List Y->qm->Prop):Prop:=ta τ L λx L1=>tr τ L1 λxs L2=>Q (x::xs) L2
def vt(t:dE)(τ:jq)(L:qm)(Q:YK):Prop:=t τ L λys L1=>match Nat.ble ys.length 1000 with
 |true=>Q (.tup ys) L1
 |false=>False
def jh(t:dE)(τ:jq)(L:qm)(Q:YK):Prop:=t τ L λys L1=>match Nat.ble ys.length 1000 with
 |true=>∀p,L1 p=none->Q (.ref p) (qf L1 p (.lst ys))
 |false=>False
def iT(r:List Y->qm->YK->Prop)(t:dE)(τ:jq)(L:qm)(Q:YK):Prop:=t τ L λvs L1=>r vs L1 Q
abbrev TO3:=jq->qm->(Option Int->qm->Prop)->Prop
def wg(_:jq)(L:qm)(Q:Option Int->qm->Prop):Prop:=Q none L
def aZ(t:xj)(τ:jq)(L:qm)(Q:Option Int->qm->Prop):Prop:=t τ L λx L1=>match x with
 |.int i=>Q (some i) L1
 |_=>False
def hX(xs:List Y)(lo hi:Option Int):List Y:=(xs.drop (HT.sIx xs.length 0 lo)).take (HT.sIx xs.length xs.length hi-HT.sIx xs.length 0 lo)
def aoe(x:Y)(lo hi:Option Int)(L:qm)(Q:YK):Prop:=match x with
 |.ref a=>cU L a λys=>∀p,L p=none->Q (.ref p) (qf L p (.lst (hX ys lo hi)))
 |.sq ys=>∀p,L p=none->Q (.ref p) (qf L p (.lst (hX ys lo hi)))
 |_=>False
def uw(r:Y->Option Int->Option Int->qm->YK->Prop)(te:xj)(tl th:TO3)(τ:jq)(L:qm)(Q:YK):Prop:=te τ L λx L1=>tl τ L1 λl L2=>th τ L2 λu L3=>r x l u L3 Q
def qr(t u:ke)(D:k6)(τ:jq)(L:qm):Prop:=t { D with nx:=u D } τ L
def jk(D:k6)(τ:jq)(L:qm):Prop:=D.nx τ L
def ahj(D:k6)(τ:jq)(L:qm):Prop:=D.ct τ L
def j9(te:xj)(D:k6)(τ:jq)(L:qm):Prop:=te τ L λ_ L1=>D.nx τ L1
def je(te:xj)(D:k6)(τ:jq)(L:qm):Prop:=te τ L D.rt
def ac9(D:k6)(_:jq)(L:qm):Prop:=D.rt .non L
def jz(c:jH)(t u:ke)(D:k6)(τ:jq)(L:qm):Prop:=c τ L λb L1=>kj b (t D τ L1) (u D τ L1)
def zr(te:xj)(g:mQ)(D:k6)(τ:jq)(L:qm):Prop:=te τ L λx L1=>g x τ L1 D.nx
def dG:jq->Nat->Y->jq
 |[],_,_=>[]
 |_::r,0,y=>some y::r
 |o::r,i+1,y=>o::dG r i y
theorem aa:∀(τ:jq) (i:Nat) (y:Y),dG τ i y=τ.set i (some y)
 |[],_,_=>rfl
 |_::_,0,_=>rfl
 |o::r,i+1,y=>by rw[dG,aa r i y];rfl
def qh(i:Nat)(y:Y)(τ:jq)(L:qm)(Q:jq->qm->Prop):Prop:=Q (dG τ i y) L
def kw(ys:List Y)(τ:jq)(L:qm)(Q:jq->qm->Prop):Prop:=match ys with
 |[]=>Q τ L
 |_=>False
def zm(t:mQ)(u:sh)(ys:List Y)(τ:jq)(L:qm)(Q:jq->qm->Prop):Prop:=match ys with
 |[]=>False
 |y::r=>t y τ L λJ L'=>u r J L' Q
def wo(n:Nat)(t:sh)(y:Y)(τ:jq)(L:qm)(Q:jq->qm->Prop):Prop:=match y with
 |.tup ys=>match ys.length==n with
  |true=>t ys τ L Q
  |false=>False
 |_=>False
def aa1(i j:Nat)(ta:dE)(D:k6)(τ:jq)(L:qm):Prop:=ta τ L λvs L1=>match vs with
 |[v,w]=>D.nx (dG (dG τ i v) j w) L1
 |_=>False
def gi(W:α->qm->Prop)(x:α)(L:qm):Prop:=∃L',qg L' L/\W x L'
theorem frg{W:α->qm->Prop}{x:α}(h:W x L):gi W x L:=⟨L,DU L,h⟩
def dJ(c:jH)(tb:ke)(D:k6)(τ:jq)(L:qm):Prop:=∃W:Nat->jq->qm->Prop,(∃m,W m τ L)/\∀m τ L,W m τ L->
 c τ L λb L1=>kj b (∃N:jq->qm->Prop,(∀J L',N J L'->∃U,U<m/\W U J L')/\tb { D with nx:=gi N,ct:=gi N,bk:=D.nx } τ L1) (D.nx τ L1)
@[irreducible] def tT (ys:List Y) (keep:qm->Prop) (g:mQ) (tb:ke) (D:k6) (τ:jq) (L1:qm):Prop:=∃W:Nat->jq->qm->Prop,W 0 τ L1/\(∀i τ L,W i τ L->keep L)/\
 (∀i y τ L,ys[i]?=some y->W i τ L->g y τ L λJ L2=>tb { D with nx:=gi (W (i+1)),ct:=gi (W (i+1)),bk:=D.nx } J L2)/\∀τ L,W ys.length τ L->D.nx τ L
theorem vh{keep:qm->Prop}{tb:ke}(h:∃W:Nat->jq->qm->Prop,W 0 τ L1/\(∀i τ L,W i τ L->keep L)/\
 (∀i y τ L,ys[i]?=some y->W i τ L->g y τ L λJ L2=>tb { D with nx:=gi (W (i+1)),ct:=gi (W (i+1)),bk:=D.nx } J L2)/\∀τ L,W ys.length τ L->D.nx τ L):tT ys keep g tb D τ L1:=by unfold tT;exact h
theorem abh{keep:qm->Prop}{tb:ke}(h:tT ys keep g tb D τ L1):∃W:Nat->jq->qm->Prop,W 0 τ L1/\(∀i τ L,W i τ L->keep L)/\
 (∀i y τ L,ys[i]?=some y->W i τ L->g y τ L λJ L2=>tb { D with nx:=gi (W (i+1)),ct:=gi (W (i+1)),bk:=D.nx } J L2)/\∀τ L,W ys.length τ L->D.nx τ L:=by unfold tT at h;exact h
def bB(wi:TI3)(g:mQ)(tb:ke)(D:k6)(τ:jq)(L:qm):Prop:=wi τ L λys keep L1=>tT ys keep g tb D τ L1
@[irreducible] def oZ (L:qm) (a:Addr) (R:List Y->(qm->Prop)->qm->Prop):Prop:=match L a with
 |some (.lst ys)=>R ys (λL=>L a=some (.lst ys)) L
 |_=>False
theorem x5{R:List Y->(qm->Prop)->qm->Prop}(h:L a=some (.lst ys))(q:∀keep:qm->Prop,(∀L',L' a=L a->keep L')->R ys keep L):oZ L a R:=by unfold oZ;rw[h];exact q _ λL' J=>J.trans h
theorem lO{R:List Y->(qm->Prop)->qm->Prop}(h:oZ L a R):∃ys keep,bZ L (.ref a)=some ys/\keep L/\(∀L',keep L'->bZ L' (.ref a)=some ys)/\R ys keep L:=by
 unfold oZ at h;split at h
 ·rename_i ys e;exact⟨ys,_,aO e,e,λL' J=>aO J,h⟩
 ·exact h.elim
def kz(tl:xj)(τ:jq)(L:qm)(R:List Y->(qm->Prop)->qm->Prop):Prop:=tl τ L λx L1=>match x with
 |.ref a=>oZ L1 a R
 |.sq ys=>R ys (λ_=>True) L1
 |_=>False
def zP(tl:xj)(τ:jq)(L:qm)(R:List Y->(qm->Prop)->qm->Prop):Prop:=tl τ L λx L1=>match x with
 |.tup ys=>R ys (λ_=>True) L1
 |_=>False
def a6(lo:Int)(n:Nat):List Y:=(List.range n).map λk=>.int (lo+(k:Nat))
def cf(ta:dE)(τ:jq)(L:qm)(R:List Y->(qm->Prop)->qm->Prop):Prop:=ta τ L λvs L1=>match vs with
 |[.int j]=>(-(2 ^ 62)<=j/\j<2 ^ 62)/\R (a6 0 j.toNat) (λ_=>True) L1
 |_=>False
def yj(_:jq)(L:qm)(Q:Bool->qm->Prop):Prop:=Q true L
@[irreducible] def lcK (ys:List Y) (keep:qm->Prop) (n:Nat) (g:mQ) (tc:jH) (te:xj) (τ:jq) (L1:qm) (Q:YK):Prop:=ys.length<sizeLine/\∃W:Nat->List Y->qm->Prop,W 0 [] L1/\(∀i zs L,W i zs L->keep L)/\
 (∀i y zs L,ys[i]?=some y->W i zs L->g y (τ++List.replicate n none) L λJ L2=>tc J L2 λb L3=>kj b (te J L3 λz U=>gi (W (i+1)) (zs++[z]) U) (gi (W (i+1)) zs L3))/\
 ∀zs L,W ys.length zs L->∀p,L p=none->Q (.ref p) (qf L p (.lst zs))
theorem tz{keep:qm->Prop}{tc:jH}{Q:YK}(h:ys.length<sizeLine/\∃W:Nat->List Y->qm->Prop,W 0 [] L1/\(∀i zs L,W i zs L->keep L)/\
 (∀i y zs L,ys[i]?=some y->W i zs L->g y (τ++List.replicate n none) L λJ L2=>tc J L2 λb L3=>kj b (te J L3 λz U=>gi (W (i+1)) (zs++[z]) U) (gi (W (i+1)) zs L3))/\
 ∀zs L,W ys.length zs L->∀p,L p=none->Q (.ref p) (qf L p (.lst zs))):lcK ys keep n g tc te τ L1 Q:=by unfold lcK;exact h
theorem agw{keep:qm->Prop}{tc:jH}{Q:YK}(h:lcK ys keep n g tc te τ L1 Q):ys.length<sizeLine/\∃W:Nat->List Y->qm->Prop,W 0 [] L1/\(∀i zs L,W i zs L->keep L)/\
 (∀i y zs L,ys[i]?=some y->W i zs L->g y (τ++List.replicate n none) L λJ L2=>tc J L2 λb L3=>kj b (te J L3 λz U=>gi (W (i+1)) (zs++[z]) U) (gi (W (i+1)) zs L3))/\
 ∀zs L,W ys.length zs L->∀p,L p=none->Q (.ref p) (qf L p (.lst zs)):=by unfold lcK at h;exact h
def uE(n:Nat)(wi:TI3)(g:mQ)(tc:jH)(te:xj)(τ:jq)(L:qm)(Q:YK):Prop:=wi τ L λys keep L1=>lcK ys keep n g tc te τ L1 Q
abbrev jr:=List Y->qm->YK->Prop
def zc(sp:jr)(t:dE)(τ:jq)(L:qm)(Q:YK):Prop:=t τ L λys L1=>sp ys L1 Q
def zq(x:Y)(vs:List Y)(L:qm)(Q:YK):Prop:=match x,vs with
 |.ref a,[v]=>cU L a λys=>ys.length<sizeLine/\Q .non (qf L a (.lst (ys++[v])))
 |_,_=>False
def ac(x:Y)(vs:List Y)(L:qm)(Q:YK):Prop:=match x,vs with
 |.ref a,[.ref b]=>cU L a λys=>cU L b λzs=>ys.length+zs.length<=sizeLine/\Q .non (qf L a (.lst (ys++zs)))
 |_,_=>False
def qA(x:Y)(vs:List Y)(L:qm)(Q:YK):Prop:=match x,vs with
 |.ref a,[]=>cU L a λys=>tJ L (λv L=>Q v (qf L a (.lst ys.dropLast))) (ys[ys.length-1]?)
 |_,_=>False
theorem vq.imp{f:Value->Value->Sem Value}{r U:R2}(h:vq X f r)(q:∀x y H Q,U x y H Q->r x y H Q):vq X f U:=λJ s g H x y v u Q I j l z=>h J s g H x y v u Q I j l (q x y H Q z)
theorem vq.imq{f:Value->Value->Sem Value}{r:R2}{u:mR}(h:vq X f r)(q:∀x y H Q x3 J L U,RV G H x3 x->RV G H J y->zy G H L->u x3 J L U->qK G H U Q->r x y H Q):vq X f (eV G u):=vq.imp h λx y H Q ⟨x3,J,L,U,a,b,c,d,e⟩=>q x y H Q x3 J L U a b c d e
abbrev EL:=@vq.imq
theorem UnR.imp{f:Value->Sem Value}{r U:V->Hp->VK->Prop}(h:UnR X f r)(q:∀x H Q,U x H Q->r x H Q):UnR X f U:=λJ s g H x v Q I j z=>h J s g H x v Q I j (q x H Q z)
theorem x4.imp{f:Value}{r U:List V->Hp->VK->Prop}(h:x4 X f r)(q:∀x H Q,U x H Q->r x H Q):x4 X f U:=λJ s g H x v Q I j z=>h J s g H x v Q I j (q x H Q z)
theorem x4.imq{f:Value}{r:List V->Hp->VK->Prop}{u:List Y->qm->YK->Prop}(h:x4 X f r)(q:∀xs H Q ys L J,x6 G H ys xs->zy G H L->u ys L J->qK G H J Q->r xs H Q):x4 X f (upL G u):=x4.imp h λxs H Q ⟨ys,L,J,a,b,c,d⟩=>q xs H Q ys L J a b c d
theorem IxR.imp{r U:R2}(h:IxR X r)(q:∀x y H Q,U x y H Q->r x y H Q):IxR X U:=λvalue slice J s g H x y v u Q I j l z=>h value slice J s g H x y v u Q I j l (q x y H Q z)
theorem fZ.imp{id:String}{r U:V->List V->Hp->VK->Prop}(h:fZ X id r)(q:∀x xs H Q,U x xs H Q->r x xs H Q):fZ X id U:=λJ s g H x xs v j Q I l o z=>h J s g H x xs v j Q I l o (q x xs H Q z)
theorem lY(g:zy G H L)(r:RV G H y v)(h:bZ L y=some ys):∃p xs,v=.ref p/\(aK G.K H p xs\/cD G.K H p xs)/\x6 G H ys xs:=by
 cases y with
 |tup U=>
  obtain⟨a,xs,e,s,q⟩:=r;cases h;exact⟨a,xs,e,.inr s,q⟩
 |sq U=>
  obtain⟨a,xs,e,s,q⟩:=r;cases h;exact⟨a,xs,e,.inl s.sq,q⟩
 |ref a=>
  cases (show v=.ref a from r);have J:(match L a with|some (.lst ys)=>some ys|_=>none)=some ys:=h;split at J
  ·rename_i U e;cases J;obtain⟨xs,j,q⟩:=g a _ e;exact⟨a,xs,rfl,.inl (aK.of j),q⟩
  ·cases J
 |_=>cases h
theorem al5{i:Int}(s:x6 G H ys xs)(h:eM ys i=some y):∃x,eM xs i=some x/\RV G H y x:=by
 unfold eM at h ⊢;rw[<-s.length];cases e:ixN ys.length i with
 |none=>rw[e] at h;cases h
 |some j=>
  rw[e] at h;exact s.get (i:=j) h
section
variable {a b:Expr}{tc:xj}
abbrev QE(X:Cx)(e:Expr)(t:xj):Prop:=PE X e (pS X.g3 t)
abbrev QT(X:Cx)(e:Expr)(t:jH):Prop:=PT X e (upT X.g3 t)
abbrev QW(X:Cx)(e:Expr)(t:jH):Prop:=PW X e (upT X.g3 t)
abbrev QA(X:Cx)(es:List Expr)(t:dE):Prop:=PA X es (upA X.g3 t)
abbrev QS(X:Cx)(st:Stmt)(t:ke):Prop:=PS X st (upS X.g3 t)
abbrev qF(X:Cx)(st:List Stmt)(t:ke):Prop:=gH X st (upS X.g3 t)
abbrev QG(X:Cx)(e:Expr)(g:mQ):Prop:=PG X e (upG X.g3 g)
abbrev QGs(X:Cx)(es:List Expr)(g:sh):Prop:=PGs X es (aqt X.g3 g)
abbrev QI(X:Cx)(tg it:Expr)(w:TI3):Prop:=PI X tg it (upI X.g3 w)
abbrev QF(X:Cx)(es:List Expr)(t:jH):Prop:=PF X es (upT X.g3 t)
theorem QE.of_var(h:PE X e (al8 i)):QE X e (qb i):=DX h λl H Q o L p J U z k=>by
 unfold qb at z;split at z
 ·rename_i y g;obtain⟨v,ev,j⟩:=J.get i y (o9 _ _ g);exact⟨v,ev,k v H y L (DV _) U j z⟩
 ·exact z.elim
theorem QE.of_c(h:PE X e (tC v))(q:∀H,RV X.g3 H y v):QE X e (yC y):=DX h λU H Q g L j l J z k=>k v H y L (DV _) J (q H) z
theorem qv(i:Nat)(U:X.N[i]?=some x:=by rfl)(g:Vis X.env.scope x:=by first|exact Or.inl rfl|exact Or.inr (Or.inl rfl)|exact Or.inr (Or.inr rfl))(hd:Ed x:=by decide)
 (J:Ee x:=by decide):QE X (.Name x pos) (qb i):=QE.of_var (pv i U g hd J)
theorem dW :QE X (.Constant .none j pos) (yC .non):=QE.of_c ale λ_=>rfl
theorem aT{b:Bool} :QE X (.Constant (.bool b) j pos) (yC (.bl b)):=QE.of_c aof λ_=>rfl
theorem qi{i:Int} :QE X (.Constant (.int i) j pos) (yC (.int i)):=QE.of_c akj λ_=>rfl
theorem jd :QE X (.Constant (.str x) j pos) (yC (.str x)):=QE.of_c cL λ_=>rfl
theorem anj{c:Addr}(J:Gl X x)(U:X.mg x=some (.ref c))(q:∀H,RV X.g3 H y (.ref c))(hd:Ed x:=by decide):QE X (.Name x pos) (yC y):=QE.of_c (anh J U hd) q
theorem vD{r:mR}(σ:St)(H:Hp)(Q:VK):pS G (zn r ta tb) σ H Q->tOp (eV G r) (pS G ta) (pS G tb) σ H Q:=λ⟨l,L,C,o,I,z,k⟩=>
 ⟨l,L,_,o,I,z,λv H1 y T p J U z1=>⟨l,T,_,o.ts p,J,z1,λv2 H2 y2 L2 t g j z2=>⟨y,y2,L2,C,U.ts t,j,g,z2,k.ts (p.trans t)⟩⟩⟩
theorem qt{op:Operator}{r:mR}(h:vq X (binaryOp op) (eV X.g3 r))(J:QE X a ta)(U:QE X b tb):QE X (.BinOp a op b pos) (zn r ta tb):=EO (ang h J U) vD
theorem amx{r:mR}(h:IxR X (eV X.g3 r))(J:QE X a ta)(U:QE X b tb)(g:gJ b):QE X (.Subscript a b pos) (zn r ta tb):=EO (abr h J U g) vD
theorem cO{op:CmpOp}{r:mR}(h:vq X (compareOp op) (eV X.g3 r))(J:QE X a ta)(U:QE X b tb)(g:behindInMarks op b=false):QE X (.Compare a [op] [b] pos) (zn r ta tb):=EO (ah9 h J U g) vD
theorem aj4{t:xj}(σ:St)(H:Hp)(Q:Bool->Hp->Prop):upT G (yB t) σ H Q->ab3 (pS G t) σ H Q:=λ⟨j,L,I,l,o,z,k⟩=>
 ⟨j,L,_,l,o,z,λv p y r C J U g=>by cases y with|bl b=>exact⟨b,U,k b p r C J g⟩|_=>exact g.elim⟩
theorem ai7{t:xj}(σ:St)(H:Hp)(Q:Bool->Hp->Prop):upT G (yB t) σ H Q->L2.tB (pS G t) σ H Q:=aj4 σ H Q
theorem xc{op:CmpOp}{r:mR}(h:vq X (compareOp op) (eV X.g3 r))(U:QE X a ta)(g:QE X b tb)(j:behindInMarks op b=false):QT X (.Compare a [op] [b] pos) (yB (zn r ta tb)):=
 PT.imp (ag8 h U g j) λJ H Q q=>by have l:=aj4 J H Q q;obtain⟨o,L,p,t,C,z,k⟩:=l;exact vD J H _ ⟨o,L,p,t,C,z,k⟩
theorem cT(h:QE X e te)(J:∀whole,isTrue e X.env whole=(do let v <-whole;standAt e.pos;holding [v] (truthy v)):=by intro _;rfl):QT X e (yB te):=PT.imp (ajn h J) ai7
theorem OpI{f:Value->Value->Sem Value}{C:Int->Int->Prop}{g:Int->Int->V}{g3:Int->Int->Y}(h:vq X f (rI C g))(e:∀i j H,RV X.g3 H (g3 i j) (g i j)):vq X f (eV X.g3 (yI C g3)):=EL h λx y H Q U J L r l o p z k=>by
 cases U with
 |int i=>
  cases J with|int j=>exact⟨i,j,l,o,z.1,k _ H _ L (DV _) p (e i j H) z.2⟩|_=>exact z.elim
 |_=>cases J<;>exact z.elim
theorem ae0{f:Value->Value->Sem Value}{g:Int->Int->V}{g3:Int->Int->Y}(h:vq X f (rI0 g))(e:∀i j H,RV X.g3 H (g3 i j) (g i j)):vq X f (eV X.g3 (yI0 g3)):=EL h λx y H Q U J L r l o p z k=>by
 cases U with
 |int i=>
  cases J with|int j=>exact⟨i,j,l,o,k _ H _ L (DV _) p (e i j H) z⟩|_=>exact z.elim
 |_=>cases J<;>exact z.elim
theorem dD:vq X (binaryOp .Sub) (eV X.g3 (yI0 λi j=>.int (i-j))):=ae0 ajc λ_ _ _=>rfl
theorem i6:vq X (binaryOp .Mult) (eV X.g3 (yI abj λi j=>.int (i*j))):=OpI akm λ_ _ _=>rfl
theorem wn:vq X (binaryOp .FloorDiv) (eV X.g3 (yI akz λi j=>.int (i / j))):=OpI aha λ_ _ _=>rfl
theorem xa:vq X (binaryOp .Mod) (eV X.g3 (yI (λ_ j=>0<j) λi j=>.int (i % j))):=OpI ajj λ_ _ _=>rfl
theorem am4:vq X (binaryOp .Pow) (eV X.g3 (yI ak7 λi j=>.int (i ^ j.toNat))):=OpI ait λ_ _ _=>rfl
theorem wR:vq X (compareOp .Lt) (eV X.g3 (yI0 λi j=>.bl (decide (i<j)))):=ae0 ane λ_ _ _=>rfl
theorem asl:vq X (compareOp .LtE) (eV X.g3 (yI0 λi j=>.bl (decide (i<=j)))):=ae0 amm λ_ _ _=>rfl
theorem aa9:vq X (compareOp .Gt) (eV X.g3 (yI0 λi j=>.bl (decide (j<i)))):=ae0 ank λ_ _ _=>rfl
theorem aqp:vq X (compareOp .GtE) (eV X.g3 (yI0 λi j=>.bl (decide (j<=i)))):=ae0 aly λ_ _ _=>rfl
theorem jx:vq X (binaryOp .Add) (eV X.g3 kc):=EL ahf λx y H Q C U L Q3 g l J z k=>by
 cases C with
 |int i=>
  cases U with|int j=>cases g;cases l;exact k _ H _ L (DV _) J (by rfl) z|_=>exact z.elim
 |str i=>
  cases U with|str j=>cases g;cases l;exact⟨z.1,k _ H _ L (DV _) J (by rfl) z.2⟩|_=>exact z.elim
 |ref a=>
  cases U with
  |ref b=>
   cases g;cases l;obtain⟨ys,zs,I,T,hz,q⟩:=z;obtain⟨xs,h1,r⟩:=J a _ I;obtain⟨us,h2,t⟩:=J b _ T;refine⟨xs,us,h1,h2,by rw[<-r.length,<-t.length];exact hz,λp o=>?_⟩;exact k _ _ _ _ (DW o) (J.newL o (r.app t)) (by rfl) (q p (J.none o))
  |_=>exact z.elim
 |_=>cases U<;>exact z.elim
theorem tH{kvs:List (Str×Str)}{k:Str}(h:kvs.lookup k=some x):a8 (kvs.map λp=>((Sum.inr p.1:jg),V.str p.2)) (Sum.inr k)=some (V.str x):=by
 induction kvs with
 |nil=>simp at h
 |cons p r J=>
  obtain⟨a,b⟩:=p;unfold a8;rw[AO,Bm];rw[Bp] at h;by_cases c:k=a
  ·subst c;simp at h;simp[h]
  ·have c1:(k==a)=false:=by simpa using c
   rw[c1] at h;have c2:decide ((Sum.inr a:jg)=Sum.inr k)=false:=Au λz=>c (Eo z).symm;simp only[c2];exact J h
theorem oA{xs:List (jg×V)}{k:jg}(p:Paired (λ(p:jg×Y) (q:jg×V)=>p.1=q.1/\RV G H p.2 q.2) kvs xs)(h:kg kvs k=some y):∃x,a8 xs k=some x/\RV G H y x:=by
 induction p with
 |nil=>cases h
 |@cons a b _ _ r t g=>
  obtain⟨J,o⟩:=a;obtain⟨j,l⟩:=b;obtain⟨e,r⟩:=r;cases (show J=j from e);unfold kg at h;unfold a8;rw[Bm] at h ⊢;by_cases c:J=k
  ·have U:decide (J=k)=true:=AG c;simp only[U] at h ⊢;cases h;exact⟨l,rfl,r⟩
  ·have U:decide (J=k)=false:=Au c;simp only[U] at h ⊢;exact g h
theorem ahs(K:Af)(P:Program)(w:World)(hK:X.K=K:=by rfl)(hP:X.prog=P:=by rfl)(hw:X.w=w:=by rfl):IxR X (eV ⟨K,P,w⟩ ay):=by
 subst hK hP hw;refine IxR.imp ao6 λx y H Q ⟨x3,o,L,Q3,J,r,C,z,k⟩=>?_;have seq:∀{i:Int} {x3:Y},RV X.g3 H x3 x->y=.int i->(dU L x3 λl=>tJ L Q3 (eM l i))->uIx X.K X.prog X.w x y H Q:=by
  intro i x3 J ey z;subst ey;obtain⟨l,es,z⟩:=kh z;obtain⟨p,T,e,sq,rv⟩:=lY C J es;subst e;cases U:eM l i with
  |none=>rw[U] at z;exact z.elim
  |some y=>
   rw[U] at z;obtain⟨x,ex,a1⟩:=al5 rv U;exact⟨T,x,sq,ex,k _ H _ L (DV _) C a1 z⟩
 cases x3 with
 |str s=>
  cases o with
  |int i=>
   cases J;cases r;obtain⟨z1,I⟩:=z;cases U:eM s.cps.toList i with
   |none=>rw[U] at I;exact I.elim
   |some c=>rw[U] at I;exact⟨z1,c,U,k _ H _ L (DV _) C (by rfl) I⟩
  |_=>exact z.elim
 |cd g=>
  cases o with
  |str s=>
   obtain⟨a,U,kd⟩:=J;cases U;cases r;have j:tJ L (λs L=>Q3 (.str s) L) (g.lookup s):=z;cases el:g.lookup s with
   |none=>rw[el] at j;exact j.elim
   |some t=>rw[el] at j;exact⟨_,_,.inr kd,tH el,k _ H _ L (DV _) C (by rfl) j⟩
  |int i=>exact z.elim
  |_=>exact z.elim
 |ref a=>
  cases o with
  |int i=>exact seq (x3:=.ref a) J r z
  |str s=>
   cases J;cases r;obtain⟨g,e,j⟩:=fc z;obtain⟨T,e2,pr⟩:=C a _ e;cases ev:kg g (Sum.inr s) with
   |none=>rw[ev] at j;exact j.elim
   |some y=>
    rw[ev] at j;obtain⟨x,ex,J⟩:=oA pr ev;exact⟨T,x,.inl (.inl e2),ex,k _ H _ L (DV _) C J j⟩
  |_=>exact z.elim
 |tup l=>
  cases o with|int i=>exact seq (x3:=.tup l) J r z|_=>exact z.elim
 |sq l=>
  cases o with|int i=>exact seq (x3:=.sq l) J r z|_=>exact z.elim
 |_=>cases o<;>exact z.elim
theorem x6.inv1(h:x6 G H [y] xs):∃x,xs=[x]/\RV G H y x:=by obtain⟨x,J,e,r,s⟩:=h;cases (show J=[] from s);exact⟨x,e,r⟩
theorem x6.inv2{U:Y}(h:x6 G H [y,U] xs):∃x J,xs=[x,J]/\RV G H y x/\RV G H U J:=by obtain⟨x,g,e,r,s⟩:=h;obtain⟨J,j,l⟩:=s.inv1;exact⟨x,J,by rw[e,j],r,l⟩
theorem al1(K:Af)(P:Program)(w:World)(j:X.K=K:=by rfl)(l:X.prog=P:=by rfl)(hw:X.w=w:=by rfl):x4 X (.builtin "len") (upL ⟨K,P,w⟩ jL):=by
 subst j l hw;refine x4.imq xR λI H Q o L T g J z k=>?_;unfold jL at z;split at z
 ·obtain⟨x,rfl,r⟩:=g.inv1;cases r;exact⟨z.1,k _ H _ L (DV _) J (by rfl) z.2⟩
 ·rename_i y _;obtain⟨x,rfl,r⟩:=g.inv1;obtain⟨o,t,z⟩:=kh z;obtain⟨p,C,e,sq,U⟩:=lY J r t;subst e;refine⟨C,sq,?_⟩;rw[<-U.length];exact k _ H _ L (DV _) J (by rfl) z
 ·exact z.elim
theorem aj9(i j:Int):(if j > i then j else i)=max i j:=by split<;>lia
theorem akf(i j:Int):(if j<i then j else i)=min i j:=by split<;>lia
theorem aho(hc:X.calm=true:=by rfl):x4 X (.builtin "max") (upL X.g3 ag2):=x4.imq (xB hc) λo H Q p L r J U z k=>by
 unfold ag2 at z;split at z
 ·rename_i i j;obtain⟨x,t,rfl,g,l⟩:=J.inv2;cases g;cases l;refine⟨i,j,rfl,?_⟩;rw[aj9];exact k _ H _ L (DV _) U (by rfl) z
 ·exact z.elim
theorem ao3(hc:X.calm=true:=by rfl):x4 X (.builtin "min") (upL X.g3 ak6):=x4.imq (yQ hc) λo H Q p L r J U z k=>by
 unfold ak6 at z;split at z
 ·rename_i i j;obtain⟨x,t,rfl,g,l⟩:=J.inv2;cases g;cases l;refine⟨i,j,rfl,?_⟩;rw[akf];exact k _ H _ L (DV _) U (by rfl) z
 ·exact z.elim
theorem mv:UnR X (unaryOp .USub) (upU X.g3 tw):=UnR.imp akd λx H Q ⟨y,L,g,J,U,z,k⟩=>by cases y with|int i=>exact⟨i,J,k _ H _ L (DV _) U (by rfl) z⟩|_=>exact z.elim
theorem mm{op:UnaryOp}{r:Y->qm->YK->Prop}(h:UnR X (unaryOp op) (upU X.g3 r))(g:QE X a ta):QE X (.UnaryOp op a pos) (yUn r ta):=DX (aoj h g) λT H Q j L l o p z k=>
 ⟨j,L,_,o,p,z,λv H1 y t C J U I=>⟨y,t,l,U,J,I,k.ts C⟩⟩
end
section
variable {a b:Expr}{tc:xj}
theorem bx{a:Addr}(U:zy G H L)(h:bZ L (.ref a)=some ys):∃xs,aK G.K H a xs/\x6 G H ys xs:=by
 have J:(match L a with|some (.lst ys)=>some ys|_=>none)=some ys:=h;split at J
 ·rename_i e;cases J;obtain⟨xs,g,q⟩:=U a _ e;exact⟨xs,aK.of g,q⟩
 ·cases J
theorem eJ(J:zy G H L)(r:RV G H y v)(U:rC y=true)(h:bZ L y=some ys):∃a xs,v=.ref a/\aK G.K H a xs/\x6 G H ys xs:=by
 cases y with
 |ref a=>obtain⟨xs,s,q⟩:=bx J h;exact⟨a,xs,r,s,q⟩
 |sq g=>obtain⟨a,xs,e,s,q⟩:=r;cases h;exact⟨a,xs,e,s.sq,q⟩
 |_=>cases U
theorem xC{G:G3}{T:qO}{σ:L2.St}(I:z9 X pins σ H s)(C:zy X.g3 H L)(r:RV X.g3 H y v)(J:zx v u)(h:tyY L y=some T)
 {c:Value} {b:Bool} (e:PySem.W.kitOne X.K (.type T.nm) c=some b) (U:∀tk,Q (.bool b) { s with toks:=tk }):
 wpAny (model X.prog X.w) A (call (.builtin "isinstance") [u,c]) Q E s:=by
 cases y with
 |non=>cases h;cases r;exact af I J .non e U
 |bl b=>cases h;cases r;exact af I J (.bl _) e U
 |int i=>cases h;cases r;exact af I J (.int _) e U
 |str x=>cases h;cases r;exact af I J (.str _) e U
 |tup ys=>
  cases h;obtain⟨a,j,rfl,sq,_⟩:=r;cases (show u=Value.ref a from J);obtain⟨l,_,⟨o,h1,h2,_⟩,_⟩:=I.tuple sq;exact Bl PySem.W.kitx_tuple I.kIn ⟨o,h1,h2⟩ e (λz=>nomatch z) U
 |sq ys=>
  cases h;obtain⟨a,j,rfl,sq,_⟩:=r;cases (show u=Value.ref a from J);obtain⟨l,_,⟨o,n,h1,h2,_⟩,_⟩:=I.list sq.sq;exact Bl Ds I.kIn ⟨o,h1,h2⟩ e (λz=>nomatch z) U
 |ref a=>
  cases (show v=.ref a from r);have g:(match L a with|some (.lst _)=>some qO.list|some (.dct _)=>some .dict|_=>none)=some T:=h;split at g
  ·rename_i ys p;cases g;obtain⟨j,t,_⟩:=C a _ p;exact af I J (.lst t) e U
  ·rename_i a1 p;cases g;obtain⟨j,t,_⟩:=C a _ p;exact af I J (.dK t) e U
  ·cases g
 |_=>cases h
theorem afc(K:Af):∀T S:qO,PySem.W.kitOne K (.type T.nm) (.type S.nm)=some (acm T S):=by intro T S;cases T<;>cases S<;>rfl
def akb(G:G3)(S:qO):List V->Hp->VK->Prop:=λxs H Q=>∃y v L J T,xs=[v,.ty S.nm]/\RV G H y v/\zy G H L/\tyY L y=some T/\J (.bl (acm T S)) L/\qK G H J Q
theorem ajq(S:qO):x4 X (.builtin "isinstance") (akb X.g3 S):=by intro J s o H p t Q I r h;obtain⟨y,v,L,C,T,rfl,g,U,ty,q,k⟩:=h;obtain⟨u,c,rfl,j,l⟩:=zo.two r;cases (show c=Value.type S.nm from l);exact x0 I.tk (xC (G:=X.g3) I U g j ty (afc _ T S) λtk ht=>⟨.bl _,H,I.tok _,rfl,k _ H _ L (DV _) U (by rfl) q⟩)
theorem aE{J:Str}(S:qO)(C:Gl X "isinstance")(I:X.mg "isinstance"=none)(U:Gl X J)(g:X.mg J=none)(j:bootBuiltins J=some (.type S.nm))(ha:QE X a ta)
 (hn:J ≠ "__name__" := by decide) (hd:(J==("__debug__" : Str))=false:=by decide)
 (hs:starEach [a,.Name J p1] X.env=(false,eval a X.env)::starEach [.Name J p1] X.env:=by rfl) (l:starEach [.Name J p1] X.env=(false,eval (.Name J p1) X.env)::starEach [] X.env:=by rfl)
 (hp:(backTo pos (starEach [.Name J p1] X.env)).any (·.1)=false:=by rfl):
 QE X (.Call (.Name "isinstance" p) [a,.Name J p1] [] pos) (cn S ta):=by
 refine EO (rF (ajq S) C I mW (ck ha (ck (anf U g j hn hd) iF l) hs) (by decide) (by decide) hs hp) ?_;rintro σ H Q ⟨τ,L,Q3,rs,rl,z,k⟩;refine⟨τ,L,_,rs,rl,z,λv H1 y L1 t1 o r t=>?_⟩;obtain⟨T,et,t⟩:=ad4 t;exact⟨y,v,L1,Q3,T,rfl,r,o,et,t,k.ts t1⟩
def mE(neg:Bool)(x y:Y)(L:qm)(Q:YK):Prop:=dU L y λys=>fH x=true/\ys.all fH=true/\Q (.bl (nb neg (uY (fW x) (ys.map fW)))) L
theorem ao0(neg:Bool){op:CmpOp}(h:vq X (compareOp op) (rIn X.K neg)):vq X (compareOp op) (eV X.g3 (mE neg)):=EL h λx y H Q J C L I j l g z k=>by
 obtain⟨U,o,f1,f2,q⟩:=kh z;obtain⟨p,T,e,sq,r⟩:=lY g l o;rw[j.flat f1];rw[r.flat f2] at sq;refine⟨p,_,e,sq,gT f1,?_,?_⟩
 ·rw[List.all_map,BH];intro y t;exact gT (BH.mp f2 y t)
 ·have:(if neg=true then !uY (fW J) (U.map fW) else uY (fW J) (U.map fW))=(nb neg (uY (fW J) (U.map fW))):=by cases neg<;>simp[nb]
  rw[this];exact k _ H _ L (DV _) g (by rfl) q
theorem ace(K:Af)(P:Program)(w:World)(J:X.K=K:=by rfl)(U:X.prog=P:=by rfl)(hw:X.w=w:=by rfl):vq X (compareOp .In) (eV ⟨K,P,w⟩ (mE false)):=by subst J U hw;exact ao0 false yO
theorem u8(K:Af)(P:Program)(w:World)(J:X.K=K:=by rfl)(U:X.prog=P:=by rfl)(hw:X.w=w:=by rfl):vq X (compareOp .NotIn) (eV ⟨K,P,w⟩ (mE true)):=by subst J U hw;exact ao0 true qJ
theorem jc.rep{G:G3}{H:Hp}{L:qm}(l:zy G H L):∀{n:Nat} {y:Y} {d:Da} {v:V},jc L n y d->RV G H y v->vg G.K H n v d
 |0,y,d,v,⟨f,e⟩,r=>by rw[r.flat f];exact⟨e,gT f⟩
 |n+1,y,d,v,h,r=>by
  have both:∀{g:List Y} {U:List Da} {J:List V},Paired (jc L n) g U->x6 G H g J->Paired (vg G.K H n) J U:=by
   intro g U J p
   induction p generalizing J with
   |nil=>intro r;cases (show J=[] from r);exact .nil
   |cons q t o=>
    rintro⟨x,C,rfl,I,T⟩;exact .cons (jc.rep l q I) (o T)
  rcases h with⟨f,e⟩|⟨g,U,rfl,rfl,p⟩|⟨g,U,hy,rfl,es,p⟩
  ·rw[r.flat f];exact .inl ⟨e,gT f⟩
  ·obtain⟨a,J,rfl,sq,j⟩:=r;exact .inr (.inl ⟨a,J,U,rfl,rfl,sq,both p j⟩)
  ·obtain⟨a,J,rfl,sq,j⟩:=eJ l r hy es;exact .inr (.inr ⟨a,J,U,rfl,rfl,sq,both p j⟩)
theorem jT(h:xN y=true)(r:RV G H y v):∃a,v=.ref a:=by
 cases y with
 |ref a=>exact⟨a,r⟩
 |tup J=>obtain⟨a,U,e,_⟩:=r;exact⟨a,e⟩
 |sq J=>obtain⟨a,U,e,_⟩:=r;exact⟨a,e⟩
 |_=>cases h
theorem vB(K:Af)(P:Program)(w:World)(l:X.A.units+128<cLine)(o:X.K=K:=by rfl)(p:X.prog=P:=by rfl)(hw:X.w=w:=by rfl):vq X (compareOp .Eq) (eV ⟨K,P,w⟩ (wB false)):=by
 subst o p hw;refine EL (al4 l) λx y H Q C I L r U g J z k=>?_;unfold wB at z;split at z
 ·rename_i i j;cases U;cases g;refine⟨rfl,?_⟩;have:decide (V.int i=V.int j)=nb false (decide (i=j)):=by rw[Bg];simp[nb]
  rw[this];exact k _ H _ L (DV _) J (by rfl) z
 ·rename_i i j;cases U;cases g;refine⟨rfl,?_⟩;have:decide (V.str i=V.str j)=nb false (decide (i=j)):=by rw[Bg];simp[nb]
  rw[this];exact k _ H _ L (DV _) J (by rfl) z
 ·rename_i i j;cases U;cases g;refine⟨rfl,?_⟩;have:decide (V.bl i=V.bl j)=nb false (decide (i=j)):=by rw[Bg];simp[nb]
  rw[this];exact k _ H _ L (DV _) J (by rfl) z
 ·obtain⟨f1,f2,n,m,d,e,t,h1,h2,q⟩:=z;obtain⟨a,rfl⟩:=jT f1 U;obtain⟨b,rfl⟩:=jT f2 g;have q:r (.bl (Da.eq d e)) L:=q;exact⟨n,m,d,e,t,h1.rep J U,h2.rep J g,k _ H _ L (DV _) J (by rfl) q⟩
theorem amf(K:Af)(P:Program)(w:World)(l:X.A.units+128<cLine)(o:X.K=K:=by rfl)(p:X.prog=P:=by rfl)(hw:X.w=w:=by rfl):vq X (compareOp .NotEq) (eV ⟨K,P,w⟩ (wB true)):=by
 subst o p hw;refine EL (ak5 l) λx y H Q C I L r U g J z k=>?_;unfold wB at z;split at z
 ·rename_i i j;cases U;cases g;refine⟨rfl,?_⟩;have:(!decide (V.int i=V.int j))=nb true (decide (i=j)):=by show _=!_;congr 1;rw[Bg];simp
  rw[this];exact k _ H _ L (DV _) J (by rfl) z
 ·rename_i i j;cases U;cases g;refine⟨rfl,?_⟩;have:(!decide (V.str i=V.str j))=nb true (decide (i=j)):=by show _=!_;congr 1;rw[Bg];simp
  rw[this];exact k _ H _ L (DV _) J (by rfl) z
 ·rename_i i j;cases U;cases g;refine⟨rfl,?_⟩;have:(!decide (V.bl i=V.bl j))=nb true (decide (i=j)):=by show _=!_;congr 1;rw[Bg];simp
  rw[this];exact k _ H _ L (DV _) J (by rfl) z
 ·obtain⟨f1,f2,n,m,d,e,t,h1,h2,q⟩:=z;obtain⟨a,rfl⟩:=jT f1 U;obtain⟨b,rfl⟩:=jT f2 g;have q:r (.bl (!Da.eq d e)) L:=q;exact⟨n,m,d,e,t,h1.rep J U,h2.rep J g,k _ H _ L (DV _) J (by rfl) q⟩
theorem RV.non_iff(r:RV G H y v):decide (v=.non)=(match y with|.non=>true|_=>false):=by
 cases y with
 |non=>cases r;rfl
 |cd J=>obtain⟨a,rfl,_⟩:=r;rfl
 |tup U=>obtain⟨a,g,rfl,_⟩:=r;rfl
 |sq U=>obtain⟨a,g,rfl,_⟩:=r;rfl
 |_=>cases r;rfl
theorem ad7(σ:L2.St)(H:Hp)(Q:VK):pS G (fY false ta) σ H Q->aod (pS G ta) σ H Q:=λ⟨g,L,C,j,l,z,k⟩=>
 ⟨g,L,_,j,l,z,λv o y p r J U t=>by dsimp only;rw[U.non_iff];cases y<;>exact k _ o _ p r J (by rfl) t⟩
theorem ae9(σ:L2.St)(H:Hp)(Q:VK):pS G (fY true ta) σ H Q->aib (pS G ta) σ H Q:=λ⟨g,L,C,j,l,z,k⟩=>
 ⟨g,L,_,j,l,z,λv o y p r J U t=>by dsimp only;rw[U.non_iff];cases y<;>exact k _ o _ p r J (by rfl) t⟩
theorem alm(h:QE X a ta):QE X (.Compare a [.Is] [.Constant .none j gf] pos) (fY false ta):=EO (ajx (zL h)) ad7
theorem aht{t:TE}(h:∀σ H Q,pS G te σ H Q->t σ H Q)(σ:L2.St)(H:Hp)(Q:Bool->Hp->Prop):upT G (yB te) σ H Q->L2.tB t σ H Q:=λq=>h σ H _ (ai7 σ H Q q)
theorem fP(h:QE X a ta):QT X (.Compare a [.Is] [.Constant .none j gf] pos) (yB (fY false ta)):=PT.imp (ac5 (zL h)) (aht ad7)
theorem wF(h:QE X a ta):QT X (.Compare a [.IsNot] [.Constant .none j gf] pos) (yB (fY true ta)):=PT.imp (ac5 (aeg h)) (aht ae9)
end
section
variable {a b:Expr}{rest:List Expr}{tc:xj}{tB:jH}{tr:dE}
theorem gN(h:QT X a tA):QW X (.BoolOp .And [a] pos) tA:=agi h
theorem pF(h:QT X a tA):QW X (.BoolOp .Or [a] pos) tA:=aik h
theorem mC(h:QT X a tA)(k:QW X (.BoolOp .And (b::rest) pos) tB):QW X (.BoolOp .And (a::b::rest) pos) (wZ tA tB):=PW.imq (al9 h k) λC H Q g L p j r z k=>
 ⟨g,L,_,j,r,z,λc t l U J o=>by cases c with|true=>rw[AD rfl];exact⟨g,l,p,j.ts U,J,o,k.ts U⟩|false=>rw[AE AA];exact k _ t l U J o⟩
theorem vE(h:QT X a tA)(k:QW X (.BoolOp .Or (b::rest) pos) tB):QW X (.BoolOp .Or (a::b::rest) pos) (yOr tA tB):=PW.imq (am7 h k) λC H Q g L p j r z k=>
 ⟨g,L,_,j,r,z,λc t l U J o=>by cases c with|true=>rw[AD rfl];exact k _ t l U J o|false=>rw[AE AA];exact⟨g,l,p,j.ts U,J,o,k.ts U⟩⟩
theorem ft(h:QW X a tA):QT X a tA:=PW.pt h
theorem qB(h:QT X a tA):QT X (.UnaryOp .Not a pos) (abo tA):=PT.imq (aku h) λt H Q U L C g j z k=>
 ⟨U,L,_,g,j,z,λc l o p J r=>k _ l o p J r⟩
theorem adq{op:BoolOp}(h:QE X a ta):QE X (.BoolOp op [a] pos) ta:=aj1 h
theorem u4(h:QE X a ta)(k:QE X (.BoolOp .And (b::rest) pos) tb):QE X (.BoolOp .And (a::b::rest) pos) (vW ta tb):=DX (aiu h k) λT H Q g L j p C z k=>
 ⟨g,L,_,p,C,z,λv I y U l J o r=>by
  cases y with
  |bl c=>
   refine⟨c,o,?_⟩;have t:kj c (tb g U j) (j (.bl false) U):=r;cases c with|true=>rw[AD rfl];exact⟨g,U,j,p.ts l,J,t,k.ts l⟩|false=>rw[AE AA];exact k _ I _ U l J (by rfl) t
  |_=>exact r.elim⟩
theorem ajz(h:QE X a ta):QE X (.UnaryOp .Not a pos) (aic ta):=DX (aj2 h) λC H Q j L I l o z k=>
 ⟨j,L,_,l,o,z,λv p y r t J U g=>by cases y with|bl c=>exact⟨c,U,k _ p _ r t J (by rfl) g⟩|_=>exact g.elim⟩
theorem dM(h:QT X c tA)(r:QE X a ta)(t:QE X b tb):QE X (.IfExp c a b pos) (yIf tA ta tb):=DX (ab0 h r t) λI H Q g L l j C z k=>
 ⟨g,L,_,j,C,z,λc T o U J p=>by cases c with|true=>rw[AD rfl];exact⟨g,o,l,j.ts U,J,p,k.ts U⟩|false=>rw[AE AA];exact⟨g,o,l,j.ts U,J,p,k.ts U⟩⟩
theorem jo:QA X [] qz:=PA.imq iF λU H Q g L j l J z k=>k _ H _ L (DV _) J (by rfl) z
theorem jt(h:QE X e te)(C:QA X es tr)(hs:Eb e es X:=by rfl):QA X (e::es) (qd te tr):=PA.imq (ck h C hs) λσ H Q l L Q3 o I z k=>
 ⟨l,L,_,o,I,z,λv H1 y T p J U z1=>⟨l,T,_,o.ts p,J,z1,λr H2 ys L2 t g j z2=>k (v::r) H2 (y::ys) L2 (p.trans t) g ⟨v,r,rfl,U.ts t,j⟩ z2⟩⟩
theorem zk(h:QA X es tr):QE X (.Tuple es x1 pos) (vt tr):=DX (aiw h) λσ H Q o L Q3 r t z k=>
 ⟨o,L,_,r,t,z,λC H1 l I T g J U=>by
  cases e:Nat.ble l.length 1000 with
  |false=>rw[e] at U;exact U.elim
  |true=>
   rw[e] at U;have:=Bv e;refine⟨small (by rw[<-J.length];exact this),λp j=>?_⟩;exact k _ _ (.tup l) I (T.trans (DW j)) (g.skip j) ⟨p,C,rfl,cD.of zp,J.ts (DW j)⟩ U⟩
theorem za(h:QA X es tr):QE X (.List es pos) (jh tr):=DX (aam h) λI H Q l L T o r z k=>
 ⟨l,L,_,o,r,z,λvs H1 t L1 C J U g=>by
  cases e:Nat.ble t.length 1000 with
  |false=>rw[e] at g;exact g.elim
  |true=>
   rw[e] at g;have:=Bv e;refine⟨small (by rw[<-U.length];exact this),λp j=>?_⟩;exact k _ _ _ _ (C.trans (DW j)) (J.newL j U) (by rfl) (g p (J.none j))⟩
theorem dR{id:String}{r:List Y->qm->YK->Prop}(hc:x4 X (.builtin id) (upL X.g3 r))(g:Gl X x)(j:X.mg x=none)(l:bootBuiltins x=some (.builtin id))(h:QA X (e::es) tr)
 (o:x ≠ "__name__" := by decide) (hd:Ed x:=by decide) (hs:Eb e es X:=by rfl) (t:Ec pos es X:=by rfl):
 QE X (.Call (.Name x p) (e::es) [] pos) (iT r tr):=DX (rF hc g j l h o hd hs t) λσ H Q C L I T rl z k=>
 ⟨C,L,_,T,rl,z,λvs H1 ys L1 t1 J U z1=>⟨ys,L1,I,U,J,z1,k.ts t1⟩⟩
def upO(G:G3)(t:TO3):TO:=λσ H Q=>∃τ L J,vd G H σ τ/\zy G H L/\t τ L J/\∀(o:Option Int) H' L',j8 H H'->zy G H' L'->J o L'->Q o H'
abbrev QO(X:Cx)(e:Option Expr)(t:TO3):Prop:=PO X e (upO X.g3 t)
theorem PO.imp{e:Option Expr}{t u:TO}(h:PO X e t)(q:∀σ H Q,u σ H Q->t σ H Q):PO X e u:=λJ s σ H Q I z=>h J s σ H Q I (q σ H Q z)
theorem PO.imq{e:Option Expr}{t:TO}{u:TO3}(h:PO X e t)(q:∀σ H Q τ L J,vd G H σ τ->zy G H L->u τ L J->(∀(o:Option Int) H' L',j8 H H'->zy G H' L'->J o L'->Q o H')->t σ H Q):PO X e (upO G u):=PO.imp h λσ H Q ⟨τ,L,J,a,b,c,d⟩=>q σ H Q τ L J a b c d
theorem qN.imp{U:V->Option Int->Option Int->Hp->VK->Prop}(h:qN X r)(q:∀x lo hi H Q,U x lo hi H Q->r x lo hi H Q):qN X U:=by intro J s g H x v j l lo hi o Q I p t pl C z;exact h J s g H x v j l lo hi o Q I p t pl C (q _ _ _ _ _ z)
theorem aB:QO X none wg:=PO.imq aex λU H Q g L j l J z k=>k _ H L (DV _) J z
theorem vo(h:QE X e te):QO X (some e) (aZ te):=PO.imq (ahd h) λC H Q j L I l o z k=>
 ⟨j,L,_,l,o,z,λv p y r t J U g=>by cases y with|int i=>exact⟨i,U,k _ p r t J g⟩|_=>exact g.elim⟩
def agl(G:G3)(r:Y->Option Int->Option Int->qm->YK->Prop):V->Option Int->Option Int->Hp->VK->Prop:=λx lo hi H Q=>∃y L J,RV G H y x/\zy G H L/\r y lo hi L J/\qK G H J Q
theorem vk{lo hi:Option Expr}{tl th:TO3}{r:Y->Option Int->Option Int->qm->YK->Prop}(h:qN X (agl X.g3 r))(T:QE X a ta)(hl:QO X lo tl)(hh:QO X hi th):QE X (.Subscript a (.Slice lo hi none p2) pos) (uw r ta tl th):=
 DX (adr h T hl hh) λσ H Q J L Q3 U rl z k=>
 ⟨J,L,_,U,rl,z,λv H1 y L1 g j l z1=>⟨J,L1,_,U.ts g,j,z1,λo H2 L2 p t z2=>⟨J,L2,_,U.ts (g.trans p),t,z2,λo' H3 L3 I C z3=>⟨y,L3,Q3,l.ts (p.trans I),C,z3,k.ts (g.trans (p.trans I))⟩⟩⟩⟩
theorem ph(r:x6 G H ys xs)(lo hi:Option Int):x6 G H (hX ys lo hi) (rS xs lo hi):=by unfold hX rS;rw[r.length];exact(r.drop _).take _
theorem anc(K:Af)(P:Program)(w:World)(o:X.K=K:=by rfl)(t:X.prog=P:=by rfl)(hw:X.w=w:=by rfl):qN X (agl ⟨K,P,w⟩ aoe):=by
 subst o t hw;refine qN.imp afq λx lo j H Q ⟨y,L,Q3,l,U,z,k⟩=>?_;cases y with
 |ref a=>
  obtain⟨C,I,T⟩:=xn z;obtain⟨g,sq,r⟩:=bx U (aO I);exact⟨a,g,l,sq,λp J=>k _ _ _ _ (DW J) (U.newL J (ph r lo j)) (by rfl) (T p (U.none J))⟩
 |sq C=>
  obtain⟨a,g,e,sf,r⟩:=l;exact⟨a,g,e,sf.sq,λp J=>k _ _ _ _ (DW J) (U.newL J (ph r lo j)) (by rfl) (z p (U.none J))⟩
 |_=>exact z.elim
end
section
variable {a b iter:Expr}{tc:xj}{tB:jH}{tr:dE}{rest r4:List Stmt}{t u:ke}
theorem zh:qF X [] jk:=gH.imq ae6 λD g H j L D3 J U z k=>k.nx _ H _ L (DV _) J U z
theorem qe(h:QS X st t):qF X [st] t:=vJ h
theorem qa(h:QS X st t)(k:qF X rest u):qF X (st::rest) (qr t u):=gH.imq (qQ h k) λD T H j L D3 l o z k=>
 ⟨j,L,{ D3 with nx:=u D3 },l,o,z,λp H1 J r C U g I=>⟨J,r,D3,U,g,I,k.ts C⟩,k.rt,k.bk,k.ct⟩
theorem tG:QS X (.Continue pos) ahj:=EE rR λD g H j L D3 J U z k=>k.ct _ H _ L (DV _) J U z
theorem ze(h:QE X e te)(hs:swapsWith e none pos.line X.env=pure false:=by rfl):QS X (.Expr e pos) (j9 te):=EE (vX h hs) λD C H j L D3 U l z k=>
 ⟨j,L,_,U,l,z,λv o y p g J r t=>k.nx _ o _ p g (U.ts g) J t⟩
theorem z0(h:QE X e te):QS X (.Return (some e) pos) (je te):=EE (al2 h) λD j H J L D3 U g z k=>⟨J,L,_,U,g,z,k.rt⟩
theorem wI:QS X (.Return none pos) ac9:=EE aep λD U H g L D3 j J z k=>k.rt _ H _ L (DV _) J (by rfl) z
theorem j6(h:QT X c tA)(p:qF X body t)(r:qF X r4 u):QS X (.If c body r4 pos) (jz tA t u):=EE (an9 h p r) λD I H g L D3 j C z k=>
 ⟨g,L,_,j,C,z,λc T l U J o=>by cases c with|true=>rw[AD rfl];exact⟨g,l,D3,j.ts U,J,o,k.ts U⟩|false=>rw[AE AA];exact⟨g,l,D3,j.ts U,J,o,k.ts U⟩⟩
theorem bM(t:X.N.Nodup)(J:X.N[i]?=some x)(C:Loc X.env.scope x)(h:QE X e te)(U:swapsWith e (some (.Name x gf)) pos.line X.env=pure false:=by rfl)
 (g:X.fn x=true\/X.env.scope.names.lookup x=some .local:=by first|exact .inl rfl|exact .inr rfl|assumption):QS X (.Assign [.Name x gf] e pos) (zr te (qh i)):=EE (aks t J C h U g) λD σ H o L D3 p I z k=>
 ⟨o,L,_,p,I,z,λv T y L1 r j l z1=>k.nx _ T _ L1 r (show vd _ _ _ (dG o i y) by rw[aa];exact(p.ts r).set l) j z1⟩
theorem cX(h:QE X e te)(p:QG X tg g)(h1:swapsWithSole [tg] e pos.line X.env=pure false:=by rfl)(h2:swappedStores [tg] e X.env=pure none:=by rfl)
 (h3:(assignEach [tg] X.env).map (·.2)=[assign tg X.env]:=by rfl):QS X (.Assign [tg] e pos) (zr te g):=EE (aao h p h1 h2 h3) λD I H j L D3 l r z k=>
 ⟨j,L,_,l,r,z,λv T y t o J U C=>⟨y,j,t,_,U,l.ts o,J,C,k.nx.ts o⟩⟩
theorem PG.imp{t u:TG}(h:PG X e t)(q:∀v σ H Q,u v σ H Q->t v σ H Q):PG X e u:=λJ s σ H x v Q I r z=>h J s σ H x v Q I r (q _ _ _ _ z)
theorem PGs.imp{e:List Expr}{t u:TGs}(h:PGs X e t)(q:∀v σ H Q,u v σ H Q->t v σ H Q):PGs X e u:=λJ s σ H x v Q I r z=>h J s σ H x v Q I r (q _ _ _ _ z)
theorem gQ(g:X.N.Nodup)(J:X.N[i]?=some x)(j:Loc X.env.scope x)(U:X.fn x=true\/X.env.scope.names.lookup x=some .local:=by first|exact .inl rfl|exact .inr rfl|assumption):QG X (.Name x pos) (qh i):=
 PG.imp (jN g J j U) λv t H Q ⟨y,l,L,C,o,p,r,z,k⟩=>k _ H _ L (DV _) (show vd _ _ _ (dG l i y) by rw[aa];exact p.set o) r z
theorem vi:QGs X [] kw:=PGs.imp vV λl o H Q ⟨J,p,L,t,U,g,j,z,k⟩=>by cases J with|nil=>exact⟨U,k _ H _ L (DV _) g j z⟩|cons y r=>exact z.elim
theorem zg(h:QG X e g)(hs:QGs X es gs)(o:(assignEach (e::es) X.env).map (·.2)=assign e X.env::(assignEach es X.env).map (·.2):=by rfl):QGs X (e::es) (zm g gs):=
 PGs.imp (lE h hs o) λvs σ H Q ⟨p,t,L,C,I,T,rl,z,k⟩=>by
 cases p with
 |nil=>exact z.elim
 |cons y r=>
  obtain⟨x,xs,rfl,r1,r2⟩:=I;exact⟨x,xs,rfl,y,t,L,_,r1,T,rl,z,λa1 H1 J L1 l U j z1=>⟨r,J,L1,C,r2.ts l,U,j,z1,k.ts l⟩⟩
theorem wm{l:Nat}(hc:X.calm=true)(h:QGs X es gs)(h1:(assignEach es X.env).length=n:=by rfl)(h2:(assignEach es X.env).findIdx? (·.1)=none:=by rfl):QG X (.Tuple es l pos) (wo n gs):=
 PG.imp (acu hc h h1 h2) λv I H Q ⟨y,g,L,j,o,p,t,z,k⟩=>by
 cases y with
 |tup J=>
  obtain⟨a,C,rfl,sq,r⟩:=o;have U:(match J.length==n with|true=>gs J g L j|false=>False):=z;split at U
  ·rename_i e;exact⟨a,C,rfl,sq,by rw[<-r.length];exact beq_iff_eq.mp e,J,g,L,j,r,p,t,U,k⟩
  ·exact U.elim
 |_=>exact z.elim
theorem o0{y:Str}{px py pt:Pos}{U k2:Nat}{J:Pos}(hc:X.calm=true)(I:X.N.Nodup)(hi:X.N[i]?=some x)(T:X.N[j]?=some y)(g:i≠j)(lx:X.env.scope.names.lookup x=some .local)(ly:X.env.scope.names.lookup y=some .local)
 (h:QA X [a,b] tr) (h1:swappedStores [.Tuple [.Name x px,.Name y py] U pt] (.Tuple [a,b] k2 J) X.env=pure (some [x,y])) (h2:swapsWithSole [.Tuple [.Name x px,.Name y py] U pt] (.Tuple [a,b] k2 J) pos.line X.env=pure false:=by rfl):
 QS X (.Assign [.Tuple [.Name x px,.Name y py] U pt] (.Tuple [a,b] k2 J) pos) (aa1 i j tr):=EE (akc hc I hi T g lx ly h h1 h2) λD σ H r L D3 t rl z k=>
 ⟨r,L,_,t,rl,z,λvs H1 ys L1 C l o p=>by
  split at p
  ·rename_i v w;obtain⟨x',y',rfl,r1,r2⟩:=o.inv2;exact⟨x',y',rfl,k.nx _ H1 _ L1 C (show vd _ _ _ (dG (dG r i v) j w) by rw[aa,aa];exact((t.ts C).set r1).set r2) l p⟩
  ·exact p.elim⟩
theorem aq(hp:PassesOwn (model X.prog X.w) X.A X.env X.xe)(h:QT X c tA)(hb:qF X body t):QS X (.While c body [] pos) (dJ tA t):=PS.imp (zU hp h hb) λD σ H ⟨τ,L,D3,rs,rl,⟨W,⟨m0,w0⟩,turn⟩,k⟩=>by
 refine⟨λm C H1=>∃U I,j8 H H1/\vd X.g3 H1 C U/\zy X.g3 H1 I/\W m U I,⟨m0,τ,L,DV _,rs,rl,w0⟩,?_⟩;rintro m C H1 ⟨U,I,t1,o,a2,w1⟩;refine⟨U,I,_,o,a2,turn m U I w1,λb H2 L2 T a1 z2=>?_⟩;cases b with
 |false=>rw[AE AA];exact k.nx _ H2 _ L2 (t1.trans T) (o.ts T) a1 z2
 |true=>
  rw[AD rfl];obtain⟨N,hN,z2⟩:=z2;refine⟨λg j=>∃J l,j8 H j/\vd X.g3 j g J/\zy X.g3 j l/\N J l,?_,?_⟩
  ·rintro g j ⟨J,l,t',p,r,n'⟩;obtain⟨m',hm,w'⟩:=hN J l n';exact⟨m',hm,J,l,t',p,r,w'⟩
  ·have nx:m5 X.g3 H2 (gi N) (λg j=>∃J l,j8 H j/\vd X.g3 j g J/\zy X.g3 j l/\N J l):=λg j J l t' p r ⟨L5,s5,n'⟩=>⟨J,L5,(t1.trans T).trans t',p,r.sub s5,n'⟩;have k2:=k.ts (t1.trans T);exact⟨U,L2,_,o.ts T,a1,z2,nx,k2.rt,k2.nx,nx⟩
theorem v9{wi:TI3}(hp:PassesOwn (model X.prog X.w) X.A X.env X.xe)(hc:X.calm=true)(hi:QI X tg iter wi)(hg:QG X tg g)(hb:qF X body t)(hs:∀x,foldedSetIterable iter X.env x=pure x:=by intro _;rfl):
 QS X (.For tg iter body [] pos) (bB wi g t):=EE (ajf hp hc hi hg hb hs) λD σ H τ L D3 rs rl z k=>by
 refine⟨τ,L,_,rs,rl,z,λJ H1 C keep L1 t1 a3 yl zz=>?_⟩;obtain⟨W,w0,wk,turn,js⟩:=abh zz;refine⟨λi m j l=>∃U p,i+m=C.length/\j8 H1 l/\vd X.g3 l j U/\zy X.g3 l p/\W i U p,⟨C.length,τ,L1,by omega,DV _,rs.ts t1,a3,w0⟩,?_⟩;rintro i m av H2 ⟨o,L2,aL,t2,a1,r,w2⟩;by_cases a2:i<C.length
 ·refine .inr ⟨yl.go i H2 L2 t2 r (wk i o L2 w2) a2,λj l=>∃U p,j8 H1 l/\vd X.g3 l j U/\zy X.g3 l p/\W (i+1) U p,?_,?_⟩
  ·rintro j l ⟨U,p,t',I,T,w'⟩;exact⟨m-1,by omega,U,p,by omega,t',I,T,w'⟩
  ·intro x H3 y3;have ey:C[i]?=some C[i]:=Ae a2;obtain⟨t3,a4,a5⟩:=yl.yld i H2 L2 x H3 _ t2 r (wk i o L2 w2) ey y3;refine⟨C[i],o,L2,_,a5,a1.ts t3,a4,turn i _ o L2 ey w2,λba H4 ag L4 t4 al au z4=>?_⟩;have nx:m5 X.g3 H4 (gi (W (i+1))) (λj l=>∃U p,j8 H1 l/\vd X.g3 l j U/\zy X.g3 l p/\W (i+1) U p):=λj l U p t' I T ⟨L5,s5,n'⟩=>⟨U,L5,((t2.trans t3).trans t4).trans t',I,T.sub s5,n'⟩;have k2:=k.ts (t1.trans ((t2.trans t3).trans t4));exact⟨ag,L4,_,al,au,z4,nx,k2.rt,k2.nx,nx⟩
 ·have e:i=C.length:=by omega
  subst e;exact .inl ⟨yl.stop H2 L2 t2 r (wk _ o L2 w2),k.nx _ H2 _ L2 (t1.trans t2) a1 r (js o L2 w2)⟩
theorem PI.imp{t u:TI}(h:PI X tg e t)(q:∀σ H Q,u σ H Q->t σ H Q):PI X tg e u:=λJ s σ H Q I z=>h J s σ H Q I (q σ H Q z)
theorem PI.imq{t:TI}{u:TI3}(h:PI X tg e t)(q:∀σ H R τ L U,vd G H σ τ->zy G H L->u τ L U->(∀J H' ys keep L',j8 H H'->zy G H' L'->dc G H' J ys keep->U ys keep L'->R J H')->t σ H R):PI X tg e (upI G u):=PI.imp h λσ H R ⟨τ,L,U,a,b,c,d⟩=>q σ H R τ L U a b c d
theorem ip{a:Addr}{keep:qm->Prop}(h:∀H L,j8 H₀ H->zy G H L->keep L->∃xs,aK G.K H a xs/\x6 G H ys xs):dc G H₀ (Itl G.K a) ys keep where
 go:=λi H L t J U g=>by
  obtain⟨xs,sq,r⟩:=h H L t J U;have:i<xs.length:=by rw[<-r.length];exact g
  exact⟨xs,xs[i],sq,Ae this⟩
 yld:=λi H L x p y t J U j ⟨e,f⟩=>by subst e;obtain⟨xs,sq,r⟩:=h _ L t J U;obtain⟨C,l,o⟩:=r.get j;have:=f xs sq;rw[l] at this;cases this;exact⟨DV _,J,o⟩
 stop:=λH L t J U=>by obtain⟨xs,sq,r⟩:=h H L t J U;exact⟨xs,sq,by rw[r.length];exact Al _⟩
theorem k8(h:QE X e te):QI X tg e (kz te):=PI.imq (age h) λσ H R τ L R3 rs o z k=>by
 refine⟨τ,L,_,rs,o,z,λv j y p I J g C=>?_⟩;cases y with
 |ref a=>
  obtain⟨l,keep,es,kp,hk,z2⟩:=lO C;have T:∀H L,j8 j H->zy X.g3 H L->keep L->∃U,aK X.K H a U/\x6 X.g3 H l U:=λH L _ o e=>bx o (hk L e);obtain⟨U,sq,_⟩:=T j p (DV _) J kp;exact⟨a,g,⟨U,sq⟩,k _ j l _ p I J (ip T) z2⟩
 |sq l=>
  obtain⟨a,U,e,sf,r⟩:=g;exact⟨a,e,⟨U,sf.sq⟩,k _ j l (λ_=>True) p I J (ip λH L t _ _=>⟨U,(sf.ts t).sq,r.ts t⟩) C⟩
 |_=>exact C.elim
theorem sK(lo:Int)(n:Nat):dc G H₀ (Itr lo n) (a6 lo n) (λ_=>True) where
 go:=λi H L t U j l=>show i<n by simpa[a6] using l
 yld:=λi H L x o y t U j g ⟨e,f⟩=>by
  subst e f;refine⟨DV _,U,?_⟩;unfold a6 at g;rw[An] at g;obtain⟨z,J,e⟩:=Am.mp g;have:=C8 (i:=i) (n:=n) (by
   by_cases c:i<n
   ·exact c
   ·rw[BU (by simp;omega)] at J;cases J)
  rw[this] at J;cases J;subst e;rfl
 stop:=λH L t U j=>by simp[a6,Itr]
theorem wq(l:Gl X "range")(o:X.mg "range"=none)(h:QA X [a] tr)(hs:starEach [a] X.env=[(false,eval a X.env)]:=by rfl):QI X tg (.Call (.Name "range" p) [a] [] pos) (cf tr):=
 PI.imq (y7 l o h hs) λσ H R t L R3 C I z k=>by
 refine⟨t,L,_,C,I,z,λvs T ys L1 t1 U g J=>?_⟩;split at J
 ·rename_i j;obtain⟨x,rfl,r⟩:=g.inv1;cases r;exact⟨j,rfl,J.1.1,J.1.2,k _ T _ _ L1 t1 U (sK 0 _) J.2⟩
 ·exact J.elim
end
section
variable {T:List Str}{iter:Expr}{wi:TI3}{tr:dE}
theorem l8:QF X [] yj:=PF.imp ako λU H Q ⟨g,L,j,l,J,z,k⟩=>k _ H L (DV _) J z
theorem iM(h:QT X c tA):QF X [c] tA:=ajo h
theorem ai3{g2:TG}(a1:∀v σ H Q,upG G g v σ H Q->g2 v σ H Q)(σ:L2.St)(H:Hp)(Q:VK):pS G (uE n wi g tA te) σ H Q->tLC n (upI G wi) g2 (upT G tA) (pS G te) σ H Q:=λ⟨τ,L,Q3,rs,rl,z,k⟩=>by
 refine⟨τ,L,_,rs,rl,z,λJ H1 o keep L1 t1 a2 yl zz=>?_⟩;obtain⟨hz,W,w0,wk,turn,js⟩:=agw zz;refine⟨λi m vs H'=>∃U L',i+m=o.length/\U.length<=i/\j8 H1 H'/\x6 G H' U vs/\zy G H' L'/\W i U L',⟨o.length,[],L1,by exact Nat.add_comm _ _,Al _,DV _,rfl,a2,w0⟩,?_⟩;rintro i m vs H2 ⟨U,L2,au,av,p,j,l,r⟩;by_cases t:i<o.length
 ·refine .inr ⟨yl.go i H2 L2 p l (wk i U L2 r) t,by rw[<-j.length];lia,?_⟩;intro x H3 y3;have ey:o[i]?=some o[i]:=Ae t;obtain⟨t3,a3,a4⟩:=yl.yld i H2 L2 x H3 _ p l (wk i U L2 r) ey y3;refine a1 _ _ _ _ ⟨o[i],_,L2,_,a4,(rs.ts ((t1.trans p).trans t3)).more n,a3,turn i _ U L2 ey r,λaL H4 C L4 t4 I a5 z4=>?_⟩;refine⟨C,L4,_,I,a5,z4,λb H5 L5 t5 T z5=>?_⟩;cases b with
  |true=>
   rw[AD rfl];refine⟨C,L5,_,I.ts t5,T,z5,λv6 H6 y6 L6 t6 ag al ⟨L7,s7,z6⟩=>?_⟩;have tt:=((t3.trans t4).trans t5).trans t6;exact⟨m-1,by omega,U++[y6],L7,by lia,by rw[Ac,Bu];exact aiy,p.trans tt,(j.ts tt).app (x6.one al),ag.sub s7,z6⟩
  |false=>
   rw[AE AA];have tt:=(t3.trans t4).trans t5;obtain⟨L7,s7,z6⟩:=z5;exact⟨m-1,by lia,U,L7,by lia,by exact asc,p.trans tt,j.ts tt,T.sub s7,z6⟩
 ·have ei:i=o.length:=by lia
  subst ei;refine .inl ⟨yl.stop H2 L2 p l (wk _ U L2 r),by rw[<-j.length];lia,λD hD=>?_⟩;exact k _ _ _ _ ((t1.trans p).trans (DW hD)) (l.newL hD j) (by rfl) (js U L2 r D (l.none hD))
structure TGx(X:Cx)(scope:Scope)(T:List Str)(target:Expr)(g:mQ):Prop where
 ex:∃g2:TG,(∀C fp s₀ H₀,PG (X.comp scope T C fp s₀ H₀) target g2)/\mx g2 X.N.length T.length/\∀v σ H Q,upG X.g3 g v σ H Q->g2 v σ H Q
theorem afu(i:Nat)(v:V)(σ:L2.St)(H:Hp)(Q:L2.St->Hp->Prop):upG G (qh i) v σ H Q->dZ i v σ H Q:=λ⟨y,J,L,l,U,g,j,z,k⟩=>
 k _ H _ L (DV _) (show vd _ _ _ (dG J i y) by rw[aa];exact g.set U) j z
theorem wc(U:(X.N++[x]).Nodup)(g:∀C fp s₀ H₀,Loc (X.comp scope [x] C fp s₀ H₀).env.scope x)(J:∀C fp s₀ H₀,(X.comp scope [x] C fp s₀ H₀).env.scope.names.lookup x=some .local):TGx X scope [x] (.Name x p) (qh X.N.length):=
 ⟨dZ X.N.length,λC fp s₀ H₀=>jN (X:=X.comp scope [x] C fp s₀ H₀) U (by show(X.N++[x])[X.N.length]?=some x;simp) (g C fp s₀ H₀) (.inr (J C fp s₀ H₀)),uc _,afu _⟩
theorem y4{K:Af}(n:Nat):mx (ail K 2 (rV (dZ n) (rV (dZ (n+1)) aii))) n 2:=by
 rintro p J x H Q ⟨a,U,e,sq,len,v,r,g,w,j,l,o,q⟩;refine⟨a,U,e,sq,len,v,r,g,w,j,l,o,⟨by simp[J],λi u ei=>?_⟩,q⟩;have t:i<n:=by
  by_cases c:i<n
  ·exact c
  ·rw[Av (by lia),B7] at ei;split at ei<;>cases ei
 rw[BJ (by lia),BJ (by exact arq)];exact ei
theorem ajr(i j:Nat)(v:V)(σ:L2.St)(H:Hp)(Q:L2.St->Hp->Prop):upG G (wo 2 (zm (qh i) (zm (qh j) kw))) v σ H Q->ail G.K 2 (rV (dZ i) (rV (dZ j) aii)) v σ H Q:=λ⟨y,g,L,l,p,t,C,z,k⟩=>by
 cases y with
 |tup J=>
  obtain⟨a,xs,rfl,sq,r⟩:=p;have U:(match J.length==2 with|true=>zm (qh i) (zm (qh j) kw) J g L l|false=>False):=z;split at U
  ·rename_i e;have I:J.length=2:=beq_iff_eq.mp e
   match J,I with
   |[T,y2],_=>
    obtain⟨x1,o,rfl,r1,r2⟩:=r.inv2;have z2:l (dG (dG g i T) j y2) L:=U;exact⟨a,_,rfl,sq,rfl,x1,[o],rfl,o,[],rfl,rfl,k _ H _ L (DV _) (by rw[aa,aa];exact(t.set r1).set r2) C z2⟩
  ·exact U.elim
 |_=>exact z.elim
theorem agc{y:Str}{J pt:Pos}{l:Nat}(hc:X.calm=true)(g:(X.N++[x,y]).Nodup)(j:∀C fp s₀ H₀,(X.comp scope [x,y] C fp s₀ H₀).env.scope.names.lookup x=some .local)(U:∀C fp s₀ H₀,(X.comp scope [x,y] C fp s₀ H₀).env.scope.names.lookup y=some .local)
 (h1:∀env,(assignEach [.Name x p,.Name y J] env).length=2:=by intro _;rfl) (h2:∀env,(assignEach [.Name x p,.Name y J] env).findIdx? (·.1)=none:=by intro _;rfl)
 (h3:∀env,(assignEach [.Name x p,.Name y J] env).map (·.2)=assign (.Name x p) env::(assignEach [.Name y J] env).map (·.2):=by intro _;rfl) (o:∀env,(assignEach [.Name y J] env).map (·.2)=assign (.Name y J) env::(assignEach [] env).map (·.2):=by intro _;rfl):
 TGx X scope [x,y] (.Tuple [.Name x p,.Name y J] l pt) (wo 2 (zm (qh X.N.length) (zm (qh (X.N.length+1)) kw))):=
 ⟨_,λC fp s₀ H₀=>acu (X:=X.comp scope [x,y] C fp s₀ H₀) hc (lE (jN g (by show(X.N++[x,y])[X.N.length]?=some x;simp) (.inl (j C fp s₀ H₀)) (.inr (j C fp s₀ H₀))) (lE (jN g (by show(X.N++[x,y])[X.N.length+1]?=some y;simp) (.inl (U C fp s₀ H₀)) (.inr (U C fp s₀ H₀))) vV (o _)) (h3 _)) (h1 _) (h2 _),y4 _,ajr _ _⟩
theorem lz(T:List Str)(S:jj X scope)(hc:X.calm=true)(hi:QI X target iter wi)(J:TGx X scope T target g)
 (U:∀C fp s₀ H₀,QF (X.comp scope T C fp s₀ H₀) ni tA) (j:∀C fp s₀ H₀,QE (X.comp scope T C fp s₀ H₀) nC te)
 (hs:∀x,foldedSetIterable iter X.env x=pure x:=by intro _;rfl):QE X (.ListComp nC [⟨target,iter,ni,0⟩] scope pos) (uE T.length wi g tA te):=by
 obtain⟨g2,h1,h2,h3⟩:=J.ex;exact EO (anb T S hc hi h1 h2 U j hs) (ai3 h3)
theorem gG(T:List Str){px:Pos}(I:X.N.Nodup)(J:X.N[i]?=some x)(hx:Loc X.env.scope x)(S:jj X scope)(hc:X.calm=true)(hi:QI X target iter wi)
 (hg:TGx X scope T target g) (hf:∀C fp s₀ H₀,QF (X.comp scope T C fp s₀ H₀) ni tA) (he:∀C fp s₀ H₀,QE (X.comp scope T C fp s₀ H₀) nC te)
 (U:swapsWith (.ListComp nC [⟨target,iter,ni,0⟩] scope lp) (some (.Name x px)) pos.line X.env=pure true:=by rfl)
 (j:X.fn x=true\/X.env.scope.names.lookup x=some .local:=by first|exact .inl rfl|exact .inr rfl|assumption)
 (hs:∀x,foldedSetIterable iter X.env x=pure x:=by intro _;rfl):QS X (.Assign [.Name x px] (.ListComp nC [⟨target,iter,ni,0⟩] scope lp) pos) (zr (uE T.length wi g tA te) (qh i)):=by
 obtain⟨g2,h1,h2,h3⟩:=hg.ex;refine PS.imp (ac0 (tc:=upT X.g3 tA) (te:=pS X.g3 te) T I J hx S hc hi h1 h2 hf he U j hs) λD σ H ⟨p,L,D3,r,rl,z,k⟩=>?_;refine ai3 h3 σ H _ ⟨p,L,_,r,rl,z,λv H1 y L1 t l o z1=>?_⟩;exact k.nx _ H1 _ L1 t (show vd _ _ _ (dG p i y) by rw[aa];exact(r.ts t).set o) l z1
def dn(G:G3)(sp:jr):Sp:=λvs H Q _=>∃ys L J,x6 G H ys vs/\zy G H L/\sp ys L J/\qK G H J Q
abbrev akp(P:Program)(w:World)(K:Af)(mg:Str->Option Value)(base:Heap)(k:Nat)(x:Str)(ps:List Str)(sp:jr):Prop:=zG P w K mg base k x ps (dn ⟨K,P,w⟩ sp)
abbrev Fn3(P:Program)(w:World)(K:Af)(mg:Str->Option Value)(base:Heap)(k:Nat)(f:Addr)(fd:FuncData)(ps:List Str)(sp:jr):Prop:=ar P w K mg base CX0 k f fd ps (dn ⟨K,P,w⟩ sp)
theorem aq7{k:Nat}{sp:jr}(c:akp X.prog X.w X.K X.mg X.base k x ps sp)(l:wb k X.A)(o:Gl X x)(r:QA X (e::es) tr)(J:Ed x:=by decide)
 (t:Eb e es X:=by rfl) (U:Ec pos es X:=by rfl):QE X (.Call (.Name x p) (e::es) [] pos) (zc sp tr):=
 DX (ar1 c l o r J t U) λσ H Q C L I T rl z k=>
 ⟨C,L,_,T,rl,z,λvs H1 ys L1 t1 g j z1=>⟨ys,L1,I,by rw[AI];exact j,g,z1,k.ts t1⟩⟩
def fV(Q:YK):YK:=λy L=>∃L2,qg L2 L/\Q y L2
def eE(N:List Str)(ys:List Y):jq:=ys.map some++List.replicate (N.length-ys.length) none
theorem iO{N:List Str}(r:x6 G H ys vs):vd G H (L2.start N vs) (eE N ys):=by unfold L2.start eE;rw[<-r.length];refine vd.more ⟨by simp[r.length],λi y e=>?_⟩ _;rw[An] at e;obtain⟨j,J,U⟩:=Am.mp e;cases U;obtain⟨x,ex,g⟩:=r.get J;exact⟨x,by rw[An,ex];rfl,g⟩
theorem ok3{P:Program}{w:World}{K:Af}{N:List Str}{k:Nat}{sp:jr}(F:Fun K x eK st f fd)(S:aD N ps (qy st))(len:∀ys L Q,sp ys L Q->ys.length=ps.length)
 (J:∀(fx:Value) (A:Around) (outer:List Env) (s:Shared) (H:Hp) (E:XK),wb k (A.deeper (PyProof.Rows.envOfC eK (qy st) s.heap.objs.size f fx))->
  ∃t,qF (cZ CX0 P w K mg base N eK (qy st) f fx A outer s H E).nox (ji st) t/\∀ys L Q,sp ys L Q->t { nx:=λ_ L'=>fV Q .non L',rt:=fV Q } (eE N ys) L):Fn3 P w K mg base (k+1) f fd ps sp:=by
 refine F.ok S (λT H Q E ⟨ys,L,g,j,I,z,_⟩=>by rw[<-j.length];exact len ys L g z) λfx A outer s H T Q E hr ⟨ys,L,g,j,I,z,k⟩=>?_;obtain⟨t,ht,q⟩:=J fx A outer s H E hr;refine⟨_,ht,eE N ys,L,_,iO j,I,q ys L g z,?_⟩;refine⟨λσ l τ L' o a1 U ⟨L2,p,r⟩=>k .non l .non L2 o (U.sub p) (by rfl) r,λv l y L' o U C ⟨L2,p,r⟩=>k v l y L2 o (U.sub p) C r,λ_ _ _ _ _ _ _ z=>z.elim,λ_ _ _ _ _ _ _ z=>z.elim⟩
def upM(G:G3)(r:Y->List Y->qm->YK->Prop):V->List V->Hp->VK->Prop:=λx xs H Q=>∃y ys L J,RV G H y x/\x6 G H ys xs/\zy G H L/\r y ys L J/\qK G H J Q
theorem fZ.imq{id:String}{r:V->List V->Hp->VK->Prop}{u:Y->List Y->qm->YK->Prop}(h:fZ X id r)(q:∀x xs H Q y ys L J,RV G H y x->x6 G H ys xs->zy G H L->u y ys L J->qK G H J Q->r x xs H Q):fZ X id (upM G u):=fZ.imp h λx xs H Q ⟨y,ys,L,J,a,b,c,d,e⟩=>q x xs H Q y ys L J a b c d e
theorem aa0:fZ X "list.append" (upM X.g3 zq):=fZ.imq y9 λx t H Q y C L I g j U z k=>by
 unfold zq at z;split at z
 ·rename_i a v;obtain⟨T,e,z⟩:=xn z;obtain⟨l,J,r⟩:=U a _ e;obtain⟨o,rfl,p⟩:=j.inv1;exact⟨a,l,o,g,rfl,J,by rw[<-r.length];exact z.1,k _ _ _ _ (EF J) (U.setL J (r.app (x6.one p))) (by rfl) z.2⟩
 ·exact z.elim
theorem aa5:fZ X "list.extend" (upM X.g3 ac):=fZ.imq yR λx T H Q y ys L Q3 j l J z k=>by
 unfold ac at z;split at z
 ·rename_i a b;obtain⟨zs,e,z⟩:=xn z;obtain⟨us,o,z⟩:=xn z;obtain⟨p,U,r⟩:=J a _ e;obtain⟨t,C,g⟩:=J b _ o;obtain⟨v',rfl,I⟩:=l.inv1;cases I;exact⟨a,b,p,t,j,rfl,U,C,by rw[<-r.length,<-g.length];exact z.1,k _ _ _ _ (EF U) (J.setL U (r.app g)) (by rfl) z.2⟩
 ·exact z.elim
theorem an5:fZ X "list.pop" (upM X.g3 qA):=fZ.imq aiv λx o H Q y T L Q3 p t g z k=>by
 unfold qA at z;split at z
 ·rename_i a;obtain⟨j,e,z⟩:=xn z;obtain⟨C,J,r⟩:=g a _ e;cases (show o=[] from t);cases U:j[j.length-1]? with
  |none=>rw[U] at z;exact z.elim
  |some v=>
   rw[U] at z;obtain⟨u,l,I⟩:=r.get U;rw[r.length] at l;exact⟨a,C,u,p,rfl,J,l,k _ _ _ _ (EF J) (g.setL J r.dropLast) (I.ts (EF J)) z⟩
 ·exact z.elim
theorem wP(J:zy G H L)(h:bZ L (.ref a)=some ys):tyV G.K "list" (.ref a) H:=by obtain⟨U,sq,_⟩:=bx J h;exact .inl ⟨rfl,U,sq⟩
def wu(r:Y->List Y->qm->YK->Prop)(to:xj)(t:dE)(τ:jq)(L:qm)(Q:YK):Prop:=to τ L λx L1=>match x with
 |.ref a=>dU L1 (.ref a) λ_=>t τ L1 λxs L2=>r (.ref a) xs L2 Q
 |_=>False
theorem qI{id:String}{r:Y->List Y->qm->YK->Prop}(h2:Slot "list" name id)(h3:typeOf (.builtin id)=pure (.type "method_descriptor"))(hm:fZ X id (upM X.g3 r))(ho:QE X o to)(ha:QA X (e::es) tr)
 (h4:attributeBase o name X.env (eval o X.env)=eval o X.env:=by rfl)
 (h5:((backTo fm (starEach (e::es) X.env)).all (λx=>!x.1)&&(backToKw fm (keywordEach [] X.env)).all (λx=>x.1.isSome)&&decide ((e::es).length+([]:List Keyword).length+(if ([]:List Keyword).isEmpty=true then 0 else 1)<30))=true:=by rfl)
 (h6:(apos.endLine==fm.line)=true:=by rfl) (h7:Eb e es X:=by rfl) (h8:Ec fm es X:=by rfl):
 QE X (.Call (.Attribute o name apos) (e::es) [] fm) (wu r to tr):=DX (ahi DC h2 h3 hm ho ha h4 h5 h6 h7 h8) λσ H Q p L Q3 t rl z k=>
 ⟨p,L,_,t,rl,z,λv H1 y L1 C J U g=>by
  split at g
  ·rename_i a;obtain⟨I,es,g⟩:=kh g;exact⟨by cases U;exact wP J es,p,L1,_,t.ts C,J,g,λvs H2 I L2 T j l z2=>⟨.ref a,I,L2,Q3,U.ts T,l,j,z2,k.ts (C.trans T)⟩⟩
  ·exact g.elim⟩
theorem acf{id:String}{r:Y->List Y->qm->YK->Prop}(h2:Slot "list" name id)(h3:typeOf (.builtin id)=pure (.type "method_descriptor"))(j:fZ X id (upM X.g3 r))(l:QE X o to)
 (p:attributeBase o name X.env (eval o X.env)=eval o X.env:=by rfl) (t:(apos.endLine==fm.line)=true:=by rfl):
 QE X (.Call (.Attribute o name apos) [] [] fm) (wu r to qz):=DX (aju DC h2 h3 j l p t) λσ H Q C L I T rl z k=>
 ⟨C,L,_,T,rl,z,λv H1 y L1 t1 J U g=>by
  split at g
  ·rename_i a;obtain⟨ys,es,g⟩:=kh g;exact⟨by cases U;exact wP J es,.ref a,[],L1,I,U,rfl,J,g,k.ts t1⟩
  ·exact g.elim⟩
theorem zd(J:QE X o to)(U:QA X (e::es) tr)(g:attributeBase o "append" X.env (eval o X.env)=eval o X.env:=by rfl)
 (j:((backTo fm (starEach (e::es) X.env)).all (λx=>!x.1)&&(backToKw fm (keywordEach [] X.env)).all (λx=>x.1.isSome)&&decide ((e::es).length+([]:List Keyword).length+(if ([]:List Keyword).isEmpty=true then 0 else 1)<30))=true:=by rfl)
 (l:(apos.endLine==fm.line)=true:=by rfl) (p:Eb e es X:=by rfl) (r:Ec fm es X:=by rfl):
 QE X (.Call (.Attribute o "append" apos) (e::es) [] fm) (wu zq to tr):=qI PySem.F.slot_list_append PySem.F.type_list_append aa0 J U g j l p r
theorem ah(J:QE X o to)(U:QA X (e::es) tr)(g:attributeBase o "extend" X.env (eval o X.env)=eval o X.env:=by rfl)
 (j:((backTo fm (starEach (e::es) X.env)).all (λx=>!x.1)&&(backToKw fm (keywordEach [] X.env)).all (λx=>x.1.isSome)&&decide ((e::es).length+([]:List Keyword).length+(if ([]:List Keyword).isEmpty=true then 0 else 1)<30))=true:=by rfl)
 (l:(apos.endLine==fm.line)=true:=by rfl) (p:Eb e es X:=by rfl) (r:Ec fm es X:=by rfl):
 QE X (.Call (.Attribute o "extend" apos) (e::es) [] fm) (wu ac to tr):=qI PySem.F.slot_list_extend PySem.F.type_list_extend aa5 J U g j l p r
theorem kK(J:QE X o to)(U:attributeBase o "pop" X.env (eval o X.env)=eval o X.env:=by rfl)(g:(apos.endLine==fm.line)=true:=by rfl):
 QE X (.Call (.Attribute o "pop" apos) [] [] fm) (wu qA to qz):=acf PySem.F.slot_list_pop PySem.F.type_list_pop an5 J U g
end
abbrev jE:mR:=yI0 λi j=>.int (i-j)
abbrev rT:mR:=yI abj λi j=>.int (i*j)
abbrev am:mR:=yI akz λi j=>.int (i / j)
abbrev w6:mR:=yI (λ_ j=>0<j) λi j=>.int (i % j)
abbrev ase:mR:=yI ak7 λi j=>.int (i ^ j.toNat)
abbrev yLt:mR:=yI0 λi j=>.bl (decide (i<j))
abbrev yLe:mR:=yI0 λi j=>.bl (decide (i<=j))
abbrev yGt:mR:=yI0 λi j=>.bl (decide (j<i))
abbrev yGe:mR:=yI0 λi j=>.bl (decide (j<=i))
structure anq(G:G3)(mg:Str->Option Value)(x:Str)(y:Y):Prop where
 ex:∃c,mg x=some (.ref c)/\∀H,RV G H y (.ref c)
theorem ajy(t:anq X.g3 X.mg x y)(J:Gl X x)(hd:Ed x:=by decide):QE X (.Name x pos) (yC y):=by obtain⟨c,U,q⟩:=t.ex;exact anj J U q hd
def ai6(kvs:List (Str×Str)):LO:=.dct (kvs.map λp=>(Sum.inr p.1,Y.str p.2))
def ai0(kvs:List (Str×Str))(_:jq)(L:qm)(Q:YK):Prop:=∀p,L p=none->Q (.ref p) (qf L p (ai6 kvs))
def kvV(kvs:List (Str×Str)):List (jg×V):=kvs.map λp=>(Sum.inr p.1,V.str p.2)
theorem qS{σ:L2.St}{H:Hp}{Q:List (V×V)->Hp->Prop}:∀{kvs:List (Str×Str)},Q (kvs.map λp=>(V.str p.1,V.str p.2)) H->pW (kvs.map λp=>(tC (.str p.1),tC (.str p.2))) σ H Q
 |[],h=>h
 |_::r,h=>qS (kvs:=r) h
theorem vQ{G:G3}{H:Hp}:∀kvs:List (Str×Str),Paired (λ(p:jg×Y) (q:jg×V)=>p.1=q.1/\RV G H p.2 q.2) (kvs.map λp=>(Sum.inr p.1,Y.str p.2)) (kvV kvs)
 |[]=>.nil
 |_::r=>.cons ⟨rfl,rfl⟩ (vQ r)
theorem aef{keys:List (Option Expr)}{values:List Expr}(kvs:List (Str×Str))(h:PPs X pos keys values (kvs.map λp=>(tC (.str p.1),tC (.str p.2))))(h1:(keys.all λx=>x.isSome)=true)(h2:keys.length=values.length)(h3:keys≠[])(g:keys.length<=15)
 (j:kvs.length<=15:=by decide) (nd:gy [] (kvV kvs)=kvV kvs:=by decide +kernel):QE X (.Dict keys values pos) (ai0 kvs):=DX (afw h h1 h2 h3 g) λl H Q o L r t U z k=>by
 intro p J;refine qS ⟨zp,kvV kvs,by simp[kvV,kV],by simpa[kvV] using j,?_⟩;rw[nd,wJ];refine k _ _ _ (qf L p (ai6 kvs)) (DW J) ?_ (by rfl) (z p (U.none J));intro a u e;by_cases c:a=p
 ·subst c;rw[q8] at e;cases e;exact⟨kvV kvs,zp,vQ kvs⟩
 ·rw[q9 c] at e;exact(U a u e).keep (DW J) (qp c)
def oI(t:xj):Prop:=∀τ L Q,t τ L Q->∃v,Q v L/\∀L' J,qg L L'->J v L'->t τ L' J
theorem aal(i:Nat):oI (qb i):=λJ L Q h=>by
 unfold qb at h ⊢;split at h
 ·rename_i y e;exact⟨y,h,λU g _ q=>q⟩
 ·exact h.elim
theorem akt(y:Y):oI (yC y):=λ_ _ _ h=>⟨y,h,λ_ _ _ q=>q⟩
theorem aka{C:Int->Int->Prop}{g:Int->Int->Y}(l:oI ta)(o:oI tb):oI (zn (yI C g) ta tb):=λJ L Q h=>by
 obtain⟨x,h1,p⟩:=l J L _ h;obtain⟨y,h2,r⟩:=o J L _ h1;cases x with
 |int i=>
  cases y with|int j=>exact⟨g i j,h2.2,λU t s q=>p U _ s (r U _ s ⟨h2.1,q⟩)⟩|_=>exact h2.elim
 |_=>cases y<;>exact h2.elim
theorem gW{Q:α->qm->Prop}{o:Option α}(h:tJ L Q o):∃v,o=some v/\Q v L:=by cases o with|none=>exact h.elim|some v=>exact⟨v,rfl,h⟩
def ade(t:dE)(ti:xj)(τ:jq)(L:qm)(Q:YK):Prop:=t τ L λys L1=>match Nat.ble ys.length 1000 with
 |true=>ti τ L1 λi L2=>match i with
  |.int i=>tJ L2 Q (eM ys i)
  |_=>False
 |false=>False
theorem wG{b:Expr}{tr:dE}(h:QA X es tr)(hb:QE X b tb)(pu:oI tb)(U:gJ b):QE X (.Subscript (.List es lp) b pos) (ade tr tb):=DX (abr (ahs X.K X.prog X.w) (aam h) hb U) λσ H Q r L Q3 rs rl z k=>by
 refine⟨r,L,_,rs,rl,z,λvs H1 g J t1 j l o=>?_⟩;cases e:Nat.ble g.length 1000 with
 |false=>rw[e] at o;exact o.elim
 |true=>
  rw[e] at o;have:=Bv e;refine⟨small (by rw[<-l.length];exact this),λp U=>?_⟩;obtain⟨v,zv,kv⟩:=pu r J _ o;have sb:qg J (qf J p (.lst g)):=By (j.none U);refine⟨r,qf J p (.lst g),λv' t=>v'=v/\t=qf J p (.lst g),rs.ts (t1.trans (DW U)),j.newL U l,kv _ _ sb ⟨rfl,rfl⟩,?_⟩;rintro v2 H2 y2 L2 t2 C I ⟨rfl,rfl⟩;refine⟨.ref p,y2,_,λy t=>t=qf J p (.lst g)/\Q3 y J,rfl,I,C,?_,?_⟩
  ·cases y2 with
   |int i=>
    obtain⟨u,eu,qu⟩:=gW zv;refine qc q8 ?_;rw[eu];exact⟨rfl,qu⟩
   |_=>exact zv.elim
  ·rintro v3 H3 y3 L3 t3 T a1 ⟨rfl,q3⟩;exact k v3 H3 y3 J (t1.trans ((DW U).trans (t2.trans t3))) (T.sub sb) a1 q3
theorem iX{kvs:List (Str×Str)}{k:Str}(h:kvs.lookup k=some x):kg (kvs.map λp=>((Sum.inr p.1:jg),Y.str p.2)) (Sum.inr k)=some (Y.str x):=by
 induction kvs with
 |nil=>simp at h
 |cons p r J=>
  obtain⟨a,b⟩:=p;unfold kg;rw[AO,Bm];rw[Bp] at h;by_cases c:k=a
  ·subst c;simp at h;simp[h]
  ·have c1:(k==a)=false:=by simpa using c
   rw[c1] at h;have c2:decide ((Sum.inr a:jg)=Sum.inr k)=false:=Au λz=>c (Eo z).symm;simp only[c2];exact J h
theorem vL(h:(a6 lo n)[i]?=some y):i<n/\y=.int (lo+i):=by
 unfold a6 at h;rw[An] at h;obtain⟨z,J,e⟩:=Am.mp h;have U:i<n:=by
  by_cases c:i<n
  ·exact c
  ·rw[BU (by simp;exact aaj)] at J;cases J
 rw[C8 U] at J;cases J;exact⟨U,e.symm⟩
theorem lW(lo:Int)(n:Nat):(a6 lo n).length=n:=by simp[a6]
theorem cN{tb:ke}(W:Nat->jq->qm->Prop)(h0:W 0 τ L)
 (hs:∀i τ L,i<n->W i τ L->g (.int (lo+i)) τ L λJ L2=>tb { D with nx:=gi (W (i+1)),ct:=gi (W (i+1)),bk:=D.nx } J L2) (hd:∀τ L,W n τ L->D.nx τ L):tT (a6 lo n) (λ_=>True) g tb D τ L:=by
 refine vh ⟨W,h0,λ_ _ _ _=>trivial,λi y τ L e w=>?_,λτ L w=>hd τ L (by rw[lW] at w;exact w)⟩;obtain⟨U,rfl⟩:=vL e;exact hs i τ L U w
theorem lI{v:Y}{Q:YK}(e:L a=some (.lst (ys++[v])))(q:Q v (qf L a (.lst ys))):dU L (.ref a) (λ_=>qz τ L λxs L2=>qA (.ref a) xs L2 Q):=by
 refine qc e (qx e ?_);have:(ys++[v])[(ys++[v]).length-1]?=some v:=by simp
 rw[this,List.dropLast_concat];exact q
theorem ahe{tb:ke}(h:bZ L (.ref a)=some ys)(W:Nat->jq->qm->Prop)(h0:W 0 τ L)(U:∀i τ L',W i τ L'->L' a=L a)
 (hs:∀i y τ L,ys[i]?=some y->W i τ L->g y τ L λJ L2=>tb { D with nx:=gi (W (i+1)),ct:=gi (W (i+1)),bk:=D.nx } J L2) (hd:∀τ L,W ys.length τ L->D.nx τ L):
 oZ L a λys keep L1=>tT ys keep g tb D τ L1:=x5 (oB h) λkeep j=>vh ⟨W,h0,λi τ L' w=>j L' (U i τ L' w),hs,hd⟩
theorem fO{keep:qm->Prop}{tc:jH}{Q:YK}(I:Nat->List Y->Prop)(hz:ys.length<sizeLine)(j:keep L)(h0:I 0 [])
 (turn:∀(i:Nat) y zs,ys[i]?=some y->I i zs->g y (τ++List.replicate n none) L λJ L2=>tc J L2 λb L3=>kj b (te J L3 λz l=>gi (λzs L'=>L'=L/\I (i+1) zs) (zs++[z]) l) (gi (λzs L'=>L'=L/\I (i+1) zs) zs L3))
 (o:∀zs,I ys.length zs->∀p,L p=none->Q (.ref p) (qf L p (.lst zs))):lcK ys keep n g tc te τ L Q:=by
 refine tz ⟨hz,λi zs L'=>L'=L/\I i zs,⟨rfl,h0⟩,?_,?_,?_⟩
 ·rintro i zs L' ⟨rfl,_⟩;exact j
 ·rintro i y zs L' r ⟨rfl,U⟩;exact turn i y zs r U
 ·rintro zs L' ⟨rfl,U⟩ p t;exact o zs U p t
theorem acj{tc:jH}{Q:YK}(I:Nat->List Y->Prop)(hz:m<sizeLine)(h0:I 0 [])
 (turn:∀(i:Nat) zs,i<m->I i zs->g (.int (lo+i)) (τ++List.replicate n none) L λJ L2=>tc J L2 λb L3=>kj b (te J L3 λz j=>gi (λzs L'=>L'=L/\I (i+1) zs) (zs++[z]) j) (gi (λzs L'=>L'=L/\I (i+1) zs) zs L3))
 (l:∀zs,I m zs->∀p,L p=none->Q (.ref p) (qf L p (.lst zs))):lcK (a6 lo m) (λ_=>True) n g tc te τ L Q:=by
 refine fO (keep:=λ_=>True) I (by rw[lW];exact hz) trivial h0 (λi y zs e U=>?_) λzs U=>l zs (by rw[lW] at U;exact U);obtain⟨o,rfl⟩:=vL e;exact turn i zs o U
theorem aga(ys:List Y)(n:Nat):hX ys none (some ((n:Nat):Int))=ys.take n:=by
 unfold hX;rw[HT.sIx_nat,HT.sIx_none,CO,Df];by_cases h:n<=ys.length
 ·rw[BX h]
 ·rw[DD (by lia),A5 (Al _),A5 (by lia)]
theorem xb{J:List α}{f:α->Y}{w:α}(h:J[i]?=some w):eM (J.map f) (i:Int)=some (f w):=xq (by rw[An,h];rfl)
def xp(t:ke)(n:Nat)(ys:List Y)(L:qm)(Q:YK):Prop:=t { nx:=λ_ L'=>fV Q .non L',rt:=fV Q } (ys.map some++List.replicate (n-ys.length) none) L
theorem js{Q:YK}(h:Q y L):fV Q y L:=⟨L,DU L,h⟩
theorem aY{Q:YK}(s:qg L L')(h:Q y L):fV Q y L':=⟨L,s,h⟩
theorem Fn3.never{P:Program}{w:World}{K:Af}{k:Nat}{sp:jr}(no:∀ys L Q,¬sp ys L Q):Fn3 P w K mg base k f fd ps sp:=
 ar.never λU H Q E ⟨ys,L,J,_,_,z,_⟩=>no ys L J z
theorem qg.upd{o:LO}(s:qg L L')(h:L a=none):qg L (qf L' a o):=λb u e=>by rw[q9 (v5 e h)];exact s b u e
theorem qg.put{o:LO}(s:qg L L')(h:L' a=some o):qg (qf L a o) L':=λb u e=>by
 by_cases c:b=a
 ·subst c;rw[q8] at e;cases e;exact h
 ·rw[q9 c] at e;exact s b u e
abbrev ER:=@qg.put
theorem rh{G:G3}{H:Hp}:∀J:List Int,x6 G H (J.map Y.int) (J.map V.int)
 |[]=>rfl
 |_::r=>⟨_,_,rfl,rfl,rh r⟩
end L3
namespace L2
open PySem PySem.Spec PyProof.Rows
section
variable {σ:L2.St}
theorem lr(I:z9 X pins σ H s)(U:∀b∈fp,H b=none)(k:∀b o,b∉fp->s.heap.get? b=some o->h'.get? b=some o):dF X.prog X.w H h':=λb u e=>by
 refine(I.hok b u e).stay (λc v g q=>k c v (λz=>?_) q) (λ_ q=>q) λ_ _ q=>q;have J:=U c z;rcases g with w|w
 ·rw[w,e] at J;cases J
 ·rw[w] at J;cases J
theorem xH{fs:List Addr}(k:∀b o,b∉fp->h.get? b=some o->h'.get? b=some o):Un fs fp H H h h':=
 ⟨λb o q _ _ x=>k b o x q,λb o q _ _ x=>⟨o.slots,k b o x q⟩,λ_ _ _ n _=>n,λb o q x=>⟨o,k b o x q⟩,λ_ _ q=>q,λ_ _ _ q=>q,λb J q=>⟨#[],by rw[q];simp⟩⟩
theorem z9.turnedL(I:z9 X pins σ H s)(k:∀b o,b∉fp->s.heap.get? b=some o->h'.get? b=some o)(U:∀b∈fp,jJ X pins H b)(g:0<t':=by walk_at "t"):z9 X pins σ H { s with heap:=h',toks:=t' }:=
 I.call' (s':={ s with heap:=h',toks:=t' }) (ch:=fp) rfl (xH k) (lr I (λb J=>(U b J).1) k) I.bare λb J=>⟨(U b J).2.2.2.1,(U b J).2.1,(U b J).2.2.2.2.1,(U b J).2.2.2.2.2⟩
theorem z9.turnedN{o:HO}(I:z9 X pins σ H s)(k:∀b o,b∉fp->s.heap.get? b=some o->h'.get? b=some o)(U:∀b∈fp,jJ X pins H b)(j:s.heap.objs.size<=a)
 (new:xo X.prog X.w (upd H a o) h' a o) (p:0<t':=by walk_at "t"):z9 X pins σ (upd H a o) { s with heap:=h',toks:=t' }:=by
 have g:H a=none:=I.hok.fresh j;have lt:∀b ob,s.heap.get? b=some ob->b≠a:=λb ob q=>A1 (AM (ya q) j);refine I.call' (s':={ s with heap:=h',toks:=t' }) (ch:=fp) rfl ?_ ?_ I.bare λb J=>⟨(U b J).2.2.2.1,(U b J).2.1,(U b J).2.2.2.2.1,(U b J).2.2.2.2.2⟩
 ·exact⟨λb ob q _ _ x=>k b ob x q,λb ob q _ _ x=>⟨ob.slots,k b ob x q⟩,λb ob q n _=>by rw[qp (lt b ob q)];exact n,λb ob q x=>⟨ob,k b ob x q⟩,
   λb l q=>by rw[qp (zu q g)];exact q,λb ob u q=>by rw[qp (zu q g)];exact q,λb r q=>⟨#[],by rw[qp (zu q g),q];simp⟩⟩
 ·intro b u e;by_cases J:b=a
  ·subst J;rw[zp] at e;cases e;exact new
  ·rw[qp J] at e;have ok:=lr I (h':=h') (λb J=>(U b J).1) k b u e;exact ok.stay (λ_ _ _ q=>q) (λc q=>by rw[qp (zu q g)];exact q) λc l q=>by rw[qp (zu q g)];exact q
end
def Ite(K:Af)(a:Addr):It:=
 ⟨λi H=>∃xs x,aK K H a xs/\xs[i]?=some x,λi H v H'=>∃p x,H p=none/\v=.ref p/\H'=upd H p (.tup [.int i,x])/\∀xs,aK K H a xs->xs[i]?=some x,λi H=>∃xs,aK K H a xs/\xs.length<=i⟩
theorem yt{P:Program}{w:World}{K:Af}(a e it:Addr)(l:e≠it):uW P w K (.Tuple oi x1 tp) (Ite K a) [e,it] e (λi h=>(∃old,IsEnum h e it i old)/\h.IsListIter it a i) where
 mem:=by simp
 obj:=λi h ⟨⟨old,J⟩,U⟩ b g=>by
  rcases Ap.mp g with rfl|g
  ·exact⟨_,J,λv z=>by cases z⟩
  ·cases Ai.mp g;obtain⟨o,T,hc,hd⟩:=U;exact⟨o,T,λv z=>by rw[hd] at z;cases z⟩
 keep:=λi h h' ⟨⟨old,J⟩,U⟩ k=>⟨⟨old,k e (by simp) _ J⟩,U.at λo q=>k it (by simp) o q⟩
 item:=by
  intro X hP hw hK hc i r s σ H E I t ⟨⟨old,J⟩,U⟩ hg;subst hP hw hK;obtain⟨xs,x,C,hx⟩:=hg;obtain⟨a1,rv,p,hz⟩:=I.list C;obtain⟨u,hu,ru⟩:=rv.get hx;refine wpAny_pyNext_enum_item J U p.isList (x:=u) (by simpa using hu) l λh1 a2 a3 ht ag hk=>⟨.ref s.heap.objs.size,rfl,wpAny_letOwnedTupleGo_enum a2 λh2 a4 j=>?_⟩;have el:e<s.heap.objs.size:=ya J;have il:it<s.heap.objs.size:=by obtain⟨o,T,_⟩:=U;exact ya T
  have kk:∀b o,b∉[e,it]->s.heap.get? b=some o->h2.get? b=some o:=λb o nb q=>by have n1:b≠e:=λz=>nb (by simp[z]);have n2:b≠it:=λz=>nb (by simp[z]);exact j.extBut b o n1 (hk b o n1 n2 q)
  have tg:h2.get? s.heap.objs.size=some { cls:=.type "tuple",data:=.seq #[.int i s.toks,u] }:=j.extBut _ _ (Cs el) ht;refine⟨.ref s.heap.objs.size,upd H s.heap.objs.size (.tup [.int i,x]),?_,rfl,⟨_,x,I.hok.fresh (Al _),rfl,rfl,λys hy=>by rw[I.list_inj hy C];exact hx⟩,⟨⟨_,a4⟩,a3.at λo q=>j.extBut _ _ (AB l) q⟩,λb g=>?_⟩
  ·exact I.turnedN (t':=s.toks+1) kk t (Al _) ⟨by show 2<=sizeLine;decide,[.int i s.toks,u],.cons ⟨_,rfl⟩ (.cons ru .nil),⟨_,tg,rfl,_,rfl⟩⟩
  ·have a5:b<s.heap.objs.size:=by rcases Ap.mp g with rfl|g;exact el;cases Ai.mp g;exact il
   rw[qp (A1 a5)];exact(t b g).1
 done:=by intro X hP hw hK hc i r s σ H E I t ⟨⟨old,J⟩,U⟩ hg;subst hP hw hK;obtain⟨xs,C,hx⟩:=hg;obtain⟨a1,rv,p,hz⟩:=I.list C;have hl:=rv.length;exact wpAny_pyNext_enum_end (I.ok.hd hc) J U p.isList (by simp;omega) λh1 eb=>⟨rfl,I.turnedL (t':=s.toks) (fp:=[e,it]) (λb o nb q=>eb b o (λz=>nb (by simp[z])) q) t⟩
 self:=λ_ _ _ _ _ ⟨⟨_,J⟩,_⟩ h=>wpAny_pyIter_enum J h
def alz(K:Af)(ta:TA):TI:=λσ H R=>ta σ H λvs H1=>∃a,vs=[.ref a]/\(∃xs,aK K H1 a xs)/\R (Ite K a) H1
theorem pi:bootBuiltins "enumerate"=some (.type "enumerate"):=by decide +kernel
theorem aeh{a:Expr}{ta:TA}(T:Gl X "enumerate")(hm:X.mg "enumerate"=none)(ha:PA X [a] ta)(hs:starEach [a] X.env=[(false,eval a X.env)]:=by rfl):
 PI X (.Tuple oi x1 tp) (.Call (.Name "enumerate" p) [a] [] pos) (alz X.K ta):=by
 intro J s r H R I h;refine Call_ (az I T hm pi (BO (aI (ha pos J s r H _ I h) λus U ⟨vs,t,j,r1,q1⟩=>?_) hs rfl));obtain⟨l,e,⟨xs,hq⟩,q⟩:=q1;subst e;obtain⟨u,rfl,ru⟩:=i3 r1;cases ru;obtain⟨a1,rv,pl,hz⟩:=j.list hq;refine call_enumerate_list pl.isList λh1 C hi a2 hk=>?_;have I2:z9 X J r t { U with heap:=h1 }:=j.kept (t':=U.toks) hk;refine wpAny_pyIter_enum (s:={ U with heap:=h1 }) C ?_;refine⟨U.heap.objs.size+1,[U.heap.objs.size+1,U.heap.objs.size],_,_,t,rfl,I2,yt l _ _ (Nat.succ_ne_self _),⟨⟨_,C⟩,hi⟩,λb o=>?_,q⟩;have g:U.heap.objs.size<=b:=by rcases Ap.mp o with rfl|o;exact BZ _;cases Ai.mp o;exact Al _
 exact j.fpOk g (j.hok.fresh g)
end L2
namespace L3
open PySem L2
theorem io{keep:qm->Prop}(h:∀H L,j8 H₀ H->zy G H L->keep L->∃xs,aK G.K H a xs/\x6 G H ys xs):dc G H₀ (Ite G.K a) (ys.zipIdx.map λp=>Y.tup [.int (p.2:Nat),p.1]) keep where
 go:=λi H L t J U C=>by
  obtain⟨xs,sq,r⟩:=h H L t J U;have:i<xs.length:=by rw[<-r.length];simpa using C
  exact⟨xs,xs[i],sq,Ae this⟩
 yld:=λi H L x H' y t J U o ⟨p,z,g,I,T,f⟩=>by subst I T;obtain⟨xs,sq,r⟩:=h H L t J U;rw[An,C2] at o;obtain⟨⟨y',j⟩,ey,e3⟩:=Am.mp o;obtain⟨a1,l,e4⟩:=Am.mp ey;cases e4;subst e3;obtain⟨x',e',rv⟩:=r.get l;have:=f xs sq;rw[e'] at this;cases this;refine⟨DW g,J.skip g,p,_,rfl,cD.of zp,⟨_,_,rfl,?_,_,_,rfl,rv.ts (DW g),rfl⟩⟩;show V.int _=V.int _;congr 1;simp
 stop:=λH L t J U=>by obtain⟨xs,sq,r⟩:=h H L t J U;exact⟨xs,sq,by rw[Ab,List.length_zipIdx,r.length];exact Al _⟩
def oJ(ys:List Y):List Y:=ys.zipIdx.map λp=>Y.tup [.int (p.2:Nat),p.1]
theorem bQ(h:(oJ ys)[i]?=some y):∃z,ys[i]?=some z/\y=.tup [.int i,z]:=by unfold oJ at h;rw[An,C2] at h;obtain⟨⟨U,j⟩,g,l⟩:=Am.mp h;obtain⟨o,J,p⟩:=Am.mp g;cases p;exact⟨U,J,by rw[<-l];simp⟩
theorem bU(ys:List Y):(oJ ys).length=ys.length:=by simp[oJ]
def dm(tl:xj)(τ:jq)(L:qm)(R:List Y->(qm->Prop)->qm->Prop):Prop:=tl τ L λx L1=>match x with
 |.ref a=>oZ L1 a λys keep L=>R (oJ ys) keep L
 |.sq ys=>R (oJ ys) (λ_=>True) L1
 |_=>False
theorem eU{a:Expr}(hg:Gl X "enumerate")(hm:X.mg "enumerate"=none)(ha:QE X a te)(hs:starEach [a] X.env=[(false,eval a X.env)]:=by rfl)
 (l:starEach [a] X.env=(false,eval a X.env)::starEach [] X.env:=by rfl):QI X (.Tuple oi x1 tp) (.Call (.Name "enumerate" p) [a] [] pos) (dm te):=PI.imq (aeh hg hm (ck ha iF l) hs) λσ H R τ L R3 rs o z k=>by
 refine⟨τ,L,_,rs,o,z,λv j y C T J g I=>?_⟩;cases y with
 |ref a=>
  obtain⟨ys,keep,es,kp,hk,z2⟩:=lO I;have hy:∀H L,j8 j H->zy X.g3 H L->keep L->∃U,aK X.K H a U/\x6 X.g3 H ys U:=λH L _ o e=>bx o (hk L e);obtain⟨U,sq,_⟩:=hy j C (DV _) J kp;cases g;exact⟨a,rfl,⟨U,sq⟩,k _ j _ _ C T J (io hy) z2⟩
 |sq ys=>
  obtain⟨a,U,e,sf,r⟩:=g;subst e;exact⟨a,rfl,⟨U,sf.sq⟩,k _ j _ (λ_=>True) C T J (io λH L t _ _=>⟨U,(sf.ts t).sq,r.ts t⟩) I⟩
 |_=>exact I.elim
end L3
namespace L2
open PySem PySem.Spec PyProof.Rows
def dC(t:Bool)(h:Heap)(it l:Addr)(k:Nat):Prop:=match t with
 |false=>h.IsListIter it l k
 |true=>h.IsTupleIter it l k
def gj(t:Bool)(h:Heap)(l:Addr)(xs:Array Value):Prop:=match t with
 |false=>h.IsList l xs
 |true=>h.IsTuple l xs
theorem dC.on{k:Nat}(x:dC t h it l k)(e:∀o,h.get? it=some o->h'.get? it=some o):dC t h' it l k:=by cases t with|false=>exact Heap.IsListIter.at x e|true=>exact Heap.IsTupleIter.at x e
theorem gj.on{xs:Array Value}(x:gj t h l xs)(e:∀o,h.get? l=some o->h'.get? l=some o):gj t h' l xs:=by cases t with|false=>exact Heap.IsList.at x e|true=>exact Heap.IsTuple.at x e
theorem dC.ob{k:Nat}(x:dC t h it l k):∃o,h.get? it=some o/\∀v,o.data≠.cell v:=by
 cases t with
 |false=>obtain⟨o,e,c,d⟩:=x;exact⟨o,e,λv z=>by rw[d] at z;cases z⟩
 |true=>obtain⟨o,e,c,d⟩:=x;exact⟨o,e,λv z=>by rw[d] at z;cases z⟩
theorem vF(l:Addr):¬((Value.ref l==Value.none)=true):=AA
section
variable {w:World}
theorem uH{xs:Array Value}{x:Value}(hi:s.heap.IsTupleIter it l i)(g:s.heap.IsTuple l xs)(j:xs[i]?=some x)
 (q:∀h',h'.IsTupleIter it l (i+1)->Heap.SameBut it s.heap h'->Q x { s with heap:=h' }):wpAny (model prog w) A (Builtin.SmallTypes.nextOf (.ref it)) Q E s:=by
 obtain⟨o,U,ci,J⟩:=id hi;obtain⟨u,ul,_,n,dl⟩:=g;unfold Builtin.SmallTypes.nextOf;refine Aa (wpAny_callSpecial?_slot (name:="__next__") hi.typeIs Eg (wpAny_call_entry Eg hi.typeIs F.entry_tuple_iterator_next ?_ (F.args_tuple_iterator_next_1 _)));refine Aa (m:=field (.ref it) 0) (AN U J (x:=.ref l) rfl ?_);rw[AE (vF l)];refine Aa (m:=field (.ref it) 1) (AN U J (x:=.int i 0) rfl (Aa (m:=seqItems? (.ref l)) (Bc ul dl ?_)));simp only[AY,j];refine Aa (wpAny_setField U J (by simp) (Ag ⟨x,rfl,Ag (q _ ⟨_,DT _ U (Obj.isFreed_of_fields (Obj.data_mapFields J _)),(Obj.cls_mapFields ..).trans ci,?_⟩ (Db ..))⟩));rw[Obj.data_mapFields J];simp[rawInt]
theorem xA{xs:Array Value}(g:A.handled=none)(hi:s.heap.IsTupleIter it l i)(j:s.heap.IsTuple l xs)(p:xs[i]?=none)
 (q:∀h' e,Heap.ExtBut it s.heap h'->(∃o,h'.get? e=some o/\o.cls=.type "StopIteration")->E (.ref e) { s with heap:=h' }):wpAny (model prog w) A (Builtin.SmallTypes.nextOf (.ref it)) Q E s:=by
 obtain⟨o,J,ci,U⟩:=id hi;obtain⟨u,ul,_,n,dl⟩:=j;unfold Builtin.SmallTypes.nextOf;refine Aa (wpAny_callSpecial?_slot (name:="__next__") hi.typeIs Eg (wpAny_call_entry Eg hi.typeIs F.entry_tuple_iterator_next ?_ (F.args_tuple_iterator_next_1 _)));refine Aa (m:=field (.ref it) 0) (AN J U (x:=.ref l) rfl ?_);rw[AE (vF l)];refine Aa (m:=field (.ref it) 1) (AN J U (x:=.int i 0) rfl (Aa (m:=seqItems? (.ref l)) (Bc ul dl ?_)));simp only[AY,p];refine Aa (BC (Aa (wpAny_setField J U (by simp) ?_)));refine Aa (m:=newExc (.type "StopIteration") []) ?_;simp only[newExc,newTuple];refine Aa (Bf (Aa (m:=firstArgMember _ _) (wpAny_of_eq (a:=Value.none) (by first|rfl|(simp only[firstArgMember];rfl)) (Bf ?_ (by size_fits)))) (by size_fits));simp only[raiseNew];refine Aa (wpAny_handled ?_)
 first|rw[show A.in1.handled=none from g]|rw[g]
 exact Aa (Ag (wpAny_throw (q _ _ (((Db ..).extBut.push _).push _) ⟨_,y1 _ rfl,rfl⟩)))
theorem dC.next{xs:Array Value}{x:Value}(hi:dC t s.heap it l i)(J:gj t s.heap l xs)(U:xs[i]?=some x)
 (q:∀h',dC t h' it l (i+1)->Heap.SameBut it s.heap h'->Q x { s with heap:=h' }):wpAny (model prog w) A (Builtin.SmallTypes.nextOf (.ref it)) Q E s:=by
 cases t with|false=>exact wpAny_nextOf_list_item hi J U q|true=>exact uH hi J U q
theorem dC.stop{xs:Array Value}(J:A.handled=none)(hi:dC t s.heap it l i)(U:gj t s.heap l xs)(g:xs[i]?=none)
 (q:∀h' e,Heap.ExtBut it s.heap h'->(∃o,h'.get? e=some o/\o.cls=.type "StopIteration")->E (.ref e) { s with heap:=h' }):wpAny (model prog w) A (Builtin.SmallTypes.nextOf (.ref it)) Q E s:=by
 cases t with|false=>exact wpAny_nextOf_list_end J hi U g q|true=>exact xA J hi U g q
structure ZAp(z TI TO i1 i2 l1 l2:Addr):Prop where
 n1:TI≠z
 n2:TO≠z
 n3:i1≠z
 n4:i2≠z
 n5:TO≠i1
 n6:TO≠i2
 n7:i1≠i2
 n8:l1≠z
 n9:l1≠TO
 n10:l1≠i1
 n11:l1≠i2
 n12:l2≠z
 n13:l2≠TO
 n14:l2≠i1
 n15:l2≠i2
theorem abz{TI TO:Addr}{k:Nat}{xs ys:Array Value}{x y a b:Value}(D:ZAp z TI TO i1 i2 l1 l2)(hz:IsZip s.heap z TI TO .none)(hI:IsPair s.heap TI (.ref i1) (.ref i2))(hO:IsPair s.heap TO a b)
 (h1:dC t1 s.heap i1 l1 k) (h2:dC t2 s.heap i2 l2 k) (q1:gj t1 s.heap l1 xs) (q2:gj t2 s.heap l2 ys) (hx:xs[k]?=some x) (hy:ys[k]?=some y)
 (q:∀h',IsZip h' z TI TO (rawInt s.heap.objs.size)->IsPair h' TO x y->dC t1 h' i1 l1 (k+1)->dC t2 h' i2 l2 (k+1)->IsPair h' s.heap.objs.size x y->
  (∀c o,c≠z->c≠TO->c≠i1->c≠i2->s.heap.get? c=some o->h'.get? c=some o)->Q (.ref s.heap.objs.size) { s with heap:=h' }):
 wpAny (model prog w) A (Builtin.«zip.__next__» ⟨[.ref z],[]⟩) (λjs s'=>∃v,js=.done (.ret v)/\Q v s') E s:=by
 refine Aa (m:=field (.ref z) 2) (AN hz rfl (x:=.bool false) rfl (Aa (m:=field (.ref z) 3) (AN hz rfl (x:=.ref TI) rfl (Aa (Bc hI rfl ?_)))));refine Aa (m:=Builtin.SmallTypes.ownedTupleIsFree (.ref z)) ?_;unfold Builtin.SmallTypes.ownedTupleIsFree;refine Aa (AN hz rfl (x:=.none) rfl (Ag ?_));simp only[if_true];refine Aa (BC (Aa (AN hz rfl (x:=.ref TO) rfl (Aa (wpAny_setField_rec hz (by simp) λg1 z1 U=>?_)))));have a5:IsZip g1 z TI TO .ellipsis:=z1;refine Aa ?_;simp only[List.zipIdx_cons,List.zipIdx_nil,BW,CP];refine Aa (Aa (wpAny_onRaise (Aa (m:=Builtin.SmallTypes.nextOf (.ref i1)) ((h1.on λo e=>U.extBut _ _ D.n3 e).next (q1.on λo e=>U.extBut _ _ D.n8 e) hx λg2 ag j=>Ag ?_))));have O2:IsPair g2 TO a b:=j.extBut _ _ D.n5 (U.extBut _ _ D.n2 hO);refine Aa (Bc O2 rfl (Aa (wpAny_updateSeq_pair O2 λg3 O3 p=>Aa (wpAny_letGo (Ag ?_)))));have al:IsPair g3 TO x b:=O3;refine Aa (Aa (wpAny_onRaise (Aa (m:=Builtin.SmallTypes.nextOf (.ref i2)) (dC.next (l:=l2) (i:=k) (xs:=ys) (x:=y) (t:=t2) (h2.on λo e=>p.extBut _ _ (AB D.n6) (j.extBut _ _ (AB D.n7) (U.extBut _ _ D.n4 e)))
  (q2.on λo e=>p.extBut _ _ D.n13 (j.extBut _ _ D.n14 (U.extBut _ _ D.n12 e))) hy λg4 au r=>Ag ?_))))
 have O4:IsPair g4 TO x b:=r.extBut _ _ D.n6 al;refine Aa (Bc O4 rfl (Aa (wpAny_updateSeq_pair O4 λJ O5 C=>Aa (wpAny_letGo (Ag (Ag ?_))))));have I:IsPair J TO x y:=O5;refine Aa (Bc I rfl (Aa (wpAny_newTuple ?_)));have sz:J.objs.size=s.heap.objs.size:=by rw[C.1,r.1,p.1,j.1,U.1]
 have z5:IsZip J z TI TO .ellipsis:=C.extBut _ _ (AB D.n2) (r.extBut _ _ (AB D.n4) (p.extBut _ _ (AB D.n2) (j.extBut _ _ (AB D.n3) a5)));have k5:∀c o,c≠z->c≠TO->c≠i1->c≠i2->s.heap.get? c=some o->J.get? c=some o:=λc o g T a3 a4 e=>C.extBut _ _ T (r.extBut _ _ a4 (p.extBut _ _ T (j.extBut _ _ a3 (U.extBut _ _ g e))));have zl:z<J.objs.size:=ya z5;refine Aa (m:=Builtin.SmallTypes.ownedTupleHandOut (.ref z) (.ref J.objs.size)) ?_;unfold Builtin.SmallTypes.ownedTupleHandOut;refine Aa (wpAny_setField_rec (show IsZip (J.push { cls:=.type "tuple",data:=.seq #[x,y] }) z TI TO .ellipsis from xT _ z5) (by simp) λg7 z7 e7=>?_);have av:IsZip g7 z TI TO (rawInt J.objs.size):=z7;refine wpAny_setField_rec av (by simp) λg8 z8 e8=>Ag ⟨_,rfl,?_⟩;have aL:IsZip g8 z TI TO (rawInt J.objs.size):=z8;have up:∀c o,c≠z->J.get? c=some o->g8.get? c=some o:=λc o g e=>e8.extBut _ _ g (e7.extBut _ _ g (xT _ e));have T8:IsPair g8 J.objs.size x y:=e8.extBut _ _ (Cs zl) (e7.extBut _ _ (Cs zl) (y1 _ rfl));have js:=q g8 (by rw[<-sz];exact aL) (up _ _ D.n2 I) (ag.on λo e=>up _ o D.n3 (C.extBut _ _ (AB D.n5) (r.extBut _ _ D.n7 (p.extBut _ _ (AB D.n5) e)))) (au.on λo e=>up _ o D.n4 (C.extBut _ _ (AB D.n6) e))
  (by rw[<-sz];exact T8) λc o g T a3 a4 e=>up c o g (k5 c o g T a3 a4 e)
 show Q (.ref J.objs.size) _;rw[sz];exact js
theorem aaf{TI TO:Addr}{k:Nat}{xs ys:Array Value}{a b:Value}{Q:Fin->Shared->Prop}(hh:A.handled=none)(D:ZAp z TI TO i1 i2 l1 l2)(hz:IsZip s.heap z TI TO .none)(hI:IsPair s.heap TI (.ref i1) (.ref i2))(hO:IsPair s.heap TO a b)
 (h1:dC t1 s.heap i1 l1 k) (h2:dC t2 s.heap i2 l2 k) (q1:gj t1 s.heap l1 xs) (q2:gj t2 s.heap l2 ys) (U:xs[k]?=none\/ys[k]?=none)
 (q:∀h' e,(∀c o,c≠z->c≠TO->c≠i1->c≠i2->s.heap.get? c=some o->h'.get? c=some o)->(∃o,h'.get? e=some o/\o.cls=.type "StopIteration")->E (.ref e) { s with heap:=h' }):
 wpAny (model prog w) A (Builtin.«zip.__next__» ⟨[.ref z],[]⟩) Q E s:=by
 refine Aa (m:=field (.ref z) 2) (AN hz rfl (x:=.bool false) rfl (Aa (m:=field (.ref z) 3) (AN hz rfl (x:=.ref TI) rfl (Aa (Bc hI rfl ?_)))));refine Aa (m:=Builtin.SmallTypes.ownedTupleIsFree (.ref z)) ?_;unfold Builtin.SmallTypes.ownedTupleIsFree;refine Aa (AN hz rfl (x:=.none) rfl (Ag ?_));simp only[if_true];refine Aa (BC (Aa (AN hz rfl (x:=.ref TO) rfl (Aa (wpAny_setField_rec hz (by simp) λg1 z1 J=>?_)))));have g:IsZip g1 z TI TO .ellipsis:=z1;refine Aa ?_;simp only[List.zipIdx_cons,List.zipIdx_nil,BW,CP];refine Aa (Aa (wpAny_onRaise (Aa (m:=Builtin.SmallTypes.nextOf (.ref i1)) ?_)));have j:=h1.on λo e=>J.extBut _ _ D.n3 e;have p:=q1.on λo e=>J.extBut _ _ D.n8 e;cases T:xs[k]? with
 |none=>
  refine dC.stop hh j p T λg2 e s2 he=>?_;obtain⟨oe,ge,ce⟩:=he;have z2:IsZip g2 z TI TO .ellipsis:=s2 _ _ (AB D.n3) g;have nz:e≠z:=λw=>by subst w;rw[z2] at ge;cases ge;simp at ce
  exact wpAny_setField_rec z2 (by simp) λg3 _ s3=>q g3 e (λc o r _ a3 _ w=>s3.extBut _ _ r (s2 _ _ a3 (J.extBut _ _ r w))) ⟨oe,s3.extBut _ _ nz ge,ce⟩
 |some x=>
  have hy:ys[k]?=none:=by rcases U with h|h;rw[T] at h;cases h;exact h
  refine dC.next j p T λg2 a5 C=>Ag ?_;have O2:IsPair g2 TO a b:=C.extBut _ _ D.n5 (J.extBut _ _ D.n2 hO);refine Aa (Bc O2 rfl (Aa (wpAny_updateSeq_pair O2 λg3 O3 I=>Aa (wpAny_letGo (Ag ?_)))));refine Aa (Aa (wpAny_onRaise (Aa (m:=Builtin.SmallTypes.nextOf (.ref i2)) (dC.stop (t:=t2) (l:=l2) (i:=k) (xs:=ys) hh (h2.on λo e=>I.extBut _ _ (AB D.n6) (C.extBut _ _ (AB D.n7) (J.extBut _ _ D.n4 e)))
   (q2.on λo e=>I.extBut _ _ D.n13 (C.extBut _ _ D.n14 (J.extBut _ _ D.n12 e))) hy λg4 e s4 he=>?_))))
  obtain⟨oe,ge,ce⟩:=he;have z4:IsZip g4 z TI TO .ellipsis:=s4 _ _ (AB D.n4) (I.extBut _ _ (AB D.n2) (C.extBut _ _ (AB D.n3) g));have nz:e≠z:=λw=>by subst w;rw[z4] at ge;cases ge;simp at ce
  exact wpAny_setField_rec z4 (by simp) λg5 _ s5=>q g5 e (λc o r a2 a3 a4 w=>s5.extBut _ _ r (s4 _ _ a4 (I.extBut _ _ a2 (C.extBut _ _ a3 (J.extBut _ _ r w))))) ⟨oe,s5.extBut _ _ nz ge,ce⟩
end
def abb(t:Bool):String:=if t then "tuple_iterator" else "list_iterator"
section
variable {w:World}
theorem gj.iter{xs:Array Value}(J:gj t s.heap l xs)(q:Q (.ref s.heap.objs.size) { s with heap:=s.heap.push { cls:=.type (abb t),data:=.fields #[.ref l,.int 0 0] } }):wpAny (model prog w) A (pyIter (.ref l)) Q E s:=by cases t with|false=>exact wpAny_pyIter_list J q|true=>exact wpAny_pyIter_tuple J q
end
theorem dC.new(e:h.get? it=some { cls:=.type (abb t),data:=.fields #[.ref l,.int 0 0] }):dC t h it l 0:=by cases t with|false=>exact⟨_,e,rfl,rfl⟩|true=>exact⟨_,e,rfl,rfl⟩
abbrev zh1(t1:Bool)(h:Heap)(l1:Addr):Heap:=h.push { cls:=.type (abb t1),data:=.fields #[.ref l1,.int 0 0] }
abbrev zh2(t1 t2:Bool)(h:Heap)(l1 l2:Addr):Heap:=(zh1 t1 h l1).push { cls:=.type (abb t2),data:=.fields #[.ref l2,.int 0 0] }
abbrev zh3(t1 t2:Bool)(h:Heap)(l1 l2:Addr):Heap:=(zh2 t1 t2 h l1 l2).push { cls:=.type "tuple",data:=.seq #[.ref h.objs.size,.ref (zh1 t1 h l1).objs.size] }
abbrev zh4(t1 t2:Bool)(h:Heap)(l1 l2:Addr):Heap:=(zh3 t1 t2 h l1 l2).push { cls:=.type "tuple",data:=.seq #[.none,.none] }
abbrev zh5(t1 t2:Bool)(h:Heap)(l1 l2:Addr):Heap:=(zh4 t1 t2 h l1 l2).push { cls:=.type "zip",data:=.fields #[.none,.bool false,.bool false,.ref (zh2 t1 t2 h l1 l2).objs.size,.ref (zh3 t1 t2 h l1 l2).objs.size] }
theorem t9(t1 t2:Bool)(l1 l2:Addr)(xs ys:Array Value):Meets (Builtin.«zip.__new__» ⟨[.type "zip",.ref l1,.ref l2],[]⟩) (λ_ R s=>gj t1 s.heap l1 xs/\gj t2 s.heap l2 ys/\R (.ok (.ret (.ref (zh4 t1 t2 s.heap l1 l2).objs.size))) { s with heap:=zh5 t1 t2 s.heap l1 l2 }):=
 .of_wp λJ w A R s h=>by
  obtain⟨U,g,d,tk,os⟩:=s;obtain⟨l,p,h⟩:=h;have j:=sub_zip;have r:gj t1 (Shared.heap ⟨U,g,d,tk,os⟩) l1 xs:=l;have t:gj t2 (Shared.heap ⟨U.push { cls:=.type (abb t1),data:=.fields #[.ref l1,.int 0 0] },g,d,tk,os⟩) l2 ys:=p.on λo e=>xT _ e
  wp_walk using gj.iter r,gj.iter t
  exact⟨_,rfl,h⟩
theorem xI{w:World}{xs ys:Array Value}(r:gj t1 s.heap l1 xs)(t:gj t2 s.heap l2 ys)
 (q:∀h',IsZip h' (s.heap.objs.size+4) (s.heap.objs.size+2) (s.heap.objs.size+3) .none->IsPair h' (s.heap.objs.size+2) (.ref s.heap.objs.size) (.ref (s.heap.objs.size+1))->IsPair h' (s.heap.objs.size+3) .none .none->
  dC t1 h' s.heap.objs.size l1 0->dC t2 h' (s.heap.objs.size+1) l2 0->(∀c o,s.heap.get? c=some o->h'.get? c=some o)->Q (.ref (s.heap.objs.size+4)) { s with heap:=h' }):
 wpAny (model prog w) A (call (.type "zip") [.ref l1,.ref l2]) Q E s:=by
 refine callType_new F.called_zip (by decide) (F.typeCall_zip_2 _ _) (F.newCall_zip_2 _ _) (λobj=>F.args_object_init_3 obj _ _) F.entry_zip_new (t9 t1 t2 l1 l2 xs ys) ⟨r,t,?_⟩;have J:(zh1 t1 s.heap l1).objs.size=s.heap.objs.size+1:=Em ..;have U:(zh2 t1 t2 s.heap l1 l2).objs.size=s.heap.objs.size+2:=by rw[Em,J]
 have g:(zh3 t1 t2 s.heap l1 l2).objs.size=s.heap.objs.size+3:=by rw[Em,U]
 have l:(zh4 t1 t2 s.heap l1 l2).objs.size=s.heap.objs.size+4:=by rw[Em,g]
 have j:(zh5 t1 t2 s.heap l1 l2).get? (zh4 t1 t2 s.heap l1 l2).objs.size=some _:=y1 _ rfl;have p:(zh5 t1 t2 s.heap l1 l2).get? (zh3 t1 t2 s.heap l1 l2).objs.size=some _:=xT _ (y1 _ rfl);have g3:(zh5 t1 t2 s.heap l1 l2).get? (zh2 t1 t2 s.heap l1 l2).objs.size=some _:=xT _ (xT _ (y1 _ rfl));have g2:(zh5 t1 t2 s.heap l1 l2).get? (zh1 t1 s.heap l1).objs.size=some _:=xT _ (xT _ (xT _ (y1 _ rfl)));have g1:(zh5 t1 t2 s.heap l1 l2).get? s.heap.objs.size=some _:=xT _ (xT _ (xT _ (xT _ (y1 _ rfl))));show _/\_;rw[U,g,l] at j;rw[J,U] at g3;rw[g] at p;rw[J] at g2;rw[l];exact⟨⟨_,j,rfl⟩,q _ j g3 p (dC.new g1) (dC.new g2) λc o e=>xT _ (xT _ (xT _ (xT _ (xT _ e))))⟩
def Sq(t:Bool)(K:Af)(H:Hp)(a:Addr)(xs:List V):Prop:=match t with
 |false=>aK K H a xs
 |true=>cD K H a xs
section
variable {σ:L2.St}
theorem z9.seq(I:z9 X pins σ H s)(h:Sq t X.K H a xs):∃eH:List Value,zo xs eH/\gj t s.heap a eH.toArray/\xs.length<=sizeLine:=by
 cases t with
 |false=>obtain⟨eH,v,p,z⟩:=I.list h;exact⟨eH,v,p.isList,z⟩
 |true=>obtain⟨eH,v,p,z⟩:=I.tuple h;exact⟨eH,v,p,z⟩
end
theorem aja:bootBuiltins "zip"=some (.type "zip"):=by decide +kernel
end L2
namespace L3
open PySem L2
theorem ab4(J:zy G H L)(r:RV G H y v)(h:bZ L y=some ys):∃t p xs,v=.ref p/\Sq t G.K H p xs/\x6 G H ys xs:=by
 obtain⟨p,xs,e,s,q⟩:=lY J r h;rcases s with s|s
 ·exact⟨false,p,xs,e,s,q⟩
 ·exact⟨true,p,xs,e,s,q⟩
def lC(xs ys:List Y):List Y:=List.zipWith (λa b=>Y.tup [a,b]) xs ys
theorem aed{xs:List Y}(h:(lC xs ys)[i]?=some y):∃a b,xs[i]?=some a/\ys[i]?=some b/\y=.tup [a,b]:=by
 unfold lC at h;rw[List.getElem?_zipWith] at h;cases J:xs[i]? with
 |none=>rw[J] at h;simp at h
 |some a=>
  cases U:ys[i]? with|none=>rw[J,U] at h;simp at h|some b=>rw[J,U] at h;simp at h;exact⟨a,b,rfl,rfl,h.symm⟩
theorem aax(xs ys:List Y):(lC xs ys).length=min xs.length ys.length:=by simp[lC]
def wx(xs:List Y)(L:qm)(Q:YK):Prop:=match xs with
 |[x]=>dU L x λys=>∀p,L p=none->Q (.ref p) (qf L p (.lst ys))
 |_=>False
theorem aG :x4 X (.type "list") (upL X.g3 wx):=x4.imq pI λC H Q I L T g J z k=>by
 unfold wx at z;split at z
 ·rename_i x;obtain⟨u,rfl,j⟩:=g.inv1;obtain⟨zs,o,z⟩:=kh z;obtain⟨p,t,e,sq,r⟩:=lY J j o;subst e;exact⟨p,t,rfl,sq,λl U=>k _ _ _ _ (DW U) (J.newL U r) (by rfl) (z l (J.none U))⟩
 ·exact z.elim
theorem w9{T:String}{tr:dE}{r:List Y->qm->YK->Prop}(hc:x4 X (.type T) (upL X.g3 r))(g:Gl X x)(j:X.mg x=none)(l:bootBuiltins x=some (.type T))(h:QA X (e::es) tr)
 (o:x ≠ "__name__" := by decide) (hd:Ed x:=by decide) (hs:Eb e es X:=by rfl) (t:Ec pos es X:=by rfl):
 QE X (.Call (.Name x p) (e::es) [] pos) (iT r tr):=DX (iA hc g j l h o hd hs t) λσ H Q C L I rs rl z k=>
 ⟨C,L,_,rs,rl,z,λvs H1 ys L1 t1 J U z1=>⟨ys,L1,I,U,J,z1,k.ts t1⟩⟩
def cR(x:Y)(vs:List Y)(L:qm)(Q:YK):Prop:=match x,vs with
 |.ref a,[.int i]=>cU L a λys=>0<=i/\i<ys.length/\tJ L (λv L=>Q v (qf L a (.lst (ys.eraseIdx i.toNat)))) (ys[i.toNat]?)
 |_,_=>False
theorem agh :fZ X "list.pop" (upM X.g3 cR):=λJ s l H x xs v o Q I p t ⟨y,ys,L,Q3,C,T,j,z,k⟩=>by
 unfold cR at z;split at z
 ·rename_i a i;obtain⟨zs,e,h0,h1,z⟩:=xn z;obtain⟨ws,U,r⟩:=j a _ e;obtain⟨i',rfl,ri⟩:=T.inv1;cases ri;cases g:zs[i.toNat]? with
  |none=>rw[g] at z;exact z.elim
  |some w=>
   rw[g] at z;obtain⟨u,eu,ru⟩:=r.get g;obtain⟨_,_,_,hz⟩:=I.list (aK.of U);have hl:=r.length;have hs:sizeLine<2 ^ 62:=by decide
   refine aah J s l H x _ v o Q I p t ⟨a,ws,i,i.toNat,u,C,rfl,U,by lia,by lia,?_,eu,k _ _ _ _ (EF U) (j.setL U (r.eraseIdx _)) (ru.ts (EF U)) z⟩;unfold seqIndex?;rw[AE (show ¬i<0 by lia),AD (by simp;lia)]
 ·exact z.elim
theorem bz{tr:dE}(J:QE X o to)(U:QA X (e::es) tr)(g:attributeBase o "pop" X.env (eval o X.env)=eval o X.env:=by rfl)
 (j:((backTo fm (starEach (e::es) X.env)).all (λx=>!x.1)&&(backToKw fm (keywordEach [] X.env)).all (λx=>x.1.isSome)&&decide ((e::es).length+([]:List Keyword).length+(if ([]:List Keyword).isEmpty=true then 0 else 1)<30))=true:=by rfl)
 (l:(apos.endLine==fm.line)=true:=by rfl) (p:Eb e es X:=by rfl) (r:Ec fm es X:=by rfl):
 QE X (.Call (.Attribute o "pop" apos) (e::es) [] fm) (wu cR to tr):=qI PySem.F.slot_list_pop PySem.F.type_list_pop agh J U g j l p r
end L3
namespace L2
open PySem PySem.Spec PyProof.Rows
theorem vA(i:Int)(n d:Nat):max 0 (min (if i<0 then i+(n:Int) else i) n)=((HT.sIx n d (some i):Nat):Int):=by
 simp only[HT.sIx];by_cases h:i<0
 ·simp only[h,if_true]<;>lia
 ·simp only[h,if_false]<;>lia
theorem xQ(l u:Option Int)(n:Nat):Builtin.Str.strSliceIndices l u 1 n=(List.range (HT.sIx n n u-HT.sIx n 0 l)).map (HT.sIx n 0 l+·):=by
 have z:(0:Int)=((HT.sIx n 0 none:Nat):Int):=rfl;have y:(n:Int)=((HT.sIx n n none:Nat):Int):=rfl;unfold Builtin.Str.strSliceIndices;cases l with
 |none=>
  cases u with
  |none=>exact sliceRange_one 0 n
  |some j=>
   show sliceRange 0 (max 0 (min (if j<0 then j+(n:Int) else j) n)) 1=_;rw[vA j n n];exact sliceRange_one 0 _
 |some i=>
  cases u with
  |none=>
   show sliceRange (max 0 (min (if i<0 then i+(n:Int) else i) n)) n 1=_;rw[vA i n 0];exact sliceRange_one _ n
  |some j=>
   show sliceRange (max 0 (min (if i<0 then i+(n:Int) else i) n)) (max 0 (min (if j<0 then j+(n:Int) else j) n)) 1=_;rw[vA i n 0,vA j n n];exact sliceRange_one _ _
theorem oK(x:Str)(l u:Option Int):(Txt.slice x l u).cps.toList=(x.cps.toList.drop (HT.sIx x.length 0 l)).take (HT.sIx x.length x.length u-HT.sIx x.length 0 l):=by
 have g:x.length=x.cps.toList.length:=by simp[Str.length]
 have J:=pick_run x.cps (HT.sIx x.length 0 l) (HT.sIx x.length x.length u-HT.sIx x.length 0 l);unfold Txt.slice;rw[xQ];split
 ·rename_i h;simp only[beq_self_eq_true,Bool.true_and,Ab,Bw,beq_iff_eq] at h;have h1:=HT.sIx_le x.length 0 (Bi _) l;have h2:=HT.sIx_le x.length x.length (Al _) u;have U:HT.sIx x.length 0 l=0:=by lia
  rw[h,U,CO,A5 (by exact yK)]
 ·show(List.filterMap (λi=>x.cps[i]?) _).toArray.toList=_;rw[List.toList_toArray];exact J
def ap4:V->Option Int->Option Int->Hp->VK->Prop:=λx lo hi H Q=>∃z,x=.str z/\z.length<=sizeLine/\Q (.str (Txt.slice z lo hi)) H
theorem akl:qN X ap4:=by
 intro J s σ H x v U g lo j sl Q I o p pl r h;obtain⟨z,rfl,C,q⟩:=h;obtain⟨t,rfl⟩:=o;obtain⟨l,rfl,T⟩:∃l:Option (Int×Tok),U=partValue l/\l.map (·.1)=lo:=by cases pl with|none=>exact⟨none,rfl,rfl⟩|int i t=>exact⟨some (i,t),rfl,rfl⟩
 obtain⟨u,rfl,hu⟩:∃u:Option (Int×Tok),g=partValue u/\u.map (·.1)=j:=by cases r with|none=>exact⟨none,rfl,rfl⟩|int i t=>exact⟨some (i,t),rfl,rfl⟩
 subst T hu;refine⟨"str",_,F.slot_str_getitem.lookup,typeIs_str _ _ _,x0 I.tk (wpAny_getItem_str_slice (l:=l) (u:=u) (st:=none) p rfl ?_)⟩;exact post_val_or_str ⟨AQ (Txt.slice_le z _ _) C,λt' k ht=>⟨.str _,H,I.tok _,⟨t',rfl⟩,q⟩⟩
theorem u6{zs:List Str}:∀{us:List Value},zo (zs.map V.str) us->StrsAre us zs:=by
 induction zs with
 |nil=>intro us r;rw[CM] at r;cases r;exact .nil
 |cons z zs J=>
  intro us r;rw[AO] at r;cases r with
  |cons U g=>
   obtain⟨t,e⟩:=U;subst e;exact .cons z t (J g)
def amc(K:Af):V->List V->Hp->VK->Prop:=λx vs H Q=>∃z a zs,x=.str z/\vs=[.ref a]/\aK K H a ((zs:List Str).map V.str)/\(zs.map (·.length)).sum+zs.length*z.length<=16777216/\Q (.str (Txt.join z zs)) H
theorem agk:fZ X "str.join" (amc X.K):=by intro J s σ H x vs v us Q I U g h;obtain⟨z,a,zs,rfl,rfl,j,l,q⟩:=h;obtain⟨t,rfl⟩:=U;obtain⟨u,rfl,o⟩:=g.one;cases o;obtain⟨C,r,p,_⟩:=I.list j;exact x0 I.tk (PyProof.Rows.join_list p.isList (by simpa using u6 r) l λT k ht=>⟨.str _,H,I.tok _,⟨T,rfl⟩,q⟩)
end L2
namespace L3
open PySem L2
def xE(x:Y)(lo hi:Option Int)(L:qm)(Q:YK):Prop:=match x with
 |.str z=>z.length<=sizeLine/\Q (.str (Txt.slice z lo hi)) L
 |x=>aoe x lo hi L Q
theorem sX(K:Af)(P:Program)(w:World)(g:X.K=K:=by rfl)(j:X.prog=P:=by rfl)(hw:X.w=w:=by rfl):qN X (agl ⟨K,P,w⟩ xE):=by refine qN.imp (akl.or (anc K P w g j hw)) λx lo o H Q ⟨y,L,l,J,U,z,k⟩=>?_;cases y with|str s=>exact .inl ⟨s,J,z.1,k _ H _ L (DV _) U (by rfl) z.2⟩|_=>exact .inr ⟨_,L,l,J,U,z,k⟩
def yBS(r:Y->List Y->qm->YK->Prop)(to:xj)(t:dE)(τ:jq)(L:qm)(Q:YK):Prop:=to τ L λx L1=>match x with
 |.str z=>t τ L1 λxs L2=>r (.str z) xs L2 Q
 |_=>False
theorem akr{tr:dE}{id:String}{r:Y->List Y->qm->YK->Prop}(h2:Slot "str" name id)(h3:typeOf (.builtin id)=pure (.type "method_descriptor"))(I:fZ X id (upM X.g3 r))(T:QE X o to)(ha:QA X (e::es) tr)
 (h4:attributeBase o name X.env (eval o X.env)=eval o X.env:=by rfl)
 (h5:((backTo fm (starEach (e::es) X.env)).all (λx=>!x.1)&&(backToKw fm (keywordEach [] X.env)).all (λx=>x.1.isSome)&&decide ((e::es).length+([]:List Keyword).length+(if ([]:List Keyword).isEmpty=true then 0 else 1)<30))=true:=by rfl)
 (h6:(apos.endLine==fm.line)=true:=by rfl) (h7:Eb e es X:=by rfl) (h8:Ec fm es X:=by rfl):
 QE X (.Call (.Attribute o name apos) (e::es) [] fm) (yBS r to tr):=DX (ahi PySem.F.plainAttrs_str h2 h3 I T ha h4 h5 h6 h7 h8) λσ H Q p L Q3 t rl z k=>
 ⟨p,L,_,t,rl,z,λv H1 y L1 C J U g=>by
  split at g
  ·rename_i s;cases U;exact⟨rfl,p,L1,_,t.ts C,J,g,λvs H2 ys L2 t2 j l z2=>⟨.str s,ys,L2,Q3,rfl,l,j,z2,k.ts (C.trans t2)⟩⟩
  ·exact g.elim⟩
theorem qU{G:G3}{H:Hp}:∀{zs:List Str} {xs:List V},x6 G H (zs.map Y.str) xs->xs=zs.map V.str
 |[],_,h=>h
 |z::r,_,⟨x,J,e,q,s⟩=>by rw[e,show x=V.str z from q,qU s];rfl
def vT(x:Y)(vs:List Y)(L:qm)(Q:YK):Prop:=match x,vs with
 |.str z,[.ref a]=>cU L a λys=>∃zs,ys=zs.map Y.str/\(zs.map (·.length)).sum+zs.length*z.length<=16777216/\Q (.str (Txt.join z zs)) L
 |_,_=>False
theorem ajb :fZ X "str.join" (upM X.g3 vT):=fZ.imq agk λx t H Q y C L I g j J z k=>by
 unfold vT at z;split at z
 ·rename_i s a;obtain⟨T,e,l,rfl,o,z⟩:=xn z;obtain⟨ws,U,r⟩:=J a _ e;obtain⟨u,rfl,p⟩:=j.inv1;cases p;rw[qU r] at U;exact⟨s,a,l,g,rfl,aK.of U,o,k _ H _ L (DV _) J (by rfl) z⟩
 ·exact z.elim
theorem agr{tr:dE}(J:QE X o to)(U:QA X (e::es) tr)(g:attributeBase o "join" X.env (eval o X.env)=eval o X.env:=by rfl)
 (j:((backTo fm (starEach (e::es) X.env)).all (λx=>!x.1)&&(backToKw fm (keywordEach [] X.env)).all (λx=>x.1.isSome)&&decide ((e::es).length+([]:List Keyword).length+(if ([]:List Keyword).isEmpty=true then 0 else 1)<30))=true:=by rfl)
 (l:(apos.endLine==fm.line)=true:=by rfl) (p:Eb e es X:=by rfl) (r:Ec fm es X:=by rfl):
 QE X (.Call (.Attribute o "join" apos) (e::es) [] fm) (yBS vT to tr):=akr PySem.F.slot_str_join PySem.F.type_str_join ajb J U g j l p r
theorem oo(zs:List Str):(Txt.join "" zs).cps.toList=zs.flatMap λz=>z.cps.toList:=by
 have e:∀zs:List Str,(Str.join "" zs).cps.toList=zs.flatMap λz=>z.cps.toList:=by
  intro zs
  induction zs with
  |nil=>rfl
  |cons z r J=>
   cases r with
   |nil=>simp[Str.join]
   |cons y r=>
    show(z ++ "" ++ Str.join "" (y::r)).cps.toList=_;have:(z ++ "" ++ Str.join "" (y::r)).cps=z.cps++#[]++(Str.join "" (y::r)).cps:=rfl;rw[this];simp only[C9,J,AR,Array.append_empty]
 exact(Bb (λx:Str=>x.cps.toList) (StrLaws.glued_eq_join "" zs)).trans (e zs)
def kF(t u:ke)(D:k6)(τ:jq)(L:qm):Prop:=∃J:jq->qm->Prop,t { D with nx:=J } τ L/\∀U L',J U L'->u D U L'
theorem ai{rest:List Stmt}{t u:ke}(h:QS X st t)(k:qF X rest u):qF X (st::rest) (kF t u):=gH.imp (qQ h k) λD σ H ⟨o,L,D3,p,r,⟨J,z,q⟩,k⟩=>
 ⟨o,L,{ D3 with nx:=J },p,r,z,λC H1 U l I g j T=>⟨U,l,D3,g,j,q U l T,k.ts I⟩,k.rt,k.bk,k.ct⟩
abbrev X3:=jq->Addr->qm->Prop
abbrev eW:=List Y->qm->YK->(Addr->qm->Prop)->Prop
def upX(G:G3)(E3:X3):X1:=λσ c H=>∃C τ L,c=.ref C/\vd G H σ τ/\zy G H L/\E3 τ C L
def an7(G:G3)(H:Hp)(E3:Addr->qm->Prop)(E:XK):Prop:=∀C H' L',j8 H H'->zy G H' L'->E3 C L'->E (.ref C) none H'
def dnX(G:G3)(sp:eW):Sp:=λvs H Q E=>∃ys L J E3,x6 G H ys vs/\zy G H L/\sp ys L J E3/\qK G H J Q/\an7 G H E3 E
def r9(E3:Addr->qm->Prop):X3:=λ_ C L=>∃L2,qg L2 L/\E3 C L2
abbrev aoh(P:Program)(w:World)(K:Af)(mg:Str->Option Value)(base:Heap)(k:Nat)(f:Addr)(fd:FuncData)(ps:List Str)(sp:eW):Prop:=ar P w K mg base (CXE P w) k f fd ps (dnX ⟨K,P,w⟩ sp)
structure gZ(P:Program)(w:World)(K:Af)(mg:Str->Option Value)(base:Heap)(k:Nat)(x:Str)(ps:List Str)(sp:eW):Prop where
 ex:∃f fd,aoh P w K mg base k f fd ps sp/\cz K fd ps []/\PySem.W.keepIn K (.ref f)=true/\mg x=some (.ref f)
theorem gZ.mono{P:Program}{w:World}{K:Af}{k:Nat}{sp:eW}(c:gZ P w K mg base j x ps sp)(h:j<=k):gZ P w K mg base k x ps sp:=by obtain⟨f,fd,F,b,J,m⟩:=c.ex;exact⟨f,fd,F.mono h,b,J,m⟩
theorem z9.tst{σ:L2.St}(I:z9 X pins σ H s):j8 X.H₀ H:=λa u i e=>by cases u with|tup J=>exact I.base.tups a J e|frz o u=>exact I.base.frzs a o u e|_=>cases i
theorem ak0{P:Program}{w:World}{K:Af}{N:List Str}{E:XK}{E3:Addr->qm->Prop}(h:an7 ⟨K,P,w⟩ H E3 E):
 bK (cZ (CXE P w) P w K mg base N eK scope f cd A outer s H E) (upX ⟨K,P,w⟩ (r9 E3)):=by
 intro J j g l a C tr I L ap U ⟨t,T,L',o,rs,p,L2,r,q⟩;cases o;exact acb J j g l a C tr I L ap U (h C g L2 (z9.tst I) (p.sub r) q)
def hY(sp:eW)(E3:X3)(t:dE)(τ:jq)(L:qm)(Q:YK):Prop:=t τ L λys L1=>sp ys L1 Q (E3 τ)
def tW(C:Addr)(E3:X3)(t:dE)(_:k6)(τ:jq)(L:qm):Prop:=t τ L λys L1=>ys.length<=1000/\E3 τ C L1
section
variable {tr:dE}{E3:X3}
theorem act{k:Nat}{sp:eW}(c:gZ X.prog X.w X.K X.mg X.base k x ps sp)(I:wb k X.A)(T:Gl X x)(ht:bK X (upX X.g3 E3))(hx:X.ex=[])(ha:QA X (e::es) tr)(J:Ed x:=by decide)
 (he:Eb e es X:=by rfl) (U:Ec pos es X:=by rfl):QE X (.Call (.Name x p) (e::es) [] pos) (hY sp E3 tr):=by
 obtain⟨f,fd,F,b,kp,m⟩:=c.ex;refine DX (sR F I T m kp b ht hx ha J he U) λσ H Q g L Q3 r rl z k=>?_;exact⟨g,L,_,r,rl,z,λvs H1 ys L1 t j l z1=>⟨ys,L1,Q3,E3 g,l,j,z1,k.ts t,λC H' L' t' o q=>⟨C,g,L',rfl,r.ts (t.trans t'),o,q⟩⟩⟩
theorem sW(c:aab X.K C)(p:Gl X x)(r:X.mg x=some (.ref C))(hc:X.calm=true)(t:bK X (upX X.g3 E3))(I:X.ex=[])(T:QA X (e::es) tr)(J:Ed x:=by decide)
 (he:Eb e es X:=by rfl) (U:Ec fm es X:=by rfl):
 QS X (.Raise (some (.Call (.Name x np) (e::es) [] fm)) none pos) (tW C E3 tr):=EE (aad c p r hc t I T J he U) λD σ H l L D3 o rl z k=>
 ⟨l,L,_,o,rl,z,λvs H1 ys L1 t1 g j ⟨hl,z1⟩=>⟨small (by rw[<-j.length];exact hl),C,l,L1,rfl,o.ts t1,g,z1⟩⟩
end
theorem asa{P:Program}{w:World}{K:Af}{N:List Str}{k:Nat}{sp:eW}{t:X3->ke}(F:Fun K x eK st f fd)(S:aD N ps (qy st))(len:∀ys L Q E,sp ys L Q E->ys.length=ps.length)
 (J:∀(fx:Value) (A:Around) (outer:List Env) (s:Shared) (H:Hp) (E:XK) (E3:X3),wb k (A.deeper (PyProof.Rows.envOfC eK (qy st) s.heap.objs.size f fx))->
  bK (cZ (CXE P w) P w K mg base N eK (qy st) f fx A outer s H E) (upX ⟨K,P,w⟩ E3)->qF (cZ (CXE P w) P w K mg base N eK (qy st) f fx A outer s H E) (ji st) (t E3))
 (vc:∀ys L Q E,sp ys L Q E->t (r9 E) { nx:=λ_ L'=>fV Q .non L',rt:=fV Q } (eE N ys) L):aoh P w K mg base (k+1) f fd ps sp:=by
 obtain⟨oc,od,kV,a1,pm,an,fx,ct,a2,rfl,lk,g⟩:=F.ex;refine adm lk g S (λvs H Q E ⟨ys,L,j,E3,l,T,z,_⟩=>by rw[<-l.length];exact len ys L j E3 z) λA outer s H vs Q E hr ⟨ys,L,j,E3,l,T,z,k,kx⟩=>?_;refine⟨_,J fx A outer s H E (r9 E3) hr (ak0 kx),eE N ys,L,_,iO l,T,vc ys L j E3 z,?_⟩;exact⟨λσ o τ L' p a3 U ⟨L2,r,C⟩=>k .non o .non L2 p (U.sub r) (by rfl) C,λv o y L' p U I ⟨L2,r,C⟩=>k v o y L2 p (U.sub r) I C,λ_ _ _ _ _ _ _ z=>z.elim,λ_ _ _ _ _ _ _ z=>z.elim⟩
def am2(G:G3)(H:Hp)(E3:X3)(E1:X1):Prop:=∀ir C H' J L',j8 H H'->vd G H' ir J->zy G H' L'->E3 J C L'->E1 ir (.ref C) H'
def ais(G:G3)(t:X3->ke):X1->L2.TS:=λE1 D σ H=>∃τ L D3 E3,vd G H σ τ/\zy G H L/\t E3 D3 τ L/\uC G H D3 D/\am2 G H E3 E1
def QB(X:Cx)(body:List Stmt)(t:X3->ke):Prop:=∀(pn:List (Addr×Obj)) (xe:Value->Shared->Prop) (E1:X1),bK (X.tr pn xe) E1->gH (X.tr pn xe) body (ais X.g3 t E1)
section
variable {tr:dE}{cp:Pos}
theorem agd{k:Nat}{sp:eW}(c:gZ X.prog X.w X.K X.mg X.base k x ps sp)(hr:wb k X.A)(hg:Gl X x)(hx:X.ex=[])(ha:∀pn xe,QA (X.tr pn xe) (e::es) tr)(U:Ed x:=by decide)
 (he:Eb e es X:=by rfl) (g:Ec cp es X:=by rfl) (hs:swapsWith (.Call (.Name x p) (e::es) [] cp) none pos.line X.env=pure false:=by rfl):
 QB X [.Expr (.Call (.Name x p) (e::es) [] cp) pos] (λE3=>j9 (hY sp E3 tr)):=by
 obtain⟨f,fd,F,b,kp,m⟩:=c.ex;intro pn xe E1 ht;refine gH.imp (vJ (vX (sR (X:=X.tr pn xe) F hr hg m kp b ht hx (ha pn xe) U he g) hs)) λD σ H ⟨j,L,D3,E3,l,rl,z,k,kx⟩=>?_;exact⟨j,L,_,l,rl,z,λvs H1 ys L1 J o r z1=>⟨ys,L1,_,E3 j,r,o,z1,(λv H2 y L2 T t a1 z2=>k.nx _ H2 _ L2 (J.trans T) (l.ts (J.trans T)) t z2),λC H' L' t' I q=>kx σ C H' j L' (J.trans t') (l.ts (J.trans t')) I q⟩⟩
end
section
variable {a:Expr}{pt:Pos}
end
open PySem L2 PySem.W
theorem ug{K:Frag}(q:excIn K C [.type "ValueError",.type "Exception",.type "BaseException",.type "object"] "ValueError.__new__"=true):aab K C:=ah6 q Dj (by decide +kernel) Dj
section
variable {K:Frag}{D:Addr}{t c:Value}{b:Bool}
theorem exm_own{cd:ClassData}(h0:subIn K (.ref D) (.type "BaseException")=some true)(h1:clsIn K D=some cd)(h2:typeIn K (.ref D)=some (.type "type"))(h3:subIn K (.ref C) (.ref D)=some b):exmOne K (.ref C) (.ref D)=some b:=by unfold exmOne;rw[AD (by rw[h0];rfl)];unfold kitCls;simp only[h1,h2,Option.isSome_some,beq_self_eq_true,Bool.and_self,if_true];exact h3
end
end L3
namespace L2
open PySem PySem.Spec PyProof.Rows
def hW(X:Cx)(ops:List CmpOp)(es:List Expr)(t:V->TE):Prop:=∀(pos:Pos) (pins:List (Addr×Obj)) (s:Shared) (σ:St) (H:Hp) (x:V) (v:Value) (Q:Bool->Hp->Prop),z9 X pins σ H s->zx x v->(t x σ H λz H'=>∃k,z=.bl k/\Q k H')->wpAny (model X.prog X.w) X.A (testChain pos v ops (evalEach es X.env)) (TP X pins σ Q) X.xe s
def ahq(r:R2)(tb:TE):V->TE:=λx σ H Q=>tb σ H λy H1=>r x y H1 Q
def ahh(r:R2)(tb:TE)(u:V->TE):V->TE:=λx σ H Q=>tb σ H λy H1=>r x y H1 λz H2=>∃k,z=.bl k/\(if k=true then u y σ H2 Q else Q (.bl false) H2)
section
variable {a b:Expr}{ta tb:TE}{op pR:CmpOp}{ops:List CmpOp}{r:R2}{u:V->TE}
theorem yA(g:vq X (compareOp op) r)(j:PE X b tb):hW X [op] [b] (ahq r tb):=by intro pos J s U H x v Q I l h;refine test_last (aI (j J s U H _ I h) λo p ⟨y,t,C,T,q1⟩=>aI (g J p U t x y v o _ C l T q1) λd s2 ⟨z,H2,I2,r2,k,e,q2⟩=>?_);subst e;cases r2;exact wpAny_truthy_bool ⟨H2,I2,q2⟩
theorem wU(t:vq X (compareOp op) r)(C:PE X b tb)(T:hW X (pR::ops) (c::es) u):hW X (op::pR::ops) (b::c::es) (ahh r tb u):=by
 intro pos J s U H x v Q I rx h;refine test_link (aI (C J s U H _ I h) λg s1 ⟨y,H1,I1,j,q1⟩=>aI (t J s1 U H1 x y v g _ I1 rx j q1) λd s2 ⟨z,l,o,r2,k,e,p⟩=>?_);subst e;cases r2;refine wpAny_truthy_bool ?_;cases k with
 |false=>
  obtain⟨k',e',q'⟩:=p;cases e';exact ite_ff ⟨l,o,q'⟩
 |true=>exact ite_tt (T pos J s2 U l y g Q o j p)
theorem xX(U:PE X a ta)(h:hW X (op::pR::ops) (b::c::es) u)(g:lastMarks (op::pR::ops) (b::c::es)=false):PT X (.Compare a (op::pR::ops) (b::c::es) pos) (ab3 λσ H Q=>ta σ H λx H1=>u x σ H1 Q):=by intro J s σ H Q I j;exact isTrue_chain (aI (U J s σ H _ I j) λv l ⟨x,H1,o,p,r⟩=>h pos J l σ H1 x v Q o p r) g
end
end L2
namespace L3
open PySem L2
def tZ(ta:xj)(u:Y->xj)(τ:jq)(L:qm)(Q:YK):Prop:=ta τ L λx L1=>u x τ L1 Q
def aby(r:mR)(tb:xj)(x:Y)(τ:jq)(L:qm)(Q:YK):Prop:=tb τ L λy L1=>r x y L1 Q
def aae(r:mR)(tb:xj)(u:Y->xj)(x:Y)(τ:jq)(L:qm)(Q:YK):Prop:=tb τ L λy L1=>r x y L1 λz L2=>match z with
 |.bl k=>kj k (u y τ L2 Q) (Q (.bl false) L2)
 |_=>False
def upC(G:G3)(u:Y->xj):V->TE:=λx σ H Q=>∃y τ L J,RV G H y x/\vd G H σ τ/\zy G H L/\u y τ L J/\qK G H J Q
theorem hW.imp{ops:List CmpOp}{t u:V->TE}(h:hW X ops es t)(q:∀x σ H Q,u x σ H Q->t x σ H Q):hW X ops es u:=λpos J s σ H x v Q I r z=>h pos J s σ H x v Q I r (q _ _ _ _ z)
theorem af9{r:mR}(x:V)(σ:L2.St)(H:Hp)(Q:VK):upC G (aby r tb) x σ H Q->ahq (eV G r) (pS G tb) x σ H Q:=λ⟨y,j,L,l,o,p,t,z,k⟩=>
 ⟨j,L,_,p,t,z,λv H1 C I g J U T=>⟨y,C,I,l,o.ts g,U,J,T,k.ts g⟩⟩
theorem agt{r:mR}{u:Y->xj}(x:V)(σ:L2.St)(H:Hp)(Q:VK):upC G (aae r tb u) x σ H Q->ahh (eV G r) (pS G tb) (upC G u) x σ H Q:=λ⟨y,l,L,o,rv,T,rl,z,k⟩=>
 ⟨l,L,_,T,rl,z,λv H1 p L1 g t J z1=>⟨y,p,L1,_,rv.ts g,J,t,z1,λv2 H2 y2 L2 j U C z2=>by
  cases y2 with
  |bl I=>
   refine⟨I,C,?_⟩;have z3:kj I (u p l L2 o) (o (.bl false) L2):=z2;cases I with|true=>rw[AD rfl];exact⟨p,l,L2,o,J.ts j,T.ts (g.trans j),U,z3,k.ts (g.trans j)⟩|false=>rw[AE AA];exact k _ H2 _ L2 (g.trans j) U (by rfl) z3
  |_=>exact z2.elim⟩⟩
section
variable {a b:Expr}{op pR:CmpOp}{ops:List CmpOp}{r:mR}{u:Y->xj}
theorem yh(J:vq X (compareOp op) (eV X.g3 r))(U:QE X b tb):hW X [op] [b] (upC X.g3 (aby r tb)):=hW.imp (yA J U) af9
theorem xS(J:vq X (compareOp op) (eV X.g3 r))(U:QE X b tb)(g:hW X (pR::ops) (c::es) (upC X.g3 u)):hW X (op::pR::ops) (b::c::es) (upC X.g3 (aae r tb u)):=hW.imp (wU J U g) agt
theorem aa7(σ:L2.St)(H:Hp)(Q:VK):pS G (tZ ta u) σ H Q->(λσ H Q=>pS G ta σ H λx H1=>upC G u x σ H1 Q) σ H Q:=λ⟨g,L,o,j,p,z,k⟩=>
 ⟨g,L,_,j,p,z,λv H1 y r l J U t=>⟨y,g,r,o,U,j.ts l,J,t,k.ts l⟩⟩
theorem ad0(U:QE X a ta)(h:hW X (op::pR::ops) (b::c::es) (upC X.g3 u))(g:lastMarks (op::pR::ops) (b::c::es)=false:=by with_unfolding_all rfl):QT X (.Compare a (op::pR::ops) (b::c::es) pos) (yB (tZ ta u)):=
 PT.imp (xX U h g) λJ H Q q=>aa7 J H _ (aj4 J H Q q)
end
end L3
namespace L2
open PySem PySem.Spec PyProof.Rows
theorem wD:∀{bs:List Bool} {us:List Value},zo (bs.map V.bl) us->us=bs.map Value.bool
 |[],_,.nil=>rfl
 |b::bs,_,.cons r t=>by cases (show _=Value.bool b from r);rw[wD t];rfl
theorem aac(hc:X.calm=true:=by rfl):x4 X (.builtin "all") (λxs H Q=>∃(a:Addr) (bs:List Bool),xs=[.ref a]/\aK X.K H a (bs.map V.bl)/\Q (.bl (bs.all id)) H):=by
 intro l s σ H xs us Q I r h;obtain⟨a,bs,rfl,sq,q⟩:=h;obtain⟨u,rfl,o⟩:=i3 r;cases o;obtain⟨p,t,pl,_⟩:=I.list sq;cases wD t;have g:=j5 pl;have j:a<s.heap.objs.size:=by obtain⟨_,e,_⟩:=g;exact ya e
 refine x0 I.tk (call_all_walk (wpAny_pyIter_list g ?_));refine⟨s.heap.objs.size,[s.heap.objs.size,a],[s.heap.objs.size],(bs.map Value.bool).toArray.size,_,_,λi=>(bs[i]?).getD true,rfl,Walks.list (A:=X.A.in1) (I.ok.hd hc) _ a (A1 j) (bs.map Value.bool).toArray,
  ⟨⟨_,y1 _ rfl,rfl,rfl⟩,g.push _⟩,λi v C T E' J U=>?_,λh' tk hk ht=>?_⟩
 ·have J:(bs.map Value.bool).toArray[i]?=some v:=J;rw[List.getElem?_toArray,An] at J;obtain⟨b,e,rfl⟩:=Am.mp J;have U:T ((bs[i]?).getD true) C:=U;rw[e] at U;exact wpAny_truthy_bool U
 ·have e:((List.range (bs.map Value.bool).toArray.size).all λi=>(bs[i]?).getD true)=bs.all id:=by rw[Ao,Ab];exact PyProof.Rows.LSm.range_all bs
  rw[e];exact⟨.bl _,H,I.kept (h':=h') (t':=tk) (PyProof.Rows.LSm.kept_iter hk),rfl,q⟩
end L2
namespace L3
open PySem L2
def wV:List Y->Option (List Bool)
 |[]=>some []
 |.bl b::r=>(wV r).map (b::·)
 |_::_=>none
theorem adf(bs:List Bool):wV (bs.map Y.bl)=some bs:=by induction bs with|nil=>rfl|cons b r J=>show(wV (r.map Y.bl)).map (b::·)=_;rw[J];rfl
theorem rZ{G:G3}{H:Hp}:∀{ys:List Y} {xs:List V} {bs:List Bool},wV ys=some bs->x6 G H ys xs->xs=bs.map V.bl
 |[],_,_,h,r=>by cases h;exact r
 |y::ys,_,bs,h,⟨x,J,e,U,g⟩=>by
  cases y with
  |bl b=>
   have j:(wV ys).map (b::·)=some bs:=h;obtain⟨o,l,rfl⟩:=Am.mp j;cases (show x=V.bl b from U);rw[e,rZ l g];rfl
  |_=>cases h
def aj5(xs:List Y)(L:qm)(Q:YK):Prop:=match xs with
 |[y]=>rC y=true/\dU L y λys=>tJ L (λbs L=>Q (.bl (List.all bs id)) L) (wV ys)
 |_=>False
theorem aob(hc:X.calm=true:=by rfl):x4 X (.builtin "all") (upL X.g3 aj5):=x4.imq (aac hc) λo H Q p L t U J z k=>by
 unfold aj5 at z;split at z
 ·rename_i y;obtain⟨x,rfl,r⟩:=U.inv1;obtain⟨g,z⟩:=z;obtain⟨C,j,z⟩:=kh z;obtain⟨bs,l,z⟩:=gW z;obtain⟨a,I,rfl,sq,rr⟩:=eJ J r g j;cases rZ l rr;exact⟨a,bs,rfl,sq,k _ H _ L (DV _) J (by rfl) z⟩
 ·exact z.elim
theorem alj:bootBuiltins "all"=some (.builtin "all"):=by decide +kernel
def aen:Y->Option jg
 |.int i=>some (.inl i)
 |.str x=>some (.inr x)
 |_=>none
theorem kH{k:jg}(h:aen y=some k)(r:RV G H y v):v=kV k:=by cases y with|int i=>cases h;exact r|str x=>cases h;exact r|_=>cases h
def iB(kvs:List (jg×Y))(k:jg)(y:Y):List (jg×Y):=
 if (kvs.any λJ=>decide (J.1=k))=true then kvs.map (λJ=>if J.1=k then(J.1,y) else J) else kvs++[(k,y)]
theorem j8.dct{p:Addr}{zs:List (jg×V)}{o:HO}(h:H p=some (.dK zs)):j8 H (upd H p o):=λa u i q=>by rw[qp ?_];exact q;rintro rfl;rw[h] at q;cases q;cases i
theorem ac4{xs:List (jg×V)}(p:Paired (λ(p:jg×Y) (q:jg×V)=>p.1=q.1/\RV G H p.2 q.2) kvs xs)(k:jg):(kvs.any λJ=>decide (J.1=k))=xs.any λJ=>decide (J.1=k):=by induction p with|nil=>rfl|cons r t U=>rw[B5,B5,U,r.1]
theorem ac3{xs:List (jg×V)}(p:Paired (λ(p:jg×Y) (q:jg×V)=>p.1=q.1/\RV G H p.2 q.2) kvs xs)(k:jg)(r:RV G H y v):
 Paired (λ(p:jg×Y) (q:jg×V)=>p.1=q.1/\RV G H p.2 q.2) (kvs.map λJ=>if J.1=k then(J.1,y) else J) (xs.map λJ=>if J.1=k then(J.1,v) else J):=by
 induction p with
 |nil=>exact .nil
 |@cons a b _ _ U t g=>
  refine .cons ?_ g;obtain⟨e,q⟩:=U;dsimp only;by_cases c:a.1=k
  ·rw[AD c,AD (e▸c)];exact⟨e,r⟩
  ·rw[AE c,AE (λz=>c (e.trans z))];exact⟨e,q⟩
theorem yu{xs:List (jg×V)}(p:Paired (λ(p:jg×Y) (q:jg×V)=>p.1=q.1/\RV G H p.2 q.2) kvs xs)(k:jg)(r:RV G H y v):
 Paired (λ(p:jg×Y) (q:jg×V)=>p.1=q.1/\RV G H p.2 q.2) (kvs++[(k,y)]) (xs++[(k,v)]):=by
 induction p with|nil=>exact .cons ⟨rfl,r⟩ .nil|cons J t U=>exact .cons J U
theorem zR{xs:List (jg×V)}(p:Paired (λ(p:jg×Y) (q:jg×V)=>p.1=q.1/\RV G H p.2 q.2) kvs xs)(k:jg)(r:RV G H y v):
 Paired (λ(p:jg×Y) (q:jg×V)=>p.1=q.1/\RV G H p.2 q.2) (iB kvs k y) (dh xs k v):=by
 unfold iB dh;rw[ac4 p k];by_cases c:(xs.any λJ=>decide (J.1=k))=true
 ·rw[AD c,AD c];exact ac3 p k r
 ·rw[AE c,AE c];exact yu p k r
theorem pair_len{R:α->β->Prop}{l:List α}{m:List β}(p:Paired R l m):l.length=m.length:=by induction p with|nil=>rfl|cons _ _ J=>rw[AL,AL,J]
def vG(_:jq)(L:qm)(Q:YK):Prop:=∀p,L p=none->Q (.ref p) (qf L p (.dct []))
def i9(td ti:xj)(τ:jq)(L:qm)(Q:YK):Prop:=td τ L λx L1=>ti τ L1 λy L2=>match x,aen y with
 |.ref a,some k=>sk L2 a λkvs=>tJ L2 Q (kg kvs k)
 |_,_=>False
def gh(td ti tv:xj)(D:k6)(τ:jq)(L:qm):Prop:=tv τ L λv L1=>td τ L1 λx L2=>ti τ L2 λy L3=>match x,aen y with
 |.ref a,some k=>sk L3 a λkvs=>kvs.length<sizeLine/\D.nx τ (qf L3 a (.dct (iB kvs k v)))
 |_,_=>False
section
variable {i:Expr}{td tv:xj}
theorem pj:QE X (.Dict [] [] pos) vG:=DX ado λg H Q j L l o U z k=>λp J=>by
 refine k _ _ _ (qf L p (.dct [])) (DW J) (λa u e=>?_) (by rfl) (z p (U.none J));by_cases c:a=p
 ·subst c;rw[q8] at e;cases e;exact⟨[],zp,.nil⟩
 ·rw[q9 c] at e;exact(U a u e).keep (DW J) (qp c)
theorem cJ(hu:X.A.units+128<cLine)(C:QE X o td)(hi:QE X i ti)(hs:aie i):QE X (.Subscript o i pos) (i9 td ti):=DX (af4 (by omega) C hi hs) λσ H Q p L Q3 r I z k=>
 ⟨p,L,_,r,I,z,λv H1 x T t U g z1=>⟨p,T,_,r.ts t,U,z1,λw H2 y L2 t2 J j l=>by
  split at l
  ·rename_i a kk ek;obtain⟨a1,e,z3⟩:=fc l;obtain⟨yv,ev,q⟩:=gW z3;obtain⟨xs,e2,pr⟩:=J a _ e;obtain⟨xv,ex,rx⟩:=oA pr ev;exact⟨a,xv,g,.inl ⟨xs,kk,.inl e2,kH ek j,ex.symm⟩,k _ H2 _ L2 (t.trans t2) J rx q⟩
  ·exact l.elim⟩⟩
theorem bF(hu:X.A.units+128<cLine)(ho:QE X o td)(hi:QE X i ti)(hv:QE X value tv)(hs:swapsWith value (some (.Subscript o i gf)) pos.line X.env=pure false:=by rfl):QS X (.Assign [.Subscript o i gf] value pos) (gh td ti tv):=
 EE (afh (by omega) ho hi hv hs) λD σ H r L D3 U rl z k=>
 ⟨r,L,_,U,rl,z,λv H1 vy L1 g t C z1=>⟨r,L1,_,U.ts g,t,z1,λx H2 xy L2 j I T z2=>⟨r,L2,_,U.ts (g.trans j),I,z2,λw H3 y L3 t3 J a1 z3=>by
  split at z3
  ·rename_i a kk ek;obtain⟨a2,e,hl,q⟩:=fc z3;obtain⟨xs,e2,pr⟩:=J a _ e;have l:j8 H3 (upd H3 a (.dK (dh xs kk v))):=j8.dct e2;cases (show x=V.ref a from T);refine⟨a,_,rfl,.inl ⟨xs,kk,e2,kH ek a1,by rw[<-pair_len pr];exact hl,rfl⟩,?_⟩;refine k.nx _ _ _ _ (((g.trans j).trans t3).trans l) (U.ts (((g.trans j).trans t3).trans l)) (λb u p=>?_) q;by_cases c:b=a
   ·subst c;rw[q8] at p;cases p;exact⟨_,zp,DY (zR pr kk (C.ts (j.trans t3))) λ_ _ ⟨h1,h2⟩=>⟨h1,h2.ts l⟩⟩
   ·rw[q9 c] at p;exact(J b u p).keep l (qp c)
  ·exact z3.elim⟩⟩⟩
end
def ahw(to ti tv:xj)(D:k6)(τ:jq)(L:qm):Prop:=tv τ L λv L1=>to τ L1 λx L2=>ti τ L2 λy L3=>match x,y with
 |.ref a,.int i=>cU L3 a λys=>tJ L3 (λj L=>D.nx τ (qf L a (.lst (ys.set j v)))) (ixN ys.length i)
 |_,_=>False
section
variable {i:Expr}{tv:xj}
theorem ag1(ho:QE X o to)(hi:QE X i ti)(hv:QE X value tv)
 (ha:∀v,assign (.Subscript o i gf) X.env v=(do
  let U <-holding [v] (eval o X.env)
  let t <-holding [v,U] (eval i X.env)
  standAt gf
  holding [v,U,t] (setItem U t v)
  release [v,U,t] []):=by intro _;rfl)
 (h1:swapsWithSole [.Subscript o i gf] value pos.line X.env=pure false:=by rfl) (h2:swappedStores [.Subscript o i gf] value X.env=pure none:=by rfl)
 (h3:(assignEach [.Subscript o i gf] X.env).map (·.2)=[assign (.Subscript o i gf) X.env]:=by rfl):QS X (.Assign [.Subscript o i gf] value pos) (ahw to ti tv):=
 EE (aao hv (akq ho hi ack ha) h1 h2 h3) λD σ H C L D3 g rl z k=>
 ⟨C,L,_,g,rl,z,λv H1 vy L1 l I T z1=>⟨C,L1,_,g.ts l,I,z1,λx H2 xy L2 p a1 a2 z2=>⟨C,L2,_,g.ts (l.trans p),a1,z2,λw H3 y L3 t3 J a3 z3=>by
  split at z3
  ·rename_i a ii;obtain⟨ys,e,z4⟩:=xn z3;obtain⟨j,ej,q⟩:=gW z4;obtain⟨xs,e2,r⟩:=J a _ e;cases (show x=V.ref a from a2);cases (show w=V.int ii from a3);have tt:j8 H3 (upd H3 a (.lst (xs.set j v))):=EF e2;exact⟨a,xs,ii,j,rfl,rfl,e2,by rw[<-r.length];exact ej,k.nx _ _ _ _ (((l.trans p).trans t3).trans tt) (g.ts (((l.trans p).trans t3).trans tt)) (J.setL e2 (x6.setY (T.ts (p.trans t3)) j r)) q⟩
  ·exact z3.elim⟩⟩⟩
end
end L3
namespace L2
open PySem PySem.Spec PyProof.Rows
section
variable {v₁ v₂:Expr}{te:TE}{u:Str->TE}
end
end L2
namespace L3
open PySem L2
section
variable {v₁ v₂:Expr}{u:Str->xj}
end
section
variable {tv:xj}{tr:dE}{f m:Str}{g:Addr}
end
open PySem.AutoSeq1 (wpAny_loadPart')
open MeetsSeq MeetsSeq2 MeetsSeq3 SeqRoads2
def gF(x:Y)(vs:List Y)(L:qm)(Q:YK):Prop:=match x,vs with
 |.ref a,[]=>cU L a λys=>Q .non (qf L a (.lst ys.reverse))
 |_,_=>False
theorem x6.rev{G:G3}{H:Hp}:∀{ys:List Y} {xs:List V},x6 G H ys xs->x6 G H ys.reverse xs.reverse
 |[],xs,r=>by cases (show xs=[] from r);exact rfl
 |y::t,xs,r=>by obtain⟨x,J,rfl,U,g⟩:=r;rw[CN,CN];exact x6.app (x6.rev g) (x6.one U)
theorem yW :fZ X "list.reverse" (upM X.g3 gF):=fZ.imq u7 λx g H Q y p L t j l U z k=>by
 unfold gF at z;split at z
 ·rename_i a;obtain⟨C,e,z⟩:=xn z;obtain⟨o,J,r⟩:=U a _ e;cases (show g=[] from l);exact⟨a,o,j,rfl,J,k _ _ _ _ (EF J) (U.setL J r.rev) (by rfl) z⟩
 ·exact z.elim
theorem uZ(J:QE X o to)(U:attributeBase o "reverse" X.env (eval o X.env)=eval o X.env:=by rfl)(g:(apos.endLine==fm.line)=true:=by rfl):
 QE X (.Call (.Attribute o "reverse" apos) [] [] fm) (wu gF to qz):=acf PySem.F.slot_list_reverse PySem.F.type_list_reverse yW J U g
def ahu(x y:Y)(L:qm)(Q:YK):Prop:=dU L x λxs=>dU L y λys=>rC x=true/\rC y=true/\xs.length+ys.length<=sizeLine/\∀p,L p=none->Q (.ref p) (qf L p (.lst (xs++ys)))
theorem ake(K:Af)(P:Program)(w:World)(hK:X.K=K:=by rfl)(hP:X.prog=P:=by rfl)(hw:X.w=w:=by rfl):vq X (binaryOp .Add) (eV ⟨K,P,w⟩ ahu):=by
 subst hK hP hw;intro a1 s σ H x y v u Q I rx ry ⟨x3,y3,L,Q3,r1,r2,r,z,k⟩;obtain⟨xs,ex,z⟩:=kh z;obtain⟨ys,ey,z⟩:=kh z;obtain⟨lx,ly,hz,q⟩:=z;obtain⟨a,ws,rfl,s1,g⟩:=eJ r r1 lx ex;obtain⟨b,a3,rfl,s2,j⟩:=eJ r r2 ly ey;cases rx;cases ry;obtain⟨J,vx,tx,_⟩:=I.list s1;obtain⟨U,vy,ty,_⟩:=I.list s2;obtain⟨⟨cls,dd,data,sl⟩,ho,hc,n,hd⟩:=id (j5 tx);obtain⟨⟨a2,t,data2,C⟩,l,o,n2,p⟩:=id (j5 ty);simp only at hc hd o p;subst hc hd o p;have l1:=vx.length;have l2:=vy.length;have l3:=g.length;have l4:=j.length;have T:J.toArray.size+U.toArray.size<=sizeLine:=by rw[Ao,Ao];lia
 refine concat_meets ⟨_,ho,rfl⟩ ⟨_,l,rfl⟩ noFill_list_add seq_list_add PySem.F.slot_list_add PySem.F.entry_list_add (PySem.F.args_list_add_2 _ _) (PyProof.Rows.list_addW a b J.toArray U.toArray n n2 dd t sl C T) ⟨ho,l,?_⟩;have e:J.toArray++U.toArray=(J++U).toArray:=by simp
 rw[e];exact⟨.ref _,_,I.lnew (t':=s.toks) (vx.append vy) (by rw[Ac];lia),rfl,k _ _ _ _ (DW I.fresh) (r.newL I.fresh (g.app j)) (by rfl) (q _ (r.none I.fresh))⟩
end L3
namespace Txs
open PySem PySem.Builtin.Str
theorem len_list(x:Str):x.cps.toList.length=x.length:=by simp[Str.length]
end Txs
namespace L2
open PySem PySem.Spec PyProof.Rows
section
variable {isp imk c j1 j2:Nat}{sp mk:Str}{u:Tok}{m:Str->Option Value}{p6 p7 p8 p9 p10:Pos}{Q:Flow->Shared->Prop}
end
end L2
namespace L2
open PySem PySem.Spec PyProof.Rows
end L2
namespace L3
open PySem L2
section
variable {tr:dE}{m:Str}{k:Nat}{sp:jr}
end
end L3
namespace L2
open PySem PySem.Spec PyProof.Rows
section
variable {te:TE}
end
end L2
namespace L3
open PySem L2
end L3
namespace L2
open PySem PySem.Spec PyProof.Rows
section
variable {T:Addr}{tr:Option Addr}
end
section
variable {T:List Str}{iter:Expr}{g:TG}{te:TE}
end
section
variable {T:Addr}{tr:Option Addr}{E1:X1}
end
section
variable {k:Nat}{E1:X1}{t:TA}
end
end L2
namespace L3
open PySem L2
section
variable {T:List Str}{iter:Expr}{wi:TI3}{tr:dE}{E3:X3}{Ea:Addr->qm->Prop}
end
end L3
namespace L2
open PySem PySem.Spec PyProof.Rows
end L2
namespace L2
open PySem PySem.Spec PyProof.Rows
section
variable {w:World}
theorem qP{it t:Addr}{eH:Array Value}(J:t≠it):∀(n i:Nat) (s:Shared) (Q:List Value->Shared->Prop),s.heap.IsListIter it t i->s.heap.IsList t eH->i+n<=eH.size->
 (∀h',h'.IsListIter it t (i+n)->Heap.SameBut it s.heap h'->Q ((eH.toList.drop i).take n) { s with heap:=h' })->wpAny (model prog w) A (draw (.ref it) n) Q E s
 |0,i,s,Q,hit,_,_,j=>by unfold draw;exact Ag (by simpa using j s.heap hit (Heap.SameBut.refl ..))
 |n+1,i,s,Q,hit,r,C,j=>by
  have U:i<eH.size:=by omega
  unfold draw;refine Aa (wpAny_pyNext_list_item hit r (x:=eH[i]) (by simp[U]) λg1 l g=>?_);refine Aa (A3 (qP J n (i+1) _ _ l (r.extBut g.extBut J) (by lia) λg2 o p=>Ag ?_));have e:eH.toList.drop i=eH[i]::eH.toList.drop (i+1):=by simp[Cw,U]
  have q:=j g2 (by rw[show i+(n+1)=i+1+n by simp +arith only];exact o)
   (g.trans p)
  rw[e,List.take_succ_cons] at q;exact q
theorem ah2{t:Addr}{eH:Array Value}{Q:Unit->Shared->Prop}(T:A.handled=none)(J:s.heap.IsList t eH)(hn:(assignEach oi env).length=eH.size)(l:(assignEach oi env).findIdx? (·.1)=none)
 (h:∀g,Heap.ExtBut s.heap.objs.size s.heap g->wpAny (model prog w) A (assignInOrder ((assignEach oi env).map (·.2)) eH.toList) Q E { s with heap:=g }):wpAny (model prog w) A (assign (.Tuple oi x1 pos) env (.ref t)) Q E s:=by
 have U:t≠s.heap.objs.size:=by obtain⟨o,ho,_⟩:=J;exact A1 (ya ho)
 rw[arm_assign_Tuple];refine Aa (wpAny_standAt ?_);unfold unpack;rw[hn,l];refine Aa (A3 ?_);unfold unpackItems notIterableAtAll;refine Aa (Aa (wpAny_specialOf J.typeIs slot_list_iter.lookup ?_));refine Ag ?_;rw[AE (by simp)];refine Aa (A3 (wpAny_pyIter_list J ?_));refine Aa (A3 (qP U eH.size 0 _ _ ⟨_,y1 _ rfl,rfl,rfl⟩ (J.push _) (by simp +arith only) λg1 p j=>?_));have all:List.take eH.size (List.drop 0 eH.toList)=eH.toList:=by rw[CO];exact A5 (by simp)
 rw[all,AE (by simp)];have r:g1.IsList t eH:=(J.push _).extBut j.extBut U;refine Aa (A3 (wpAny_pyNext_list_end T p r (by simp) λg2 C=>?_));rw[AE (by simp)];exact Ag (h g2 λb o I e=>C b o I (j.extBut b o I (xT _ e)))
end
def aqk(K:Af)(n:Nat)(t:TGs):TG:=λv σ H Q=>∃a xs,v=.ref a/\aK K H a xs/\xs.length=n/\t xs σ H Q
theorem ain{k:Nat}{t:TGs}(hc:X.calm=true)(h:PGs X es t)
 (l:(assignEach es X.env).length=n:=by rfl) (U:(assignEach es X.env).findIdx? (·.1)=none:=by rfl):PG X (.Tuple es k pos) (aqk X.K n t):=by
 intro J s g H v u Q I r hw;obtain⟨a,p,C,T,hl,hw⟩:=hw;subst C;cases r;obtain⟨a1,j,pl,hz⟩:=I.list T;have ht:=j5 pl;refine ah2 (I.ok.hd hc) ht (by simp[l,<-hl,j.length]) U λh' hx=>?_;have I1:z9 X J g H { s with heap:=h' }:=I.kept (t':=s.toks) λb o e=>hx b o (A1 (ya e)) e;exact h J _ g H p _ Q I1 (by simpa using j) hw
theorem afx(l:Addr)(eH:Array Value)(n:Nat)(x:Value)(b:Nat->Bool)(j:Nat)(I:j<eH.size)(hit:b j=true)(hz:eH.size<=sizeLine):∀(k i:Nat),j-i=k->i<=j->(∀m,i<=m->m<j->b m=false)->
 Meets (Builtin.«list.remove.loop» ⟨[.ref l,x,rawInt i],[]⟩) (λA R s=>s.heap.get? l=some { cls:=.type "list",dict:=none,data:=.seq eH n,slots:=#[] }/\(∀m (hm:m<eH.size),SeqAt.EqAt A.in1 s eH[m] x (b m))/\R (.ok (.ret .none)) { s with heap:=s.heap.update l (Obj.mapSeq λxs=>xs.eraseIdxIfInBounds j) }):=by
 intro k
 induction k with
 |zero=>
  intro i T r U J w A R s h;obtain⟨hp,g,d,tk,os⟩:=s;obtain⟨o,eq,h⟩:=h;have e:i=j:=by lia
  subst e
  (wp_walk using wpAny_loadPart' o)
  have t:eH[((i:Nat):Int).toNat]?=some eH[i]:=by simp[I]
  rw[t];refine Aa (eq i I J w _ _ ?_);rw[hit];have C:(eH.eraseIdxIfInBounds i).size<=sizeLine+1:=AQ (MeetsSeq.size_erased eH _) (B1 hz)
  (wp_walk using (wpAny_updateSeq o rfl (hz:=hz) (_hz':=C)),wpAny_loadPart' o)
  simpa using h
 |succ k ih=>
  intro i T r U J w A R s h;obtain⟨hp,g,d,tk,os⟩:=s;obtain⟨o,eq,h⟩:=h;have p:i<eH.size:=by exact acx
  (wp_walk using wpAny_loadPart' o)
  have t:eH[((i:Nat):Int).toNat]?=some eH[i]:=by simp[p]
  have hc:((i:Int)+1)=((i+1:Nat):Int):=by rfl
  rw[t];refine Aa (eq i p J w _ _ ?_);rw[U i (Al _) (by omega)]
  wp_walk
  rw[hc];refine⟨plainId_quiet Eh _,codeAny_builtin MeetsSeq.entry_remove_loop ?_⟩;rw[Ej Eh _];exact ih (i+1) (by omega) (by omega) (λm h1 h2=>U m (by exact uI) h2) J w A R _ ⟨o,eq,h⟩
theorem zQ(l:Addr)(eH:Array Value)(n:Nat)(x:Value)(b:Nat->Bool)(j:Nat)(p:j<eH.size)(hit:b j=true)(hz:eH.size<=sizeLine)(U:∀m,m<j->b m=false):
 Meets (Builtin.«list.remove» ⟨[.ref l,x],[]⟩) (λA R s=>s.heap.get? l=some { cls:=.type "list",dict:=none,data:=.seq eH n,slots:=#[] }/\(∀m (r:m<eH.size),SeqAt.EqAt A.in1 s eH[m] x (b m))/\R (.ok (.ret .none)) { s with heap:=s.heap.update l (Obj.mapSeq λxs=>xs.eraseIdxIfInBounds j) }):=by
 intro J w A R s h;obtain⟨t,g,d,tk,os⟩:=s;obtain⟨o,eq,h⟩:=h
 (wp_walk using wpAny_loadPart' o)
 refine⟨plainId_quiet Eh _,codeAny_builtin MeetsSeq.entry_remove_loop ?_⟩;rw[Ej Eh _];exact afx l eH n x b j p hit hz _ 0 rfl (Bi _) (λm _ h2=>U m h2) J w A R _ ⟨o,eq,h⟩
theorem zo.eraseN:∀{xs:List V} {us:List Value} (n:Nat),zo xs us->zo (xs.eraseIdx n) (us.eraseIdx n)
 |[],_,n,.nil=>by simp;exact .nil
 |_::_,_,0,.cons _ t=>t
 |_::_,_,n+1,.cons r t=>.cons r (zo.eraseN n t)
def agf(X:Cx):V->List V->Hp->VK->Prop:=λx vs H Q=>∃l xs y ds e,∃n m j:Nat,x=.ref l/\vs=[y]/\H l=some (.lst xs)/\n<=126/\Paired (vg X.K H n) xs ds/\vg X.K H m y e/\j<ds.length/\(∃d,ds[j]?=some d/\Da.eq d e=true)/\
 (∀(k:Nat) d,k<j->ds[k]?=some d->Da.eq d e=false)/\Q .non (upd H l (.lst (xs.eraseIdx j)))
theorem xF(hu:X.A.units+128<cLine):fZ X "list.remove" (agf X):=by
 intro a5 s σ H x vs v us Q I rx rv h;obtain⟨l,o,y,g,e,n,m,j,rfl,rfl,hH,hn,pd,ry,hj,⟨dj,t,C⟩,T,q⟩:=h;cases rx;obtain⟨u,rfl,ru⟩:=rv.one;obtain⟨z,J,nn,r,hl,eo⟩:=I.lstM hH;have l1:o.length=g.length:=pd.length;have l2:J.length=o.length:=r.length.symm;obtain⟨arr,U⟩:∃arr:Array Value,arr=J.toArray:=⟨_,rfl⟩;have a1:arr.size=J.length:=by rw[U,Ao]
 have b:Nat->Bool:=λ_=>true;have a2:arr.size<=sizeLine:=by rw[a1];lia
 have M:=zQ l arr nn u (λk=>((g[k]?).map λd=>Da.eq d e).getD false) j (by lia) (by show((g[j]?).map λd=>Da.eq d e).getD false=true;rw[t];exact C) a2 (λk p=>by show((g[k]?).map λd=>Da.eq d e).getD false=false;cases ek:g[k]? with|none=>rfl|some d=>exact T k d p ek)
 rw[U] at M;refine call_meets F.slot_list_remove ⟨_,eo,rfl⟩ F.entry_list_remove (F.args_list_remove_2 _ _) M ⟨eo,λk p=>?_,?_⟩
 ·have ag:k<J.length:=by rw[Ao] at p;exact p
  obtain⟨d,ed,rd⟩:=Words.Paired.getP pd (Ae (by lia:k<o.length));show SeqAt.EqAt _ s _ u (((g[k]?).map λd=>Da.eq d e).getD false);rw[ed];obtain⟨u',a3,a4⟩:=Words.Paired.getP r (Ae (by lia:k<o.length));have eg:J.toArray[k]=u':=by have:=(AK.mp a3).2;simpa using this
  rw[eg];exact gv I n (by show X.A.units+1+n<cLine;lia) rd ry a4 ru
 ·refine⟨.non,_,I.lset (its':=J.eraseIdx j) hH eo ?_ (r.eraseN j) ?_,rfl,q⟩
  ·have:j<J.length:=by lia
   simp[Array.eraseIdxIfInBounds,this]
  ·have:=CK o j;exact amq
end L2
namespace L3
open PySem L2
def ai8(n:Nat)(t:sh)(y:Y)(τ:jq)(L:qm)(Q:jq->qm->Prop):Prop:=match y with
 |.ref a=>cU L a λys=>match ys.length==n with
  |true=>t ys τ L Q
  |false=>False
 |_=>False
theorem aj7{g:Nat}(hc:X.calm=true)(h:QGs X es gs)(h1:(assignEach es X.env).length=n:=by rfl)(h2:(assignEach es X.env).findIdx? (·.1)=none:=by rfl):QG X (.Tuple es g pos) (ai8 n gs):=
 PG.imp (ain hc h h1 h2) λv σ H Q ⟨y,j,L,l,o,p,U,z,k⟩=>by
 cases y with
 |ref a=>
  cases (show v=.ref a from o);obtain⟨t,e,J⟩:=xn z;obtain⟨C,I,r⟩:=U a _ e;split at J
  ·rename_i T;exact⟨a,C,rfl,aK.of I,by rw[<-r.length];exact beq_iff_eq.mp T,t,j,L,l,r,p,U,J,k⟩
  ·exact J.elim
 |_=>exact z.elim
def jQ(x:Y)(vs:List Y)(L:qm)(Q:YK):Prop:=match x,vs with
 |.ref a,[v]=>cU L a λys=>∃ds e,∃n m j:Nat,n<=126/\Paired (jc L n) ys ds/\jc L m v e/\j<ds.length/\(∃d,ds[j]?=some d/\Da.eq d e=true)/\(∀(k:Nat) d,k<j->ds[k]?=some d->Da.eq d e=false)/\Q .non (qf L a (.lst (ys.eraseIdx j)))
 |_,_=>False
theorem aaq(I:X.A.units+128<cLine):fZ X "list.remove" (upM X.g3 jQ):=fZ.imq (xF I) λx J H Q y g L Q3 T r2 l z k=>by
 unfold jQ at z;split at z
 ·rename_i a v;obtain⟨zs,e,U,de,n,m,j,hn,pd,dv,hj,hit,o,z⟩:=xn z;obtain⟨us,C,r⟩:=l a _ e;obtain⟨v',rfl,rv⟩:=r2.inv1;have both:∀{g:List Y} {U:List Da} {J:List V},Paired (jc L n) g U->x6 X.g3 H g J->Paired (vg X.K H n) J U:=by
   intro g U J p
   induction p generalizing J with
   |nil=>intro q;cases (show J=[] from q);exact .nil
   |cons h t ih=>
    rintro⟨x,a1,rfl,q1,q2⟩;exact .cons (jc.rep l h q1) (ih q2)
  exact⟨a,us,v',U,de,n,m,j,T,rfl,C,hn,both pd r,jc.rep l dv rv,hj,hit,o,k _ _ _ _ (EF C) (l.setL C (r.eraseIdx j)) (by rfl) z⟩
 ·exact z.elim
theorem ym(J:X.A.units+128<cLine){tr:dE}(U:QE X o to)(g:QA X (e::es) tr)(j:attributeBase o "remove" X.env (eval o X.env)=eval o X.env:=by rfl)
 (l:((backTo fm (starEach (e::es) X.env)).all (λx=>!x.1)&&(backToKw fm (keywordEach [] X.env)).all (λx=>x.1.isSome)&&decide ((e::es).length+([]:List Keyword).length+(if ([]:List Keyword).isEmpty=true then 0 else 1)<30))=true:=by rfl)
 (p:(apos.endLine==fm.line)=true:=by rfl) (r:Eb e es X:=by rfl) (t:Ec fm es X:=by rfl):
 QE X (.Call (.Attribute o "remove" apos) (e::es) [] fm) (wu jQ to tr):=qI PySem.F.slot_list_remove PySem.F.type_list_remove (aaq J) U g j l p r t
end L3
namespace L2
open PySem PySem.Spec PyProof.Rows
end L2
namespace L2
open PySem PySem.Spec PyProof.Rows
def asf:List V->Hp->VK->Prop:=λxs H Q=>∃n:Int,xs=[.int n]/\∀p,H p=none->Q (.ref p) (upd H p (.rng 0 n))
theorem aa4:x4 X (.type "range") asf:=by intro J s g H j l Q I r h;obtain⟨n,rfl,q⟩:=h;obtain⟨u,rfl,U⟩:=r.one;obtain⟨t,rfl⟩:=(show ∃t,u=Value.int n t from U);refine call_range_1 ?_;refine⟨.ref s.heap.objs.size,_,I.laid (t':=s.toks+1+1) (o:=.rng 0 n) (λb ob q=>xT _ q) (Al _) ?_,rfl,q _ (I.hok.fresh (Al _))⟩;exact⟨s.toks,t,s.toks+1,y1 _ rfl⟩
theorem uR{J:Array Value}(h:ItemsOf (λi v=>∃t,v=.int (0+(i:Int)*1) t) J n):zo ((List.range n).map λi:Nat=>V.int (0+(i:Int))) J.toList:=by
 have len:J.toList.length=n:=by rw[Bx];exact h.1
 have key:∀(l:List Value) (k:Nat),(∀(j:Nat) v,l[j]?=some v->∃t,v=Value.int (0+((k+j:Nat):Int)*1) t)->zo ((List.range' k l.length).map λi:Nat=>V.int (0+(i:Int))) l:=by
  intro l
  induction l with
  |nil=>intro k _;exact .nil
  |cons v r o=>
   intro k g;rw[AL,DE,AO];obtain⟨t,e⟩:=g 0 v rfl;refine .cons ?_ (o (k+1) λj p U=>?_)
   ·exact⟨t,by rw[e];simp⟩
   ·have:=g (j+1) p U;rw[show k+1+j=k+(j+1) by simp +arith only];exact this
 have:=key J.toList 0 λj v U=>by rw[Nat.zero_add];exact h.2 j v (by simpa using U)
 rw[len,<-List.range_eq_range'] at this;exact this
def ans:List V->Hp->VK->Prop:=λxs H Q=>∃a,∃n:Nat,xs=[.ref a]/\H a=some (.rng 0 n)/\n<=100000/\∀p,H p=none->Q (.ref p) (upd H p (.lst ((List.range n).map λi:Nat=>V.int (0+(i:Int)))))
theorem yz(hc:X.calm=true):x4 X (.type "list") ans:=by
 intro g s σ H xs us Q I r h;obtain⟨a,n,rfl,j,l,q⟩:=h;obtain⟨u,rfl,p⟩:=r.one;cases (show u=Value.ref a from p);obtain⟨t,u,v,e⟩:=I.hok a _ j;have hb:(100000:Nat)<=sizeLine:=by decide
 have C:Builtin.Range.rangeSize 0 (n:Int) 1=((n:Nat):Int):=by rw[rangeSize_one];split<;>lia
 refine x0 I.tk (call_list_range (I.ok.hd hc) (show IsRange s.heap a 0 (n:Int) 1 t u v from e) (small_one (by decide) (by decide) (by exact AZ _) (by omega)) C (AQ l (by decide)) λh' tk U c T hS J ht=>?_);refine⟨.ref s.heap.objs.size,_,I.laid (t':=tk) (o:=.lst ((List.range n).map λi:Nat=>V.int (0+(i:Int)))) T (Al _) ?_,rfl,q _ (I.hok.fresh (Al _))⟩;refine⟨by rw[Ab,Bw];exact amq,U.toList,c,uR J,?_⟩;rw[hS]
end L2
namespace L3
open PySem L2
theorem akw:bootBuiltins "range"=some (.type "range"):=by decide +kernel
def sV(te:xj)(τ:jq)(L:qm)(Q:YK):Prop:=te τ L λy L1=>match y with
 |.int n=>(0<=n/\n<=100000)/\∀p,L1 p=none->Q (.ref p) (qf L1 p (.lst (a6 0 n.toNat)))
 |_=>False
theorem ago(n:Nat):x6 G H (a6 0 n) ((List.range n).map λi:Nat=>V.int (0+(i:Int))):=by
 unfold a6;generalize List.range n=l
 induction l with|nil=>rfl|cons k r J=>exact⟨_,_,rfl,rfl,J⟩
theorem u9{J:Pos}(hc:X.calm=true)(I:Gl X "list")(T:X.mg "list"=none)(l:Gl X "range")(o:X.mg "range"=none)(h:QE X e te)
 (h1:starEach [.Call (.Name "range" p2) [e] [] J] X.env=(false,eval (.Call (.Name "range" p2) [e] [] J) X.env)::starEach [] X.env:=by rfl) (h2:(backTo pos (starEach [] X.env)).any (·.1)=false:=by rfl)
 (h3:starEach [e] X.env=(false,eval e X.env)::starEach [] X.env:=by rfl) (h4:(backTo J (starEach [] X.env)).any (·.1)=false:=by rfl):
 QE X (.Call (.Name "list" p) [.Call (.Name "range" p2) [e] [] J] [] pos) (sV te):=
 DX (iA (yz hc) I T ku (ck (iA aa4 l o akw (ck h iF h3) (by decide) (by decide) h3 h4) iF h1) (by decide) (by decide) h1 h2) λσ H Q τ L Q3 rs rl z k=>
 ⟨τ,L,_,rs,rl,z,λv H1 y L1 t1 U r g=>by
  cases y with
  |int n=>
   obtain⟨⟨h0,h5⟩,g⟩:=g;cases (show v=V.int n from r);obtain⟨m,rfl⟩:∃m:Nat,n=(m:Int):=⟨n.toNat,by lia⟩;refine⟨_,rfl,λq t=>⟨q,m,rfl,zp,by lia,λp j=>?_⟩⟩;have C:H1 p=none:=by
    by_cases c:p=q
    ·subst c;exact t
    ·rw[qp c] at j;exact j
   exact k _ _ _ _ (t1.trans ((DW t).trans (DW j))) ((U.skip t).newL j (ago m)) (by rfl) (g p (U.none C))
  |_=>exact g.elim⟩
section
variable {tr:dE}{m:Str}{g:Addr}
end
end L3
namespace TS
open PySem PyProof.Rows
section
variable {w:World}
structure Ord(prog:Program)(w:World)(A:Around)(s:Shared)(κ:SortKind)(Ok:Keyed->Prop)(f:Keyed->Int):Prop where
 lt:∀x y,Ok x->Ok y->∀{E:Value->Shared->Prop} {Q:Bool->Shared->Prop},Q (decide (f x<f y)) s->wpAny (model prog w) A (keyLt' κ x.1 y.1) Q E s
variable {κ:SortKind}{Ok:Keyed->Prop}{f:Keyed->Int}
theorem w_lt(O:Ord prog w A s κ Ok f){st:SortSt}{x y:Keyed}{Q:Option Bool->SortSt->Prop}(J:kindOf st=κ)(U:Ok x)(g:Ok y)(h:Q (some (decide (f x<f y))) st):wpS (model prog w) A E s (lt' x y) Q st:=by rw[lt'_eq];refine Ax (wpS_get ?_);rw[J];refine Ax (wpS_lift (wpAny_attempt (O.lt x y U g ⟨rfl,?_⟩)));exact AJ h
theorem adw{arr:Array Keyed}{x:Keyed}{st:SortSt}{Q:Keyed->SortSt->Prop}(h:arr[i]?=some x)(q:Q x st):wpS (model prog w) A E s (elem' arr i) Q st:=by rw[elem'_eq,h];exact AJ q
end
section
variable {f:Keyed->Int}{a b sx:Array Keyed}{ia ib:Nat}
end
section
variable {w:World}{κ:SortKind}{Ok:Keyed->Prop}{f:Keyed->Int}
end
theorem ama(l:List Keyed){k:Nat}(h:i<=k):l.take i++(l.drop i).take (k-i)=l.take k:=by have:=List.take_add (l:=l) (i:=i) (j:=k-i);rw[show i+(k-i)=k by omega] at this;exact this.symm
section
variable {f:Keyed->Int}{a b sx:Array Keyed}{na nb:Nat}
end
section
variable {w:World}{κ:SortKind}{Ok:Keyed->Prop}{f:Keyed->Int}
end
section
variable {w:World}{κ:SortKind}{Ok:Keyed->Prop}{f:Keyed->Int}
theorem apx{l:List Keyed}(s:l.Pairwise λx y=>f x<=f y)(J:i<=j)(U:j<l.length):f (l[i]'(by exact acx))<=f l[j]:=by
 rcases Nat.lt_or_eq_of_le J with h|h
 ·exact Dp.mp s i j (by exact acx) U h
 ·subst h;exact C3 _
end
theorem iU{arr:Array α}{P R:List α}(h:arr.toList=P++R)(J:n<=R.length):(mirror arr P.length (P.length+n) ((P.length+n-P.length) / 2)).toList=P++((R.take n).reverse++R.drop n):=by
 have U:arr.size=P.length+R.length:=by rw[<-Bx,h];simp
 refine List.ext_getElem? λk=>?_;rw[Be,getElem?_mirror_all (by lia)];by_cases c:P.length<=k/\k<P.length+n
 ·rw[AD c,<-Be,h,Av (by omega),Av (by lia),AF (by simp;omega),Cn (by simp;omega),CF,AX,AD (by omega)];congr 1;lia
 ·rw[AE c,<-Be,h];by_cases c2:k<P.length
  ·rw[AF c2,AF c2]
  ·rw[Av (by exact aaj),Av (by omega),Av (by simp;lia),Dk];congr 1;simp;lia
theorem qZ{arr:Array α}{P R:List α}{k l:Nat}(h:arr.toList=P++R)(J:k<R.length)(U:l<=k):(bubble arr (P.length+k) (P.length+k-(P.length+l))).toList=P++(R.take l++R[k]::((R.drop l).take (k-l)++R.drop (k+1))):=by
 have g:arr.size=P.length+R.length:=by rw[<-Bx,h];simp
 refine List.ext_getElem? λi=>?_;rw[Be,getElem?_bubble (by lia) _ (by exact Nat.sub_le _ _),show P.length+k-(P.length+k-(P.length+l))=P.length+l by omega];by_cases c1:i=P.length+l
 ·rw[AD c1,<-Be,h,c1,Av (by exact BG _ _),Av (by exact BG _ _),Av (by simp;lia)];rw[show P.length+l-P.length-(R.take l).length=0 by simp;lia,show P.length+k-P.length=k by lia,List.getElem?_cons_zero];simp[J]
 ·rw[AE c1];by_cases c2:P.length+l<i/\i<=P.length+k
  ·rw[AD c2,<-Be,h,Av (by omega),Av (by lia),Av (by simp;lia)];obtain⟨d,hd⟩:∃d,i=P.length+l+d+1:=⟨i-P.length-l-1,by omega⟩;rw[show i-P.length-(R.take l).length=d+1 by simp;lia,CI,AF (by simp;omega),CF,AD (by omega),Dk];congr 1;omega
  ·rw[AE c2,<-Be,h];by_cases c3:i<P.length
   ·rw[AF c3,AF c3]
   ·rw[Av (by exact aaj),Av (by omega)];by_cases c4:i<P.length+l
    ·rw[AF (by simp;lia),CF,AD (by omega)]
    ·obtain⟨d,hd⟩:∃d,i=P.length+k+d+1:=⟨i-P.length-k-1,by omega⟩;rw[Av (by simp;lia),show i-P.length-(R.take l).length=(k-l)+d+1 by simp;lia,CI,Av (by simp;omega),Dk];congr 1;simp;lia
section
variable {w:World}{κ:SortKind}{Ok:Keyed->Prop}{f:Keyed->Int}
structure Tl(κ:SortKind)(Ok:Keyed->Prop)(st:SortSt)(P R:List Keyed):Prop where
 kind:kindOf st=κ
 arr:(arrOf st).toList=P++R
 ok:∀x∈R,Ok x
theorem iE(O:Ord prog w A s κ Ok f){st:SortSt}{P R:List Keyed}(T:Tl κ Ok st P R)(hi:i<R.length)(U:j<R.length){a b:Nat}(g:a=P.length+i)(l:b=P.length+j){Q:Option Bool->SortSt->Prop}(q:Q (some (decide (f R[i]<f R[j]))) st):wpS (model prog w) A E s (ltAt' a b) Q st:=by
 have J:∀i (hi:i<R.length),(arrOf st)[P.length+i]?=some R[i]:=λi hi=>by rw[<-Be,T.arr,Av (by exact BG _ _),DF];simp
 subst g l;rw[ltAt'_eq];refine Ax (wpS_get ?_);refine Ax (adw (J i hi) (Ax (adw (J j U) ?_)));exact w_lt O T.kind (T.ok _ (List.getElem_mem _)) (T.ok _ (List.getElem_mem _)) q
def Up(f:Keyed->Int)(R:List Keyed)(n:Nat):Prop:=∀i j (_:i<=j) (_:j<R.length),j<n->f (R[i]'(by exact acx))<=f R[j]
theorem Up.snoc{R:List Keyed}(h:Up f R n)(h1:1<=n)(l:n<R.length)(hs:f (R[n-1]'(by exact tj))<=f R[n]):Up f R (n+1):=λi j J U g=>by
 rcases Dg j n with c|c
 ·exact h i j J U c
 ·have e:j=n:=by lia
  subst e;rcases Dg i j with c2|c2
  ·exact DK (h i (j-1) (by omega) (by exact tj) (by exact amu)) hs
  ·have e:i=j:=by lia
   subst e;exact C3 _
theorem Up.pair{R:List Keyed}(h:Up f R n)(l:n<=R.length):(R.take n).Pairwise λx y=>f x<=f y:=by rw[Dp];intro i j J U g;rw[AX] at J U;rw[Bz,Bz];exact h i j (by exact uI) (by lia) (by lia)
end
section
variable {w:World}{κ:SortKind}{Ok:Keyed->Prop}{f:Keyed->Int}
theorem Tl.same{st:SortSt}{P R R':List Keyed}(T:Tl κ Ok st P R)(p:R'.Perm R){arr:Array Keyed}(h:arr.toList=P++R'):Tl κ Ok (setArr st arr) P R':=⟨T.kind,h,λx J=>T.ok x (p.mem_iff.mp J)⟩
theorem Up.one{R:List Keyed}:Up f R 1:=λi j J U h=>by
 have:i=j:=by lia
 subst this;exact C3 _
theorem iJ{c:Prop}{_:Decidable c}{K T:StateT SortSt Sem α}{P:SortSt->Prop}{Q:α->SortSt->Prop}{st:SortSt}(U:¬c->P st)(key:∀J,P J->wpS (model prog w) A E s K Q J)
 (g:c->(∀J,P J->wpS (model prog w) A E s K Q J)->wpS (model prog w) A E s T Q st):wpS (model prog w) A E s (if c then T else K) Q st:=by
 by_cases h:c
 ·rw[AD h];exact g h key
 ·rw[AE h];exact key st (U h)
def fQ(f:Keyed->Int)(R:List Keyed)(n:Nat):Prop:=∀i j (_:i<=j) (_:j<R.length),j<n->f R[j]<=f (R[i]'(by exact acx))
theorem abg{R R':List Keyed}(e:R'.map f=R.map f)(h1:i<R'.length)(h2:i<R.length):f R'[i]=f R[i]:=by
 have:(R'.map f)[i]?=(R.map f)[i]?:=by rw[e]
 rw[An,An,Ae h1,Ae h2] at this;exact AV this
theorem fQ.same{R R':List Keyed}(D:fQ f R n)(e:R'.map f=R.map f):fQ f R' n:=λi j J g U=>by
 have l:R'.length=R.length:=by have:=Bb List.length e;rwa[Ab,Ab] at this
 rw[abg e g (by lia),abg e (by lia) (by lia)];exact D i j J (by lia) U
theorem fQ.snoc{R:List Keyed}(h:fQ f R n)(h1:1<=n)(l:n<R.length)(hs:f R[n]<=f (R[n-1]'(by exact tj))):fQ f R (n+1):=λi j J U g=>by
 rcases Dg j n with c|c
 ·exact h i j J U c
 ·have e:j=n:=by lia
  subst e;rcases Dg i j with c2|c2
  ·exact DK hs (h i (j-1) (by omega) (by exact tj) (by exact amu))
  ·have e:i=j:=by lia
   subst e;exact C3 _
theorem mD{arr:Array Keyed}{P R:List Keyed}{a b:Nat}{v:Int}(h:arr.toList=P++R)(g:a<=b)(o:b<=R.length)(j:∀i (_:i<R.length),a<=i->i<b->f R[i]=v):
 ∃R',(mirror arr (P.length+a) (P.length+b) ((P.length+b-(P.length+a)) / 2)).toList=P++R'/\R'.Perm R/\R'.map f=R.map f:=by
 have l:(P++R.take a).length=P.length+a:=by simp;lia
 have J:R=R.take a++((R.drop a).take (b-a)++(R.drop a).drop (b-a)):=by rw[Ba,Ba]
 have m:=iU (P:=P++R.take a) (R:=R.drop a) (n:=b-a) (by rw[h,AH,Ba]) (by simp;lia);rw[l,show P.length+a+(b-a)=P.length+b by lia,AH] at m;refine⟨_,m,?_,?_⟩
 ·refine List.Perm.trans ?_ (List.Perm.of_eq J.symm);exact(Dq _).mpr ((Cr _).mpr (Dt _))
 ·have r:((R.drop a).take (b-a)).map f=List.replicate (b-a) v:=by refine List.ext_getElem (by simp;lia) λi h1 h2=>?_;rw[List.getElem_map,Bz,List.getElem_drop,List.getElem_replicate];rw[BS] at h2;exact j _ _ (by lia) (by lia)
  have U:=Bb (List.map f) J;rw[Aj,Aj,r] at U;rw[Aj,Aj,CV,r,List.reverse_replicate,U]
theorem ah7(O:Ord prog w A s κ Ok f){st:SortSt}{P R:List Keyed}(T:Tl κ Ok st P R)(h1:1<=R.length){Q:Option Nat->SortSt->Prop}
 (q:∀n R' arr,1<=n->n<=R.length->R'.Perm R->arr.toList=P++R'->Up f R' n->Q (some n) (setArr st arr)):wpS (model prog w) A E s (countRun' P.length R.length) Q st:=by
 have bc:setArr st (arrOf st)=st:=rfl;refine Ax (wpS_mono (Bq (I:=λx c g=>g=st/\c=(none,x)/\Up f R x)
  (Q:=λc g=>g=st/\∃n,c=(none,n)/\1<=n/\n<=R.length/\Up f R n/\(n=R.length\/∃h:n<R.length,f R[n]<f (R[n-1]'(by exact tj)))) ?_ ?_ ⟨rfl,rfl,Up.one⟩) ?_)
 ·rintro x c g t hx ⟨rfl,rfl,U⟩;dsimp only;refine Ax (iE O T (i:=x) (j:=x-1) hx (by exact tj) rfl (by lia) ?_);dsimp only;by_cases c:f R[x]<f (R[x-1]'(by omega))
  ·rw[AG c,AD rfl];exact AJ ⟨rfl,x,rfl,t,by exact uI,U,.inr ⟨hx,c⟩⟩
  ·rw[Au c,AE (by simp)];exact AJ ⟨rfl,rfl,U.snoc t hx (by omega)⟩
 ·rintro c g ⟨rfl,rfl,U⟩;exact⟨rfl,_,rfl,by lia,by lia,by rw[CW h1] at *;exact U,.inl (by lia)⟩
 ·rintro c g ⟨rfl,n,rfl,a3,a4,U,ag⟩;dsimp only;by_cases c1:(n==R.length)=true
  ·rw[AD c1];exact AJ (q n R (arrOf g) a3 a4 (B9 _) T.arr U)
  rw[AE c1];have c1:¬n=R.length:=by simpa using c1
  have au:n<R.length:=by exact aqh
  have hd:f R[n]<f (R[n-1]'(by omega)):=by
   rcases ag with h|⟨h,h'⟩
   ·exact absurd h c1
   ·exact h'
  refine iJ (P:=λo=>∃arr R',o=setArr g arr/\arr.toList=P++R'/\R'.Perm R/\fQ f R' (n+1)) (λc2=>⟨arrOf g,R,rfl,T.arr,B9 _,?_⟩) ?_ (λc2 key=>?_)
  ·obtain rfl:n=1:=by lia
   exact fQ.snoc (λi j av hj a5=>by (have e:i=j:=by lia);(subst e;exact C3 _)) (Al _) au (Dh hd)
  rotate_left
  ·refine Ax (iE O T (i:=0) (j:=n-1) (by assumption) (by exact tj) rfl (by omega) ?_);dsimp only;by_cases c3:f R[0]<f (R[n-1]'(by omega))
   ·rw[AG c3,AD rfl];exact AJ (q n R (arrOf g) a3 a4 (B9 _) T.arr U)
   rw[Au c3,AE (by simp)];have al:∀i (_:i<R.length),0<=i->i<n->f R[i]=f R[0]:=λi hi _ bb=>by have a1:=U 0 i (Bi _) hi bb;have a2:=U i (n-1) (by lia) (by lia) (by lia);lia
   obtain⟨R',m1,m2,m3⟩:=mD (f:=f) T.arr (Bi n) a4 al;refine Ax (wpS_modify (key _ ⟨_,R',rfl,m1,m2,fQ.same (fQ.snoc (λi j av hj a5=>?_) a3 au (Dh hd)) m3⟩));rw[al j hj (Bi _) a5,al i (by lia) (Bi _) (by lia)];exact C3 _
  rintro _ ⟨arr,R0,rfl,r,aL,D0⟩;refine Ax (wpS_lift (BC ⟨rfl,?_⟩));have l0:R0.length=R.length:=aL.length_eq;refine Ax (wpS_mono (Bq (I:=λx c o=>∃J arr R',c=(none,x,J)/\o=setArr g arr/\arr.toList=P++R'/\R'.Perm R/\fQ f R' x/\J+1<=x/\∃v,∀i (_:i<R'.length),x-(J+1)<=i->i<x->f R'[i]=v)
   (Q:=λc o=>∃n J arr R',c=(none,n,J)/\o=setArr g arr/\arr.toList=P++R'/\R'.Perm R/\fQ f R' n/\J+1<=n/\n<=R.length/\∃v,∀i (_:i<R'.length),n-(J+1)<=i->i<n->f R'[i]=v) ?_ ?_ ⟨0,arr,R0,rfl,rfl,r,aL,D0,by lia,f (R0[n]'(by lia)),λi hi h2 h3=>by (have e:i=n:=by lia);(subst e;rfl)⟩) ?_)
  ·rintro x c o t hx ⟨J,arr,p,rfl,rfl,r,l,D,hq,v,C⟩;have l1:p.length=R.length:=l.length_eq;have T1:=T.same l r;dsimp only;refine Ax (iE O T1 (i:=x) (j:=x-1) (by lia) (by lia) rfl (by lia) ?_);dsimp only;by_cases c:f (p[x]'(by lia))<f (p[x-1]'(by omega))
   ·rw[AG c,AD rfl];refine iJ (P:=λo=>∃arr R',o=setArr g arr/\arr.toList=P++R'/\R'.Perm R/\fQ f R' (x+1)) (λ_=>⟨arr,p,rfl,r,l,D.snoc (by lia) (by lia) (Dh c)⟩) ?_ (λc2 key=>?_)
    ·rintro _ ⟨arr,R',rfl,r,l,D⟩;exact AJ ⟨0,arr,R',rfl,rfl,r,l,D,by lia,f (R'[x]'(by have:=l.length_eq;lia)),λi hi h2 h3=>by (have e:i=x:=by lia);(subst e;rfl)⟩
    ·obtain⟨R',m1,m2,m3⟩:=mD (f:=f) (a:=x-(J+1)) (b:=x) r (by lia) (by lia) C;refine Ax (wpS_modify (key _ ⟨_,R',rfl,?_,m2.trans l,fQ.same (D.snoc (by lia) (by lia) (Dh c)) m3⟩));rw[<-m1];show(mirror arr (P.length+x-(J+1)) (P.length+x) ((P.length+x-(P.length+x-(J+1))) / 2)).toList=_;rw[show P.length+x-(J+1)=P.length+(x-(J+1)) by lia]
   ·rw[Au c,AE (by simp)];refine Ax (iE O T1 (i:=x-1) (j:=x) (by omega) (by lia) (by lia) rfl ?_);dsimp only;by_cases c3:f (p[x-1]'(by omega))<f (p[x]'(by lia))
    ·rw[AG c3,AD rfl];exact AJ ⟨x,J,arr,p,rfl,rfl,r,l,D,hq,by lia,v,C⟩
    ·rw[Au c3,AE (by simp)];refine AJ ⟨J+1,arr,p,rfl,rfl,r,l,D.snoc (by lia) (by lia) (by lia),by lia,v,λi hi h2 h3=>?_⟩;rcases Dg i x with h|h
     ·exact C i hi (by lia) h
     ·have:i=x:=by lia
      subst this;rw[<-C (i-1) (by lia) (by lia) (by lia)];lia
  ·rintro c o ⟨J,arr,p,rfl,rfl,r,l,D,hq,v,C⟩;exact⟨_,J,arr,p,rfl,rfl,r,l,D,hq,by lia,v,C⟩
  ·rintro c o ⟨n,J,arr,p,rfl,rfl,r,l,D,hq,g2,v,C⟩;have l1:p.length=R.length:=l.length_eq;dsimp only;refine iJ (P:=λo=>∃arr R',o=setArr g arr/\arr.toList=P++R'/\R'.Perm R/\fQ f R' n) (λ_=>⟨arr,p,rfl,r,l,D⟩) ?_ (λc2 key=>?_)
   rotate_left
   ·obtain⟨R',m1,m2,m3⟩:=mD (f:=f) (a:=n-(J+1)) (b:=n) r (by lia) (by lia) C;refine Ax (wpS_modify (key _ ⟨_,R',rfl,?_,m2.trans l,D.same m3⟩));rw[<-m1];show(mirror arr (P.length+n-(J+1)) (P.length+n) ((P.length+n-(P.length+n-(J+1))) / 2)).toList=_;rw[show P.length+n-(J+1)=P.length+(n-(J+1)) by lia]
   clear C D r l l1;rintro _ ⟨arr,p,rfl,r,l,D⟩;have l1:p.length=R.length:=l.length_eq;have T1:=T.same l r;have T':=T1.same (R':=(p.take n).reverse++p.drop n) (((Cr _).mpr (Dt _)).trans (by rw[Ba])) (iU r (by lia));obtain⟨R',eR⟩:∃R',R'=(p.take n).reverse++p.drop n:=⟨_,rfl⟩;have ba:R'.Perm R:=by rw[eR];exact(((Cr _).mpr (Dt _)).trans (by rw[Ba])).trans l
   have lR:R'.length=R.length:=ba.length_eq;have U':Up f R' n:=λi j av hj a5=>by
    subst eR;rw[Dz (by simp;lia),Dz (by simp;lia),List.getElem_reverse,List.getElem_reverse,Bz,Bz];refine D _ _ ?_ (by simp;omega) ?_
    ·simp;omega
    ·simp;omega
   rw[<-eR] at T';refine Ax (wpS_modify ?_);refine Ax (wpS_mono (Bq (I:=λx c o=>o=setArr g (mirror arr P.length (P.length+n) ((P.length+n-P.length) / 2))/\c=(none,x)/\Up f R' x)
    (Q:=λc o=>o=setArr g (mirror arr P.length (P.length+n) ((P.length+n-P.length) / 2))/\∃n,c=(none,n)/\1<=n/\n<=R.length/\Up f R' n) ?_ ?_ ⟨rfl,rfl,U'⟩) ?_)
   ·rintro x c o t hx ⟨rfl,rfl,U⟩;dsimp only;refine Ax (iE O T' (i:=x) (j:=x-1) (by lia) (by omega) rfl (by lia) ?_);dsimp only;by_cases c:f (R'[x]'(by omega))<f (R'[x-1]'(by omega))
    ·rw[AG c,AD rfl];exact AJ ⟨rfl,x,rfl,by lia,by exact uI,U⟩
    ·rw[Au c,AE (by simp)];exact AJ ⟨rfl,rfl,U.snoc (by omega) (by lia) (by omega)⟩
   ·rintro c o ⟨rfl,rfl,U⟩;exact⟨rfl,_,rfl,by lia,by lia,U⟩
   ·rintro c o ⟨rfl,n,rfl,k1,k2,U⟩;exact AJ (q n R' _ k1 k2 ba T'.arr U)
end
section
variable {w:World}{κ:SortKind}{Ok:Keyed->Prop}{f:Keyed->Int}
theorem Up.of{R:List Keyed}(h:(R.take n).Pairwise λx y=>f x<=f y):Up f R n:=λi j J g U=>by have:=apx h (i:=i) (j:=j) J (by simp;lia);rw[Bz,Bz] at this;exact this
theorem aan{R:List Keyed}{k l:Nat}(J:k<R.length)(U:l<=k):(R.take l++R[k]::((R.drop l).take (k-l)++R.drop (k+1))).Perm R:=by
 have e:R=R.take l++((R.drop l).take (k-l)++(R[k]::R.drop (k+1))):=by rw[<-AH,ama _ U,<-Cw J,Ba]
 refine List.Perm.trans ?_ (List.Perm.of_eq e.symm);exact(Dq _).mpr Cu.symm
theorem aj0{R:List Keyed}{k l:Nat}(r:k<R.length)(t:l<=k)(U:Up f R k)(lo:∀i (_:i<l),f (R[i]'(by lia))<=f R[k])(hi:∀i (_:i<k),l<=i->f R[k]<=f (R[i]'(by exact abk))):
 Up f (R.take l++R[k]::((R.drop l).take (k-l)++R.drop (k+1))) (k+1):=by
 apply Up.of;have e:R.take l++R[k]::((R.drop l).take (k-l)++R.drop (k+1))=(R.take l++R[k]::(R.drop l).take (k-l))++R.drop (k+1):=by simp
 rw[e,List.take_left' (by simp;lia)];have J:=U.pair (Bd r);rw[<-ama R t] at J;have J:=C4.mp J;have C:∀y∈(R.drop l).take (k-l),f R[k]<=f y:=λy g=>by obtain⟨j,p,rfl⟩:=List.getElem_of_mem g;rw[AX,Ct] at p;rw[Bz,List.getElem_drop];exact hi (l+j) (by lia) (by exact BG _ _)
 have I:∀x∈R.take l,f x<=f R[k]:=λx o=>by obtain⟨j,p,rfl⟩:=List.getElem_of_mem o;rw[AX] at p;rw[Bz];exact lo j (by lia)
 refine C4.mpr ⟨J.1,List.pairwise_cons.mpr ⟨C,J.2.1⟩,λx o y g=>?_⟩;rcases Ap.mp g with rfl|g
 ·exact I x o
 ·exact J.2.2 x o y g
theorem amz(O:Ord prog w A s κ Ok f){st:SortSt}{P R:List Keyed}(T:Tl κ Ok st P R){ok:Nat}(hn:n<=R.length)(h1:1<=ok)(ho:ok<=n)(U:Up f R ok){Q:Bool->SortSt->Prop}
 (q:∀R' arr,R'.Perm R->arr.toList=P++R'->Up f R' n->Q true (setArr st arr)):wpS (model prog w) A E s (binarySort' P.length n ok) Q st:=by
 have a1:setArr st (arrOf st)=st:=rfl;refine Ax (wpS_mono (Bq (I:=λx c J=>c=(none,())/\∃R' arr,J=setArr st arr/\R'.Perm R/\arr.toList=P++R'/\Up f R' x)
  (Q:=λc J=>c=(none,())/\∃R' arr,J=setArr st arr/\R'.Perm R/\arr.toList=P++R'/\Up f R' n) ?_ ?_ ⟨rfl,R,arrOf st,rfl,B9 _,T.arr,by rw[C7 h1];exact U⟩) ?_)
 ·rintro x c J a2 hx ⟨rfl,R',arr,rfl,p,t,o⟩;have T':=T.same p t;have lR:R'.length=R.length:=p.length_eq;have g:x<R'.length:=by lia
  dsimp only;refine Ax (wpS_mono (Bq (I:=λy c J=>J=setArr st arr/\∃l r,c=(none,l,r)/\l<=r/\r<=x/\r-l+y<=x/\(∀i (_:i<l) (_:i<R'.length),f R'[i]<=f R'[x])/\(∀i (_:i<x),r<=i->f R'[x]<=f (R'[i]'(by exact abk))))
   (Q:=λc J=>J=setArr st arr/\∃l,c=(none,l,l)/\l<=x/\(∀i (_:i<l) (_:i<R'.length),f R'[i]<=f R'[x])/\(∀i (_:i<x),l<=i->f R'[x]<=f (R'[i]'(by lia)))) ?_ ?_ ⟨rfl,0,x,rfl,Bi _,Al _,by exact Nat.sub_le _ _,λi h=>by lia,λi h h'=>by omega⟩) ?_)
  ·rintro y c J _ hy ⟨rfl,l,r,rfl,g1,g2,g3,C,g5⟩;dsimp only;by_cases c:l>=r
   ·rw[AD c];obtain rfl:l=r:=by lia
    exact AJ ⟨rfl,l,rfl,g2,C,g5⟩
   ·rw[AE c];refine Ax (iE O T' (i:=x) (j:=(l+r) / 2) g (by lia) rfl rfl ?_);dsimp only;by_cases e:f R'[x]<f (R'[(l+r) / 2]'(by lia))
    ·rw[AG e,AD rfl];refine AJ ⟨rfl,l,(l+r) / 2,rfl,by lia,by lia,by omega,C,λi h h'=>?_⟩;exact DK (Dh e) (o _ _ h' (by exact abk) h)
    ·rw[Au e,AE (by simp)];refine AJ ⟨rfl,(l+r) / 2+1,r,rfl,by lia,g2,by omega,λi h h'=>?_,g5⟩;exact DK (o i ((l+r) / 2) (by exact ark) (by lia) (by lia)) (by omega)
  ·rintro c J ⟨rfl,l,r,rfl,g1,g2,g3,C,g5⟩;obtain rfl:l=r:=by lia
   exact⟨rfl,l,rfl,g2,C,g5⟩
  ·rintro c J ⟨rfl,l,rfl,g2,C,g5⟩;dsimp only;refine Ax (wpS_modify ?_);exact AJ ⟨rfl,_,_,rfl,(aan g g2).trans p,qZ t g g2,aj0 g g2 o (λi h=>C i h (by lia)) g5⟩
 ·rintro c J ⟨rfl,R',arr,rfl,p,t,o⟩;exact⟨rfl,R',arr,rfl,p,t,by rw[C7 h1,CW ho] at o;exact o⟩
 ·rintro c J ⟨rfl,R',arr,rfl,p,t,o⟩;exact AJ (q R' arr p t o)
end
section
variable {w:World}{κ:SortKind}{Ok:Keyed->Prop}{f:Keyed->Int}
end
open PySem PyProof.Rows PySem.W
def amo(h:Heap)(B:Int)(x:Keyed):Prop:=∃a o n r p t u,x.1=.ref a/\h.get? a=some o/\o.data=.seq #[.int r t,.int p u] n/\0<=p/\p<B
noncomputable def num(h:Heap)(B:Int)(x:Keyed):Int:=match x.1 with
 |.ref a=>match h.get? a with
  |some o=>match o.data with
   |.seq xs _=>match xs.toList with
    |[.int r _,.int p _]=>r*B+p
    |_=>0
   |_=>0
  |none=>0
 |_=>0
theorem tR{B:Int}{x:Keyed}{o:Obj}{r p:Int}{t u:Tok}(J:x.1=.ref a)(U:h.get? a=some o)(g:o.data=.seq #[.int r t,.int p u] n):num h B x=r*B+p:=by unfold num;simp[J,U,g]
theorem abw{w:World}{B:Int}:Ord prog w A s (tuples' true) (amo s.heap B) (num s.heap B):=by
 constructor;rintro x y ⟨a1,o1,n1,J,U,t,C,o,g1,d1,b1,c1⟩ ⟨a2,o2,n2,g,j,I,T,p,g2,d2,b2,c2⟩ E Q h;rw[tR o g1 d1,tR p g2 d2] at h;rw[o,p];refine kat_lt g1 d1 g2 d2 ?_;show KatLex prog w A true _ Q [(.int J t,.int g I),(.int U C,.int j T)] 0 s;refine kat_cons (wpAny_eqBool_int ?_);by_cases c:J=g
 ·subst c;rw[beq_self_eq_true];refine kat_yes (kat_cons (wpAny_eqBool_int ?_));by_cases r:U=j
  ·subst r;rw[beq_self_eq_true];refine kat_yes (kat_nil ?_);have e:decide (J*B+U<J*B+U)=false:=Au (by lia);rw[e] at h;exact h
  ·rw[DP r];refine kat_no (kat_one _ _ (PyProof.Rows.lt_int ?_));have e:decide (J*B+U<J*B+j)=decide (U<j):=by
    by_cases z:U<j
    ·rw[AG z];exact AG (by lia)
    ·rw[Au z];exact Au (by lia)
   rw[e] at h;exact h
 ·rw[DP c];refine kat_no (oneLt_int ?_);have e:decide (J*B+U<g*B+j)=decide (J<g):=by
   by_cases z:J<g
   ·rw[AG z];have l:(J+1)*B<=g*B:=CY (by assumption) (by lia);rw[Int.add_mul,Int.one_mul] at l;exact AG (by omega)
   ·rw[Au z];have l:(g+1)*B<=J*B:=CY (by lia) (by lia);rw[Int.add_mul,Int.one_mul] at l;exact Au (by lia)
  rw[e] at h;exact h
section
variable {w:World}{κ:SortKind}{Ok:Keyed->Prop}{f:Keyed->Int}
theorem aap{N:Nat}(h1:1<=N)(h:N<64):(sortPriv% PySem.Builtin.minRun) N N 0=N:=by obtain⟨r,rfl⟩:∃r,N=r+1:=⟨N-1,by omega⟩;show minRun' (r+1) (r+1) 0=r+1;rw[minRun'_succ,AD h]
structure Srt(f:Keyed->Int)(l:List Keyed)(st:SortSt):Prop where
 fl:failedOf st=none
 pn:(pendingOf st).size<=1
 pm:(arrOf st).toList.Perm l
 pw:(arrOf st).toList.Pairwise λx y=>f x<=f y
theorem aav(O:Ord prog w A s κ Ok f){st:SortSt}{Q:Unit->SortSt->Prop}(o:(arrOf st).size<64)(hk:kindOf st=κ)(r:pendingOf st=#[])(hf:failedOf st=none)(ok:∀x∈(arrOf st).toList,Ok x)
 (q:∀J,failedOf J=none->(arrOf J).toList.Perm (arrOf st).toList->((arrOf J).toList.Pairwise λx y=>f x<=f y)->Q () J):wpS (model prog w) A E s sortRuns' Q st:=by
 refine Ax (wpS_get ?_);dsimp only;have C:(arrOf st).toList.length=(arrOf st).size:=Bx;obtain⟨N,eN⟩:∃N,N=(arrOf st).size:=⟨_,rfl⟩;rw[<-eN] at o C ⊢;obtain⟨R,t⟩:∃R,R=(arrOf st).toList:=⟨_,rfl⟩;rw[<-t] at C ok q;generalize a1:(sortPriv% PySem.Builtin.minRun) N N 0=mr;refine Ax (wpS_mono (Bq (I:=λx c J=>∃lo,c=(none,lo)/\((x=0/\lo=0/\J=st)\/(lo=N/\Srt f R J)))
  (Q:=λc J=>∃lo,c=(none,lo)/\Srt f R J) ?_ ?_ ⟨0,rfl,.inl ⟨rfl,rfl,rfl⟩⟩) ?_)
 ·rintro x c J _ hx ⟨lo,rfl,h⟩;dsimp only;by_cases c:lo>=N
  ·rw[AD c];rcases h with⟨h1,h2,_⟩|⟨_,h⟩
   ·omega
   ·exact AJ ⟨lo,rfl,h⟩
  rw[AE c];obtain⟨rfl,rfl,rfl⟩:x=0/\lo=0/\J=st:=by
   rcases h with h|⟨h,_⟩
   ·exact h
   ·omega
  have em:mr=N:=by rw[<-a1];exact aap (by omega) o
  subst em;have T:Tl κ Ok J [] R:=⟨hk,t.symm,ok⟩;rw[Df,<-C];refine Ax (ah7 O T (by omega) λn R1 U g1 g2 g p U1=>?_);dsimp only;have T1:=T.same g p;have l1:R1.length=R.length:=g.length_eq;have js:∀(arr:Array Keyed) (R2:List Keyed) (l:Nat),R2.Perm R->arr.toList=[]++R2->Up f R2 R.length->l=R.length->∃lo,((none,0+l):Option Unit×Nat)=(none,lo)/\((0+1=0/\lo=0/\setPending (setArr J arr) ((pendingOf (setArr J arr)).push (0,l,0))=J)\/(lo=R.length/\Srt f R (setPending (setArr J arr) ((pendingOf (setArr J arr)).push (0,l,0))))):=λarr R2 l p2 e2 U2 en=>by
   refine⟨0+l,rfl,.inr ⟨by omega,⟨hf,?_,?_,?_⟩⟩⟩
   ·show((pendingOf J).push (0,l,0)).size<=1;rw[r];exact Al 1
   ·show arr.toList.Perm R;rw[e2];exact p2
   ·show arr.toList.Pairwise _;rw[e2];have:=U2.pair (by rw[p2.length_eq];exact Al _);rw[<-p2.length_eq,Bh] at this;exact this
  by_cases cm:n<R.length
  ·rw[AD cm];refine Ax (wpS_lift (BC ⟨rfl,?_⟩));rw[Nat.min_self];refine Ax (amz O T1 (by omega) g1 (by omega) U1 λR2 j a2 a3 U2=>?_);rw[AE (by simp)];refine Ax (wpS_get ?_);have eb:(pendingOf (setArr (setArr J U) j)).back?=none:=by show(pendingOf J).back?=none;rw[r];rfl
   rw[eb];exact Ax (wpS_modify (AJ (js j R2 _ (a2.trans g) a3 U2 rfl)))
  ·rw[AE cm];refine Ax (wpS_get ?_);have eb:(pendingOf (setArr J U)).back?=none:=by show(pendingOf J).back?=none;rw[r];rfl
   rw[eb];have en:n=R.length:=by omega
   exact Ax (wpS_modify (AJ (js U R1 _ g p (en▸U1) en)))
 ·rintro c J ⟨lo,rfl,h⟩;refine⟨lo,rfl,?_⟩;rcases h with⟨h1,h2,rfl⟩|⟨_,h⟩
  ·have:R=[]:=BK (by omega);refine⟨hf,by rw[r];exact Bi _,by rw[<-t],?_⟩;rw[<-t,this];exact List.Pairwise.nil
  ·exact h
 ·rintro c J ⟨lo,rfl,h⟩;dsimp only;refine Ax (wpS_mono (Bq (I:=λy c qM=>c=(none,())/\Srt f R qM) (Q:=λc qM=>c=(none,())/\Srt f R qM) ?_ ?_ ⟨rfl,h⟩) ?_)
  ·rintro y c qM _ hy ⟨rfl,h3⟩;refine Ax (wpS_get ?_);rw[AD h3.pn];exact AJ ⟨rfl,h3⟩
  ·rintro c qM h3;exact h3
  ·rintro c qM ⟨rfl,h3⟩;exact AJ (q qM h3.fl h3.pm h3.pw)
end
section
variable {w:World}
def xM(h:Heap)(B:Int)(v:Value):Prop:=∃a o n r p t u,v=.ref a/\h.get? a=some o/\o.cls=.type "tuple" /\ o.data=.seq #[.int r t,.int p u] n/\0<=p/\p<B
theorem xM.pair{B:Int}{x:Keyed}(k:xM h B x.1):amo h B x:=by obtain⟨a,o,n,r,p,t,u,J,U,_,g,j,l⟩:=k;exact⟨a,o,n,r,p,t,u,J,U,g,j,l⟩
theorem tups{h:Heap}{B:Int}:∀{ks:List Value},(∀v∈ks,xM h B v)->∃fs,KatTups h ks fs/\fs.length=ks.length/\∀v∈fs,∃r t,v=Value.int r t
 |[],_=>⟨[],trivial,rfl,λv J=>by simp at J⟩
 |k::ks,U=>by
  obtain⟨fs,h1,h2,h3⟩:=tups (ks:=ks) λv J=>U v (Ad _ J);obtain⟨a,o,n,r,p,t,u,rfl,g,j,l,_,_⟩:=U k (Ak ..);refine⟨.int r t::fs,KatTups.cons g j l rfl h1,by simp[h2],λv J=>?_⟩;rcases Ap.mp J with rfl|J
  ·exact⟨r,t,rfl⟩
  ·exact h3 v J
theorem aj3{B:Int}{ks:List Value}{Q:SortKind->Shared->Prop}(J:∀v∈ks,xM s.heap B v)(h0:0<ks.length)(q:Q (tuples' true) s):wpAny (model prog w) A (keyKind' ks.toArray) Q E s:=by
 obtain⟨fs,h1,h2,h3⟩:=tups J;refine kat_kind (T:=.type "int") h1 (by lia) (λv U=>?_) (by decide) ?_
 ·obtain⟨r,t,rfl⟩:=h3 v U;exact .now
 ·exact q
theorem ab7{R:α->α->Prop}:∀{l:List α},l.length<2->l.Pairwise R
 |[],_=>List.Pairwise.nil
 |[_],_=>List.pairwise_singleton _ _
 |_::_::_,h=>absurd h (by simp)
theorem anr{kS:Addr}{vs ks:List Value}{e j:Nat}{B:Int}{P:PySem.Fin->Shared->Prop}(p:s.heap.get? kS=some (seqObj "list" ks.toArray e))(ha:s.heap.get? a=some (seqObj "list" #[] j))(r:kS≠a)(hl:ks.length=vs.length)(t:vs.length<=63)
 (T:∀v∈ks,xM s.heap B v)
 (h:∀h' tk (xs:List Keyed) c,(∀b,b≠kS->b≠a->h'.get? b=s.heap.get? b)->h'.get? a=some (seqObj "list" (List.toArray (xs.map (·.2))) c)->xs.Perm (ks.zip vs)->(xs.Pairwise λx y=>num s.heap B x<=num s.heap B y)->P (.done (.ret .none)) { s with heap:=h',toks:=tk }):
 wpAny (model prog w) A (ksk_end a false vs.toArray j (.ref kS) ks.toArray) P E s:=by
 have hz:vs.length<=sizeLine:=AQ t (by decide);have l:(ks.toArray.zip vs.toArray).toList=ks.zip vs:=by simp
 have tail:∀st:SortSt,failedOf st=none->(arrOf st).toList.Perm (ks.zip vs)->((arrOf st).toList.Pairwise λx y=>num s.heap B x<=num s.heap B y)->wpAny (model prog w) A (ksk_tail a false j (.ref kS) st) P E s:=by
  intro st hf hp hs;have s1:=Db s.heap kS (Obj.mapSeq λ_=>(#[]:Array Value));have U:(s.heap.update kS (Obj.mapSeq λ_=>(#[]:Array Value))).get? a=some (seqObj "list" #[] j):=(s1.2 a r.symm).trans ha;have s2:=Db (s.heap.update kS (Obj.mapSeq λ_=>(#[]:Array Value))) a (Obj.mapSeq λ_=>(arrOf st).map (·.2));have len:((arrOf st).map (·.2)).size<=sizeLine:=by have:=hp.length_eq;rw[DQ,Bx] at this;rw[Array.size_map];lia
  unfold ksk_tail
  try dsimp only
  refine Aa (listUpdate_at p rfl ?_ (by rw[Ao];lia) (Bi _));refine Aa (wpAny_letGo ?_);refine Aa (seqEpoch_at U rfl ?_);refine Aa (listUpdate_at U rfl ?_ (Bi _) (by simp only[BP,if_false];exact B1 len));rw[hf];simp only[bne_self_eq_false,BP,if_false];obtain⟨c2,g⟩:∃c2,((s.heap.update kS (Obj.mapSeq λ_=>(#[]:Array Value))).update a (Obj.mapSeq λ_=>(arrOf st).map (·.2))).get? a=some (seqObj "list" ((arrOf st).map (·.2)) c2):=⟨_,get?_update_seq U λ_=>(arrOf st).map (·.2)⟩;refine Ag (h _ _ (arrOf st).toList c2 (λb C I=>?_) ?_ hp hs)
  ·exact(s2.2 b I).trans (s1.2 b C)
  ·have em:(arrOf st).map (·.2)=List.toArray ((arrOf st).toList.map (·.2)):=by apply Array.toList_inj.mp;rw[Array.toList_map]
   rw[em] at g ⊢;exact g
 unfold ksk_end;simp only[BP,if_false];by_cases h2:vs.toArray.size<2
 ·rw[AD h2,AD h2];refine Aa (Ag ?_);rw[StateT.run_pure];refine Aa (Ag ?_);refine tail _ rfl (by show(ks.toArray.zip vs.toArray).toList.Perm _;rw[l]) ?_;show(ks.toArray.zip vs.toArray).toList.Pairwise _;rw[l];rw[Ao] at h2;have:(ks.zip vs).length<2:=by rw[DQ];lia
  exact ab7 this
 ·rw[AE h2,AE h2];rw[Ao] at h2;refine Aa (aj3 T (by omega) ?_);refine Aa (AW (aav (E:=E) (abw (B:=B)) (st:=SortSt.mk' (tuples' true) (ks.toArray.zip vs.toArray) #[] 7 none)
   (Q:=λ_ J=>failedOf J=none/\(arrOf J).toList.Perm (ks.zip vs)/\((arrOf J).toList.Pairwise λx y=>num s.heap B x<=num s.heap B y)) (by show(ks.toArray.zip vs.toArray).size<64;simp;omega) rfl rfl rfl (λx o=>?_) λJ b1 b2 b3=>⟨b1,?_,b3⟩) ?_ λ_ _ e=>e)
  ·have o:x∈(ks.toArray.zip vs.toArray).toList:=o;rw[l] at o;exact xM.pair (T _ (C6 (a:=x.1) (b:=x.2) o).1)
  ·have b2:(arrOf J).toList.Perm (ks.toArray.zip vs.toArray).toList:=b2;rw[l] at b2;exact b2
  ·rintro⟨⟨⟩,J⟩ s' ⟨rfl,b1,b2,b3⟩;exact tail J b1 b2 b3
end
section
variable {w:World}
end
end TS
namespace L2
open PySem PySem.Spec PyProof.Rows
end L2
namespace L3
open PySem L2
open PySem L2 Words
def bN:Wd->Y
 |.leaf t n=>.tup [.str (kL t),.str n]
 |.node e l r=>.tup [.str (kN e),bN l,bN r]
def fG:Y:=(.tup [(.str "plain"),(.str "turned")])
theorem qw{Q:α->qm->Prop}{o:Option α}{v:α}(e:o=some v)(h:Q v L):tJ L Q o:=by rw[e];exact h
abbrev jf(i:Int):xj:=yC (.int i)
abbrev dH(x:Str):xj:=yC (.str x)
abbrev jy(i:Nat)(n:Int):xj:=zn ay (qb i) (yC (.int n))
abbrev cY(i:Nat):xj:=iT jL (qd (qb i) qz)
abbrev fJ(a b:xj):jH:=yB (zn (wB false) a b)
abbrev rdN(a b:xj):jH:=yB (zn (wB true) a b)
abbrev zF(a b:xj):xj:=vt (qd a (qd b qz))
abbrev x9(a:xj):dE:=qd a qz
abbrev a9(a b:xj):dE:=qd a (qd b qz)
def yi:ke:=(je (zn (mE false) (jy 0 0) (yC fG)))
def kX:Bool->Bool->Str
 |true,t=>kL t
 |false,e=>kN e
def fU:jr:=λys L Q=>∃lf b rest,ys=[.tup (.str (kX lf b)::rest)]/\Q (.bl lf) L
theorem yS(t:Bool):uY (.str (kL t)) [.str "plain",.str "turned"]=true:=by cases t<;>decide +kernel
theorem wY(t:Bool):uY (.str (kN t)) [.str "plain",.str "turned"]=false:=by cases t<;>decide +kernel
theorem uP:∀ys L Q,fU ys L Q->xp yi 1 ys L Q:=by
 rintro ys L Q ⟨lf,b,rest,rfl,q⟩;have J:eM (Y.str (kX lf b)::rest) 0=some (Y.str (kX lf b)):=xq (xs:=Y.str (kX lf b)::rest) (j:=0) rfl;walk_at "w";rw[J];refine⟨rfl,rfl,js ?_⟩;cases lf with
 |true=>
  rw[show nb false (uY (fW (.str (kX true b))) ([Y.str "plain",.str "turned"].map fW))=true from yS b];exact q
 |false=>
  rw[show nb false (uY (fW (.str (kX false b))) ([Y.str "plain",.str "turned"].map fW))=false from wY b];exact q
theorem yX(t:Bool):List.lookup (kL t) [(("plain" : Str),("turned" : Str)),("turned","plain"),("both","either"),("either","both")]=some (kL (!t)):=by cases t<;>decide +kernel
theorem y8(t:Bool):List.lookup (kN t) [(("plain" : Str),("turned" : Str)),("turned","plain"),("both","either"),("either","both")]=some (kN (!t)):=by cases t<;>decide +kernel
theorem jc.str(x:Str):jc L n (.str x) (.s (.str x)):=by cases n with|zero=>exact⟨rfl,rfl⟩|succ n=>exact .inl ⟨rfl,rfl⟩
abbrev EJ:=@jc.str
theorem jc.int(x:Int):jc L n (.int x) (.s (.int x)):=by cases n with|zero=>exact⟨rfl,rfl⟩|succ n=>exact .inl ⟨rfl,rfl⟩
abbrev EG:=@jc.int
theorem fh{L:qm}:∀{wd:Wd} {n:Nat},wd.depth<=n->jc L n (bN wd) (o6 wd)
 |.leaf t nm,n+1,_=>.inr (.inl ⟨_,_,rfl,rfl,.cons (EJ _) (.cons (EJ _) .nil)⟩)
 |.node e l r,n+1,h=>by have J:max l.depth r.depth+1<=n+1:=h;exact .inr (.inl ⟨_,_,rfl,rfl,.cons (EJ _) (.cons (fh (by lia)) (.cons (fh (by lia)) .nil))⟩)
theorem wr(e:L a=some (.lst ys))(p:Paired (jc L n) ys ds):jc L (n+1) (.ref a) (.lst ds):=.inr (.inr ⟨ys,ds,rfl,rfl,aO e,p⟩)
theorem aS(p:Paired (jc L n) ys ds):jc L (n+1) (.tup ys) (.tup ds):=.inr (.inl ⟨ys,ds,rfl,rfl,p⟩)
theorem abp{neg:Bool}{u v:Wd}{Q:YK}(U:u.depth<=128)(q:Q (.bl (nb neg (Da.eq (o6 u) (o6 v)))) L):wB neg (bN u) (bN v) L Q:=by
 have J:∀w:Wd,xN (bN w)=true:=λw=>by cases w<;>rfl
 have:xN (bN u)=true/\xN (bN v)=true/\∃n m d e,n<=128/\jc L n (bN u) d/\jc L m (bN v) e/\Q (.bl (nb neg (Da.eq d e))) L:=
  ⟨J u,J v,u.depth,v.depth,o6 u,o6 v,U,fh (Al _),fh (Al _),q⟩
 cases u<;>cases v<;>exact this
theorem wz{neg:Bool}{zs:List Y}{es:List Da}{Q:YK}(J:n<128)(U:L a=some (.lst ys))(g:L b=some (.lst zs))(pa:Paired (jc L n) ys ds)(pb:Paired (jc L m) zs es)(q:Q (.bl (nb neg (Da.eqs ds es))) L):
 wB neg (.ref a) (.ref b) L Q:=⟨rfl,rfl,n+1,m+1,_,_,J,wr U pa,wr g pb,q⟩
def nY(hs:List Nat):List Y:=hs.map λn:Nat=>.int (n:Int)
theorem ko(hs:List Nat):(nY hs).length=hs.length:=by unfold nY;rw[Ab]
theorem zw{p:Addr}{o:LO}(h:qf L a o p=none):L p=none:=by
 by_cases c:p=a
 ·subst c;rw[q8] at h;cases h
 ·rw[q9 c] at h;exact h
theorem jv{l:List α}{x:α}(h:l[i]?=some x):i<l.length:=(AK.mp h).1
def uL:ke:=(je (zn am (zn w6 (zn rT (zn kc (zn kc (zn rT (zn w6 (qb 0) (jf 1000003)) (jf 7)) (zn rT (qb 1) (qb 1))) (jf 1)) (qb 2)) (jf 2147483647)) (jf 16)))
def mZ(J:jr):ke:=(qr (jz (fJ (cY 0) (jf 2)) (je (jf 1)) jk)
 (je (zn kc (zn kc (jf 1) (zc J (x9 (jy 0 1)))) (zc J (x9 (jy 0 2))))))
def rM(J:jr):ke:=(qr (zr (zn ay (qb 0) (qb 1)) (qh 2))
 (qr (jz (fJ (cY 2) (jf 2)) (je (qb 2)) jk)
 (je (vt (qd (jy 2 0) (qd (zc J (a9 (qb 0) (jy 2 1))) (qd (zc J (a9 (qb 0) (jy 2 2))) qz)))))))
def lK:jr:=λys L Q=>∃c k f:Int,ys=[.int c,.int k,.int f]/\0<=k/\k<1000000/\0<f/\f<1000000/\∀v,0<=v->v<134217728->Q (.int v) L
theorem ak4:∀ys L Q,lK ys L Q->xp uL 3 ys L Q:=by
 rintro ys L Q ⟨c,k,f,rfl,h0,h1,h2,h3,q⟩;refine⟨(by decide:(0:Int)<1000003),.inr ⟨by decide,by decide⟩,.inl ⟨by lia,by lia⟩,.inr ⟨by lia,by lia⟩,(by decide:(0:Int)<2147483647),⟨by decide,by decide⟩,js (q _ ?_ ?_)⟩
 all_goals
  generalize ((c % 1000003*7+k*k+1)*f)=z;lia
theorem ad5(cs:List Nat):(Txt.join "" (cs.map λc=>(⟨#[c]⟩:Str))).cps.toList=cs:=by
 rw[oo]
 induction cs with|nil=>rfl|cons c r J=>rw[AO,AR,J];rfl
def bY(n:Nat):jr:=λys L Q=>∃wd,ys=[bN wd]/\wd.depth<=n/\Q (.int wd.size) L
theorem lb:∀ys L Q,¬bY 0 ys L Q:=λys L Q ⟨J,_,hd,_⟩=>by cases J<;>simp[Wd.depth] at hd
theorem wX(n:Nat):∀ys L Q,bY (n+1) ys L Q->xp (mZ (bY n)) 1 ys L Q:=by
 rintro ys L Q ⟨J,rfl,hd,q⟩;cases J with
 |leaf t n=>exact js q
 |node e l r=>
  have U:max l.depth r.depth+1<=n+1:=hd;refine⟨l,rfl,by lia,r,rfl,by lia,js ?_⟩;have e:(1+(l.size:Int)+(r.size:Int))=(((Wd.node e l r).size:Nat):Int):=by show _=((1+l.size+r.size:Nat):Int);rfl
  rw[e];exact q
def KW(ks:List Y):Nat->Wd->Prop
 |p,.leaf t n=>ks[p]?=some (.tup [.str (kL t),.str n])
 |p,.node e l r=>∃i j:Nat,ks[p]?=some (.tup [.str (kN e),.int i,.int j])/\KW ks i l/\KW ks j r
theorem KW.more{ks:List Y}(ms:List Y):∀{wd:Wd} {p:Nat},KW ks p wd->KW (ks++ms) p wd
 |.leaf _ _,p,h=>by have J:ks[p]?=some _:=h;show(ks++ms)[p]?=some _;rw[AF (AK.mp J).1];exact J
 |.node _ _ _,p,⟨i,j,h,a,b⟩=>⟨i,j,by rw[AF (AK.mp h).1];exact h,KW.more ms a,KW.more ms b⟩
def aM(n:Nat):jr:=λys L Q=>∃k ks p wd,ys=[.ref k,.int ((p:Nat):Int)]/\L k=some (.lst ks)/\KW ks p wd/\wd.depth<=n/\Q (bN wd) L
theorem uh:∀ys L Q,¬aM 0 ys L Q:=λys L Q ⟨k,U,p,J,_,_,_,hd,_⟩=>by cases J<;>simp[Wd.depth] at hd
theorem pM:∀ys L Q,¬aM 0 ys L Q:=uh
theorem sD(n:Nat):∀ys L Q,aM (n+1) ys L Q->xp (rM (aM n)) 3 ys L Q:=by
 rintro ys L Q ⟨k,U,p,g,rfl,J,h,hd,q⟩;cases g with
 |leaf t nm=>exact qc J (qw (xq h) (js q))
 |node e l r=>
  obtain⟨i,j,h,o,C⟩:=h;have I:max l.depth r.depth+1<=n+1:=hd;exact qc J (qw (xq h) ⟨k,U,i,l,rfl,J,o,by lia,k,U,j,r,rfl,J,C,by lia,js q⟩)
def mkS(l:List Nat):Str:=⟨l.toArray⟩
theorem wN(x:Str):mkS x.cps.toList=x:=by cases x;rfl
def afj(J:jr):ke:=(qr (zr (ai0 [("plain","turned"),("turned","plain"),("both","either"),("either","both")]) (qh 1))
 (qr (jz (fJ (cY 0) (jf 2)) (je (vt (qd (zn ay (qb 1) (jy 0 0)) (x9 (jy 0 1))))) jk)
 (je (vt (qd (zn ay (qb 1) (jy 0 0)) (qd (zc J (x9 (jy 0 1))) (qd (zc J (x9 (jy 0 2))) qz)))))))
def acg(J:jr)(p1:jr):ke:=(qr (jz (fJ (cY 1) (jf 2)) (qr (j9 (wu zq (qb 0) (qd (zc J (x9 (qb 1))) qz)))
 (qr (j9 (wu zq (qb 0) (x9 (qb 1))))
 (je (jh (qd (vt (qd (dH "link") (qd (zn jE (cY 0) (jf 2)) (qd (zn jE (cY 0) (jf 1)) qz)))) (qd (zn jE (cY 0) (jf 2)) (qd (zn jE (cY 0) (jf 1)) qz))))))) jk)
 (qr (zr (zc p1 (a9 (qb 0) (jy 1 1))) (qh 2))
 (qr (zr (zc p1 (a9 (qb 0) (jy 1 2))) (qh 3))
 (qr (j9 (wu zq (qb 0) (qd (vt (qd (zn ay (zc J (x9 (qb 1))) (jf 0)) (a9 (jy 2 1) (jy 3 1)))) qz)))
 (qr (j9 (wu zq (qb 0) (qd (vt (qd (jy 1 0) (a9 (jy 2 2) (jy 3 2)))) qz)))
 (qr (aa1 4 5 (qd (zn jE (cY 0) (jf 2)) (qd (zn jE (cY 0) (jf 1)) qz)))
 (qr (zr (yIf (fJ (jy 1 0) (dH "either")) (qb 4) (qb 5)) (qh 6))
 (qr (zr (yIf (fJ (jy 1 0) (dH "either")) (qb 5) (qb 4)) (qh 7))
 (je (jh (qd (vt (qd (dH "either") (qd (qb 7) (qd (vt (qd (dH "both") (qd (qb 6) (a9 (jy 2 0) (jy 3 0))))) qz)))) (a9 (qb 4) (qb 5)))))))))))))
inductive Kn where
 |lf (t:Bool) (n:Str)|nd (e:Bool) (i j:Nat)
def l5:Kn->Y
 |.lf t n=>.tup [.str (kL t),.str n]
 |.nd e i j=>.tup [.str (kN e),.int ((i:Nat):Int),.int ((j:Nat):Int)]
inductive Ru where
 |link (p q:Nat)|ei (r:Nat) (A:Ru)|bo (r:Nat) (A B:Ru)|cu (p q:Nat) (A B:Ru)
def qj:Ru->Y
 |.link p q=>.tup [.str "link",.int ((p:Nat):Int),.int ((q:Nat):Int)]
 |.ei r A=>.tup [.str "either",.int ((r:Nat):Int),qj A]
 |.bo r A B=>.tup [.str "both",.int ((r:Nat):Int),qj A,qj B]
 |.cu p q A B=>.tup [.str "cut",.int ((p:Nat):Int),.int ((q:Nat):Int),qj A,qj B]
def qo:Ru->List Nat
 |.link p q=>[p,q]
 |.ei r A=>r::qo A
 |.bo r A B=>r::(qo A++qo B)
 |.cu _ _ A B=>qo A++qo B
abbrev jb(ks:List Kn):List Y:=ks.map l5
def cq(ks:List Kn)(p:Nat)(w:Wd):Prop:=KW (jb ks) p w
theorem cq.more{ks:List Kn}{p:Nat}{w:Wd}(h:cq ks p w)(ms:List Kn):cq (ks++ms) p w:=by unfold cq jb;rw[Aj];exact KW.more _ h
def cG(ks:List Kn):Prop:=∀(p:Nat) (k:Kn),ks[p]?=some k->match k with
 |.lf _ n=>df n
 |.nd _ i j=>i<p/\j<p
theorem cG.snoc{ks:List Kn}{k:Kn}(h:cG ks)(J:match k with|.lf _ n=>df n|.nd _ i j=>i<ks.length/\j<ks.length):cG (ks++[k]):=by
 intro p U e;by_cases c:p<ks.length
 ·rw[AF c] at e;exact h p U e
 ·rw[Av (by exact aaj)] at e;have c2:p=ks.length:=by
   by_cases c3:p-ks.length=0
   ·omega
   ·rw[BU (by simp;exact ar3)] at e;cases e
  subst c2;rw[Cf] at e;cases e;exact J
theorem dw(l:List α)(x:α)(r:List α):(l++x::r)[l.length]?=some x:=by rw[Av (Al _),Cf];rfl
theorem kB{l r:List α}{p:Nat}{x:α}(h:l[p]?=some x):(l++r)[p]?=some x:=by rw[AF (AK.mp h).1];exact h
inductive SR(ks:List Kn):Ru->List Nat->Prop
 |link {p q:Nat} {t:Bool} {n:Str} {E:List Nat}:p<q->ks[p]?=some (.lf t n)->ks[q]?=some (.lf (!t) n)->(∀x,x∈E↔x=p\/x=q)->E.Nodup->SR ks (.link p q) E
 |ei {r i j:Nat} {A:Ru} {EA E:List Nat}:ks[r]?=some (.nd true i j)->SR ks A EA->i∈EA->j∈EA->i≠j->(∀x,x∈E↔(x∈EA/\x≠i/\x≠j)\/x=r)->E.Nodup->SR ks (.ei r A) E
 |bo {r i j:Nat} {A B:Ru} {EA EB E:List Nat}:ks[r]?=some (.nd false i j)->SR ks A EA->SR ks B EB->i∈EA->j∈EB->(∀x,x∈E↔(x∈EA/\x≠i)\/(x∈EB/\x≠j)\/x=r)->E.Nodup->SR ks (.bo r A B) E
 |cu {p q:Nat} {A B:Ru} {EA EB E:List Nat} {w:Wd}:SR ks A EA->SR ks B EB->p∈EA->q∈EB->cq ks p w->cq ks q w.turn->(∀x,x∈E↔(x∈EA/\x≠p)\/(x∈EB/\x≠q))->E.Nodup->SR ks (.cu p q A B) E
theorem SR.more{ks:List Kn}{R:Ru}{E:List Nat}(h:SR ks R E)(ms:List Kn):SR (ks++ms) R E:=by induction h with|link h1 h2 h3 J U=>exact .link h1 (kB h2) (kB h3) J U|ei h1 _ h3 J U l o p=>exact .ei (kB h1) p h3 J U l o|bo h1 _ _ J U l o g j=>exact .bo (kB h1) g j J U l o|cu _ _ h3 J U l o r g j=>exact .cu g j h3 J (U.more ms) (l.more ms) o r
theorem SR.sub{ks:List Kn}{R:Ru}{E:List Nat}(h:SR ks R E):∀x∈E,x∈qo R:=by
 induction h with
 |link _ _ _ l _=>intro x J;rcases (l x).mp J with rfl|rfl<;>simp[qo]
 |ei _ _ _ _ _ j _ o=>intro x J;rcases (j x).mp J with⟨h,_⟩|rfl;exact Ad _ (o x h);exact Ak ..
 |bo _ _ _ _ _ j _ U g=>
  intro x J;rcases (j x).mp J with⟨h,_⟩|⟨h,_⟩|rfl
  ·exact Ad _ (Aq _ (U x h))
  ·exact Ad _ (Ah _ (g x h))
  ·exact Ak ..
 |cu _ _ _ _ _ _ p _ U g=>
  intro x J;rcases (p x).mp J with⟨h,_⟩|⟨h,_⟩
  ·exact Aq _ (U x h)
  ·exact Ah _ (g x h)
def cB(n:Nat):jr:=λys L Q=>∃wd,ys=[bN wd]/\wd.depth<=n/\Q (bN wd.turn) L
theorem aa3:∀ys L Q,¬cB 0 ys L Q:=λys L Q ⟨J,_,hd,_⟩=>by cases J<;>simp[Wd.depth] at hd
theorem tY(t:Bool):kg ([(("plain" : Str),("turned" : Str)),("turned","plain"),("both","either"),("either","both")].map λp=>((Sum.inr p.1:jg),Y.str p.2)) (Sum.inr (kL t))=some (.str (kL (!t))):=iX (yX t)
theorem ut(t:Bool):kg ([(("plain" : Str),("turned" : Str)),("turned","plain"),("both","either"),("either","both")].map λp=>((Sum.inr p.1:jg),Y.str p.2)) (Sum.inr (kN t))=some (.str (kN (!t))):=iX (y8 t)
theorem aai(n:Nat):∀ys L Q,cB (n+1) ys L Q->xp (afj (cB n)) 2 ys L Q:=by
 rintro ys L Q ⟨U,rfl,hd,q⟩;intro p J;cases U with
 |leaf t nm=>
  refine ju q8 (qw (tY t) ?_);exact aY (By J) q
 |node e l r=>
  have g:max l.depth r.depth+1<=n+1:=hd;refine ju q8 (qw (ut e) ?_);refine⟨l,rfl,by lia,r,rfl,by lia,?_⟩;exact aY (By J) q
structure Mir(ks:List Kn)(w:Wd)(ms:List Kn)(R:Ru)(tp sp:Nat):Prop where
 len:ms.length=2*w.size
 sr:SR (ks++ms) R [tp,sp]
 wt:cq (ks++ms) tp w.turn
 ws:cq (ks++ms) sp w
 tm:∀x,x∈qo R↔ks.length<=x/\x<ks.length+ms.length
 nd:(qo R).Nodup
 ok:cG (ks++ms)
theorem cq.leaf{ks:List Kn}{p:Nat}{n:Str}(h:ks[p]?=some (.lf t n)):cq ks p (.leaf t n):=by show(jb ks)[p]?=_;rw[An,h];rfl
theorem cq.node{ks:List Kn}{p:Nat}{e:Bool}{l r:Wd}(h:ks[p]?=some (.nd e i j))(J:cq ks i l)(U:cq ks j r):cq ks p (.node e l r):=by refine⟨i,j,?_,J,U⟩;rw[An,h];rfl
abbrev EN:=@cq.node
theorem ss{ks:List Kn}(j:cG ks){n:Str}(J:df n):Mir ks (.leaf t n) [.lf (!t) n,.lf t n] (.link ks.length (ks.length+1)) ks.length (ks.length+1):=by
 have U:(ks++[Kn.lf (!t) n,.lf t n])[ks.length]?=some (.lf (!t) n):=dw _ _ _;have g:(ks++[Kn.lf (!t) n,.lf t n])[ks.length+1]?=some (.lf t n):=by have:=dw (ks++[Kn.lf (!t) n]) (Kn.lf t n) [];rw[Ac,AH] at this;exact this
 refine⟨rfl,.link (t:=!t) (n:=n) (by exact Cv _) U (by rw[Bool.not_not];exact g) (by simp) (by simp),cq.leaf U,cq.leaf g,λx=>?_,by simp[qo],?_⟩
 ·show x∈[ks.length,ks.length+1]↔ks.length<=x/\x<ks.length+2;simp;lia
 ·have:=(j.snoc (k:=.lf (!t) n) J).snoc (k:=.lf t n) J;rw[AH] at this;exact this
theorem SR.nod{ks:List Kn}{R:Ru}{E:List Nat}(h:SR ks R E):E.Nodup:=by cases h<;>assumption
theorem aps{x h lo a r N:Nat}(J:(h=N/\lo=N+1)\/(h=N+1/\lo=N))(U:N=a+m+r):x=h\/x=lo\/(a<=x/\x<a+m)\/a+m<=x/\x<a+m+r↔a<=x/\x<N+2:=by subst U;rcases J with⟨rfl,rfl⟩|⟨rfl,rfl⟩<;>lia
theorem asu{x a b c d N:Nat}(h:a≠b)(k:c≠d):x∈[b,d,N]↔(x∈[a,b]/\x≠a)\/(x∈[c,d]/\x≠c)\/x=N:=by simp only[Ap,Br,or_false];lia
theorem arv{x a b c d N:Nat}(h:a≠b)(k:c≠d):x∈[a,c,N]↔(x∈[a,b]/\x≠b)\/(x∈[c,d]/\x≠d)\/x=N:=by simp only[Ap,Br,or_false];lia
theorem ap7{x a b N M:Nat}(h:a<N)(k:b<N):x∈[N,M]↔(x∈[a,b,N]/\x≠a/\x≠b)\/x=M:=by simp only[Ap,Br,or_false];lia
theorem apo{x a b N M:Nat}(h:a<N)(k:b<N):x∈[M,N]↔(x∈[a,b,N]/\x≠a/\x≠b)\/x=M:=by simp only[Ap,Br,or_false];lia
theorem anw{a b N:Nat}(h:a<N)(k:b<N)(d:a≠b):[a,b,N].Nodup:=by rw[AC,AC];simp;lia
theorem as3{a r N t s u v:Nat}(J:a<=t/\t<a+m)(U:a<=s/\s<a+m)(b1:a+m<=u/\u<a+m+r)(b2:a+m<=v/\v<a+m+r)(g:N=a+m+r):t<N/\s<N/\u<N/\v<N/\t≠u/\s≠v:=by lia
theorem aml{h lo a r N:Nat}(J:(h=N/\lo=N+1)\/(h=N+1/\lo=N))(U:N=a+m+r):¬(h=lo\/(a<=h/\h<a+m)\/a+m<=h/\h<a+m+r)/\¬((a<=lo/\lo<a+m)\/a+m<=lo/\lo<a+m+r):=by lia
theorem apk{x y a r:Nat}(h1:a<=x/\x<a+m)(h2:a+m<=y/\y<a+m+r)(e:x=y):False:=by lia
theorem adl{ks J j:List Kn}{e:Bool}{l r:Wd}{A B:Ru}{tl U tr g:Nat}(t:Mir ks l J A tl U)(p:Mir (ks++J) r j B tr g){N:Nat}(hN:N=ks.length+(J++j).length):
 Mir ks (.node e l r) (J++j++[.nd (!e) tl tr,.nd e U g]) (.ei (if e=true then N+1 else N) (.bo (if e=true then N else N+1) A B)) N (N+1):=by
 have hA:∀x∈[tl,U],ks.length<=x/\x<ks.length+J.length:=λx T=>(t.tm x).mp (t.sr.sub x T);have hB:∀x∈[tr,g],ks.length+J.length<=x/\x<ks.length+J.length+j.length:=λx T=>by have:=(p.tm x).mp (p.sr.sub x T);rw[Ac] at this;exact this
 have a1:=hA tl (by simp);have a2:=hA U (by simp);have b1:=hB tr (by simp);have b2:=hB g (by simp);have nA:tl≠U:=by have:=t.sr.nod;simpa using this
 have nB:tr≠g:=by have:=p.sr.nod;simpa using this
 have C:N=ks.length+J.length+j.length:=by rw[hN,Ac];simp +arith only
 obtain⟨d1,d2,d3,d4,d5,d6⟩:=as3 a1 a2 b1 b2 C;generalize o:ks++(J++j++[Kn.nd (!e) tl tr,.nd e U g])=K;have k1:K=(ks++J)++(j++[Kn.nd (!e) tl tr,.nd e U g]):=by rw[<-o];simp
 have k2:K=((ks++J)++j)++[Kn.nd (!e) tl tr,.nd e U g]:=by rw[<-o];simp
 have k3:K=(((ks++J)++j)++[Kn.nd (!e) tl tr])++[.nd e U g]:=by rw[<-o];simp
 have l2:((ks++J)++j).length=N:=by rw[Ac,Ac];lia
 have g1:K[N]?=some (.nd (!e) tl tr):=by rw[k2,<-l2];exact dw _ _ _
 have g2:K[N+1]?=some (.nd e U g):=by
  have l3:(((ks++J)++j)++[Kn.nd (!e) tl tr]).length=N+1:=by rw[Ac,l2];rfl
  rw[k3,<-l3];exact dw _ _ _
 have sA:SR K A [tl,U]:=by rw[k1];exact t.sr.more _
 have sB:SR K B [tr,g]:=by rw[k2];exact p.sr.more _
 have a3:cG K:=by have o1:=p.ok.snoc (k:=.nd (!e) tl tr) (by show tl<((ks++J)++j).length/\tr<((ks++J)++j).length;rw[l2];exact⟨d1,d3⟩);have o2:=o1.snoc (k:=.nd e U g) (by show U<_/\g<_;rw[Ac,l2];exact⟨BL d2,BL d4⟩);rw[k3];exact o2
 have tA:=t.tm;have tB:=p.tm;rw[Ac] at tB;have wt:cq K N (Wd.node e l r).turn:=EN g1 (by rw[k1];exact t.wt.more _) (by rw[k2];exact p.wt.more _);have a4:cq K (N+1) (Wd.node e l r):=EN g2 (by rw[k1];exact t.ws.more _) (by rw[k2];exact p.ws.more _);have I:(J++j++[Kn.nd (!e) tl tr,.nd e U g]).length=2*(Wd.node e l r).size:=by have h1:=t.len;have h2:=p.len;show _=2*(1+l.size+r.size);rw[Ac,Ac];simp;lia
 have lt:ks.length+(J++j++[Kn.nd (!e) tl tr,.nd e U g]).length=N+2:=by rw[Ac];simp[hN];rfl
 have tt:∀h lo:Nat,(h=N/\lo=N+1)\/(h=N+1/\lo=N)->(∀x,x∈qo (.ei h (.bo lo A B))↔ks.length<=x/\x<ks.length+(J++j++[Kn.nd (!e) tl tr,.nd e U g]).length)/\(qo (.ei h (.bo lo A B))).Nodup:=by
  intro h lo hh;constructor
  ·intro x;rw[lt];show x∈h::lo::(qo A++qo B)↔_;rw[Ap,Ap,Ar,tA,tB];exact aps hh C
  ·show(h::lo::(qo A++qo B)).Nodup;rw[AC,AC,Az];refine⟨?_,?_,t.nd,p.nd,λx T y hy e=>?_⟩
   ·rw[Ap,Ar,tA,tB];exact(aml hh C).1
   ·rw[Ar,tA,tB];exact(aml hh C).2
   ·exact apk ((tA x).mp T) ((tB y).mp hy) e
 cases e with
 |true=>
  have s1:SR K (.bo N A B) [U,g,N]:=by exact .bo g1 sA sB (by simp) (by simp) (λx=>asu nA nB) (anw d2 d4 d6)
  have s2:SR K (.ei (N+1) (.bo N A B)) [N,N+1]:=by exact .ei g2 s1 (by simp) (by simp) d6 (λx=>ap7 d2 d4) (by simp)
  obtain⟨t1,t2⟩:=tt (N+1) N (.inr ⟨rfl,rfl⟩);exact⟨I,by rw[o];exact s2,by rw[o];exact wt,by rw[o];exact a4,t1,t2,by rw[o];exact a3⟩
 |false=>
  have s1:SR K (.bo (N+1) A B) [tl,tr,N+1]:=by exact .bo g2 sA sB (by simp) (by simp) (λx=>arv nA nB) (anw (BL d1) (BL d3) d5)
  have s2:SR K (.ei N (.bo (N+1) A B)) [N,N+1]:=by exact .ei g1 s1 (by simp) (by simp) d5 (λx=>apo (BL d1) (BL d3)) (by simp)
  obtain⟨t1,t2⟩:=tt N (N+1) (.inl ⟨rfl,rfl⟩);exact⟨I,by rw[o];exact s2,by rw[o];exact wt,by rw[o];exact a4,t1,t2,by rw[o];exact a3⟩
def bP(n:Nat):jr:=λys L Q=>∃a,∃ks:List Kn,∃w:Wd,ys=[.ref a,bN w]/\L a=some (.lst (jb ks))/\w.depth<=n/\n<=120/\w.ok/\cG ks/\ks.length+2*w.size<=10000/\
 ∀ms R tp sp p,L p=none->Mir ks w ms R tp sp->Q (.ref p) (qf (qf L a (.lst (jb (ks++ms)))) p (.lst [qj R,.int ((tp:Nat):Int),.int ((sp:Nat):Int)]))
theorem xK:∀ys L Q,¬bP 0 ys L Q:=λys L Q ⟨a,U,J,_,_,hd,_⟩=>by cases J<;>simp[Wd.depth] at hd
theorem bg_:∀m:Nat,m<=20000->m<sizeLine:=λm h=>CD h (by decide)
theorem wT(n:Nat):∀ys L Q,bP (n+1) ys L Q->xp (acg (cB 120) (bP n)) 8 ys L Q:=by
 rintro ys L Q ⟨a,J,w,rfl,ha,hd,hn,a2,hk,hb,q⟩;have big:=bg_;cases w with
 |leaf t nm=>
  have hb:J.length+2*1<=10000:=hb;refine qc ha ⟨.leaf t nm,rfl,by exact DH _,qx ha ⟨big _ (by rw[Ab];lia),?_⟩⟩;refine qc q8 (qx q8 ⟨big _ (by rw[Ac,Ab];simp;lia),?_⟩);rw[xw];have e1:(jb J++[bN (Wd.leaf t nm).turn])++[bN (.leaf t nm)]=jb (J++[.lf (!t) nm,.lf t nm]):=by unfold jb;rw[Aj,AH];rfl
  have e2:(jb (J++[Kn.lf (!t) nm,.lf t nm])).length=J.length+2:=by rw[Ab,Ac];rfl
  have i1:((((jb (J++[Kn.lf (!t) nm,.lf t nm])).length:Nat):Int)-2)=((J.length:Nat):Int):=by rw[e2];lia
  have i2:((((jb (J++[Kn.lf (!t) nm,.lf t nm])).length:Nat):Int)-1)=((J.length+1:Nat):Int):=by rw[e2];lia
  have aL:(jb J++[bN (Wd.leaf t nm).turn])++[.tup [.str (kL t),.str nm]]=jb (J++[.lf (!t) nm,.lf t nm]):=e1
  first|rw[e1]|rw[aL]
  refine qc q8 (qc q8 (qc q8 (qc q8 λp T=>?_)));have np:L p=none:=by
   have:p≠a:=λe=>by rw[e,q8] at T;cases T
   rw[q9 this] at T;exact T
  have:=q _ _ _ _ p np (ss hk a2);have key:[qj (.link J.length (J.length+1)),Y.int ((J.length:Nat):Int),Y.int ((J.length+1:Nat):Int)]=[.tup [.str "link",.int ((((jb (J++[Kn.lf (!t) nm,.lf t nm])).length:Nat):Int)-2),.int ((((jb (J++[Kn.lf (!t) nm,.lf t nm])).length:Nat):Int)-1)],.int ((((jb (J++[Kn.lf (!t) nm,.lf t nm])).length:Nat):Int)-2),.int ((((jb (J++[Kn.lf (!t) nm,.lf t nm])).length:Nat):Int)-1)]:=by rw[i1,i2];rfl
  rw[key] at this;exact js this
 |node e l r=>
  have bb:max l.depth r.depth+1<=n+1:=hd;have hb:J.length+2*(1+l.size+r.size)<=10000:=hb;refine⟨a,J,l,rfl,ha,by lia,by exact uI,a2.1,hk,by lia,λU A j C p1 al ML=>?_⟩;have a1:a≠p1:=v5 ha al;have bc:=ML.len;refine⟨a,J++U,r,rfl,by rw[q9 a1,q8],by lia,by exact uI,a2.2,ML.ok,by rw[Ac];lia,λg B tr I p2 a3 MR=>?_⟩;have bd:=MR.len;have ba:p1≠p2:=v5 q8 a3;have au:a≠p2:=v5 (by rw[q9 a1];exact q8) a3;have a4:qf (qf (qf (qf L a (.lst (jb (J++U)))) p1 (.lst [qj A,.int ((j:Nat):Int),.int ((C:Nat):Int)])) a (.lst (jb ((J++U)++g)))) p2 (.lst [qj B,.int ((tr:Nat):Int),.int ((I:Nat):Int)]) a=some (.lst (jb ((J++U)++g))):=by rw[q9 au];exact q8
  have h1:qf (qf (qf (qf L a (.lst (jb (J++U)))) p1 (.lst [qj A,.int ((j:Nat):Int),.int ((C:Nat):Int)])) a (.lst (jb ((J++U)++g)))) p2 (.lst [qj B,.int ((tr:Nat):Int),.int ((I:Nat):Int)]) p1=some (.lst [qj A,.int ((j:Nat):Int),.int ((C:Nat):Int)]):=by rw[q9 ba,q9 (AB a1)];exact q8
  have h2:qf (qf (qf (qf L a (.lst (jb (J++U)))) p1 (.lst [qj A,.int ((j:Nat):Int),.int ((C:Nat):Int)])) a (.lst (jb ((J++U)++g)))) p2 (.lst [qj B,.int ((tr:Nat):Int),.int ((I:Nat):Int)]) p2=some (.lst [qj B,.int ((tr:Nat):Int),.int ((I:Nat):Int)]):=q8;have old:∀b o,b≠a->L b=some o->qf (qf (qf (qf L a (.lst (jb (J++U)))) p1 (.lst [qj A,.int ((j:Nat):Int),.int ((C:Nat):Int)])) a (.lst (jb ((J++U)++g)))) p2 (.lst [qj B,.int ((tr:Nat):Int),.int ((I:Nat):Int)]) b=some o:=λb o nb e=>by
   have n1:b≠p1:=v5 e al;have e2:qf (qf L a (.lst (jb (J++U)))) p1 (.lst [qj A,.int ((j:Nat):Int),.int ((C:Nat):Int)]) b=some o:=by rw[q9 n1,q9 nb];exact e
   have n2:b≠p2:=v5 e2 a3;rw[q9 n2,q9 nb];exact e2
  generalize qf (qf (qf (qf L a (.lst (jb (J++U)))) p1 (.lst [qj A,.int ((j:Nat):Int),.int ((C:Nat):Int)])) a (.lst (jb ((J++U)++g)))) p2 (.lst [qj B,.int ((tr:Nat):Int),.int ((I:Nat):Int)])=L2 at a4 h1 h2 old;have bf:(jb ((J++U)++g)).length=J.length+U.length+g.length:=by rw[Ab,Ac,Ac]
  refine qc a4 ⟨.node e l r,rfl,by show max l.depth r.depth+1<=120;exact asy,qc h1 (qc h2 (qx a4 ⟨big _ (by lia),?_⟩))⟩;have a5:∀o,qf L2 a o p1=some (.lst [qj A,.int ((j:Nat):Int),.int ((C:Nat):Int)]):=λo=>by rw[q9 (AB a1)];exact h1
  have ag:∀o,qf L2 a o p2=some (.lst [qj B,.int ((tr:Nat):Int),.int ((I:Nat):Int)]):=λo=>by rw[q9 (AB au)];exact h2
  refine qc q8 (qc (a5 _) (qc (ag _) (qx q8 ⟨big _ (by rw[Ac];simp;lia),?_⟩)));rw[xw];obtain⟨N,hN⟩:∃N,N=J.length+(U++g).length:=⟨_,rfl⟩;have e1:(jb ((J++U)++g)++[.tup [.str (kN (!e)),.int ((j:Nat):Int),.int ((tr:Nat):Int)]])++[.tup [.str (kN e),.int ((C:Nat):Int),.int ((I:Nat):Int)]]=jb (J++(U++g++[.nd (!e) j tr,.nd e C I])):=by unfold jb;simp[l5]
  rw[e1];have lN:(jb (J++(U++g++[Kn.nd (!e) j tr,.nd e C I]))).length=N+2:=by rw[Ab,Ac,Ac,hN];simp;rfl
  have i1:((((jb (J++(U++g++[Kn.nd (!e) j tr,.nd e C I]))).length:Nat):Int)-2)=((N:Nat):Int):=by rw[lN];lia
  have i2:((((jb (J++(U++g++[Kn.nd (!e) j tr,.nd e C I]))).length:Nat):Int)-1)=((N+1:Nat):Int):=by rw[lN];lia
  refine qc q8 (qc q8 ?_);have M:=adl (e:=e) ML MR hN;have done:∀p,qf L2 a (.lst (jb (J++(U++g++[Kn.nd (!e) j tr,.nd e C I])))) p=none->∀R,Mir J (.node e l r) (U++g++[Kn.nd (!e) j tr,.nd e C I]) R N (N+1)->
   fV Q (.ref p) (qf (qf L2 a (.lst (jb (J++(U++g++[Kn.nd (!e) j tr,.nd e C I]))))) p (.lst [qj R,.int ((N:Nat):Int),.int ((N+1:Nat):Int)])):=λp T R MM=>by
   have av:p≠a:=λz=>by rw[z,q8] at T;cases T
   rw[q9 av] at T;have np:L p=none:=by cases z:L p with|none=>rfl|some o=>rw[old p o av z] at T;cases T
   refine aY ?_ (q _ _ _ _ p np MM);intro b o z;by_cases c1:b=p
   ·subst c1;rw[q8] at z ⊢;exact z
   ·rw[q9 c1] at z ⊢;by_cases c2:b=a
    ·subst c2;rw[q8] at z ⊢;exact z
    ·rw[q9 c2] at z ⊢;exact old b o c2 z
  cases e with
  |true=>
   have key:[qj (.ei (if true=true then N+1 else N) (.bo (if true=true then N else N+1) A B)),Y.int ((N:Nat):Int),Y.int ((N+1:Nat):Int)]=[.tup [.str "either",.int ((((jb (J++(U++g++[Kn.nd (!true) j tr,.nd true C I]))).length:Nat):Int)-1),.tup [.str "both",.int ((((jb (J++(U++g++[Kn.nd (!true) j tr,.nd true C I]))).length:Nat):Int)-2),qj A,qj B]],.int ((((jb (J++(U++g++[Kn.nd (!true) j tr,.nd true C I]))).length:Nat):Int)-2),.int ((((jb (J++(U++g++[Kn.nd (!true) j tr,.nd true C I]))).length:Nat):Int)-1)]:=by rw[i1,i2];rfl
   walk_at "w";refine qc (a5 _) (qc (ag _) λp T=>?_);have:=done p T _ M;rw[key] at this;exact this
  |false=>
   have key:[qj (.ei (if false=true then N+1 else N) (.bo (if false=true then N else N+1) A B)),Y.int ((N:Nat):Int),Y.int ((N+1:Nat):Int)]=[.tup [.str "either",.int ((((jb (J++(U++g++[Kn.nd (!false) j tr,.nd false C I]))).length:Nat):Int)-2),.tup [.str "both",.int ((((jb (J++(U++g++[Kn.nd (!false) j tr,.nd false C I]))).length:Nat):Int)-1),qj A,qj B]],.int ((((jb (J++(U++g++[Kn.nd (!false) j tr,.nd false C I]))).length:Nat):Int)-2),.int ((((jb (J++(U++g++[Kn.nd (!false) j tr,.nd false C I]))).length:Nat):Int)-1)]:=by rw[i1,i2];rfl
   walk_at "w";refine qc (a5 _) (qc (ag _) λp T=>?_);have:=done p T _ M;rw[key] at this;exact this
end L3
variable {B I R S:L3.Ru}{ks kt:List L3.Kn}{sx wd:List (Option L3.Kn)}
namespace L3
open PySem L2 Words
def uX(J:jr):ke:=(qr (jz (yOr (yB (fY false (qb 0))) (yB (zc J (x9 (qb 0))))) (je (jh qz)) jk)
 (je (jh (a9 (jy 0 1) (jy 0 2)))))
def uo:Option Kn->Y
 |none=>.non
 |some k=>l5 k
abbrev cH(ks:List (Option Kn)):List Y:=ks.map uo
def km:Option Kn->List Nat
 |some (.nd _ i j)=>[i,j]
 |_=>[]
def lv:jr:=λys L Q=>∃k:Option Kn,ys=[uo k]/\∀p,L p=none->Q (.ref p) (qf L p (.lst (nY (km k))))
theorem ad3:∀ys L Q,lv ys L Q->xp (uX fU) 1 ys L Q:=by
 rintro ys L Q ⟨k,rfl,q⟩;cases k with
 |none=>exactλp J=>js (q p J)
 |some k=>
  cases k with|lf t n=>exact⟨true,t,_,rfl,λp J=>js (q p J)⟩|nd e i j=>exact⟨false,e,_,rfl,λp J=>js (q p J)⟩
def whr(f:Option Kn->Bool)(ks:List (Option Kn))(i:Nat):List Nat:=(List.range i).filter λp=>match ks[p]? with
 |some k=>f k
 |none=>false
theorem af5{f:Option Kn->Bool}{ks:List (Option Kn)}{p:Nat}(h:p∈whr f ks i):p<i/\∃k,ks[p]?=some k/\f k=true:=by
 unfold whr at h;obtain⟨h1,h2⟩:=AU.mp h;refine⟨A6.mp h1,?_⟩;split at h2
 ·rename_i k e;exact⟨k,e,h2⟩
 ·cases h2
theorem afp(f:Option Kn->Bool)(ks:List (Option Kn))(i:Nat):(whr f ks i).length<=i:=by unfold whr;exact AQ (Co _ _) (by rw[Bw];simp +arith only)
def aca:Option Kn->Bool
 |some _=>true
 |none=>false
abbrev lZ(ks:List (Option Kn)):List Nat:=whr aca ks ks.length
theorem fM(a b:List Nat):nY (a++b)=nY a++nY b:=by unfold nY;rw[Aj]
theorem iL{hs:List Nat}(h:(nY hs)[i]?=some y):∃n,hs[i]?=some n/\y=.int (n:Int):=by unfold nY at h;rw[An] at h;obtain⟨n,J,U⟩:=Am.mp h;exact⟨n,J,U.symm⟩
theorem aq8(a b:Nat):min (a:Int) (b:Int)=((min a b:Nat):Int):=by omega
theorem at3(a b:Nat):max (a:Int) (b:Int)=((max a b:Nat):Int):=by omega
def prN(p:Nat×Nat):Y:=.tup [.int ((p.1:Nat):Int),.int ((p.2:Nat):Int)]
abbrev kZ(l:List (Nat×Nat)):List Y:=l.map prN
theorem yP(k:Option Kn):(km k).length<=2:=by unfold km;split<;>simp
end L3
namespace TS
open PySem PyProof.Rows PySem.W PySem.Calls
section
variable {w:World}
abbrev keyBody(kx px:Str)(p1 p2 p3 p4 p5:Pos)(n:Nat):Expr:=.Tuple [.Subscript (.Name kx p1) (.Name px p2) p3,.Name px p4] n p5
structure kJ(h:Heap)(f:Addr)(kx px:Str)(scope:Scope)(kvs:List Value):Prop where
 ex:∃(name eK:Str) (params:Arguments) (p1 p2 p3 p4 p5:Pos) (n:Nat) (pm ctv:Value) (c' cell k:Addr),h.get? f=some (kla_obj name eK params (keyBody kx px p1 p2 p3 p4 p5 n) scope [(kx,cell)] pm c' ctv)/\h.CodeRec (.ref c') eK/\
  h.IsCell cell (some (.ref k))/\h.IsList k kvs.toArray/\∀v:Value,bindArgs (kla_fn name eK params (keyBody kx px p1 p2 p3 p4 p5 n) scope [(kx,cell)] pm (.ref c') ctv) ⟨[v],[]⟩=pure [(px,v)]
 lim:h.NoLimit
structure KeySc(scope:Scope)(kx px:Str):Prop where
 kind:scope.kind=.function
 co:scope.isCoroutine=false
 gen:scope.isGenerator=false
 nc:∀x∈scope.names,x.2≠.cell
 lp:scope.names.lookup px=some .local
 lk:scope.names.lookup kx=some .free
 d1:(kx==("__debug__" : Str))=false
 d2:(px==("__debug__" : Str))=false
 d3:(kx==("__classdict__" : Str))=false
theorem kJ.keeps{kvs:List Value}(k:kJ h f kx px scope kvs)(U:∀b o,h.get? b=some o->h'.get? b=some o):kJ h' f kx px scope kvs:=by
 obtain⟨name,g,J,r,t,C,I,T,n,pm,p,c',cell,kk,g1,g2,g3,g4,g5⟩:=k.ex;refine⟨⟨name,g,J,r,t,C,I,T,n,pm,p,c',cell,kk,U _ _ g1,?_,?_,?_,g5⟩,k.lim.keeps U⟩
 ·obtain⟨c,oc,vs,tq,j,l,e3⟩:=g2;exact⟨c,oc,vs,tq,j,U _ _ l,e3⟩
 ·obtain⟨o,j,l⟩:=g3;exact⟨o,U _ _ j,l⟩
 ·obtain⟨o,j,l⟩:=g4;exact⟨o,U _ _ j,l⟩
theorem an6{kvs:List Value}{u t:Tok}{r:Int}(K:kJ s.heap f kx px scope kvs)(S:KeySc scope kx px)(g:A.depth<recursionLimit)(hi:kvs[i]?=some (.int r t))(a1:i<2 ^ 40)
 (h:∀h' tk a,(∀b o,s.heap.get? b=some o->h'.get? b=some o)->h'.get? a=some { cls:=.type "tuple",data:=.seq #[.int r t,.int (i:Int) u] }->Q (.ref a) { s with heap:=h',toks:=tk }):
 wpAny (model prog w) A (call (.ref f) [.int (i:Int) u]) Q E s:=by
 obtain⟨name,J,p,p1,p2,p3,p4,p5,n,pm,a2,C,cell,kk,g1,g2,g3,g4,g5⟩:=K.ex;refine wpAny_call (kla_callFunE g g1 rfl S.co S.gen rfl g2 ?_);rw[g5];refine Ag (wpAny_newFunctionEnv S.nc (λx hx=>by rw[Ai.mp hx];exact S.lp) (λU j l=>⟨K.lim.fresh _ l,?_⟩) S.kind);have I:∀b o,s.heap.get? b=some o->U.get? b=some o:=λb o e=>l.extBut b o (A1 (ya e)) (xT _ e);show codeAny _ _ (.expr _ (envX J scope s.heap.objs.size f (.ref C) [(kx,cell)])) _ _;refine kla_codeExpr ?_;have look:(([(px,Value.int (i:Int) u)]:List (Str×Value)).reverse.lookup px)=some (.int (i:Int) u):=by simp
 have kf:(envX J scope s.heap.objs.size f (.ref C) [(kx,cell)]).kindOf kx=some .free:=S.lk;have kp:(envX J scope s.heap.objs.size f (.ref C) [(kx,cell)]).kindOf px=some .local:=S.lp;have cl:(envX J scope s.heap.objs.size f (.ref C) [(kx,cell)]).cells.lookup kx=some cell:=by show([(kx,cell)]:List (Str×Addr)).lookup kx=_;simp
 have ic:U.IsCell cell (some (.ref kk)):=by obtain⟨o,T,e2⟩:=g3;exact⟨o,I _ _ T,e2⟩
 have il:U.IsList kk kvs.toArray:=by obtain⟨o,T,e2⟩:=g4;exact⟨o,I _ _ T,e2⟩
 refine wpAny_Tuple_spliced (Ef (Subscript_ (wpAny_Name (wpAny_loadName_free S.kind kf cl ic (wpAny_Name (wpAny_loadName_local S.kind kp j look ?_) S.d2) S.d3) S.d1)));refine item_listL il (by exact AZ _) (by omega) (by rw[show((i:Nat):Int).toNat=i from rfl];exact hi) ?_;refine Ef (wpAny_Name (wpAny_loadName_local S.kind kp j look ?_) S.d2);refine Ek ⟨by show 2<=sizeLine;decide,?_⟩;exact h _ _ _ (λb o e=>xT _ (I b o e)) (y1 _ rfl)
end
theorem adg(f:α->β):∀{l m:List β},l.Perm m->∀{T:List α},T.map f=m->∃g:List α,g.Perm T/\g.map f=l:=by
 intro l m p
 induction p with
 |nil=>intro T e;exact⟨T,B9 _,e⟩
 |cons x _ C=>
  intro T e;cases T with
  |nil=>cases e
  |cons t r=>
   rw[AO] at e;obtain⟨J,U⟩:=Cm e;obtain⟨g,I,e'⟩:=C U;exact⟨t::g,I.cons t,by rw[AO,e',J]⟩
 |swap x y l=>
  intro T e
  match T,e with
  |t::u::r,e=>
   rw[AO,AO] at e;obtain⟨J,U⟩:=Cm e;obtain⟨e3,e4⟩:=Cm U;exact⟨u::t::r,List.Perm.swap t u r,by rw[AO,AO,J,e3,e4]⟩
 |trans _ _ j o=>
  intro T e;obtain⟨T1,p1,J⟩:=o e;obtain⟨T2,p2,U⟩:=j J;exact⟨T2,p2.trans p1,U⟩
def itV(x:Nat×Tok):Value:=.int (x.1:Int) x.2
def aiq(h:Heap)(kS:Addr)(rk:Nat->Int)(k:Value)(x:Nat×Tok):Prop:=∃a t u,k=.ref a/\a≠kS/\h.get? a=some { cls:=.type "tuple",data:=.seq #[.int (rk x.1) t,.int (x.1:Int) u] }
def iz(h:Heap)(kS:Addr)(rk:Nat->Int):List Value->List (Nat×Tok)->Prop
 |[],[]=>True
 |k::ks,x::xs=>aiq h kS rk k x/\iz h kS rk ks xs
 |_,_=>False
theorem iz.len{h:Heap}{kS:Addr}{rk:Nat->Int}:∀{ks:List Value} {xs:List (Nat×Tok)},iz h kS rk ks xs->ks.length=xs.length
 |[],[],_=>rfl
 |_::_,_::_,⟨_,b⟩=>by rw[AL,AL,iz.len b]
 |[],_::_,z=>z.elim
 |_::_,[],z=>z.elim
theorem iz.mem{h:Heap}{kS:Addr}{rk:Nat->Int}:∀{ks:List Value} {xs:List (Nat×Tok)},iz h kS rk ks xs->∀t∈ks.zip xs,aiq h kS rk t.1 t.2
 |[],[],_,t,J=>by cases J
 |_::_,_::_,⟨a,b⟩,t,J=>by
  rw[List.zip_cons_cons] at J;rcases Ap.mp J with rfl|J
  ·exact a
  ·exact iz.mem b t J
 |[],_::_,z,_,_=>z.elim
 |_::_,[],z,_,_=>z.elim
section
variable {w:World}
theorem aar{g:Heap}{f:Addr}{kx px:Str}{scope:Scope}{kvs:List Value}{kS:Addr}{rk:Nat->Int}{body:Value->PUnit->Sem (ForInStep PUnit)}(K:kJ g f kx px scope kvs)(S:KeySc scope kx px)(J:A.depth<recursionLimit)(hn:g.get? kS=none)
 (hb:∀(x:Value) (s:Shared) (Q':ForInStep PUnit->Shared->Prop),wpAny (model prog w) A (call (.ref f) [x]) (λk s'=>wpAny (model prog w) A (Builtin.List.listUpdate (.ref kS) (·.push k)) (λ_ I=>Q' (.yield ⟨⟩) I) E s') (λ_ _=>False) s->wpAny (model prog w) A (body x ⟨⟩) Q' E s):
 ∀(ps:List (Nat×Tok)) (ks:List Value) (e:Nat) (s:Shared) (Q:PUnit->Shared->Prop),(∀b o,g.get? b=some o->s.heap.get? b=some o)->s.heap.get? kS=some (seqObj "list" ks.toArray e)->ks.length+ps.length<=100000->
  (∀x∈ps,x.1<2 ^ 40/\∃t,kvs[x.1]?=some (.int (rk x.1) t))->
  (∀h' tk l T,(∀b o,b≠kS->s.heap.get? b=some o->h'.get? b=some o)->h'.get? kS=some (seqObj "list" (ks++l).toArray T)->iz h' kS rk l ps->Q ⟨⟩ { s with heap:=h',toks:=tk })->
  wpAny (model prog w) A (forIn (ps.map itV) PUnit.unit body) Q E s
 |[],ks,e,s,Q,hg,hk,hz,hp,q=>by rw[CM,CP];exact Ag (q s.heap s.toks [] e (λ_ _ _ h=>h) (by rw[AI];exact hk) trivial)
 |x::r,ks,e,s,Q,hg,hk,hz,hp,q=>by
  rw[AO,BW];rw[AL] at hz;obtain⟨a1,t,ht⟩:=hp x (Ak ..);have big:(100000:Nat)+1<=sizeLine:=by rw[sizeLine_eq];exact DR _ _
  refine Aa (hb (itV x) s _ (an6 (K.keeps hg) S J ht a1 λh1 p a k1 ha=>?_));have U:h1.get? kS=some (seqObj "list" ks.toArray e):=k1 _ _ hk;have s1:=Db h1 kS (Obj.mapSeq (·.push (.ref a)));have ea:ks.toArray.push (.ref a)=List.toArray (ks++[.ref a]):=by simp
  obtain⟨c2,a2⟩:∃c2,(h1.update kS (Obj.mapSeq (·.push (.ref a)))).get? kS=some (seqObj "list" (List.toArray (ks++[.ref a])) c2):=⟨_,by rw[<-ea];exact get?_update_seq U (·.push (.ref a))⟩;have C:a≠kS:=λz=>by
   rw[z,U] at ha;have:=Bb (λo:Option Obj=>o.map (·.cls)) ha;have z2:some (Value.type "list")=some (Value.type "tuple"):=this;injection z2 with z3
   injection z3 with z4
   exact absurd z4 (by decide)
  refine listUpdate_at (s:={ s with heap:=h1,toks:=p }) U rfl ?_ (by rw[Ao];lia) (AQ (Nat.le_of_eq (DN ..)) (by rw[Ao];lia));refine aar K S J hn hb r (ks++[.ref a]) c2 { s with heap:=h1.update kS (Obj.mapSeq (·.push (.ref a))),toks:=p } Q (λb o e=>?_) a2 (by rw[Ac,Bu];lia) (λy hy=>hp y (Ad _ hy)) λh' tk l T kk a3 vs=>?_
  ·have nb:b≠kS:=λz=>by rw[z,hn] at e;cases e
   exact(s1.2 b nb).trans (k1 b o (hg b o e))
  ·have j:∀b o,b≠kS->h1.get? b=some o->h'.get? b=some o:=λb o nb e=>kk b o nb ((s1.2 b nb).trans e);refine q h' tk (.ref a::l) T (λb o nb e=>j b o nb (k1 b o e)) (by rw[a3,AH];rfl) ⟨⟨a,t,x.2,rfl,C,j a _ C ha⟩,vs⟩
end
section
variable {w:World}
theorem aip{g:Heap}{kvs:List Value}{kS:Addr}{rk:Nat->Int}{ps:List (Nat×Tok)}{e1 e0:Nat}{B:Int}{P:PySem.Fin->Shared->Prop}(K:kJ g f kx px scope kvs)(S:KeySc scope kx px)(J:A.depth<recursionLimit)(hn:g.get? kS=none)
 (hg:∀b o,g.get? b=some o->s.heap.get? b=some o) (hk:s.heap.get? kS=some (seqObj "list" #[] e0)) (ha:s.heap.get? a=some (seqObj "list" #[] e1)) (p:kS≠a) (hz:ps.length<=63)
 (hp:∀x∈ps,x.1<2 ^ 40/\∃t,kvs[x.1]?=some (.int (rk x.1) t)) (hB:∀x∈ps,((x.1:Nat):Int)<B) (nd:(ps.map (·.1)).Nodup)
 (h:∀h' tk (qs:List (Nat×Tok)) c,(∀b o,b≠kS->b≠a->s.heap.get? b=some o->h'.get? b=some o)->h'.get? a=some (seqObj "list" (qs.map itV).toArray c)->qs.Perm ps->(qs.Pairwise λx y=>rk x.1*B+(x.1:Int)<=rk y.1*B+(y.1:Int))->P (.done (.ret .none)) { s with heap:=h',toks:=tk }):
 wpAny (model prog w) A (ksk_rest a (.ref f) false (ps.map itV).toArray e1 (.ref kS)) P E s:=by
 have big:(100000:Nat)+1<=sizeLine:=by rw[sizeLine_eq];exact DR _ _
 unfold ksk_rest;refine Aa (BC ?_);rw[List.forIn_toArray];refine Aa (aar (rk:=rk) K S J hn (λx s' Q' hx=>?_) ps [] e0 s _ hg hk (by simp;omega) hp λh' tk ks e' keep U kv=>?_)
 ·refine Aa (wpAny_attempt (AW hx (λk a5 hk=>?_) λ_ _ hF=>hF.elim))
  try dsimp only
  exact Aa (AW hk (λ_ s3 q=>Ag q) λ_ _ e=>e)
 ·try dsimp only
  rw[Ci] at U;refine Aa (listItems_at (s:={ s with heap:=h',toks:=tk }) U rfl ?_);have a1:h'.get? a=some (seqObj "list" #[] e1):=keep _ _ (AB p) ha;have len:ks.length=ps.length:=kv.len;obtain⟨T,I⟩:∃T,T=ks.zip ps:=⟨_,rfl⟩;have kT:∀t∈T,aiq h' kS rk t.1 t.2:=λt r=>kv.mem t (I▸r);have e2:T.map (·.2)=ps:=by rw[I];exact List.map_snd_zip (by lia)
  have ez:ks.zip (ps.map itV)=T.map λt=>(t.1,itV t.2):=by rw[I,List.zip_map_right];rfl
  have mp:∀t∈T,t.2∈ps:=λt r=>by rw[<-e2];exact Dd r
  have nT:∀t∈T,num h' B (t.1,itV t.2)=rk t.2.1*B+(t.2.1:Int):=λt r=>by obtain⟨b,tt,u,C,x2,x3⟩:=kT t r;exact tR C x3 rfl
  have ag:∀x∈ps,(0:Int)<=((x.1:Nat):Int):=λ_ _=>by exact AZ _
  refine anr (s:={ s with heap:=h',toks:=tk }) (vs:=ps.map itV) (ks:=ks) (B:=B) U a1 p (by rw[Ab];exact len) (by rw[Ab];exact hz) (λv hv=>?_) λh2 a2 xs c l hc pm pw=>?_
  ·obtain⟨j,hj⟩:=Bj hv;have a3:j<ps.length:=by rw[<-len];exact(AK.mp hj).1
   have hm:(v,ps[j])∈T:=by rw[I];refine List.mem_iff_getElem?.mpr ⟨j,?_⟩;rw[Dr];exact⟨hj,Ae a3⟩
   obtain⟨b,tt,u,C,x2,x3⟩:=kT _ hm;have C:v=.ref b:=C;exact⟨b,_,_,_,_,tt,u,C,x3,rfl,rfl,by exact AZ _,hB _ (mp _ hm)⟩
  ·rw[ez] at pm;obtain⟨T',pT,a4⟩:=adg _ pm rfl;subst a4;have mT:∀t,t∈T'->t∈T:=λt=>pT.mem_iff.mp;refine h h2 a2 (T'.map (·.2)) c (λb o n1 n2 e=>?_) ?_ ?_ ?_
   ·rw[l b n1 n2];exact keep b o n1 e
   ·rw[hc,BA,BA];rfl
   ·rw[<-e2];exact pT.map _
   ·refine Du.mpr (List.Pairwise.imp_of_mem (λ{x y} hx hy z=>?_) (Du.mp pw));rw[nT x (mT x hx),nT y (mT y hy)] at z;exact z
theorem w_sortedK{kvs:List Value}{rk:Nat->Int}{ps:List (Nat×Tok)}{B:Int}(K:kJ s.heap f kx px scope kvs)(S:KeySc scope kx px)(p:A.in1.in1.depth<recursionLimit)
 (hl:s.heap.IsList l (ps.map itV).toArray) (hz:ps.length<=63)
 (hp:∀x∈ps,x.1<2 ^ 40/\∃t,kvs[x.1]?=some (.int (rk x.1) t)) (hB:∀x∈ps,((x.1:Nat):Int)<B) (nd:(ps.map (·.1)).Nodup)
 (h:∀h' tk (r:List (Nat×Tok)) D c,s.heap.objs.size<=D->(∀b o,s.heap.get? b=some o->h'.get? b=some o)->h'.get? D=some (seqObj "list" (r.map itV).toArray c)->r.Perm ps->(r.Pairwise λx y=>rk x.1*B+(x.1:Int)<=rk y.1*B+(y.1:Int))->Q (.ref D) { s with heap:=h',toks:=tk }):
 wpAny (model prog w) A (call (.builtin "sorted") [.ref l] [(Str.ofString "key",.ref f)]) Q E s:=by
 have big:(100000:Nat)+1<=sizeLine:=by rw[sizeLine_eq];lia
 have a2:(ps.map itV).length<=100000:=by rw[Ab];omega
 refine call_function_entry_kw kind_sorted plain_sorted entry_sorted (ksk_s1 _ _) ?_;unfold Builtin.«sorted»;refine Aa (m:=checkCount "sorted" 1 1 _) (Ag ?_);refine Aa (collect_list hl ?_ (by exact ah1));refine Aa (wpAny_newList ?_ (by lia));obtain⟨g1,T⟩:∃g1,g1=(s.heap.push (seqObj "list" #[] 0)).update s.heap.objs.size (Obj.mapSeq (· ++ (ps.map itV).toArray)):=⟨_,rfl⟩;have gs:g1.objs.size=s.heap.objs.size+1:=by rw[T,Heap.size_update,size_push']
 have gk:∀b o,s.heap.get? b=some o->g1.get? b=some o:=λb o q=>by have U:b<s.heap.objs.size:=ya q;rw[T,Heap.get?_update_ne _ _ _ _ (A1 U)];exact xT _ q
 show wpAny _ _ _ _ _ { s with heap:=((s.heap.push (seqObj "list" #[] 0)).update s.heap.objs.size (Obj.mapSeq (· ++ (ps.map itV).toArray))).push (seqObj "list" (ps.map itV).toArray 0) };rw[<-T];have J:(g1.push (seqObj "list" (ps.map itV).toArray 0)).get? g1.objs.size=some (seqObj "list" (ps.map itV).toArray 0):=y1 _ rfl;have keep:∀b o,s.heap.get? b=some o->(g1.push (seqObj "list" (ps.map itV).toArray 0)).get? b=some o:=λb o q=>xT _ (gk b o q);refine Aa (A3 (wpAny_call_entry_kw slot_list_sort ⟨_,J,rfl⟩ entry_list_sort ?body (ksk_l1 _ _)))
 case body=>
  obtain⟨D,eD⟩:∃D,D=g1.objs.size:=⟨_,rfl⟩;rw[<-eD] at J ⊢;show wpAny (model prog w) A.in1.in1 (Builtin.«list.sort» ⟨[.ref D],[(Str.ofString "key",.ref f)]⟩) _ _ _;rw[ksk_t1];obtain⟨g2,C⟩:∃g2,g2=g1.push (seqObj "list" (ps.map itV).toArray 0):=⟨_,rfl⟩;rw[<-C] at J keep ⊢;have s1:=Db g2 D (Obj.mapSeq λ_=>(#[]:Array Value));obtain⟨e1,I⟩:∃e1,(g2.update D (Obj.mapSeq λ_=>(#[]:Array Value))).get? D=some (seqObj "list" #[] e1):=⟨_,get?_update_seq J λ_=>#[]⟩;have nD:∀b o,s.heap.get? b=some o->b≠D:=λb o q z=>by have U:b<s.heap.objs.size:=ya q;rw[z,eD,gs] at U;exact Nat.not_succ_lt_self U
  unfold ksk_tree;refine Aa (listItems_at (s:={ s with heap:=g2 }) J rfl ?_);refine Aa (listUpdate_at (s:={ s with heap:=g2 }) J rfl ?_ (by rw[Ao];exact ah1) (Bi _));refine Aa (seqEpoch_at I rfl ?_);refine Aa (wpAny_newTuple ?_ (by show(ps.map itV).length<=_;lia));refine Aa (wpAny_newList ?_ (Bi _));refine A3 ?_;obtain⟨g3,j⟩:∃g3,g3=(g2.update D (Obj.mapSeq λ_=>(#[]:Array Value))).push (seqObj "tuple" (ps.map itV).toArray 0):=⟨_,rfl⟩;have k3:∀b o,s.heap.get? b=some o->g3.get? b=some o:=λb o q=>by rw[j];exact xT _ ((s1.2 b (nD b o q)).trans (keep b o q))
  have d3:g3.get? D=some (seqObj "list" #[] e1):=by rw[j];exact xT _ I
  show wpAny (model prog w) A.in1.in1 (ksk_rest D (.ref f) false (ps.map itV).toArray _ (.ref ((g2.update D (Obj.mapSeq λ_=>(#[]:Array Value))).push (seqObj "tuple" (ps.map itV).toArray 0)).objs.size)) _ _ { s with heap:=((g2.update D (Obj.mapSeq λ_=>(#[]:Array Value))).push (seqObj "tuple" (ps.map itV).toArray 0)).push (seqObj "list" #[] 0) };rw[<-j];have a1:(g3.push (seqObj "list" #[] 0)).get? g3.objs.size=some (seqObj "list" #[] 0):=y1 _ rfl;refine aip (s:={ s with heap:=g3.push (seqObj "list" #[] 0) }) (g:=s.heap) (kS:=g3.objs.size) (a:=D) (rk:=rk) (B:=B) K S p (Heap.get?_none_of_le ?_) (λb o q=>xT _ (k3 b o q)) a1 (xT _ d3) ?_ hz hp hB nd λh' tk r c kp hD pm pw=>?_
  ·have l1:g3.objs.size=g1.objs.size+2:=by rw[j,size_push',Heap.size_update,C,size_push']
   rw[l1,gs];exact AQ (BZ _) (BG _ 2)
  ·exact(A1 (ya d3)).symm
  ·refine⟨_,rfl,Ag ⟨_,rfl,h h' tk r D c (by rw[eD,gs];exact BZ _) (λb o q=>?_) hD pm pw⟩⟩;exact kp b o (A1 (ya (k3 b o q))) (nD b o q) (xT _ (k3 b o q))
end
end TS
namespace L2
open PySem PySem.Spec PyProof.Rows
theorem oy{i j:Int}{t u:Tok}{c:Value}(l:List Value)(h:TriplesOk l):TriplesOk (l++[.int i t,.int j u,c]):=by
 fun_induction TriplesOk l with
 |case1=>trivial
 |case2 _ _ _ _ _ rest J=>exact J h
 |case3=>exact h.elim
theorem tK{i j:Int}{t u:Tok}{c J:Value}(l:List Value)(h:TriplesOk l)(e:codeAmong pos (l++[.int i t,.int j u,c])=some J):codeAmong pos l=some J\/J=c:=by
 fun_induction TriplesOk l with
 |case1=>
  right;have e:(if i==pos.line&&j==pos.col then some c else none)=some J:=e;split at e
  ·cases e;rfl
  ·cases e
 |case2 a _ b _ d rest U=>
  have e:(if a==pos.line&&b==pos.col then some d else codeAmong pos (rest++[.int i t,.int j u,c]))=some J:=e;show(if a==pos.line&&b==pos.col then some d else codeAmong pos rest)=some J\/J=c;split at e
  ·rename_i z;rw[AD z];exact .inl e
  ·rename_i z;rw[AE z];exact U h e
 |case3=>exact h.elim
structure xG(K:Af)(fx:Value)(P:Addr):Prop where
 ex:∃c oc,fx=.ref c/\K.lookup c=some oc/\∀h:Heap,h.get? c=some oc->PySem.W.CodeHd h c P
 bm:∃bm ob,PySem.W.nsIn K mainGlobals "__builtins__"=some (some (.ref bm))/\bm≠builtinsNs/\bm≠mainGlobals/\K.lookup bm=some ob/\ob.cls=.type "module" /\ ob.dict=some builtinsNs/\ob.data=.plain
theorem qY:∀{l:List Nat} {us:List Value},zo (l.map λi:Nat=>V.int (0+(i:Int))) us->∃ps:List (Nat×Tok),us=ps.map TS.itV/\ps.map (·.1)=l
 |[],_,.nil=>⟨[],rfl,rfl⟩
 |i::r,_,.cons (b:=u) h t=>by obtain⟨ps,J,U⟩:=qY (l:=r) t;obtain⟨tk,g⟩:=(show ∃tk,u=Value.int (0+(i:Int)) tk from h);refine⟨(i,tk)::ps,?_,by rw[AO,U]⟩;rw[AO,J,g];show _=Value.int (i:Int) tk::_;rw[BI]
theorem tE:∀ps:List (Nat×Tok),zo (ps.map λx=>V.int ((x.1:Nat):Int)) (ps.map TS.itV)
 |[]=>.nil
 |x::r=>.cons ⟨x.2,rfl⟩ (tE r)
def ajh(P:Addr)(q:Str)(g:Nat)(te:TE):TE:=λσ H Q=>te σ H λv H1=>∃l U,∃n:Nat,∃rks:List Int,v=.ref l/\H1 l=some (.lst ((List.range n).map λi:Nat=>V.int (0+(i:Int))))/\σ[g]?=some (some (.ref U))/\H1 U=some (.lst (rks.map V.int))/\rks.length=n/\n<=63/\oz H1 P q/\
 ∀H2 D (J:List Nat),(∀b u,b≠P->H1 b=some u->H2 b=some u)->oz H2 P q->H1 D=none->D≠P->H2 D=some (.lst (J.map λi:Nat=>V.int (i:Int)))->J.Perm (List.range n)->(J.Pairwise λi j=>rks.getD i 0*1000000+(i:Int)<=rks.getD j 0*1000000+(j:Int))->Q (.ref D) H2
theorem yD{kk cell c':Addr}{J:Arguments}{r:Value}{Q:VK}(I:z9 X pins σ H s)(S:TS.KeySc fy kx px)(hr:X.A.depth+3<recursionLimit)
 (hf:s.heap.get? f=some (PySem.W.kla_obj name eK J (TS.keyBody kx px p1 p2 p3 p4 p5 x1) fy [(kx,cell)] pm c' r)) (a2:s.heap.CodeRec (.ref c') eK) (C:s.heap.IsCell cell (some (.ref kk)))
 (hb:∀v:Value,bindArgs (PySem.W.kla_fn name eK J (TS.keyBody kx px p1 p2 p3 p4 p5 x1) fy [(kx,cell)] pm (.ref c') r) ⟨[v],[]⟩=pure [(px,v)])
 (hl:H l=some (.lst ((List.range n).map λi:Nat=>V.int (0+(i:Int))))) (hk:H kk=some (.lst (rks.map V.int))) (hn:rks.length=n) (hz:n<=63)
 (q:∀D (g:List Nat),H D=none->g.Perm (List.range n)->(g.Pairwise λi j=>rks.getD i 0*1000000+(i:Int)<=rks.getD j 0*1000000+(j:Int))->Q (.ref D) (upd H D (.lst (g.map λi:Nat=>V.int (i:Int))))):
 wpAny (model X.prog X.w) X.A (call (.builtin "sorted") [.ref l] [(Str.ofString "key",.ref f)]) (EP X pins σ Q) X.xe s:=by
 obtain⟨a5,rv,pl,_⟩:=I.list (aK.of hl);obtain⟨p,rk,pk,_⟩:=I.list (aK.of hk);obtain⟨ps,rfl,U⟩:=qY rv;have lk:p.length=n:=by rw[<-rk.length,Ab,hn]
 have lp:ps.length=n:=by have:=Bb List.length U;rwa[Ab,Bw] at this
 have big:(100000:Nat)<=sizeLine:=by decide
 refine x0 I.tk (TS.w_sortedK (rk:=λi=>rks.getD i 0) (B:=1000000) (kvs:=p) ⟨⟨name,eK,J,p1,p2,p3,p4,p5,x1,pm,r,c',cell,kk,hf,a2,C,pk.isList,hb⟩,I.nolimit⟩ S ?_ pl.isList (by lia) (λx hx=>?_) (λx hx=>?_) ?_ λh' tk g D c hD keep hg a1 pw ht=>?_)
 ·show X.A.depth<recursionLimit;lia
 ·have T:x.1∈List.range n:=by rw[<-U];exact Dd hx
  have a3:=A6.mp T;refine⟨by lia,?_⟩;have e1:(rks.map V.int)[x.1]?=some (V.int (rks.getD x.1 0)):=by rw[An,Ae (by lia),Bo,Ae (by lia)];rfl
  obtain⟨u,e2,r2⟩:=Words.Paired.getP rk e1;obtain⟨t,rfl⟩:=(show ∃t,u=Value.int (rks.getD x.1 0) t from r2);exact⟨t,e2⟩
 ·have T:x.1∈List.range n:=by rw[<-U];exact Dd hx
  have a3:=A6.mp T;omega
 ·rw[U];exact Cb
 ·have a4:H D=none:=I.hok.fresh hD;refine⟨.ref D,_,I.laid (t':=tk) (o:=.lst ((g.map (·.1)).map λi:Nat=>V.int (i:Int))) keep hD ?_,rfl,q D (g.map (·.1)) a4 ?_ ?_⟩
  ·refine⟨?_,g.map TS.itV,c,?_,hg⟩
   ·rw[Ab,Ab,a1.length_eq];lia
   ·rw[BA];exact tE g
  ·rw[<-U];exact a1.map _
  ·exact Du.mpr pw
theorem z9.tabbed{P U:Addr}{ps more:Array Value}{oc fo:Obj}{tk:Nat}(I:z9 X pins σ H s)(T:H P=some (.tbl ps))(hx:Heap.ExtBut P s.heap h')(g:h'.get? P=some (PySem.W.tabObj (ps++more)))
 (hc:s.heap.objs.size<=U) (j:h'.get? U=some oc) (ht:0<tk):z9 X pins σ (upd (upd H P (.tbl (ps++more))) U (.frz oc (.own 0))) { s with heap:=h'.push fo,toks:=tk }:=by
 have nc:H U=none:=I.hok.fresh hc;have t:∀b,H b=none->b≠P:=λb e z=>by rw[z,T] at e;cases e
 have l:∀b u,H b=some u->b≠U:=λb u e z=>by rw[z,nc] at e;cases e
 have p:∀b o,s.heap.get? b=some o->b≠U:=λb o e=>A1 (AM (ya e) hc);have C:∀b o,b≠P->s.heap.get? b=some o->(h'.push fo).get? b=some o:=λb o n e=>xT _ (hx b o n e);have J:∀b u,H b=some u->(∀ps,u≠.tbl ps)->b≠P:=λb u e d z=>by rw[z,T] at e;cases e;exact d _ rfl
 refine I.step (ch:=[]) (g':=s.gens) (d':=s.drawn) (t':=tk) (λ_ z=>nomatch z) (λb o _ _ _ e n=>C b o (t b n) e) (λb o _ _ _ e n=>⟨o.slots,C b o (t b n) e⟩) (λb o _ e n=>?_) (λb o _ e=>?_) (λb xs e=>?_) (λb o u e=>?_) (λb qs e=>?_) (λm hm=>?_) (λb u e=>?_) I.bare ht
 ·rw[qp (p b o e),qp (t b n)];exact n
 ·by_cases c:b=P
  ·subst c;exact⟨_,xT _ g⟩
  ·exact⟨o,C b o c e⟩
 ·rw[qp (l b _ e),qp (J b _ e λ_ z=>by cases z)];exact e
 ·rw[qp (l b _ e),qp (J b _ e λ_ z=>by cases z)];exact e
 ·rw[qp (l b _ e)];by_cases c:b=P
  ·subst c;rw[T] at e;cases e;exact⟨more,zp⟩
  ·rw[qp c];exact⟨#[],by rw[e];simp⟩
 ·exact(hm.extBut hx (t _ I.free)).push _
 ·by_cases c:b=U
  ·subst c;rw[zp] at e;cases e;exact⟨xT _ j,_,xT _ j⟩
  ·rw[qp c] at e;by_cases d:b=P
   ·subst d;rw[zp] at e;cases e;exact xT _ g
   ·rw[qp d] at e;refine(I.hok b u e).stay (λa v ha r=>C a v ?_ r) (λa r=>?_) (λa xs r=>?_)
    ·rcases ha with rfl|ha
     ·exact d
     ·exact J a _ ha λ_ z=>by cases z
    ·rw[qp (l a _ r),qp (J a _ r λ_ z=>by cases z)];exact r
    ·rw[qp (l a _ r),qp (J a _ r λ_ z=>by cases z)];exact r
theorem ab1{te:TE}{J:Arguments}{U:Pos}{ik:Nat}{P:Addr}(hg:Gl X "sorted")(hm:X.mg "sorted"=none)(he:PE X e te)(S:TS.KeySc fy kx px)(C:xG X.K X.env.code P)(hr:X.A.depth+3<recursionLimit)
 (hq:X.env.qual ++ "<lambda>" = q) (bq:X.N[ik]?=some kx) (aL:X.env.scope.names.lookup kx=some .cell) (ba:∃cell,X.env.cells.lookup kx=some cell/\closureFor fy X.env=pure [(kx,cell)])
 (bb:defaultsOf J X.env=([],[])) (hb:∀(name eK:Str) (cl:List (Str×Addr)) (pm cd ct v:Value),bindArgs (PySem.W.kla_fn name eK J (TS.keyBody kx px p1 p2 p3 p4 p5 x1) fy cl pm cd ct) ⟨[v],[]⟩=pure [(px,v)])
 (h1:starEach [e] X.env=(false,eval e X.env)::starEach [] X.env:=by rfl) (h2:(backTo pos (starEach [e] X.env)).any (·.1)=false:=by rfl)
 (h3:backTo pos (starEach [e] X.env)=(false,eval e X.env)::backTo pos (starEach [] X.env):=by rfl):
 PE X (.Call (.Name "sorted" p) [e] [⟨some "key",.Lambda J (TS.keyBody kx px p1 p2 p3 p4 p5 x1) fy U,vb⟩] pos) (ajh P q ik te):=by
 intro a1 s σ H Q I h;refine wpAny_Call_Name_kw (az I hg hm (by decide +kernel:bootBuiltins "sorted"=some (.builtin "sorted")) ?_ (by decide) (by decide));refine PyProof.Rows.callWith_kw ?_ h3 h2;rw[h3];refine Ef (aI (he a1 s σ H _ I h) λv s1 ⟨x,H1,g,rx,l,kk,n,rks,ev,hl,hs,hk,hn,hz,T,qq⟩=>?_);refine Ek ?_;subst ev;cases (show v=Value.ref l from rx);show wpAny _ _ (evalAll ((do let v <-eval (.Lambda J (TS.keyBody kx px p1 p2 p3 p4 p5 x1) fy U) X.env;standAt pos;pure v)::[])) _ _ s1;refine wpAny_evalAll_cons (Aa ?_);obtain⟨cell,a3,au⟩:=ba;obtain⟨c,br,bc,lc,hC⟩:=C.ex;obtain⟨bm,ob,b1,b2,b3,b4,b5,b6,b7⟩:=C.bm;obtain⟨ag,tP,tok,a4⟩:=T;have bd:s1.heap.Ns mainGlobals X.mg:=g.ok.mod.glob.keeps g.bk;have bf:s1.heap.get? P=some (PySem.W.tabObj ag):=g.hok P _ tP;have bg:PySem.W.CodeHd s1.heap c P:=hC _ (g.kIn c br lc);have a2:∀b o,X.base.get? b=some o->b≠P:=λb o e z=>by have:=(g.bs b o e).2;rw[z,tP] at this;cases this
 have av:=g.ok.mod.kin bm ob b4;have hB:s1.heap.BuiltinsAt X.mg P:=⟨bm,ob,Ck g.ok.mod.kin g.ok.mod.glob b1,b2,b3,a2 _ _ av,(g.bs _ _ av).1,b5,b6,b7⟩;have bu:mainGlobals≠P:=by obtain⟨o,es,ep,e,hd,_⟩:=g.ok.mod.glob;exact a2 _ _ e
 have a5:s1.heap.IsCell cell (some (.ref kk)):=by
  obtain⟨m,_,bv⟩:=g.loc;obtain⟨u,ru,lk⟩:=bv ik kx _ bq hs (.inr (.inl aL));cases (show u=Value.ref kk from ru);rcases lk with⟨k1,_⟩|⟨_,c2,e2,bw⟩
  ·have k1:X.env.scope.names.lookup kx=some .local:=k1;rw[aL] at k1;cases k1
  ·rw[a3] at e2;cases e2;exact bw
 refine PySem.W.kla_eval bb ?_;rw[hq];have js:∀(s2:Shared) (H2:Hp) (f j:Addr) (r pm:Value),z9 X a1 σ H2 s2->s2.heap.get? f=some (PySem.W.kla_obj "<lambda>" q J (TS.keyBody kx px p1 p2 p3 p4 p5 x1) fy [(kx,cell)] pm j r)->s2.heap.CodeRec (.ref j) q->s2.heap.IsCell cell (some (.ref kk))->
  (∀b u,b≠P->H1 b=some u->H2 b=some u)->oz H2 P q->(∀b,H2 b=none->H1 b=none)->
  wpAny (model X.prog X.w) X.A (do standAt pos;pure (Value.ref f)) (λv s'=>wpAny (model X.prog X.w) X.A (evalAll []) (λvs bS=>wpAny (model X.prog X.w) X.A (call (.builtin "sorted") [.ref l] ([Str.ofString "key"].zip (v::vs))) (EP X a1 σ Q) X.xe bS) X.xe s') X.xe s2:=by
  intro s2 H2 f j r pm I2 g1 g2 g3 g4 g5 g6;refine Aa (wpAny_standAt (Ag (wpAny_evalAll_nil ?_)));have lP:l≠P:=λz=>by rw[z,tP] at hl;cases hl
  have kP:kk≠P:=λz=>by rw[z,tP] at hk;cases hk
  refine yD (n:=n) (rks:=rks) I2 S hr g1 g2 g3 (λv=>hb _ _ _ _ _ _ v) (g4 _ _ lP hl) (g4 _ _ kP hk) hn hz λD qs hD ca pw=>?_;have bh:D≠P:=λz=>by obtain⟨cm,e2,_⟩:=g5;rw[z,e2] at hD;cases hD
  refine qq _ D qs (λb u n e=>?_) ?_ (g6 D hD) bh zp ca pw
  ·rw[qp (zu (g4 b u n e) hD)];exact g4 b u n e
  ·exact g5.keep (qp (AB bh)) λb o u e=>by rw[qp (zu e hD)];exact e
 cases hf:codeAmong U ag.toList with
 |some cv=>
  obtain⟨j,oc,vs,t,cb,f1,f2,f3⟩:=a4 U cv hf;subst cb;refine x0 g.tk (PySem.W.kla_makeFunctionHit (mg:=X.mg) au g.ok.glob bd bc bg bf tok hf hB λr h' tk bi cy ht=>?_);have I2:z9 X a1 σ H1 { s1 with heap:=h'.push { cls:=.type "function",data:=.func (PySem.W.kla_fn "<lambda>" q J (TS.keyBody kx px p1 p2 p3 p4 p5 x1) fy [(kx,cell)] ((X.mg "__name__").getD .none) (.ref j) r) },toks:=tk }:=g.kept (t':=tk) λb o e=>xT _ (bi b o e);obtain⟨al,_⟩:=I2.hok j _ f1;refine js _ H1 _ j r _ I2 (y1 _ rfl) ⟨j,oc,vs,t,rfl,al,f2,f3⟩ ?_ (λb u _ e=>e) ⟨ag,tP,tok,a4⟩ (λb e=>e);obtain⟨o,e1,e2⟩:=a5;exact⟨o,xT _ (bi _ _ e1),e2⟩
 |none=>
  refine x0 g.tk (PySem.W.kla_makeFunction (mg:=X.mg) au g.ok.glob bd bc bg bf tok hf bu hB λj r h' tk hx bj d0 bn cc ht=>?_);obtain⟨c2,oc,vs,t,e2,al,f2,f3⟩:=bn;cases e2;have I2:=g.tabbed (fo:=PySem.W.kla_obj "<lambda>" q J (TS.keyBody kx px p1 p2 p3 p4 p5 x1) fy [(kx,cell)] ((X.mg "__name__").getD .none) j r) tP hx cc bj al ht;have nc:H1 j=none:=g.hok.fresh bj;have cP:j≠P:=λz=>by rw[z,tP] at nc;cases nc
  refine js _ _ _ j r _ I2 (y1 _ rfl) ⟨j,oc,vs,t,rfl,xT _ al,f2,f3⟩ ?_ (λb u n e=>?_) ?_ (λb e=>?_)
  ·obtain⟨o,e1,e2⟩:=a5;have nP:cell≠P:=λz=>by have:=g.freeC kx cell a3;rw[z,tP] at this;cases this
   exact⟨o,xT _ (hx _ _ nP e1),e2⟩
  ·rw[qp (zu e nc),qp n];exact e
  ·refine⟨ag++#[rawInt U.line,rawInt U.col,.ref j],by rw[qp (AB cP),zp],?_,λbp cv z=>?_⟩
   ·rw[C9];exact oy _ tok
   ·rw[C9] at z;rcases tK _ tok z with z|z
    ·obtain⟨d',od,cg,t',k1,k2,k3⟩:=a4 bp cv z;have nP:d'≠P:=λz=>by rw[z,tP] at k2;cases k2
     exact⟨d',od,cg,t',k1,by rw[qp (zu k2 nc),qp nP];exact k2,k3⟩
    ·exact⟨j,oc,vs,t,z,zp,f2,f3⟩
  ·by_cases d:b=j
   ·subst d;exact nc
   ·rw[qp d] at e;by_cases d2:b=P
    ·subst d2;rw[zp] at e;cases e
    ·rw[qp d2] at e;exact e
end L2
namespace L3
open PySem L2
def zZ(Pt:Addr)(q:Str)(g:Nat)(te:xj)(τ:jq)(L:qm)(Q:YK):Prop:=te τ L λy L1=>match y with
 |.ref l=>cU L1 l λys=>∃(n:Nat) (rks:List Int) (U:Addr),ys=a6 0 n/\yM τ g=some (.ref U)/\L1 U=some (.lst (rks.map Y.int))/\rks.length=n/\n<=63/\L1 Pt=some (.tb q)/\
  ∀(D:Addr) (J:List Nat),L1 D=none->J.Perm (List.range n)->(J.Pairwise λi j=>rks.getD i 0*1000000+(i:Int)<=rks.getD j 0*1000000+(j:Int))->Q (.ref D) (qf L1 D (.lst (J.map λi:Nat=>Y.int (i:Int))))
 |_=>False
theorem mz{G:G3}{H:Hp}:∀{l:List Nat} {xs:List V},x6 G H (l.map λi:Nat=>Y.int (0+(i:Int))) xs->xs=l.map λi:Nat=>V.int (0+(i:Int))
 |[],_,h=>h
 |_::_,_,⟨x,J,e,r,s⟩=>by subst e;cases r;rw[mz s];rfl
theorem gR{G:G3}{H:Hp}:∀{l:List Int} {xs:List V},x6 G H (l.map Y.int) xs->xs=l.map V.int
 |[],_,h=>h
 |_::_,_,⟨x,J,e,r,s⟩=>by subst e;cases r;rw[gR s];rfl
theorem rL{G:G3}{H:Hp}:∀J:List Nat,x6 G H (J.map λi:Nat=>Y.int (i:Int)) (J.map λi:Nat=>V.int (i:Int))
 |[]=>rfl
 |_::r=>⟨_,_,rfl,rfl,rL r⟩
theorem acz{J:Arguments}{g:Pos}{t:Nat}(hg:Gl X "sorted")(hm:X.mg "sorted"=none)(he:QE X e te)(S:TS.KeySc fy kx px)(C:xG X.K X.env.code Pt)(hr:X.A.depth+3<recursionLimit)
 (hq:X.env.qual ++ "<lambda>" = q) (I:X.N[t]?=some kx) (a1:X.env.scope.names.lookup kx=some .cell) (j:∃cell,X.env.cells.lookup kx=some cell/\closureFor fy X.env=pure [(kx,cell)])
 (o:defaultsOf J X.env=([],[])) (hb:∀(name eK:Str) (cl:List (Str×Addr)) (pm cd ct v:Value),bindArgs (PySem.W.kla_fn name eK J (TS.keyBody kx px p1 p2 p3 p4 p5 x1) fy cl pm cd ct) ⟨[v],[]⟩=pure [(px,v)])
 (h1:starEach [e] X.env=(false,eval e X.env)::starEach [] X.env:=by rfl) (h2:(backTo pos (starEach [e] X.env)).any (·.1)=false:=by rfl)
 (h3:backTo pos (starEach [e] X.env)=(false,eval e X.env)::backTo pos (starEach [] X.env):=by rfl):
 QE X (.Call (.Name "sorted" p) [e] [⟨some "key",.Lambda J (TS.keyBody kx px p1 p2 p3 p4 p5 x1) fy g,vb⟩] pos) (zZ Pt q t te):=
 DX (ab1 hg hm he S C hr hq I a1 j o hb h1 h2 h3) λσ H Q τ L Q3 rs rl z k=>by
  refine⟨τ,L,_,rs,rl,z,λv H1 y L1 t1 U rv z=>?_⟩;cases y with
  |ref l=>
   obtain⟨ys,e1,n,a2,kk,rfl,e2,e3,hn,hz,eP,qq⟩:=xn z;cases rv;obtain⟨xs,h1,r1⟩:=U l _ e1;obtain⟨xk,h2,r2⟩:=U kk _ e3;have T:oz H1 Pt q:=U Pt _ eP;cases mz r1;cases gR r2;obtain⟨v,hv,rv⟩:=rs.get t _ (o9 _ _ e2);cases rv;refine⟨l,kk,n,a2,rfl,h1,hv,h2,hn,hz,T,λH2 D qs kp T2 hD a4 a3 pm pw=>?_⟩;have tb:∃r,H1 Pt=some (.tbl r):=let ⟨r,e,_⟩:=T;⟨r,e⟩;have t2:j8 H1 H2:=λa u i h=>kp a u (λc=>by obtain⟨r,e⟩:=tb;rw[c,e] at h;cases h;cases i) h
   refine k _ _ _ _ (t1.trans t2) (λa u e=>?_) (by rfl) (qq D qs (U.none hD) pm pw);by_cases c:a=D
   ·subst c;rw[q8] at e;cases e;exact⟨_,a3,rL qs⟩
   ·rw[q9 c] at e;by_cases d:a=Pt
    ·subst d;rw[eP] at e;cases e;exact T2
    ·obtain⟨x,hx⟩:=(U a u e).ex;exact(U a u e).keep t2 (by rw[hx];exact kp a x d hx)
  |_=>exact z.elim
structure alk(K:Af)(x eK:Str)(st:Stmt)(f:Addr)(fd:FuncData)(Pt:Addr):Prop where
 ex:∃(oc:Value) (od:Option Addr) (kV hQ pm:Value) (an:Option Addr) (fx ct:Value) (sm:Array (Option Value)),
  fd=PySem.W.fnOf x eK (xx st) (ji st) (qy st) .none kV hQ pm an fx ct/\K.lookup f=some ⟨oc,od,.func fd,sm⟩/\PySem.W.codeIn K fx eK=true/\xG K fx Pt
 kp:PySem.W.keepIn K (.ref f)=true
theorem ap9{P:Program}{w:World}{K:Af}{N:List Str}{k:Nat}{sp:jr}(F:alk K x eK st f fd Pt)(S:aD N ps (qy st))(len:∀ys L Q,sp ys L Q->ys.length=ps.length)
 (J:∀(fx:Value) (A:Around) (outer:List Env) (s:Shared) (H:Hp) (E:XK),xG K fx Pt->wb k (A.deeper (PyProof.Rows.envOfC eK (qy st) s.heap.objs.size f fx))->
  ∃t,qF (cZ CX0 P w K mg base N eK (qy st) f fx A outer s H E).nox (ji st) t/\∀ys L Q,sp ys L Q->t { nx:=λ_ L'=>fV Q .non L',rt:=fV Q } (eE N ys) L):Fn3 P w K mg base (k+1) f fd ps sp:=by
 obtain⟨oc,od,kV,j,pm,an,fx,ct,l,rfl,lk,g,C⟩:=F.ex;have F0:Fun K x eK st f _:=⟨⟨oc,od,kV,j,pm,an,fx,ct,l,rfl,lk,g⟩,F.kp⟩;refine adm lk g S (λvs H Q E ⟨ys,L,o,p,rl,z,_⟩=>by rw[<-p.length];exact len ys L o z) λA outer s H vs Q E hr ⟨ys,L,o,p,rl,z,k⟩=>?_;obtain⟨t,ht,q⟩:=J fx A outer s H E C hr;refine⟨_,gH.nox ht,eE N ys,L,_,iO p,rl,q ys L o z,?_⟩;exact⟨λσ r τ L' I a2 U ⟨L2,T,q2⟩=>k .non r .non L2 I (U.sub T) (by rfl) q2,λv r y L' I U a1 ⟨L2,T,q2⟩=>k v r y L2 I (U.sub T) a1 q2,λ_ _ _ _ _ _ _ z=>z.elim,λ_ _ _ _ _ _ _ z=>z.elim⟩
def pV(Pt:Addr)(q:Str):jr:=λys L Q=>∃J:List Int,ys=[.sq (J.map Y.int)]/\J.length<=63/\L=qf (λ_=>none) Pt (.tb q)/\∀L',Q (.bl true) L'
def spTopT(q:Str)(K:Af)(Pt:Addr):Sp:=λvs H Q _=>∃(a:Addr) (J:List Int),vs=[.ref a]/\SqF K H a (J.map V.int)/\J.length<=63/\H Pt=some (.tbl #[])/\∀H',Q (.bl true) H'
theorem ag0{Q:VK}{E:XK}(h:spTopT q G.K Pt vs H Q E):dn G (pV Pt q) vs H Q E:=by
 obtain⟨a,J,rfl,U,g,j,z⟩:=h;refine⟨[.sq (J.map Y.int)],qf (λ_=>none) Pt (.tb q),λy _=>y=.bl true,x6.one ⟨a,_,rfl,U,rh J⟩,(λb u e=>?_),⟨J,rfl,g,rfl,λ_=>rfl⟩,?_⟩
 ·by_cases c:b=Pt
  ·subst c;rw[q8] at e;cases e;exact⟨#[],j,trivial,λpos p z=>by cases z⟩
  ·rw[q9 c] at e;cases e
 ·rintro v l y r _ _ o rfl;cases o;exact z l
end L3
namespace L2
open PySem PySem.Spec PyProof.Rows
def lessK(Pt:Addr):Af->Af
 |[]=>[]
 |(a,o)::r=>if a==Pt then lessK Pt r else(a,o)::lessK Pt r
theorem x8{Pt a:Addr}(h:a≠Pt):∀K:Af,(lessK Pt K).lookup a=K.lookup a
 |[]=>rfl
 |(b,o)::r=>by
  unfold lessK;by_cases c:(b==Pt)=true
  ·rw[AD c,x8 h r,Bp];have:(a==b)=false:=by have J:=eq_of_beq c;subst J;exact DP h
   rw[this]
  ·rw[AE c,Bp,Bp,x8 h r]
theorem vm{Pt:Addr}:∀K:Af,(lessK Pt K).lookup Pt=none
 |[]=>rfl
 |(b,o)::r=>by
  unfold lessK;by_cases c:(b==Pt)=true
  ·rw[AD c];exact vm r
  ·rw[AE c,Bp];have:(Pt==b)=false:=by cases d:Pt==b with|false=>rfl|true=>exact absurd (beq_iff_eq.mpr (eq_of_beq d).symm) c
   rw[this];exact vm r
theorem lu{K:Af}{o:Obj}(e:(lessK Pt K).lookup a=some o):a≠Pt/\K.lookup a=some o:=by
 by_cases c:a=Pt
 ·subst c;rw[vm] at e;cases e
 ·rw[x8 c] at e;exact⟨c,e⟩
theorem lessK_in{K:Af}(X:K.In h):(lessK Pt K).In h:=λa o e=>X a o (lu e).2
structure ahl(K:Af)(Pt:Addr):Prop where
 tab:K.lookup Pt=some (PySem.W.tabObj #[])
 hd:∃c,∀h:Heap,K.In h->PySem.W.CodeHd h c Pt
 st:Pt≠cStatics
section
variable {K:Af}(T:K.lookup Pt=some (PySem.W.tabObj #[]))
include T
theorem ns_dn{r:Option (Option Value)}(e:PySem.W.nsIn K a x=r):PySem.W.nsIn (lessK Pt K) a x=r:=by
 rw[<-e];unfold PySem.W.nsIn;by_cases c:a=Pt
 ·subst c;rw[vm,T]
 ·rw[x8 c]
theorem lk_dn{o:Obj}(e:K.lookup a=some o)(n:o.cls≠.none):(lessK Pt K).lookup a=some o:=by
 rw[x8 ?_]
 ·exact e
 ·rintro rfl;rw[T] at e;cases e;exact n rfl
theorem code_dn(e:PySem.W.codeIn K cd q=true):PySem.W.codeIn (lessK Pt K) cd q=true:=by
 unfold PySem.W.codeIn at e ⊢;split at e
 ·rename_i c;by_cases d:c=Pt
  ·subst d;rw[T] at e;simp at e
  ·rw[x8 d];exact e
 ·cases e
theorem al7{v:Value}:PySem.W.ownIn (lessK Pt K) x v=PySem.W.ownIn K x v:=by
 unfold PySem.W.ownIn;split
 ·rfl
 ·rename_i a;by_cases d:a=Pt
  ·subst d;rw[vm,T]
  ·rw[x8 d];split
   ·exact ns_dn T rfl
   ·rfl
 ·rfl
theorem sM{x:Str}:∀l:List Value,PySem.W.alongIn (lessK Pt K) x l=PySem.W.alongIn K x l
 |[]=>rfl
 |c::r=>by unfold PySem.W.alongIn;rw[al7 T,sM r]
theorem afm{v:Value}:PySem.W.findIn (lessK Pt K) v x=PySem.W.findIn K v x:=by
 unfold PySem.W.findIn;split
 ·rfl
 ·rename_i a;by_cases d:a=Pt
  ·subst d;rw[vm,T]
  ·rw[x8 d];split
   ·exact sM T _
   ·rfl
 ·rfl
theorem tL(n:a≠Pt):PySem.W.specialIn (lessK Pt K) (.ref a) x=PySem.W.specialIn K (.ref a) x:=by unfold PySem.W.specialIn PySem.W.typeIn;dsimp only;rw[x8 n];congr 1;funext t;exact afm T
theorem keep_dn{f:Value}(e:PySem.W.keepIn K f=true):PySem.W.keepIn (lessK Pt K) f=true:=by
 unfold PySem.W.keepIn at e ⊢;split at e
 ·rename_i a;by_cases d:a=Pt
  ·subst d;rw[T] at e;simp at e
  ·rw[x8 d,tL T d];exact e
 ·cases e
end
theorem xL{P:Program}{w:World}{K:Af}{mb:Str->Option Value}{CX:vU}{k:Nat}{J:Shared}{vs:List Value}{T:List Int}
 (KX:K.In J.heap) (TI:ahl K Pt) (a1:J.heap.Ns mainGlobals mg) (hb:J.heap.Ns builtinsNs mb) (au:∀x:Str,x ≠ "__name__" -> mb x=bootBuiltins x) (a2:J.heap.NoLimit) (hg:J.gens=#[]) (av:0<J.toks)
 (t:J.heap.get? a=some { cls:=.type "list",data:=.seq vs.toArray }) (hi:IntsAre vs T) (hl:T.length<=sizeLine) (hr:wb k callerA)
 (F:∀base:Heap,(lessK Pt K).In base->base.Ns mainGlobals mg->ar P w (lessK Pt K) mg base CX k fa fd [x] sp) (p:∀(s:Shared) (u:Value),BindsTo s fd ⟨[u],[]⟩ [(x,u)])
 (aL:∀H:Hp,H Pt=some (.tbl #[])->(H a=none\/∃o xs,H a=some (.frz o (.lst xs)))->aK (lessK Pt K) H a (T.map V.int)->sp [.ref a] H (λv _=>v=.bl true) λ_ _ _=>False)
 (ba:∀H e s',CX [] H J (λ_ _ _=>False) e s'->False):
 codeAny (model P w) callerA (.call (.ref fa) ⟨[.ref a],[]⟩) (λr s'=>r=.ok (.ret (.bool true))/\OldK J.heap s'.heap/\s'.os=J.os/\AllBare s'.gens) J:=by
 have rv:=mf hi;have a3:=hi.length;have hP:J.heap.get? Pt=some (PySem.W.tabObj #[]):=KX Pt _ TI.tab;have g:a≠Pt:=λz=>by rw[z,hP] at t;cases t
 have core:∀H:Hp,H Pt=some (.tbl #[])->(∀b,b≠a->b≠Pt->H b=none)->(H a=none\/∃o xs,H a=some (.frz o (.lst xs)))->aK (lessK Pt K) H a (T.map V.int)->(∀u,H a=some u->xo P w H J.heap a u)->(H a≠none->K.lookup a=none)->
  codeAny (model P w) callerA (.call (.ref fa) ⟨[.ref a],[]⟩) (λr s'=>r=.ok (.ret (.bool true))/\OldK J.heap s'.heap/\s'.os=J.os/\AllBare s'.gens) J:=by
  intro H HP Hn HO HS a4 bb;have a5:dF P w H J.heap:=λb u e=>by
   by_cases c:b=a
   ·subst c;exact a4 u e
   ·by_cases d:b=Pt
    ·subst d;rw[HP] at e;cases e;exact hP
    ·rw[Hn b c d] at e;cases e
  have U:∀{b:Addr} {o:Obj},J.heap.get? b=some o->H b=none->(qG J.heap H).get? b=some o:=λe n=>zO e n;have bc:∀{b:Addr} {o:Obj} {C:Array DictEntry} {I:Nat},J.heap.get? b=some o->o.data=.dict C I->H b=none:=λ{b o C I} e d=>by
   refine Hn b (λz=>?_) λz=>?_
   ·subst z;rw[t] at e;cases e;have d':Data.seq vs.toArray _=Data.dict C I:=d;cases d'
   ·subst z;rw[hP] at e;cases e;have d':Data.fields _=Data.dict C I:=d;cases d'
  have j:∀{b:Addr} {m:Str->Option Value},J.heap.Ns b m->(qG J.heap H).Ns b m:=λ{b m} ⟨o,C,I,e,d,r⟩=>⟨o,C,I,U e (bc e d),d,r⟩;have ag:(lessK Pt K).In (qG J.heap H):=λb o e=>by
   obtain⟨n,e⟩:=lu e;refine U (KX b o e) ?_;by_cases c:b=a
   ·subst c;cases q:H b with|none=>rfl|some u=>rw[bb (by rw[q];simp)] at e;cases e
   ·exact Hn b c n
  have hM:Mod (lessK Pt K) mg (qG J.heap H):=⟨ag,j a1,⟨mb,j hb,au⟩,let ⟨mc,h1,h2⟩:=a2;⟨mc,j h1,h2⟩⟩;have e0:aej P w (lessK Pt K) mg (qG J.heap H) callerA [] J H:=⟨rfl,hM,λb o e=>ahb e,Nat.le_of_eq (xD _ _),trivial,λb hb=>absurd (show b∈([]:List Addr) from hb) (by simp),a5,.of_eq hg,av⟩;refine codeAny_mono ((F _ ag (j a1)).run callerA [] J H ⟨[.ref a],[]⟩ [.ref a] [.ref a] _ _ hr e0 (p J (.ref a)) (.cons rfl .nil) (aL H HP HO HS)) λr s' h=>?_;cases r with
  |error e=>exact(ba H e s' h).elim
  |ok fl=>
   cases fl with
   |next=>exact False.elim h
   |brk=>exact False.elim h
   |cont=>exact False.elim h
   |ret u=>
    obtain⟨v,H',os,bare,un,l,r',q,_⟩:=h;have q':v=.bl true:=q;subst q';obtain rfl:u=Value.bool true:=r';obtain⟨more,em⟩:=un.tbls Pt _ HP;have gP:s'.heap.get? Pt=some (PySem.W.tabObj (#[]++more)):=l Pt _ em;have kp:∀b o,b≠Pt->J.heap.get? b=some o->s'.heap.get? b=some o:=λb o n e=>by
     have al:H b=none->s'.heap.get? b=some o:=λz=>un.keep b o e z (by intro z;exact absurd (show b∈([]:List Addr) from z) (by simp)) (by simp);by_cases c:b=a
     ·subst c;rcases HO with z|⟨ob,xs,z⟩
      ·exact al z
      ·have z2:=un.frzs _ _ _ z;obtain⟨e1,_⟩:=a5 _ _ z;obtain⟨e2,_⟩:=l _ _ z2;rw[e] at e1;cases e1;exact e2
     ·exact al (Hn b c n)
    obtain⟨c,hc⟩:=TI.hd;refine⟨rfl,⟨λb o e=>?_,λb o e=>?_⟩,os,bare⟩
    ·by_cases n:b=Pt
     ·subst n;rw[hP] at e;cases e;exact .inr (.inl ⟨((hc _ KX).tab hP).isCodeTable,rfl,#[],more,rfl,gP⟩)
     ·exact .inl (kp b o n e)
    ·by_cases n:b=Pt
     ·subst n;exact⟨_,gP⟩
     ·exact⟨o,kp b o n e⟩
 cases hk:K.lookup a with
 |some o=>
  have e:=KX a o hk;rw[t] at e;cases e;refine core (λb=>if b=Pt then some (.tbl #[]) else none) (AD rfl) (λb _ n=>AE n) (.inl (AE g)) (.inr ⟨_,vs.toArray,_,(x8 g K).trans hk,rfl,rfl,rfl,by rw[Ao,a3];exact hl,by simpa using rv⟩) (λu z=>by have z':=(AE g).symm.trans z;cases z') λz=>absurd (AE g) z
 |none=>
  refine core (λb=>if b=a then some (.frz { cls:=.type "list",data:=.seq vs.toArray } (.lst (T.map V.int))) else if b=Pt then some (.tbl #[]) else none) ((AE (AB g)).trans (AD rfl)) (λb n1 n2=>(AE n1).trans (AE n2)) (.inr ⟨_,_,AD rfl⟩) (.inl (.inr ⟨_,AD rfl⟩)) (λu z=>?_) λ_=>hk;have z':=(AD rfl).symm.trans z;cases z';exact⟨t,by rw[Ab];exact hl,vs,_,rv,t⟩
theorem walk_ofZT{l:PySem.W.OpenLaw}{k:Nat}{q:Program}{loose:List Str}{XP:(Str->Option Value)->Heap->Prop}{as0:List Addr}{N t:Nat}{d:DefRec}{K:Params->Af}{CX:vU}{sp:Af->Addr->Sp}
 (hn:l.most=some n) (C:n<=sizeLine) (I:d.params.defaults=[]) (hr:wb k callerA) (ek:∀P,as0=(K P).map (·.1)) (a1:0<t)
 (F:∀(w:World) (mg:Str->Option Value) (fa:Addr) (h:Heap),(K w.params).In h->h.Ns mainGlobals mg->mg d.name=some (.ref fa)->
  ∃Pt:Addr,ahl (K w.params) Pt/\∃fd:FuncData,(∀(s:Shared) (u:Value),BindsTo s fd ⟨[u],[]⟩ [(x,u)])/\
   ∀base:Heap,(lessK Pt (K w.params)).In base->base.Ns mainGlobals mg->ar l.prog w (lessK Pt (K w.params)) mg base CX k fa fd [x] (sp (lessK Pt (K w.params)) Pt))
 (a2:∀(K:Af) (Pt:Addr) (H:Hp) (a:Addr) (r:List Int),r.length<=n->H Pt=some (.tbl #[])->(H a=none\/∃o xs,H a=some (.frz o (.lst xs)))->aK K H a (r.map V.int)->sp K Pt [.ref a] H (λv _=>v=.bl true) λ_ _ _=>False)
 (a3:∀(H:Hp) (s:Shared) (e:Value) (s':Shared),CX [] H s (λ_ _ _=>False) e s'->False):
 PySem.W.WalkX q loose XP (PySem.W.X.obsZ as0) (PySem.W.X.valZ K N t) l.row.toRowW d [] (λf vs=>PySem.call f vs):=by
 refine Att.attach_callZ hn I ek a1 λw a5 j mg mb fa o pm cd ag a vs r G KX tk ho hd al a4 p U J hg=>?_;obtain⟨Pt,TI,fd,hb,hF⟩:=F w mg fa _ KX G.T.g a4;exact xL KX TI G.T.g G.T.b G.T.builtins G.T.nolimit hg tk p U (AQ J C) hr hF hb (λH hP hO hS=>a2 _ Pt H a r J hP hO hS) λH e s'=>a3 H j e s'
end L2
namespace L3
open PySem L2
theorem top_startT :∀(K:Af) (Pt:Addr) (H:Hp) (a:Addr) (J:List Int),J.length<=63->H Pt=some (.tbl #[])->(H a=none\/∃o xs,H a=some (.frz o (.lst xs)))->aK K H a (J.map V.int)->spTopT q K Pt [.ref a] H (λv _=>v=.bl true) λ_ _ _=>False:=by
 intro K Pt H a J U g j l;refine⟨a,J,rfl,?_,U,g,λ_=>rfl⟩;rcases l with(h|⟨o,h⟩)|h
 ·rcases j with z|⟨o,xs,z⟩<;>rw[h] at z<;>cases z
 ·exact .inl ⟨o,h⟩
 ·exact .inr h
structure DefInT(K:Af)(x:Str)(st:Stmt)(Pt:Addr):Prop where
 ex:∃(f:Addr) (kV hQ pm:Value) (an:Option Addr) (fx ct:Value),PySem.W.nsIn K mainGlobals x=some (some (.ref f))/\alk K x x st f (PySem.W.fnOf x x (xx st) (ji st) (qy st) .none kV hQ pm an fx ct) Pt
theorem DefInT.use{K:Af}(D:DefInT K x st Pt)(X:K.In h)(G:h.Ns mainGlobals mg)
 (J:∀(kV hQ pm:Value) (an:Option Addr) (fx ct:Value) (us:List Value),us.length=ps.length->bindArgs (PySem.W.fnOf x x (xx st) (ji st) (qy st) .none kV hQ pm an fx ct) ⟨us,[]⟩=pure (ps.zip us)):
 ∃f fd,alk K x x st f fd Pt/\cz K fd ps []/\mg x=some (.ref f):=by
 obtain⟨f,kV,hQ,pm,an,fx,ct,a,F⟩:=D.ex;exact⟨f,_,F,.all (J kV hQ pm an fx ct),Ck X G a⟩
end L3
namespace L2
open PySem PySem.Spec PyProof.Rows
section
variable {ir:St}
end
end L2
namespace L3
open PySem L2
theorem aij:bootBuiltins "min"=some (.builtin "min"):=by decide +kernel
def pG(x:Y)(lo hi:Option Int)(L:qm)(Q:YK):Prop:=match x with
 |.tup ys=>¬(HT.sIx ys.length 0 lo=0/\HT.sIx ys.length ys.length hi=ys.length)/\Q (.tup (hX ys lo hi)) L
 |_=>False
theorem iy(K:Af)(P:Program)(w:World)(g:X.K=K:=by rfl)(j:X.prog=P:=by rfl)(hw:X.w=w:=by rfl):qN X (agl ⟨K,P,w⟩ pG):=by
 subst g j hw;refine qN.imp akg λx lo U H Q ⟨y,L,Q3,l,o,z,k⟩=>?_;cases y with
 |tup t=>
  obtain⟨a,C,e,sq,r⟩:=l;obtain⟨I,T⟩:=z;exact⟨a,C,e,sq,by rw[<-r.length];exact I,λp J=>k _ _ (.tup (hX t lo U)) L (DW J) (o.skip J) ⟨p,_,rfl,.inl (.inl zp),(ph r lo U).ts (DW J)⟩ T⟩
 |_=>exact z.elim
theorem ur{keep:qm->Prop}(h:∀H L,j8 H₀ H->zy G H L->keep L->∃xs,cD G.K H a xs/\x6 G H ys xs):dc G H₀ (Itt G.K a) ys keep where
 go:=λi H L t J U g=>by
  obtain⟨xs,sq,r⟩:=h H L t J U;have:i<xs.length:=by rw[<-r.length];exact g
  exact⟨xs,xs[i],sq,Ae this⟩
 yld:=λi H L x p y t J U j ⟨e,f⟩=>by subst e;obtain⟨xs,sq,r⟩:=h _ L t J U;obtain⟨C,l,o⟩:=r.get j;have:=f xs sq;rw[l] at this;cases this;exact⟨DV _,J,o⟩
 stop:=λH L t J U=>by obtain⟨xs,sq,r⟩:=h H L t J U;exact⟨xs,sq,by rw[r.length];exact Al _⟩
theorem adk(h:QE X e te):QI X tg e (zP te):=PI.imq (aki h) λσ H R l L R3 o p z k=>by
 refine⟨l,L,_,o,p,z,λv C y I T J U g=>?_⟩;cases y with
 |tup ys=>
  obtain⟨a,j,e,sq,r⟩:=U;exact⟨a,e,⟨j,sq⟩,k _ C ys (λ_=>True) I T J (ur λH L t _ _=>⟨j,cD.ts sq t,r.ts t⟩) g⟩
 |_=>exact g.elim
theorem dp3{k:Nat}(J:wb k A):A.depth+3<recursionLimit:=by have:=J.dp;omega
abbrev lamQ:Str:="_law_order.<locals>.<lambda>"
open PySem L2 Words
def OkO(ks:List (Option Kn)):Prop:=∀(p:Nat) (e:Bool) (i j:Nat),ks[p]?=some (some (.nd e i j))->i<p/\j<p
def yf(ks:List (Option Kn))(rks:List Int):Prop:=∀(p:Nat) (e:Bool) (i j:Nat),p<rks.length->ks[p]?=some (some (.nd e i j))->rks.getD i 0<rks.getD p 0/\rks.getD j 0<rks.getD p 0
theorem lT{r:Int}(h:i<rks.length):(rks++[r]).getD i 0=rks.getD i 0:=by rw[Bo,Bo,AF h]
theorem abv{r:Int}:(rks++[r]).getD rks.length 0=r:=by rw[Bo,Av (Al _),Cf];rfl
theorem yf.snoc{ks:List (Option Kn)}{r:Int}{k:Option Kn}(ok:OkO ks)(h:yf ks rks)(g:ks[rks.length]?=some k)(l:∀e i j,k=some (.nd e i j)->rks.getD i 0<r/\rks.getD j 0<r):yf ks (rks++[r]):=by
 intro p e i j J U;obtain⟨o,t⟩:=ok p e i j U;rw[Ac] at J;have J:p<rks.length+1:=J;rw[lT (show i<rks.length by lia),lT (show j<rks.length by lia)];by_cases c:p<rks.length
 ·rw[lT c];exact h p e i j c U
 ·have:p=rks.length:=by lia
  subst this;rw[abv];exact l e i j (AV (g.symm.trans U))
def cV(ks:List (Option Kn))(J:List Nat):Prop:=J.Pairwise λx y=>∀e i j,ks[x]?=some (some (.nd e i j))->y≠i/\y≠j
theorem adv{ks:List (Option Kn)}{J:List Nat}(ok:OkO ks)(h:yf ks rks)(U:rks.length=ks.length)(hw:J.Pairwise λi j=>rks.getD i 0*1000000+(i:Int)<=rks.getD j 0*1000000+(j:Int)):cV ks J:=by refine hw.imp λ{x y} z e i j ex=>?_;obtain⟨g,l⟩:=ok x e i j ex;obtain⟨o,p⟩:=h x e i j (by rw[U];exact jv ex) ex;exact⟨λc=>by subst c;lia,λc=>by subst c;lia⟩
theorem sF(h:i<rks.length):(rks.map Y.int)[i]?=some (.int (rks.getD i 0)):=by rw[An,Bo,Ae h];rfl
def adz:ke:=(qr (zr (dH "abcdefghijklmnopqrstuvwxyz") (qh 2))
 (qr (zr (zn kc (jf 1) (zn w6 (qb 0) (jf 8))) (qh 3))
 (qr (zr (zn w6 (zn am (qb 0) (jf 8)) (qb 3)) (qh 4))
 (qr (zr (yBS vT (dH "") (qd (uE 1 (cf (x9 (jf 8))) (qh 7) yj (zn ay (qb 2) (zn w6 (zn kc (zn am (qb 0) (jf 64)) (zn rT (jf 3) (qb 7))) (jf 26)))) qz)) (qh 5))
 (qr (jz (fJ (zn w6 (zn am (qb 0) (jf 64)) (jf 3)) (jf 1)) (je (uw xE (qb 5) wg (aZ (zn kc (jf 1) (zn w6 (zn kc (qb 1) (qb 0)) (jf 3)))))) jk)
 (qr (zr (zn ay (qb 2) (zn w6 (zn kc (zn kc (zn am (qb 0) (jf 64)) (zn rT (jf 3) (qb 4))) (qb 1)) (jf 26))) (qh 6))
 (je (zn kc (zn kc (uw xE (qb 5) wg (aZ (qb 4))) (qb 6)) (uw xE (qb 5) (aZ (zn kc (qb 4) (jf 1))) (aZ (qb 3)))))))))))
def dz(i:Int):Nat:=97+(i % 26).toNat
theorem wO(i:Int):eM ("abcdefghijklmnopqrstuvwxyz" : Str).cps.toList (i % 26)=some (dz i):=by
 obtain⟨n,J⟩:∃n:Nat,i % 26=n:=⟨(i % 26).toNat,by lia⟩;have h:n<26:=by lia
 unfold dz;rw[J];have key:∀n,n<26->("abcdefghijklmnopqrstuvwxyz" : Str).cps.toList[n]?=some (97+n):=by decide +kernel
 exact xq (key n h)
theorem vY(i:Int):97<=dz i/\dz i<=122:=by unfold dz;lia
def cx(s:Int):List Nat:=(List.range 8).map λk:Nat=>dz (s / 64+3*(k:Int))
theorem jZ(s:Int):(cx s).length=8:=by unfold cx;simp
theorem l7(s:Int):∀c∈cx s,97<=c/\c<=122:=λc J=>by obtain⟨k,_,rfl⟩:=AS.mp J;exact vY _
def mo(s:Int):Nat:=(s / 8 % (1+s % 8)).toNat
def szN(s:Int):Nat:=(1+s % 8).toNat
theorem ahn(s:Int):mo s<szN s/\szN s<=8/\s / 8 % (1+s % 8)=(mo s:Int)/\1+s % 8=(szN s:Int):=by
 have h0:0<1+s % 8:=by lia
 have h1:0<=s / 8 % (1+s % 8):=CC _ (by lia);have h2:s / 8 % (1+s % 8)<1+s % 8:=CG _ h0;unfold mo szN;lia
def aU(s w:Int):List Nat:=
 if s / 64 % 3=1 then(cx s).take (1+(w+s) % 3).toNat
 else((cx s).take (mo s)++[dz (s / 64+3*(mo s:Int)+w)])++((cx s).drop (mo s+1)).take (szN s-(mo s+1))
theorem rO(s w:Int):df (mkS (aU s w)):=by
 have J:(mkS (aU s w)).length=(aU s w).length:=by rw[<-Txs.len_list];show(aU s w).toArray.toList.length=_;simp
 have U:(mkS (aU s w)).cps.toList=aU s w:=by show(aU s w).toArray.toList=_;simp
 have g:=jZ s;obtain⟨j,l,_,_⟩:=ahn s;refine⟨?_,?_,?_⟩
 ·rw[J];unfold aU;split
  ·rw[AX];omega
  ·rw[Ac,Ac];simp;simp +arith only
 ·rw[J];unfold aU;split
  ·rw[AX];omega
  ·rw[Ac,Ac,AX,AX,Ct];simp;lia
 ·rw[U];intro c h;unfold aU at h;split at h
  ·exact l7 s c (B3 h)
  ·rcases Ar.mp h with h|h
   ·rcases Ar.mp h with h|h
    ·exact l7 s c (B3 h)
    ·rw[Ai.mp h];exact vY _
   ·exact l7 s c (List.mem_of_mem_drop (B3 h))
def lQ:jr:=λys L Q=>∃s w:Int,ys=[.int s,.int w]/\Q (.str (mkS (aU s w))) L
theorem yJ(h:m<=n)(h2:n<=x.length):(Txt.slice x (some (m:Int)) (some (n:Int))).cps.toList=(x.cps.toList.drop m).take (n-m):=by have e:=oK x (some (m:Int)) (some (n:Int));rw[HT.sIx_nat,HT.sIx_nat,BX h2,BX (AQ h h2)] at e;exact e
theorem my(h:n<=x.length):(Txt.slice x none (some (n:Int))).cps.toList=x.cps.toList.take n:=by have e:=oK x none (some (n:Int));rw[HT.sIx_nat,HT.sIx_none,CO,Df,BX h] at e;exact e
theorem adp:∀ys L Q,lQ ys L Q->xp adz 7 ys L Q:=by
 rintro ys L Q ⟨s,w,rfl,q⟩;have l:0<1+s % 8:=by lia
 refine⟨(by decide:(0:Int)<8),⟨by decide,by decide⟩,l,⟨by decide,by decide⟩,?_⟩;show lcK (a6 0 8) _ _ _ _ _ _ _ _;refine acj (m:=8) (λi zs=>zs=((List.range i).map λk:Nat=>Y.str ⟨#[dz (s / 64+3*(k:Int))]⟩)) (by decide) rfl ?_ ?_
 ·rintro i _ hi rfl;have J:=wO (s / 64+3*(0+(i:Int)));refine⟨⟨by decide,by decide⟩,.inl ⟨by decide,by decide⟩,(by decide:(0:Int)<26),by decide +kernel,?_⟩;walk_at "w";rw[J];refine⟨_,DU _,rfl,?_⟩;rw[List.range_succ,Aj,show(0:Int)+(i:Int)=(i:Int) by simp +arith only];rfl
 ·rintro _ rfl p C;have e0:((List.range 8).map λk:Nat=>Y.str ⟨#[dz (s / 64+3*(k:Int))]⟩)=((cx s).map λc=>(⟨#[c]⟩:Str)).map Y.str:=by unfold cx;rw[BA,BA];rfl
  rw[e0];refine qx q8 ⟨(cx s).map λc=>(⟨#[c]⟩:Str),rfl,?_,?_⟩
  ·have U:∀g:List Nat,((g.map λc=>(⟨#[c]⟩:Str)).map (·.length)).sum=g.length:=λg=>by induction g with|nil=>rfl|cons c r ih=>rw[AO,AO,List.sum_cons,ih,AL];show 1+r.length=_;exact Nat.add_comm _ _
   rw[U,jZ];show 8+_*0<=_;rw[Nat.mul_zero];decide
  ·have j:=ad5 (cx s);have o:(Txt.join "" ((cx s).map λc=>(⟨#[c]⟩:Str))).length=8:=by rw[<-Txs.len_list,j,jZ]
   generalize Txt.join "" ((cx s).map λc=>(⟨#[c]⟩:Str))=base at o j;obtain⟨p1,p2,t,I⟩:=ahn s;refine⟨⟨by decide,by decide⟩,(by decide:(0:Int)<3),?_⟩;refine v0 (λc=>?_) λc=>?_
   ·have e:1+(w+s) % 3=((1+(w+s) % 3).toNat:Int):=by lia
    refine⟨(by decide:(0:Int)<3),small (by lia),aY (By C) ?_⟩;have es:=my (x:=base) (n:=(1+(w+s) % 3).toNat) (by lia);have eq:Txt.slice base none (some (1+(w+s) % 3))=mkS (aU s w):=by rw[e];refine(wN _).symm.trans ?_;rw[es,j];unfold aU;rw[AD c]
    rw[<-eq] at q;exact q
   ·have J:=wO (s / 64+3*(s / 8 % (1+s % 8))+w);refine⟨⟨by decide,by decide⟩,.inl ⟨by decide,by decide⟩,(by decide:(0:Int)<26),by decide +kernel,?_⟩;walk_at "w";rw[J];have T:=my (x:=base) (n:=mo s) (by lia);have s2:=yJ (x:=base) (m:=mo s+1) (n:=szN s) (by assumption) (by lia);have l1:(Txt.slice base none (some (mo s:Int))).length=mo s:=by rw[<-Txs.len_list,T,AX,Txs.len_list];lia
    have l2:(Txt.slice base (some ((mo s+1:Nat):Int)) (some (szN s:Int))).length<=8:=by rw[<-Txs.len_list,s2,AX];lia
    refine⟨small (by lia),?_⟩;refine⟨small (by rw[t,l1];show mo s+1<=1000;lia),?_⟩;refine⟨small (by lia),?_⟩;have U:((mo s:Int)+1)=((mo s+1:Nat):Int):=by rfl
    have l3:(Txt.slice base none (some (mo s:Int))++(⟨#[dz (s / 64+3*(s / 8 % (1+s % 8))+w)]⟩:Str)).length=mo s+1:=by rw[PySem.Str.length_append,l1];rfl
    refine⟨small ?_,aY (By C) ?_⟩
    ·rw[t] at l3 ⊢;rw[l3,U,I];lia
    ·have eq:(Txt.slice base none (some (mo s:Int))++(⟨#[dz (s / 64+3*(mo s:Int)+w)]⟩:Str))++Txt.slice base (some ((mo s+1:Nat):Int)) (some (szN s:Int))=mkS (aU s w):=by
      refine(wN _).symm.trans ?_;have ca:∀a b:Str,(a++b).cps.toList=a.cps.toList++b.cps.toList:=λa b=>by show(a.cps++b.cps).toList=_;simp
      rw[ca,ca,T,s2,j];unfold aU;rw[AE c]
     rw[t,U,I,eq];exact q
theorem ae8(t t':Bool)(n J:Str):Da.eq (o6 (.leaf t n)) (o6 (.leaf t' J))=(decide (t=t')&&decide (n=J)):=by
 by_cases h:n=J
 ·subst h;cases t<;>cases t'<;>simp[o6,Da.eq,Da.eqs,ij,kL]<;>decide +kernel
 ·cases t<;>cases t'<;>simp[o6,Da.eq,Da.eqs,ij,kL,h]<;>decide +kernel
theorem iI{α β:Type}(f:α->β):∀(l:List α) (n:Nat),(l.map f).eraseIdx n=(l.eraseIdx n).map f
 |[],n=>by simp
 |_::_,0=>rfl
 |x::r,n+1=>by rw[AO,B8,B8,AO,iI f r n]
theorem aP(a:jg)(b:Y)(r:List (jg×Y))(k:jg):kg ((a,b)::r) k=if a=k then some b else kg r k:=by
 unfold kg;rw[Bm];by_cases h:a=k
 ·rw[AD h,show decide ((a,b).1=k)=true from AG h];rfl
 ·rw[AE h,show decide ((a,b).1=k)=false from Au h]
theorem qW(k J:jg)(y:Y):∀kvs:List (jg×Y),kg (kvs.map λU=>if U.1=k then(U.1,y) else U) J=if J=k then(kg kvs J).map (λ_=>y) else kg kvs J
 |[]=>by rw[CM];split<;>rfl
 |(a,b)::r=>by
  have g:=qW k J y r;rw[AO,aP];by_cases h:a=k
  ·rw[AD (show(a,b).1=k from h),aP,g];by_cases h2:J=k
   ·rw[AD h2,AD h2,AD (h.trans h2.symm),AD (h.trans h2.symm)];rfl
   ·rw[AE h2,AE h2,AE (λz=>h2 (z.symm.trans h)),AE (λz=>h2 (z.symm.trans h))]
  ·rw[AE (show ¬(a,b).1=k from h),aP,g];by_cases h2:J=k
   ·rw[AD h2,AD h2,AE (λz=>h (z.trans h2)),AE (λz=>h (z.trans h2))]
   ·rw[AE h2,AE h2]
theorem sJ(k J:jg)(y:Y):∀kvs:List (jg×Y),kg (kvs++[(k,y)]) J=(kg kvs J).or (if k=J then some y else none)
 |[]=>by rw[Ci,aP];have:kg [] J=none:=rfl;rw[this];split<;>rfl
 |(a,b)::r=>by rw[CZ,aP,aP,sJ k J y r];split<;>rfl
theorem rb(k:jg):∀kvs:List (jg×Y),(kvs.any λJ=>decide (J.1=k))=(kg kvs k).isSome
 |[]=>rfl
 |(a,b)::r=>by
  rw[B5,aP,rb k r];by_cases h:a=k
  ·rw[AD h,show decide ((a,b).1=k)=true from AG h];rfl
  ·rw[AE h,show decide ((a,b).1=k)=false from Au h];rfl
theorem so(kvs:List (jg×Y))(k J:jg)(y:Y):kg (iB kvs k y) J=if J=k then some y else kg kvs J:=by
 unfold iB;rw[rb];cases e:kg kvs k with
 |some v=>
  rw[AD (show(some v).isSome=true from rfl),qW];by_cases h:J=k
  ·rw[AD h,AD h,h,e];rfl
  ·rw[AE h,AE h]
 |none=>
  rw[AE (by simp),sJ];by_cases h:J=k
  ·rw[AD h,h,e,AD rfl];rfl
  ·rw[AE h,AE (λz=>h z.symm)];cases kg kvs J<;>rfl
theorem dy(kvs:List (jg×Y))(k:jg)(y:Y):(iB kvs k y).length<=kvs.length+1:=by
 unfold iB;split
 ·rw[Ab];omega
 ·rw[Ac];simp
def hZ(f:Nat->Nat):Option Kn->Option Kn
 |some (.nd e i j)=>some (.nd e (f i) (f j))
 |k=>k
theorem uA{f g:Nat->Nat}:∀{k:Option Kn},(∀e i j,k=some (.nd e i j)->f i=g i/\f j=g j)->hZ f k=hZ g k
 |none,_=>rfl
 |some (.lf _ _),_=>rfl
 |some (.nd e i j),h=>by obtain⟨a,b⟩:=h e i j rfl;show some (Kn.nd e (f i) (f j))=some (Kn.nd e (g i) (g j));rw[a,b]
structure Gap(ks:List (Option Kn))(ps:List Nat)(f:Nat->Nat)(wd:List (Option Kn)):Prop where
 at_:∀p∈ps,∀k,ks[p]?=some k->wd[f p]?=some (hZ f k)
 inj:∀p∈ps,∀q∈ps,f p=f q->p=q
 only:∀x k,wd[x]?=some (some k)->∃p∈ps,x=f p
 ok:OkO wd
theorem Gap.nil(ks:List (Option Kn))(f:Nat->Nat):Gap ks [] f []:=⟨λp J=>(Br J).elim,λp J=>(Br J).elim,λx k h=>(by simp at h),λp e i j h=>(by simp at h)⟩
theorem Gap.lt{ks:List (Option Kn)}{ps:List Nat}{f:Nat->Nat}(h:Gap ks ps f wd){p:Nat}(J:p∈ps)(U:p<ks.length):f p<wd.length:=jv (h.at_ p J _ (Ae U))
theorem Gap.step{ks:List (Option Kn)}{ps:List Nat}{f:Nat->Nat}(h:Gap ks ps f wd)(t:∀p∈ps,p<ks.length){p:Nat}{k:Option Kn}(I:p∉ps)(T:ks[p]?=some k)(r:∀x∈ps,∀e i j,ks[x]?=some (some (.nd e i j))->i∈ps/\j∈ps)(U:∀e i j,k=some (.nd e i j)->i∈ps/\j∈ps):
 Gap ks (ps++[p]) (λx=>if x=p then wd.length else f x) (wd++[hZ f k]):=by
 have old:∀x∈ps,(if x=p then wd.length else f x)=f x:=λx J=>AE λ(c:x=p)=>I (c▸J);have ren:∀o,(∀e i j,o=some (.nd e i j)->i∈ps/\j∈ps)->hZ (λx=>if x=p then wd.length else f x) o=hZ f o:=λo g=>uA λe i j z=>by obtain⟨a,b⟩:=g e i j z;exact⟨old i a,old j b⟩
 refine⟨λx J o g=>?_,λx J y l e=>?_,λx o J=>?_,λx e i j J=>?_⟩
 ·rcases Ar.mp J with J|J
  ·show(wd++[hZ f k])[if x=p then wd.length else f x]?=_;rw[old x J,ren o λe i j z=>r x J e i j (by rw[g,z])];exact kB (h.at_ x J o g)
  ·have J:=Ai.mp J;subst J;rw[T] at g;cases g;show(wd++[hZ f k])[if x=x then wd.length else f x]?=_;rw[AD rfl,ren k U];exact dw wd _ []
 ·have e:(if x=p then wd.length else f x)=if y=p then wd.length else f y:=e
  rcases Ar.mp J with J|J<;>rcases Ar.mp l with l|l
  ·rw[old x J,old y l] at e;exact h.inj x J y l e
  ·cases Ai.mp l;rw[old x J,AD rfl] at e;have:=h.lt J (t x J);lia
  ·cases Ai.mp J;rw[old y l,AD rfl] at e;have:=h.lt l (t y l);lia
  ·rw[Ai.mp J,Ai.mp l]
 ·by_cases c:x<wd.length
  ·rw[AF c] at J;obtain⟨q,C,e⟩:=h.only x o J;exact⟨q,Aq _ C,by rw[e];exact(old q C).symm⟩
  ·refine⟨p,Ah _ (Ai.mpr rfl),?_⟩;have:=jv J;rw[Ac] at this;have:x<wd.length+1:=this;show x=if p=p then wd.length else f p
   rw[AD rfl];lia
 ·by_cases c:x<wd.length
  ·rw[AF c] at J;exact h.ok x e i j J
  ·have:=jv J;rw[Ac] at this;have:x<wd.length+1:=this;have:x=wd.length:=by lia
   subst this;rw[Av (Al _),Cf] at J;have J:hZ f k=some (.nd e i j):=AV J;cases k with
   |none=>cases J
   |some k=>
    cases k with
    |lf=>cases J
    |nd e' i' j'=>
     obtain⟨a,b⟩:=U e' i' j' rfl;cases J;exact⟨h.lt a (t _ a),h.lt b (t _ b)⟩
theorem kR{ks:List (Option Kn)}{J:List Nat}(ok:OkO ks)(pm:J.Perm (List.range ks.length))(o:cV ks J){p:Nat}(g:J[n]?=some p){e:Bool}(h:ks[p]?=some (some (.nd e i j))):i∈J.take n/\j∈J.take n:=by
 obtain⟨l1,l2⟩:=ok p e i j h;have hl:=jv h;have C:=jv g;have ind:∀x,x<ks.length->x≠p->(∀y∈J.drop (n+1),y≠x)->x∈J.take n:=λx T ne r=>by
  have U:x∈J:=pm.mem_iff.mpr (A6.mpr T);have t:J=J.take n++p::J.drop (n+1):=by rw[Ae C] at g;rw[<-AV g,Cg,Ba]
  rw[t] at U;rcases Ar.mp U with U|U
  ·exact U
  ·rcases Ap.mp U with U|U
   ·exact absurd U ne
   ·exact absurd rfl (r x U)
 have I:∀y∈J.drop (n+1),y≠i/\y≠j:=λy l=>by
  have t:J=J.take n++p::J.drop (n+1):=by rw[Ae C] at g;rw[<-AV g,Cg,Ba]
  unfold cV at o;rw[t] at o;have:=(C4.mp o).2.1;exact(List.pairwise_cons.mp this).1 y l e i j h
 exact⟨ind i (by exact abk) (by exact ame) λy l=>(I y l).1,ind j (by exact abk) (by exact ame) λy l=>(I y l).2⟩
def air:ke:=(qr (zr (wu cR (qb 1) (qd (zn w6 (qb 3) (cY 1)) qz)) (qh 4))
 (qr (zr (wu cR (qb 1) (qd (zn w6 (qb 2) (cY 1)) qz)) (qh 5))
 (qr (zr (zn ay (jy 4 1) (zn w6 (zn am (qb 3) (jf 64)) (iT jL (x9 (jy 4 1))))) (qh 6))
 (qr (zr (zn ay (jy 5 1) (zn w6 (zn am (qb 2) (jf 64)) (iT jL (x9 (jy 5 1))))) (qh 7))
 (qr (j9 (wu zq (qb 0) (qd (vt (qd (dH "both") (a9 (qb 6) (qb 7)))) qz)))
 (qr (zr (uE 1 (kz (zn kc (jy 4 1) (jy 5 1))) (qh 9) (yB (zn (mE true) (qb 9) (zF (qb 6) (qb 7)))) (qb 9)) (qh 8))
 (j9 (wu zq (qb 1) (qd (jh (qd (vt (qd (dH "both") (qd (zn jE (cY 0) (jf 1)) (a9 (jy 4 0) (jy 5 0))))) (qd (zn kc (qb 8) (jh (qd (zn jE (cY 0) (jf 1)) qz))) qz))) qz)))))))))
def aei:ke:=(qr (jz (yB (zn yLt (iT jL (x9 (jy 1 1))) (jf 2))) ac9 jk)
 (qr (zr (wu cR (jy 1 1) (qd (zn w6 (qb 3) (iT jL (x9 (jy 1 1)))) qz)) (qh 4))
 (qr (zr (wu cR (jy 1 1) (qd (zn w6 (qb 2) (iT jL (x9 (jy 1 1)))) qz)) (qh 5))
 (qr (j9 (wu zq (qb 0) (qd (vt (qd (dH "either") (a9 (qb 4) (qb 5)))) qz)))
 (qr (ahw (qb 1) (jf 0) (vt (qd (dH "either") (qd (zn jE (cY 0) (jf 1)) (x9 (jy 1 0))))))
 (j9 (wu zq (jy 1 1) (qd (zn jE (cY 0) (jf 1)) qz))))))))
theorem bW{ks:List Kn}:∀{w v:Wd} {p:Nat},cq ks p w->cq ks p v->w=v
 |.leaf t n,.leaf o I,p,h,k=>by
  have h:(jb ks)[p]?=some (.tup [.str (kL t),.str n]):=h;have k:(jb ks)[p]?=some (.tup [.str (kL o),.str I]):=k;rw[h] at k;injection k with k;injection k with k;injection k with U J;injection J with J _
  injection U with U;injection J with J
  have:t=o:=by cases t<;>cases o<;>first|rfl|(exfalso;revert U;decide +kernel)
  rw[this,J]
 |.leaf t n,.node e l r,p,h,k=>by obtain⟨i,j,k,_⟩:=k;have h:(jb ks)[p]?=some (.tup [.str (kL t),.str n]):=h;rw[h] at k;injection k with k;injection k with k;injection k with _ k;injection k with _ k;cases k
 |.node e l r,.leaf t n,p,h,k=>by obtain⟨i,j,h,_⟩:=h;have k:(jb ks)[p]?=some (.tup [.str (kL t),.str n]):=k;rw[h] at k;injection k with k;injection k with k;injection k with _ k;injection k with _ k;cases k
 |.node e l r,.node C l' r',p,⟨i,j,h,T,hr⟩,⟨i',j',k,kl,kr⟩=>by
  rw[h] at k;injection k with k;injection k with k;injection k with U J;injection J with J g;injection g with g _
  injection U with U;injection J with J;injection g with g
  have e1:i=i':=by lia
  have e2:j=j':=by lia
  subst e1 e2;have:e=C:=by cases e<;>cases C<;>first|rfl|(exfalso;revert U;decide +kernel)
  rw[this,bW (ks:=ks) T kl,bW (ks:=ks) hr kr]
theorem kU{ks:List Kn}(J:cG ks):∀(m p:Nat),p<m->p<ks.length->∃w,cq ks p w/\w.depth<=p+1/\w.ok
 |0,p,h,_=>absurd h (by lia)
 |m+1,p,h,o=>by
  obtain⟨k,U⟩:∃k,ks[p]?=some k:=⟨_,Ae o⟩;have g:=J p k U;cases k with
  |lf t n=>exact⟨.leaf t n,cq.leaf U,by show 1<=p+1;exact DH _,g⟩
  |nd e i j=>
   have g:i<p/\j<p:=g;obtain⟨l,C,T,I⟩:=kU J m i (by lia) (by omega);obtain⟨r,b1,b2,b3⟩:=kU J m j (by lia) (by lia);exact⟨.node e l r,EN U C b1,by show max l.depth r.depth+1<=p+1;lia,I,b3⟩
def TV(v:Str->Bool):Wd->Bool
 |.leaf t n=>if t=true then !v n else v n
 |.node e l r=>if e=true then TV v l||TV v r else TV v l&&TV v r
theorem jR(v:Str->Bool):∀w:Wd,TV v w.turn=!TV v w
 |.leaf t n=>by cases t<;>simp[Wd.turn,TV]
 |.node e l r=>by cases e<;>simp[Wd.turn,TV,jR v l,jR v r]
theorem SR.lt{E:List Nat}(h:SR ks R E):∀x∈qo R,x<ks.length:=by
 have lt:∀{p:Nat} {k:Kn},ks[p]?=some k->p<ks.length:=λh=>(AK.mp h).1
 induction h with
 |link _ h2 h3 _ _=>intro x J;simp[qo] at J;rcases J with rfl|rfl;exact lt h2;exact lt h3
 |ei h1 _ _ _ _ _ _ j=>intro x J;rcases Ap.mp J with rfl|J;exact lt h1;exact j x J
 |bo h1 _ _ _ _ _ _ U g=>
  intro x J;rcases Ap.mp J with rfl|J
  ·exact lt h1
  ·rcases Ar.mp J with J|J
   ·exact U x J
   ·exact g x J
 |cu _ _ _ _ _ _ _ _ U g=>
  intro x J;rcases Ar.mp J with J|J
  ·exact U x J
  ·exact g x J
theorem SR.tv(hk:cG ks)(v:Str->Bool){E:List Nat}(h:SR ks R E):∃x∈E,∃w,cq ks x w/\TV v w=true:=by
 have ex:∀{R':Ru} {E':List Nat},SR ks R' E'->∀x∈E',∃w,cq ks x w:=λs x J=>by obtain⟨w,hw,_⟩:=kU hk (x+1) x (by exact Cv _) (s.lt x (s.sub x J));exact⟨w,hw⟩
 induction h with
 |@link p q t n E _ h2 h3 h4 _=>
  cases ht:TV v (.leaf t n) with
  |true=>exact⟨p,(h4 p).mpr (.inl rfl),_,cq.leaf h2,ht⟩
  |false=>
   refine⟨q,(h4 q).mpr (.inr rfl),_,cq.leaf h3,?_⟩;have:=jR v (.leaf t n);rw[ht] at this;exact this
 |@ei r i j A EA E h1 T hi hj _ U _ ih=>
  obtain⟨x,J,w,hw,tv⟩:=ih;obtain⟨wi,g⟩:=ex T i hi;obtain⟨wj,l⟩:=ex T j hj;by_cases c1:x=i
  ·subst c1;rw[bW hw g] at tv;exact⟨r,(U r).mpr (.inr rfl),_,EN h1 g l,by simp[TV,tv]⟩
  ·by_cases c2:x=j
   ·subst c2;rw[bW hw l] at tv;exact⟨r,(U r).mpr (.inr rfl),_,EN h1 g l,by simp[TV,tv]⟩
   ·exact⟨x,(U x).mpr (.inl ⟨J,c1,c2⟩),w,hw,tv⟩
 |@bo r i j A B EA EB E h1 T hB hi hj U _ o C=>
  obtain⟨x,J,w,hw,tv⟩:=o;obtain⟨y,hy,u,I,tu⟩:=C;by_cases c1:x=i
  ·by_cases c2:y=j
   ·subst c1 c2;exact⟨r,(U r).mpr (.inr (.inr rfl)),_,EN h1 hw I,by simp[TV,tv,tu]⟩
   ·exact⟨y,(U y).mpr (.inr (.inl ⟨hy,c2⟩)),u,I,tu⟩
  ·exact⟨x,(U x).mpr (.inl ⟨J,c1⟩),w,hw,tv⟩
 |@cu p q A B EA EB E w0 T hB hp hq a1 a2 h7 _ o C=>
  obtain⟨x,J,w,hw,tv⟩:=o;obtain⟨y,hy,u,I,tu⟩:=C;by_cases c1:x=p
  ·by_cases c2:y=q
   ·subst c1 c2;rw[bW hw a1] at tv;rw[bW I a2,jR,tv] at tu;cases tu
   ·exact⟨y,(h7 y).mpr (.inr ⟨hy,c2⟩),u,I,tu⟩
  ·exact⟨x,(h7 x).mpr (.inl ⟨J,c1⟩),w,hw,tv⟩
theorem SR.ends(J:cG ks){E:List Nat}(h:SR ks R E):0<E.length:=by obtain⟨x,U,_⟩:=h.tv J λ_=>true;exact List.length_pos_of_mem U
structure Tr where
 a:Addr
 b:Addr
 R:Ru
 E:List Nat
abbrev zf(E:List Nat):List Y:=E.map λn:Nat=>Y.int (n:Int)
def Tr.ads(t:Tr):List Addr:=[t.a,t.b]
structure bO(L0 L:qm)(ka fa:Addr)(ks:List Kn)(fo:List Tr):Prop where
 hk:L ka=some (.lst (jb ks))
 ht:∀t∈fo,L t.a=some (.lst [qj t.R,.ref t.b])/\L t.b=some (.lst (zf t.E))
 sr:∀t∈fo,SR ks t.R t.E
 nd:(fo.flatMap λt=>qo t.R).Nodup
 tm:∀x,x∈(fo.flatMap λt=>qo t.R)↔x<ks.length
 ad:(ka::fa::fo.flatMap Tr.ads).Nodup
 ok:cG ks
 sub:qg L0 L
 fr:∀x∈ka::fa::fo.flatMap Tr.ads,L0 x=none
def zj(fo:List Tr):List Y:=fo.map λt=>Y.ref t.a
structure m7(L0 L:qm)(ka fa:Addr)(ks:List Kn)(fo:List Tr):Prop where
 b:bO L0 L ka fa ks fo
 hf:L fa=some (.lst (zj fo))
def noC:Ru->Prop
 |.link _ _=>True
 |.ei _ A=>noC A
 |.bo _ A B=>noC A/\noC B
 |.cu _ _ _ _=>False
def Ext(ks:List Kn)(fo:List Tr)(kt:List Kn)(fo':List Tr):Prop:=(∃ms:List Kn,kt=ks++ms/\∀k∈ms,∃e i j,k=.nd e i j)/\((∀t∈fo,noC t.R)->∀t∈fo',noC t.R)
theorem bO.perm{fo fo':List Tr}(h:bO L0 L ka fa ks fo)(p:fo.Perm fo'):bO L0 L ka fa ks fo':=by have U:(fo.flatMap λt=>qo t.R).Perm (fo'.flatMap λt=>qo t.R):=p.flatMap_right _;have g:(fo.flatMap Tr.ads).Perm (fo'.flatMap Tr.ads):=p.flatMap_right _;refine⟨h.hk,λt J=>h.ht t (p.mem_iff.mpr J),λt J=>h.sr t (p.mem_iff.mpr J),U.nodup_iff.mp h.nd,λx=>by rw[<-U.mem_iff];exact h.tm x,((g.cons _).cons _).nodup_iff.mp h.ad,h.ok,h.sub,λx j=>h.fr x (((g.cons _).cons _).mem_iff.mpr j)⟩
end L3
variable {fo rest:List L3.Tr}
namespace L3
open PySem L2 Words
theorem jw{α:Type}:∀{l:List α} {j:Nat} {x:α},l[j]?=some x->l.Perm (x::l.eraseIdx j)
 |[],_,_,h=>by simp at h
 |y::r,0,x,h=>by
  have:y=x:=by simpa using h
  subst this;exact .refl _
 |y::r,j+1,x,h=>by have J:=jw (l:=r) (j:=j) (x:=x) (by simpa using h);rw[B8];exact(J.cons y).trans (.swap _ _ _)
theorem kW(fo:List Tr)(j:Nat):(zj fo).eraseIdx j=zj (fo.eraseIdx j):=iI _ fo j
theorem bO.step{ms:List Kn}{old:List Tr}{t':Tr}(h:bO L0 L ka fa ks (old++rest))(o:L' ka=some (.lst (jb (ks++ms))))(p:L' t'.a=some (.lst [qj t'.R,.ref t'.b])/\L' t'.b=some (.lst (zf t'.E)))
 (keep:∀t∈rest,L' t.a=L t.a/\L' t.b=L t.b) (sub:qg L0 L') (ad:(ka::fa::(rest++[t']).flatMap Tr.ads).Nodup) (r:∀x∈t'.ads,L0 x=none) (ok:cG (ks++ms)) (C:SR (ks++ms) t'.R t'.E)
 (tp:(qo t'.R).Perm (List.range' ks.length ms.length++old.flatMap λt=>qo t.R)):bO L0 L' ka fa (ks++ms) (rest++[t']):=by
 have hnd:=h.nd;have g:=h.tm;rw[Ay] at hnd;have l:((rest++[t']).flatMap λt=>qo t.R)=(rest.flatMap λt=>qo t.R)++qo t'.R:=by rw[Ay];simp
 have mem:∀x,x∈qo t'.R↔(ks.length<=x/\x<ks.length+ms.length)\/x∈(old.flatMap λt=>qo t.R):=λx=>by rw[tp.mem_iff,Ar,CQ]
 refine⟨o,λt U=>?_,λt U=>?_,?_,λx=>?_,ad,ok,sub,λx J=>?_⟩
 ·rcases Ar.mp U with U|U
  ·obtain⟨I,T⟩:=keep t U;rw[I,T];exact h.ht t (Ah _ U)
  ·rw[Ai.mp U];exact p
 ·rcases Ar.mp U with U|U
  ·exact(h.sr t (Ah _ U)).more _
  ·rw[Ai.mp U];exact C
 ·rw[l,Az];rw[Az] at hnd;refine⟨hnd.2.1,tp.nodup_iff.mpr ?_,λx J y j e=>?_⟩
  ·rw[Az];refine⟨Dv,hnd.1,λx J y j e=>?_⟩;have J:=CQ.mp J;have j:=(g y).mp (by rw[Ay];exact Aq _ j);lia
  ·subst e;rcases (mem x).mp j with j|j
   ·have:=(g x).mp (by rw[Ay];exact Ah _ J);lia
   ·exact hnd.2.2 x j x J rfl
 ·rw[l,Ar,mem,Ac];have h1:=g x;rw[Ay,Ar] at h1;constructor
  ·rintro(h2|h2|h2)
   ·have:=h1.mp (.inr h2);exact ao1
   ·lia
   ·have:=h1.mp (.inl h2);lia
  ·intro h2;by_cases c:x<ks.length
   ·rcases h1.mpr c with h3|h3
    ·exact .inr (.inr h3)
    ·exact .inl h3
   ·exact .inr (.inl (by lia))
 ·rcases Ap.mp J with rfl|J
  ·exact h.fr _ (Ak ..)
  ·rcases Ap.mp J with rfl|J
   ·exact h.fr _ (Ad _ (Ak ..))
   ·rw[Ay] at J;rcases Ar.mp J with J|J
    ·exact h.fr _ (Ad _ (Ad _ (by rw[Ay];exact Ah _ J)))
    ·exact r x (by simpa using J)
def oh:jr:=λys L Q=>∃L0 ka fa ks fo,∃one two:Int,ys=[.ref ka,.ref fa,.int one,.int two]/\m7 L0 L ka fa ks fo/\2<=fo.length/\fo.length<=200/\ks.length<=200/\
 ∀L' kt fo',m7 L0 L' ka fa kt fo'->kt.length=ks.length+1->fo'.length+1=fo.length->Ext ks fo kt fo'->Q .non L'
theorem iG{l:List α}(h:0<l.length)(k:Int):∃(j:Nat) (x:α),k % (l.length:Int)=(j:Int)/\j<l.length/\l[j]?=some x:=by have h0:0<=k % (l.length:Int):=CC _ (by lia);have h1:k % (l.length:Int)<(l.length:Int):=CG _ (by omega);refine⟨(k % (l.length:Int)).toNat,l[(k % (l.length:Int)).toNat]'(by lia),by lia,by lia,Ae (by lia)⟩
theorem bL:∀(n:Nat) (l:List Nat),l.Nodup->(∀x∈l,x<n)->l.length<=n
 |0,l,_,h=>by cases l with|nil=>exact Al _|cons x r=>exact absurd (h x (Ak ..)) (by lia)
 |n+1,l,nd,h=>by
  by_cases c:n∈l
  ·have p:=List.perm_cons_erase c;have U:=bL n (l.erase n) (nd.erase n) λx J=>by have:=(List.Nodup.mem_erase_iff nd).mp J;have:=h x this.2;lia
   rw[p.length_eq,AL];exact aiy
  ·exact B1 (bL n l nd λx J=>by have:=h x J;have:x≠n:=λe=>c (e▸J);lia)
theorem ax(h:bO L0 L ka fa ks fo){t:Tr}(J:t∈fo):0<t.E.length/\t.E.length<=ks.length:=by have s:=h.sr t J;exact⟨s.ends h.ok,bL _ _ s.nod λx U=>s.lt x (s.sub x U)⟩
theorem agn(x l r:Nat):uY (fW (.int (x:Int))) (([.int (l:Int),.int (r:Int)]:List Y).map fW)=decide (x=l\/x=r):=by
 show(ij (.int (l:Int)) (.int (x:Int))||(ij (.int (r:Int)) (.int (x:Int))||false))=_;have e:∀a b:Nat,ij (.int (a:Int)) (.int (b:Int))=decide (b=a):=λa b=>by
  show decide ((a:Int)=(b:Int))=decide (b=a);by_cases c:b=a
  ·subst c;simp
  ·rw[Au c];apply Au;lia
 rw[e,e];by_cases h1:x=l<;>by_cases h2:x=r<;>simp[h1,h2]
theorem oY{E:List Nat}(h:0<E.length)(k:Int):∃x,x∈E/\eM (zf E) (k % ((zf E).length:Int))=some (.int ((x:Nat):Int)):=by obtain⟨j,x,J,U,ex⟩:=iG h k;refine⟨x,Aw ex,?_⟩;rw[Ab,J];exact xq (by rw[An,ex];rfl)
def xh(E1 E2:List Nat)(l r:Nat):List Nat:=(E1++E2).filter λx=>!decide (x=l\/x=r)
theorem ad8{g:Addr}{E:List Nat}{l r k:Nat}{Q:YK}{tc:jH}(I:L g=some (.lst (zf E)))(J:E.length<=1000)
 (T:∀y (o:Bool->qm->Prop),mE true y (.tup [.int (l:Int),.int (r:Int)]) L (λx L'=>match x with|.bl c=>o c L'|_=>False)->tc (dG (τ++List.replicate 1 none) k y) L o)
 (hv:∀y,yM (dG (τ++List.replicate 1 none) k y) k=some y)
 (hq:∀p,L p=none->Q (.ref p) (qf L p (.lst (zf (E.filter λx=>!decide (x=l\/x=r)))))):
 oZ L g λys keep L2=>lcK ys keep 1 (qh k) tc (qb k) τ L2 Q:=by
 refine x5 I λkeep kp=>fO (λj zs=>zs=zf ((E.take j).filter λx=>!decide (x=l\/x=r))) (by rw[Ab];exact oP J) (kp L rfl) rfl ?_ ?_
 ·rintro j y _ t rfl;obtain⟨x,ex,rfl⟩:∃x:Nat,E[j]?=some x/\y=Y.int (x:Int):=by rw[An] at t;obtain⟨x,e1,e2⟩:=Am.mp t;exact⟨x,e1,e2.symm⟩
  refine T _ _ ⟨rfl,rfl,?_⟩;rw[agn];show kj (!decide (x=l\/x=r)) _ _;have C:(E.take (j+1)).filter (λx=>!decide (x=l\/x=r))=(E.take j).filter (λx=>!decide (x=l\/x=r))++[x].filter (λx=>!decide (x=l\/x=r)):=by rw[A9,ex,BQ];rfl
  by_cases c:x=l\/x=r
  ·refine xr (by rw[AG c];rfl) ?_;refine frg ⟨rfl,?_⟩;rw[C,List.filter_cons_of_neg (by simp[c]),List.filter_nil,AI]
  ·refine kn (by rw[Au c];rfl) ?_;unfold qb;rw[hv];refine frg ⟨rfl,?_⟩;rw[C,List.filter_cons_of_pos (by simp[c]),List.filter_nil];unfold zf;rw[Aj];rfl
 ·rintro _ rfl p U;rw[Ab,Bh];exact hq p U
theorem uq{k:Int}(g:L fa=some (.lst (zj fo)))(h:0<fo.length):∃(j:Nat) (t:Tr),fo[j]?=some t/\0<=k % ((zj fo).length:Int)/\k % ((zj fo).length:Int)<((zj fo).length:Int)/\
 (zj fo)[(k % ((zj fo).length:Int)).toNat]?=some (.ref t.a)/\qf L fa (.lst ((zj fo).eraseIdx (k % ((zj fo).length:Int)).toNat)) fa=some (.lst (zj (fo.eraseIdx j))):=by
 obtain⟨j,t,U,l,J⟩:=iG h k;have e:(zj fo).length=fo.length:=Ab ..;rw[e,U];refine⟨j,t,J,by exact AZ _,by lia,?_,?_⟩
 ·show(zj fo)[j]?=_;unfold zj;rw[An,J];rfl
 ·rw[q8];show some (LO.lst ((zj fo).eraseIdx j))=_;rw[kW]
theorem bO.two{t1 t2:Tr}(h:bO L0 L ka fa ks (t1::t2::rest)):∀x,x∈qo t1.R->x∈qo t2.R->False:=by intro x h1 h2;have nd:=h.nd;rw[AR,AR,Az] at nd;exact nd.2.2 x h1 x (Aq _ h2) rfl
theorem pZ{E1 E2:List Nat}{l r:Nat}(J:l∉E2)(U:r∉E1)(x:Nat):x∈xh E1 E2 l r↔(x∈E1/\x≠l)\/(x∈E2/\x≠r):=by
 unfold xh;rw[AU,Ar];constructor
 ·rintro⟨h,c⟩;have c:¬(x=l\/x=r):=by simpa using c
  rcases h with h|h
  ·exact .inl ⟨h,λe=>c (.inl e)⟩
  ·exact .inr ⟨h,λe=>c (.inr e)⟩
 ·rintro(⟨h,c⟩|⟨h,c⟩)
  ·refine⟨.inl h,?_⟩;have:x≠r:=λe=>U (e▸h);simp[c,this]
  ·refine⟨.inr h,?_⟩;have:x≠l:=λe=>J (e▸h);simp[c,this]
theorem pC{E1 E2:List Nat}{l r:Nat}(h1:E1.Nodup)(h2:E2.Nodup)(d:∀x,x∈E1->x∈E2->False):(xh E1 E2 l r).Nodup:=by
 unfold xh;have h:(E1++E2).Nodup:=by rw[Az];exact⟨h1,h2,λx J y U e=>d x J (e▸U)⟩
 exact List.Pairwise.filter _ h
theorem aec:∀ys L Q,oh ys L Q->xp air 9 ys L Q:=by
 rintro ys L Q ⟨L0,C,T,g,fo,one,two,rfl,F,h2,dI,cm,q⟩;have big:=bg_;have av:∀fo:List Tr,(zj fo).length=fo.length:=λfo=>Ab ..;obtain⟨j1,J,bu,a1,a2,a3,a4⟩:=uq (k:=two) F.hf (by exact uI);have l1:(fo.eraseIdx j1).length+1=fo.length:=by have:=(jw bu).length_eq;rw[AL] at this;lia
 refine qc F.hf (qc F.hf ⟨(by show(0:Int)<((zj fo).length:Int);rw[av];lia),qx F.hf ⟨a1,a2,qw a3 ?_⟩⟩);have aL:∀b o,b≠T->L b=some o->qf L T (.lst ((zj fo).eraseIdx (two % ((zj fo).length:Int)).toNat)) b=some o:=λb o nb e=>by rw[q9 nb];exact e
 generalize qf L T (.lst ((zj fo).eraseIdx (two % ((zj fo).length:Int)).toNat))=L1 at a4 aL;obtain⟨j2,U,bv,b1,b2,b3,bp⟩:=uq (k:=one) a4 (by lia);have l2:((fo.eraseIdx j1).eraseIdx j2).length+1=(fo.eraseIdx j1).length:=by have:=(jw bv).length_eq;rw[AL] at this;lia
 refine qc a4 (qc a4 ⟨(by show(0:Int)<((zj (fo.eraseIdx j1)).length:Int);rw[av];lia),qx a4 ⟨b1,b2,qw b3 ?_⟩⟩);have j:∀b o,b≠T->L b=some o->qf L1 T (.lst ((zj (fo.eraseIdx j1)).eraseIdx (one % ((zj (fo.eraseIdx j1)).length:Int)).toNat)) b=some o:=λb o nb e=>by rw[q9 nb];exact aL b o nb e
 generalize qf L1 T (.lst ((zj (fo.eraseIdx j1)).eraseIdx (one % ((zj (fo.eraseIdx j1)).length:Int)).toNat))=L2 at bp j;have bq:fo.Perm (J::U::(fo.eraseIdx j1).eraseIdx j2):=(jw bu).trans ((jw bv).cons _);have B:bO L0 L C T g (J::U::(fo.eraseIdx j1).eraseIdx j2):=F.b.perm bq;generalize (fo.eraseIdx j1).eraseIdx j2=rest at l2 bp B bq;clear a4 aL a1 a2 a3 b1 b2 b3;have m1:J∈J::U::rest:=by simp
 have m2:U∈J::U::rest:=by simp
 have ad:=B.ad;have nk:∀t∈J::U::rest,t.a≠T/\t.b≠T/\t.a≠C/\t.b≠C:=λt ht=>by rw[AC,AC] at ad;have ma:t.a∈(J::U::rest).flatMap Tr.ads:=A2.mpr ⟨t,ht,by simp[Tr.ads]⟩;have mb:t.b∈(J::U::rest).flatMap Tr.ads:=A2.mpr ⟨t,ht,by simp[Tr.ads]⟩;exact⟨λe=>ad.2.1 (e▸ma),λe=>ad.2.1 (e▸mb),λe=>ad.1 (Ad _ (e▸ma)),λe=>ad.1 (Ad _ (e▸mb))⟩
 have nkf:C≠T:=by rw[AC] at ad;exactλe=>ad.1 (e▸Ak ..)
 have bw:L2 C=some (.lst (jb g)):=j C _ nkf B.hk;have a5:=j J.a _ (nk J m1).1 (B.ht J m1).1;have ba:=j J.b _ (nk J m1).2.1 (B.ht J m1).2;have ag:=j U.a _ (nk U m2).1 (B.ht U m2).1;have bb:=j U.b _ (nk U m2).2.1 (B.ht U m2).2;have cv:=ax B m1;have cy:=ax B m2;obtain⟨x,hx,ex⟩:=oY cv.1 (two / 64);obtain⟨y,hy,ey⟩:=oY cy.1 (one / 64);refine qc a5 ⟨⟨by decide,by decide⟩,qc a5 (qc ba ⟨(by show(0:Int)<((zf J.E).length:Int);rw[Ab];omega),qc ba (qw ex ?_)⟩)⟩;refine qc ag ⟨⟨by decide,by decide⟩,qc ag (qc bb ⟨(by show(0:Int)<((zf U.E).length:Int);rw[Ab];omega),qc bb (qw ey ?_)⟩)⟩;refine qc bw (qx bw ⟨big _ (by rw[Ab];exact ah1),?_⟩);have ek:jb g++[.tup [.str "both",.int ((x:Nat):Int),.int ((y:Nat):Int)]]=jb (g++[.nd false x y]):=by unfold jb;rw[Aj];rfl
 rw[ek];have bS:qf L2 C (.lst (jb (g++[.nd false x y]))) C=some (.lst (jb (g++[.nd false x y]))):=q8;have p:∀b o,b≠C->L2 b=some o->qf L2 C (.lst (jb (g++[.nd false x y]))) b=some o:=λb o nb e=>by rw[q9 nb];exact e
 generalize qf L2 C (.lst (jb (g++[.nd false x y])))=L3 at bS p;have a5:=p _ _ (nk J m1).2.2.1 a5;have ba:=p _ _ (nk J m1).2.2.2 ba;have ag:=p _ _ (nk U m2).2.2.1 ag;have bb:=p _ _ (nk U m2).2.2.2 bb;have cP:=p _ _ (AB nkf) bp;refine qc a5 (qc ag ⟨_,_,ba,bb,small (by rw[Ab,Ab];lia),λpp d0=>?_⟩);have en:zf J.E++zf U.E=zf (J.E++U.E):=by unfold zf;rw[Aj]
 rw[en];refine ad8 (E:=J.E++U.E) (l:=x) (r:=y) (k:=9) q8 (by rw[Ac];lia) (λy' Q' h=>h) (λ_=>rfl) λpe da=>?_;have s4:qg L3 (qf (qf L3 pp (.lst (zf (J.E++U.E)))) pe (.lst (zf ((J.E++U.E).filter λz=>!decide (z=x\/z=y))))):=(By d0).trans (By da);have br:qf (qf L3 pp (.lst (zf (J.E++U.E)))) pe (.lst (zf ((J.E++U.E).filter λz=>!decide (z=x\/z=y)))) pe=some (.lst (zf (xh J.E U.E x y))):=q8;generalize qf (qf L3 pp (.lst (zf (J.E++U.E)))) pe (.lst (zf ((J.E++U.E).filter λz=>!decide (z=x\/z=y))))=L4 at s4 br;have bc:=s4 _ _ bS;have bd:=s4 _ _ cP;have nn:(((jb (g++[.nd false x y])).length:Nat):Int)-1=((g.length:Nat):Int):=by rw[Ab,Ac];simp
 refine qc bd (qc bc (qc (s4 _ _ a5) (qc (s4 _ _ ag) (qc bc λpn bf=>?_))));refine⟨_,_,By bf _ _ br,q8,small (by have:=pC (l:=x) (r:=y) (B.sr J m1).nod (B.sr U m2).nod (λz h1 h2=>B.two z ((B.sr J m1).sub z h1) ((B.sr U m2).sub z h2));have:=Co (λz=>!decide (z=x\/z=y)) (J.E++U.E);rw[Ac] at this;rw[Ab];unfold xh;show _+1<=1000;lia),λI bg pa bh=>?_⟩;have s7:=(By (o:=.lst [.int ((((jb (g++[.nd false x y])).length:Nat):Int)-1)]) bf).trans ((By (o:=.lst (zf (xh J.E U.E x y)++[.int ((((jb (g++[.nd false x y])).length:Nat):Int)-1)])) bg).trans (By (o:=.lst [.tup [.str "both",.int ((((jb (g++[.nd false x y])).length:Nat):Int)-1),qj J.R,qj U.R],.ref I]) bh));refine qx (s7 _ _ bd) ⟨big _ (by rw[av];lia),?_⟩;have ca:I≠pa:=v5 q8 bh;have bj:∀L6:qm,qf L6 pa (.lst [.tup [.str "both",.int ((((jb (g++[.nd false x y])).length:Nat):Int)-1),qj J.R,qj U.R],.ref I]) pa=some (.lst [qj (.bo g.length J.R U.R),.ref I]):=λL6=>by rw[q8,nn];rfl
 have bn:∀L5 o,qf (qf L5 I (.lst (zf (xh J.E U.E x y)++[.int ((((jb (g++[.nd false x y])).length:Nat):Int)-1)]))) pa o I=some (.lst (zf (xh J.E U.E x y++[g.length]))):=λL5 o=>by rw[q9 ca,q8,nn];unfold zf;rw[Aj];rfl
 have ea:=bj (qf (qf L4 pn (.lst [.int ((((jb (g++[.nd false x y])).length:Nat):Int)-1)])) I (.lst (zf (xh J.E U.E x y)++[.int ((((jb (g++[.nd false x y])).length:Nat):Int)-1)])));have eb:=bn (qf L4 pn (.lst [.int ((((jb (g++[.nd false x y])).length:Nat):Int)-1)])) (.lst [.tup [.str "both",.int ((((jb (g++[.nd false x y])).length:Nat):Int)-1),qj J.R,qj U.R],.ref I]);have al:L4 pa=none:=by cases z:L4 pa with|none=>rfl|some o=>rw[((By bf).trans (By bg)) _ _ z] at bh;cases bh
 have au:L4 I=none:=by cases z:L4 I with|none=>rfl|some o=>rw[(By bf) _ _ z] at bg;cases bg
 generalize qf (qf (qf L4 pn (.lst [.int ((((jb (g++[.nd false x y])).length:Nat):Int)-1)])) I (.lst (zf (xh J.E U.E x y)++[.int ((((jb (g++[.nd false x y])).length:Nat):Int)-1)]))) pa (.lst [.tup [.str "both",.int ((((jb (g++[.nd false x y])).length:Nat):Int)-1),qj J.R,qj U.R],.ref I])=L7 at s7 ea eb;clear bf bg bh bj bn br;have up:∀b o,b≠T->b≠C->L b=some o->L4 b=some o:=λb o n1 n2 e=>s4 _ _ (p _ _ n2 (j _ _ n1 e));have dS:=s7 _ _ bd;have cb:pa≠T:=λe=>by rw[e,bd] at al;cases al
 have cc:I≠T:=λe=>by rw[e,bd] at au;cases au
 have s1:=B.sr J m1;have s2:=B.sr U m2;have bi:∀z,z∈J.E->z∈U.E->False:=λz h1 h2=>B.two z (s1.sub z h1) (s2.sub z h2);refine js (q _ (g++[.nd false x y]) (rest++[⟨pa,I,.bo g.length J.R U.R,xh J.E U.E x y++[g.length]⟩]) ⟨?_,?_⟩ (by rw[Ac];rfl) (by rw[Ac];simp;lia) ⟨⟨_,rfl,λk hk=>⟨_,_,_,Ai.mp hk⟩⟩,λh t ht=>?_⟩)
 rotate_right
 ·have h':∀u∈J::U::rest,noC u.R:=λu hu=>h u (bq.mem_iff.mpr hu);rcases Ar.mp ht with ht|ht
  ·exact h' t (Ad _ (Ad _ ht))
  ·rw[Ai.mp ht];exact⟨h' J m1,h' U m2⟩
 ·refine bO.step (old:=[J,U]) (t':=⟨pa,I,.bo g.length J.R U.R,xh J.E U.E x y++[g.length]⟩) B ?_ ⟨?_,?_⟩ (λt ht=>?_) (λb o e=>?_) ?_ (λz hz=>?_) ?_ ?_ ?_
  ·rw[q9 nkf];exact s7 _ _ bc
  ·rw[q9 cb];exact ea
  ·rw[q9 cc];exact eb
  ·have mt:t∈J::U::rest:=Ad _ (Ad _ ht);obtain⟨n1,n2,n3,n4⟩:=nk t mt;obtain⟨h1,h2⟩:=B.ht t mt;rw[h1,h2,q9 n1,q9 n2];exact⟨s7 _ _ (up _ _ n1 n3 h1),s7 _ _ (up _ _ n2 n4 h2)⟩
  ·have n1:b≠C:=λz=>by rw[z,B.fr C (by simp)] at e;cases e
   have n2:b≠T:=λz=>by rw[z,B.fr T (by simp)] at e;cases e
   rw[q9 n2];exact s7 _ _ (up _ _ n2 n1 (B.sub _ _ e))
  ·rw[AC,AC] at ad;obtain⟨d1,d2,d3⟩:=ad;have de:(rest.flatMap Tr.ads).Nodup:=by rw[AR,AR,Az,Az] at d3;exact d3.2.1.2.1
   have cg:∀z∈rest.flatMap Tr.ads,z∈(J::U::rest).flatMap Tr.ads:=λz hz=>by rw[AR,AR];exact Ah _ (Ah _ hz)
   have cl:∀z∈rest.flatMap Tr.ads,∃o,L4 z=some o:=λz hz=>by
    obtain⟨t,ht,hz⟩:=A2.mp hz;have mt:t∈J::U::rest:=Ad _ (Ad _ ht);obtain⟨n1,n2,n3,n4⟩:=nk t mt;obtain⟨h1,h2⟩:=B.ht t mt;have hz:z=t.a\/z=t.b:=by simpa[Tr.ads] using hz
    rcases hz with rfl|rfl
    ·exact⟨_,up _ _ n1 n3 h1⟩
    ·exact⟨_,up _ _ n2 n4 h2⟩
   have di:pa≠C:=λe=>by rw[e,bc] at al;cases al
   have dj:I≠C:=λe=>by rw[e,bc] at au;cases au
   have dp:pa∉rest.flatMap Tr.ads:=λhz=>by obtain⟨o,e⟩:=cl _ hz;rw[al] at e;cases e
   have dv:I∉rest.flatMap Tr.ads:=λhz=>by obtain⟨o,e⟩:=cl _ hz;rw[au] at e;cases e
   rw[Ay];rw[AC,AC,Az];refine⟨?_,?_,de,?_,?_⟩
   ·intro z;rcases Ap.mp z with z|z
    ·exact nkf z
    ·rcases Ar.mp z with z|z
     ·exact d1 (Ad _ (cg _ z))
     ·simp[Tr.ads] at z;rcases z with z|z;exact di z.symm;exact dj z.symm
   ·intro z;rcases Ar.mp z with z|z
    ·exact d2 (cg _ z)
    ·simp[Tr.ads] at z;rcases z with z|z;exact cb z.symm;exact cc z.symm
   ·simp[Tr.ads];exact AB ca
   ·intro u hu v hv e;simp[Tr.ads] at hv;subst e;rcases hv with rfl|rfl
    ·exact dp hu
    ·exact dv hu
  ·have hz:z=pa\/z=I:=by simpa[Tr.ads] using hz
   cases w:L0 z with
   |none=>rfl
   |some o=>
    have n1:z≠C:=λe=>by rw[e,B.fr C (by simp)] at w;cases w
    have n2:z≠T:=λe=>by rw[e,B.fr T (by simp)] at w;cases w
    have:=up _ _ n2 n1 (B.sub _ _ w);rcases hz with rfl|rfl
    ·rw[al] at this;cases this
    ·rw[au] at this;cases this
  ·exact B.ok.snoc ⟨s1.lt x (s1.sub x hx),s2.lt y (s2.sub y hy)⟩
  ·refine .bo (dw _ _ _) (s1.more _) (s2.more _) hx hy (λz=>?_) ?_
   ·rw[Ar,pZ (λh=>bi x hx h) (λh=>bi y h hy),Ai];constructor
    ·rintro((h|h)|h)
     ·exact .inl h
     ·exact .inr (.inl h)
     ·exact .inr (.inr h)
    ·rintro(h|h|h)
     ·exact .inl (.inl h)
     ·exact .inl (.inr h)
     ·exact .inr h
   ·rw[Az];refine⟨pC s1.nod s2.nod bi,by simp,λu hu v hv e=>?_⟩;rw[Ai.mp hv] at e;have:=(pZ (λh=>bi x hx h) (λh=>bi y h hy) u).mp hu;rcases this with⟨h,_⟩|⟨h,_⟩
    ·have:=s1.lt u (s1.sub u h);lia
    ·have:=s2.lt u (s2.sub u h);lia
  ·show(g.length::(qo J.R++qo U.R)).Perm (List.range' g.length 1++([J,U].flatMap λt=>qo t.R));simp[DE]
 ·rw[q8];unfold zj;rw[Aj];rfl
theorem rE{E:List Nat}{k:Int}(h:0<E.length):∃(j x:Nat),E[j]?=some x/\0<=k % ((zf E).length:Int)/\k % ((zf E).length:Int)<((zf E).length:Int)/\
 (zf E)[(k % ((zf E).length:Int)).toNat]?=some (.int ((x:Nat):Int))/\(zf E).eraseIdx (k % ((zf E).length:Int)).toNat=zf (E.eraseIdx j):=by
 obtain⟨j,x,U,g,J⟩:=iG h k;have e:(zf E).length=E.length:=Ab ..;rw[e,U];refine⟨j,x,J,by exact AZ _,by lia,?_,?_⟩
 ·show(zf E)[j]?=_;rw[An,J];rfl
 ·exact iI _ E j
def lU:jr:=λys L Q=>∃L0 ka fa ks,∃pre post:List Tr,∃t:Tr,∃one two:Int,ys=[.ref ka,.ref t.a,.int one,.int two]/\m7 L0 L ka fa ks (pre++t::post)/\ks.length<=200/\
 ∀L' kt fo',m7 L0 L' ka fa kt fo'->kt.length<=ks.length+1->fo'.length=(pre++t::post).length->Ext ks (pre++t::post) kt fo'->Q .non L'
theorem zN:∀ys L Q,lU ys L Q->xp aei 6 ys L Q:=by
 rintro ys L Q ⟨L0,l,fa,J,pre,post,t,one,two,rfl,F,bb,q⟩;have big:=bg_;have mt:t∈pre++t::post:=by simp
 have B:=F.b;obtain⟨ta,tb⟩:=B.ht t mt;have le:=ax B mt;have s:=B.sr t mt;have r:∀E:List Nat,(zf E).length=E.length:=λE=>Ab ..;refine qc ta (qc tb ?_);refine v0 (λc=>?_) λc=>?_
 ·exact js (q L J _ F (BZ _) rfl ⟨⟨[],(AI _).symm,λk hk=>by cases hk⟩,λh=>h⟩)
 have c:¬(((zf t.E).length:Int)<2):=c;rw[r] at c;have ad:=B.ad;have nkf:l≠fa:=by rw[AC] at ad;exactλe=>ad.1 (e▸Ak ..)
 have nk:∀u∈pre++t::post,u.a≠fa/\u.b≠fa/\u.a≠l/\u.b≠l:=λu g=>by rw[AC,AC] at ad;have ma:u.a∈(pre++t::post).flatMap Tr.ads:=A2.mpr ⟨u,g,by simp[Tr.ads]⟩;have mb:u.b∈(pre++t::post).flatMap Tr.ads:=A2.mpr ⟨u,g,by simp[Tr.ads]⟩;exact⟨λe=>ad.2.1 (e▸ma),λe=>ad.2.1 (e▸mb),λe=>ad.1 (Ad _ (e▸ma)),λe=>ad.1 (Ad _ (e▸mb))⟩
 have a5:t.a≠t.b:=by rw[AC,AC,Ay,AR,Az,Az] at ad;have:=ad.2.2.2.1.1;simpa[Tr.ads] using this
 obtain⟨j1,x,e1,a1,a2,a3,a4⟩:=rE (k:=two) le.1;refine qc ta (qc tb (qc ta (qc tb ⟨(by show(0:Int)<((zf t.E).length:Int);rw[r];omega),qx tb ⟨a1,a2,qw a3 ?_⟩⟩)));rw[a4];have bf:(t.E.eraseIdx j1).length+1=t.E.length:=by have:=(jw e1).length_eq;rw[AL] at this;lia
 have al:qf L t.b (.lst (zf (t.E.eraseIdx j1))) t.a=some (.lst [qj t.R,.ref t.b]):=by rw[q9 a5];exact ta
 obtain⟨j2,y,e2,b1,b2,b3,b4⟩:=rE (E:=t.E.eraseIdx j1) (k:=one) (by lia);refine qc al (qc q8 (qc al (qc q8 ⟨(by show(0:Int)<((zf (t.E.eraseIdx j1)).length:Int);rw[r];omega),qx q8 ⟨b1,b2,qw b3 ?_⟩⟩)));rw[b4,xw];have bc:((t.E.eraseIdx j1).eraseIdx j2).length+1=(t.E.eraseIdx j1).length:=by have:=(jw e2).length_eq;rw[AL] at this;lia
 have pE:t.E.Perm (x::y::(t.E.eraseIdx j1).eraseIdx j2):=(jw e1).trans ((jw e2).cons _);generalize (t.E.eraseIdx j1).eraseIdx j2=j at bc pE;have au:qf L t.b (.lst (zf j)) l=some (.lst (jb J)):=by rw[q9 (AB (nk t mt).2.2.2)];exact B.hk
 refine qc au (qx au ⟨big _ (by rw[Ab];exact ah1),?_⟩);have ek:jb J++[.tup [.str "either",.int ((x:Nat):Int),.int ((y:Nat):Int)]]=jb (J++[.nd true x y]):=by unfold jb;rw[Aj];rfl
 rw[ek];have nn:(((jb (J++[.nd true x y])).length:Nat):Int)-1=((J.length:Nat):Int):=by rw[Ab,Ac];simp
 have av:qf (qf L t.b (.lst (zf j))) l (.lst (jb (J++[.nd true x y]))) t.a=some (.lst [qj t.R,.ref t.b]):=by rw[q9 (nk t mt).2.2.1,q9 a5];exact ta
 refine qc q8 (qc av ?_);refine qx av (qw (v:=0) rfl ?_);have ag:qf (qf (qf L t.b (.lst (zf j))) l (.lst (jb (J++[.nd true x y])))) t.a (.lst ([qj t.R,.ref t.b].set 0 (.tup [.str "either",.int ((((jb (J++[.nd true x y])).length:Nat):Int)-1),qj t.R]))) t.a=some (.lst [qj (.ei J.length t.R),.ref t.b]):=by rw[q8,nn];rfl
 have C:∀o,qf (qf (qf L t.b (.lst (zf j))) l (.lst (jb (J++[.nd true x y])))) t.a o l=some (.lst (jb (J++[.nd true x y]))):=λo=>by rw[q9 (AB (nk t mt).2.2.1)];exact q8
 have I:∀o,qf (qf (qf L t.b (.lst (zf j))) l (.lst (jb (J++[.nd true x y])))) t.a o t.b=some (.lst (zf j)):=λo=>by rw[q9 (AB a5),q9 (nk t mt).2.2.2];exact q8
 have U:∀o b u,b≠t.a->b≠t.b->b≠l->L b=some u->qf (qf (qf L t.b (.lst (zf j))) l (.lst (jb (J++[.nd true x y])))) t.a o b=some u:=λo b u n1 n2 n3 e=>by rw[q9 n1,q9 n3,q9 n2];exact e
 have C:=C (.lst ([qj t.R,.ref t.b].set 0 (.tup [.str "either",.int ((((jb (J++[.nd true x y])).length:Nat):Int)-1),qj t.R])));have I:=I (.lst ([qj t.R,.ref t.b].set 0 (.tup [.str "either",.int ((((jb (J++[.nd true x y])).length:Nat):Int)-1),qj t.R])));have U:=U (.lst ([qj t.R,.ref t.b].set 0 (.tup [.str "either",.int ((((jb (J++[.nd true x y])).length:Nat):Int)-1),qj t.R])));generalize qf (qf (qf L t.b (.lst (zf j))) l (.lst (jb (J++[.nd true x y])))) t.a (.lst ([qj t.R,.ref t.b].set 0 (.tup [.str "either",.int ((((jb (J++[.nd true x y])).length:Nat):Int)-1),qj t.R])))=L3 at ag C I U;refine qc ag (qc I (qc C (qx I ⟨big _ (by rw[r];lia),?_⟩)));have en:zf j++[.int ((((jb (J++[.nd true x y])).length:Nat):Int)-1)]=zf (j++[J.length]):=by rw[nn];unfold zf;rw[Aj];rfl
 have T:=pE.nodup_iff.mp s.nod;rw[AC,AC] at T;have hx:x∈t.E:=pE.mem_iff.mpr (by simp);have hy:y∈t.E:=pE.mem_iff.mpr (by simp);have bd:∀u∈pre++post,u.a≠t.a/\u.a≠t.b/\u.b≠t.a/\u.b≠t.b:=λu g=>by have p:(pre++t::post).Perm (t::(pre++post)):=Cu;have aL:=(p.flatMap_right Tr.ads).nodup_iff.mp (by rw[AC,AC] at ad;exact ad.2.2);rw[AR,Az] at aL;have k:=aL.2.2;have ma:u.a∈(pre++post).flatMap Tr.ads:=A2.mpr ⟨u,g,by simp[Tr.ads]⟩;have mb:u.b∈(pre++post).flatMap Tr.ads:=A2.mpr ⟨u,g,by simp[Tr.ads]⟩;exact⟨λe=>k t.a (by simp[Tr.ads]) u.a ma e.symm,λe=>k t.b (by simp[Tr.ads]) u.a ma e.symm,λe=>k t.a (by simp[Tr.ads]) u.b mb e.symm,λe=>k t.b (by simp[Tr.ads]) u.b mb e.symm⟩
 refine js (q _ (J++[.nd true x y]) (pre++⟨t.a,t.b,.ei J.length t.R,j++[J.length]⟩::post) ⟨?_,?_⟩ (by rw[Ac];exact Al _) (by simp) ⟨⟨_,rfl,λk hk=>⟨_,_,_,Ai.mp hk⟩⟩,λh u g=>?_⟩)
 rotate_right
 ·rcases Ar.mp g with g|g
  ·exact h u (Aq _ g)
  ·rcases Ap.mp g with rfl|g
   ·exact h t mt
   ·exact h u (Ah _ (Ad _ g))
 ·have B':=B.perm (fo':=[t]++(pre++post)) Cu;have st:=bO.step (old:=[t]) (rest:=pre++post) (t':=⟨t.a,t.b,.ei J.length t.R,j++[J.length]⟩) (ms:=[.nd true x y]) (L':=qf L3 t.b (.lst (zf j++[.int ((((jb (J++[.nd true x y])).length:Nat):Int)-1)]))) B' ?_ ⟨?_,?_⟩ (λu g=>?_) (λb o e=>?_) ?_ (λz hz=>?_) ?_ ?_ ?_
  ·exact st.perm (by have p1:((pre++post)++[(⟨t.a,t.b,.ei J.length t.R,j++[J.length]⟩:Tr)]).Perm ((⟨t.a,t.b,.ei J.length t.R,j++[J.length]⟩:Tr)::(pre++post)):=BR _ _;exact p1.trans Cu.symm)
  ·rw[q9 (AB (nk t mt).2.2.2)];exact C
  ·rw[q9 a5];exact ag
  ·rw[q8,en]
  ·have ba:u∈pre++t::post:=by rcases Ar.mp g with h|h;exact Aq _ h;exact Ah _ (Ad _ h)
   obtain⟨n1,n2,n3,n4⟩:=bd u g;obtain⟨k1,k2,k3,k4⟩:=nk u ba;obtain⟨h1,h2⟩:=B.ht u ba;rw[h1,h2,q9 n2,q9 n4];exact⟨U _ _ n1 n2 k3 h1,U _ _ n3 n4 k4 h2⟩
  ·have fr:=B.fr;have n0:∀z,L0 z=none->b≠z:=λz hz w=>by rw[w,hz] at e;cases e
   have n1:=n0 l (fr l (by simp));have n2:=n0 t.a (fr t.a (by simp[Tr.ads]));have n3:=n0 t.b (fr t.b (by simp[Tr.ads]));rw[q9 n3];exact U _ _ n2 n3 n1 (B.sub _ _ e)
  ·have p:(pre++t::post).Perm ((pre++post)++[t]):=Cu.trans (BR _ _).symm;have e:((pre++post)++[(⟨t.a,t.b,.ei J.length t.R,j++[J.length]⟩:Tr)]).flatMap Tr.ads=((pre++post)++[t]).flatMap Tr.ads:=by simp[Ay,Tr.ads]
   rw[e];exact(((p.flatMap_right Tr.ads).cons _).cons _).nodup_iff.mp ad
  ·have hz:z=t.a\/z=t.b:=by simpa[Tr.ads] using hz
   rcases hz with rfl|rfl
   ·exact B.fr _ (by simp[Tr.ads])
   ·exact B.fr _ (by simp[Tr.ads])
  ·exact B.ok.snoc ⟨s.lt x (s.sub x hx),s.lt y (s.sub y hy)⟩
  ·refine .ei (dw _ _ _) (s.more _) hx hy (λe=>T.1 (by rw[e];exact Ak ..)) (λz=>?_) ?_
   ·rw[Ar,Ai];have hm:=pE.mem_iff (a:=z);rw[Ap,Ap] at hm;have h1:z∈j->z≠x/\z≠y:=λh=>⟨λe=>T.1 (by rw[<-e];exact Ad _ h),λe=>T.2.1 (e▸h)⟩;constructor
    ·rintro(h|h)
     ·exact .inl ⟨hm.mpr (.inr (.inr h)),h1 h⟩
     ·exact .inr h
    ·rintro(⟨h,c1,c2⟩|h)
     ·rcases hm.mp h with e|e|e
      ·exact absurd e c1
      ·exact absurd e c2
      ·exact .inl e
     ·exact .inr h
   ·rw[Az];refine⟨T.2.2,by simp,λu g v hv e=>?_⟩;rw[Ai.mp hv] at e;have:u∈t.E:=pE.mem_iff.mpr (Ad _ (Ad _ g));have:=s.lt u (s.sub u this);lia
  ·show(J.length::qo t.R).Perm (List.range' J.length 1++([t].flatMap λt=>qo t.R));simp[DE]
 ·have nf:=nk t mt;rw[q9 (AB nf.2.1)];have:=U fa _ (AB nf.1) (AB nf.2.1) (AB nkf) F.hf;rw[this];unfold zj;rw[Aj,Aj];rfl
def ajm(J:jr)(p1:jr)(p2:jr)(p3:jr):ke:=(qr (zr (wu cR (qb 1) (qd (zn w6 (qb 3) (cY 1)) qz)) (qh 4))
 (qr (zr (zn ay (jy 4 1) (zn w6 (zn am (qb 3) (jf 64)) (iT jL (x9 (jy 4 1))))) (qh 5))
 (qr (zr (zc J (a9 (qb 0) (qb 5))) (qh 6))
 (qr (zr (zF (yC .non) (yC .non)) (wo 2 (zm (qh 7) (zm (qh 8) kw))))
 (qr (bB (cf (x9 (cY 1))) (qh 9) (bB (kz (zn ay (zn ay (qb 1) (qb 9)) (jf 1))) (qh 10) (jz (wZ (yB (fY false (qb 7))) (fJ (zc J (a9 (qb 0) (qb 10))) (zc p1 (x9 (qb 6))))) (zr (vt (qd (zn ay (qb 1) (qb 9)) (x9 (qb 10)))) (wo 2 (zm (qh 7) (zm (qh 8) kw)))) jk)))
 (qr (jz (wZ (yB (fY false (qb 7))) (yB (zn yGt (zc p2 (x9 (qb 6))) (jf 5)))) (qr (j9 (wu zq (qb 1) (x9 (qb 4))))
 ac9) jk)
 (kF (jz (yB (fY false (qb 7))) (qr (zr (zc p3 (a9 (qb 0) (qb 6))) (ai8 3 (zm (qh 11) (zm (qh 8) (zm (qh 12) kw)))))
 (zr (jh (qd (qb 11) (qd (jh (a9 (qb 8) (qb 12))) qz))) (qh 7))) (j9 (wu jQ (qb 1) (x9 (qb 7)))))
 (qr (zr (uE 1 (kz (zn kc (jy 4 1) (jy 7 1))) (qh 14) (yB (zn (mE true) (qb 14) (zF (qb 5) (qb 8)))) (qb 14)) (qh 13))
 (jz (fJ (zn w6 (qb 2) (jf 2)) (jf 0)) (j9 (wu zq (qb 1) (qd (jh (qd (vt (qd (dH "cut") (qd (qb 5) (qd (qb 8) (a9 (jy 4 0) (jy 7 0)))))) (x9 (qb 13)))) qz))) (j9 (wu zq (qb 1) (qd (jh (qd (vt (qd (dH "cut") (qd (qb 8) (qd (qb 5) (a9 (jy 7 0) (jy 4 0)))))) (x9 (qb 13)))) qz))))))))))))
theorem o4:∀a b:List Da,Da.eqs a b=true->a.length=b.length
 |[],[],_=>rfl
 |[],_::_,h=>by cases h
 |_::_,[],h=>by cases h
 |x::r,y::q,h=>by have h:(Da.eq x y&&Da.eqs r q)=true:=h;rw[A4] at h;rw[AL,AL,o4 r q h.2]
theorem agm(u:Wd):∀v:Wd,Da.eq (o6 u) (o6 v)=true->u=v:=by
 induction u with
 |leaf t n=>
  intro v h;cases v with
  |leaf p C=>
   rw[ae8,A4] at h;rw[of_decide_eq_true h.1,of_decide_eq_true h.2]
  |node e l r=>exact absurd (o4 _ _ h) (by intro z;cases z)
 |node e l r j o=>
  intro v h;cases v with
  |leaf t n=>exact absurd (o4 _ _ h) (by intro z;cases z)
  |node J U g=>
   have h:(ij (.str (kN e)) (.str (kN J))&&(Da.eq (o6 l) (o6 U)&&(Da.eq (o6 r) (o6 g)&&true)))=true:=h;rw[A4,A4,A4] at h;obtain⟨h1,h2,h3,_⟩:=h;have:e=J:=by cases e<;>cases J<;>first|rfl|(exfalso;revert h1;decide +kernel)
   rw[this,j U h2,o g h3]
def ja:Ru->Nat
 |.link _ _=>1
 |.ei _ A=>ja A+1
 |.bo _ A B=>max (ja A) (ja B)+1
 |.cu _ _ A B=>max (ja A) (ja B)+1
theorem xi:∀R:Ru,ja R+1<=(qo R).length
 |.link _ _=>Al _
 |.ei _ A=>by have:=xi A;simp[ja,qo];lia
 |.bo _ A B=>by have:=xi A;have:=xi B;simp[ja,qo];lia
 |.cu _ _ A B=>by have:=xi A;have:=xi B;simp[ja,qo];lia
def bA:Ru->Da
 |.link p q=>.tup [.s (.str "link"),.s (.int (p:Int)),.s (.int (q:Int))]
 |.ei r A=>.tup [.s (.str "either"),.s (.int (r:Int)),bA A]
 |.bo r A B=>.tup [.s (.str "both"),.s (.int (r:Int)),bA A,bA B]
 |.cu p q A B=>.tup [.s (.str "cut"),.s (.int (p:Int)),.s (.int (q:Int)),bA A,bA B]
theorem bG{L:qm}:∀{R:Ru} {n:Nat},ja R<=n->jc L n (qj R) (bA R)
 |.link p q,n+1,_=>aS (.cons (EJ _) (.cons (EG _) (.cons (EG _) .nil)))
 |.ei r A,n+1,h=>aS (.cons (EJ _) (.cons (EG _) (.cons (bG (by simp[ja] at h;lia)) .nil)))
 |.bo r A B,n+1,h=>aS (.cons (EJ _) (.cons (EG _) (.cons (bG (by simp[ja] at h;lia)) (.cons (bG (by simp[ja] at h;lia)) .nil))))
 |.cu p q A B,n+1,h=>aS (.cons (EJ _) (.cons (EG _) (.cons (EG _) (.cons (bG (by simp[ja] at h;lia)) (.cons (bG (by simp[ja] at h;lia)) .nil)))))
 |.link _ _,0,h=>by simp[ja] at h
 |.ei _ _,0,h=>by simp[ja] at h
 |.bo _ _ _,0,h=>by simp[ja] at h
 |.cu _ _ _ _,0,h=>by simp[ja] at h
theorem aj:∀R:Ru,Da.eq (bA R) (bA R)=true
 |.link p q=>by simp[bA,Da.eq,Da.eqs,ij]
 |.ei r A=>by simp[bA,Da.eq,Da.eqs,ij,aj A]
 |.bo r A B=>by simp[bA,Da.eq,Da.eqs,ij,aj A,aj B]
 |.cu p q A B=>by simp[bA,Da.eq,Da.eqs,ij,aj A,aj B]
def iN(E:List Nat):List Da:=E.map λn:Nat=>Da.s (.int (n:Int))
theorem vZ{L:qm}{n:Nat}:∀E:List Nat,Paired (jc L n) (zf E) (iN E)
 |[]=>.nil
 |_::r=>.cons (EG _) (vZ r)
theorem oj:∀E J:List Nat,Da.eqs (iN E) (iN J)=true↔E=J
 |[],[]=>by simp[iN,Da.eqs]
 |[],_::_=>by simp[iN,Da.eqs]
 |_::_,[]=>by simp[iN,Da.eqs]
 |x::r,y::U=>by
  have g:=oj r U;show(Da.eq (.s (.int (x:Int))) (.s (.int (y:Int)))&&Da.eqs (iN r) (iN U))=true↔_;rw[A4,g];have:Da.eq (.s (.int (x:Int))) (.s (.int (y:Int)))=true↔x=y:=by show decide ((x:Int)=(y:Int))=true↔_;rw[decide_eq_true_iff];lia
  rw[this];constructor
  ·rintro⟨rfl,rfl⟩;rfl
  ·intro e;injection e with j l;exact⟨j,l⟩
def eY(t:Tr):Da:=.lst [bA t.R,.lst (iN t.E)]
theorem oW{t:Tr}(J:L t.a=some (.lst [qj t.R,.ref t.b]))(U:L t.b=some (.lst (zf t.E)))(h:ja t.R<=n+1):jc L (n+2) (.ref t.a) (eY t):=
 wr J (.cons (bG h) (.cons (wr U (vZ _)) .nil))
theorem agv{t u:Tr}:Da.eq (eY t) (eY u)=true->t.E=u.E:=by intro h;have h:(Da.eq (bA t.R) (bA u.R)&&(Da.eqs (iN t.E) (iN u.E)&&true))=true:=h;rw[A4,A4] at h;exact(oj _ _).mp h.2.1
theorem yG(t:Tr):Da.eq (eY t) (eY t)=true:=by show(Da.eq (bA t.R) (bA t.R)&&(Da.eqs (iN t.E) (iN t.E)&&true))=true;rw[aj,(oj _ _).mpr rfl];rfl
theorem bO.rd(h:bO L0 L ka fa ks fo){t:Tr}(J:t∈fo):ja t.R<=ks.length:=by
 have h1:=xi t.R;have nd:(qo t.R).Nodup:=by obtain⟨a,b,rfl⟩:=CH J;have:=h.nd;rw[Ay,AR,Az,Az] at this;exact this.2.1.1
 have:=bL _ _ nd λx U=>(h.sr t J).lt x U;exact amk
theorem bO.one(h:bO L0 L ka fa ks fo){t u:Tr}(hi:fo[i]?=some t)(J:fo[j]?=some u)(e:t.E=u.E):i=j:=by
 by_cases c:i=j
 ·exact c
 ·exfalso;have s:=h.sr t (Aw hi);have l:=s.ends h.ok;obtain⟨x,U⟩:∃x,x∈t.E:=by cases o:t.E with|nil=>rw[o] at l;simp at l|cons x r=>exact⟨x,Ak ..⟩
  have p:=h.sr u (Aw J);have C:=jw hi;have I:(u::(fo.eraseIdx i))=_:=rfl;have g:u∈fo.eraseIdx i:=by have:fo[j]?=some u:=J;rw[List.mem_eraseIdx_iff_getElem?];exact⟨j,λz=>c z.symm,J⟩
  obtain⟨a,b,T⟩:=CH g;have nd:=(C.flatMap_right λt:Tr=>qo t.R).nodup_iff.mp h.nd;rw[AR,Az] at nd;exact nd.2.2 x (s.sub x U) x (A2.mpr ⟨u,g,p.sub x (e▸U)⟩) rfl
theorem qg.none(s:qg L L'){p:Addr}(h:L' p=none):L p=none:=by cases z:L p with|none=>rfl|some o=>rw[s _ _ z] at h;cases h
theorem bO.nkf(h:bO L0 L ka fa ks fo):ka≠fa:=by have ad:=h.ad;rw[AC] at ad;exactλe=>ad.1 (e▸Ak ..)
theorem bO.nk(h:bO L0 L ka fa ks fo):∀t∈fo,t.a≠fa/\t.b≠fa/\t.a≠ka/\t.b≠ka:=λt J=>by have ad:=h.ad;rw[AC,AC] at ad;have U:t.a∈fo.flatMap Tr.ads:=A2.mpr ⟨t,J,by simp[Tr.ads]⟩;have g:t.b∈fo.flatMap Tr.ads:=A2.mpr ⟨t,J,by simp[Tr.ads]⟩;exact⟨λe=>ad.2.1 (e▸U),λe=>ad.2.1 (e▸g),λe=>ad.1 (Ad _ (e▸U)),λe=>ad.1 (Ad _ (e▸g))⟩
theorem bO.setF(h:bO L0 L ka fa ks fo)(o:LO):bO L0 (qf L fa o) ka fa ks fo:=by
 refine⟨by rw[q9 h.nkf];exact h.hk,λt J=>?_,h.sr,h.nd,h.tm,h.ad,h.ok,λb u e=>?_,h.fr⟩
 ·obtain⟨U,g,_,_⟩:=h.nk t J;rw[q9 U,q9 g];exact h.ht t J
 ·have:b≠fa:=λz=>by rw[z,h.fr fa (by simp)] at e;cases e
  rw[q9 this];exact h.sub _ _ e
theorem bO.mono(h:bO L0 L ka fa ks fo)(s:qg L L'):bO L0 L' ka fa ks fo:=
 ⟨s _ _ h.hk,λt J=>⟨s _ _ (h.ht t J).1,s _ _ (h.ht t J).2⟩,h.sr,h.nd,h.tm,h.ad,h.ok,h.sub.trans s,h.fr⟩
theorem bO.exs(h:bO L0 L ka fa ks fo):∀z∈fo.flatMap Tr.ads,∃o,L z=some o:=λz J=>by
 obtain⟨t,U,J⟩:=A2.mp J;obtain⟨h1,h2⟩:=h.ht t U;have J:z=t.a\/z=t.b:=by simpa[Tr.ads] using J
 rcases J with rfl|rfl
 ·exact⟨_,h1⟩
 ·exact⟨_,h2⟩
theorem uO{l:List Addr}{pb:Addr}(nd:l.Nodup)(ex:∀z∈l,∃o,L z=some o)(g:L pa=none)(j:L pb=none)(ne:pa≠pb):(l++[pa,pb]).Nodup:=by
 rw[Az];refine⟨nd,by simp[ne],λu p v U e=>?_⟩;subst e;obtain⟨o,J⟩:=ex u p;simp at U;rcases U with rfl|rfl
 ·rw[g] at J;cases J
 ·rw[j] at J;cases J
theorem lV:∀w:Wd,w.turn.turn=w
 |.leaf t n=>by simp[Wd.turn]
 |.node e l r=>by simp[Wd.turn,lV l,lV r]
theorem fS:∀w:Wd,w.turn.depth=w.depth
 |.leaf t n=>rfl
 |.node e l r=>by simp[Wd.turn,Wd.depth,fS l,fS r]
def Fd(ks:List Kn)(w:Wd)(rest:List Tr)(J U:Y):Prop:=(J=.non/\U=.non)\/∃(j:Nat) (u:Tr) (q:Nat),rest[j]?=some u/\q∈u.E/\cq ks q w.turn/\J=.ref u.a/\U=.int (q:Int)
theorem acv{j C:qm}{t1 u:Tr}{x q:Nat}{w:Wd}(B:bO L0 j ka fa ks (t1::u::rest)){fs:LO}(hf:j fa=some fs)(hx:x∈t1.E)(hq:q∈u.E)(I:cq ks x w)(T:cq ks q w.turn){J:Addr}(s:qg j C)(a1:j J=none)
 (he:C J=some (.lst (zf (xh t1.E u.E x q)))) (o:C pa=none) (hR:R=.cu x q t1.R u.R\/R=.cu q x u.R t1.R):bO L0 (qf C pa (.lst [qj R,.ref J])) ka fa ks (rest++[⟨pa,J,R,xh t1.E u.E x q⟩]):=by
 have a2:J≠pa:=v5 he o;have g:j pa=none:=s.none o;have s':qg j (qf C pa (.lst [qj R,.ref J])):=s.trans (By o);have s1:=B.sr t1 (by simp);have s2:=B.sr u (by simp);have p:∀z,z∈t1.E->z∈u.E->False:=λz h1 h2=>B.two z (s1.sub z h1) (s2.sub z h2);have k0:ks++[]=ks:=AI ks;have bm:=pZ (E1:=t1.E) (E2:=u.E) (λh=>p x hx h) (λh=>p q h hq);have nod:=pC (l:=x) (r:=q) s1.nod s2.nod p;have st:=bO.step (L':=qf C pa (.lst [qj R,.ref J])) (old:=[t1,u]) (rest:=rest) (ms:=[]) (t':=⟨pa,J,R,xh t1.E u.E x q⟩) B (by rw[k0];exact s' _ _ B.hk) ⟨q8,by rw[q9 a2];exact he⟩ (λt ht=>?_) (B.sub.trans s') ?_ (λz U=>?_) (by rw[k0];exact B.ok) ?_ ?_
 ·rw[k0] at st;exact st
 ·obtain⟨h1,h2⟩:=B.ht t (Ad _ (Ad _ ht));rw[h1,h2];exact⟨s' _ _ h1,s' _ _ h2⟩
 ·have nd:(ka::fa::rest.flatMap Tr.ads).Nodup:=by
   have:=B.ad;rw[AR,AR,AC,AC,Az,Az] at this;rw[AC,AC];obtain⟨d1,d2,_,⟨_,d3,_⟩,_⟩:=this;refine⟨λz=>d1 ?_,λz=>d2 (Ah _ (Ah _ z)),d3⟩;rcases Ap.mp z with z|z
   ·rw[z];exact Ak ..
   ·exact Ad _ (Ah _ (Ah _ z))
  have:=uO (L:=j) nd (λz U=>?_) g a1 (AB a2)
  ·rw[Ay];simpa[Tr.ads] using this
  ·rcases Ap.mp U with rfl|U
   ·exact⟨_,B.hk⟩
   ·rcases Ap.mp U with rfl|U
    ·exact⟨_,hf⟩
    ·exact B.exs z (by rw[AR,AR];exact Ah _ (Ah _ U))
 ·have U:z=pa\/z=J:=by simpa[Tr.ads] using U
  rcases U with rfl|rfl
  ·exact B.sub.none g
  ·exact B.sub.none a1
 ·rw[k0];rcases hR with rfl|rfl
  ·exact .cu s1 s2 hx hq I T bm nod
  ·exact .cu (w:=w.turn) s2 s1 hq hx T (by rw[lV];exact I) (λz=>by rw[bm];exact Or.comm) nod
 ·rcases hR with rfl|rfl
  ·show(qo t1.R++qo u.R).Perm _;simp
  ·show(qo u.R++qo t1.R).Perm _;simpa using List.perm_append_comm
def CJ(L0:qm)(ka fa:Addr)(ks:List Kn)(one two:Int)(t1:Tr)(x:Nat)(w:Wd)(n:Nat)(τ:jq)(L:qm):Prop:=∃ms u q rest c9 eO zY c12,τ=[some (.ref ka),some (.ref fa),some (.int one),some (.int two),some (.ref t1.a),some (.int (x:Int)),some (bN w),some (.ref u.a),some (.int ((q:Nat):Int)),c9,eO,zY,c12,none]/\
 bO L0 L ka fa (ks++ms) (t1::u::rest)/\L fa=some (.lst (zj rest))/\q∈u.E/\cq (ks++ms) q w.turn/\ms.length<=10/\rest.length<=n
def o7:jr:=λys L Q=>∃L0 ka fa ks fo,∃one two:Int,ys=[.ref ka,.ref fa,.int one,.int two]/\m7 L0 L ka fa ks fo/\1<=fo.length/\fo.length<=110/\ks.length<=110/\
 ∀L' kt fo',m7 L0 L' ka fa kt fo'->kt.length<=ks.length+10->1<=fo'.length->fo'.length<=fo.length->Q .non L'
theorem af3:∀ys L Q,o7 ys L Q->xp (ajm (aM 120) (cB 120) (bY 120) (bP 5)) 14 ys L Q:=by
 rintro ys L Q ⟨L0,g,fa,T,fo,one,two,rfl,F,h1,cc,bv,q⟩;have big:=bg_;have a4:∀fo:List Tr,(zj fo).length=fo.length:=λfo=>Ab ..;obtain⟨j1,J,bf,a1,a2,a3,C⟩:=uq (k:=two) F.hf (by assumption);have l1:(fo.eraseIdx j1).length+1=fo.length:=by have:=(jw bf).length_eq;rw[AL] at this;lia
 refine qc F.hf (qc F.hf ⟨(by show(0:Int)<((zj fo).length:Int);rw[a4];lia),qx F.hf ⟨a1,a2,qw a3 ?_⟩⟩);have B:bO L0 (qf L fa (.lst ((zj fo).eraseIdx (two % ((zj fo).length:Int)).toNat))) g fa T (J::fo.eraseIdx j1):=(F.b.perm (jw bf)).setF _;generalize qf L fa (.lst ((zj fo).eraseIdx (two % ((zj fo).length:Int)).toNat))=L1 at C B;generalize fo.eraseIdx j1=rest at l1 C B;clear a1 a2 a3;have m1:J∈J::rest:=by simp
 obtain⟨a5,al⟩:=B.ht J m1;have au:=ax B m1;have s1:=B.sr J m1;obtain⟨x,hx,ex⟩:=oY au.1 (two / 64);refine qc a5 ⟨⟨by decide,by decide⟩,qc a5 (qc al ⟨(by show(0:Int)<((zf J.E).length:Int);rw[Ab];omega),qc al (qw ex ?_)⟩)⟩;obtain⟨w,hw,cl,bg⟩:=kU B.ok (x+1) x (by exact Cv _) (s1.lt x (s1.sub x hx));have cm:=s1.lt x (s1.sub x hx);refine⟨g,jb T,x,w,rfl,B.hk,hw,by lia,?_⟩;have cv:w.turn.depth=w.depth:=fS w;refine qc C ⟨⟨by show _<=(((zj rest).length:Nat):Int);exact AZ _,by show(((zj rest).length:Nat):Int)<_;rw[a4];omega⟩,?_⟩;refine cN (λi τ L'=>∃v7 v8 c9 eO,τ=[some (.ref g),some (.ref fa),some (.int one),some (.int two),some (.ref J.a),some (.int (x:Int)),some (bN w),some v7,some v8,c9,eO,none,none,none]/\L'=L1/\Fd T w rest v7 v8) ⟨_,_,_,_,rfl,rfl,.inl ⟨rfl,rfl⟩⟩ ?_ ?_
 ·rintro i τ L' hi ⟨v7,v8,c9,eO,rfl,rfl,fd⟩;have hi:i<rest.length:=by have:i<(((zj rest).length:Nat):Int).toNat:=hi;rw[a4] at this;assumption
  obtain⟨u,hu⟩:∃u,rest[i]?=some u:=⟨_,Ae hi⟩;have mu:u∈J::rest:=Ad _ (Aw hu);obtain⟨ua,ub⟩:=B.ht u mu;have ei:(zj rest)[i]?=some (.ref u.a):=by unfold zj;rw[An,hu];rfl
  have e0:(0:Int)+(i:Int)=((i:Nat):Int):=by simp +arith only
  rw[e0];have bh:eM (zj rest) ((i:Nat):Int)=some (.ref u.a):=xq ei;have le:=ax B mu;have su:=B.sr u mu;refine qc C (qw bh (qc ua ?_));refine ahe (ys:=zf u.E) (aO ub) (λk τ av=>∃v7 v8 eO,τ=[some (.ref g),some (.ref fa),some (.int one),some (.int two),some (.ref J.a),some (.int (x:Int)),some (bN w),some v7,some v8,some (.int ((i:Nat):Int)),eO,none,none,none]/\av=L'/\Fd T w rest v7 v8) ⟨_,_,_,rfl,rfl,fd⟩ ?_ ?_ ?_
  ·rintro k τ _ ⟨_,_,_,_,rfl,_⟩;rfl
  ·rintro k y τ av ey ⟨v7,v8,eO,rfl,rfl,fd⟩;obtain⟨z,ez,rfl⟩:∃z:Nat,u.E[k]?=some z/\y=Y.int (z:Int):=by rw[An] at ey;obtain⟨z,e1,e2⟩:=Am.mp ey;exact⟨z,e1,e2.symm⟩
   have hz:z∈u.E:=Aw ez;rcases fd with⟨rfl,rfl⟩|⟨j,t,q0,h1,h2,h3,rfl,rfl⟩
   ·have bw:=su.lt z (su.sub z hz);obtain⟨v,hv,cy,cg⟩:=kU B.ok (z+1) z (by exact Cv _) bw;refine⟨g,jb T,z,v,rfl,B.hk,hv,by lia,w,rfl,by lia,?_⟩;refine abp (u:=v) (v:=w.turn) (by lia) ?_;show kj (Da.eq (o6 v) (o6 w.turn)) _ _;refine ag3 (λc=>?_) λc=>?_
    ·have hh:=agm _ _ c;refine qc C (qw bh ?_);refine⟨_,DU _,?_⟩;exact⟨_,_,_,rfl,rfl,.inr ⟨i,u,z,hu,hz,hh▸hv,rfl,rfl⟩⟩
    ·refine⟨_,DU _,?_⟩;exact⟨_,_,_,rfl,rfl,.inl ⟨rfl,rfl⟩⟩
   ·refine⟨_,DU _,?_⟩;exact⟨_,_,_,rfl,rfl,.inr ⟨j,t,q0,h1,h2,h3,rfl,rfl⟩⟩
  ·rintro τ av ⟨v7,v8,eO,rfl,rfl,fd⟩;refine⟨_,DU _,?_⟩;exact⟨_,_,_,_,rfl,rfl,fd⟩
 ·rintro τ L' ⟨v7,v8,c9,eO,rfl,rfl,fd⟩;rcases fd with⟨rfl,rfl⟩|⟨j,u,q0,hj,aL,ba,rfl,rfl⟩
  case' inl=>
   refine⟨w,rfl,by lia,?_⟩;show kj (decide ((w.size:Int) > 5)) _ _;refine v0 (λc=>?_) λc=>?_
   case' refine_1=>
    refine qc C (qx C ⟨big _ (by rw[a4];lia),?_⟩);have er:zj rest++[.ref J.a]=zj (rest++[J]):=by unfold zj;rw[Aj];rfl
    rw[er];exact js (q _ T (rest++[J]) ⟨(B.perm (BR _ _).symm).setF _,q8⟩ (by exact BG _ _) (by simp) (by rw[Ac];simp;exact yK))
   case' refine_2=>
    refine⟨CJ L0 g fa T one two J x w rest.length,?_,?_⟩
    ·refine⟨g,T,w,rfl,B.hk,(by have h1:=w.depth_le;have h2:=w.size_eq;lia),(by decide),bg,B.ok,by lia,λms R tp sp p hp ag=>?_⟩;refine qx q8 ?_;intro pb bb pa I;have bS:g≠p:=v5 B.hk hp;have bc:qf L' g (.lst (jb (T++ms))) p=none:=by rw[q9 (AB bS)];exact hp
     have sA:qg (qf L' g (.lst (jb (T++ms)))) _:=((By bc).trans (By bb)).trans (By (o:=.lst [qj R,.ref pb]) I);have bi:pb≠pa:=v5 q8 I;have bj:qf L' g (.lst (jb (T++ms))) pb=none:=(By bc).none bb;have bn:qf L' g (.lst (jb (T++ms))) pa=none:=((By bc).trans (By bb)).none I;have ea:qf (qf (qf (qf L' g (.lst (jb (T++ms)))) p (.lst [qj R,.int (tp:Int),.int (sp:Int)])) pb (.lst [.int (tp:Int),.int (sp:Int)])) pa (.lst [qj R,.ref pb]) pa=some (.lst [qj R,.ref pb]):=q8;have eb:qf (qf (qf (qf L' g (.lst (jb (T++ms)))) p (.lst [qj R,.int (tp:Int),.int (sp:Int)])) pb (.lst [.int (tp:Int),.int (sp:Int)])) pa (.lst [qj R,.ref pb]) pb=some (.lst (zf [tp,sp])):=by rw[q9 bi];exact q8
     refine⟨ms,⟨pa,pb,R,[tp,sp]⟩,tp,rest,_,_,_,_,rfl,?_,sA _ _ (by rw[q9 (AB B.nkf)];exact C),Ak ..,ag.wt,by have:=ag.len;lia,Al _⟩;generalize qf (qf (qf (qf L' g (.lst (jb (T++ms)))) p (.lst [qj R,.int (tp:Int),.int (sp:Int)])) pb (.lst [.int (tp:Int),.int (sp:Int)])) pa (.lst [qj R,.ref pb])=LF at sA ea eb;have keep:∀z o,z≠g->L' z=some o->LF z=some o:=λz o n e=>sA _ _ (by rw[q9 n];exact e);have st:=bO.step (L':=LF) (old:=[]) (rest:=J::rest) (ms:=ms) (t':=⟨pa,pb,R,[tp,sp]⟩) B (sA _ _ q8) ⟨ea,eb⟩ (λt ht=>?_) (λz o e=>?_) ?_ (λz hz=>?_) ag.ok ag.sr ?_
     ·exact st.perm ((BR _ _).trans (List.Perm.swap _ _ _))
     ·obtain⟨n1,n2,n3,n4⟩:=B.nk t ht;obtain⟨h1,h2⟩:=B.ht t ht;rw[h1,h2];exact⟨keep _ _ n3 h1,keep _ _ n4 h2⟩
     ·exact keep _ _ (λz=>by rw[z,B.fr g (by simp)] at e;cases e) (B.sub _ _ e)
     ·have:=uO (L:=qf L' g (.lst (jb (T++ms)))) B.ad (λz hz=>?_) bn bj (AB bi)
      ·rw[Ay];simpa[Tr.ads] using this
      ·by_cases c:z=g
       ·rw[c];exact⟨_,q8⟩
       ·rw[q9 c];rcases Ap.mp hz with rfl|hz
        ·exact absurd rfl c
        ·rcases Ap.mp hz with rfl|hz
         ·exact⟨_,C⟩
         ·exact B.exs z hz
     ·have hz:z=pa\/z=pb:=by simpa[Tr.ads] using hz
      cases e:L0 z with
      |none=>rfl
      |some o=>
       have n:z≠g:=λz'=>by rw[z',B.fr g (by simp)] at e;cases e
       have:=B.sub _ _ e;have e2:qf L' g (.lst (jb (T++ms))) z=some o:=by rw[q9 n];exact this
       rcases hz with rfl|rfl
       ·rw[bn] at e2;cases e2
       ·rw[bj] at e2;cases e2
     ·rw[C0,AI];exact(A7 ag.nd Dv).mpr λz=>by rw[ag.tm,CQ]
  case' inr=>
   refine⟨CJ L0 g fa T one two J x w rest.length,?_,?_⟩
   ·refine qc C (qx C ⟨rest.map eY,eY u,120,120,j,by decide,?_,?_,?_,⟨eY u,?_,yG u⟩,λk d hk ek=>?_,?_⟩)
    ·have dd:∀l:List Tr,(∀t∈l,t∈J::rest)->Paired (jc L' 120) (zj l) (l.map eY):=λl=>by
      induction l with
      |nil=>intro _;exact .nil
      |cons t r ih=>
       intro h;have mt:=h t (Ak ..);obtain⟨h1,h2⟩:=B.ht t mt;have:=B.rd mt;exact .cons (oW (n:=118) h1 h2 (by lia)) (ih λt ht=>h t (Ad _ ht))
     exact dd rest λt ht=>Ad _ ht
    ·have mt:u∈J::rest:=Ad _ (Aw hj);obtain⟨h1,h2⟩:=B.ht u mt;have:=B.rd mt;exact oW (n:=118) h1 h2 (by omega)
    ·rw[Ab];exact(AK.mp hj).1
    ·rw[An,hj];rfl
    ·rw[An] at ek;obtain⟨v,ev,rfl⟩:=Am.mp ek;cases c:Da.eq (eY v) (eY u) with
     |false=>rfl
     |true=>
      have:=B.one (i:=k+1) (j:=j+1) (by simpa using ev) (by simpa using hj) (agv c);lia
    ·rw[kW];have B2:=(B.perm ((jw hj).cons _)).setF (.lst (zj (rest.eraseIdx j)));exact⟨[],u,q0,rest.eraseIdx j,_,_,_,_,rfl,(AI T).symm▸B2,q8,aL,(AI T).symm▸ba,Bi _,CK ..⟩
  all_goals
   rintro cP L' ⟨ms,u,q0,U,c9,eO,zY,c12,rfl,B',hf,aL,ba,d0,da⟩;have m1:J∈J::u::U:=by simp
   have m2:u∈J::u::U:=by simp
   obtain⟨a5,al⟩:=B'.ht J m1;obtain⟨bd,ca⟩:=B'.ht u m2;have au:=ax B' m1;have cb:=ax B' m2;rw[Ac] at au cb;refine qc a5 (qc bd ⟨_,_,al,ca,small (by rw[Ab,Ab];omega),λpp bp=>?_⟩);have en:zf J.E++zf u.E=zf (J.E++u.E):=by unfold zf;rw[Aj]
   rw[en];refine ad8 (E:=J.E++u.E) (l:=x) (r:=q0) (k:=14) q8 (by rw[Ac];omega) (λy' Q' h=>h) (λ_=>rfl) λpe bq=>?_;have s4:qg L' (qf (qf L' pp (.lst (zf (J.E++u.E)))) pe (.lst (zf ((J.E++u.E).filter λz=>!decide (z=x\/z=q0))))):=(By bp).trans (By bq);have br:qf (qf L' pp (.lst (zf (J.E++u.E)))) pe (.lst (zf ((J.E++u.E).filter λz=>!decide (z=x\/z=q0)))) pe=some (.lst (zf (xh J.E u.E x q0))):=q8;have bu:L' pe=none:=(By bp).none bq;generalize qf (qf L' pp (.lst (zf (J.E++u.E)))) pe (.lst (zf ((J.E++u.E).filter λz=>!decide (z=x\/z=q0))))=L4 at s4 br;have done:∀(R:Ru) pa,L4 pa=none->(R=.cu x q0 J.R u.R\/R=.cu q0 x u.R J.R)->Q .non (qf (qf L4 pa (.lst [qj R,.ref pe])) fa (.lst (zj U++[.ref pa]))):=λR pa I hR=>by
    have er:zj U++[.ref pa]=zj (U++[⟨pa,pe,R,xh J.E u.E x q0⟩]):=by unfold zj;rw[Aj];rfl
    rw[er];exact q _ (T++ms) (U++[⟨pa,pe,R,xh J.E u.E x q0⟩]) ⟨(acv B' hf hx aL (hw.more ms) ba s4 bu br I hR).setF _,q8⟩ (by rw[Ac];omega) (by simp) (by rw[Ac];simp;omega)
   refine⟨(by show(0:Int)<2;decide),?_⟩;show kj (decide (one % 2=0)) _ _;refine v0 (λc=>?_) λc=>?_
   ·refine qc (s4 _ _ hf) (qc (s4 _ _ a5) (qc (s4 _ _ bd) λpa I=>?_));refine qx (By I _ _ (s4 _ _ hf)) ⟨big _ (by rw[a4];omega),?_⟩;exact js (done _ pa I (.inl rfl))
   ·refine qc (s4 _ _ hf) (qc (s4 _ _ bd) (qc (s4 _ _ a5) λpa I=>?_));refine qx (By I _ _ (s4 _ _ hf)) ⟨big _ (by rw[a4];omega),?_⟩;exact js (done _ pa I (.inr rfl))
theorem m7.mono(h:m7 L0 L ka fa ks fo)(s:qg L L'):m7 L0 L' ka fa ks fo:=⟨h.b.mono s,s _ _ h.hf⟩
theorem bO.plus{U:qm}{ms:List Kn}{t':Tr}{fs:LO}(B:bO L0 L ka fa ks rest)(C:L fa=some fs)(sA:qg (qf L ka (.lst (jb (ks++ms)))) U)(I:U t'.a=some (.lst [qj t'.R,.ref t'.b]))(T:U t'.b=some (.lst (zf t'.E)))
 (g:qf L ka (.lst (jb (ks++ms))) t'.a=none) (j:qf L ka (.lst (jb (ks++ms))) t'.b=none) (p:t'.a≠t'.b) (ok:cG (ks++ms)) (sr:SR (ks++ms) t'.R t'.E) (tm:∀x,x∈qo t'.R↔ks.length<=x/\x<ks.length+ms.length) (nd:(qo t'.R).Nodup):
 bO L0 U ka fa (ks++ms) (rest++[t']):=by
 have keep:∀z o,z≠ka->L z=some o->U z=some o:=λz o n e=>sA _ _ (by rw[q9 n];exact e);refine bO.step (old:=[]) (rest:=rest) (ms:=ms) (t':=t') B (sA _ _ q8) ⟨I,T⟩ (λt r=>?_) (λz o e=>?_) ?_ (λz J=>?_) ok sr ?_
 ·obtain⟨n1,n2,n3,n4⟩:=B.nk t r;obtain⟨h1,h2⟩:=B.ht t r;rw[h1,h2];exact⟨keep _ _ n3 h1,keep _ _ n4 h2⟩
 ·exact keep _ _ (λz=>by rw[z,B.fr ka (by simp)] at e;cases e) (B.sub _ _ e)
 ·have:=uO (L:=qf L ka (.lst (jb (ks++ms)))) B.ad (λz J=>?_) g j p
  ·rw[Ay];simpa[Tr.ads] using this
  ·by_cases c:z=ka
   ·rw[c];exact⟨_,q8⟩
   ·rw[q9 c];rcases Ap.mp J with rfl|J
    ·exact absurd rfl c
    ·rcases Ap.mp J with rfl|J
     ·exact⟨_,C⟩
     ·exact B.exs z J
 ·have J:z=t'.a\/z=t'.b:=by simpa[Tr.ads] using J
  cases e:L0 z with
  |none=>rfl
  |some o=>
   have n:z≠ka:=λz'=>by rw[z',B.fr ka (by simp)] at e;cases e
   have:=B.sub _ _ e;have l:qf L ka (.lst (jb (ks++ms))) z=some o:=by rw[q9 n];exact this
   rcases J with rfl|rfl
   ·rw[g] at l;cases l
   ·rw[j] at l;cases l
 ·rw[C0,AI];exact(A7 nd Dv).mpr λz=>by rw[tm,CQ]
theorem m7.link(F:m7 L0 L ka fa ks fo){nm:Str}(l:df nm)(b:Bool){pb:Addr}(U:qf L ka (.lst (jb (ks++[.lf b nm,.lf (!b) nm]))) pb=none)
 (g:qf (qf L ka (.lst (jb (ks++[.lf b nm,.lf (!b) nm])))) pb (.lst (zf [ks.length,ks.length+1])) pa=none) {fs:List Y} (j:fs=zj fo++[.ref pa]):
 m7 L0 (qf (qf (qf (qf L ka (.lst (jb (ks++[.lf b nm,.lf (!b) nm])))) pb (.lst (zf [ks.length,ks.length+1]))) pa (.lst [qj (.link ks.length (ks.length+1)),.ref pb])) fa (.lst fs)) ka fa (ks++[.lf b nm,.lf (!b) nm]) (fo++[⟨pa,pb,.link ks.length (ks.length+1),[ks.length,ks.length+1]⟩]):=by
 have J:pb≠pa:=v5 q8 g;have M:=ss F.b.ok (t:=!b) l;rw[Bool.not_not] at M;refine⟨(bO.plus F.b F.hf ((By U).trans (By g)) q8 (by rw[q9 J];exact q8) ((By U).none g) U (AB J) M.ok M.sr M.tm M.nd).setF _,?_⟩;rw[q8,j];unfold zj;rw[Aj];rfl
theorem bO.dats(h:bO L0 L ka fa ks fo)(j:ks.length<=120):Paired (jc L 124) (zj fo) (fo.map eY):=by
 have U:∀l:List Tr,(∀t∈l,t∈fo)->Paired (jc L 124) (zj l) (l.map eY):=λl=>by
  induction l with
  |nil=>intro _;exact .nil
  |cons t r g=>
   intro k;have mt:=k t (Ak ..);obtain⟨h1,h2⟩:=h.ht t mt;have:=h.rd mt;exact .cons (oW (n:=122) h1 h2 (by lia)) (g λt J=>k t (Ad _ J))
 exact U fo λt J=>J
theorem vH(fo:List Tr):Da.eqs (fo.map eY) []=decide (fo=[]):=by cases fo<;>rfl
def TW(L0:qm)(ka fa:Addr)(s:Int)(room:Nat)(τ:jq)(L:qm):Prop:=∃c0 c5 c6 c7 c8 c9 eO ks fo,τ=[c0,some (.int s),some (.int (room:Int)),some (.ref ka),some (.ref fa),c5,c6,c7,c8,c9,eO]/\m7 L0 L ka fa ks fo/\ks.length+fo.length<=room
theorem TW.of{s:Int}{room:Nat}{c0 c5 c6 c7 c8 c9 eO:Option Y}(F:m7 L0 L ka fa ks fo)(h:ks.length+fo.length<=room):TW L0 ka fa s room [c0,some (.int s),some (.int (room:Int)),some (.ref ka),some (.ref fa),c5,c6,c7,c8,c9,eO] L:=⟨_,_,_,_,_,_,_,ks,fo,rfl,F,h⟩
structure aih(L0:qm)(ks:List (Option Kn))(qs:List Nat)(d w D:Addr)(i ex:Nat)(f:Nat->Nat)(wd:List (Option Kn))(kvs:List (jg×Y))(L:qm):Prop where
 sub:qg L0 L
 hd:L d=some (.dct kvs)
 hw:L w=some (.lst (cH wd))
 hD:L D=some (.lst (nY qs))
 len:kvs.length<=i
 val:∀p:Nat,kg kvs (.inl (p:Int))=if p∈qs.take i then some (.int (f p:Int)) else none
 gap:Gap ks (qs.take i) f wd
 wlen:wd.length<=2*i+ex
structure Ren(f:Nat->Nat)(ks wd:List (Option Kn)):Prop where
 gap:Gap ks (List.range ks.length) f wd
 len:wd.length<=2*ks.length+1
theorem sg(wd:List (Option Kn))(k:Option Kn):cH wd++[uo k]=cH (wd++[k]):=by unfold cH;rw[Aj];rfl
def vz:Ru->List (Nat×Nat)
 |.link p q=>[(p,q)]
 |.ei _ A=>vz A
 |.bo _ A B=>vz A++vz B
 |.cu _ _ A B=>vz A++vz B
def jm:Ru->List (Nat×Nat)
 |.link _ _=>[]
 |.ei _ A=>jm A
 |.bo _ A B=>jm A++jm B
 |.cu p q A B=>(p,q)::(jm A++jm B)
def vf:Ru->Nat
 |.link _ _=>1
 |.ei _ A=>vf A+1
 |.bo _ A B=>vf A+vf B+1
 |.cu _ _ A B=>vf A+vf B+1
def qk:Ru->List Ru
 |.link _ _=>[]
 |.ei _ A=>[A]
 |.bo _ A B=>[A,B]
 |.cu _ _ A B=>[A,B]
def sN:Ru->List (Nat×Nat)
 |.link p q=>[(p,q)]
 |_=>[]
def rA:Ru->List (Nat×Nat)
 |.cu p q _ _=>[(p,q)]
 |_=>[]
theorem uK(A:Ru):vz A=sN A++(qk A).flatMap vz:=by cases A<;>simp[vz,sN,qk]
theorem xV(A:Ru):jm A=rA A++(qk A).flatMap jm:=by cases A<;>simp[jm,rA,qk]
theorem ff(A:Ru):((qk A).map vf).sum+1=vf A:=by cases A<;>simp[vf,qk]
theorem gA(A:Ru):0<vf A:=by cases A<;>simp[vf]
theorem vj{A:Ru}(h:B∈qk A):ja B<ja A:=by cases A<;>simp[qk] at h<;>(try rcases h with rfl|rfl)<;>(try subst h)<;>simp[ja]<;>omega
structure iS(R:Ru)(lk ct:List (Nat×Nat))(st:List Ru):Prop where
 pl:(lk++st.flatMap vz).Perm (vz R)
 pc:(ct++st.flatMap jm).Perm (jm R)
 sz:(st.map vf).sum<=vf R
 dp:∀A∈st,ja A<=ja R
theorem iS.start(R:Ru):iS R [] [] [R]:=⟨by simp,by simp,by simp,λA J=>by simp at J;subst J;exact Al _⟩
theorem iS.step{A:Ru}{lk ct:List (Nat×Nat)}{st:List Ru}(h:iS R lk ct (st++[A])):iS R (lk++sN A) (ct++rA A) (st++qk A):=by
 have pm:∀{X U V W:List (Nat×Nat)},(X++U++(V++W)).Perm (X++(V++(U++W))):=λ{X U V W}=>by rw[AH];refine List.Perm.append_left X ?_;rw[<-AH,<-AH];exact List.Perm.append_right W List.perm_append_comm
 refine⟨?_,?_,?_,λB J=>?_⟩
 ·refine List.Perm.trans ?_ h.pl;rw[Ay,Ay];have:[A].flatMap vz=sN A++(qk A).flatMap vz:=by rw[<-uK];simp
  rw[this];exact pm
 ·refine List.Perm.trans ?_ h.pc;rw[Ay,Ay];have:[A].flatMap jm=rA A++(qk A).flatMap jm:=by rw[<-xV];simp
  rw[this];exact pm
 ·have:=h.sz;have:=ff A;simp at *;lia
 ·rcases Ar.mp J with J|J
  ·exact h.dp B (Aq _ J)
  ·have:=vj J;have:=h.dp A (Ah _ (Ai.mpr rfl));exact amk
theorem oV(l:List (Nat×Nat))(p:Nat×Nat):kZ l++[prN p]=kZ (l++[p]):=by unfold kZ;rw[Aj];rfl
theorem kE(st:List Ru):Da.eqs (st.map bA) []=decide (st=[]):=by cases st<;>rfl
theorem cK{L:qm}{n:Nat}:∀{st:List Ru},(∀A∈st,ja A<=n)->Paired (jc L n) (st.map qj) (st.map bA)
 |[],_=>.nil
 |A::r,h=>.cons (bG (h A (Ak ..))) (cK λB J=>h B (Ad _ J))
theorem aez(a b:Nat):decide ((a:Int)=(b:Int))=decide (a=b):=by
 by_cases c:a=b
 ·rw[AG c];exact AG (by lia)
 ·rw[Au c];exact Au (by lia)
open Classical in
def aQ(lk:List (Nat×Nat)):List Nat:=lk.flatMap λx=>[x.1,x.2]
theorem dX(a b:List (Nat×Nat)):aQ (a++b)=aQ a++aQ b:=by unfold aQ;rw[Ay]
theorem aci(x:Nat×Nat):aQ [x]=[x.1,x.2]:=by simp[aQ]
theorem ali{f:Option Kn->Bool}{ks:List (Option Kn)}{p:Nat}{k:Option Kn}(h:ks[p]?=some k)(J:f k=true)(hi:p<i):p∈whr f ks i:=by unfold whr;refine AU.mpr ⟨A6.mpr hi,?_⟩;simp only[h];exact J
theorem ix{α β:Type}{R:α->β->Prop}:∀{xs:List α} {ys:List β} {x:α} {y:β},Paired R xs ys->R x y->Paired R (xs++[x]) (ys++[y])
 |_,_,_,_,.nil,r=>.cons r .nil
 |_,_,_,_,.cons a t,r=>.cons a (ix t r)
theorem pB(m:Nat)(l:List Nat):uY (fW (.int (m:Int))) ((nY l).map fW)=decide (m∈l):=by
 induction l with
 |nil=>rfl
 |cons n r J=>
  have e:uY (fW (.int (m:Int))) ((nY (n::r)).map fW)=(ij (fW (.int (n:Int))) (fW (.int (m:Int)))||uY (fW (.int (m:Int))) ((nY r).map fW)):=rfl;rw[e,J];have U:ij (fW (.int (n:Int))) (fW (.int (m:Int)))=decide (n=m):=aez n m;rw[U];by_cases c:n=m
  ·subst c;simp
  ·by_cases d:m∈r
   ·simp[d]
   ·simp[c,d,AB c]
theorem ox(l:List Nat):(nY l).all fH=true:=by rw[BH];intro y J;obtain⟨n,_,rfl⟩:=AS.mp J;rfl
theorem oS(c:Nat×Nat)(r:List (Nat×Nat)):aQ (c::r)=c.1::c.2::aQ r:=by
 have e:aQ (c::r)=[c.1,c.2]++aQ r:=by rw[<-aci,<-dX];rfl
 rw[e];rfl
theorem we:∀R:Ru,vf R+1<=(qo R).length
 |.link _ _=>Al _
 |.ei r A=>by have:=we A;show vf A+1+1<=(r::qo A).length;rw[AL];exact aiy
 |.bo r A B=>by have:=we A;have:=we B;show vf A+vf B+1+1<=(r::(qo A++qo B)).length;rw[AL,Ac];lia
 |.cu _ _ A B=>by have:=we A;have:=we B;show vf A+vf B+1+1<=(qo A++qo B).length;rw[Ac];lia
theorem abd(ok:cG ks):OkO (ks.map some):=by intro p e i j h;rw[An] at h;obtain⟨k,J,U⟩:=Am.mp h;cases U;exact ok p _ J
theorem aV(ks:List Kn):cH (ks.map some)=jb ks:=by show(ks.map some).map uo=ks.map l5;rw[BA];rfl
theorem KW.lf{p:Nat}{n:Str}(h:wd[p]?=some (some (.lf t n))):KW (cH wd) p (.leaf t n):=by show(cH wd)[p]?=_;rw[An,h];rfl
theorem KW.nd{p:Nat}{e:Bool}{l r:Wd}(h:wd[p]?=some (some (.nd e i j)))(J:KW (cH wd) i l)(U:KW (cH wd) j r):KW (cH wd) p (.node e l r):=
 ⟨i,j,by rw[An,h];rfl,J,U⟩
theorem xP{k:Kn}{n:Str}(h:l5 k=.tup [.str (kL t),.str n]):k=.lf t n:=by
 cases k with
 |lf u m=>
  have h1:kL u=kL t:=by injection h with h;injection h with h _;injection h
  have h2:m=n:=by injection h with h;injection h with _ h;injection h with h _;injection h
  subst h2;cases u<;>cases t<;>first|rfl|(exfalso;revert h1;decide)
 |nd e i j=>injection h with h;injection h with _ h;injection h with _ h;cases h
theorem yE{k:Kn}{e:Bool}(h:l5 k=.tup [.str (kN e),.int (i:Int),.int (j:Int)]):k=.nd e i j:=by
 cases k with
 |lf u m=>injection h with h;injection h with _ h;injection h with _ h;cases h
 |nd b J U=>
  have h1:kN b=kN e:=by injection h with h;injection h with h _;injection h
  have h2:((J:Nat):Int)=i:=by injection h with h;injection h with _ h;injection h with h _;injection h
  have h3:((U:Nat):Int)=j:=by injection h with h;injection h with _ h;injection h with _ h;injection h with h _;injection h
  have h2:=DA.mp h2;have h3:=DA.mp h3;subst h2 h3;cases b<;>cases e<;>first|rfl|(exfalso;revert h1;decide)
theorem ach{p:Nat}(h:(cH wd)[p]?=some y):∃o,wd[p]?=some o/\uo o=y:=by rw[An] at h;obtain⟨o,a,b⟩:=Am.mp h;exact⟨o,a,b⟩
theorem KW.inv_lf{p:Nat}{n:Str}(h:KW (cH wd) p (.leaf t n)):wd[p]?=some (some (.lf t n)):=by
 obtain⟨o,a,b⟩:=ach (show(cH wd)[p]?=some (.tup [.str (kL t),.str n]) from h);cases o with
 |none=>cases b
 |some k=>rw[a,xP b]
theorem KW.inv_nd{p:Nat}{e:Bool}{l r:Wd}(h:KW (cH wd) p (.node e l r)):∃i j,wd[p]?=some (some (.nd e i j))/\KW (cH wd) i l/\KW (cH wd) j r:=by
 obtain⟨i,j,h1,h2,h3⟩:=h;obtain⟨o,a,b⟩:=ach h1;cases o with
 |none=>cases b
 |some k=>exact⟨i,j,by rw[a,yE b],h2,h3⟩
theorem Ren.inv{f:Nat->Nat}(r:Ren f sx wd){x:Nat}{k:Kn}(h:wd[x]?=some (some k)):∃p,p<sx.length/\x=f p/\∃o,sx[p]?=some o/\hZ f o=some k:=by obtain⟨p,J,e⟩:=r.gap.only x k h;have J:=A6.mp J;have:=r.gap.at_ p (A6.mpr J) _ (Ae J);rw[<-e,h] at this;exact⟨p,J,e,_,Ae J,(AV this).symm⟩
theorem Ren.word{f:Nat->Nat}(r:Ren f sx wd):∀{w:Wd} {p:Nat},KW (cH sx) p w->KW (cH wd) (f p) w
 |.leaf t n,p,h=>by have e:=h.inv_lf;exact KW.lf (r.gap.at_ p (A6.mpr (jv e)) _ e)
 |.node b l rr,p,h=>by obtain⟨i,j,e,J,U⟩:=h.inv_nd;exact KW.nd (r.gap.at_ p (A6.mpr (jv e)) _ e) (r.word J) (r.word U)
def gn(ks:List Kn)(l:List Nat):List Nat:=l.flatMap λp=>km ks[p]?
theorem jS(ks:List Kn)(a b:List Nat):gn ks (a++b)=gn ks a++gn ks b:=by unfold gn;rw[Ay]
theorem aR(ks:List Kn)(x:Nat)(l:List Nat):gn ks (x::l)=km ks[x]?++gn ks l:=AR ..
theorem bR{E:List Nat}(h:E.Nodup)(hi:i∈E):E.Perm ([i]++E.filter λx=>!decide (x=i)):=by
 refine(A7 h ?_).mpr λx=>?_
 ·refine AC.mpr ⟨λz=>?_,h.filter _⟩;have:=(AU.mp z).2;simp at this
 ·rw[Ar,Ai,AU];constructor
  ·intro J;by_cases c:x=i
   ·exact .inl c
   ·exact .inr ⟨J,by simp[c]⟩
  ·rintro(rfl|J)
   ·exact hi
   ·exact J.1
theorem SR.part{E:List Nat}(h:SR ks R E):(qo R).Nodup->(gn ks (qo R)++(aQ (jm R)++E)).Perm (qo R):=by
 induction h with
 |@link p q t n g h1 h2 h3 C I=>
  intro _;have e:gn ks [p,q]=[]:=by rw[aR,aR,h2,h3];rfl
  show(gn ks [p,q]++([]++g)).Perm [p,q];rw[e,Ci,Ci];refine(A7 I (by simp;lia)).mpr λx=>?_;rw[C x];simp
 |@ei r i j A l g h1 T h3 C I h6 h7 ih=>
  intro nd;obtain⟨n1,n2⟩:=AC.mp nd;have ih:=ih n2;have o:l.Nodup:=(Az.mp (Az.mp (ih.nodup_iff.mpr n2)).2.1).2.1;have p1:=bR o h3;have p2:(l.filter λx=>!decide (x=i)).Perm _:=bR (o.filter _) (i:=j) (AU.mpr ⟨C,by simp;exact AB I⟩);have p3:g.Perm ([r]++(l.filter λx=>!decide (x=i)).filter λx=>!decide (x=j)):=by
   refine(A7 h7 (AC.mpr ⟨λz=>n1 (T.sub _ (AU.mp (AU.mp z).1).1),(o.filter _).filter _⟩)).mpr λx=>?_;rw[h6 x,Ap,AU,AU];simp only[Cq,decide_eq_false_iff_not];constructor
   ·rintro(⟨a,b,c⟩|rfl)
    ·exact .inr ⟨⟨a,b⟩,c⟩
    ·exact .inl rfl
   ·rintro(rfl|⟨⟨a,b⟩,c⟩)
    ·exact .inr rfl
    ·exact .inl ⟨a,b,c⟩
  show(gn ks (r::qo A)++(aQ (jm A)++g)).Perm ([r]++qo A);rw[aR,h1];show((([i]++[j])++gn ks (qo A))++(aQ (jm A)++g)).Perm _;refine BD.mpr λa=>?_;have c1:=p1.count_eq a;have c2:=p2.count_eq a;have c3:=p3.count_eq a;have c4:=ih.count_eq a;simp only[BM] at c1 c2 c3 c4 ⊢;lia
 |@bo r i j A B l EB g h1 T hB C I h6 h7 J U=>
  intro nd;obtain⟨n1,n2⟩:=AC.mp nd;obtain⟨m1,m2,m3⟩:=Az.mp n2;have J:=J m1;have U:=U m2;have o:l.Nodup:=(Az.mp (Az.mp (J.nodup_iff.mpr m1)).2.1).2.1;have nB:EB.Nodup:=(Az.mp (Az.mp (U.nodup_iff.mpr m2)).2.1).2.1;have p1:=bR o C;have p2:=bR nB I;have p3:g.Perm ([r]++((l.filter λx=>!decide (x=i))++EB.filter λx=>!decide (x=j))):=by
   refine(A7 h7 (AC.mpr ⟨λz=>n1 ?_,Az.mpr ⟨o.filter _,nB.filter _,λa ha b hb=>m3 a (T.sub _ (AU.mp ha).1) b (hB.sub _ (AU.mp hb).1)⟩⟩)).mpr λx=>?_
   ·rcases Ar.mp z with z|z
    ·exact Aq _ (T.sub _ (AU.mp z).1)
    ·exact Ah _ (hB.sub _ (AU.mp z).1)
   ·rw[h6 x,Ap,Ar,AU,AU];simp only[Cq,decide_eq_false_iff_not];constructor
    ·rintro(a|a|rfl)
     ·exact .inr (.inl a)
     ·exact .inr (.inr a)
     ·exact .inl rfl
    ·rintro(rfl|a|a)
     ·exact .inr (.inr rfl)
     ·exact .inl a
     ·exact .inr (.inl a)
  show(gn ks (r::(qo A++qo B))++(aQ (jm A++jm B)++g)).Perm ([r]++(qo A++qo B));rw[aR,h1,jS,dX];show((([i]++[j])++(gn ks (qo A)++gn ks (qo B)))++((aQ (jm A)++aQ (jm B))++g)).Perm _;refine BD.mpr λa=>?_;have c1:=p1.count_eq a;have c2:=p2.count_eq a;have c3:=p3.count_eq a;have c4:=J.count_eq a;have c5:=U.count_eq a;simp only[BM] at c1 c2 c3 c4 c5 ⊢;lia
 |@cu p q A B l EB g w T hB h3 C I h6 h7 h8 J U=>
  intro n2;obtain⟨m1,m2,m3⟩:=Az.mp (show(qo A++qo B).Nodup from n2);have J:=J m1;have U:=U m2;have o:l.Nodup:=(Az.mp (Az.mp (J.nodup_iff.mpr m1)).2.1).2.1;have nB:EB.Nodup:=(Az.mp (Az.mp (U.nodup_iff.mpr m2)).2.1).2.1;have p1:=bR o h3;have p2:=bR nB C;have p3:g.Perm ((l.filter λx=>!decide (x=p))++EB.filter λx=>!decide (x=q)):=by refine(A7 h8 (Az.mpr ⟨o.filter _,nB.filter _,λa ha b hb=>m3 a (T.sub _ (AU.mp ha).1) b (hB.sub _ (AU.mp hb).1)⟩)).mpr λx=>?_;rw[h7 x,Ar,AU,AU];simp only[Cq,decide_eq_false_iff_not]
  show(gn ks (qo A++qo B)++(aQ ((p,q)::(jm A++jm B))++g)).Perm (qo A++qo B);rw[jS,oS,dX];show((gn ks (qo A)++gn ks (qo B))++(([p]++[q]++(aQ (jm A)++aQ (jm B)))++g)).Perm _;refine BD.mpr λa=>?_;have c1:=p1.count_eq a;have c2:=p2.count_eq a;have c3:=p3.count_eq a;have c4:=J.count_eq a;have c5:=U.count_eq a;simp only[BM] at c1 c2 c3 c4 c5 ⊢;lia
theorem Ren.inj{f:Nat->Nat}(r:Ren f sx wd){a b:Nat}(J:a<sx.length)(U:b<sx.length)(e:f a=f b):a=b:=r.gap.inj a (A6.mpr J) b (A6.mpr U) e
theorem hV{f:Nat->Nat}:∀{l:List Nat},l.Nodup->(∀a∈l,∀b∈l,f a=f b->a=b)->(l.map f).Nodup
 |[],_,_=>List.nodup_nil
 |a::r,h,g=>by obtain⟨h1,h2⟩:=AC.mp h;rw[AO,AC];refine⟨λz=>?_,hV h2 λx U y j=>g x (Ad _ U) y (Ad _ j)⟩;obtain⟨b,J,e⟩:=AS.mp z;exact h1 (g b (Ad _ J) a (Ak ..) e▸J)
def mn(f:Nat->Nat):Ru->Ru
 |.link p q=>.link (min (f p) (f q)) (max (f p) (f q))
 |.ei r A=>.ei (f r) (mn f A)
 |.bo r A B=>.bo (f r) (mn f A) (mn f B)
 |.cu p q A B=>.cu (f p) (f q) (mn f A) (mn f B)
theorem cj(f:Nat->Nat):∀R:Ru,(qo (mn f R)).Perm ((qo R).map f)
 |.link p q=>by
  show [min (f p) (f q),max (f p) (f q)].Perm [f p,f q];by_cases h:f p<=f q
  ·rw[BX h,CW h]
  ·rw[DD (by lia),C7 (by lia)];exact List.Perm.swap _ _ _
 |.ei r A=>(cj f A).cons _
 |.bo r A B=>by show(f r::(qo (mn f A)++qo (mn f B))).Perm (f r::(qo A++qo B).map f);rw[Aj];exact((cj f A).append (cj f B)).cons _
 |.cu p q A B=>by show(qo (mn f A)++qo (mn f B)).Perm ((qo A++qo B).map f);rw[Aj];exact(cj f A).append (cj f B)
theorem og{x:Nat}{k:Kn}(h:(ks.map some)[x]?=some (some k)):ks[x]?=some k:=by rw[An] at h;obtain⟨J,e,z⟩:=Am.mp h;cases z;exact e
theorem SR.ren{f:Nat->Nat}(r:Ren f (ks.map some) (kt.map some)){E:List Nat}(h:SR ks R E):SR kt (mn f R) (E.map f):=by
 have inj:∀{a b:Nat},a<ks.length->b<ks.length->f a=f b->a=b:=λha hb e=>r.inj (by rw[Ab];exact ha) (by rw[Ab];exact hb) e;have a3:∀{p:Nat} {k:Kn},ks[p]?=some k->(kt.map some)[f p]?=some (hZ f (some k)):=λ{p k} e=>r.gap.at_ p (A6.mpr (by rw[Ab];exact jv e)) _ (by rw[An,e];rfl)
 have lf:∀{p:Nat} {t:Bool} {n:Str},ks[p]?=some (.lf t n)->kt[f p]?=some (.lf t n):=λe=>og (a3 e);have nd:∀{p i j:Nat} {e:Bool},ks[p]?=some (.nd e i j)->kt[f p]?=some (.nd e (f i) (f j)):=λe=>og (a3 e);have el:∀{A:Ru} {g:List Nat},SR ks A g->∀x∈g,x<ks.length:=λs x l=>s.lt x (s.sub x l);have nod:∀{A:Ru} {g:List Nat},SR ks A g->(g.map f).Nodup:=λs=>hV s.nod λa ha b hb=>inj (el s a ha) (el s b hb);have wd:∀{p:Nat} {w:Wd},cq ks p w->cq kt (f p) w:=λ{p w} hw=>by have:=r.word (w:=w) (p:=p) (by rw[aV];exact hw);rw[aV] at this;exact this
 have rm:∀{A:Ru} {g:List Nat} {i y:Nat},SR ks A g->i∈g->y∈g->y≠i->f y≠f i:=λs hi I ne z=>ne (inj (el s _ I) (el s _ hi) z)
 induction h with
 |@link p q t n E h1 h2 h3 J o=>
  have s:SR ks (.link p q) E:=.link h1 h2 h3 J o;have ne:f p≠f q:=λz=>by have:=inj (jv h2) (jv h3) z;lia
  have me:∀x,x∈E.map f↔x=f p\/x=f q:=λx=>by
   rw[AS];constructor
   ·rintro⟨y,I,rfl⟩;rcases (J y).mp I with rfl|rfl
    ·exact .inl rfl
    ·exact .inr rfl
   ·rintro(rfl|rfl)
    ·exact⟨p,(J p).mpr (.inl rfl),rfl⟩
    ·exact⟨q,(J q).mpr (.inr rfl),rfl⟩
  show SR kt (.link (min (f p) (f q)) (max (f p) (f q))) _;by_cases c:f p<=f q
  ·rw[BX c,CW c];exact .link (by lia) (lf h2) (lf h3) me (nod s)
  ·rw[DD (by lia),C7 (by lia)];exact .link (by lia) (lf h3) (by rw[Bool.not_not];exact lf h2) (λx=>(me x).trans Or.comm) (nod s)
 |@ei r i j A g E h1 C h3 J o U T ih=>
  have s:SR ks (.ei r A) E:=.ei h1 C h3 J o U T;refine .ei (nd h1) ih (AS.mpr ⟨i,h3,rfl⟩) (AS.mpr ⟨j,J,rfl⟩) (rm C J h3 o) (λx=>?_) (nod s);rw[AS];constructor
  ·rintro⟨y,I,rfl⟩;rcases (U y).mp I with⟨a,b,c⟩|rfl
   ·exact .inl ⟨AS.mpr ⟨y,a,rfl⟩,rm C h3 a b,rm C J a c⟩
   ·exact .inr rfl
  ·rintro(⟨l,b,c⟩|rfl)
   ·obtain⟨y,a,rfl⟩:=AS.mp l;exact⟨y,(U y).mpr (.inl ⟨a,λz=>b (by rw[z]),λz=>c (by rw[z])⟩),rfl⟩
   ·exact⟨r,(U r).mpr (.inr rfl),rfl⟩
 |@bo r i j A B g EB E h1 C hB J o U T a1 a2=>
  have s:SR ks (.bo r A B) E:=.bo h1 C hB J o U T;refine .bo (nd h1) a1 a2 (AS.mpr ⟨i,J,rfl⟩) (AS.mpr ⟨j,o,rfl⟩) (λx=>?_) (nod s);rw[AS];constructor
  ·rintro⟨y,I,rfl⟩;rcases (U y).mp I with⟨a,b⟩|⟨a,b⟩|rfl
   ·exact .inl ⟨AS.mpr ⟨y,a,rfl⟩,rm C J a b⟩
   ·exact .inr (.inl ⟨AS.mpr ⟨y,a,rfl⟩,rm hB o a b⟩)
   ·exact .inr (.inr rfl)
  ·rintro(⟨l,b⟩|⟨l,b⟩|rfl)
   ·obtain⟨y,a,rfl⟩:=AS.mp l;exact⟨y,(U y).mpr (.inl ⟨a,λz=>b (by rw[z])⟩),rfl⟩
   ·obtain⟨y,a,rfl⟩:=AS.mp l;exact⟨y,(U y).mpr (.inr (.inl ⟨a,λz=>b (by rw[z])⟩)),rfl⟩
   ·exact⟨r,(U r).mpr (.inr (.inr rfl)),rfl⟩
 |@cu p q A B g EB E w C hB h3 J o U T h8 a1 a2=>
  have s:SR ks (.cu p q A B) E:=.cu C hB h3 J o U T h8;refine .cu a1 a2 (AS.mpr ⟨p,h3,rfl⟩) (AS.mpr ⟨q,J,rfl⟩) (wd o) (wd U) (λx=>?_) (nod s);rw[AS];constructor
  ·rintro⟨y,I,rfl⟩;rcases (T y).mp I with⟨a,b⟩|⟨a,b⟩
   ·exact .inl ⟨AS.mpr ⟨y,a,rfl⟩,rm C h3 a b⟩
   ·exact .inr ⟨AS.mpr ⟨y,a,rfl⟩,rm hB J a b⟩
  ·rintro(⟨l,b⟩|⟨l,b⟩)
   ·obtain⟨y,a,rfl⟩:=AS.mp l;exact⟨y,(T y).mpr (.inl ⟨a,λz=>b (by rw[z])⟩),rfl⟩
   ·obtain⟨y,a,rfl⟩:=AS.mp l;exact⟨y,(T y).mpr (.inr ⟨a,λz=>b (by rw[z])⟩),rfl⟩
theorem aky{f:Nat->Nat}(ok:cG ks)(r:Ren f (ks.map some) (kt.map some)):cG kt:=λp k e=>by
 have U:(kt.map some)[p]?=some (some k):=by rw[An,e];rfl
 obtain⟨y,l,rfl,o,g,J⟩:=r.inv U;cases k with
 |nd b i j=>exact r.gap.ok _ b i j U
 |lf t n=>
  cases o with
  |none=>cases J
  |some o=>
   cases o with
   |nd b i j=>cases J
   |lf C I=>
    cases J;exact ok y _ (og g)
structure TrO(ks:List Kn)(R:Ru)(E:List Nat):Prop where
 ok:cG ks
 sr:SR ks R E
 nd:(qo R).Nodup
 len:ks.length<=96
theorem TrO.ren{f:Nat->Nat}{E:List Nat}(ok:cG ks)(J:SR ks R E)(tp:(qo R).Perm (List.range ks.length))(o:ks.length<=96)(r:Ren f (ks.map some) (kt.map some))(l:kt.length=ks.length):TrO kt (mn f R) (E.map f)/\(qo (mn f R)).Perm (List.range kt.length):=by have S:=J.ren r;have nd:(qo (mn f R)).Nodup:=(cj f R).nodup_iff.mpr (hV (tp.nodup_iff.mpr Cb) λa g b j e=>r.inj (by rw[Ab];exact J.lt a g) (by rw[Ab];exact J.lt b j) e);refine⟨⟨aky ok r,S,nd,by lia⟩,(A7 nd Cb).mpr λx=>⟨λh=>A6.mpr (S.lt x h),λh=>?_⟩⟩;have h:=A6.mp h;obtain⟨y,U,e⟩:=r.gap.only x kt[x] (by rw[An,Ae h];rfl);rw[Ab] at U;exact(cj f R).mem_iff.mpr (AS.mpr ⟨y,tp.mem_iff.mpr U,e.symm⟩)
def bE:Ru->List Nat
 |.link p q=>[p,q]
 |.ei r _=>[r]
 |.bo r _ _=>[r]
 |.cu _ _ _ _=>[]
theorem eF(A:Ru):qo A=bE A++(qk A).flatMap qo:=by cases A<;>simp[qo,bE,qk]
def xg:Ru->List Ru
 |.link p q=>[.link p q]
 |.ei r A=>.ei r A::xg A
 |.bo r A B=>.bo r A B::(xg A++xg B)
 |.cu p q A B=>.cu p q A B::(xg A++xg B)
theorem aH(A:Ru):xg A=A::(qk A).flatMap xg:=by cases A<;>simp[xg,qk]
theorem bJ:∀A:Ru,(xg A).length=vf A
 |.link _ _=>rfl
 |.ei _ A=>by show(xg A).length+1=_;rw[bJ A];rfl
 |.bo _ A B=>by show(xg A++xg B).length+1=_;rw[Ac,bJ A,bJ B];rfl
 |.cu _ _ A B=>by show(xg A++xg B).length+1=_;rw[Ac,bJ A,bJ B];rfl
def vn(ks:List Kn):Ru->List (List Nat)
 |.link _ _=>[]
 |.ei r _=>[km ks[r]?]
 |.bo r _ _=>(km ks[r]?).map λx=>[x]
 |.cu p q _ _=>[[p],[q]]
def aoi(ks:List Kn)(B:Ru)(t:List Nat):Prop:=∃J,SR ks B J/\∀x∈t,x∈J
theorem SR.arms{E:List Nat}(h:SR ks R E):Paired (aoi ks) (qk R) (vn ks R):=by
 cases h with
 |link=>exact .nil
 |@ei r i j A U _ h1 g h3 l=>
  show Paired _ [A] [km ks[r]?];rw[h1];refine .cons ⟨U,g,λx J=>?_⟩ .nil;have J:x∈[i,j]:=J;rcases Ap.mp J with rfl|J
  ·exact h3
  ·rw[Ai.mp J];exact l
 |@bo r i j A B U o _ h1 g t l C=>
  show Paired _ [A,B] ((km ks[r]?).map λx=>[x]);rw[h1];exact .cons ⟨U,g,λx J=>by rw[Ai.mp J];exact l⟩ (.cons ⟨o,t,λx J=>by rw[Ai.mp J];exact C⟩ .nil)
 |@cu p q A B U o _ w g t h3 l=>
  exact .cons ⟨U,g,λx J=>by rw[Ai.mp J];exact h3⟩ (.cons ⟨o,t,λx J=>by rw[Ai.mp J];exact l⟩ .nil)
end L3
namespace TS
open PySem PyProof.Rows PySem.W
section
variable {w:World}
end
end TS
namespace L2
open PySem PySem.Spec PyProof.Rows
end L2
namespace L3
open PySem L2
open PySem L2 Words
theorem agp(l:List Nat):nY l=(l.map λn:Nat=>(n:Int)).map Y.int:=by unfold nY;rw[BA];rfl
theorem oE{L:qm}:∀xs:List Int,Paired (jc L 0) (xs.map Y.int) (xs.map λx=>Da.s (.int x))
 |[]=>.nil
 |_::r=>.cons ⟨rfl,rfl⟩ (oE r)
def sj(ks:List Kn)(T:List Nat):List (Option Kn):=(List.range ks.length).map λp=>if p∈T then ks[p]? else none
theorem eL(ks:List Kn)(T:List Nat):(sj ks T).length=ks.length:=by unfold sj;rw[Ab,Bw]
theorem uQ{T:List Nat}{p:Nat}(J:p<ks.length):(sj ks T)[p]?=some (if p∈T then ks[p]? else none):=by unfold sj;rw[An,C8 J];rfl
theorem aat{T:List Nat}{p:Nat}{k:Kn}(U:p∈T)(J:ks[p]?=some k):(sj ks T)[p]?=some (some k):=by rw[uQ (jv J),AD U,J]
theorem ahc{T:List Nat}{p:Nat}{k:Kn}(h:(sj ks T)[p]?=some (some k)):p∈T/\ks[p]?=some k:=by
 have J:p<ks.length:=by rw[<-eL ks T];exact jv h
 rw[uQ J] at h;by_cases c:p∈T
 ·rw[AD c] at h;exact⟨c,AV h⟩
 ·rw[AE c] at h;cases h
section
variable {E:List Nat}
theorem SR.rls(h:SR ks R E):∀B∈xg R,(∃EB,SR ks B EB)/\(∀x∈qo B,x∈qo R)/\(qo B).Sublist (qo R)/\ja B<=ja R/\(∀c∈jm B,c∈jm R):=by
 induction h with
 |link h1 h2 h3 g l=>
  intro B U;cases Ai.mp U;exact⟨⟨_,.link h1 h2 h3 g l⟩,λ_ h=>h,CS _,Al _,λ_ h=>h⟩
 |@ei r i j A EA E h1 I h3 g l T h7 ih=>
  intro B U;rcases Ap.mp U with rfl|U
  ·exact⟨⟨_,.ei h1 I h3 g l T h7⟩,λ_ h=>h,CS _,Al _,λ_ h=>h⟩
  ·obtain⟨a,b,c,d,e⟩:=ih B U;exact⟨a,λx h=>Ad _ (b x h),c.cons _,B1 d,e⟩
 |@bo r i j A B EA EB E h1 I U g l T h7 o t=>
  intro C J;rcases Ap.mp J with rfl|J
  ·exact⟨⟨_,.bo h1 I U g l T h7⟩,λ_ h=>h,CS _,Al _,λ_ h=>h⟩
  ·rcases Ar.mp J with J|J
   ·obtain⟨a,b,c,d,e⟩:=o C J;exact⟨a,λx h=>Ad _ (Aq _ (b x h)),(c.trans (CB ..)).cons _,by show _<=max (ja A) (ja B)+1;lia,λx h=>Aq _ (e x h)⟩
   ·obtain⟨a,b,c,d,e⟩:=t C J;exact⟨a,λx h=>Ad _ (Ah _ (b x h)),(c.trans (BV ..)).cons _,by show _<=max (ja A) (ja B)+1;lia,λx h=>Ah _ (e x h)⟩
 |@cu p q A B EA EB E w I U h3 g l T h7 h8 o t=>
  intro C J;rcases Ap.mp J with rfl|J
  ·exact⟨⟨_,.cu I U h3 g l T h7 h8⟩,λ_ h=>h,CS _,Al _,λ_ h=>h⟩
  ·rcases Ar.mp J with J|J
   ·obtain⟨a,b,c,d,e⟩:=o C J;exact⟨a,λx h=>Aq _ (b x h),c.trans (CB ..),by show _<=max (ja A) (ja B)+1;lia,λx h=>Ad _ (Aq _ (e x h))⟩
   ·obtain⟨a,b,c,d,e⟩:=t C J;exact⟨a,λx h=>Ah _ (b x h),c.trans (BV ..),by show _<=max (ja A) (ja B)+1;lia,λx h=>Ad _ (Ah _ (e x h))⟩
theorem TrO.inner(T:TrO ks R E)(h:B∈xg R):∃J,TrO ks B J:=by obtain⟨⟨J,s⟩,_,sub,_⟩:=T.sr.rls B h;exact⟨J,T.ok,s,sub.nodup T.nd,T.len⟩
theorem aN:∀{R A B:Ru},A∈xg R->B∈xg A->B∈xg R
 |.link p q,A,B,h1,h2=>by cases Ai.mp h1;exact h2
 |.ei r C,A,B,h1,h2=>by
  rcases Ap.mp h1 with rfl|h1
  ·exact h2
  ·exact Ad _ (aN h1 h2)
 |.bo r C D,A,B,h1,h2=>by
  rcases Ap.mp h1 with rfl|h1
  ·exact h2
  ·rcases Ar.mp h1 with h1|h1
   ·exact Ad _ (Aq _ (aN h1 h2))
   ·exact Ad _ (Ah _ (aN h1 h2))
 |.cu p q C D,A,B,h1,h2=>by
  rcases Ap.mp h1 with rfl|h1
  ·exact h2
  ·rcases Ar.mp h1 with h1|h1
   ·exact Ad _ (Aq _ (aN h1 h2))
   ·exact Ad _ (Ah _ (aN h1 h2))
theorem dY(A:Ru):A∈xg A:=by rw[aH];exact Ak ..
theorem uu{A:Ru}(h:B∈qk A):B∈xg A:=by rw[aH];exact Ad _ (A2.mpr ⟨B,h,dY B⟩)
end
open PySem L2 PyProof.Rows
end L3
namespace L2
open PySem PySem.Spec PyProof.Rows
theorem ac6(neg:Bool)(p:X.A.units+128<cLine):vq X (compareOp (if neg then .NotIn else .In)) (λx y H Q=>∃a kvs k,y=.ref a/\H a=some (.dK kvs)/\x=kV k/\Q (.bl (if neg then !(a8 kvs k).isSome else(a8 kvs k).isSome)) H):=by intro U s r H x y v u Q I g j ⟨a,kvs,k,l,e,ex,q⟩;subst ex l;cases (show u=Value.ref a from j);cases neg with|false=>exact arp (by omega) I (pJ.k e) g λo J=>⟨.bl _,H,J,rfl,q⟩|true=>exact afs (by omega) I (pJ.k e) g λo J=>⟨.bl _,H,J,rfl,q⟩
def afg(w:World)(r:Str×Tok×Int×Tok):DictEntry:=⟨hashStr w r.1,.str r.1 r.2.1,.int r.2.2.1 r.2.2.2⟩
theorem ak2{K:Af}{P:Program}{w:World}{c:Addr}{g:Nat}(rows:List (Str×Tok×Int×Tok))(l:K.lookup c=some ⟨.type "dict",none,.dict (rows.map (afg w)).toArray g,#[]⟩)(hs:(c==sysModules)=false)(hz:rows.length<=1000)(nd:(rows.map λr=>(Sum.inr r.1:jg)).Nodup):
 KD K P w c (rows.map λr=>(Sum.inr r.1,.int r.2.2.1)):=by
 refine⟨hs,by rw[Ab];exact small hz,λh X=>⟨rows.map λr=>(Sum.inr r.1,.int r.2.2.1 r.2.2.2),?_,_,_,g,X c _ l,⟨rfl,rfl,rfl⟩,rfl,?_,?_,?_⟩⟩
 ·unfold KV;clear l hz nd
  induction rows with|nil=>exact .nil|cons r t J=>exact .cons ⟨rfl,_,rfl⟩ J
 ·intro e j;have U:e∈rows.map (afg w):=by simpa using j
  obtain⟨r,_,rfl⟩:=AS.mp U;exact⟨Sum.inr r.1,hG r.1 r.2.1,rfl⟩
 ·show Pairs _ (rows.map (afg w)).toArray.toList _;rw[List.toList_toArray];clear l hz nd
  induction rows with|nil=>exact .nil|cons r t J=>exact .cons (hG r.1 r.2.1) rfl J
 ·rw[BA];exact nd
end L2
namespace L3
open PySem L2
theorem yx{xs:List (jg×V)}(p:Paired (λ(p:jg×Y) (q:jg×V)=>p.1=q.1/\RV G H p.2 q.2) kvs xs)(k:jg):(a8 xs k).isSome=(kg kvs k).isSome:=by
 unfold a8 kg;rw[Cp,Cp]
 induction p with
 |nil=>rfl
 |@cons a b _ _ r t J=>
  rw[Bm,Bm,r.1];cases decide (b.1=k) with|true=>rfl|false=>exact J
def zD(neg:Bool)(x y:Y)(L:qm)(Q:YK):Prop:=match y,aen x with
 |.ref a,some k=>sk L a λkvs=>Q (.bl (nb neg (kg kvs k).isSome)) L
 |_,_=>False
theorem ac2(neg:Bool)(l:X.A.units+128<cLine):vq X (compareOp (if neg then .NotIn else .In)) (eV X.g3 (zD neg)):=EL (ac6 neg l) λx y H Q I T L Q3 o p j z k=>by
 unfold zD at z;split at z
 ·rename_i a J r;obtain⟨U,e,z⟩:=fc z;obtain⟨g,t,C⟩:=j a _ e;refine⟨a,g,J,p,t,kH r o,?_⟩;have:(if neg=true then !(a8 g J).isSome else(a8 g J).isSome)=nb neg (kg U J).isSome:=by rw[yx C];cases neg<;>simp[nb]
  rw[this];exact k _ H _ L (DV _) j (by rfl) z
 ·exact z.elim
theorem amd(J:X.A.units+128<cLine):vq X (compareOp .In) (eV X.g3 (zD false)):=ac2 false J
theorem aji(J:X.A.units+128<cLine):vq X (compareOp .NotIn) (eV X.g3 (zD true)):=ac2 true J
def t8(xs:List Y)(L:qm)(Q:YK):Prop:=match xs with
 |[.ref a]=>cU L a λys=>Q (.tup ys) L
 |_=>False
theorem aer :x4 X (.type "tuple") (upL X.g3 t8):=x4.imq m8 λC H Q I L T j U z k=>by
 unfold t8 at z;split at z
 ·rename_i a;obtain⟨u,rfl,o⟩:=j.inv1;obtain⟨p,e,z⟩:=xn z;obtain⟨g,t,r⟩:=U a _ e;cases (show u=V.ref a from o);exact⟨a,g,rfl,.inl ⟨.inl (.inl t),λl J=>k _ _ (.tup p) L (DW J) (U.skip J) ⟨l,g,rfl,.inl (.inl zp),r.ts (DW J)⟩ z⟩⟩
 ·exact z.elim
structure anu(G:G3)(mg:Str->Option Value)(x:Str)(kvs:List (Str×Int)):Prop where
 ex:∃a,mg x=some (.ref a)/\KD G.K G.P G.w a (kvs.map λp=>(Sum.inr p.1,V.int p.2))
theorem rB{kvs:List (Str×Int)}{k:Str}{x:Int}(h:kvs.lookup k=some x):a8 (kvs.map λp=>((Sum.inr p.1:jg),V.int p.2)) (Sum.inr k)=some (V.int x):=by
 induction kvs with
 |nil=>simp at h
 |cons p r J=>
  obtain⟨a,b⟩:=p;unfold a8;rw[AO,Bm];rw[Bp] at h;by_cases c:k=a
  ·subst c;simp at h;simp[h]
  ·have c1:(k==a)=false:=by simpa using c
   rw[c1] at h;have c2:decide ((Sum.inr a:jg)=Sum.inr k)=false:=Au λz=>c (Eo z).symm;simp only[c2];exact J h
def oa(kvs:List (Str×Int))(ti:xj)(τ:jq)(L:qm)(Q:YK):Prop:=ti τ L λy L1=>match y with
 |.str k=>tJ L1 (λi L=>Q (.int i) L) (kvs.lookup k)
 |_=>False
theorem ln{kvs:List (Str×Int)}{i:Expr}(t:anu X.g3 X.mg x kvs)(l:Gl X x)(hi:QE X i ti)(o:gJ i)(hd:Ed x:=by decide):QE X (.Subscript (.Name x p) i pos) (oa kvs ti):=by
 obtain⟨a,r,C⟩:=t.ex;refine DX (abr ao6 (vN l r (show zx (.ref a) (.ref a) from rfl) hd) hi o) λσ H Q I L Q3 T rl z k=>?_;refine⟨I,L,_,T,rl,z,λv H1 y L1 t1 J U g=>?_⟩;split at g
 ·rename_i kk;obtain⟨j,ej,q⟩:=gW g;cases (show v=V.str kk from U);exact⟨_,_,.inr C,rB ej,k _ H1 _ L1 t1 J (by rfl) q⟩
 ·exact g.elim
open PySem L2 Words
def wf:List (Str×Int):=[("link",2),("either",1),("both",1),("cut",2)]
def rJ:ke:=(je (iT wx (qd (uw pG (qb 0) (aZ (jf 1)) (aZ (zn kc (jf 1) (oa wf (jy 0 0))))) qz)))
def zC:ke:=(je (iT wx (qd (uw pG (qb 0) (aZ (zn kc (jf 1) (oa wf (jy 0 0)))) wg) qz)))
def ue(J:jr)(p1:jr):ke:=(qr (zr (jh (x9 (qb 0))) (qh 1))
 (qr (bB (kz (zc J (x9 (qb 0)))) (qh 2) (j9 (wu ac (qb 1) (qd (zc p1 (x9 (qb 2))) qz))))
 (je (qb 1))))
def yF(J:jr):ke:=(je (yIf (fJ (jy 0 0) (dH "cut")) (jh qz) (zc J (x9 (qb 0)))))
def uk(J:jr):ke:=(qr (jz (fJ (jy 1 0) (dH "link")) (je (jh qz)) jk)
 (qr (jz (fJ (jy 1 0) (dH "cut")) (je (jh (qd (jh (x9 (jy 1 1))) (qd (jh (x9 (jy 1 2))) qz)))) jk)
 (qr (zr (zc J (qd (zn ay (qb 0) (jy 1 1)) qz)) (qh 2))
 (qr (jz (fJ (jy 1 0) (dH "either")) (je (jh (x9 (qb 2)))) jk)
 (je (uE 1 (kz (qb 2)) (qh 3) yj (jh (x9 (qb 3)))))))))
def plR:Ru->List Nat
 |.link p q=>[p,q]
 |.ei r _=>[r]
 |.bo r _ _=>[r]
 |.cu p q _ _=>[p,q]
def qD:jr:=λys L Q=>∃A:Ru,ys=[qj A]/\∀p,L p=none->Q (.ref p) (qf L p (.lst (nY (plR A))))
theorem afv:∀ys L Q,qD ys L Q->xp rJ 1 ys L Q:=by
 rintro ys L Q ⟨A,rfl,q⟩;cases A with
 |link a b=>exact⟨λz=>absurd z.1 (by show ¬1=0;decide),λp J=>js (q p J)⟩
 |ei r A=>exact⟨λz=>absurd z.1 (by show ¬1=0;decide),λp J=>js (q p J)⟩
 |bo r A B=>exact⟨λz=>absurd z.1 (by show ¬1=0;decide),λp J=>js (q p J)⟩
 |cu a b A B=>exact⟨λz=>absurd z.1 (by show ¬1=0;decide),λp J=>js (q p J)⟩
def vv:jr:=λys L Q=>∃A:Ru,ys=[qj A]/\∀p,L p=none->Q (.ref p) (qf L p (.lst ((qk A).map qj)))
theorem yg:∀ys L Q,vv ys L Q->xp zC 1 ys L Q:=by
 rintro ys L Q ⟨A,rfl,q⟩;cases A with
 |link a b=>exact⟨λz=>absurd z.1 (by show ¬3=0;decide),λp J=>js (q p J)⟩
 |ei r A=>exact⟨λz=>absurd z.1 (by show ¬2=0;decide),λp J=>js (q p J)⟩
 |bo r A B=>exact⟨λz=>absurd z.1 (by show ¬2=0;decide),λp J=>js (q p J)⟩
 |cu a b A B=>exact⟨λz=>absurd z.1 (by show ¬3=0;decide),λp J=>js (q p J)⟩
def gu:jr:=λys L Q=>∃A:Ru,ys=[qj A]/\∀p,L p=none->Q (.ref p) (qf L p (.lst (nY (bE A))))
theorem yk:∀ys L Q,gu ys L Q->xp (yF qD) 1 ys L Q:=by
 rintro ys L Q ⟨A,rfl,q⟩;cases A with
 |link a b=>exact⟨_,rfl,λp J=>js (q p J)⟩
 |ei r A=>exact⟨_,rfl,λp J=>js (q p J)⟩
 |bo r A B=>exact⟨_,rfl,λp J=>js (q p J)⟩
 |cu a b A B=>exactλp J=>js (q p J)
def bC(n:Nat):jr:=λys L Q=>∃A:Ru,ys=[qj A]/\ja A<=n/\vf A<=1000/\∀p,L p=none->Q (.ref p) (qf L p (.lst ((xg A).map qj)))
theorem mL(A:Ru):0<ja A:=by cases A<;>simp[ja]
theorem abq:∀ys L Q,¬bC 0 ys L Q:=by rintro ys L Q ⟨A,_,h,_⟩;have:=mL A;lia
theorem gg{A:Ru}(h:B∈qk A):vf B<vf A:=by
 cases A with
 |link p q=>cases h
 |ei r C=>cases Ai.mp h;exact Cv _
 |bo r C D=>
  have:vf (.bo r C D)=vf C+vf D+1:=rfl;rcases Ap.mp h with rfl|h
  ·lia
  ·cases Ai.mp h;lia
 |cu p q C D=>
  have:vf (.cu p q C D)=vf C+vf D+1:=rfl;rcases Ap.mp h with rfl|h
  ·lia
  ·cases Ai.mp h;lia
theorem tN(n:Nat):∀ys L Q,bC (n+1) ys L Q->xp (ue vv (bC n)) 3 ys L Q:=by
 rintro ys L Q ⟨A,rfl,hd,hz,q⟩;have big:=bg_;intro l t;refine⟨A,rfl,λj J=>?_⟩;have o:l≠j:=v5 q8 J;have T:L j=none:=zw J;have s0:qg L (qf (qf L l (.lst [qj A])) j (.lst ((qk A).map qj))):=(By t).trans (By J);have sz:∀i,(((qk A).take i).flatMap xg).length<=1000:=λi=>by
  have e:=Bb List.length (aH A);rw[bJ] at e;have h2:(((qk A).take i).flatMap xg).length+(((qk A).drop i).flatMap xg).length=((qk A).flatMap xg).length:=by rw[<-Ac,<-Ay,Ba]
  simp only[AL] at e;lia
 refine x5 q8 λkeep kp=>vh ⟨λi r U=>∃c2,r=[some (qj A),some (.ref l),c2]/\qg L U/\U l=some (.lst ((A::((qk A).take i).flatMap xg).map qj))/\U j=some (.lst ((qk A).map qj)),⟨_,rfl,s0,(q9 o).trans q8,q8⟩,?_,?_,?_⟩
 ·rintro i r U ⟨c2,rfl,s,g,g2⟩;exact kp U (by rw[g2,q8])
 ·rintro i y r U hy ⟨c2,rfl,s,g,g2⟩;rw[An] at hy;obtain⟨B,eB,rfl⟩:=Am.mp hy;have mB:=Aw eB;have et:(qk A).take (i+1)=(qk A).take i++[B]:=by rw[A9,eB];rfl
  have zB:=gg mB;have dB:=vj mB;have zi:=sz i;refine qc g ⟨B,rfl,by lia,by lia,λp C=>?_⟩;have np:l≠p:=v5 g C;have I:j≠p:=v5 g2 C;refine qx ((q9 np).trans g) (qx q8 ⟨?_,?_⟩)
  ·rw[Ab,Ab,AL,bJ];exact Bd (big _ (by lia))
  ·refine⟨_,DU _,_,rfl,(s.trans (By C)).upd t,?_,(q9 (AB o)).trans ((q9 I).trans g2)⟩;rw[q8,et,Ay,CT,<-Aj];rfl
 ·rintro r U ⟨c2,rfl,s,g,_⟩;rw[Ab,Bh,<-aH] at g;exact aY (ER s g) (q l t)
def uB(ks:List Kn)(wd:List (Option Kn))(A:Ru):Prop:=∀x∈qo A,∀k,ks[x]?=some k->wd[x]?=some (some k)
theorem uB.arm{A:Ru}(h:uB ks wd A)(J:B∈qk A):uB ks wd B:=λx U=>h x (by rw[eF];exact Ah _ (A2.mpr ⟨B,J,U⟩))
def pY:jr:=λys L Q=>∃a,∃wd:List (Option Kn),∃ks:List Kn,∃A:Ru,∃E:List Nat,ys=[.ref a,qj A]/\L a=some (.lst (cH wd))/\SR ks A E/\uB ks wd A/\
 ∀p J L',qg L L'->L p=none->L' p=some (.lst (J.map Y.ref))->Paired (λr t=>L r=none/\L' r=some (.lst (nY t))) J (vn ks A)->Q (.ref p) L'
theorem aea:∀ys L Q,pY ys L Q->xp (uk lv) 3 ys L Q:=by
 rintro ys L Q ⟨a,wd,ks,A,E,rfl,ha,sr,ag,q⟩;cases sr with
 |link=>exactλp hp=>js (q p [] _ (By hp) hp q8 .nil)
 |@cu u v A B EA EB _ w hA hB h3 h4=>
  intro J h1 g h2 I h3;have U:J≠g:=v5 q8 h2;have a1:J≠I:=v5 ((q9 U).trans q8) h3;have a2:g≠I:=v5 q8 h3;exact js (q I [J,g] _ (((By h1).trans (By h2)).trans (By h3)) (zw (zw h3)) q8 (.cons ⟨h1,(q9 a1).trans ((q9 U).trans q8)⟩ (.cons ⟨zw h2,(q9 a2).trans q8⟩ .nil)))
 |@ei r i j A EA _ h1=>
  refine qc ha (qw (xb (ag r (Ak ..) _ h1)) ⟨some (.nd true i j),rfl,λJ g1=>?_⟩);intro g g2;have U:J≠g:=v5 q8 g2;refine js (q g [J] _ ((By g1).trans (By g2)) (zw g2) q8 ?_);show Paired _ [J] [km ks[r]?];rw[h1];exact .cons ⟨g1,(q9 U).trans q8⟩ .nil
 |@bo r i j A B EA EB _ h1=>
  refine qc ha (qw (xb (ag r (Ak ..) _ h1)) ⟨some (.nd false i j),rfl,λJ g1=>?_⟩);have s1:qg L (qf L J (.lst (nY [i,j]))):=By g1;refine x5 q8 λkeep kp=>tz ⟨show 2<sizeLine by decide,λm T C=>∃l,T=l.map Y.ref/\qg (qf L J (.lst (nY [i,j]))) C/\Paired (λr t=>L r=none/\C r=some (.lst (nY t))) l (([i,j].map λx=>[x]).take m),⟨[],rfl,DU _,.nil⟩,?_,?_,?_⟩
  ·rintro m T C ⟨l,_,s,_⟩;exact kp C (by rw[q8];exact s _ _ q8)
  ·rintro m y T C hy ⟨l,rfl,s,pr⟩;obtain⟨x,ex,rfl⟩:=iL hy;have ex:[i,j][m]?=some x:=ex;intro g g2;refine⟨_,DU _,l++[g],by rw[Aj];rfl,s.trans (By g2),?_⟩;have et:([i,j].map λx=>[x]).take (m+1)=([i,j].map λx=>[x]).take m++[[x]]:=by rw[A9,An,ex];rfl
   rw[et];exact ix (DY pr λb t o=>⟨o.1,(q9 (v5 o.2 g2)).trans o.2⟩) ⟨s1.none (s.none g2),q8⟩
  ·rintro T C ⟨l,rfl,s,pr⟩ I g3;refine js (q I l _ ((s1.trans s).trans (By g3)) (s1.none (s.none g3)) q8 ?_);show Paired _ l ((km ks[r]?).map λx=>[x]);rw[h1];exact DY pr λb t o=>⟨o.1,(q9 (v5 o.2 g3)).trans o.2⟩
theorem oU{A:Ru}:∀t∈vn ks A,t.length<=2:=by
 intro t J;cases A with
 |link p q=>cases J
 |ei r A=>rw[Ai.mp J];exact yP _
 |bo r A B=>obtain⟨x,_,rfl⟩:=AS.mp J;exact BZ 1
 |cu p q A B=>
  rcases Ap.mp J with rfl|J
  ·exact BZ 1
  ·rw[Ai.mp J];exact BZ 1
theorem du{A:Ru}(h:B∈qk A):(qo B).Sublist (qo A):=by rw[eF A];refine List.Sublist.trans ?_ (BV ..);obtain⟨a,b,e⟩:=CH h;rw[e,Ay,AR];exact(CB ..).trans (BV ..)
theorem adn{T:List Nat}(U:∀x∈T,x<ks.length){x:Nat}:x∈lZ (sj ks T)↔x∈T:=by
 constructor
 ·intro h;obtain⟨_,k,e,g⟩:=af5 h;cases k with
  |none=>cases g
  |some k=>exact(ahc e).1
 ·intro h;have J:=U x h;exact ali (aat h (Ae J)) rfl (by rw[eL];exact J)
theorem xU{E:List Nat}(T:TrO ks R E):(lZ (sj ks (qo R))).length=(qo R).length:=by refine((A7 ?_ T.nd).mpr λx=>adn λx J=>T.sr.lt x J).length_eq;unfold lZ whr;exact Cb.filter _
structure yZ(A:Ru)(tk:List Nat)(st:List Ru):Prop where
 pt:(tk++st.flatMap qo).Perm (qo A)
 sz:(st.map vf).sum<=vf A
 dp:∀B∈st,ja B<=ja A
theorem yZ.start(A:Ru):yZ A [] [A]:=⟨by simp,by simp,λB J=>by rw[Ai.mp J];exact Al _⟩
theorem yZ.step{A:Ru}{tk:List Nat}{st:List Ru}(h:yZ A tk (st++[B])):yZ A (tk++bE B) (st++qk B):=by
 refine⟨?_,?_,λC J=>?_⟩
 ·refine List.Perm.trans ?_ h.pt;rw[Ay,Ay];have:[B].flatMap qo=bE B++(qk B).flatMap qo:=by rw[<-eF];simp
  rw[this];refine BD.mpr λz=>?_;simp only[BM];lia
 ·have:=h.sz;have:=ff B;simp at *;lia
 ·rcases Ar.mp J with J|J
  ·exact h.dp C (Aq _ J)
  ·have:=vj J;have:=h.dp B (Ah _ (Ai.mpr rfl));lia
theorem yZ.lt{A:Ru}{tk:List Nat}{st:List Ru}:((st.map vf).sum+((qk B).map vf).sum)<((st++[B]).map vf).sum:=by have:=ff B;simp;lia
theorem alg(ks:List Kn)(A:Ru):uB ks (sj ks (qo A)) A:=λ_ J _ U=>aat J U
theorem TrO.small{A:Ru}{E:List Nat}(T:TrO ks A E):(qo A).length<=96:=by
 have:=xU T;have h2:=afp aca (sj ks (qo A)) (sj ks (qo A)).length;rw[eL] at h2;have:(lZ (sj ks (qo A))).length<=ks.length:=by unfold lZ;rw[eL];exact h2
 have:=T.len;lia
def rG:ke:=(qr (jz (fJ (jy 0 0) (dH "cut")) (je (jh (a9 (jy 0 3) (jy 0 4)))) jk)
 (qr (jz (fJ (jy 0 0) (dH "link")) (je (jh qz)) jk)
 (je (iT wx (qd (uw pG (qb 0) (aZ (jf 2)) wg) qz)))))
def jD(J:jr):ke:=(qr (zr (vt (qd (jh qz) (qd (jh qz) (qd vG (qd (jh (x9 (qb 0))) qz))))) (wo 4 (zm (qh 1) (zm (qh 2) (zm (qh 3) (zm (qh 4) kw))))))
 (qr (dJ (rdN (qb 4) (jh qz)) (qr (zr (wu qA (qb 4) qz) (qh 5))
 (kF (jz (fJ (jy 5 0) (dH "link")) (qr (j9 (wu zq (qb 1) (qd (zF (jy 5 1) (jy 5 2)) qz)))
 (qr (gh (qb 3) (jy 5 1) (yC (.bl true)))
 (gh (qb 3) (jy 5 2) (yC (.bl true))))) (jz (fJ (jy 5 0) (dH "cut")) (j9 (wu zq (qb 2) (qd (zF (jy 5 1) (jy 5 2)) qz))) (gh (qb 3) (jy 5 1) (yC (.bl true)))))
 (j9 (wu ac (qb 4) (qd (zc J (x9 (qb 5))) qz))))))
 (je (vt (qd (qb 1) (a9 (qb 2) (qb 3)))))))
def mY(J:jr):ke:=(qr (dJ (wZ (rdN (zc J (x9 (qb 0))) (jh qz)) (yB (zn yGt (zn w6 (qb 1) (jf 5)) (jf 0)))) (qr (zr (zc J (x9 (qb 0))) (qh 2))
 (qr (zr (zn ay (qb 2) (zn w6 (zn am (qb 1) (jf 5)) (cY 2))) (qh 0))
 (zr (zn w6 (zn rT (qb 1) (jf 48271)) (jf 2147483647)) (qh 1)))))
 (je (qb 0)))
def aA:jr:=vv
theorem abx:∀ys L Q,aA ys L Q->xp rG 1 ys L Q:=by
 rintro ys L Q ⟨A,rfl,q⟩;cases A with
 |link a b=>exactλp J=>js (q p J)
 |ei r A=>exact⟨λz=>absurd z.1 (by show ¬2=0;decide),λp J=>js (q p J)⟩
 |bo r A B=>exact⟨λz=>absurd z.1 (by show ¬2=0;decide),λp J=>js (q p J)⟩
 |cu a b A B=>exactλp J=>js (q p J)
structure zH(us:List Nat)(kvs:List (jg×Y)):Prop where
 val:∀x:Nat,(kg kvs (.inl (x:Int))).isSome=decide (x∈us)
 len:kvs.length<=us.length
theorem zH.nil:zH [] []:=⟨λ_=>rfl,Al _⟩
theorem zH.put{us:List Nat}(h:zH us kvs)(x:Nat)(y:Y):zH (us++[x]) (iB kvs (.inl (x:Int)) y):=by
 refine⟨λz=>?_,?_⟩
 ·rw[so];by_cases e:z=x
  ·subst e;rw[AD rfl,AG (Ah _ (Ai.mpr rfl))];rfl
  ·rw[AE (λq=>e (DA.mp (Sum.inl.inj q))),h.val];refine decide_eq_decide.mpr ⟨λq=>Aq _ q,λq=>?_⟩;rcases Ar.mp q with q|q
   ·exact q
   ·exact absurd (Ai.mp q) e
 ·have:=dy kvs (.inl (x:Int)) y;have:=h.len;rw[Ac];show _<=us.length+1;lia
def pQ:jr:=λys L Q=>∃R:Ru,ys=[qj R]/\(qo R).length<=96/\
 ∀J U ta lk ct kvs L',qg L L'->L J=none->L U=none->L ta=none->L' J=some (.lst (kZ lk))->L' U=some (.lst (kZ ct))->L' ta=some (.dct kvs)->lk.Perm (vz R)->ct.Perm (jm R)->(∀x:Nat,(kg kvs (.inl (x:Int))).isSome=decide (x∈qo R))->Q (.tup [.ref J,.ref U,.ref ta]) L'
theorem ak:∀R:Ru,(vz R).length+(jm R).length<=vf R
 |.link _ _=>Al _
 |.ei _ A=>B1 (ak A)
 |.bo _ A B=>by have:=ak A;have:=ak B;show(vz A++vz B).length+(jm A++jm B).length<=vf A+vf B+1;rw[Ac,Ac];lia
 |.cu _ _ A B=>by have:=ak A;have:=ak B;show(vz A++vz B).length+((jm A++jm B).length+1)<=vf A+vf B+1;rw[Ac,Ac];lia
theorem af8:∀ys L Q,pQ ys L Q->xp (jD aA) 6 ys L Q:=by
 rintro ys L Q ⟨R,rfl,tl,q⟩;have big:=bg_;have rd:=xi R;have rz:=we R;have rp:=ak R;intro la bb ca bc ta al g a4;have a5:la≠ca:=v5 q8 bc;have a1:ca≠ta:=v5 q8 al;have a2:la≠ta:=v5 ((q9 a5).trans q8) al;have a3:ta≠g:=v5 q8 a4;have au:ca≠g:=v5 ((q9 a1).trans q8) a4;have av:la≠g:=v5 ((q9 a2).trans ((q9 a5).trans q8)) a4;have aL:L ca=none:=zw bc;have t:L ta=none:=zw (zw al);have ba:L g=none:=zw (zw (zw a4));have S0:qg L (qf (qf (qf (qf L la (.lst [])) ca (.lst [])) ta (.dct [])) g (.lst [qj R])):=(((By bb).trans (By bc)).trans (By al)).trans (By a4);refine⟨λm τ j=>∃lk ct J us st c5,τ=[some (qj R),some (.ref la),some (.ref ca),some (.ref ta),some (.ref g),c5]/\qg L j/\j la=some (.lst (kZ lk))/\j ca=some (.lst (kZ ct))/\j ta=some (.dct J)/\j g=some (.lst (st.map qj))/\iS R lk ct st/\zH us J/\yZ R us st/\m=(st.map vf).sum,⟨_,[],[],[],[],[R],_,rfl,S0,(q9 av).trans ((q9 a2).trans ((q9 a5).trans q8)),(q9 au).trans ((q9 a1).trans q8),(q9 a3).trans q8,q8,iS.start R,zH.nil,yZ.start R,rfl⟩,?_⟩;rintro m τ j ⟨lk,ct,J,us,st,c5,rfl,s,h1,h2,h3,C,T,U,I,rfl⟩;intro p hp;refine wz (n:=120) (m:=0) (by decide) (By hp _ _ C) q8 (cK λA hA=>AQ (T.dp A hA) (by lia)) (.nil:Paired (jc _ 0) _ []) ?_;have s2:qg L (qf j p (.lst [])):=s.trans (By hp);replace h1:=(q9 (o:=.lst []) (v5 h1 hp)).trans h1;replace h2:=(q9 (o:=.lst []) (v5 h2 hp)).trans h2;replace h3:=(q9 (o:=.lst []) (v5 h3 hp)).trans h3;replace C:=(q9 (o:=.lst []) (v5 C hp)).trans C;generalize qf j p (.lst [])=L2 at s2 h1 h2 h3 C ⊢;show kj (!(Da.eqs (st.map bA) [])) _ _;rw[kE];have kl:=U.len;have pl:=I.pt.length_eq;have l1:=T.pl.length_eq;have l2:=T.pc.length_eq;rw[Ac] at pl l1 l2;rcases BE st with rfl|⟨ve,A,rfl⟩
 ·refine xr rfl ?_;refine js (q la ca ta lk ct J L2 s2 bb aL t h1 h2 h3 (by have:=T.pl;simpa using this) (by have:=T.pc;simpa using this) λx=>?_);rw[U.val];exact decide_eq_decide.mpr (by have:=I.pt.mem_iff (a:=x);simpa using this)
 ·rw[BF] at *;rw[Au (by simp)];refine kn rfl ⟨λag j=>∃m',m'<((ve++[A]).map vf).sum/\∃lk ct J us st c5,ag=[some (qj R),some (.ref la),some (.ref ca),some (.ref ta),some (.ref g),c5]/\qg L j/\j la=some (.lst (kZ lk))/\j ca=some (.lst (kZ ct))/\j ta=some (.dct J)/\j g=some (.lst (st.map qj))/\iS R lk ct st/\zH us J/\yZ R us st/\m'=(st.map vf).sum,λag j h=>h,?_⟩;rw[Aj] at C;refine lI C ?_;have s3:qg L (qf L2 g (.lst (ve.map qj))):=s2.upd ba;replace h1:=(q9 (o:=.lst (ve.map qj)) av).trans h1;replace h2:=(q9 (o:=.lst (ve.map qj)) au).trans h2;replace h3:=(q9 (o:=.lst (ve.map qj)) a3).trans h3;clear C;have C:qf L2 g (.lst (ve.map qj)) g=some (.lst (ve.map qj)):=q8;generalize qf L2 g (.lst (ve.map qj))=L3 at s3 h1 h2 h3 C ⊢;refine⟨λag L3=>∃J,ag=[some (qj R),some (.ref la),some (.ref ca),some (.ref ta),some (.ref g),some (qj A)]/\qg L L3/\L3 la=some (.lst (kZ (lk++sN A)))/\L3 ca=some (.lst (kZ (ct++rA A)))/\L3 ta=some (.dct J)/\L3 g=some (.lst (ve.map qj))/\zH (us++bE A) J,?_,?_⟩
  ·cases A with
   |link p0 q0=>
    refine qc h1 (qx h1 ⟨by rw[Ab];exact big _ (by lia),?_⟩);refine ju ((q9 (AB a2)).trans h3) ⟨big _ (by lia),?_⟩;have U1:=U.put p0 (.bl true);have k1:=U1.len;rw[Ac] at k1;refine ju q8 ⟨big _ (by simp at k1;lia),?_⟩;have U2:=U1.put q0 (.bl true);rw[xw];refine⟨_,rfl,(s3.upd bb).upd t,?_,?_,q8,?_,by rw[AH] at U2;exact U2⟩
    ·rw[q9 a2,q8];exact Bb (λl=>some (LO.lst l)) (oV lk (p0,q0))
    ·rw[q9 a1,q9 (AB a5),h2];simp[rA]
    ·rw[q9 (AB a3),q9 (AB av)];exact C
   |ei r0 A0=>
    refine ju h3 ⟨big _ (by lia),?_⟩;exact⟨_,rfl,s3.upd t,by rw[q9 a2,h1];simp[sN],by rw[q9 a1,h2];simp[rA],q8,by rw[q9 (AB a3)];exact C,U.put r0 (.bl true)⟩
   |bo r0 A0 B0=>
    refine ju h3 ⟨big _ (by lia),?_⟩;exact⟨_,rfl,s3.upd t,by rw[q9 a2,h1];simp[sN],by rw[q9 a1,h2];simp[rA],q8,by rw[q9 (AB a3)];exact C,U.put r0 (.bl true)⟩
   |cu p0 q0 A0 B0=>
    refine qc h2 (qx h2 ⟨by rw[Ab];exact big _ (by lia),?_⟩);exact⟨J,rfl,s3.upd aL,by rw[q9 a5,h1];simp[sN],by rw[q8];exact Bb (λl=>some (LO.lst l)) (oV ct (p0,q0)),by rw[q9 (AB a1)];exact h3,by rw[q9 (AB au)];exact C,by rw[show bE (.cu p0 q0 A0 B0)=[] from rfl,AI];exact U⟩
  ·rintro ag L4 ⟨bd,rfl,s4,g1,g2,g3,g4,U'⟩;refine qc g4 ⟨A,rfl,λp8 h8=>?_⟩;refine qx ((q9 (v5 g4 h8)).trans g4) (qx q8 ⟨?_,?_⟩)
   ·have h1:=I.step.sz;have len:∀l:List Ru,l.length<=(l.map vf).sum:=λl=>by induction l with|nil=>exact Al _|cons x r ih=>have:=gA x;simp;lia
    have h3:=len (ve++qk A);rw[Ac] at h3;rw[Ab,Ab];exact Bd (big _ (by lia))
   ·exact⟨_,DU _,_,yZ.lt (tk:=us) (A:=R),_,_,bd,us++bE A,ve++qk A,_,rfl,(s4.trans (By h8)).upd ba,(q9 av).trans ((q9 (v5 g1 h8)).trans g1),(q9 au).trans ((q9 (v5 g2 h8)).trans g2),(q9 a3).trans ((q9 (v5 g3 h8)).trans g3),by rw[q8,Aj],T.step,U',I.step,by rw[Aj,BN]⟩
def hU:jr:=λys L Q=>∃R:Ru,∃n:Int,ys=[qj R,.int n]/\(qo R).length<=96/\∀B∈xg R,Q (qj B) L
theorem yT:∀ys L Q,hU ys L Q->xp (mY aA) 3 ys L Q:=by
 rintro ys L Q ⟨R,n,rfl,tl,q⟩;have rd:=xi R;refine⟨λm o J=>∃B n c2,o=[some (qj B),some (.int n),c2]/\qg L J/\B∈xg R/\ja B<=ja R/\m=ja B,⟨_,R,n,_,rfl,DU _,dY R,Al _,rfl⟩,?_⟩;rintro m o J ⟨B,n,c2,rfl,s,g,dB,rfl⟩;refine⟨B,rfl,λp h1=>?_⟩;intro r h2;have U:qg L (qf (qf J p (.lst ((qk B).map qj))) r (.lst [])):=(s.trans (By h1)).trans (By h2);refine wz (n:=120) (m:=0) (by decide) (By h2 _ _ q8) q8 (cK λA hA=>by have:=vj hA;lia) (.nil:Paired (jc _ 0) _ []) ?_;generalize qf (qf J p (.lst ((qk B).map qj))) r (.lst [])=L2 at U ⊢;show kj (!(Da.eqs ((qk B).map bA) [])) _ _;rw[kE];by_cases c:qk B=[]
 ·refine xr (by rw[AG c];rfl) ?_;exact xr rfl (aY U (q B g))
 ·refine kn (by rw[Au c];rfl) ⟨(show(0:Int)<5 by decide),?_⟩;refine v0 (λc5=>?_) λc5=>aY U (q B g);refine⟨λl J=>∃t,t<ja B/\∃B n c2,l=[some (qj B),some (.int n),c2]/\qg L J/\B∈xg R/\ja B<=ja R/\t=ja B,λ_ _ h=>h,?_⟩;refine⟨B,rfl,λp3 h3=>?_⟩;have hl:0<(qk B).length:=List.length_pos_iff.mpr c;obtain⟨j,A,ej,lj,C⟩:=iG hl (n / 5);have I:=Aw C;have dA:=vj I;have T:((qk B).map qj).length=(qk B).length:=Ab ..;refine⟨⟨by decide,by decide⟩,qc q8 ⟨(by show(0:Int)<(((qk B).map qj).length:Int);rw[T];lia),qc q8 (qw (v:=qj A) (by show eM ((qk B).map qj) (n / 5 % (((qk B).map qj).length:Int))=_;rw[T,ej];exact xb C) ?_)⟩⟩;exact⟨.inr ⟨by decide,by decide⟩,(show(0:Int)<2147483647 by decide),_,DU _,ja A,dA,A,_,_,rfl,U.trans (By h3),aN g (uu I),by lia,rfl⟩
def acl(Pt:Addr)(J:jr):ke:=(qr (zr (jh qz) (qh 2))
 (qr (bB (dm (qb 0)) (wo 2 (zm (qh 3) (zm (qh 4) kw))) (qr (zr (zn w6 (zc J (qd (qb 1) (a9 (qb 3) (jf 39373)))) (jf 40)) (qh 5))
 (kF (jz (fJ (cY 4) (jf 3)) (zr (zn kc (zn kc (qb 5) (jf 1)) (iT ag2 (qd (zn ay (qb 2) (jy 4 1)) (qd (zn ay (qb 2) (jy 4 2)) qz)))) (qh 5)) jk)
 (j9 (wu zq (qb 2) (x9 (qb 5)))))))
 (je (zZ Pt lamQ 2 (sV (cY 0))))))
def qE(J:jr):ke:=(qr (jz (fJ (jy 0 0) (dH "link")) (je (vt (qd (dH "link") (qd (iT ak6 (qd (i9 (qb 1) (jy 0 1)) (qd (i9 (qb 1) (jy 0 2)) qz))) (qd (iT ag2 (qd (i9 (qb 1) (jy 0 1)) (qd (i9 (qb 1) (jy 0 2)) qz))) qz))))) jk)
 (qr (zr (uE 1 (zP (uw pG (qb 0) (aZ (jf 1)) wg)) (qh 3) (yB (cn .int (qb 3))) (i9 (qb 1) (qb 3))) (qh 2))
 (je (iT t8 (qd (zn kc (zn kc (jh (x9 (jy 0 0))) (qb 2)) (uE 1 (zP (uw pG (qb 0) (aZ (jf 1)) wg)) (qh 3) (yB (cn .tuple (qb 3))) (zc J (a9 (qb 3) (qb 1))))) qz)))))
def mG(J:jr)(p1:jr):ke:=(qr (zr vG (qh 3))
 (qr (zr (jh qz) (qh 4))
 (qr (bB (kz (zc J (a9 (qb 0) (qb 2)))) (qh 5) (qr (gh (qb 3) (qb 5) (cY 4))
 (qr (zr (zn ay (qb 0) (qb 5)) (qh 6))
 (j9 (wu zq (qb 4) (qd (yIf (fJ (cY 6) (jf 2)) (qb 6) (vt (qd (jy 6 0) (qd (i9 (qb 3) (jy 6 1)) (qd (i9 (qb 3) (jy 6 2)) qz))))) qz))))))
 (je (vt (qd (qb 4) (qd (zc p1 (a9 (qb 1) (qb 3))) qz)))))))
def gm(Pt:Addr):jr:=λys L Q=>∃a,∃ks:List Kn,∃s:Int,ys=[.ref a,.int s]/\L a=some (.lst (jb ks))/\OkO (ks.map some)/\ks.length<=63/\L Pt=some (.tb lamQ)/\
 ∀D J,L D=none->J.Perm (List.range (ks.map some).length)->cV (ks.map some) J->Q (.ref D) (qf L D (.lst (nY J)))
theorem yL :∀ys L Q,gm Pt ys L Q->xp (acl Pt lK) 6 ys L Q:=by
 rintro ys L Q ⟨a,ag,s,rfl,ha,ok,hz,hP,q⟩;obtain⟨l,g⟩:∃l,l=ag.map some:=⟨_,rfl⟩;rw[<-aV,<-g] at ha;rw[<-g] at ok q;have hz:l.length<=63:=by rw[g,Ab];exact hz
 have all:∀i,l[i]?≠some none:=λi e=>by rw[g,An] at e;obtain⟨_,_,z⟩:=Am.mp e;cases z
 have big:=bg_;intro U J;have s0:qg L (qf L U (.lst [])):=By J;have a3:a≠U:=v5 ha J;refine x5 (s0 _ _ ha) λkeep kp=>vh ⟨λi τ C=>∃rks:List Int,∃c3 c4 c5,τ=[some (Y.ref a),some (.int s),some (Y.ref U),c3,c4,c5]/\C=qf L U (.lst (rks.map Y.int))/\rks.length=i/\yf l rks,⟨[],_,_,_,rfl,rfl,rfl,λp _ _ _ hp=>by cases hp⟩,?_,?_,?_⟩
 ·rintro i τ C ⟨rks,c3,c4,c5,rfl,rfl,_⟩;exact kp _ (by rw[q9 a3,q9 a3])
 ·rintro i y τ C hy ⟨rks,c3,c4,c5,rfl,rfl,I,T⟩;obtain⟨z,ez,rfl⟩:=bQ hy;rw[An] at ez;obtain⟨k,ek,rfl⟩:=Am.mp ez;have hi:=jv ek;refine⟨s,i,39373,rfl,by exact AZ _,by omega,by decide,by decide,λv h0 h1=>?_⟩;have m0:(0:Int)<=v % 40:=CC _ (by decide);have a4:(rks.map Y.int).length=i:=by rw[Ab];exact I
  refine⟨show(0:Int)<40 by decide,λa5 C=>∃r:Int,a5=[some (Y.ref a),some (.int s),some (Y.ref U),some (.int (i:Nat)),some (uo k),some (.int r)]/\C=qf L U (.lst (rks.map Y.int))/\∀e i j,k=some (.nd e i j)->rks.getD i 0<r/\rks.getD j 0<r,?_,?_⟩
  ·cases k with
   |none=>exact absurd ek (all i)
   |some k=>
    cases k with
    |lf t n=>exact⟨v % 40,rfl,rfl,λe i j z=>by cases z⟩
    |nd e p1 p2=>
     obtain⟨l1,l2⟩:=ok _ _ _ _ ek;have g1:=xq (sF (rks:=rks) (i:=p1) (by lia));have g2:=xq (sF (rks:=rks) (i:=p2) (by lia));refine qc q8 (qw g1 ?_);refine qc q8 (qw g2 ?_);refine⟨v % 40+1+max (rks.getD p1 0) (rks.getD p2 0),rfl,rfl,λe' i' j' z=>?_⟩;cases z;have a1:rks.getD p1 0<=max (rks.getD p1 0) (rks.getD p2 0):=Int.le_max_left ..;have a2:rks.getD p2 0<=max (rks.getD p1 0) (rks.getD p2 0):=Int.le_max_right ..;constructor<;>lia
  ·rintro a5 C ⟨r,rfl,rfl,hr⟩;refine qc q8 (qx q8 ⟨by rw[a4];exact big _ (by lia),?_⟩);refine⟨_,DU _,rks++[r],_,_,_,rfl,?_,by rw[Ac,I];rfl,yf.snoc ok T (by rw[I];exact ek) hr⟩;rw[xw,Aj];rfl
 ·rintro τ C ⟨rks,c3,c4,c5,rfl,rfl,I,T⟩;rw[bU,Ab] at I;have s1:qg L (qf L U (.lst (rks.map Y.int))):=By J;refine qc (s1 _ _ ha) ?_;have lo:(cH l).length=l.length:=Ab ..;refine⟨⟨AZ _,by rw[lo];lia⟩,λp hp=>qx q8 ?_⟩;have al:U≠p:=v5 q8 hp;have au:Pt≠p:=v5 (s1 _ _ hP) hp;have av:Pt≠U:=v5 hP J;refine⟨l.length,rks,U,by rw[AY,lo],rfl,(q9 al).trans q8,I,hz,(q9 au).trans ((q9 av).trans hP),λD qs hD pm pw=>?_⟩;have aL:=zw hD;have ba:=zw aL;refine⟨qf L D (.lst (nY qs)),λb o e=>?_,q D qs ba pm (adv ok T I pw)⟩;by_cases c:b=D
  ·subst c;rw[q8] at e ⊢;exact e
  ·rw[q9 c] at e ⊢;rw[q9 (λz=>by subst z;rw[zw hp] at e;cases e),q9 (λz=>by subst z;rw[J] at e;cases e)];exact e
theorem rj(y:Y)(l:List Y):hX (y::l) (some 1) none=l:=by
 unfold hX;have e:HT.sIx (y::l).length 0 (some 1)=1:=by show min 1 (l.length+1)=1;lia
 rw[e];show(l.take (l.length+1-1))=l;rw[Nat.add_sub_cancel,Bh]
theorem vS(y:Y)(l:List Y):¬(HT.sIx (y::l).length 0 (some 1)=0/\HT.sIx (y::l).length (y::l).length none=(y::l).length):=λz=>by
 have e:HT.sIx (y::l).length 0 (some 1)=1:=by show min 1 (l.length+1)=1;lia
 rw[e] at z;exact absurd z.1 (by decide)
def kdR:Ru->Str
 |.link _ _ => "link"
 |.ei _ _ => "either"
 |.bo _ _ _ => "both"
 |.cu _ _ _ _ => "cut"
theorem o8(A:Ru):qj A=.tup (.str (kdR A)::(nY (plR A)++(qk A).map qj)):=by cases A<;>rfl
def cA(n:Nat):jr:=λys L Q=>∃R:Ru,∃d,∃kvs:List (jg×Y),∃f:Nat->Nat,ys=[qj R,.ref d]/\L d=some (.dct kvs)/\(∀B∈xg R,∀x∈plR B,kg kvs (.inl (x:Int))=some (.int (f x:Int)))/\ja R<=n/\Q (qj (mn f R)) L
theorem aa8:∀ys L Q,¬cA 0 ys L Q:=by rintro ys L Q ⟨A,_,_,_,_,_,_,h,_⟩;have:=mL A;lia
theorem wL{P:List Nat}{J:List Ru}(h:(nY P++J.map qj)[i]?=some y):(i<P.length/\∃x,P[i]?=some x/\y=.int (x:Int))\/(P.length<=i/\∃B,J[i-P.length]?=some B/\y=qj B):=by
 by_cases c:i<P.length
 ·rw[AF (by rw[ko];exact c)] at h;exact .inl ⟨c,iL h⟩
 ·rw[Av (by rw[ko];lia),ko,An] at h;obtain⟨B,e,z⟩:=Am.mp h;exact .inr ⟨by lia,B,e,z.symm⟩
theorem aaw(n:Nat):∀ys L Q,cA (n+1) ys L Q->xp (qE (cA n)) 3 ys L Q:=by
 rintro ys L Q ⟨R,d,t,f,rfl,hd,I,hr,q⟩;have big:=bg_;by_cases U:∃a b,R=.link a b
 ·obtain⟨a,b,rfl⟩:=U;have v1:=I _ (dY _) a (Ak ..);have v2:=I _ (dY _) b (Ad _ (Ak ..));refine ju hd (qw v1 ?_);refine ju hd (qw v2 ?_);refine ju hd (qw v1 ?_);refine ju hd (qw v2 ?_);refine js ?_;have e1:min (f a:Int) (f b:Int)=((min (f a) (f b):Nat):Int):=aq8 _ _;have e2:max (f a:Int) (f b:Int)=((max (f a) (f b):Nat):Int):=at3 _ _;have q:Q (.tup [.str "link",.int ((min (f a) (f b):Nat):Int),.int ((max (f a) (f b):Nat):Int)]) L:=q;rw[<-e1,<-e2] at q;exact q
 have hk:kdR R ≠ "link" := by cases R with|link a b=>exact absurd ⟨a,b,rfl⟩ U|ei r A=>show(Str.ofString "either") ≠ "link";decide +kernel|bo r A B=>show(Str.ofString "both") ≠ "link";decide +kernel|cu p s A B=>show(Str.ofString "cut") ≠ "link";decide +kernel
 have T:Q (.tup ([.str (kdR R)]++nY ((plR R).map f)++(qk R).map λB=>qj (mn f B))) L:=by cases R with|link a b=>exact absurd ⟨a,b,rfl⟩ U|ei r A=>exact q|bo r A B=>exact q|cu p s A B=>exact q
 have vp:∀x∈plR R,kg t (.inl (x:Int))=some (.int (f x:Int)):=I R (dY R);have va:∀B∈qk R,ja B<=n/\∀C∈xg B,∀x∈plR C,kg t (.inl (x:Int))=some (.int (f x:Int)):=λB hB=>⟨by have:=vj hB;lia,λC hC=>I C (aN (uu hB) hC)⟩;have lp:(plR R).length<=2:=by cases R<;>simp[plR]
 have lA:(qk R).length<=2:=by cases R<;>simp[qk]
 rw[o8 R];generalize plR R=P at vp T lp;generalize qk R=l at va T lA;generalize kdR R=g at hk T;clear q I U hr;have e0:eM (Y.str g::(nY P++l.map qj)) 0=some (Y.str g):=xq (xs:=Y.str g::(nY P++l.map qj)) (j:=0) rfl;have ll:(nY P++l.map qj).length=P.length+l.length:=by rw[Ac,ko,Ab]
 walk_at "w";rw[e0];refine xr (Au hk) ?_;refine⟨vS _ _,?_⟩;rw[rj];refine fO (λi J=>J=nY ((P.take i).map f)) (by rw[ll];exact big _ (by lia)) trivial rfl ?_ ?_
 ·rintro i y J hy rfl;rcases wL hy with⟨c,x,ex,rfl⟩|⟨c,B,eB,rfl⟩
  ·refine ju hd (qw (vp x (Aw ex)) ⟨_,DU _,rfl,?_⟩);rw[A9,ex,Aj,fM];rfl
  ·have e1:P.take (i+1)=P.take i:=by rw[A5 (by lia),A5 c]
   have z:gi (λJ L'=>L'=L/\J=nY ((P.take (i+1)).map f)) (nY ((P.take i).map f)) L:=⟨_,DU _,rfl,by rw[e1]⟩;rw[o8 B];exact z
 rintro J rfl p1 h1;rw[ll,A5 (by lia)];walk_at "w";rw[e0];intro p2 h2;have s1:=By (o:=.lst (nY (P.map f))) h1;have s2:=s1.trans (By (o:=.lst [Y.str g]) h2);refine⟨_,_,q8,By h2 _ _ q8,?_,λp3 h3=>?_⟩
 ·rw[ko,Ab];exact Bd (big _ (by show 1+P.length<=20000;lia))
 have s3:=s2.trans (By (o:=.lst ([Y.str g]++nY (P.map f))) h3);have g3:∀{o},qf (qf (qf L p1 (.lst (nY (P.map f)))) p2 (.lst [Y.str g])) p3 o p3=some o:=q8;refine⟨vS _ _,?_⟩;rw[rj];have g3:=g3 (o:=.lst ([Y.str g]++nY (P.map f)));generalize qf (qf (qf L p1 (.lst (nY (P.map f)))) p2 (.lst [Y.str g])) p3 (.lst ([Y.str g]++nY (P.map f)))=L3 at s3 g3 ⊢;refine fO (λi J=>J=(l.take (i-P.length)).map λB=>qj (mn f B)) (by rw[ll];exact big _ (by lia)) trivial (by rw[Nat.zero_sub];rfl) ?_ ?_
 ·rintro i y J hy rfl;rcases wL hy with⟨c,x,ex,rfl⟩|⟨c,B,eB,rfl⟩
  ·exact⟨_,DU _,rfl,by rw[Nat.sub_eq_zero_of_le c,Nat.sub_eq_zero_of_le (Bd c)]⟩
  ·obtain⟨h1,h2⟩:=va B (Aw eB);have z:cA n [qj B,.ref d] L3 λz L4=>gi (λJ L'=>L'=L3/\J=(l.take (i+1-P.length)).map λB=>qj (mn f B)) (((l.take (i-P.length)).map λB=>qj (mn f B))++[z]) L4:=by refine⟨B,d,t,f,rfl,s3 _ _ hd,h2,h1,_,DU _,rfl,?_⟩;rw[Nat.succ_sub c,A9,eB,Aj];rfl
   rw[o8 B] at z ⊢;exact z
 rintro J rfl p4 h4;rw[ll,DF,Bh];refine⟨_,_,(q9 (v5 g3 h4)).trans g3,q8,?_,λp5 h5=>?_⟩
 ·rw[Ac,ko,Ab,Ab];exact Bd (big _ (by show 1+P.length+l.length<=20000;lia))
 exact qx q8 (aY ((s3.trans (By h4)).trans (By h5)) T)
theorem SR.pl{E:List Nat}(h:SR ks R E):∀B∈xg R,∀x∈plR B,x<ks.length:=λB U x J=>by
 obtain⟨⟨p,s⟩,_⟩:=h.rls B U;have l:=s.lt;cases s with
 |link=>exact l x J
 |ei=>rw[Ai.mp J];exact l _ (Ak ..)
 |bo=>rw[Ai.mp J];exact l _ (Ak ..)
 |cu g j h3 o=>
  rcases Ap.mp J with rfl|J
  ·exact l _ (Aq _ (g.sub _ h3))
  ·rw[Ai.mp J];exact l _ (Ah _ (j.sub _ o))
def af1(f:Nat->Nat):Kn->Kn
 |.lf t n=>.lf t n
 |.nd e i j=>.nd e (f i) (f j)
theorem yy(f:Nat->Nat)(k:Kn):hZ f (some k)=some (af1 f k):=by cases k<;>rfl
def fN(Pt:Addr):jr:=λys L Q=>∃a,∃ks:List Kn,∃R:Ru,∃E:List Nat,∃s:Int,ys=[.ref a,qj R,.int s]/\L a=some (.lst (jb ks))/\cG ks/\SR ks R E/\(qo R).Perm (List.range ks.length)/\ks.length<=63/\L Pt=some (.tb lamQ)/\
 ∀w f kt,L w=none->kt.length=ks.length->Ren f (ks.map some) (kt.map some)->Q (.tup [.ref w,qj (mn f R)]) (qf L w (.lst (jb kt)))
theorem uS :∀ys L Q,fN Pt ys L Q->xp (mG (gm Pt) (cA 120)) 7 ys L Q:=by
 rintro ys L Q ⟨a,T,R,E,s,rfl,ha,aL,sr,tp,hz,hP,q⟩;have big:=bg_;obtain⟨l,o⟩:∃l,l=T.map some:=⟨_,rfl⟩;have ba:l.length=T.length:=by rw[o,Ab]
 have ok:OkO l:=by rw[o];exact abd aL
 have bf:L a=some (.lst (cH l)):=by rw[o,aV];exact ha
 intro d hd w hw;have a5:L w=none:=zw hw;have a1:d≠w:=v5 q8 hw;have s0:qg L (qf (qf L d (.dct [])) w (.lst [])):=(By hd).trans (By hw);refine⟨a,T,s,rfl,s0 _ _ ha,by rw[<-o];exact ok,by lia,s0 _ _ hP,λD J hD pm pf=>?_⟩;rw[<-o] at pm pf;have bg:L D=none:=zw (zw hD);have ag:w≠D:=v5 q8 hD;have al:d≠D:=v5 ((q9 a1).trans q8) hD;have lq:J.length=l.length:=by rw[pm.length_eq,Bw]
 have bb:J.Nodup:=pm.nodup_iff.mpr Cb;have mq:∀p∈J,p<l.length:=λp hp=>A6.mp (pm.mem_iff.mp hp);have G0:aih L l J d w D 0 0 (λ_=>0) (([]:List Kn).map some) [] (qf (qf (qf L d (.dct [])) w (.lst [])) D (.lst (nY J))):=
  ⟨s0.trans (By hD),(q9 al).trans ((q9 a1).trans q8),(q9 ag).trans q8,q8,Al _,λp=>rfl,Gap.nil _ _,Al _⟩
 refine x5 q8 λkeep kp=>vh ⟨λi τ C=>∃f,∃j:List Kn,∃U c5 c6,τ=[some (.ref a),some (qj R),some (.int s),some (.ref d),some (.ref w),c5,c6]/\aih L l J d w D i 0 f (j.map some) U C/\j.length=i,⟨_,[],_,_,_,rfl,G0,rfl⟩,?_,?_,?_⟩
 ·rintro i τ C ⟨f,j,U,c5,c6,rfl,G,_⟩;exact kp C (by rw[G.hD,q8])
 ·rintro i y τ C hy ⟨f,j,U,c5,c6,rfl,G,lm⟩;obtain⟨p,ep,rfl⟩:=iL hy;have hi:=jv ep;have hp:p<l.length:=mq p (Aw ep);obtain⟨k,hk⟩:∃k,T[p]?=some k:=⟨_,Ae (by lia)⟩;have au:l[p]?=some (some k):=by rw[o,An,hk];rfl
  have pn:p∉J.take i:=λhm=>by
   have e2:J=J.take i++p::J.drop (i+1):=by rw[Ae hi] at ep;rw[<-AV ep,Cg,Ba]
   have nd:=bb;rw[e2] at nd;exact(Az.mp nd).2.2 p hm p (Ak ..) rfl
  have et:J.take (i+1)=J.take i++[p]:=by rw[A9,ep];rfl
  have a2:∀e i' j',some k=some (.nd e i' j')->i'∈J.take i/\j'∈J.take i:=λe i' j' z=>kR ok pm pf ep (by rw[au,z]);have a3:∀x∈J.take i,∀e i' j',l[x]?=some (some (.nd e i' j'))->i'∈J.take i/\j'∈J.take i:=λx hx e i' j' z=>by
   obtain⟨n,hn⟩:=Bj hx;have bc:=jv hn;rw[AX] at bc;rw[Dw (by lia)] at hn;obtain⟨h1,h2⟩:=kR ok pm pf hn z;have sb:∀y,y∈J.take n->y∈J.take i:=λy hy=>by
    have:J.take n=(J.take i).take n:=by rw[List.take_take,BX (by lia)]
    rw[this] at hy;exact B3 hy
   exact⟨sb _ h1,sb _ h2⟩
  have av:C w=some (.lst (jb j)):=by rw[G.hw,aV]
  have vp:∀y:Nat,kg (iB U (.inl (p:Int)) (.int ((j.length:Nat):Int))) (.inl (y:Int))=if y∈J.take i++[p] then some (.int (((if y=p then j.length else f y):Nat):Int)) else none:=λy=>by
   rw[so];by_cases e:y=p
   ·subst e;rw[AD rfl,AD rfl,AD (Ah _ (Ai.mpr rfl))]
   ·rw[AE (λz=>e (DA.mp (Sum.inl.inj z))),AE e,G.val];by_cases h:y∈J.take i
    ·rw[AD h,AD (Aq _ h)]
    ·rw[AE h,AE λz=>(Ar.mp z).elim h λz=>e (Ai.mp z)]
  have kl:=G.len;have I:(jb j).length=j.length:=Ab ..;refine qc av ?_;rw[I];refine ju G.hd ⟨big _ (by lia),?_⟩;have bd:a≠d:=v5 ha hd;refine qc ((q9 bd).trans (G.sub _ _ ha)) (qw (xb hk) ?_);have a4:qf C d (.dct (iB U (.inl (p:Int)) (.int ((j.length:Nat):Int)))) w=some (.lst (jb j)):=(q9 (AB a1)).trans av;have hb:∀x∈J.take i,x<l.length:=λx hx=>mq x (B3 hx);have em:(j++[af1 f k]).map some=j.map some++[hZ f (some k)]:=by rw[yy,Aj];rfl
  have done:gi (λτ C=>∃f,∃j:List Kn,∃U c5 c6,τ=[some (.ref a),some (qj R),some (.int s),some (.ref d),some (.ref w),c5,c6]/\aih L l J d w D (i+1) 0 f (j.map some) U C/\j.length=i+1) [some (.ref a),some (qj R),some (.int s),some (.ref d),some (.ref w),some (.int (p:Int)),some (l5 k)] (qf (qf C d (.dct (iB U (.inl (p:Int)) (.int ((j.length:Nat):Int))))) w (.lst (jb j++[l5 (af1 f k)]))):=by
   refine⟨_,DU _,λx=>if x=p then j.length else f x,j++[af1 f k],_,_,_,rfl,⟨(G.sub.upd hd).upd a5,(q9 a1).trans q8,?_,(q9 (AB ag)).trans ((q9 (AB al)).trans G.hD),?_,λy=>?_,?_,?_⟩,by rw[Ac,lm];rfl⟩
   ·rw[q8,aV];unfold jb;rw[Aj];rfl
   ·have:=dy U (.inl (p:Int)) (.int ((j.length:Nat):Int));lia
   ·rw[et];exact vp y
   ·rw[et,em];have:=G.gap.step hb pn au a3 a2;rw[Ab] at this;exact this
   ·rw[Ab,Ac,lm];show i+1<=_;lia
  refine qc a4 ?_;cases k with
  |lf t n=>exact qx a4 ⟨by rw[I];exact big _ (by lia),done⟩
  |nd e p1 p2=>
   obtain⟨m1,m2⟩:=a2 e p1 p2 rfl;have v1:=vp p1;have v2:=vp p2;rw[AD (Aq _ m1),AE λ(z:p1=p)=>pn (z▸m1)] at v1;rw[AD (Aq _ m2),AE λ(z:p2=p)=>pn (z▸m2)] at v2;refine ju ((q8:qf C d _ d=some _)) (qw v1 ?_);refine ju ((q8:qf C d _ d=some _)) (qw v2 ?_);exact qx a4 ⟨by rw[I];exact big _ (by lia),done⟩
 ·rintro τ C ⟨f,j,U,c5,c6,rfl,G,lm⟩;have eq:(nY J).length=J.length:=Ab ..;rw[eq] at G lm;have et:J.take J.length=J:=Bh;have val:∀p,p<l.length->kg U (.inl (p:Int))=some (.int (f p:Int)):=λp hp=>by rw[G.val,et,AD (pm.mem_iff.mpr (A6.mpr hp))]
  have gap:Gap l (List.range l.length) f (j.map some):=by have g:=G.gap;rw[et] at g;exact⟨λp hp=>g.at_ p (pm.mem_iff.mpr hp),λp hp r hr=>g.inj p (pm.mem_iff.mpr hp) r (pm.mem_iff.mpr hr),λx k hx=>let ⟨r,hr,e⟩:=g.only x k hx;⟨r,pm.mem_iff.mp hr,e⟩,g.ok⟩
  have rd:=xi R;have tl:=tp.length_eq;rw[Bw] at tl;refine⟨R,d,U,f,rfl,G.hd,λB hB x hx=>val x (by rw[ba];exact sr.pl B hB x hx),by lia,?_⟩;refine aY (ER G.sub (by rw[G.hw,aV])) (q w f j a5 (by lia) ⟨by rw[<-o];exact gap,by rw[Ab,Ab];lia⟩)
def agu(J:jr)(p1:jr)(p2:jr)(p3:jr)(p4:jr)(p5:jr):ke:=(qr (zr (jh qz) (qh 3))
 (qr (zr (jh qz) (qh 4))
 (qr (bB (dm (qb 0)) (wo 2 (zm (qh 5) (zm (qh 6) kw))) (qr (aa1 7 8 (qd (zc J (qd (qb 6) (a9 (qb 5) (jf 48271)))) (qd (zc J (qd (qb 6) (a9 (qb 5) (jf 69621)))) qz)))
 (qr (jz (yB (zn yGt (zn kc (zn kc (cY 3) (cY 4)) (jf 12)) (qb 2))) ahj jk)
 (qr (zr (zn w6 (qb 7) (jf 9)) (qh 9))
 (qr (zr (zn am (qb 7) (jf 9)) (qh 7))
 (jz (yOr (yB (zn yLt (qb 9) (jf 3))) (fJ (qb 4) (jh qz))) (qr (j9 (wu zq (qb 3) (qd (vt (qd (dH "plain") (qd (zc p1 (qd (qb 1) (qd (zn w6 (qb 8) (jf 3)) qz))) qz))) qz)))
 (qr (j9 (wu zq (qb 3) (qd (vt (qd (dH "turned") (qd (zc p1 (qd (qb 1) (qd (zn w6 (qb 8) (jf 3)) qz))) qz))) qz)))
 (kF (jz (fJ (zn w6 (qb 7) (jf 2)) (jf 1)) (j9 (wu zq (qb 3) (qd (wu cR (qb 3) (qd (zn jE (cY 3) (jf 2)) qz)) qz))) jk)
 (qr (zr (zn jE (cY 3) (jf 2)) (qh 10))
 (j9 (wu zq (qb 4) (qd (jh (qd (vt (qd (dH "link") (qd (qb 10) (qd (zn kc (qb 10) (jf 1)) qz)))) (qd (jh (qd (qb 10) (qd (zn kc (qb 10) (jf 1)) qz))) qz))) qz))))))) (jz (yB (zn yLt (qb 9) (jf 6))) (j9 (zc p2 (qd (qb 3) (qd (zn ay (qb 4) (zn w6 (qb 8) (cY 4))) (qd (qb 7) (qd (zn am (qb 8) (jf 64)) qz)))))) (jz (wZ (yB (zn yLt (qb 9) (jf 8))) (yB (zn yGt (cY 4) (jf 1)))) (j9 (zc p3 (qd (qb 3) (qd (qb 4) (a9 (qb 7) (qb 8)))))) (j9 (zc p4 (qd (qb 3) (qd (qb 4) (a9 (qb 7) (qb 8))))))))))))))
 (kF (jz (fJ (qb 4) (jh qz)) (qr (j9 (wu zq (qb 3) (qd (vt (qd (dH "turned") (qd (zc p1 (a9 (qb 1) (jf 0))) qz))) qz)))
 (qr (j9 (wu zq (qb 3) (qd (vt (qd (dH "plain") (qd (zc p1 (a9 (qb 1) (jf 0))) qz))) qz)))
 (j9 (wu zq (qb 4) (qd (jh (qd (vt (qd (dH "link") (a9 (jf 0) (jf 1)))) (qd (jh (a9 (jf 0) (jf 1))) qz))) qz))))) jk)
 (qr (dJ (yB (zn yGt (cY 4) (jf 1))) (j9 (zc p3 (qd (qb 3) (qd (qb 4) (qd (zn kc (zn am (qb 1) (jf 7)) (cY 4)) (qd (zn am (qb 1) (jf 3)) qz)))))))
 (je (zc p5 (qd (qb 3) (qd (zn ay (jy 4 0) (jf 0)) (x9 (qb 1)))))))))))
def mJ(Pt:Addr):jr:=λys L Q=>∃J,∃U:List Int,∃s:Int,∃room:Nat,ys=[.ref J,.int s,.int (room:Int)]/\L J=some (.lst (U.map Y.int))/\U.length<=1000/\room<=60/\L Pt=some (.tb lamQ)/\
 ∀w ks R E,L w=none->TrO ks R E->(qo R).Perm (List.range ks.length)->Q (.tup [.ref w,qj R]) (qf L w (.lst (jb ks)))
theorem adi :∀ys L Q,mJ Pt ys L Q->xp (agu lK lQ lU oh o7 (fN Pt)) 11 ys L Q:=by
 rintro ys L Q ⟨cy,ns,s,room,rfl,ag,bg,bc,hP,q⟩;have big:=bg_;have g:∀fo:List Tr,(zj fo).length=fo.length:=λfo=>Ab ..;have C:∀J:List Kn,(jb J).length=J.length:=λJ=>Ab ..;intro U al l au;have nkf:U≠l:=v5 q8 au;have aL:L l=none:=(By al).none au;have F0:m7 L (qf (qf L U (.lst [])) l (.lst [])) U l [] []:=by
  refine⟨⟨by rw[q9 nkf];exact q8,λt ht=>by simp at ht,λt ht=>by simp at ht,by simp,by simp,by simp[nkf],λp k e=>by simp at e,(By al).trans (By au),λx hx=>?_⟩,q8⟩;rcases Ap.mp hx with rfl|hx
  ·exact al
  ·rw[Ai.mp hx];exact aL
 generalize qf (qf L U (.lst [])) l (.lst [])=L1 at F0;refine x5 (F0.b.sub _ _ ag) λkeep kp=>vh ⟨λ_ τ L'=>TW L U l s room τ L',?_,?_,?_,?_⟩
 ·exact TW.of F0 (Bi _)
 ·rintro i τ L' ⟨c0,c5,c6,c7,c8,c9,eO,J,fo,rfl,F,hb⟩;exact kp L' (by rw[F.b.sub _ _ ag,F0.b.sub _ _ ag])
 ·rintro i y τ L' ey ⟨c0,c5,c6,c7,c8,c9,eO,J,fo,rfl,F,hb⟩;obtain⟨z,ez,rfl⟩:=bQ ey;obtain⟨cell,ec,rfl⟩:∃cell:Int,ns[i]?=some cell/\z=Y.int cell:=by rw[An] at ez;obtain⟨z,e1,e2⟩:=Am.mp ez;exact⟨z,e1,e2.symm⟩
  have hi:=(AK.mp ec).1;refine⟨cell,((i:Nat):Int),48271,rfl,by exact AZ _,by omega,by decide,by decide,λone h1 bh=>⟨cell,((i:Nat):Int),69621,rfl,by exact AZ _,by omega,by decide,by decide,λtwo h2 bi=>?_⟩⟩;refine qc F.b.hk (qc F.hf ?_);refine v0 (λc=>?_) λc=>?_
  ·exact⟨_,DU _,TW.of F hb⟩
  have c:¬((((jb J).length:Nat):Int)+(((zj fo).length:Nat):Int)+12 > (room:Int)):=c;rw[C,g] at c;refine⟨(by decide:(0:Int)<9),⟨by decide,by decide⟩,?_⟩;refine v0 (λc3=>?_) λc3=>?_
  case' refine_1=>
   obtain⟨L2,ba⟩:∃L2,L2=L':=⟨_,rfl⟩;rw[<-ba];have F':m7 L L2 U l J fo:=by rw[ba];exact F
  case' refine_2=>
   intro p hp;refine wz (by decide) (By hp _ _ F.hf) q8 ((F.b.mono (By hp)).dats (by lia)) (.nil:Paired (jc _ 0) _ []) ?_;show kj (Da.eqs (fo.map eY) []) _ _;rw[vH];have F':m7 L (qf L' p (.lst [])) U l J fo:=F.mono (By hp);generalize qf L' p (.lst [])=L2 at F';refine v0 (λc0=>?_) λc0=>?_
  case' refine_2.refine_2=>
   have bd:0<fo.length:=by cases fo with|nil=>exact absurd rfl c0|cons _ _=>simp
   have F:=F';refine v0 (λc6=>?_) λc6=>?_
   ·obtain⟨j,t,ej,lj,et⟩:=iG bd two;refine qc F.hf ⟨(by show(0:Int)<((zj fo).length:Int);rw[g];lia),qc F.hf (qw (v:=.ref t.a) (by show eM (zj fo) (two % ((zj fo).length:Int))=_;rw[g,ej];exact xq (by unfold zj;rw[An,et];rfl)) ?_)⟩;obtain⟨pre,post,ep⟩:=CH (Aw et);rw[ep] at F hb;refine⟨⟨by decide,by decide⟩,L,U,l,J,pre,post,t,one / 9,two / 64,rfl,F,by lia,λL3 I a1 F3 h1 h2 _=>?_⟩;refine⟨_,DU _,?_⟩;exact TW.of F3 (by rw[ep] at c;lia)
   refine v0 (λc8=>?_) λc8=>?_
   ·refine qc F.hf ?_;refine v0 (λc1=>?_) λc1=>?_
    ·have c1:(((zj fo).length:Nat):Int) > 1:=c1;rw[g] at c1;refine⟨L,U,l,J,fo,one / 9,two,rfl,F,by lia,by lia,by lia,λL3 I a1 F3 h1 h2 _=>?_⟩;refine⟨_,DU _,?_⟩;exact TW.of F3 (by lia)
    ·refine⟨L,U,l,J,fo,one / 9,two,rfl,F,by assumption,by lia,by lia,λL3 I a1 F3 h1 h2 h3=>?_⟩;refine⟨_,DU _,?_⟩;exact TW.of F3 (by lia)
   ·refine⟨L,U,l,J,fo,one / 9,two,rfl,F,by lia,by lia,by lia,λL3 I a1 F3 h1 h2 h3=>?_⟩;refine⟨_,DU _,?_⟩;exact TW.of F3 (by lia)
  all_goals
   obtain⟨nm,a2⟩:∃nm,nm=mkS (aU s (two % 3)):=⟨_,rfl⟩;have av:df nm:=by rw[a2];exact rO _ _
   refine qc F'.b.hk ⟨(by decide:(0:Int)<3),s,two % 3,rfl,qx F'.b.hk ⟨big _ (by rw[C];omega),?_⟩⟩;refine qc q8 ⟨(by decide:(0:Int)<3),s,two % 3,rfl,qx q8 ⟨big _ (by rw[Ac,C];simp;omega),?_⟩⟩;rw[<-a2,xw];have e1:(jb J++[.tup [.str "plain",.str nm]])++[.tup [.str "turned",.str nm]]=jb (J++[.lf false nm,.lf true nm]):=by unfold jb;rw[Aj,AH];rfl
   rw[e1];refine⟨λτ L3=>∃(b:Bool) (d0 d10:Option Y),τ=[d0,some (.int s),some (.int (room:Int)),some (.ref U),some (.ref l),some (.int ((i:Nat):Int)),some (.int cell),some (.int (one / 9)),some (.int two),some (.int (one % 9)),d10]/\L3=qf L2 U (.lst (jb (J++[.lf b nm,.lf (!b) nm]))),?_,?_⟩
   ·refine⟨(by decide:(0:Int)<2),?_⟩;show kj (decide (one / 9 % 2=1)) _ _;refine v0 (λc2=>?_) λc2=>?_
    ·have l2:(jb (J++[Kn.lf false nm,.lf true nm])).length=J.length+2:=by rw[C,Ac];rfl
     have t2:((((jb (J++[Kn.lf false nm,.lf true nm])).length:Nat):Int)-2).toNat=J.length:=by rw[l2];omega
     refine qc q8 (qc q8 (qc q8 (qx q8 ⟨?_,?_,qw (v:=l5 (.lf false nm)) ?_ ?_⟩)))
     ·show(0:Int)<=(((jb (J++[Kn.lf false nm,.lf true nm])).length:Nat):Int)-2;rw[l2];omega
     ·show(((jb (J++[Kn.lf false nm,.lf true nm])).length:Nat):Int)-2<_;omega
     ·show(jb (J++[Kn.lf false nm,.lf true nm]))[((((jb (J++[Kn.lf false nm,.lf true nm])).length:Nat):Int)-2).toNat]?=_;rw[t2];unfold jb;rw[An,dw];rfl
     ·rw[xw];refine qx q8 ⟨big _ ?_,?_⟩
      ·refine AQ (CK ..) ?_;show(jb (J++[Kn.lf false nm,.lf true nm])).length<=20000;rw[l2];omega
      ·refine⟨true,_,_,rfl,?_⟩;rw[xw];have e3:(jb (J++[Kn.lf false nm,.lf true nm])).eraseIdx ((((jb (J++[Kn.lf false nm,.lf true nm])).length:Nat):Int)-2).toNat++[l5 (.lf false nm)]=jb (J++[.lf true nm,.lf false nm]):=by rw[t2];unfold jb;rw[Aj,List.eraseIdx_append_of_length_le (by simp),Ab,Cf,Aj,AH];rfl
       rw[e3];rfl
    ·exact⟨false,_,_,rfl,rfl⟩
   ·rintro bj L3 ⟨b,d0,d10,rfl,rfl⟩;have l2:(jb (J++[Kn.lf b nm,.lf (!b) nm])).length=J.length+2:=by rw[C,Ac];rfl
    have nn:(((jb (J++[Kn.lf b nm,.lf (!b) nm])).length:Nat):Int)-2=((J.length:Nat):Int):=by rw[l2];omega
    have a3:qf L2 U (.lst (jb (J++[.lf b nm,.lf (!b) nm]))) l=some (.lst (zj fo)):=by rw[q9 (AB nkf)];exact F'.hf
    have en:∀z:Int,z=((J.length:Nat):Int)->zf [J.length,J.length+1]=[.int z,.int (z+1)]:=λz e=>by rw[e];rfl
    have er:∀z:Int,z=((J.length:Nat):Int)->qj (.link J.length (J.length+1))=.tup [.str "link",.int z,.int (z+1)]:=λz e=>by rw[e];rfl
    have en:=en _ nn;have er:=er _ nn;refine qc q8 (qc a3 λpb a4 pa a5=>?_);have H:=F'.link av b (pb:=pb) (pa:=pa) a4 (by rw[en];exact a5) rfl;refine qx (((By a4).trans (By a5)) _ _ a3) ⟨big _ (by rw[g];omega),?_⟩;rw[en,er] at H;refine⟨_,DU _,?_⟩;exact TW.of H (by rw[Ac,Ac];simp;omega)
 ·rintro τ L' ⟨c0,c5,c6,c7,c8,c9,eO,J,fo,rfl,F,hb⟩;refine⟨λτ L3=>∃c0 c5 c6 c7 c8 c9 eO J fo,τ=[c0,some (.int s),some (.int (room:Int)),some (.ref U),some (.ref l),c5,c6,c7,c8,c9,eO]/\m7 L L3 U l J fo/\1<=fo.length/\J.length+fo.length<=max room 3,?_,?_⟩
  ·intro p hp;refine wz (by decide) (By hp _ _ F.hf) q8 ((F.b.mono (By hp)).dats (by lia)) (.nil:Paired (jc _ 0) _ []) ?_;show kj (Da.eqs (fo.map eY) []) _ _;rw[vH];have F':m7 L (qf L' p (.lst [])) U l J fo:=F.mono (By hp);generalize qf L' p (.lst [])=L2 at F';refine v0 (λc0=>?_) λc0=>?_
   ·subst c0;have k0:J=[]:=by cases J with|nil=>rfl|cons k r=>exact absurd ((F.b.tm 0).mpr (by simp)) (by simp)
    subst k0;obtain⟨nm,a2⟩:∃nm,nm=mkS (aU s 0):=⟨_,rfl⟩;have av:df nm:=by rw[a2];exact rO _ _
    refine qc F'.b.hk ⟨s,0,rfl,qx F'.b.hk ⟨big _ (by decide),?_⟩⟩;refine qc q8 ⟨s,0,rfl,qx q8 ⟨big _ (by show 1<=20000;decide),?_⟩⟩;rw[<-a2,xw];have a3:∀o,qf L2 U o l=some (.lst (zj [])):=λo=>by rw[q9 (AB nkf)];exact F'.hf
    refine qc (a3 _) λpb a4 pa a5=>?_;have H:=F'.link av true (pb:=pb) (pa:=pa) a4 a5 rfl;refine qx (((By a4).trans (By a5)) _ _ (a3 _)) ⟨big _ (by show 0<=20000;decide),?_⟩;exact⟨_,_,_,_,_,_,_,_,_,rfl,H,by simp,by simp;lia⟩
   ·exact⟨_,_,_,_,_,_,_,J,fo,rfl,F',(by cases fo with|nil=>exact absurd rfl c0|cons _ _=>simp),by lia⟩
  ·rintro τ L' ⟨c0,c5,c6,c7,c8,c9,eO,J,fo,rfl,F,h1,hb⟩;refine⟨λm τ L3=>∃c0 c5 c6 c7 c8 c9 eO J fo,τ=[c0,some (.int s),some (.int (room:Int)),some (.ref U),some (.ref l),c5,c6,c7,c8,c9,eO]/\m7 L L3 U l J fo/\1<=fo.length/\fo.length=m/\J.length+fo.length<=max room 3,⟨_,_,_,_,_,_,_,_,_,_,rfl,F,h1,rfl,hb⟩,?_⟩;rintro m τ L' ⟨c0,c5,c6,c7,c8,c9,eO,J,fo,rfl,F,h1,hm,hb⟩;refine qc F.hf ?_;refine v0 (λc1=>?_) λc1=>?_
   ·have c1:(((zj fo).length:Nat):Int) > 1:=c1;rw[g] at c1;refine⟨λτ L3=>∃c0 c5 c6 c7 c8 c9 eO J fo,τ=[c0,some (.int s),some (.int (room:Int)),some (.ref U),some (.ref l),c5,c6,c7,c8,c9,eO]/\m7 L L3 U l J fo/\1<=fo.length/\fo.length+1=m/\J.length+fo.length<=max room 3,?_,?_⟩
    ·rintro τ L3 ⟨d0,d5,d6,d7,d8,d9,d10,I,a1,rfl,F3,g1,g2,g3⟩;exact⟨m-1,by lia,_,_,_,_,_,_,_,_,_,rfl,F3,g1,by lia,g3⟩
    ·refine⟨⟨by decide,by decide⟩,qc F.hf ⟨⟨by decide,by decide⟩,L,U,l,J,fo,_,_,rfl,F,by lia,by lia,by lia,λL3 I a1 F3 g1 g2 _=>?_⟩⟩;exact⟨_,DU _,_,_,_,_,_,_,_,I,a1,rfl,F3,by lia,by lia,by lia⟩
   ·have c1:¬((((zj fo).length:Nat):Int) > 1):=c1;rw[g] at c1;obtain⟨t,rfl⟩:∃t,fo=[t]:=by
     match fo,h1,c1 with
     |[t],_,_=>exact⟨t,rfl⟩
     |t::u::r,_,c=>exact absurd (show(((t::u::r).length:Nat):Int) > 1 by simp;lia) c
    have ta:=(F.b.ht t (Ak ..)).1;refine qc F.hf (qc ta ?_);have tp:(qo t.R).Perm (List.range J.length):=by have nd:=F.b.nd;have tm:=F.b.tm;simp at nd tm;exact(A7 nd Cb).mpr λx=>by rw[tm,A6]
    have sr:=F.b.sr t (Ak ..);have hk:J.length<=63:=by simp at hb;lia
    refine⟨U,J,t.R,t.E,s,rfl,F.b.hk,F.b.ok,sr,tp,hk,F.b.sub _ _ hP,λw f I bb lk rn=>?_⟩;obtain⟨T,bf⟩:=TrO.ren F.b.ok sr tp (by lia) rn lk;exact aY (ER (F.b.sub.trans (By bb)) q8) (q w I _ _ (F.b.sub.none bb) T bf)
def uJ:Option Kn->Da
 |none=>.s .non
 |some (.lf t n)=>.tup [.s (.str (kL t)),.s (.str n)]
 |some (.nd e i j)=>.tup [.s (.str (kN e)),.s (.int ((i:Nat):Int)),.s (.int ((j:Nat):Int))]
theorem aes :∀k:Option Kn,jc L 1 (uo k) (uJ k)
 |none=>.inl ⟨rfl,rfl⟩
 |some (.lf t n)=>aS (.cons (EJ _) (.cons (EJ _) .nil))
 |some (.nd e i j)=>aS (.cons (EJ _) (.cons (EG _) (.cons (EG _) .nil)))
theorem ot{L:qm}:∀wd:List (Option Kn),Paired (jc L 1) (cH wd) (wd.map uJ)
 |[]=>.nil
 |k::r=>.cons (aes k) (ot r)
theorem ac8:∀wd:List (Option Kn),Da.eqs (wd.map uJ) (wd.map uJ)=true
 |[]=>rfl
 |k::r=>by
  have:Da.eq (uJ k) (uJ k)=true:=by cases k with|none=>rfl|some k=>cases k<;>simp[uJ,Da.eq,Da.eqs,ij]
  rw[AO,Da.eqs,this,ac8 r];rfl
theorem ad9(J:List Int)(lo hi:Option Int):∃ms:List Int,hX (J.map Y.int) lo hi=ms.map Y.int/\ms.length<=J.length:=by unfold hX;refine⟨(J.drop (HT.sIx (J.map Y.int).length 0 lo)).take (HT.sIx (J.map Y.int).length (J.map Y.int).length hi-HT.sIx (J.map Y.int).length 0 lo),by rw[List.map_take,List.map_drop],?_⟩;rw[AX,Ct];lia
end L3
namespace L2
open PySem PySem.Spec PyProof.Rows
section
variable {w:World}
theorem sQ{Q:Option Obj->Shared->Prop}(h:Q (s.heap.get? a) s):wpAny M A (loadIfAlive a) Q E s:=by intro U J p;simp only[loadIfAlive,Sem.wp_loadIfAlive];exact h
abbrev gx(h:Heap)(z TI TO t:Addr)(b:Bool):Prop:=h.get? z=some { cls:=.type "zip",dict:=none,data:=.fields #[rawInt t,.bool b,.bool false,.ref TI,.ref TO],slots:=#[] }
theorem qV{TI TO t:Addr}{b:Bool}{o:Obj}{Q:Bool->Shared->Prop}(hz:gx s.heap z TI TO t b)(J:s.heap.get? t=some o)(q:∀h',gx h' z TI TO t true->Heap.SameBut z s.heap h'->Q false { s with heap:=h' }):
 wpAny (model prog w) A (Builtin.SmallTypes.ownedTupleIsFree (.ref z)) Q E s:=by
 unfold Builtin.SmallTypes.ownedTupleIsFree;refine Aa (AN hz rfl (x:=rawInt t) rfl ?_);show wpAny _ _ (loadIfAlive (t:Int).toNat >>= _) _ _ _;refine Aa (sQ ?_);rw[AY,J];refine Aa (AN hz rfl (x:=.bool b) rfl ?_);cases b with
 |true=>
  dsimp only;rw[AE (by decide)];exact Ag (q s.heap hz ⟨rfl,λ_ _=>rfl⟩)
 |false=>
  dsimp only;rw[AD (by decide)];exact Aa (wpAny_setField_rec hz (by simp) λh' U g=>Ag (q h' U g))
theorem xZ{TI TO t:Addr}{c:Bool}{o:Obj}{k:Nat}{xs ys:Array Value}{x y:Value}(D:ZAp z TI TO i1 i2 l1 l2)(hz:gx s.heap z TI TO t c)(C:s.heap.get? t=some o)(I:IsPair s.heap TI (.ref i1) (.ref i2))
 (h1:dC t1 s.heap i1 l1 k) (h2:dC t2 s.heap i2 l2 k) (T:gj t1 s.heap l1 xs) (q2:gj t2 s.heap l2 ys) (hx:xs[k]?=some x) (hy:ys[k]?=some y)
 (q:∀h',gx h' z TI TO t true->dC t1 h' i1 l1 (k+1)->dC t2 h' i2 l2 (k+1)->IsPair h' s.heap.objs.size x y->
  (∀c o,c≠z->c≠i1->c≠i2->s.heap.get? c=some o->h'.get? c=some o)->Q (.ref s.heap.objs.size) { s with heap:=h' }):
 wpAny (model prog w) A (Builtin.«zip.__next__» ⟨[.ref z],[]⟩) (λjs s'=>∃v,js=.done (.ret v)/\Q v s') E s:=by
 refine Aa (m:=field (.ref z) 2) (AN hz rfl (x:=.bool false) rfl (Aa (m:=field (.ref z) 3) (AN hz rfl (x:=.ref TI) rfl (Aa (Bc I rfl ?_)))));refine Aa (m:=Builtin.SmallTypes.ownedTupleIsFree (.ref z)) (qV hz C λg1 z1 J=>?_);simp only[BP,if_false];refine Aa ?_;rw[<-Array.forIn_toList];simp only[BW,CP];refine Aa (Aa (A3 (Aa (m:=Builtin.SmallTypes.nextOf (.ref i1)) ((h1.on λo e=>J.extBut _ _ D.n3 e).next (T.on λo e=>J.extBut _ _ D.n8 e) hx λg2 p U=>Ag (Ag ?_)))));refine Aa (Aa (A3 (Aa (m:=Builtin.SmallTypes.nextOf (.ref i2)) (dC.next (l:=l2) (i:=k) (xs:=ys) (x:=y) (t:=t2) (h2.on λo e=>U.extBut _ _ (AB D.n7) (J.extBut _ _ D.n4 e)) (q2.on λo e=>U.extBut _ _ D.n14 (J.extBut _ _ D.n12 e)) hy λg r j=>Ag (Ag (Ag ?_))))));refine Aa (wpAny_newTuple (Ag ⟨_,rfl,?_⟩) (by show 2<=sizeLine;decide));have sz:g.objs.size=s.heap.objs.size:=by rw[j.1,U.1,J.1]
 have k4:∀c o,c≠z->c≠i1->c≠i2->s.heap.get? c=some o->(g.push { cls:=.type "tuple",data:=.seq #[x,y] }).get? c=some o:=λc o a1 a3 a4 e=>xT _ (j.extBut _ _ a4 (U.extBut _ _ a3 (J.extBut _ _ a1 e)));have js:=q (g.push { cls:=.type "tuple",data:=.seq #[x,y] }) (xT _ (j.extBut _ _ (AB D.n4) (U.extBut _ _ (AB D.n3) z1))) (p.on λo e=>xT _ (j.extBut _ _ D.n7 e)) (r.on λo e=>xT _ e)
  (by rw[<-sz];exact y1 _ rfl) k4
 show Q (.ref g.objs.size) _;rw[sz];exact js
theorem xO{TI TO t:Addr}{c:Bool}{o:Obj}{k:Nat}{xs ys:Array Value}{Q:Fin->Shared->Prop}(hh:A.handled=none)(D:ZAp z TI TO i1 i2 l1 l2)(hz:gx s.heap z TI TO t c)(ht:s.heap.get? t=some o)(hI:IsPair s.heap TI (.ref i1) (.ref i2))
 (h1:dC t1 s.heap i1 l1 k) (h2:dC t2 s.heap i2 l2 k) (q1:gj t1 s.heap l1 xs) (q2:gj t2 s.heap l2 ys) (U:xs[k]?=none\/ys[k]?=none)
 (q:∀h' e,(∀c o,c≠z->c≠TO->c≠i1->c≠i2->s.heap.get? c=some o->h'.get? c=some o)->(∃o,h'.get? e=some o/\o.cls=.type "StopIteration")->E (.ref e) { s with heap:=h' }):
 wpAny (model prog w) A (Builtin.«zip.__next__» ⟨[.ref z],[]⟩) Q E s:=by
 refine Aa (m:=field (.ref z) 2) (AN hz rfl (x:=.bool false) rfl (Aa (m:=field (.ref z) 3) (AN hz rfl (x:=.ref TI) rfl (Aa (Bc hI rfl ?_)))));refine Aa (m:=Builtin.SmallTypes.ownedTupleIsFree (.ref z)) (qV hz ht λg1 z1 J=>?_);simp only[BP,if_false];refine Aa ?_;rw[<-Array.forIn_toList];simp only[BW,CP];refine Aa (Aa (A3 (Aa (m:=Builtin.SmallTypes.nextOf (.ref i1)) ?_)));have g:=h1.on λo e=>J.extBut _ _ D.n3 e;have j:=q1.on λo e=>J.extBut _ _ D.n8 e;cases p:xs[k]? with
 |none=>exact dC.stop hh g j p λg2 e s2 r=>q g2 e (λc o C _ I _ w=>s2 _ _ I (J.extBut _ _ C w)) r
 |some x=>
  have hy:ys[k]?=none:=by rcases U with h|h;rw[p] at h;cases h;exact h
  refine dC.next g j p λg2 a2 T=>Ag (Ag ?_);refine Aa (Aa (A3 (Aa (m:=Builtin.SmallTypes.nextOf (.ref i2)) (dC.stop (t:=t2) (l:=l2) (i:=k) (xs:=ys) hh (h2.on λo e=>T.extBut _ _ (AB D.n7) (J.extBut _ _ D.n4 e)) (q2.on λo e=>T.extBut _ _ D.n14 (J.extBut _ _ D.n12 e)) hy λg4 e s4 r=>?_))));exact q g4 e (λc o C _ I a4 w=>s4 _ _ a4 (T.extBut _ _ I (J.extBut _ _ C w))) r
def ZS(t1 t2:Bool)(z TI TO i1 i2 l1 l2 B:Addr)(i:Nat)(h:Heap):Prop:=
 ((IsZip h z TI TO .none/\∃a b,IsPair h TO a b)\/∃t c u v,B<=t/\gx h z TI TO t c/\IsPair h t u v)/\IsPair h TI (.ref i1) (.ref i2)/\dC t1 h i1 l1 i/\dC t2 h i2 l2 i
structure ZB(z TI TO i1 i2 l1 l2 B:Addr):Prop where
 ap:ZAp z TI TO i1 i2 l1 l2
 d1:TI≠TO
 d2:TI≠i1
 d3:TI≠i2
 lt:∀c∈[z,TI,TO,i1,i2],c<B
section
variable {TI TO B:Addr}{xs ys:Array Value}
theorem ZS.keep(st:ZS t1 t2 z TI TO i1 i2 l1 l2 B i h)(k:∀b o,b∈[z,TI,TO,i1,i2]\/B<=b->h.get? b=some o->h'.get? b=some o):ZS t1 t2 z TI TO i1 i2 l1 l2 B i h':=by
 obtain⟨U,g,j,l⟩:=st;refine⟨?_,k _ _ (.inl (by simp)) g,j.on λo e=>k _ o (.inl (by simp)) e,l.on λo e=>k _ o (.inl (by simp)) e⟩;rcases U with⟨a,u,v,b⟩|⟨t,c,u,v,J,a,b⟩
 ·exact .inl ⟨k _ _ (.inl (by simp)) a,u,v,k _ _ (.inl (by simp)) b⟩
 ·exact .inr ⟨t,c,u,v,J,k _ _ (.inl (by simp)) a,k _ _ (.inr J) b⟩
theorem ZS.type(st:ZS t1 t2 z TI TO i1 i2 l1 l2 B i s.heap):s.TypeIs (.ref z) "zip" := by
 rcases st.1 with⟨a,_⟩|⟨t,c,u,v,J,a,b⟩
 ·exact⟨_,a,rfl⟩
 ·exact⟨_,a,rfl⟩
theorem aet{x y:Value}{Q:Option Value->Shared->Prop}(D:ZB z TI TO i1 i2 l1 l2 B)(hB:B<=s.heap.objs.size)(st:ZS t1 t2 z TI TO i1 i2 l1 l2 B i s.heap)(r:gj t1 s.heap l1 xs)(C:gj t2 s.heap l2 ys)(I:xs[i]?=some x)(T:ys[i]?=some y)
 (q:∀h',ZS t1 t2 z TI TO i1 i2 l1 l2 B (i+1) h'->IsPair h' s.heap.objs.size x y->(∀c o,c∉[z,TI,TO,i1,i2]->s.heap.get? c=some o->h'.get? c=some o)->Q (some (.ref s.heap.objs.size)) { s with heap:=h' }):
 wpAny (model prog w) A (pyNext (.ref z)) Q E s:=by
 have hT:=st.type;obtain⟨s1,g,s3,s4⟩:=st;unfold pyNext;refine Aa (wpAny_attempt (wpAny_callSpecial?_slot (name:="__next__") hT En (wpAny_call_entry En hT F.entry_zip_next ?_ (F.args_zip_next_1 _))));have ne:∀{c d:Addr},c∈[z,TI,TO,i1,i2]->B<=d->d≠c:=λh1 h2 z=>by have:=D.lt _ h1;rw[z] at h2;exact absurd h2 (Nat.not_le.mpr this)
 rcases s1 with⟨a,u,v,b⟩|⟨t,c,u,v,j,a,b⟩
 ·refine abz D.ap a g b s3 s4 r C I T λh' g1 g2 g3 p l U=>Ag (q h' ⟨.inr ⟨_,false,x,y,hB,g1,l⟩,U _ _ D.ap.n1 D.d1 D.d2 D.d3 g,g3,p⟩ l λc o J e=>?_);simp only[Ap,Br,or_false,not_or] at J;exact U c o J.1 J.2.2.1 J.2.2.2.1 J.2.2.2.2 e
 ·refine xZ D.ap a b g s3 s4 r C I T λh' g1 g3 p l U=>Ag (q h' ⟨.inr ⟨t,true,u,v,j,g1,U _ _ (ne (by simp) j) (ne (by simp) j) (ne (by simp) j) b⟩,U _ _ D.ap.n1 D.d2 D.d3 g,g3,p⟩ l λc o J e=>?_);simp only[Ap,Br,or_false,not_or] at J;exact U c o J.1 J.2.2.2.1 J.2.2.2.2 e
theorem afz{Q:Option Value->Shared->Prop}(j:A.handled=none)(D:ZB z TI TO i1 i2 l1 l2 B)(st:ZS t1 t2 z TI TO i1 i2 l1 l2 B i s.heap)(l:gj t1 s.heap l1 xs)(p:gj t2 s.heap l2 ys)(J:xs[i]?=none\/ys[i]?=none)
 (q:∀h',(∀c o,c∉[z,TI,TO,i1,i2]->s.heap.get? c=some o->h'.get? c=some o)->Q none { s with heap:=h' }):wpAny (model prog w) A (pyNext (.ref z)) Q E s:=by
 have r:=st.type;obtain⟨s1,C,I,s4⟩:=st;unfold pyNext;refine Aa (wpAny_attempt (wpAny_callSpecial?_slot (name:="__next__") r En (wpAny_call_entry En r F.entry_zip_next ?_ (F.args_zip_next_1 _))));have js:∀h' e,(∀c o,c≠z->c≠TO->c≠i1->c≠i2->s.heap.get? c=some o->h'.get? c=some o)->(∃o,h'.get? e=some o/\o.cls=.type "StopIteration")->wpAny (model prog w) A (isInstance (.ref e) (.type "StopIteration") >>= λb=>if b=true then pure none else throw (.ref e)) Q E { s with heap:=h' }:=λh' e gk he=>by obtain⟨o,ho,g⟩:=he;refine Aa (wpAny_isInstance (T:="StopIteration") (b:=true) ⟨o,ho,g⟩ isSubtype_stop (Ag (q h' λc o U e=>?_)));simp only[Ap,Br,or_false,not_or] at U;exact gk c o U.1 U.2.2.1 U.2.2.2.1 U.2.2.2.2 e
 rcases s1 with⟨a,u,v,b⟩|⟨t,c,u,v,hb,a,b⟩
 ·exact aaf j D.ap a C b I s4 l p J js
 ·exact xO j D.ap a b C I s4 l p J js
end
end
inductive rD:Hp->List Addr->List (V×V)->Hp->Prop
 |nil {H:Hp}:rD H [] [] H
 |snoc {H H1:Hp} {ps:List Addr} {vs:List (V×V)} {p:Addr} {v:V×V}:rD H ps vs H1->H1 p=none->rD H (ps++[p]) (vs++[v]) (upd H1 p (.tup [v.1,v.2]))
theorem aay{o u:HO}(h:a≠b):upd (upd H a o) b u=upd (upd H b u) a o:=by
 funext c;by_cases J:c=a
 ·subst J;rw[qp h,zp,zp]
 ·by_cases U:c=b
  ·subst U;rw[zp,qp J,zp]
  ·rw[qp U,qp J,qp J,qp U]
theorem Sq.new{K:Af}{p:Addr}{o:HO}(h:Sq t K H a xs)(J:H p=none):Sq t K (upd H p o) a xs:=by
 have rd:∀u,Rd H a u->Rd (upd H p o) a u:=λu r=>by
  rcases r with r|⟨c,r⟩
  ·exact .inl (by rw[qp (zu r J)];exact r)
  ·exact .inr ⟨c,by rw[qp (zu r J)];exact r⟩
 cases t with|false=>exact h.imp (rd _) id|true=>exact h.imp (rd _) id
section
variable {σ:L2.St}{TI TO S:Addr}{ys:List V}{R:Result->Shared->Prop}{res:Value}
theorem aem(hh:A.handled=none)(D:ZB z TI TO i1 i2 l1 l2 (S+1))(hS:S∉[z,TI,TO,i1,i2])(hR:∀s' G ps,z9 X pins σ (upd G S (.lst (ps.map V.ref))) s'->rD H ps (xs.zip ys) G->G S=none->R (.ok (.ret res)) s'):
 ∀(k i:Nat) (s:Shared) (G:Hp) (ps:List Addr),min xs.length ys.length-i=k->i<=min xs.length ys.length->z9 X pins σ (upd G S (.lst (ps.map V.ref))) s->(∀b∈[z,TI,TO,i1,i2],jJ X pins (upd G S (.lst (ps.map V.ref))) b)->ZS t1 t2 z TI TO i1 i2 l1 l2 (S+1) i s.heap->rD H ps ((xs.zip ys).take i) G->G S=none->Sq t1 X.K G l1 xs->Sq t2 X.K G l2 ys->ps.length=i->
  codeAny (model X.prog X.w) A (.builtin "list.extend.loop" ⟨[.ref S,.ref z,res],[]⟩) R s:=by
 have zl:(xs.zip ys).length=min xs.length ys.length:=DQ;intro k
 induction k with
 |zero=>
  intro i s G ps hk hi I hf st nt j J U hl;have hi:min xs.length ys.length<=i:=by lia
  obtain⟨a2,p,p1,_⟩:=I.seq (J.new j);obtain⟨a3,t,p2,_⟩:=I.seq (U.new j);have e1:=p.length;have e2:=t.length;refine codeAny_builtin F.entry_extend_loop ?_;rw[Ej El _];rw[A5 (by lia)] at nt;refine Aa (m:=pyNext (.ref z)) (afz hh D st p1 p2 (by rcases Nat.le_total xs.length ys.length with h|h;exact .inl (by simp;lia);exact .inr (by simp;lia)) λh' kk=>Ag (hR _ G ps (I.turnedL (t':=s.toks) (fp:=[z,TI,TO,i1,i2]) kk hf) nt j))
 |succ k ih=>
  intro i s G ps hk hi I hf st nt j J U hl;obtain⟨a2,p,p1,z1⟩:=I.seq (J.new j);obtain⟨a3,t,p2,_⟩:=I.seq (U.new j);have hx:xs[i]?=some (xs[i]'(by lia)):=Ae (by lia);have hy:ys[i]?=some (ys[i]'(by lia)):=Ae (by lia);have ez:(xs.zip ys).take (i+1)=(xs.zip ys).take i++[(xs[i]'(by lia),ys[i]'(by lia))]:=by rw[A9,(Dr (z:=(xs[i]'(by lia),ys[i]'(by lia)))).mpr ⟨hx,hy⟩];rfl
  generalize xs[i]'(by lia)=x at hx ez;generalize ys[i]'(by lia)=y at hy ez;obtain⟨ux,a4,a5⟩:=p.get hx;obtain⟨uy,ag,al⟩:=t.get hy;obtain⟨_,_,_,_,_,eS⟩:=I.lstM (l:=S) zp;have lS:S<s.heap.objs.size:=ya eS;refine codeAny_builtin F.entry_extend_loop ?_;rw[Ej El _];refine Aa (m:=pyNext (.ref z)) (aet D lS st p1 p2 (x:=ux) (y:=uy) (by simpa using a4) (by simpa using ag) λh' au tp kk=>?_);have I1:=I.turnedN (t':=s.toks) (fp:=[z,TI,TO,i1,i2]) (h':=h') (a:=s.heap.objs.size) (o:=.tup [x,y]) kk hf (Al _) ⟨by show 2<=sizeLine;decide,[ux,uy],.cons a5 (.cons al .nil),⟨_,tp,rfl,_,rfl⟩⟩;have C:S≠s.heap.objs.size:=A1 lS;have gP:G s.heap.objs.size=none:=by have:=I.hok.fresh (Al s.heap.objs.size);rw[qp (AB C)] at this;exact this
  generalize s.heap.objs.size=P at I1 C gP lS tp ⊢;have T:upd (upd G S (.lst (ps.map V.ref))) P (.tup [x,y]) S=some (.lst (ps.map V.ref)):=by rw[qp C,zp]
  obtain⟨_,a1,n,r,hn,e⟩:=I1.lstM T;rw[Ab,hl] at hn;have I2:=I1.lset (its':=a1++[.ref P]) (f:=(·.push (.ref P))) (ys:=(ps++[P]).map V.ref) (t':=s.toks) T e (by simp) (by rw[Aj];exact r.append (.cons rfl .nil)) (by rw[Ab,Ac,Bu];lia);rw[aay C,wJ] at I2;have li:a1.length=i:=by lia
  refine Aa (m:=updateSeq S (·.push (.ref P))) (wpAny_updateSeq (s:={ s with heap:=h' }) e rfl (Ag ⟨plainId_quiet El _,ih (i+1) _ (upd G P (.tup [x,y])) (ps++[P]) (by lia) (by lia) I2 (λb g=>?_) (au.keep λb o g q=>?_) (by rw[ez];exact nt.snoc gP) (by rw[qp C];exact j) (J.new gP) (U.new gP) (by rw[Ac,hl];rfl)⟩)
   (by rw[Ao];lia) (by rw[DN,Ao];lia))
  ·obtain⟨f0,f1⟩:=hf b g;have bl:=D.lt b g;have bS:b≠S:=λz=>hS (z▸g);refine⟨?_,f1⟩;rw[qp bS,qp (by lia)];rw[qp bS] at f0;exact f0
  ·have bS:S≠b:=by
    rcases g with g|g
    ·exactλz=>hS (z▸g)
    ·lia
   exact(At _ _ bS).trans q
theorem yq:typeLookup (.type "zip") "__len__" = pure none:=by rw[typeLookup_type,builtinLookup_eq_fast];kernel_rfl
theorem tV:typeLookup (.type "zip") "__length_hint__" = pure none:=by rw[typeLookup_type,builtinLookup_eq_fast];kernel_rfl
theorem abn{r:Addr}{Q:Bool->Shared->Prop}(U:s.TypeIs (.ref r) "zip")(h:Q true s):wpAny (model X.prog X.w) A (Builtin.List.listLengthHint (.ref r)) Q E s:=by unfold Builtin.List.listLengthHint;refine Aa (wpAny_specialOf U yq ?_);refine wpAny_ite_split (λJ=>absurd J (by decide)) (λ_=>?_);refine wpAny_ite_split (λJ=>absurd J (by decide)) (λ_=>?_);refine Aa (wpAny_specialOf U tV (Ag h))
theorem pP(hh:A.handled=none)(I:z9 X pins σ H s)(D:ZB z TI TO i1 i2 l1 l2 s.heap.objs.size)(hz:IsZip s.heap z TI TO .none)(hf:∀b∈[z,TI,TO,i1,i2],jJ X pins H b)(st:ZS t1 t2 z TI TO i1 i2 l1 l2 (s.heap.objs.size+1) 0 s.heap)(t:Sq t1 X.K H l1 xs)(C:Sq t2 X.K H l2 ys)
 (q:∀s' G ps,z9 X pins σ (upd G s.heap.objs.size (.lst (ps.map V.ref))) s'->rD H ps (xs.zip ys) G->G s.heap.objs.size=none->Q (.ref s.heap.objs.size) s'):wpAny (model X.prog X.w) A (call (.type "list") [.ref z]) Q E s:=by
 have hn:=I.hok.fresh (Al s.heap.objs.size);have I0:=I.laid (t':=s.toks) (h':=s.heap.push { cls:=.type "list",data:=.seq #[] }) (a:=s.heap.objs.size) (o:=.lst []) (λb u e=>xT _ e) (Al _) ⟨Bi _,[],0,.nil,y1 _ rfl⟩;have hS:s.heap.objs.size∉[z,TI,TO,i1,i2]:=λh=>Cj _ (D.lt _ h);have D':ZB z TI TO i1 i2 l1 l2 (s.heap.objs.size+1):=⟨D.ap,D.d1,D.d2,D.d3,λc hc=>BL (D.lt c hc)⟩;refine callType_codes (Q₁:=λobj U=>obj=.ref s.heap.objs.size/\U={ s with heap:=s.heap.push { cls:=.type "list",data:=.seq #[] } }) F.called_list (F.typeCall_list_1 _) F.entry_list_init (code_list_new _ ⟨rfl,rfl⟩) λobj U g=>?_;obtain⟨rfl,rfl⟩:=g;have l:(s.heap.push { cls:=.type "list",data:=.seq #[] }).get? s.heap.objs.size=some { cls:=.type "list",data:=.seq #[] }:=y1 _ rfl;have ve:=st.keep (h':=s.heap.push { cls:=.type "list",data:=.seq #[] }) λb o _ e=>xT _ e;refine⟨⟨_,l,rfl⟩,F.args_list_init_2 _ _,?_⟩;have key:∀(h:Heap) (c:Nat),h.get? s.heap.objs.size=some { cls:=.type "list",data:=.seq #[] c }->(∀b o,b≠s.heap.objs.size->(s.heap.push { cls:=.type "list",data:=.seq #[] }).get? b=some o->h.get? b=some o)->
  codeAny (model X.prog X.w) A.in1 (.builtin "list.extend.loop" ⟨[.ref s.heap.objs.size,.ref z,.none],[]⟩) (wants (λr j=>r=.none/\Q (.ref s.heap.objs.size) j) E) { s with heap:=h }:=λh c e k=>by
  refine aem (X:=X) (pins:=pins) (σ:=σ) (H:=H) (xs:=xs) (ys:=ys) (A:=A.in1) hh D' hS (λs' G ps I' nt gS=>⟨rfl,q s' G ps I' nt gS⟩) _ 0 _ H [] rfl (Bi _) ?_ (λb J=>?_) (ve.keep λb o J e=>k b o ?_ e) .nil hn t C rfl
  ·exact I.laid (t':=s.toks) (h':=h) (a:=s.heap.objs.size) (o:=.lst []) (λb u e=>k b u (A1 (ya e)) (xT _ e)) (Al _) ⟨Bi _,[],c,.nil,e⟩
  ·obtain⟨f0,f1⟩:=hf b J;exact⟨by rw[qp (A1 (D.lt b J))];exact f0,f1⟩
  ·rcases J with J|J
   ·exact A1 (D.lt b J)
   ·exact Cs J
 show wpAny _ _ (Builtin.List.listItems (.ref s.heap.objs.size) >>= λold=>Builtin.List.listUpdate (.ref s.heap.objs.size) (λ_=>#[]) >>= λ_=>letGo old.toList.reverse >>= λ_=>Builtin.List.listExtendWith (.ref s.heap.objs.size) (.ref z) .none) _ _ _;refine Aa ?_;unfold Builtin.List.listItems;refine Aa (Bc l rfl (Ag ?_));refine Aa (m:=updateSeq s.heap.objs.size (λ_=>#[])) (wpAny_updateSeq l rfl ?_);have e2:=DT (Obj.mapSeq (λ_=>(#[]:Array Value))) l rfl;have p:∀b o,b≠s.heap.objs.size->(s.heap.push { cls:=.type "list",data:=.seq #[] }).get? b=some o->((s.heap.push { cls:=.type "list",data:=.seq #[] }).update s.heap.objs.size (Obj.mapSeq (λ_=>(#[]:Array Value)))).get? b=some o:=λb o J e=>(At _ _ (AB J)).trans e;generalize (s.heap.push { cls:=.type "list",data:=.seq #[] }).update s.heap.objs.size (Obj.mapSeq (λ_=>(#[]:Array Value)))=g2 at e2 p ⊢;refine Aa (wpAny_letGo ?_);unfold Builtin.List.listExtendWith;have a1:=ve.keep (h':=g2) λb o J e=>p b o (by rcases J with J|J;exact A1 (D.lt b J);exact Cs J) e;have T2:=a1.type (s:={ s with heap:=g2 });refine Aa (wpAny_typeOf (T:="zip") T2 ?_);have sr:Builtin.List.listSameRef (.ref s.heap.objs.size) (.ref z)=false:=by have:s.heap.objs.size≠z:=λe=>hS (by rw[e];simp);simp[Builtin.List.listSameRef,this]
 rw[AE (by rw[sr];decide)];refine Aa (wpAny_pyIter_zip (s:={ s with heap:=g2 }) (p _ _ (A1 (D.lt z (by simp))) (xT _ hz)) ?_);refine Aa (A3 (abn T2 ?_));rw[AD (by decide)];refine Aa (BC (Aa ?_));show wpAny _ _ (updateSeq s.heap.objs.size (·.push .none) >>= λ_=>updateSeq s.heap.objs.size (·.pop)) _ _ _;refine Aa (wpAny_updateSeq (s:={ s with heap:=g2 }) e2 rfl ?_);have e3:=DT (Obj.mapSeq (·.push Value.none)) e2 rfl;refine wpAny_updateSeq (hz:=by seq_fits) e3 rfl ?_;have e4:=DT (Obj.mapSeq (·.pop)) e3 rfl;exact Ag ⟨plainId_quiet El _,key _ _ e4 λb o J e=>(At _ _ (AB J)).trans ((At _ _ (AB J)).trans (p b o J e))⟩
end
def tLZ(X:Cx)(ta:TA):TE:=λσ H Q=>ta σ H λvs H1=>∃t1 t2 a b xs ys,vs=[.ref a,.ref b]/\Sq t1 X.K H1 a xs/\Sq t2 X.K H1 b ys/\∀S G ps,rD H1 ps (xs.zip ys) G->G S=none->Q (.ref S) (upd G S (.lst (ps.map V.ref)))
theorem uU{a b:Expr}{ta:TA}{ps:Pos}(hc:X.calm=true)(t:Gl X "list")(C:X.mg "list"=none)(T:Gl X "zip")(a1:X.mg "zip"=none)(ha:PA X [a,b] ta)(hs:starEach [a,b] X.env=[(false,eval a X.env),(false,eval b X.env)]:=by rfl)
 (j:starEach [b] X.env=[(false,eval b X.env)]:=by rfl):PE X (.Call (.Name "list" p1) [.Call (.Name "zip" p2) [a,b] [] ps] [] pos) (tLZ X ta):=by
 intro J s σ H Q I h;refine wpAny_Call_Name_kw (az I t C ku ?_);refine callWith_type1 ?_ rfl rfl;show wpAny _ _ (spliced ((false,eval (.Call (.Name "zip" p2) [a,b] [] ps) X.env)::[])) _ _ s;refine Ef ?_;refine wpAny_Call_Name_kw (az I T a1 aja ?_);refine callWith_type1 (aI (ha ps J s σ H _ I h) λus U ⟨vs,H1,g,r1,q1⟩=>?_) (by rw[hs,j]) (by rw[j];rfl);obtain⟨t1,t2,l1,l2,xs,ys,e,hx,hy,q⟩:=q1;subst e;obtain⟨u1,u2,rfl,a2,a3⟩:=zo.two r1;cases a2;cases a3;obtain⟨au,_,w1,_⟩:=g.seq hx;obtain⟨av,_,w2,_⟩:=g.seq hy;have a4:l1<U.heap.objs.size:=by
  cases t1 with
  |false=>obtain⟨o,e,_⟩:=w1;exact ya e
  |true=>obtain⟨o,e,_⟩:=w1;exact ya e
 have a5:l2<U.heap.objs.size:=by
  cases t2 with
  |false=>obtain⟨o,e,_⟩:=w2;exact ya e
  |true=>obtain⟨o,e,_⟩:=w2;exact ya e
 refine xI w1 w2 λg1 gz gI gO l p gk=>Ek ?_;have I2:z9 X J σ H1 { U with heap:=g1 }:=g.kept (t':=U.toks) gk;refine pP (s:={ U with heap:=g1 }) (g.ok.hd hc) I2 ⟨?_,?_,?_,?_,λc hc=>?_⟩ gz (λc hc=>?_) ⟨.inl ⟨gz,_,_,gO⟩,gI,l,p⟩ hx hy λs' G ps I' nt gS=>⟨.ref _,_,I',rfl,q _ G ps nt gS⟩
 ·have ag:@LT.lt Nat instLTNat l1 U.heap.objs.size:=a4;have al:@LT.lt Nat instLTNat l2 U.heap.objs.size:=a5;constructor<;>exact tI (by lia)
 ·exact tI (by lia)
 ·exact tI (by lia)
 ·exact tI (by lia)
 ·simp only[Ap,Br,or_false] at hc;rcases hc with rfl|rfl|rfl|rfl|rfl
  ·exact ya gz
  ·exact ya gI
  ·exact ya gO
  ·obtain⟨o,e,_⟩:=l.ob;exact ya e
  ·obtain⟨o,e,_⟩:=p.ob;exact ya e
 ·have r:U.heap.objs.size<=c:=by simp only[Ap,Br,or_false] at hc;rcases hc with rfl|rfl|rfl|rfl|rfl<;>exact leN (by simp +arith only)
  exact g.fpOk r (g.hok.fresh r)
end L2
namespace L3
open PySem L2
theorem aff{H1:Hp}{ps:List Addr}{vs:List (V×V)}(n:rD H ps vs H1)(U:zy G H L):j8 H H1/\zy G H1 L/\Paired (λp (v:V×V)=>H1 p=some (.tup [v.1,v.2])) ps vs:=by
 induction n with
 |nil=>exact⟨DV _,U,.nil⟩
 |snoc _ J g=>
  obtain⟨a,b,c⟩:=g;exact⟨a.trans (DW J),b.skip J,Words.Paired.app (DY c λq v e=>(qp (zu e J)).trans e) (.cons zp .nil)⟩
theorem sH{G:G3}{H H1:Hp}(t:j8 H H1):∀{xs ys:List Y} {us vs:List V} {ps:List Addr},x6 G H xs us->x6 G H ys vs->Paired (λp (v:V×V)=>H1 p=some (.tup [v.1,v.2])) ps (us.zip vs)->x6 G H1 (lC xs ys) (ps.map V.ref)
 |[],ys,us,vs,ps,h1,h2,h3=>by cases h1;cases h3;rfl
 |x::xs,[],us,vs,ps,h1,h2,h3=>by cases h2;rw[List.zip_nil_right] at h3;cases h3;rfl
 |x::xs,y::ys,us,vs,ps,⟨u,J,U,g,h1⟩,⟨v,j,l,o,h2⟩,h3=>by subst U l;cases h3 with|cons a b=>exact⟨_,_,rfl,⟨_,_,rfl,cD.of a,⟨_,_,rfl,g.ts t,_,_,rfl,o.ts t,rfl⟩⟩,sH t h1 h2 b⟩
def aak(ta:dE)(τ:jq)(L:qm)(Q:YK):Prop:=ta τ L λvs L1=>match vs with
 |[x,y]=>dU L1 x λxs=>dU L1 y λys=>∀p,L1 p=none->Q (.ref p) (qf L1 p (.lst (lC xs ys)))
 |_=>False
theorem adu{a b:Expr}{ta:dE}{ps:Pos}(hc:X.calm=true)(g:Gl X "list")(j:X.mg "list"=none)(l:Gl X "zip")(o:X.mg "zip"=none)(ha:QA X [a,b] ta)(hs:starEach [a,b] X.env=[(false,eval a X.env),(false,eval b X.env)]:=by rfl)
 (p:starEach [b] X.env=[(false,eval b X.env)]:=by rfl):QE X (.Call (.Name "list" p1) [.Call (.Name "zip" p2) [a,b] [] ps] [] pos) (aak ta):=DX (uU hc g j l o ha hs p) λσ H Q τ L Q3 rs rl z k=>
 ⟨τ,L,_,rs,rl,z,λus H1 ys L1 t1 J r t=>by
  split at t
  ·rename_i x y;obtain⟨xs,ex,z2⟩:=kh t;obtain⟨zs,ez,z3⟩:=kh z2;obtain⟨u,v,rfl,r1,r2⟩:=r.inv2;obtain⟨b1,q1,C,rfl,s1,w1⟩:=ab4 J r1 ex;obtain⟨b2,q2,I,rfl,s2,w2⟩:=ab4 J r2 ez;refine⟨b1,b2,q1,q2,C,I,rfl,s1,s2,λS G ps nt T=>?_⟩;obtain⟨t2,U,pr⟩:=aff nt J;exact k _ _ _ _ ((t1.trans t2).trans (DW T)) (U.newL T (sH t2 w1 w2 pr)) (by rfl) (z3 S (U.none T))
  ·exact t.elim⟩
end L3
namespace L2
open PySem PySem.Spec PyProof.Rows
def Itv(K:Af)(a:Addr)(n:Nat):It:=⟨λi H=>i<n/\∃xs x,aK K H a xs/\xs[n-1-i]?=some x,λi H x H'=>H'=H/\∀xs,aK K H a xs->xs[n-1-i]?=some x,λi H=>n<=i⟩
theorem acy{P:Program}{w:World}{K:Af}(a it:Addr)(n:Nat):uW P w K tg (Itv K a n) [it] it (λi h=>i<=n/\h.IsRevIter it a ((n:Int)-1-(i:Int))) where
 mem:=by simp
 obj:=λi h st b U=>by
  have e:b=it:=by simpa using U
  subst e;obtain⟨_,o,e,c,d⟩:=st;exact⟨o,e,λv z=>by rw[d] at z;cases z⟩
 keep:=λi h j st k=>⟨st.1,st.2.at λo e=>k it (by simp) o e⟩
 item:=by
  intro X t hw C hc i J s σ H E I l st r;subst t hw C;obtain⟨hi,xs,x,hq,hx⟩:=r;obtain⟨_,st⟩:=st;obtain⟨a1,rv,p,hz⟩:=I.list hq;obtain⟨u,hu,ru⟩:=rv.get hx;obtain⟨T,f1,f2,f3,f4,f5⟩:=l it (by simp);have e1:(n:Int)-1-(i:Int)=((n-1-i:Nat):Int):=by omega
  have e2:((n-1-i:Nat):Int)-1=(n:Int)-1-((i+1:Nat):Int):=by omega
  rw[e1] at st;refine wpAny_pyNext_rev_item st p.isList (x:=u) (by simpa using hu) λj g sb=>?_;rw[e2] at g;have I1:z9 X J σ H { s with heap:=j }:=I.turned (t':=s.toks) (λb o U e=>(sb.2 b U).trans e) T f1 f3 f4 f5;obtain⟨o,e,c,d⟩:=id g;exact⟨u,rfl,rH (s:={ s with heap:=j }) e c d (by decide) ⟨x,H,I1,ru,⟨rfl,λys hy=>by rw[I.list_inj hy hq];exact hx⟩,⟨hi,g⟩,λb U=>(l b U).1⟩⟩
 done:=by intro X t hw C hc i J s σ H E I l st r;subst t hw C;obtain⟨hi,st⟩:=st;have r:n<=i:=r;obtain⟨T,f1,f2,f3,f4,f5⟩:=l it (by simp);rw[show(n:Int)-1-(i:Int) = -1 by omega] at st;exact wpAny_pyNext_rev_end (I.ok.hd hc) st λj eb=>⟨rfl,I.turned (t':=s.toks) (λb o U e=>eb b o U e) T f1 f3 f4 f5⟩
 self:=λ_ _ _ _ _ st h=>wpAny_pyIter_revIter st.2 h
def aqx(K:Af)(ta:TA):TI:=λσ H R=>ta σ H λvs H1=>∃a xs,vs=[.ref a]/\aK K H1 a xs/\R (Itv K a xs.length) H1
theorem i7:bootBuiltins "reversed"=some (.type "reversed"):=by decide +kernel
theorem ajd{a:Expr}{ta:TA}(T:Gl X "reversed")(hm:X.mg "reversed"=none)(ha:PA X [a] ta)(hs:starEach [a] X.env=[(false,eval a X.env)]:=by rfl):
 PI X tg (.Call (.Name "reversed" p) [a] [] pos) (aqx X.K ta):=by
 intro J s r H R I h;refine Call_ (az I T hm i7 (BO (aI (ha pos J s r H _ I h) λus U ⟨vs,t,j,r1,q1⟩=>?_) hs rfl));obtain⟨l,C,e,hq,q⟩:=q1;subst e;obtain⟨u,rfl,ru⟩:=i3 r1;cases ru;obtain⟨g,rv,pl,hz⟩:=j.list hq;have el:=rv.length;refine call_reversed_list pl.isList ?_;have st:(U.heap.push (revObj l ((g.toArray.size:Int)-1))).IsRevIter U.heap.objs.size l ((C.length:Int)-1-((0:Nat):Int)):=by rw[Ao,<-el];exact⟨_,y1 _ rfl,rfl,by simp[revObj]⟩
 have I2:z9 X J r t { U with heap:=U.heap.push (revObj l ((g.toArray.size:Int)-1)) }:=j.kept (t':=U.toks) λb o e=>xT _ e;refine wpAny_pyIter_revIter (s:={ U with heap:=U.heap.push (revObj l ((g.toArray.size:Int)-1)) }) st ?_;refine⟨_,[_],_,_,t,rfl,I2,acy l _ C.length,⟨Bi _,st⟩,λb hb=>?_,q⟩;have e:b=U.heap.objs.size:=by simpa using hb
 subst e;exact j.fpOk (Al _) (j.hok.fresh (Al _))
end L2
namespace L3
open PySem L2
theorem uM{keep:qm->Prop}(h:∀H L,j8 H₀ H->zy G H L->keep L->∃xs,aK G.K H a xs/\x6 G H ys xs):dc G H₀ (Itv G.K a ys.length) ys.reverse keep where
 go:=λi H L t J U g=>by obtain⟨xs,sq,r⟩:=h H L t J U;have l:=r.length;rw[Bk] at g;exact⟨g,xs,xs[ys.length-1-i]'(by omega),sq,Ae _⟩
 yld:=λi H L x C y t J U j ⟨e,f⟩=>by
  subst e;obtain⟨xs,sq,r⟩:=h _ L t J U;have g:i<ys.length:=by have:=(AK.mp j).1;rwa[Bk] at this
  rw[Cn g] at j;obtain⟨I,o,p⟩:=r.get j;have:=f xs sq;rw[o] at this;cases this;exact⟨DV _,J,p⟩
 stop:=λH L t J U=>by show ys.length<=ys.reverse.length;rw[Bk];exact Al _
def aia(tl:xj)(τ:jq)(L:qm)(R:List Y->(qm->Prop)->qm->Prop):Prop:=tl τ L λx L1=>match x with
 |.ref a=>oZ L1 a λys keep L=>R ys.reverse keep L
 |_=>False
theorem alf{a:Expr}(T:Gl X "reversed")(hm:X.mg "reversed"=none)(ha:QE X a te)(hs:starEach [a] X.env=[(false,eval a X.env)]:=by rfl)
 (g:starEach [a] X.env=(false,eval a X.env)::starEach [] X.env:=by rfl):QI X tg (.Call (.Name "reversed" p) [a] [] pos) (aia te):=PI.imq (ajd T hm (ck ha iF g) hs) λσ H R τ L R3 rs j z k=>by
 refine⟨τ,L,_,rs,j,z,λv l y t t1 J o C=>?_⟩;cases y with
 |ref a=>
  obtain⟨ys,keep,es,kp,hk,z2⟩:=lO C;have I:∀H L,j8 l H->zy X.g3 H L->keep L->∃U,aK X.K H a U/\x6 X.g3 H ys U:=λH L _ j e=>bx j (hk L e);obtain⟨U,sq,r⟩:=I l t (DV _) J kp;cases o;exact⟨a,U,rfl,sq,by rw[<-r.length];exact k _ l _ _ t t1 J (uM I) z2⟩
 |_=>exact C.elim
end L3
namespace L2
open PySem PySem.Spec PyProof.Rows
def afn(K:Af)(J:Addr)(th:TS)(D:oX):X1:=λσ c H=>∃C,c=.ref C/\PySem.W.exmOne K (.ref C) (.ref J)=some true/\th D σ H
def am0(K:Af)(J:Addr)(tb:X1->TS)(th:TS):TS:=λD σ H=>tb (afn K J th D) D σ H
theorem afe{Dc:Addr}{a2:Pos}{j:List Stmt}{t:Stmt}{tb:X1->TS}{th:TS}(hs:X.stack=X.env::X.outer)(hf:X.env.frame=some X.env.locals)(hx:X.ex=[])
 (hg:Gl X x) (hm:X.mg x=some (.ref Dc)) (hb:∀(pn:List (Addr×Obj)) (xe:Value->Shared->Prop) (E1:X1),bK (X.tr pn xe) E1->gH (X.tr pn xe) body (tb E1)) (hh:∀a,gH (X.hnd a) (t::j) th)
 (a4:Ed x:=by decide):PS X (.Try body [.ExceptHandler (some (.Name x np)) none (t::j) a2] [] [] pos) (am0 X.K Dc tb th):=by
 intro U s σ H D I h;have tk:bK (X.tr (X.pn++U) (λe s'=>∃g l H' a C tr,e=.ref a/\z9 X U l H' s'/\pH X.s₀.heap s'.heap H' a C tr/\vC (X.tr (X.pn++g) X.xe) a/\(∀p∈X.pn++U,p.1≠a)/\(∀T,tr=some T->∀p∈X.pn++U,p.1≠T)/\afn X.K Dc th D l (.ref C) H'))
  (afn X.K Dc th D):=λg l H' s' a C tr I' L ap a5 q=>⟨[],l,H',a,C,tr,rfl,I'.untr,L,⟨ap.1,ap.2.1,λp o=>ap.2.2 p (by have o:p∈X.pn++[]:=o;rw[AI] at o;exact Aq _ o)⟩,ap.2.2,λT e=>(a5 T e).2.2,q⟩
 refine wpAny_Try_except (AW (hb _ _ _ tk [] s σ H D (I.tr _) h) (λf s1 h1=>?_) λe s1 h1=>?_)
 ·have h2:=SP.untr h1;cases f with|next=>exact wpAny_execs_nil h2|brk=>exact h2|cont=>exact h2|ret u=>exact h2
 ·obtain⟨g,l,H',a,C,tr,rfl,I1,L,ap,pa,m6,C',ec,em,q⟩:=h1;cases ec;refine ag7 I1 hs hf hx L (λp o=>⟨pa p o,λT e=>m6 T e p o⟩) λh' T I2 L2 a3=>?_;refine wpAny_handleBy_cons (codeAny_handlers_test ?_) (by intro q;cases q);refine gE (X:=X.hnd a) (I2.hnd a) hg hm ?_ a4;obtain⟨_,_,oe,vs,a0,he,hc,_⟩:=id L2;have LT:PySem.W.Looks (model X.prog X.w) h' (typeOf (.ref a)) (.ref C):=hc▸(PySem.W.Looks.ld he).andThen .now;refine PySem.W.exm_one (K:=X.K) I2.kIn LT em _ _ _ _ (λ_ _ e=>e) ?_;refine codeAny_handlers_suite ?_;refine xJ I2 hs hx L2 (λp o=>⟨pa p o,a3 p o⟩) λh3 T' I3 L3=>?_;refine AW (hh a U _ _ _ D (I3.hnd a) q) (λf s6 h6=>?_) λe s6 z=>z.elim;cases f with
  |next=>obtain⟨a1,H6,J,q6⟩:=h6;exact⟨_,H6,J.unhnd I.ok,q6⟩
  |brk=>obtain⟨a1,H6,J,q6⟩:=h6;exact⟨_,H6,J.unhnd I.ok,q6⟩
  |cont=>obtain⟨a1,H6,J,q6⟩:=h6;exact⟨_,H6,J.unhnd I.ok,q6⟩
  |ret u=>obtain⟨v,a1,H6,J,r,q6⟩:=h6;exact⟨v,_,H6,J.unhnd I.ok,r,q6⟩
end L2
namespace L3
open PySem L2
def ai4(K:Af)(U:Addr)(tb:X3->ke)(th:ke)(D:k6)(τ:jq)(L:qm):Prop:=tb (λJ C L'=>PySem.W.exmOne K (.ref C) (.ref U)=some true/\th D J L') D τ L
theorem afb{j:Addr}{g:Pos}{J:List Stmt}{U:Stmt}{tb:X3->ke}{th:ke}(hs:X.stack=X.env::X.outer)(t:X.env.frame=some X.env.locals)(I:X.ex=[])
 (T:Gl X x) (hm:X.mg x=some (.ref j)) (hb:QB X body tb) (hh:∀a,qF (X.hnd a) (U::J) th)
 (l:Ed x:=by decide):QS X (.Try body [.ExceptHandler (some (.Name x np)) none (U::J) g] [] [] pos) (ai4 X.K j tb th):=
 PS.imp (afe (tb:=ais X.g3 tb) (th:=upS X.g3 th) hs t I T hm hb hh l) λD σ H ⟨τ,L,D3,rs,rl,z,k⟩=>by
 show ais X.g3 tb (afn X.K j (upS X.g3 th) D) D σ H;exact⟨τ,L,D3,_,rs,rl,z,k,λa1 C H' o L' t' p r ⟨em,q⟩=>⟨C,rfl,em,o,L',D3,p,r,q,k.ts t'⟩⟩
def wE(x y:Y)(L:qm)(Q:YK):Prop:=match x,y with
 |.tup xs,.tup ys=>xs≠[]/\xs.length+ys.length<=1000/\Q (.tup (xs++ys)) L
 |_,_=>False
theorem acp :vq X (binaryOp .Add) (eV X.g3 wE):=EL aey λx y H Q x3 y3 L Q3 T ry j z k=>by
 unfold wE at z;split at z
 ·rename_i o r;obtain⟨n,l,z⟩:=z;obtain⟨a,J,rfl,t,U⟩:=T;obtain⟨b,C,rfl,s2,I⟩:=ry;have l1:=U.length;have l2:=I.length;refine⟨a,b,J,C,rfl,rfl,t,s2,λe=>n ?_,small (by lia),λe=>?_,λ_ p g=>?_⟩
  ·subst e;exact BK l1
  ·subst e;have:r=[]:=BK l2;subst this;rw[AI] at z;exact k _ H _ L (DV _) j (show RV X.g3 H (.tup o) (.ref a) from⟨a,J,rfl,t,U⟩) z
  ·exact k _ _ _ L (DW g) (j.skip g) (show RV X.g3 (upd H p (.tup (J++C))) (.tup (o++r)) (.ref p) from⟨p,_,rfl,cD.of zp,(U.app I).ts (DW g)⟩) z
 ·exact z.elim
open PySem L2 Words
def tO:ke:=(qr (zr (zn kc (zn kc (jf 1) (oa wf (jy 0 0))) (qb 1)) (qh 3))
 (je (zn wE (zn wE (uw pG (qb 0) wg (aZ (qb 3))) (vt (x9 (qb 2)))) (uw pG (qb 0) (aZ (zn kc (qb 3) (jf 1))) wg))))
def tM(J:jr)(p1:jr):ke:=(qr (zr (jh qz) (qh 1))
 (qr (bB (kz (zc J (x9 (qb 0)))) (qh 2) (j9 (wu ac (qb 1) (qd (zc p1 (x9 (qb 2))) qz))))
 (je (qb 1))))
def iK(J:jr)(p1:jr):ke:=(qr (bB (dm (zc J (x9 (qb 0)))) (wo 2 (zm (qh 2) (zm (qh 3) kw))) (qr (zr (zc p1 (x9 (qb 3))) (qh 4))
 (jz (yB (iT aj5 (qd (uE 1 (kz (qb 1)) (qh 5) yj (zn (mE false) (qb 5) (qb 4))) qz))) (je (qb 2)) jk)))
 (je (yC .non)))
def pO(J:jr)(p1:jr)(p2:jr)(p3:jr):ke:=(qr (zr (zn ay (zc J (x9 (qb 1))) (qb 2)) (qh 3))
 (qr (zr (zc p1 (qd (qb 3) (qd (zn ay (zc p2 (a9 (qb 0) (qb 1))) (qb 2)) qz))) (qh 4))
 (qr (jz (yB (fY false (qb 4))) (je (yC .non)) jk)
 (je (zc p3 (qd (qb 3) (qd (qb 4) (qd (zc p3 (qd (qb 1) (qd (qb 2) (qd (zn ay (zc J (x9 (qb 3))) (qb 4)) qz)))) qz))))))))
def sv(J:Addr)(E3:X3)(U:jr):ke:=(qr (zr (zc U (x9 (qb 0))) (qh 2))
 (qr (jz (abo (yB (tZ (jf 0) (aae yLe (qb 1) (aby yLt (cY 2)))))) (tW J E3 (x9 (dH "a rule has no arm of that number"))) jk)
 (je (zn ay (qb 2) (qb 1)))))
def e9(E3:X3)(J:eW):ke:=(qr (zr (jh (x9 (qb 0))) (qh 2))
 (qr (bB (kz (qb 1)) (qh 3) (j9 (wu zq (qb 2) (qd (hY J E3 (qd (zn ay (qb 2) (yUn tw (jf 1))) (x9 (qb 3)))) qz))))
 (je (qb 2))))
def jA(J:Addr)(E3:X3)(U:eW)(p1:eW)(p2:jr)(p3:jr):ke:=(qr (zr (hY U E3 (a9 (jy 0 1) (qb 1))) (qh 3))
 (qr (j9 (hY p1 E3 (qd (zn ay (qb 3) (yUn tw (jf 1))) (x9 (qb 2)))))
 (qr (zr (zc p2 (qd (jy 0 0) (qd (zn ay (qb 3) (yUn tw (jf 1))) (x9 (qb 2))))) (qh 4))
 (qr (jz (yB (fY false (qb 4))) (tW J E3 (x9 (dH "the two rules can't be exchanged"))) jk)
 (qr (bB (aia (aak (a9 (qb 1) (qb 3)))) (wo 2 (zm (qh 5) (zm (qh 6) kw))) (zr (zc p3 (qd (qb 6) (a9 (qb 5) (qb 4)))) (qh 4)))
 (je (vt (qd (iT wx (x9 (jy 0 0))) (x9 (qb 4))))))))))
def aF:Ru->Nat->Ru->Ru
 |.ei r _,0,A=>.ei r A
 |.bo r _ B,0,A=>.bo r A B
 |.bo r A _,1,B=>.bo r A B
 |.cu p q _ B,0,A=>.cu p q A B
 |.cu p q A _,1,B=>.cu p q A B
 |R,_,_=>R
def fu:jr:=λys L Q=>∃R A:Ru,∃n:Nat,∃J:Int,ys=[qj R,.int J,qj A]/\J=(n:Int)/\n<(qk R).length/\Q (qj (aF R n A)) L
theorem af6:∀ys L Q,fu ys L Q->xp tO 4 ys L Q:=by
 rintro ys L Q ⟨R,A,n,U,rfl,rfl,J,q⟩;have two:∀{n:Nat},n<2->n=0\/n=1:=λh=>by lia
 cases R with
 |link a b=>cases J
 |ei r B=>
  obtain rfl:n=0:=by have:n<1:=J;lia
  exact⟨λz=>absurd z.2 (by show ¬2=3;decide),⟨Bs _ _,by show 3<=1000;decide,λz=>absurd z.1 (by show ¬3=0;decide),Bs _ _,by show 3<=1000;decide,js q⟩⟩
 |bo r B C=>
  rcases two J with rfl|rfl
  ·exact⟨λz=>absurd z.2 (by show ¬2=4;decide),⟨Bs _ _,by show 3<=1000;decide,λz=>absurd z.1 (by show ¬3=0;decide),Bs _ _,by show 4<=1000;decide,js q⟩⟩
  ·exact⟨λz=>absurd z.2 (by show ¬3=4;decide),⟨Bs _ _,by show 4<=1000;decide,λz=>absurd z.1 (by show ¬4=0;decide),Bs _ _,by show 4<=1000;decide,js q⟩⟩
 |cu a b B C=>
  rcases two J with rfl|rfl
  ·exact⟨λz=>absurd z.2 (by show ¬3=5;decide),⟨Bs _ _,by show 4<=1000;decide,λz=>absurd z.1 (by show ¬4=0;decide),Bs _ _,by show 5<=1000;decide,js q⟩⟩
  ·exact⟨λz=>absurd z.2 (by show ¬4=5;decide),⟨Bs _ _,by show 5<=1000;decide,λz=>absurd z.1 (by show ¬5=0;decide),Bs _ _,by show 5<=1000;decide,js q⟩⟩
theorem bX:∀A:Ru,(xg A).flatMap bE=qo A
 |.link p q=>rfl
 |.ei r A=>by show r::(xg A).flatMap bE=_;rw[bX A];rfl
 |.bo r A B=>by show r::(xg A++xg B).flatMap bE=_;rw[Ay,bX A,bX B];rfl
 |.cu p q A B=>by show(xg A++xg B).flatMap bE=_;rw[Ay,bX A,bX B];rfl
theorem wQ(A:Ru):(bE A).length<=2:=by cases A<;>simp[bE]
def fK:jr:=λys L Q=>∃A:Ru,ys=[qj A]/\ja A<=120/\vf A<=1000/\∀p,L p=none->Q (.ref p) (qf L p (.lst (nY (qo A))))
theorem uj:∀ys L Q,fK ys L Q->xp (tM (bC 120) gu) 3 ys L Q:=by
 rintro ys L Q ⟨A,rfl,hd,T,q⟩;have big:=bg_;intro l o;refine⟨A,rfl,hd,T,λp C=>?_⟩;have U:l≠p:=v5 q8 C;have s0:qg L (qf (qf L l (.lst [])) p (.lst ((xg A).map qj))):=(By o).trans (By C);have sz:∀i,(((xg A).take i).flatMap bE).length<=2000:=λi=>by
  have h1:∀l:List Ru,(l.flatMap bE).length<=2*l.length:=λl=>by induction l with|nil=>exact Al _|cons x r ih=>have:=wQ x;rw[AR,Ac,AL];lia
  have h2:=h1 ((xg A).take i);rw[AX,bJ] at h2;lia
 refine x5 q8 λkeep kp=>vh ⟨λi j J=>∃c2,j=[some (qj A),some (.ref l),c2]/\qg L J/\J l=some (.lst (nY (((xg A).take i).flatMap bE)))/\J p=some (.lst ((xg A).map qj)),⟨_,rfl,s0,(q9 U).trans q8,q8⟩,?_,?_,?_⟩
 ·rintro i j J ⟨c2,rfl,s,g,g2⟩;exact kp J (by rw[g2,q8])
 ·rintro i y j J I ⟨c2,rfl,s,g,g2⟩;rw[An] at I;obtain⟨B,eB,rfl⟩:=Am.mp I;have et:(xg A).take (i+1)=(xg A).take i++[B]:=by rw[A9,eB];rfl
  have zi:=sz i;have ol:=wQ B;refine qc g ⟨B,rfl,λp5 t=>?_⟩;have np:l≠p5:=v5 g t;refine qx ((q9 np).trans g) (qx q8 ⟨?_,?_⟩)
  ·rw[ko,ko];exact Bd (big _ (by lia))
  ·refine⟨_,DU _,_,rfl,(s.trans (By t)).upd o,?_,(q9 (AB U)).trans ((q9 (v5 g2 t)).trans g2)⟩;rw[q8,et,Ay,CT,fM]
 ·rintro j J ⟨c2,rfl,s,g,_⟩;rw[Ab,Bh,bX] at g;exact aY (ER s g) (q l o)
def aw(ts:List Nat)(B:Ru):Bool:=(ts.map λt=>decide (t∈qo B)).all id
def xm(R:Ru)(ts:List Nat):Option Nat:=(qk R).findIdx? (aw ts)
def ixY:Option Nat->Y
 |none=>.non
 |some k=>.int (k:Int)
theorem dr(R:Ru):(qk R).length<=2:=by cases R<;>simp[qk]
theorem oF{p:α->Bool}{l:List α}{x:α}(h:l[i]?=some x)(U:∀y∈l.take i,p y=false)(g:p x=true):l.findIdx? p=some i:=by have J:=jv h;rw[CL];refine⟨J,by rw[Ae J] at h;rw[AV h];exact g,λj o=>?_⟩;rw[U _ (List.mem_iff_getElem?.mpr ⟨j,by rw[CF,AD o,Ae (by lia)]⟩)];simp
def mO:jr:=λys L Q=>∃R:Ru,∃a,∃ts:List Nat,ys=[qj R,.ref a]/\L a=some (.lst (nY ts))/\ts.length<=1000/\ja R<=120/\vf R<=1000/\Q (ixY (xm R ts)) L
theorem aa6:∀ys L Q,mO ys L Q->xp (iK vv fK) 5 ys L Q:=by
 rintro ys L Q ⟨R,a,ts,rfl,ha,hz,hd,hr,q⟩;have big:=bg_;refine⟨R,rfl,λpa p=>?_⟩;have s0:qg L (qf L pa (.lst ((qk R).map qj))):=By p;refine x5 q8 λkeep r=>vh ⟨λi l J=>∃c2 c3 c4,l=[some (qj R),some (.ref a),c2,c3,c4]/\qg L J/\J pa=some (.lst ((qk R).map qj))/\∀B∈(qk R).take i,aw ts B=false,⟨_,_,_,rfl,s0,q8,λB hB=>by cases hB⟩,?_,?_,?_⟩
 ·rintro i l J ⟨c2,c3,c4,rfl,s,g,_⟩;exact r J (by rw[g,q8])
 ·rintro i y l J I ⟨c2,c3,c4,rfl,s,g,no⟩;obtain⟨z,ez,rfl⟩:=bQ I;rw[An] at ez;obtain⟨B,T,rfl⟩:=Am.mp ez;have mB:=Aw T;have zB:=gg mB;have dB:=vj mB;refine⟨B,rfl,by lia,by lia,λp5 h5=>?_⟩;have s5:=s.trans (By (o:=.lst (nY (qo B))) h5);have g5:=By (o:=.lst (nY (qo B))) h5 _ _ g;have e5:qf J p5 (.lst (nY (qo B))) p5=some (.lst (nY (qo B))):=q8;generalize qf J p5 (.lst (nY (qo B)))=L5 at s5 g5 e5 ⊢;refine x5 (s5 _ _ ha) λkeep r=>fO (λi zs=>zs=((ts.take i).map λt=>decide (t∈qo B)).map Y.bl) (by rw[ko];exact big _ (by lia)) (r _ rfl) rfl ?_ ?_
  ·rintro j y zs I rfl;obtain⟨m,em,rfl⟩:=iL I;refine qc e5 ⟨rfl,ox _,?_⟩;rw[pB];exact⟨_,DU _,rfl,by rw[A9,em,Aj,Aj];rfl⟩
  rintro zs rfl p6 h6;rw[ko,Bh];have s6:=s5.trans (By (o:=.lst ((ts.map λt=>decide (t∈qo B)).map Y.bl)) h6);have g6:=By (o:=.lst ((ts.map λt=>decide (t∈qo B)).map Y.bl)) h6 _ _ g5;refine⟨rfl,qc q8 (qw (adf _) ?_)⟩;by_cases c:aw ts B=true
  ·refine kn c ?_;rw[show xm R ts=some i from oF T no c] at q;exact aY s6 q
  ·refine xr (B4.mpr c) ⟨_,DU _,_,_,_,rfl,s6,g6,λC U=>?_⟩;rw[A9,T] at U;rcases Ar.mp U with U|U
   ·exact no C U
   ·rw[Ai.mp U];exact B4.mpr c
 ·rintro l J ⟨c2,c3,c4,rfl,s,g,no⟩;rw[bU,Ab,Bh] at no;rw[show xm R ts=none from Cy.mpr no] at q;exact aY s q
def rsY:Option Ru->Y
 |none=>.non
 |some R=>qj R
def aC(ks:List Kn)(R:Ru)(k:Nat):Option Ru:=match (qk R)[k]?,(vn ks R)[k]? with
 |some I,some ts=>match xm I ts with
  |none=>none
  |some n=>match (qk I)[n]? with
   |some B=>some (aF I n (aF R k B))
   |none=>none
 |_,_=>none
theorem vK{ts:List Nat}(h:xm R ts=some n):∃B,(qk R)[n]?=some B/\aw ts B=true:=by obtain⟨h1,h2,_⟩:=CL.mp h;exact⟨_,Ae h1,h2⟩
theorem Paired.len{α β:Type}{F:α->β->Prop}:∀{xs:List α} {ys:List β},Paired F xs ys->xs.length=ys.length
 |_,_,.nil=>rfl
 |_,_,.cons _ r=>Bb (· + 1) (Paired.len r)
abbrev ED:=@Paired.len
def gD:jr:=λys L Q=>∃a,∃wd:List (Option Kn),∃ks:List Kn,∃R:Ru,∃E:List Nat,∃k:Nat,∃J:Int,ys=[.ref a,qj R,.int J]/\J=(k:Int)/\L a=some (.lst (cH wd))/\SR ks R E/\uB ks wd R/\k<(qk R).length/\ja R<=120/\vf R<=1000/\Q (rsY (aC ks R k)) L
theorem aeq:∀ys L Q,gD ys L Q->xp (pO vv mO pY fu) 5 ys L Q:=by
 rintro ys L Q ⟨a,wd,J,R,E,k,ki,rfl,rfl,ha,sr,ag,hk,hd,hz,q⟩;have pl:=ED sr.arms;have U:(qk R)[k]?=some (qk R)[k]:=Ae hk;have g:(vn J R)[k]?=some ((vn J R)[k]'(by lia)):=Ae (by lia);generalize (qk R)[k]=I at U;generalize (vn J R)[k]'(by lia)=ts at g;have mI:=Aw U;have zI:=gg mI;have dI:=vj mI;have tl:=oU ts (Aw g);have eT:aC J R k=match xm I ts with|none=>none|some n=>match (qk I)[n]? with|some B=>some (aF I n (aF R k B))|none=>none:=by unfold aC;rw[U,g]
 rw[eT] at q;clear eT;refine⟨R,rfl,λp1 h1=>?_⟩;refine qc q8 (qw (xb U) ?_);have l:=By (o:=.lst ((qk R).map qj)) h1;generalize qf L p1 (.lst ((qk R).map qj))=L1 at l ⊢;refine⟨a,wd,J,R,E,rfl,l _ _ ha,sr,ag,λp t L2 s2 _ gp pr=>?_⟩;obtain⟨r,j,_,gr⟩:∃r,t[k]?=some r/\L1 r=none/\L2 r=some (.lst (nY ts)):=by have hl:=ED pr;have j:t[k]?=some (t[k]'(by lia)):=Ae (by lia);have h:=DZ pr j g;exact⟨_,j,h⟩
 have s3:=l.trans s2;refine qc gp (qw (xb j) ⟨I,r,ts,rfl,gr,by lia,by lia,by lia,?_⟩);cases C:xm I ts with
 |none=>
  rw[C] at q;exact aY s3 q
 |some n=>
  rw[C] at q;obtain⟨B,T,_⟩:=vK C;have q:Q (rsY (match (qk I)[n]? with|some B=>some (aF I n (aF R k B))|none=>none)) L:=q;rw[T] at q;have mB:=jv T;refine⟨I,rfl,λp4 h4=>qc q8 (qw (xb T) ⟨R,B,k,_,rfl,rfl,hk,⟨I,aF R k B,n,_,rfl,rfl,mB,aY (s3.trans (By h4)) q⟩⟩)⟩
def kq(R:Ru)(i:Int):Option Ru:=if 0<=i/\i<((qk R).length:Int) then(qk R)[i.toNat]? else none
theorem ae{i:Int}(h:kq R i=some B):∃k:Nat,i=(k:Int)/\(qk R)[k]?=some B:=by
 unfold kq at h;split at h
 ·rename_i c;exact⟨i.toNat,by lia,h⟩
 ·cases h
def bV(C:Addr):eW:=λys L Q E=>∃R:Ru,∃i:Int,ys=[qj R,.int i]/\(∀B,kq R i=some B->Q (qj B) L)/\(kq R i=none->E C L)
theorem ac7 :∀ys L Q E,bV C ys L Q E->xp (sv C (r9 E) vv) 3 ys L Q:=by
 rintro ys L Q E ⟨R,i,rfl,q,ex⟩;refine⟨R,rfl,λj h1=>?_⟩;have J:=By (o:=.lst ((qk R).map qj)) h1;have no:¬(0<=i/\i<((qk R).length:Int))->∀U,r9 E U C (qf L j (.lst ((qk R).map qj))):=λc U=>⟨L,J,ex (by unfold kq;rw[AE c])⟩;by_cases c1:0<=i
 ·walk_at "w";rw[AG c1];refine qc q8 ?_;by_cases c2:i<((qk R).length:Int)
  ·refine xr (by show(!decide (i<((((qk R).map qj).length:Nat):Int)))=false;rw[Ab,AG c2];rfl) ?_;obtain⟨k,rfl⟩:∃k:Nat,i=(k:Int):=⟨i.toNat,by lia⟩;have g:k<(qk R).length:=by lia
   refine qc q8 (qw (xb (Ae g)) (aY J (q _ ?_)));unfold kq;rw[AD ⟨c1,c2⟩,AY];exact Ae g
  ·refine kn (by show(!decide (i<((((qk R).map qj).length:Nat):Int)))=true;rw[Ab,Au c2];rfl) ?_;exact⟨Bv rfl,no (λh=>c2 h.2) _⟩
 ·walk_at "w";rw[Au c1];exact⟨Bv rfl,no (λh=>c1 h.1) _⟩
def xt:Ru->List Int->Option (List Ru)
 |R,[]=>some [R]
 |R,i::w=>match kq R i with
  |none=>none
  |some B=>(xt B w).map (R::·)
theorem dg{w:List Int}{m:List Ru}(h:xt R w=some m):∃J,m=R::J/\J.length=w.length:=by
 induction w generalizing R m with
 |nil=>cases h;exact⟨[],rfl,rfl⟩
 |cons i w U=>
  unfold xt at h;cases e:kq R i with
  |none=>rw[e] at h;cases h
  |some B=>
   rw[e] at h;obtain⟨j,g,rfl⟩:=Am.mp h;obtain⟨o,rfl,l⟩:=U g;exact⟨_,rfl,Bb (· + 1) l⟩
theorem lg{w:List Int}{l:List Ru}(h:xt R w=some (l++[S]))(x:Int)(u:List Int):xt R (w++x::u)=(xt S (x::u)).map (l++·):=by
 induction w generalizing R l with
 |nil=>
  have h:[R]=l++[S]:=AV h;cases l with|nil=>cases h;show _=Option.map (λz=>z) _;rw[Option.map_id'];rfl|cons a l=>have:=Bb List.length h;simp at this
 |cons i w g=>
  unfold xt at h;rw[CZ];show(match kq R i with|none=>none|some B=>(xt B (w++x::u)).map (R::·))=_;cases e:kq R i with
  |none=>rw[e] at h;cases h
  |some B=>
   rw[e] at h;obtain⟨o,J,U⟩:=Am.mp h;obtain⟨p,rfl,_⟩:=dg J;cases l with
   |nil=>cases U
   |cons a l=>
    obtain⟨rfl,j⟩:=Cm U;rw[j] at J;show(xt B (w++x::u)).map (R::·)=_;rw[g J,Option.map_map];rfl
theorem abl{w:List Int}{m:List Ru}(h:xt R w=some m):∀(i:Nat) (x:Int) (A:Ru),w[i]?=some x->m[i]?=some A->∃B,kq A x=some B/\m[i+1]?=some B:=by
 induction w generalizing R m with
 |nil=>intro i x A J;cases J
 |cons j w l=>
  unfold xt at h;cases e:kq R j with
  |none=>rw[e] at h;cases h
  |some B=>
   rw[e] at h;obtain⟨o,U,rfl⟩:=Am.mp h;intro i x A J g;cases i with
   |zero=>
    cases J;cases g;obtain⟨p,rfl,_⟩:=dg U;exact⟨B,e,rfl⟩
   |succ i=>exact l U i x A J g
theorem yp{w:List Int}{m:List Ru}(h:xt R w=some m):∀A∈m,A∈xg R:=by
 induction w generalizing R m with
 |nil=>cases h;intro A J;rw[Ai.mp J,aH];exact Ak ..
 |cons i w U=>
  unfold xt at h;cases e:kq R i with
  |none=>rw[e] at h;cases h
  |some B=>
   rw[e] at h;obtain⟨l,g,rfl⟩:=Am.mp h;obtain⟨k,_,j⟩:=ae e;intro A J;rw[aH];rcases Ap.mp J with rfl|J
   ·exact Ak ..
   ·exact Ad _ (A2.mpr ⟨B,Aw j,U g A J⟩)
def fq(C:Addr):eW:=λys L Q E=>∃R:Ru,∃h,∃w:List Int,ys=[qj R,.ref h]/\L h=some (.lst (w.map Y.int))/\w.length<=1000/\(∀m,xt R w=some m->∀p,L p=none->Q (.ref p) (qf L p (.lst (m.map qj))))/\(xt R w=none->E C L)
theorem zJ :∀ys L Q E,fq C ys L Q E->xp (e9 (r9 E) (bV C)) 4 ys L Q:=by
 rintro ys L Q E ⟨R,h,w,rfl,p,hz,q,ex⟩;have big:=bg_;intro l r;have t:qg L (qf L l (.lst [qj R])):=By r;refine x5 (t _ _ p) λkeep T=>vh ⟨λi o U=>∃c3 m S,o=[some (qj R),some (.ref h),some (.ref l),c3]/\qg L U/\U l=some (.lst ((m++[S]).map qj))/\xt R (w.take i)=some (m++[S]),⟨_,[],R,rfl,t,q8,rfl⟩,?_,?_,?_⟩
 ·rintro i o U ⟨c3,m,S,rfl,s,_⟩;exact T U (by rw[s _ _ p,t _ _ p])
 ·rintro i y o U I ⟨c3,m,S,rfl,s,g,j⟩;rw[An] at I;obtain⟨x,J,rfl⟩:=Am.mp I;have hi:=jv J;have et:w.take (i+1)=w.take i++[x]:=by rw[A9,J];rfl
  have ew:w=w.take i++x::w.drop (i+1):=by rw[Ae hi] at J;rw[<-AV J,Cg,Ba]
  have ml:(m++[S]).length<=1001:=by obtain⟨m',e,l⟩:=dg j;rw[e,AL,l,AX];lia
  rw[Aj] at g;refine qc g (qc g (qw (kG _ _) ⟨S,x,rfl,λB hB=>?_,λhn=>⟨L,s,ex ?_⟩⟩))
  ·refine qx g ⟨?_,?_⟩
   ·rw[<-Aj,Ab];exact big _ (by lia)
   ·refine⟨_,DU _,_,m++[S],B,rfl,s.upd r,by rw[q8,Aj,Aj];rfl,?_⟩;rw[et,lg j];show((match kq S x with|none=>none|some B=>(xt B []).map (S::·)).map (m++·))=_;rw[hB,AH];rfl
  ·rw[ew,lg j];show((match kq S x with|none=>none|some B=>(xt B _).map (S::·)).map (m++·))=_;rw[hn];rfl
 ·rintro o U ⟨c3,m,S,rfl,s,g,j⟩;rw[Ab,Bh] at j;exact aY (ER s g) (q _ j l r)
def mM:Ru->List Int->Ru->Ru
 |_,[],T=>T
 |R,i::w,T=>match kq R i with
  |some B=>aF R i.toNat (mM B w T)
  |none=>R
def w4:Ru->List Int->Option Ru
 |R,[]=>some R
 |R,i::w=>match kq R i with
  |some B=>w4 B w
  |none=>none
theorem zK{w:List Int}{l:List Ru}(h:xt R w=some (l++[S])):w4 R w=some S:=by
 induction w generalizing R l with
 |nil=>
  have h:[R]=l++[S]:=AV h;cases l with|nil=>cases h;rfl|cons a l=>have:=Bb List.length h;simp at this
 |cons i w g=>
  unfold xt at h;unfold w4;cases e:kq R i with
  |none=>rw[e] at h;cases h
  |some B=>
   rw[e] at h;obtain⟨o,J,U⟩:=Am.mp h;obtain⟨p,rfl,_⟩:=dg J;cases l with
   |nil=>cases U
   |cons a l=>
    obtain⟨_,j⟩:=Cm U;rw[j] at J;exact g J
theorem adt{w:List Int}(h:xt R w=none):w4 R w=none:=by
 induction w generalizing R with
 |nil=>cases h
 |cons i w J=>
  unfold xt at h;unfold w4;cases e:kq R i with
  |none=>rfl
  |some B=>
   rw[e] at h;exact J (Option.map_eq_none_iff.mp h)
def yH(ks:List Kn)(R:Ru)(w:List Int)(i:Int):Option Ru:=match w4 R w with
 |none=>none
 |some S=>match kq S i with
  |none=>none
  |some _=>(aC ks S i.toNat).map (mM R w)
theorem vM(T:Ru):∃zs,qj T=.tup zs:=by cases T<;>exact⟨_,rfl⟩
def pK(C:Addr):eW:=λys L Q E=>∃a h,∃wd:List (Option Kn),∃ks:List Kn,∃R:Ru,∃F:List Nat,∃w:List Int,∃i:Int,ys=[.tup [.ref a,qj R],.ref h,.int i]/\L a=some (.lst (cH wd))/\L h=some (.lst (w.map Y.int))/\SR ks R F/\uB ks wd R/\w.length<=1000/\(qo R).length<=120/\
 (∀R',yH ks R w i=some R'->∀p,L p=none->Q (.tup [.ref p,qj R']) (qf L p (.lst (cH wd))))/\(yH ks R w i=none->E C L)
theorem ah3 :∀ys L Q E,pK C ys L Q E->xp (jA C (r9 E) (fq C) (bV C) gD fu) 7 ys L Q:=by
 rintro ys L Q E ⟨a,h,wd,r,R,F,w,i,rfl,ha,hh,sr,ag,hz,tl,q,ex⟩;refine⟨R,h,w,rfl,hh,hz,λm hm p1 h1=>?_,λhn=>⟨L,DU _,ex (by unfold yH;rw[adt hn])⟩⟩;obtain⟨m',em,lm⟩:=dg hm;have m0:m[0]?=some R:=by rw[em];rfl
 have lm:m.length=w.length+1:=by rw[em,AL,lm]
 clear em;obtain⟨l,S,rfl⟩:∃l S,m=l++[S]:=by
  rcases BE m with rfl|⟨l,S,e⟩
  ·cases m0
  ·exact⟨l,S,by rw[e,BF]⟩
 have eS:w4 R w=some S:=zK hm;have mS:=yp hm S (Ah _ (Ai.mpr rfl));obtain⟨⟨ES,sS⟩,tS,t,dS,_⟩:=sr.rls S mS;have a5:=t.length_le;have rd:=xi S;have rz:=we S;have p:=By (o:=.lst ((l++[S]).map qj)) h1;have g1:qf L p1 (.lst ((l++[S]).map qj)) p1=some (.lst ((l++[S]).map qj)):=q8;generalize qf L p1 (.lst ((l++[S]).map qj))=L1 at p g1 ⊢;have U:=g1;rw[Aj] at U;refine qc U (qw (kG _ _) ⟨S,i,rfl,λB hB=>?_,λhn=>⟨L,p,ex (by unfold yH;rw[eS];show(match kq S i with|none=>none|some _=>_)=none;rw[hn])⟩⟩);obtain⟨k,rfl,eB⟩:=ae hB;have I:yH r R w (k:Int)=(aC r S k).map (mM R w):=by unfold yH;rw[eS];show(match kq S (k:Int) with|none=>none|some _=>_)=_;rw[hB];show(aC r S (k:Int).toNat).map _=_;rw[AY]
 refine qc U (qw (kG _ _) ⟨a,wd,r,S,ES,k,_,rfl,rfl,p _ _ ha,sS,λx hx=>ag x (tS x hx),jv eB,by lia,by lia,?_⟩);cases hT:aC r S k with
 |none=>exact⟨Bv rfl,L,p,ex (by rw[I,hT];rfl)⟩
 |some T=>
  have qT:=q _ (by rw[I,hT];rfl);obtain⟨zs,ez⟩:=vM T;rw[show rsY (some T)=.tup zs from ez];refine qc (p _ _ hh) (qc g1 λp2 h2=>?_);have s2:=p.trans (By (o:=.lst (lC (w.map Y.int) ((l++[S]).map qj))) h2);have g2:qf L1 p2 (.lst (lC (w.map Y.int) ((l++[S]).map qj))) p2=some (.lst (lC (w.map Y.int) ((l++[S]).map qj))):=q8;generalize qf L1 p2 (.lst (lC (w.map Y.int) ((l++[S]).map qj)))=L2 at s2 g2 ⊢;have zl:(lC (w.map Y.int) ((l++[S]).map qj)).length=w.length:=by rw[aax,Ab,Ab];lia
  refine x5 g2 λkeep kp=>vh ⟨λj τ L'=>∃c5 c6 A J,τ=[some (.tup [.ref a,qj R]),some (.ref h),some (.int (k:Int)),some (.ref p1),some (qj J),c5,c6]/\L'=L2/\j<=w.length/\(l++[S])[w.length-j]?=some A/\J=mM A (w.drop (w.length-j)) T,⟨none,none,S,T,by rw[ez];rfl,rfl,Bi _,?_,?_⟩,?_,?_,?_⟩
  ·have:l.length=w.length:=by rw[Ac,Bu] at lm;lia
   rw[Df,<-this,Av (Al _),Cf];rfl
  ·rw[Df,List.drop_length];rfl
  ·rintro j τ L' ⟨c5,c6,A,J,rfl,rfl,_⟩;exact kp _ rfl
  ·rintro j y τ L' hy ⟨c5,c6,A,J,rfl,rfl,hj,eA,rfl⟩;have a1:j<w.length:=by have:=jv hy;rwa[Bk,zl] at this
   rw[Cn (by rw[zl];exact a1),zl] at hy;obtain⟨u,v,eu,ev,rfl⟩:=aed hy;rw[An] at eu ev;obtain⟨x,g,rfl⟩:=Am.mp eu;obtain⟨D,eD,rfl⟩:=Am.mp ev;obtain⟨B',a2,a3⟩:=abl hm _ x D g eD;rw[show w.length-1-j+1=w.length-j by lia,eA] at a3;cases a3;obtain⟨k',rfl,a4⟩:=ae a2;refine⟨D,_,k',_,rfl,rfl,jv a4,?_⟩;refine⟨_,DU _,_,_,D,_,rfl,rfl,a1,by rw[show w.length-(j+1)=w.length-1-j by lia];exact eD,?_⟩;have ed:w.drop (w.length-(j+1))=(k':Int)::w.drop (w.length-j):=by rw[show w.length-(j+1)=w.length-1-j by lia,Cw (by lia),show w.length-1-j+1=w.length-j by lia];rw[Ae (by lia)] at g;rw[AV g]
   rw[ed];show _=match kq D (k':Int) with|some B=>aF D (k':Int).toNat (mM B _ T)|none=>D
   rw[a2,AY]
  ·rintro τ L' ⟨c5,c6,A,J,rfl,rfl,hj,eA,rfl⟩;rw[Bk,zl,Cf] at eA;rw[m0] at eA;cases eA;rw[Bk,zl,Cf,CO];refine qc (s2 _ _ ha) λp7 h7=>?_;refine⟨_,λb o e=>?_,qT p7 (s2.none h7)⟩;by_cases cc:b=p7
   ·subst cc;rw[q8] at e ⊢;exact e
   ·rw[q9 cc] at e ⊢;exact s2 _ _ e
def afd(J:jr):ke:=(qr (zr (vt (qd (jh qz) (qd vG (qd (jh (x9 (qb 1))) qz)))) (wo 3 (zm (qh 2) (zm (qh 3) (zm (qh 4) kw)))))
 (qr (dJ (rdN (qb 4) (jh qz)) (qr (zr (wu qA (qb 4) qz) (qh 5))
 (kF (jz (fJ (jy 5 0) (dH "link")) (j9 (wu ac (qb 2) (qd (jh (a9 (jy 5 1) (jy 5 2))) qz))) (jz (fJ (jy 5 0) (dH "cut")) (qr (gh (qb 3) (jy 5 1) (yC (.bl true)))
 (gh (qb 3) (jy 5 2) (yC (.bl true)))) (qr (j9 (wu zq (qb 2) (x9 (jy 5 1))))
 (qr (gh (qb 3) (zn ay (zn ay (qb 0) (jy 5 1)) (jf 1)) (yC (.bl true)))
 (gh (qb 3) (zn ay (zn ay (qb 0) (jy 5 1)) (jf 2)) (yC (.bl true)))))))
 (j9 (wu ac (qb 4) (qd (zc J (x9 (qb 5))) qz))))))
 (je (uE 1 (kz (qb 2)) (qh 6) (yB (zn (zD true) (qb 6) (qb 3))) (qb 6)))))
def om:ke:=(qr (jz (fJ (jy 1 0) (dH "cut")) (je (jh (qd (zn ay (qb 1) (zn kc (jf 1) (qb 2))) qz))) jk)
 (qr (jz (fJ (jy 1 0) (dH "both")) (je (jh (qd (zn ay (zn ay (qb 0) (jy 1 1)) (zn kc (jf 1) (qb 2))) qz))) jk)
 (je (iT wx (qd (uw pG (zn ay (qb 0) (jy 1 1)) (aZ (jf 1)) wg) qz)))))
def sT(J:jr)(p1:jr)(p2:jr):ke:=(qr (jz (yOr (yB (zn yLt (qb 2) (jf 0))) (yB (zn yGe (qb 2) (iT jL (qd (zc J (x9 (qb 1))) qz))))) (je (yC .non)) jk)
 (qr (zr (zn ay (zc J (x9 (qb 1))) (qb 2)) (qh 3))
 (qr (zr (zc p1 (qd (qb 0) (a9 (qb 1) (qb 2)))) (qh 4))
 (qr (jz (wZ (rdN (jy 3 0) (dH "cut")) (yB (zn (mE false) (jy 3 1) (qb 4)))) (je (yC .non)) jk)
 (qr (bB (dm (zc J (x9 (qb 3)))) (wo 2 (zm (qh 5) (zm (qh 6) kw))) (qr (zr (zc p2 (a9 (qb 0) (qb 6))) (qh 7))
 (jz (fJ (uE 1 (kz (qb 4)) (qh 8) (yB (zn (mE true) (qb 8) (qb 7))) (qb 8)) (jh qz)) (je (qb 5)) jk)))
 (je (yC .non)))))))
def tkO(ks:List Kn)(B:Ru):List Nat:=(vn ks B).flatten
def jP(ks:List Kn)(R:Ru):List Nat:=(xg R).flatMap (tkO ks)
theorem dk(ks:List Kn)(A:Ru):jP ks A=tkO ks A++(qk A).flatMap (jP ks):=by unfold jP;rw[aH A,AR,List.flatMap_assoc]
theorem SR.tk{E:List Nat}(h:SR ks R E):(jP ks R).Perm (gn ks (qo R)++aQ (jm R)):=by
 induction h with
 |@link p q t n g h1 h2 h3 l o=>
  have e:gn ks [p,q]=[]:=by rw[aR,aR,h2,h3];rfl
  show([]:List Nat).Perm (gn ks [p,q]++[]);rw[e];exact B9 _
 |@ei r i j A C g h1 I h3 l o T h7 ih=>
  have e:jP ks (.ei r A)=[i,j]++jP ks A:=by rw[dk];show [km ks[r]?].flatten++(jP ks A++[])=_;rw[h1,AI];rfl
  rw[e];show List.Perm _ (gn ks (r::qo A)++aQ (jm A));rw[aR,h1];exact(List.Perm.append_left [i,j] ih).trans (by rw[<-AH];exact B9 _)
 |@bo r i j A B C EB g h1 I hB l o T h7 J U=>
  have e:jP ks (.bo r A B)=[i,j]++(jP ks A++jP ks B):=by rw[dk];show((km ks[r]?).map λx=>[x]).flatten++(jP ks A++(jP ks B++[]))=_;rw[h1,AI];rfl
  rw[e];show List.Perm _ (gn ks (r::(qo A++qo B))++aQ (jm A++jm B));rw[aR,h1,jS,dX];show List.Perm _ ([i,j]++(gn ks (qo A)++gn ks (qo B))++(aQ (jm A)++aQ (jm B)));refine BD.mpr λa=>?_;have c1:=J.count_eq a;have c2:=U.count_eq a;simp only[BM] at c1 c2 ⊢;lia
 |@cu p q A B C EB g w I hB h3 l o T h7 h8 J U=>
  have e:jP ks (.cu p q A B)=[p,q]++(jP ks A++jP ks B):=by rw[dk];show [[p],[q]].flatten++(jP ks A++(jP ks B++[]))=_;rw[AI];rfl
  rw[e];show List.Perm _ (gn ks (qo A++qo B)++aQ ((p,q)::(jm A++jm B)));rw[jS,oS,dX];show List.Perm _ (gn ks (qo A)++gn ks (qo B)++([p,q]++(aQ (jm A)++aQ (jm B))));refine BD.mpr λa=>?_;have c1:=J.count_eq a;have c2:=U.count_eq a;simp only[BM] at c1 c2 ⊢;lia
theorem qH{E:List Nat}(h:SR ks R E)(nd:(qo R).Nodup)(x:Nat):x∈E↔x∈qo R/\x∉jP ks R:=by
 have P:(jP ks R++E).Perm (qo R):=((h.tk.append_right E).trans (by rw[AH])).trans (h.part nd);have N:=Az.mp (P.nodup_iff.mpr nd);constructor
 ·intro J;exact⟨P.mem_iff.mp (Ah _ J),λz=>N.2.2 x z x J rfl⟩
 ·rintro⟨a,b⟩;rcases Ar.mp (P.mem_iff.mpr a) with z|z
  ·exact absurd z b
  ·exact z
theorem agy{E:List Nat}(h:SR ks R E)(nd:(qo R).Nodup):(jP ks R).length<=(qo R).length:=by have P:(jP ks R++E).Perm (qo R):=((h.tk.append_right E).trans (by rw[AH])).trans (h.part nd);have:=P.length_eq;rw[Ac] at this;lia
theorem SR.arm{E:List Nat}(h:SR ks R E)(U:B∈qk R):∃J,SR ks B J:=by obtain⟨i,e⟩:=Bj U;have l:=ED h.arms;have o:=jv e;have g:(vn ks R)[i]?=some ((vn ks R)[i]'(by lia)):=Ae (by lia);obtain⟨J,j,_⟩:=DZ h.arms e g;exact⟨J,j⟩
theorem aba(l:List Ru):l.length<=(l.map vf).sum:=by induction l with|nil=>exact Al _|cons x r J=>have:=gA x;simp;lia
def gL:jr:=λys L Q=>∃a,∃wd:List (Option Kn),∃ks:List Kn,∃R:Ru,∃E:List Nat,ys=[.ref a,qj R]/\L a=some (.lst (cH wd))/\SR ks R E/\uB ks wd R/\(qo R).Nodup/\(qo R).length<=120/\
 ∀p F,L p=none->(∀x,x∈F↔x∈E)->Q (.ref p) (qf L p (.lst (nY F)))
def tLe(a:Addr)(R:Ru)(tl td J:Addr)(c:Option Y):jq:=[some (.ref a),some (qj R),some (.ref tl),some (.ref td),some (.ref J),c]
structure LeI(ks:List Kn)(R:Ru)(tk us:List Nat)(kvs:List (jg×Y))(st:List Ru):Prop where
 si:yZ R tk st
 ui:zH us kvs
 tq:(us++st.flatMap (jP ks)).Perm (jP ks R)
 sr:∀B∈st,∃EB,SR ks B EB
theorem ady:∀ys L Q,gL ys L Q->xp (afd aA) 6 ys L Q:=by
 rintro ys L Q ⟨a,wd,ks,R,E,rfl,ha,sr,ag,nd,tl,q⟩;have big:=bg_;have rd:=xi R;have rz:=we R;have av:=agy sr nd;intro la a2 ta a5 j a3;have U:la≠ta:=v5 q8 a5;have r:ta≠j:=v5 q8 a3;have t:la≠j:=v5 ((q9 U).trans q8) a3;have g:L ta=none:=zw a5;have a4:L j=none:=zw (zw a3);have S0:qg L (qf (qf (qf L la (.lst [])) ta (.dct [])) j (.lst [qj R])):=((By a2).trans (By a5)).trans (By a3);refine⟨λm τ C=>∃tk us J st c5,τ=tLe a R la ta j c5/\qg L C/\C la=some (.lst (nY tk))/\C ta=some (.dct J)/\C j=some (.lst (st.map qj))/\LeI ks R tk us J st/\m=(st.map vf).sum,⟨_,[],[],[],[R],_,rfl,S0,(q9 t).trans ((q9 U).trans q8),(q9 r).trans q8,q8,⟨yZ.start R,zH.nil,by simp,λB hB=>by rw[Ai.mp hB];exact⟨E,sr⟩⟩,rfl⟩,?_⟩;rintro m τ C ⟨tk,us,J,st,c5,rfl,s,h1,h3,l,I,rfl⟩;intro p hp;refine wz (n:=120) (m:=0) (by decide) (By hp _ _ l) q8 (cK λA hA=>AQ (I.si.dp A hA) (by lia)) (.nil:Paired (jc _ 0) _ []) ?_;have s2:qg L (qf C p (.lst [])):=s.trans (By hp);replace h1:=(q9 (o:=.lst []) (v5 h1 hp)).trans h1;replace h3:=(q9 (o:=.lst []) (v5 h3 hp)).trans h3;replace l:=(q9 (o:=.lst []) (v5 l hp)).trans l;generalize qf C p (.lst [])=L2 at s2 h1 h3 l ⊢;show kj (!(Da.eqs (st.map bA) [])) _ _;rw[kE];have kl:=I.ui.len;have pl:=I.si.pt.length_eq;have ul:=I.tq.length_eq;rw[Ac] at pl ul;rcases BE st with rfl|⟨ve,A,rfl⟩
 ·refine xr rfl ?_;have pt:tk.Perm (qo R):=by have:=I.si.pt;simpa using this
  have pu:us.Perm (jP ks R):=by have:=I.tq;simpa using this
  refine x5 h1 λkeep kp=>fO (λi zs=>zs=nY ((tk.take i).filter λx=>!decide (x∈us))) (by rw[ko];exact big _ (by lia)) (kp _ rfl) rfl ?_ ?_
  ·rintro i y zs hy rfl;obtain⟨x,ex,rfl⟩:=iL hy;refine ju h3 ?_;rw[I.ui.val];have et:tk.take (i+1)=tk.take i++[x]:=by rw[A9,ex];rfl
   by_cases c:x∈us
   ·refine xr (by rw[AG c];rfl) ⟨_,DU _,rfl,?_⟩;rw[et,BQ,C1,AE (by simp[c])];simp
   ·refine kn (by rw[Au c];rfl) ⟨_,DU _,rfl,?_⟩;rw[et,BQ,C1,AD (by simp[c]),fM];rfl
  rintro zs rfl p5 h5;rw[ko,Bh];refine aY (ER (s2.trans (By h5)) q8) (q p5 _ (s2.none h5) λx=>?_);rw[qH sr nd,AU,pt.mem_iff,Cq,decide_eq_false_iff_not,pu.mem_iff]
 ·rw[BF] at *;rw[Au (by simp)];refine kn rfl ⟨λa1 C=>∃m',m'<((ve++[A]).map vf).sum/\∃tk us J st c5,a1=tLe a R la ta j c5/\qg L C/\C la=some (.lst (nY tk))/\C ta=some (.dct J)/\C j=some (.lst (st.map qj))/\LeI ks R tk us J st/\m'=(st.map vf).sum,λa1 C h=>h,?_⟩;rw[Aj] at l;refine lI l ?_;have s3:qg L (qf L2 j (.lst (ve.map qj))):=s2.upd a4;replace h1:=(q9 (o:=.lst (ve.map qj)) t).trans h1;replace h3:=(q9 (o:=.lst (ve.map qj)) r).trans h3;clear l;have l:qf L2 j (.lst (ve.map qj)) j=some (.lst (ve.map qj)):=q8;generalize qf L2 j (.lst (ve.map qj))=L3 at s3 h1 h3 l ⊢;obtain⟨EA,sA⟩:=I.sr A (Ah _ (Ai.mpr rfl));have tA:∀x∈qo A,x∈qo R:=λx hx=>I.si.pt.mem_iff.mp (Ah _ (A2.mpr ⟨A,Ah _ (Ai.mpr rfl),hx⟩));have kb:J.length+2<=20000:=by lia
  have tb:tk.length+2<=20000:=by lia
  refine⟨λa1 L4=>∃J,a1=tLe a R la ta j (some (qj A))/\qg L L4/\L4 la=some (.lst (nY (tk++bE A)))/\L4 ta=some (.dct J)/\L4 j=some (.lst (ve.map qj))/\zH (us++tkO ks A) J,?_,?_⟩
  ·cases sA with
   |@link p0 q0=>
    refine qc h1 λp6 h6=>?_;have n6:la≠p6:=v5 h1 h6;refine qx ((q9 n6).trans h1) (qx q8 ⟨by rw[ko];exact Bd (big _ tb),?_⟩);refine⟨J,rfl,(s3.trans (By h6)).upd a2,by rw[q8,fM];rfl,?_,?_,by rw[show tkO ks (.link p0 q0)=[] from rfl,AI];exact I.ui⟩
    ·rw[q9 (AB U)];exact By h6 _ _ h3
    ·rw[q9 (AB t)];exact By h6 _ _ l
   |@cu p0 q0 A0 B0=>
    refine ju h3 ⟨big _ (by lia),?_⟩;have U1:=I.ui.put p0 (.bl true);have k1:=dy J (.inl (p0:Int)) (.bl true);refine ju q8 ⟨big _ (by lia),?_⟩;have U2:=U1.put q0 (.bl true);rw[xw];refine⟨_,rfl,s3.upd g,by rw[q9 U,h1];simp[bE],q8,by rw[q9 (AB r)];exact l,by rw[AH] at U2;exact U2⟩
   |@ei T i0 j0 A0 au _ hk=>
    have hw:=ag T (tA T (Ak ..)) _ hk;refine qc h1 (qx h1 ⟨by rw[ko];exact big _ (by lia),?_⟩);have w1:=s3.upd (o:=.lst (nY tk++[.int (T:Int)])) a2;have g3:qf L3 la (.lst (nY tk++[.int (T:Int)])) ta=some (.dct J):=(q9 (AB U)).trans h3;refine qc (w1 _ _ ha) (qw (xb hw) (ju g3 ⟨big _ (by lia),?_⟩));have U1:=I.ui.put i0 (.bl true);have k1:=dy J (.inl (i0:Int)) (.bl true);have w2:=w1.upd (o:=.dct (iB J (.inl (i0:Int)) (.bl true))) g;refine qc (w2 _ _ ha) (qw (xb hw) (ju q8 ⟨big _ (by lia),?_⟩));have U2:=U1.put j0 (.bl true);rw[xw];refine⟨_,rfl,w1.upd g,by rw[q9 U,q8,fM];rfl,q8,by rw[q9 (AB r),q9 (AB t)];exact l,?_⟩;rw[AH] at U2;have:tkO ks (.ei T A0)=[i0]++[j0]:=by show [km ks[T]?].flatten=_;rw[hk];rfl
    rw[this];exact U2
   |@bo T i0 j0 A0 B0 au aL _ hk=>
    have hw:=ag T (tA T (Ak ..)) _ hk;refine qc h1 (qx h1 ⟨by rw[ko];exact big _ (by lia),?_⟩);have w1:=s3.upd (o:=.lst (nY tk++[.int (T:Int)])) a2;have g3:qf L3 la (.lst (nY tk++[.int (T:Int)])) ta=some (.dct J):=(q9 (AB U)).trans h3;refine qc (w1 _ _ ha) (qw (xb hw) (ju g3 ⟨big _ (by lia),?_⟩));have U1:=I.ui.put i0 (.bl true);have k1:=dy J (.inl (i0:Int)) (.bl true);have w2:=w1.upd (o:=.dct (iB J (.inl (i0:Int)) (.bl true))) g;refine qc (w2 _ _ ha) (qw (xb hw) (ju q8 ⟨big _ (by lia),?_⟩));have U2:=U1.put j0 (.bl true);rw[xw];refine⟨_,rfl,w1.upd g,by rw[q9 U,q8,fM];rfl,q8,by rw[q9 (AB r),q9 (AB t)];exact l,?_⟩;rw[AH] at U2;have:tkO ks (.bo T A0 B0)=[i0]++[j0]:=by show((km ks[T]?).map λx=>[x]).flatten=_;rw[hk];rfl
    rw[this];exact U2
  ·rintro a1 L4 ⟨al,rfl,s4,g1,g3,g4,U'⟩;refine qc g4 ⟨A,rfl,λp8 h8=>?_⟩;have l1:=I.si.step.sz;have l2:=aba (ve++qk A);rw[Ac] at l2;refine qx ((q9 (v5 g4 h8)).trans g4) (qx q8 ⟨by rw[Ab,Ab];exact Bd (big _ (by lia)),?_⟩);refine⟨_,DU _,_,yZ.lt (tk:=tk) (A:=R),tk++bE A,us++tkO ks A,al,ve++qk A,_,rfl,(s4.trans (By h8)).upd a4,(q9 t).trans ((q9 (v5 g1 h8)).trans g1),(q9 r).trans ((q9 (v5 g3 h8)).trans g3),by rw[q8,Aj],⟨I.si.step,U',?_,λB hB=>?_⟩,by rw[Aj,BN]⟩
   ·refine List.Perm.trans ?_ I.tq;rw[Ay,Ay,CT,dk ks A];refine BD.mpr λz=>?_;simp only[BM];lia
   ·rcases Ar.mp hB with hB|hB
    ·exact I.sr B (Aq _ hB)
    ·obtain⟨EA,sA⟩:=I.sr A (Ah _ (Ai.mpr rfl));exact sA.arm hB
def afr(J:jr)(p1:jr):ke:=(qr (bB (dm (zc J (x9 (qb 3)))) (wo 2 (zm (qh 5) (zm (qh 6) kw))) (qr (zr (zc p1 (a9 (qb 0) (qb 6))) (qh 7))
 (jz (fJ (uE 1 (kz (qb 4)) (qh 8) (yB (zn (mE true) (qb 8) (qb 7))) (qb 8)) (jh qz)) (je (qb 5)) jk)))
 (je (yC .non)))
def hE:jr:=λys L Q=>∃a,∃wd:List (Option Kn),∃ks:List Kn,∃R:Ru,∃E:List Nat,∃k:Nat,∃J:Int,ys=[.ref a,qj R,.int J]/\J=(k:Int)/\L a=some (.lst (cH wd))/\SR ks R E/\uB ks wd R/\k<(qk R).length/\
 ∀p ts,L p=none->(vn ks R)[k]?=some ts->Q (.ref p) (qf L p (.lst (nY ts)))
theorem y0:∀ys L Q,hE ys L Q->xp om 3 ys L Q:=by
 rintro ys L Q ⟨a,T,g,R,E,k,ki,rfl,rfl,l,C,o,U,q⟩;have two:∀{n:Nat},n<2->n=0\/n=1:=λh=>by lia
 cases C with
 |link=>cases U
 |@cu u v A B t I _ w hA hB h3 h4=>
  rcases two U with rfl|rfl
  ·exactλp J=>js (q p _ J rfl)
  ·exactλp J=>js (q p _ J rfl)
 |@ei r i j A t _ h1=>
  obtain rfl:k=0:=by have:k<1:=U;lia
  refine qc l (qw (xb (o r (Ak ..) _ h1)) ⟨λz=>absurd z.1 (by show ¬1=0;decide),λp J=>js (q p [i,j] J ?_)⟩);show [km g[r]?][0]?=_;rw[h1];rfl
 |@bo r i j A B t I _ h1=>
  have e:vn g (.bo r A B)=[[i],[j]]:=by show(km g[r]?).map (λx=>[x])=_;rw[h1];rfl
  rw[e] at q;rcases two U with rfl|rfl
  ·exact qc l (qw (xb (o r (Ak ..) _ h1)) λp J=>js (q p _ J rfl))
  ·exact qc l (qw (xb (o r (Ak ..) _ h1)) λp J=>js (q p _ J rfl))
def goR(ks:List Kn)(R:Ru)(i:Int):Option Nat:=match kq R i with
 |none=>none
 |some I=>xm I ((vn ks R)[i.toNat]?.getD [])
theorem u0{j l ts:List Nat}(r:SR ks I j)(nd:(qo I).Nodup)(o:B∈qk I)(p:SR ks B l)(U:∀x∈ts,x∈j):(∀x∈ts,x∈l)↔aw ts B=true:=by
 have g:=(du o).nodup nd;unfold aw;rw[BH];constructor
 ·intro h b t;obtain⟨x,J,rfl⟩:=AS.mp t;exact AG (p.sub x (h x J))
 ·intro h x J;have:=h _ (AS.mpr ⟨x,J,rfl⟩);rw[qH p g];refine⟨of_decide_eq_true this,λz=>((qH r nd x).mp (U x J)).2 ?_⟩;rw[dk];exact Ah _ (A2.mpr ⟨B,o,z⟩)
theorem ajp{ts:List Nat}{x:Nat}(nd:(qo I).Nodup)(J:x∈bE I)(U:x∈ts):xm I ts=none:=by refine Cy.mpr λB g=>?_;have e:=eF I;rw[e] at nd;have:=(Az.mp nd).2.2 x J;unfold aw;rw[B4];intro h;have h:=BH.mp h _ (AS.mpr ⟨x,U,rfl⟩);exact this x (A2.mpr ⟨B,g,of_decide_eq_true h⟩) rfl
def mP:jr:=λys L Q=>∃a,∃wd:List (Option Kn),∃ks:List Kn,∃R:Ru,∃E:List Nat,∃i:Int,ys=[.ref a,qj R,.int i]/\L a=some (.lst (cH wd))/\SR ks R E/\uB ks wd R/\(qo R).Nodup/\(qo R).length<=120/\Q (ixY (goR ks R i)) L
theorem abi:∀ys L Q,mP ys L Q->xp (sT aA hE gL) 8 ys L Q:=by
 rintro ys L Q ⟨a,wd,p,R,E,i,rfl,ha,sr,ag,nd,tl,q⟩;have big:=bg_;have no:¬(0<=i/\i<((qk R).length:Int))->Q .non L:=λc=>by
  have e:goR p R i=none:=by unfold goR kq;rw[AE c]
  rw[e] at q;exact q
 by_cases c1:i<0
 ·refine kn (AG c1) (js (no (by lia)))
 refine xr (Au c1) ⟨R,rfl,λp1 h1=>qc q8 ?_⟩;have s1:=By (o:=.lst ((qk R).map qj)) h1;by_cases c2:i<((qk R).length:Int)
 rotate_left
 ·refine kn (by show decide (i>=((((qk R).map qj).length:Nat):Int))=true;rw[Ab];exact AG (by lia)) (aY s1 (no λh=>c2 h.2))
 refine xr (by show decide (i>=((((qk R).map qj).length:Nat):Int))=false;rw[Ab];exact Au (by lia)) ?_;obtain⟨k,rfl⟩:∃k:Nat,i=(k:Int):=⟨i.toNat,by lia⟩;have hk:k<(qk R).length:=by lia
 have pl:=ED sr.arms;have eI:(qk R)[k]?=some (qk R)[k]:=Ae hk;have l:(vn p R)[k]?=some ((vn p R)[k]'(by lia)):=Ae (by lia);generalize (qk R)[k]=I at eI;generalize (vn p R)[k]'(by lia)=ts at l;obtain⟨EI,sI,a4⟩:=DZ sr.arms eI l;have mI:=Aw eI;have t:=(du mI).nodup nd;have au:=(du mI).length_le;have av:=oU ts (Aw l);have a5:=ag.arm mI;have eG:goR p R (k:Int)=xm I ts:=by unfold goR kq;rw[AD ⟨by lia,c2⟩,AY,eI,l];rfl
 rw[eG] at q;clear eG no c1 c2;generalize qf L p1 (.lst ((qk R).map qj))=L1 at s1 ⊢;refine⟨R,rfl,λp2 h2=>qc q8 (qw (xb eI) ?_)⟩;have s2:=s1.trans (By (o:=.lst ((qk R).map qj)) h2);generalize qf L1 p2 (.lst ((qk R).map qj))=L2 at s2 ⊢;refine⟨a,wd,p,R,E,k,_,rfl,rfl,s2 _ _ ha,sr,ag,hk,λT aL h3 a2=>?_⟩;rw[l] at a2;cases a2;have s3:=s2.trans (By (o:=.lst (nY ts)) h3);have g3:qf L2 T (.lst (nY ts)) T=some (.lst (nY ts)):=q8;generalize qf L2 T (.lst (nY ts))=L3 at s3 g3 ⊢;have key:(∃x∈bE I,x∈ts)->fV Q .non L3:=λ⟨x,h1,h2⟩=>by rw[ajp t h1 h2] at q;exact aY s3 q
 have tail:afr aA gL { nx:=λ_ J=>fV Q .non J,rt:=fV Q } [some (.ref a),some (qj R),some (.int (k:Int)),some (qj I),some (.ref T),none,none,none] L3:=by
  refine⟨I,rfl,λp4 h4=>?_⟩;have s4:=s3.trans (By (o:=.lst ((qk I).map qj)) h4);have al:=By (o:=.lst ((qk I).map qj)) h4 _ _ g3;refine x5 q8 λkeep kp=>vh ⟨λj τ J=>∃c5 c6 c7,τ=[some (.ref a),some (qj R),some (.int (k:Int)),some (qj I),some (.ref T),c5,c6,c7]/\qg L J/\J T=some (.lst (nY ts))/\J p4=some (.lst ((qk I).map qj))/\∀B∈(qk I).take j,aw ts B=false,⟨_,_,_,rfl,s4,al,q8,λB hB=>by cases hB⟩,?_,?_,?_⟩
  ·rintro j τ J ⟨c5,c6,c7,rfl,s,_,g,_⟩;exact kp J (by rw[g,q8])
  ·rintro j y τ J hy ⟨c5,c6,c7,rfl,s,gt,g,U⟩;obtain⟨z,ez,rfl⟩:=bQ hy;rw[An] at ez;obtain⟨B,eB,rfl⟩:=Am.mp ez;have mB:=Aw eB;obtain⟨EB,sB⟩:=sI.arm mB;have ba:=(du mB).length_le;have iff:=u0 sI t mB sB a4;refine⟨a,wd,p,B,EB,rfl,s _ _ ha,sB,a5.arm mB,(du mB).nodup t,by lia,λp5 F h5 hF=>?_⟩;have s5:=s.trans (By (o:=.lst (nY F)) h5);have a1:=By (o:=.lst (nY F)) h5 _ _ gt;have g5:=By (o:=.lst (nY F)) h5 _ _ g;have e5:qf J p5 (.lst (nY F)) p5=some (.lst (nY F)):=q8;generalize qf J p5 (.lst (nY F))=L5 at s5 a1 g5 e5 ⊢;refine x5 a1 λkeep kp=>fO (λi zs=>zs=nY ((ts.take i).filter λx=>!decide (x∈F))) (by rw[ko];exact big _ (by lia)) (kp _ rfl) rfl ?_ ?_
   ·rintro i y zs hy rfl;obtain⟨x,ex,rfl⟩:=iL hy;refine qc e5 ⟨rfl,ox _,?_⟩;rw[pB];have l:ts.take (i+1)=ts.take i++[x]:=by rw[A9,ex];rfl
    by_cases c:x∈F
    ·refine xr (by rw[AG c];rfl) ⟨_,DU _,rfl,?_⟩;rw[l,BQ,C1,AE (by simp[c])];simp
    ·refine kn (by rw[Au c];rfl) ⟨_,DU _,rfl,?_⟩;rw[l,BQ,C1,AD (by simp[c]),fM];rfl
   rintro zs rfl p6 h6;rw[ko,Bh];have s6:=s5.trans (By (o:=.lst (nY (ts.filter λx=>!decide (x∈F)))) h6);have a3:=By (o:=.lst (nY (ts.filter λx=>!decide (x∈F)))) h6 _ _ a1;have g6:=By (o:=.lst (nY (ts.filter λx=>!decide (x∈F)))) h6 _ _ g5;have e6:qf L5 p6 (.lst (nY (ts.filter λx=>!decide (x∈F)))) p6=some (.lst (nY (ts.filter λx=>!decide (x∈F)))):=q8;generalize qf L5 p6 (.lst (nY (ts.filter λx=>!decide (x∈F))))=L6 at s6 a3 g6 e6 ⊢;intro p7 h7;have s7:=s6.trans (By (o:=.lst []) h7);refine wz (n:=0) (m:=0) (by decide) (By h7 _ _ e6) q8 (by rw[agp];exact oE _) (.nil:Paired (jc _ 0) _ []) ?_;have nil:Da.eqs (((ts.filter λx=>!decide (x∈F)).map λn:Nat=>(n:Int)).map λx=>Da.s (.int x)) []=aw ts B:=by
    by_cases c:aw ts B=true
    ·rw[c,DL.mpr λx hx=>by simp[(hF x).mpr (iff.mpr c x hx)]];rfl
    ·rw[B4.mpr c];cases hf:ts.filter λx=>!decide (x∈F) with|nil=>exact absurd (iff.mp λx hx=>(hF x).mp (by have:=DL.mp hf x hx;simpa using this)) c|cons x r=>rfl
   show kj (Da.eqs _ _) _ _;rw[nil];by_cases c:aw ts B=true
   ·refine kn c ?_;rw[show xm I ts=some j from oF eB U c] at q;exact aY s7 q
   ·refine xr (B4.mpr c) ⟨_,DU _,_,_,_,rfl,s7,By h7 _ _ a3,By h7 _ _ g6,λC hC=>?_⟩;rw[A9,eB] at hC;rcases Ar.mp hC with hC|hC
    ·exact U C hC
    ·rw[Ai.mp hC];exact B4.mpr c
  ·rintro τ J ⟨c5,c6,c7,rfl,s,_,g,U⟩;rw[bU,Ab,Bh] at U;rw[show xm I ts=none from Cy.mpr U] at q;exact aY s q
 have ask:∀(x:Nat) {A B:Prop},(x∈ts->A)->(x∉ts->B)->dU L3 (.ref T) λys=>fH (.int (x:Int))=true/\ys.all fH=true/\kj (nb false (uY (fW (.int (x:Int))) (ys.map fW))) A B:=λx A B ha hb=>by
  refine qc g3 ⟨rfl,ox _,?_⟩;rw[pB];by_cases c:x∈ts
  ·exact kn (AG c) (ha c)
  ·exact xr (Au c) (hb c)
 cases I with|link p0 q0=>exact ask p0 (λh=>key ⟨p0,Ak ..,h⟩) λ_=>tail|ei r0 A0=>exact ask r0 (λh=>key ⟨r0,Ak ..,h⟩) λ_=>tail|bo r0 A0 B0=>exact ask r0 (λh=>key ⟨r0,Ak ..,h⟩) λ_=>tail|cu p0 q0 A0 B0=>exact tail
theorem gY{w:List Int}(h:w4 R w=some S):w.length+1<=ja R/\S∈xg R:=by
 induction w generalizing R with
 |nil=>cases h;exact⟨mL _,by rw[aH];exact Ak ..⟩
 |cons i w U=>
  have h:(match kq R i with|some B=>w4 B w|none=>none)=some S:=h;cases e:kq R i with
  |none=>rw[e] at h;cases h
  |some B=>
   rw[e] at h;obtain⟨k,_,g⟩:=ae e;have J:=Aw g;have:=vj J;obtain⟨a,b⟩:=U h;exact⟨by rw[AL];lia,by rw[aH];exact Ad _ (A2.mpr ⟨B,J,b⟩)⟩
theorem ae7{k:Nat}{E:List Nat}(g:SR ks R E)(J:(qk R)[k]?=some I):∃ts,(vn ks R)[k]?=some ts/\goR ks R (k:Int)=xm I ts/\aC ks R k=match xm I ts with|none=>none|some n=>match (qk I)[n]? with|some B=>some (aF I n (aF R k B))|none=>none:=by
 have j:=jv J;have pl:=ED g.arms;have U:(vn ks R)[k]?=some ((vn ks R)[k]'(by lia)):=Ae (by lia);refine⟨_,U,?_,?_⟩
 ·unfold goR kq;rw[AD ⟨by lia,by lia⟩,AY,J,U];rfl
 ·unfold aC;rw[J,U];try rfl
def agj(J:jr)(p1:jr):ke:=(qr (jz (rdN (zn w6 (zn am (qb 2) (jf 5)) (jf 4)) (jf 1)) (je (zF (qb 0) (qb 1))) jk)
 (qr (zr (zc J (qd (qb 1) (qd (zn w6 (zn rT (qb 2) (jf 69621)) (jf 2147483647)) qz))) (qh 1))
 (qr (zr (zn ay (zc p1 (x9 (qb 1))) (jf 2)) (qh 3))
 (je (vt (qd (uE 1 (cf (x9 (cY 0))) (qh 4) yj (yIf (yB (zn (zD false) (qb 4) (qb 3))) (zn ay (qb 0) (qb 4)) (yC .non))) (x9 (qb 1))))))))
theorem nZ{L:qm}{n:Nat}:∀xs:List Int,Paired (jc L n) (xs.map Y.int) (xs.map λx=>Da.s (.int x))
 |[]=>.nil
 |x::r=>.cons (EG x) (nZ r)
def abm(J:jr):ke:=(qr (jz (yB (fY false (qb 1))) (je (fY false (qb 0))) jk)
 (qr (jz (yB (cn .str (qb 1))) (je (vW (cn .str (qb 0)) (zn (wB false) (qb 0) (qb 1)))) jk)
 (qr (jz (yB (cn .int (qb 1))) (je (vW (cn .int (qb 0)) (vW (aic (cn .bool (qb 0))) (zn (wB false) (qb 0) (qb 1))))) jk)
 (qr (jz (yOr (rdN (cn .list (qb 1)) (cn .list (qb 0))) (rdN (cn .tuple (qb 1)) (cn .tuple (qb 0)))) (je (yC (.bl false))) jk)
 (qr (jz (rdN (cY 0) (cY 1)) (je (yC (.bl false))) jk)
 (qr (bB (cf (x9 (cY 1))) (qh 2) (jz (abo (yB (zc J (qd (zn ay (qb 0) (qb 2)) (qd (zn ay (qb 1) (qb 2)) qz))))) (je (yC (.bl false))) jk))
 (je (yC (.bl true)))))))))
def akv:Y->Bool
 |.int _=>true
 |_=>false
theorem oO{k n:Int}{Q:YK}(hi:ys.all akv=true)(U:n=(ys.length:Int))(h0:0<ys.length)(h:∀x,Q (.int x) L):tJ L Q (eM ys (k % n)):=by
 obtain⟨j,y,g,l,J⟩:=iG h0 k;rw[U,g,xq J];have:=BH.mp hi y (Aw J);cases y with
 |int x=>exact h x
 |_=>cases this
def kI:jr:=λys L Q=>∃a,∃ks:List Kn,∃R:Ru,∃E:List Nat,∃n:Int,ys=[.ref a,qj R,.int n]/\L a=some (.lst (jb ks))/\TrO ks R E/\(qo R).Perm (List.range ks.length)/\
 ∀J R' U wd L',qg L L'->L' J=some (.lst (cH wd))->SR ks R' U->uB ks wd R'->(qo R').Nodup->(qo R').length<=96->wd.length<=96->Q (.tup [.ref J,qj R']) L'
theorem adj:∀ys L Q,kI ys L Q->xp (agj hU pQ) 4 ys L Q:=by
 rintro ys L Q ⟨a,J,R,E,n,rfl,p,T,tp,q⟩;have big:=bg_;have r:=T.len;refine⟨⟨by decide,by decide⟩,(show(0:Int)<4 by decide),?_⟩;by_cases c:n / 5 % 4=1
 ·refine xr (by show(!decide (n / 5 % 4=1))=false;rw[AG c];rfl) ?_;refine⟨.inr ⟨by decide,by decide⟩,(show(0:Int)<2147483647 by decide),R,_,rfl,T.small,λB I=>?_⟩;obtain⟨EB,j⟩:=T.inner I;refine⟨B,rfl,j.small,λla ca ta lk ct a1 L3 t _ _ _ _ _ g3 _ _ hv=>?_⟩;have U:=t _ _ p;have g:(jb J).length=J.length:=Ab ..;refine qc U ⟨⟨AZ _,by rw[g];lia⟩,?_⟩;rw[g,AY];refine acj (λi l=>l=cH ((sj J (qo B)).take i)) (big _ (by lia)) rfl ?_ ?_
  ·rintro i l o rfl;have C:(sj J (qo B)).take (i+1)=(sj J (qo B)).take i++[if i∈qo B then J[i]? else none]:=by rw[A9,uQ o];rfl
   refine ju g3 ?_;rw[show(Sum.inl (0+(i:Int)):jg)=.inl (i:Int) by rw[BI],hv];by_cases c:i∈qo B
   ·refine kn (AG c) (qc U (qw (v:=l5 J[i]) (by rw[BI];exact xb (Ae o)) ⟨_,DU _,rfl,?_⟩));rw[C,AD c,Ae o,<-sg];rfl
   ·refine xr (Au c) ⟨_,DU _,rfl,?_⟩;rw[C,AE c,<-sg];rfl
  rintro l rfl p7 h7;have:(sj J (qo B)).take J.length=sj J (qo B):=A5 (by rw[eL];exact Al _);rw[this];exact js (q p7 B EB _ _ (t.trans (By h7)) q8 j.sr (alg J B) j.nd j.small (by rw[eL];exact r))
 ·refine kn (by show(!decide (n / 5 % 4=1))=true;rw[Au c];rfl) ?_;exact js (q a R E (J.map some) L (DU _) (by rw[aV];exact p) T.sr (λx _ k e=>by rw[An,e];rfl) T.nd T.small (by rw[Ab];exact r))
def adc:Y->Bool
 |.non=>true
 |.int _=>true
 |.str _=>true
 |_=>false
def m4(L:qm):Nat->Y->Y->Prop
 |0,_,_=>False
 |n+1,x,y=>(adc x=true/\y=x)\/(∃xs ys,x=.tup xs/\y=.tup ys/\ys.length<=1000/\Paired (m4 L n) xs ys)\/(∃a b xs ys,x=.ref a/\y=.ref b/\L a=some (.lst xs)/\L b=some (.lst ys)/\ys.length<=1000/\Paired (m4 L n) xs ys)
theorem m4.flat{x:Y}(h:adc x=true):m4 L (n+1) x x:=.inl ⟨h,rfl⟩
theorem m4.tup{xs:List Y}(h:Paired (m4 L n) xs ys)(l:Nat.ble ys.length 1000=true:=by rfl):m4 L (n+1) (.tup xs) (.tup ys):=.inr (.inl ⟨xs,ys,rfl,rfl,Bv l,h⟩)
def be(n:Nat):jr:=λys L Q=>∃x y,ys=[x,y]/\m4 L n x y/\Q (.bl true) L
theorem yr:∀ys L Q,¬be 0 ys L Q:=λys L Q ⟨x,y,_,h,_⟩=>h
theorem yo(n:Nat):∀ys L Q,be (n+1) ys L Q->xp (abm (be n)) 3 ys L Q:=by
 rintro ys L Q ⟨x,y,rfl,h,q⟩;rcases h with⟨f,rfl⟩|⟨J,ys,rfl,rfl,l,p⟩|⟨a,b,J,ys,rfl,rfl,h1,h2,l,p⟩
 ·cases y with
  |non=>exact js q
  |int i=>
   refine js ?_;show Q (.bl (nb false (decide (i=i)))) L;rw[AG rfl];exact q
  |str i=>
   refine js ?_;show Q (.bl (nb false (decide (i=i)))) L;rw[AG rfl];exact q
  |_=>cases f
 ·have o:=ED p;walk_at "w";refine xr (b:=nb true (decide ((J.length:Int)=ys.length))) (by rw[o,AG rfl];rfl) ?_;refine⟨⟨AZ _,by lia⟩,?_⟩;rw[AY];refine cN (λi U g=>g=L/\∃c,U=[some (.tup J),some (.tup ys),c]) ⟨rfl,_,rfl⟩ ?_ ?_
  ·rintro i U g r ⟨rfl,c,rfl⟩;have j:J[i]?=some (J[i]'(by lia)):=Ae (by lia);have ev:ys[i]?=some ys[i]:=Ae r;have t:eM J (0+(i:Int))=some (J[i]'(by lia)):=by rw[BI];exact xq j
   have C:eM ys (0+(i:Int))=some ys[i]:=by rw[BI];exact xq ev
   walk_at "w";rw[t];walk_at "w";rw[C];exact⟨_,_,rfl,DZ p j ev,_,DU _,rfl,_,rfl⟩
  ·rintro U g ⟨rfl,c,rfl⟩;exact js q
 ·have o:=ED p;refine eQ h2 ?_;walk_at "w";refine eQ h2 ?_;walk_at "w";refine eQ h2 (eQ h1 ?_);walk_at "w";refine eQ h2 (eQ h1 ?_);walk_at "w";refine qc h1 (qc h2 (xr (by rw[o,AG rfl];rfl) ?_));refine qc h2 ⟨⟨AZ _,by lia⟩,?_⟩;rw[AY];refine cN (λi U g=>g=L/\∃c,U=[some (.ref a),some (.ref b),c]) ⟨rfl,_,rfl⟩ ?_ ?_
  ·rintro i U g r ⟨rfl,c,rfl⟩;have j:J[i]?=some (J[i]'(by lia)):=Ae (by lia);have ev:ys[i]?=some ys[i]:=Ae r;have t:eM J (0+(i:Int))=some (J[i]'(by lia)):=by rw[BI];exact xq j
   have C:eM ys (0+(i:Int))=some ys[i]:=by rw[BI];exact xq ev
   refine qc h1 (qw t (qc h2 (qw C ?_)));exact⟨_,_,rfl,DZ p j ev,_,DU _,rfl,_,rfl⟩
  ·rintro U g ⟨rfl,c,rfl⟩;exact js q
end L3
namespace L2
open PySem PySem.Spec PyProof.Rows
section
variable {w:World}
abbrev cW(n:Int):Obj:={ cls:=.type "range_iterator",data:=.fields #[rawInt (n-1),rawInt n,rawInt (-1)] }
theorem iH:isSubtype (.type "range_iterator") (.type "reversed")=pure false:=by rw[isSubtype_type];kernel_rfl
theorem m9{r:Addr}{n:Int}{t u v:Tok}(U:IsRange s.heap r 0 n 1 t u v)(h0:0<=n)(g:n<2 ^ 62)(h:Q (.ref s.heap.objs.size) { s with heap:=s.heap.push (cW n) }):wpAny (model prog w) A (call (.builtin "range.__reversed__") [.ref r]) Q E s:=by
 have j:s.TypeIs (.ref r) "range" := ⟨_,U,rfl⟩;refine wpAny_call_entry F.slot_range_reversed j F.entry_range_reversed ?_ (F.args_range_reversed_1 _);unfold Builtin.«range.__reversed__»;refine Aa (wpAny_of_eq (a:=Value.ref r) rfl ?_);unfold Builtin.Range.rangeFields;refine Aa (Aa (AN U rfl (x:=.int 0 t) rfl (Aa (wpAny_of_eq (a:=some 0) rfl (Aa (AN U rfl (x:=.int n u) rfl (Aa (wpAny_of_eq (a:=some n) rfl (Aa (AN U rfl (x:=.int 1 v) rfl (Aa (wpAny_of_eq (a:=some 1) rfl (Ag ?_)))))))))))));have e:Builtin.Range.rangeSize 0 n 1=n:=by unfold Builtin.Range.rangeSize;rw[AD (by decide)];split<;>omega
 have J:∀x:Int,-(2 ^ 62)<=x->x<2 ^ 62->Builtin.Range.rangeFitsLong x=true:=λx h1 h2=>by unfold Builtin.Range.rangeFitsLong;simp;omega
 dsimp only;rw[e,J 0 (by decide) (by decide),J n (by omega) g,J 1 (by decide) (by decide),J (-1) (by decide) (by decide),J (0-1) (by decide) (by decide)];rw[AE (by decide)];refine Aa (Bf ?_);have l:(0:Int)+(n-1)*1=n-1:=by omega
 rw[l];exact Ag ⟨_,rfl,h⟩
theorem mU{r:Addr}{n:Int}{t u v:Tok}{Q₁:Value->Shared->Prop}(J:IsRange s.heap r 0 n 1 t u v)(h0:0<=n)(U:n<2 ^ 62)(h:Q₁ (.ref s.heap.objs.size) { s with heap:=s.heap.push (cW n) }):
 codeAny (model prog w) A (.call (.builtin "reversed.__new__") ⟨[.type "reversed",.ref r],[]⟩) (wants Q₁ E) s:=by
 have g:s.TypeIs (.ref r) "range" := ⟨_,J,rfl⟩;refine codeAny_of_tree ?_;refine Aa (m:=checkBuiltinCall "reversed.__new__" ⟨[.type "reversed",.ref r],[]⟩) (wpAny_of_eq (F.newCall_reversed_1 _) (Ag ⟨plainId_quiet F.plain_reversed_new _,codeAny_builtin F.entry_reversed_new ?_⟩));rw[Ej F.plain_reversed_new _];unfold Builtin.«reversed.__new__»;refine Aa (wpAny_of_eq (newClass_reversed _) ?_);dsimp only;refine Aa (wpAny_of_eq (a:=()) (by first|rfl|kernel_rfl) ?_);refine Aa (wpAny_of_eq (a:=()) (by first|rfl|kernel_rfl) ?_);refine Aa (wpAny_specialOf g F.slot_range_reversed.lookup ?_);refine Aa (wpAny_of_eq (F.slot_range_reversed.bind _) ?_);show wpAny _ _ (if (Value.builtin "range.__reversed__" == Value.none)=true then _ else _) _ _ _;rw[AE (show ¬((Value.builtin "range.__reversed__" == Value.none)=true) from AA)];refine Aa (BC ?_);refine Aa (m:=runValue (.call (.builtin "range.__reversed__") ⟨[.ref r],[]⟩)) (show wpAny _ _ (call (.builtin "range.__reversed__") [.ref r]) _ _ _ from m9 J h0 U ?_)
 first
 |exact Ag h
 |exact Aa (Ag (Ag h))
theorem mV{r:Addr}{n:Int}{t u v:Tok}(g:IsRange s.heap r 0 n 1 t u v)(h0:0<=n)(j:n<2 ^ 62)(h:Q (.ref s.heap.objs.size) { s with heap:=s.heap.push (cW n) }):wpAny (model prog w) A (call (.type "reversed") [.ref r]) Q E s:=by refine callType_other (U:="range_iterator") (Q₁:=λobj J=>obj=.ref s.heap.objs.size/\J={ s with heap:=s.heap.push (cW n) }) (by decide +kernel) F.create_reversed ⟨_,_,F.mro_reversed⟩ F.made_reversed iH (F.typeCall_reversed_1 _) (mU g h0 j ⟨rfl,rfl⟩) ?_;rintro obj J ⟨rfl,rfl⟩;exact⟨⟨_,y1 _ rfl,rfl⟩,h⟩
end
def Itd(n:Nat):It:=⟨λi _=>i<n,λi H x H'=>H'=H/\x=.int ((n:Int)-1-i),λi _=>n<=i⟩
theorem yc{P:Program}{w:World}{K:Af}(it:Addr)(n:Nat):uW P w K tg (Itd n) [it] it (λi h=>IsRangeIter h it ((n:Int)-1+(i:Nat)*(-1)) ((n:Int)-(i:Nat)) (-1)) where
 mem:=by simp
 obj:=λi h st b U=>by
  have e:b=it:=by simpa using U
  subst e;exact⟨_,st,λv z=>by have z':Data.fields _=Data.cell v:=z;cases z'⟩
 keep:=λi h j st k=>k it (by simp) _ st
 item:=by intro X p hw r C i J s σ H E I l st T;subst p hw r;obtain⟨f0,f1,f2,f3,f4,f5⟩:=l it (by simp);have W:=Walks.range (prog:=X.prog) (w:=X.w) (I.ok.hd C) it ((n:Int)-1) (-1) n;refine x0 I.tk (W.item i s _ _ T st λv j tk hv g kk ht=>?_);obtain⟨t,rfl⟩:=hv;have I1:z9 X J σ H { s with heap:=j,toks:=tk }:=I.turned (λb o U e=>kk b o (by simpa using U) e) f0 f1 f3 f4 f5;refine⟨_,rfl,rH (s:={ s with heap:=j,toks:=tk }) (n:="range_iterator") g rfl rfl (by decide) ⟨.int ((n:Int)-1-i),H,I1,⟨t,?_⟩,⟨rfl,rfl⟩,g,λb U=>(l b U).1⟩⟩;congr 1;omega
 done:=by intro X p hw r C i J s σ H E I l st T;subst p hw r;obtain⟨f0,f1,f2,f3,f4,f5⟩:=l it (by simp);exact wpAny_pyNext_range_end (I.ok.hd C) st (by have:n<=i:=T;omega) λj eb=>⟨rfl,I.turned (t':=s.toks) (λb o U e=>eb b o U e) f0 f1 f3 f4 f5⟩
 self:=λ_ _ _ _ _ st h=>wpAny_pyIter_rangeiter st h
def ann(ta:TA):TI:=λσ H R=>ta σ H λvs H1=>∃n:Nat,vs=[.int n]/\(n:Int)<2 ^ 62/\R (Itd n) H1
theorem ag9{a:Expr}{ta:TA}{ps:Pos}(hg:Gl X "reversed")(hm:X.mg "reversed"=none)(j:Gl X "range")(l:X.mg "range"=none)(ha:PA X [a] ta)(hs:starEach [a] X.env=[(false,eval a X.env)]:=by rfl):
 PI X tg (.Call (.Name "reversed" p1) [.Call (.Name "range" p) [a] [] ps] [] pos) (ann ta):=by
 intro U s r H R I h;refine Call_ (az I hg hm i7 (callWith_type1 ?_ rfl rfl));show wpAny _ _ (spliced ((false,eval (.Call (.Name "range" p) [a] [] ps) X.env)::[])) _ _ s;refine Ef ?_;refine Call_ (az I j l boot_range (callWith_type1 (aI (ha ps U s r H _ I h) λus J ⟨vs,C,I1,r1,q1⟩=>?_) hs rfl));obtain⟨n,e,hn,q⟩:=q1;obtain⟨m,em⟩:∃m:Int,m=(n:Int):=⟨_,rfl⟩;rw[<-em] at e hn;subst e;obtain⟨u,rfl,ru⟩:=i3 r1;obtain⟨t,rfl⟩:=ru;refine call_range_1 (Ek ?_);have g:z9 X U r C { J with heap:=J.heap.push { cls:=.type "range",data:=.fields #[.int 0 J.toks,.int m t,.int 1 (J.toks+1)] },toks:=J.toks+1+1 }:=I1.kept λb o e=>xT _ e;generalize T:J.heap.push { cls:=.type "range",data:=.fields #[.int 0 J.toks,.int m t,.int 1 (J.toks+1)] }=g2 at g ⊢;have hr:IsRange g2 J.heap.objs.size 0 m 1 J.toks t (J.toks+1):=by rw[<-T];exact y1 _ rfl
 refine mV (s:={ J with heap:=g2,toks:=J.toks+1+1 }) hr (by omega) hn ?_;have st:IsRangeIter (g2.push (cW m)) g2.objs.size ((n:Int)-1+((0:Nat):Int)*(-1)) ((n:Int)-((0:Nat):Int)) (-1):=by rw[show(n:Int)-1+((0:Nat):Int)*(-1)=m-1 by omega,show(n:Int)-((0:Nat):Int)=m by omega];exact y1 _ rfl
 have I3:z9 X U r C { J with heap:=g2.push (cW m),toks:=J.toks+1+1 }:=g.kept (t':=J.toks+1+1) λb o e=>xT _ e;refine wpAny_pyIter_rangeiter (s:={ J with heap:=g2.push (cW m),toks:=J.toks+1+1 }) st ?_;refine⟨_,[_],_,_,C,rfl,I3,yc _ n,st,λb hb=>?_,q⟩;have e:b=g2.objs.size:=by simpa using hb
 subst e;exact g.fpOk (Al _) (g.hok.fresh (Al _))
end L2
namespace L3
open PySem L2
def fD(n:Nat):List Y:=(List.range n).map λk=>.int ((n:Int)-1-(k:Nat))
theorem rQ(n:Nat):dc G H₀ (Itd n) (fD n) (λ_=>True) where
 go:=λi H L t J j l=>show i<n by simpa[fD] using l
 yld:=λi H L x o y t J j U ⟨e,f⟩=>by
  subst e f;unfold fD at U;rw[An] at U;obtain⟨k,g,rfl⟩:=Am.mp U;have g:k=i:=by have:=AK.mp g;obtain⟨h,e⟩:=this;rw[List.getElem_range] at e;exact e.symm
  subst g;exact⟨DV _,J,rfl⟩
 stop:=λH L t J j=>by show n<=(fD n).length;simp[fD]
def t7(ta:dE)(τ:jq)(L:qm)(R:List Y->(qm->Prop)->qm->Prop):Prop:=ta τ L λvs L1=>match vs with
 |[.int j]=>∃n:Nat,j=(n:Int)/\n<=1000/\R (fD n) (λ_=>True) L1
 |_=>False
theorem af0{a:Expr}{ta:dE}{ps:Pos}(o:Gl X "reversed")(r:X.mg "reversed"=none)(U:Gl X "range")(g:X.mg "range"=none)(t:QA X [a] ta)(hs:starEach [a] X.env=[(false,eval a X.env)]:=by rfl):
 QI X tg (.Call (.Name "reversed" p1) [.Call (.Name "range" p) [a] [] ps] [] pos) (t7 ta):=PI.imq (ag9 o r U g t hs) λσ H R C L R3 I T z k=>by
 refine⟨C,L,_,I,T,z,λvs H1 ys L1 t1 j l J=>?_⟩;unfold t7 at J;split at J
 ·obtain⟨n,rfl,hn,z2⟩:=J;obtain⟨x,rfl,rx⟩:=l.inv1;cases rx;exact⟨n,rfl,by omega,k _ H1 _ _ L1 t1 j (rQ n) z2⟩
 ·exact J.elim
end L3
namespace L2
open PySem
theorem ajt(hu:X.A.units+128<cLine):vq X (compareOp .In) (λx y H Q=>∃l xs,∃ds:List Da,∃e,∃n m:Nat,y=.ref l/\H l=some (.lst xs)/\n<=126/\Paired (vg X.K H n) xs ds/\vg X.K H m x e/\(∀u∈xs,∃a,u=.ref a)/\(∀d∈ds,∀d'∈ds,Da.eq d d'=true->Da.eq d e=Da.eq d' e)/\Q (.bl (ds.any λd=>Da.eq d e)) H):=by
 classical
 intro a1 s σ H x y v u Q I rx ry h;obtain⟨l,xs,ds,e,n,m,rfl,hH,hn,T,re,rf,cg,q⟩:=h;cases ry;obtain⟨z,U,nn,r,hl,eo⟩:=I.lstM hH;have l2:U.length=xs.length:=r.length.symm
 let f:Value->Bool:=λw=>match w with
  |.ref a=>decide (∃(k:Nat) (d:Da),xs[k]?=some (V.ref a)/\ds[k]?=some d/\Da.eq d e=true)
  |_=>false
 have g:∀k w,U[k]?=some w->∃(a:Addr) (d:Da),w=Value.ref a/\xs[k]?=some (V.ref a)/\ds[k]?=some d/\vg X.K H n (V.ref a) d:=λk w j=>by have hk:=(AK.mp j).1;have ex:=Ae (by omega:k<xs.length);obtain⟨d,J,rd⟩:=Words.Paired.getP T ex;obtain⟨u',o,p⟩:=Words.Paired.getP r ex;rw[j] at o;cases o;obtain⟨a,ea⟩:=rf _ (Aw ex);rw[ea] at ex rd p;exact⟨a,d,p,ex,J,rd⟩
 have fv:∀{k a d},xs[k]?=some (V.ref a)->ds[k]?=some d->vg X.K H n (V.ref a) d->f (Value.ref a)=Da.eq d e:=λ{k a d} ex J rd=>by
  cases h:Da.eq d e with
  |true=>exact AG ⟨k,d,ex,J,h⟩
  |false=>
   refine Au λ⟨k',d',h1,h2,h3⟩=>?_;have:=cg d (Aw J) d' (Aw h2) (jM I n rd (DZ T h1 h2));rw[h,h3] at this;cases this
 refine SeqAt.in_listAt f ⟨_,eo,rfl,nn,rfl⟩ (λw hw=>?_) ?_
 ·obtain⟨k,j⟩:=Bj (show w∈U by simpa using hw);obtain⟨a,d,rfl,ex,J,rd⟩:=g k w j;rw[fv ex J rd];exact gv (A:=X.A.in1) I n (by show X.A.units+1+n<cLine;omega) rd re rfl rx
 ·refine⟨.bl _,H,I,?_,q⟩;have:U.toArray.any f=ds.any λd=>Da.eq d e:=by
   rw[List.any_toArray,Bg,DG,DG];constructor
   ·rintro⟨w,hw,C⟩;obtain⟨k,j⟩:=Bj hw;obtain⟨a,d,rfl,ex,J,rd⟩:=g k w j;rw[fv ex J rd] at C;exact⟨d,Aw J,C⟩
   ·rintro⟨d,hd,C⟩;obtain⟨k,J⟩:=Bj hd;have lp:=L3.pair_len T;have hk:=(AK.mp J).1;have ei:=Ae (by omega:k<U.length);obtain⟨a,d',ew,ex,t,rd⟩:=g k _ ei;rw[J] at t;cases t;exact⟨_,Aw ei,by rw[ew,fv ex J rd];exact C⟩
  rw[this];rfl
end L2
namespace L3
open PySem L2
def lG(p:List Int×Int):Da:=.tup [.lst (p.1.map λx=>.s (.int x)),.s (.int p.2)]
theorem qR:∀w u:List Int,Da.eqs (w.map λx=>Da.s (.int x)) (u.map λx=>Da.s (.int x))=decide (w=u)
 |[],[]=>rfl
 |[],_::_=>rfl
 |_::_,[]=>rfl
 |x::w,y::u=>by rw[AO,AO,Da.eqs,qR w u];show(decide (x=y)&&decide (w=u))=_;rw[Bg];simp
theorem pL(p q:List Int×Int):Da.eq (lG p) (lG q)=decide (p=q):=by show(Da.eqs _ _&&(decide (p.2=q.2)&&true))=_;rw[qR,Bg];simp[Prod.ext_iff]
theorem vO{w:List Int}{i:Int}(h:L a=some (.lst (w.map Y.int))):jc L 2 (.tup [.ref a,.int i]) (lG (w,i)):=by
 have:∀u:List Int,Paired (jc L 0) (u.map Y.int) (u.map λx=>Da.s (.int x)):=λu=>by induction u with|nil=>exact .nil|cons x r J=>exact .cons ⟨rfl,rfl⟩ J
 exact aS (.cons (wr h (this w)) (.cons (EG i) .nil))
def agb(L:qm)(e:Addr×Int)(p:List Int×Int):Prop:=L e.1=some (.lst (p.1.map Y.int))/\e.2=p.2
theorem aev{e:Addr×Int}{p:List Int×Int}(h:agb L e p):jc L 2 (.tup [.ref e.1,.int e.2]) (lG p):=by obtain⟨a,i⟩:=e;obtain⟨w,j⟩:=p;obtain⟨h1,h2⟩:=h;cases (show i=j from h2);exact vO h1
def ac1(x y:Y)(L:qm)(Q:YK):Prop:=match x,y with
 |.tup [.ref J,.int i],.ref a=>cU L a λys=>∃es:List (Addr×Int),∃ps:List (List Int×Int),∃w:List Int,ys=es.map (λe=>Y.tup [.ref e.1,.int e.2])/\Paired (agb L) es ps/\L J=some (.lst (w.map Y.int))/\Q (.bl (decide ((w,i)∈ps))) L
 |_,_=>False
theorem ahz(o:X.A.units+128<cLine):vq X (compareOp .In) (eV X.g3 ac1):=EL (ajt o) λx y H Q x3 y3 L Q3 rx ry g z k=>by
 unfold ac1 at z;split at z
 ·rename_i wa i a;obtain⟨zs,e,l,J,w,rfl,pr,ew,z⟩:=xn z;obtain⟨us,e2,r⟩:=g a _ e;have both:∀{l:List (Addr×Int)} {J:List (List Int×Int)} {U:List V},Paired (agb L) l J->x6 X.g3 H (l.map λe=>Y.tup [.ref e.1,.int e.2]) U->Paired (vg X.K H 2) U (J.map lG):=by
   intro l J U p
   induction p generalizing U with
   |nil=>intro q;cases (show U=[] from q);exact .nil
   |cons h t ih=>
    rintro⟨x,a1,rfl,q1,q2⟩;refine .cons (jc.rep g (aev h) q1) (ih q2)
  have I:=both pr r;have ea:((J.map lG).any λd=>Da.eq d (lG (w,i)))=decide ((w,i)∈J):=by
   rw[List.any_map,Bg,DG,decide_eq_true_iff];constructor
   ·rintro⟨q,hq,h⟩;have h:Da.eq (lG q) (lG (w,i))=true:=h;rw[pL] at h;exact of_decide_eq_true h▸hq
   ·exactλh=>⟨_,h,by show Da.eq (lG (w,i)) (lG (w,i))=true;rw[pL];exact AG rfl⟩
  refine⟨a,us,_,_,2,2,ry,e2,by decide,I,jc.rep g (vO ew) rx,λu o=>?_,λd hd d' C h=>?_,?_⟩
  ·obtain⟨j,ej⟩:=Bj o;obtain⟨d,T,rd⟩:=Words.Paired.getP I ej;rw[An] at T;obtain⟨q,_,rfl⟩:=Am.mp T;rcases rd with⟨h,_⟩|⟨b,_,_,h,_⟩|⟨b,_,_,h,_⟩
   ·cases h
   ·exact⟨b,h⟩
   ·exact⟨b,h⟩
  ·obtain⟨q,_,rfl⟩:=AS.mp hd;obtain⟨q',_,rfl⟩:=AS.mp C;rw[pL] at h;rw[of_decide_eq_true h]
  ·rw[ea];exact k _ _ _ _ (DV _) g (by rfl) z
 ·exact z.elim
open PySem L2 Words
def kY(J:jr):ke:=(qr (zr (jh qz) (qh 1))
 (qr (zr (jh (qd (zF (jh qz) (qb 0)) qz)) (qh 2))
 (qr (dJ (rdN (qb 2) (jh qz)) (qr (zr (wu qA (qb 2) qz) (qh 3))
 (qr (j9 (wu zq (qb 1) (x9 (qb 3))))
 (qr (zr (uE 2 (dm (zc J (x9 (jy 3 1)))) (wo 2 (zm (qh 5) (zm (qh 6) kw))) yj (vt (qd (zn kc (jy 3 0) (jh (x9 (qb 5)))) (x9 (qb 6))))) (qh 4))
 (qr (j9 (wu gF (qb 4) qz))
 (j9 (wu ac (qb 2) (x9 (qb 4)))))))))
 (je (qb 1)))))
def mH(J:jr)(p1:jr)(p2:jr):ke:=(qr (zr (jh qz) (qh 1))
 (qr (bB (kz (zc J (x9 (jy 0 1)))) (wo 2 (zm (qh 2) (zm (qh 3) kw))) (bB (cf (qd (iT jL (qd (zc p1 (x9 (qb 3))) qz)) qz)) (qh 4) (jz (yB (fY true (zc p2 (qd (jy 0 0) (a9 (qb 3) (qb 4)))))) (j9 (wu zq (qb 1) (qd (vt (qd (iT wx (x9 (qb 2))) (x9 (qb 4)))) qz))) jk)))
 (je (qb 1))))
def ao(S:Ru)(w:List Int):List (List Int×Ru):=(qk S).zipIdx.map λe=>(w++[(e.2:Int)],e.1)
theorem cI(S:Ru)(w:List Int)(i:Nat):(ao S w)[i]?=(qk S)[i]?.map λA=>(w++[(i:Int)],A):=by unfold ao;rw[An,C2];cases (qk S)[i]?<;>simp
theorem fi(S:Ru)(w:List Int):(ao S w).length=(qk S).length:=by unfold ao;rw[Ab,List.length_zipIdx]
def fA:Ru->List Int->List (List Int×Ru)
 |.link p q,w=>[(w,.link p q)]
 |.ei r A,w=>(w,.ei r A)::fA A (w++[0])
 |.bo r A B,w=>(w,.bo r A B)::(fA A (w++[0])++fA B (w++[1]))
 |.cu p q A B,w=>(w,.cu p q A B)::(fA A (w++[0])++fA B (w++[1]))
theorem lh(S:Ru)(w:List Int):fA S w=(w,S)::(ao S w).flatMap λe=>fA e.2 e.1:=by cases S<;>simp[fA,ao,qk]
theorem ww:∀(S:Ru) (w:List Int),(fA S w).length=vf S
 |.link p q,w=>rfl
 |.ei r A,w=>Bb (· + 1) (ww A _)
 |.bo r A B,w=>by show(fA A _++fA B _).length+1=_;rw[Ac,ww A,ww B];rfl
 |.cu p q A B,w=>by show(fA A _++fA B _).length+1=_;rw[Ac,ww A,ww B];rfl
theorem rP(R:Ru)(k:Nat):kq R (k:Int)=(qk R)[k]?:=by
 unfold kq;split
 ·rw[AY]
 ·rename_i c;rw[BU (by lia)]
theorem jV{T:Ru}{w v:List Int}:(v,T)∈fA S w↔∃u,v=w++u/\w4 S u=some T:=by
 have:∀n,∀S:Ru,vf S<=n->∀w v,(v,T)∈fA S w↔∃u,v=w++u/\w4 S u=some T:=by
  intro n
  induction n with
  |zero=>intro S h;have:=gA S;lia
  |succ n g=>
   intro S h w v;rw[lh,Ap,A2];constructor
   ·rintro(h0|⟨⟨t,A⟩,p,h0⟩)
    ·cases h0;exact⟨[],(AI _).symm,rfl⟩
    ·obtain⟨i,ei⟩:=Bj p;rw[cI] at ei;obtain⟨C,l,r⟩:=Am.mp ei;cases r;have z:=gg (Aw l);obtain⟨u,rfl,J⟩:=(g A (by lia) _ v).mp h0;refine⟨(i:Int)::u,by rw[AH];rfl,?_⟩;show(match kq S (i:Int) with|some B=>w4 B u|none=>none)=_;rw[rP,l];exact J
   ·rintro⟨u,rfl,J⟩;cases u with
    |nil=>cases J;exact .inl (by rw[AI])
    |cons j u=>
     rename w4 S (j::u)=some T=>U
     have J:(match kq S j with|some B=>w4 B u|none=>none)=some T:=U;clear U;cases e:kq S j with
     |none=>rw[e] at J;cases J
     |some B=>
      rw[e] at J;replace J:w4 B u=some T:=J;obtain⟨k,rfl,o⟩:=ae e;have z:=gg (Aw o);refine .inr ⟨(w++[(k:Int)],B),Aw (i:=k) (by rw[cI,o];rfl),(g B (by lia) _ _).mpr ⟨u,by rw[AH];rfl,J⟩⟩
 exact this _ S (Al _) w v
def jG(f:Ru->Nat->Bool)(e:List Int×Ru):List (List Int×Int):=((List.range (qk e.2).length).filter (f e.2)).map λk=>(e.1,((k:Nat):Int))
def rK(ks:List Kn)(R:Ru):List (List Int×Int):=(fA R []).flatMap (jG λS k=>(aC ks S k).isSome)
theorem uz{w:List Int}{i:Int}:(w,i)∈rK ks R↔yH ks R w i≠none:=by
 unfold rK yH;rw[A2];constructor
 ·rintro⟨⟨J,S⟩,U,h⟩;obtain⟨k,g,e⟩:=AS.mp h;obtain⟨rfl,rfl⟩:=Prod.mk.inj e;obtain⟨u,e,j⟩:=jV.mp U;obtain⟨h1,h2⟩:=AU.mp g;have h1:=A6.mp h1;cases (show J=u from e);rw[j];show(match kq S (k:Int) with|none=>none|some _=>(aC ks S (k:Int).toNat).map (mM R J))≠none;rw[rP,Ae h1];show(aC ks S (k:Int).toNat).map (mM R J)≠none;rw[AY];have h2:(aC ks S k).isSome=true:=h2;cases e:aC ks S k with
  |none=>rw[e] at h2;cases h2
  |some T=>simp
 ·intro h;split at h
  ·exact absurd rfl h
  ·rename_i S l;split at h
   ·exact absurd rfl h
   ·rename_i B o;obtain⟨k,rfl,p⟩:=ae o;refine⟨(w,S),jV.mpr ⟨w,rfl,l⟩,AS.mpr ⟨k,AU.mpr ⟨A6.mpr (jv p),?_⟩,rfl⟩⟩;rw[AY] at h;show(aC ks S k).isSome=true;cases e:aC ks S k with
    |none=>rw[e] at h;exact absurd rfl h
    |some T=>rfl
theorem ag4{k:Nat}{E:List Nat}(J:SR ks R E)(U:k<(qk R).length):(goR ks R (k:Int)).isSome=(aC ks R k).isSome:=by
 obtain⟨ts,_,g,j⟩:=ae7 J (Ae U);rw[g,j];cases e:xm (qk R)[k] ts with
 |none=>rfl
 |some n=>
  obtain⟨B,l,_⟩:=vK e;show _=(match (qk (qk R)[k])[n]? with|some B=>some (aF _ n (aF R k B))|none=>none).isSome;rw[l];rfl
abbrev WT:=Addr×List Int×Ru
def aJ(t:WT):Y:=.tup [.ref t.1,qj t.2.2]
def sO(t:WT):Da:=.tup [.lst (t.2.1.map λx=>.s (.int x)),bA t.2.2]
structure HW{β:Type}(L:qm)(X:List Addr)(ts:List (Addr×List Int×β)):Prop where
 at_:∀t∈ts,L t.1=some (.lst (t.2.1.map Y.int))/\t.1∉X
theorem HW.mono{X:List Addr}{ts:List (Addr×List Int×β)}(h:HW L X ts)(s:qg L L'):HW L' X ts:=⟨λt m=>⟨s _ _ (h.at_ t m).1,(h.at_ t m).2⟩⟩
theorem HW.upd{X:List Addr}{ts:List (Addr×List Int×β)}{o:LO}(h:HW L X ts)(m:a∈X):HW (qf L a o) X ts:=⟨λt mt=>⟨(q9 λe=>(h.at_ t mt).2 (by rw[e];exact m)).trans (h.at_ t mt).1,(h.at_ t mt).2⟩⟩
theorem HW.sub{X:List Addr}{ts us:List (Addr×List Int×β)}(h:HW L X ts)(m:∀t∈us,t∈ts):HW L X us:=⟨λt mt=>h.at_ t (m t mt)⟩
theorem HW.app{X:List Addr}{ts us:List (Addr×List Int×β)}(h:HW L X ts)(g:HW L X us):HW L X (ts++us):=⟨λt mt=>(Ar.mp mt).elim (h.at_ t) (g.at_ t)⟩
theorem HW.one{X:List Addr}{w:List Int}{S:β}(h:L a=some (.lst (w.map Y.int)))(m:a∉X):HW L X [(a,w,S)]:=⟨λt mt=>by rw[Ai.mp mt];exact⟨h,m⟩⟩
theorem jO{L:qm}{X:List Addr}:∀{ts:List WT},HW L X ts->(∀t∈ts,ja t.2.2<=120)->Paired (jc L 121) (ts.map aJ) (ts.map sO)
 |[],_,_=>.nil
 |t::r,h,d=>.cons (aS (n:=120) (.cons (wr (n:=119) (h.at_ t (Ak ..)).1 (nZ _)) (.cons (bG (d t (Ak ..))) .nil))) (jO (h.sub λu m=>Ad _ m) λu m=>d u (Ad _ m))
theorem kC(st:List WT):Da.eqs (st.map sO) []=decide (st=[]):=by cases st<;>rfl
end L3
variable {ve:List L3.WT}
namespace L3
open PySem L2 Words
def o3(L:qm)(ts:List (Addr×List Int×β)):Prop:=∀t∈ts,L t.1=none
def pD:jr:=λys L Q=>∃R:Ru,ys=[qj R]/\ja R<=120/\vf R<=1000/\∀p ts L',qg L L'->L p=none->L' p=some (.lst (ts.map aJ))->HW L' [] ts->o3 L ts->ts.map (·.2)=fA R []->Q (.ref p) L'
theorem HW.nil{X:List Addr}{ts:List (Addr×List Int×β)}(h:HW L X ts):HW L [] ts:=⟨λt m=>⟨(h.at_ t m).1,λz=>by cases z⟩⟩
structure ByI(R:Ru)(fs st:List WT):Prop where
 all:fs.map (·.2)++(st.reverse.flatMap λt=>fA t.2.2 t.2.1)=fA R []
 dep:∀t∈st,ja t.2.2<=120
theorem ByI.len{fs st:List WT}(h:ByI R fs st):fs.length<=vf R/\st.length<=vf R:=by
 have e:=Bb List.length h.all;rw[Ac,Ab,ww] at e;have:∀l:List WT,l.length<=(l.flatMap λt=>fA t.2.2 t.2.1).length:=λl=>by
  induction l with
  |nil=>exact Al _
  |cons t r J=>
   rw[AR,Ac,AL,ww];have:=gA t.2.2;lia
 have:=this st.reverse;rw[Bk] at this;lia
theorem HW.grow{X:List Addr}{ts:List (Addr×List Int×β)}{p:Addr}(h:HW L X ts)(n:L p=none):HW L (p::X) ts:=⟨λt m=>⟨(h.at_ t m).1,λz=>(Ap.mp z).elim (v5 (h.at_ t m).1 n) (h.at_ t m).2⟩⟩
theorem HW.less{X:List Addr}{ts:List (Addr×List Int×β)}{p:Addr}(h:HW L (p::X) ts):HW L X ts:=⟨λt m=>⟨(h.at_ t m).1,λz=>(h.at_ t m).2 (Ad _ z)⟩⟩
theorem ByI.way{fs:List WT}{t:WT}(h:ByI R fs (ve++[t])):w4 R t.2.1=some t.2.2:=by
 have e:=h.all;rw[De,DM,List.singleton_append,AR,lh t.2.2 t.2.1] at e;have m:(t.2.1,t.2.2)∈fA R []:=by rw[<-e];simp
 obtain⟨u,J,U⟩:=jV.mp m;rw[J];exact U
theorem sd(S:Ru)(w:List Int):((ao S w).map λe=>vf e.2).sum+1=vf S:=by rw[<-ff S];unfold ao;rw[BA,show((λe:List Int×Ru=>vf e.2)∘λe:Ru×Nat=>(w++[(e.2:Int)],e.1))=vf∘Prod.fst from rfl,<-BA,List.zipIdx_map_fst]
theorem ByI.step{fs us:List WT}{t:WT}(h:ByI R fs (ve++[t]))(e:us.map (·.2)=ao t.2.2 t.2.1):ByI R (fs++[t]) (ve++us.reverse)/\((ve++us.reverse).map λt=>vf t.2.2).sum<((ve++[t]).map λt=>vf t.2.2).sum:=by
 obtain⟨a,d⟩:=h;refine⟨⟨?_,λu J=>?_⟩,?_⟩
 ·rw[De,DM,List.singleton_append,AR,lh t.2.2 t.2.1] at a;rw[<-a,De,C5,Ay,Aj,AH];have:(us.flatMap λt=>fA t.2.2 t.2.1)=(us.map (·.2)).flatMap λe=>fA e.2 e.1:=by rw[List.flatMap_map]
  rw[this,e];rfl
 ·rcases Ar.mp J with J|J
  ·exact d u (Aq _ J)
  ·have m:u.2∈ao t.2.2 t.2.1:=by rw[<-e];exact AS.mpr ⟨u,List.mem_reverse.mp J,rfl⟩
   obtain⟨i,ei⟩:=Bj m;rw[cI] at ei;obtain⟨A,U,g⟩:=Am.mp ei;have h1:=vj (Aw U);have h2:=d t (by simp);rw[<-g];show ja A<=120;lia
 ·have:(us.map λt=>vf t.2.2).sum+1=vf t.2.2:=by rw[<-sd t.2.2 t.2.1,<-e,BA];rfl
  have h2:(us.reverse.map λt=>vf t.2.2).sum=(us.map λt=>vf t.2.2).sum:=by rw[CV,List.sum_reverse]
  rw[Aj,Aj,BN,BN,h2,Dl,Dm];lia
theorem ah0:∀ys L Q,pD ys L Q->xp (kY vv) 5 ys L Q:=by
 rintro ys L Q ⟨R,rfl,hd,hz,q⟩;have big:=bg_;intro g a4 w0 a5 j C;have ag:g≠w0:=v5 q8 a5;have au:w0≠j:=v5 q8 C;have T:g≠j:=v5 ((q9 ag).trans q8) C;have a3:L j=none:=zw (zw C);have S0:qg L (qf (qf (qf L g (.lst [])) w0 (.lst [])) j (.lst [.tup [.ref w0,qj R]])):=((By a4).trans (By a5)).trans (By C);refine⟨λm τ J=>∃fs st c3 c4,τ=[some (qj R),some (.ref g),some (.ref j),c3,c4]/\qg L J/\J g=some (.lst (fs.map aJ))/\J j=some (.lst (st.map aJ))/\HW J [g,j] (fs++st)/\o3 L (fs++st)/\ByI R fs st/\m=(st.map λt=>vf t.2.2).sum,⟨_,[],[(w0,[],R)],_,_,rfl,S0,(q9 T).trans ((q9 ag).trans q8),q8,.one ((q9 au).trans q8) (by simp[AB ag,au]),λt ht=>(by rw[Ai.mp ht];exact zw a5),⟨by simp,λt ht=>by rw[Ai.mp ht];exact hd⟩,rfl⟩,?_⟩;rintro m τ J ⟨fs,st,c3,c4,rfl,s,h1,h2,H,F,I,rfl⟩;intro p hp;have r:=By (o:=.lst []) hp;refine wz (n:=121) (m:=0) (by decide) (r _ _ h2) q8 (jO ((H.sub λt m=>Ah _ m).mono r) I.dep) (.nil:Paired (jc _ 0) _ []) ?_;replace h1:=r _ _ h1;replace h2:=r _ _ h2;replace H:=H.mono r;replace s:=s.trans r;clear r;generalize qf J p (.lst [])=L2 at s h1 h2 H ⊢;show kj (!(Da.eqs (st.map sO) [])) _ _;rw[kC];have il:=I.len;rcases BE st with rfl|⟨ve,t,rfl⟩
 ·refine xr rfl ?_;have e:=I.all;rw[List.reverse_nil,C0,AI] at e;refine js (q g fs L2 s a4 h1 (H.sub λt m=>Aq _ m).nil (λt m=>F t (Aq _ m)) e)
 ·rw[BF] at *;rw[Au (by simp)];refine kn rfl ⟨λav J=>∃m',m'<((ve++[t]).map λt=>vf t.2.2).sum/\∃fs st c3 c4,av=[some (qj R),some (.ref g),some (.ref j),c3,c4]/\qg L J/\J g=some (.lst (fs.map aJ))/\J j=some (.lst (st.map aJ))/\HW J [g,j] (fs++st)/\o3 L (fs++st)/\ByI R fs st/\m'=(st.map λt=>vf t.2.2).sum,λav J h=>h,?_⟩;rw[Aj] at h2;refine lI h2 ?_;replace h1:=(q9 (o:=.lst (ve.map aJ)) T).trans h1;replace H:=H.upd (o:=.lst (ve.map aJ)) (a:=j) (by simp);replace s:=s.upd (o:=.lst (ve.map aJ)) a3;replace h2:qf L2 j (.lst (ve.map aJ)) j=some (.lst (ve.map aJ)):=q8;generalize qf L2 j (.lst (ve.map aJ))=L3 at s h1 h2 H ⊢;obtain⟨wa,w,S⟩:=t;have hw:=H.at_ (wa,w,S) (by simp);refine qc h1 (qx h1 ⟨by rw[Ab];exact big _ (by lia),?_⟩);replace H:=H.upd (o:=.lst (fs.map aJ++[aJ (wa,w,S)])) (a:=g) (by simp);replace h2:=(q9 (o:=.lst (fs.map aJ++[aJ (wa,w,S)])) (AB T)).trans h2;replace s:=s.upd (o:=.lst (fs.map aJ++[aJ (wa,w,S)])) a4;replace h1:qf L3 g (.lst (fs.map aJ++[aJ (wa,w,S)])) g=some (.lst ((fs++[(wa,w,S)]).map aJ)):=by rw[q8,Aj];rfl
  replace hw:=H.at_ (wa,w,S) (by simp);generalize qf L3 g (.lst (fs.map aJ++[aJ (wa,w,S)]))=L4 at s h1 h2 H hw ⊢;refine⟨S,rfl,λp1 n1=>?_⟩;have r:=By (o:=.lst ((qk S).map qj)) n1;replace h1:=r _ _ h1;replace h2:=r _ _ h2;replace H:=H.mono r;replace s:=s.trans r;replace hw:=r _ _ hw.1;have g1:qf L4 p1 (.lst ((qk S).map qj)) p1=some (.lst ((qk S).map qj)):=q8;clear r n1;generalize qf L4 p1 (.lst ((qk S).map qj))=L5 at s h1 h2 H hw g1 ⊢;have al:=dr S;have wl:w.length<=1000:=by have h:=(gY I.way).1;have h:w.length+1<=ja R:=h;lia
  refine x5 g1 λkeep kp=>tz ⟨by rw[bU,Ab];exact big _ (by lia),λi zs J=>∃us:List WT,zs=us.map aJ/\qg L5 J/\HW J [g,j] us/\o3 L us/\us.map (·.2)=(ao S w).take i,⟨[],rfl,DU _,⟨λt m=>by cases m⟩,λt m=>(by cases m),rfl⟩,?_,?_,?_⟩
  ·rintro i zs J ⟨us,rfl,l,_⟩;exact kp J (by rw[l _ _ g1,g1])
  ·rintro i y zs J hy ⟨us,rfl,l,H',F',e'⟩;obtain⟨z,ez,rfl⟩:=bQ hy;rw[An] at ez;obtain⟨B,eB,rfl⟩:=Am.mp ez;intro p2 n2;have s2:=By (o:=.lst [.int (i:Int)]) n2;refine⟨_,_,(l.trans s2) _ _ hw,q8,by rw[Ab];show w.length+1<=sizeLine;exact Bd (big _ (by lia)),λp3 n3=>?_⟩;have s3:=s2.trans (By (o:=.lst (w.map Y.int++[.int (i:Int)])) n3);have ne:p3∉[g,j]:=by have a1:=v5 ((l.trans s2) _ _ h1) n3;have a2:=v5 ((l.trans s2) _ _ h2) n3;simp[AB a1,AB a2]
   refine⟨_,DU _,us++[(p3,w++[(i:Int)],B)],by rw[Aj];rfl,l.trans s3,(H'.mono s3).app (.one (by rw[q8,Aj];rfl) ne),λt m=>?_,?_⟩
   ·rcases Ar.mp m with m|m
    ·exact F' t m
    ·rw[Ai.mp m];exact(s.trans (l.trans s2)).none n3
   rw[Aj,e',A9,cI,eB];rfl
  ·rintro zs J ⟨us,rfl,l,H',F',e'⟩ p4 n4;rw[bU,Ab,A5 (by rw[fi];exact Al _)] at e';have s4:=By (o:=.lst (us.map aJ)) n4;have n1:=v5 (l _ _ h1) n4;have n2:=v5 (l _ _ h2) n4;have U:=((H'.grow n4).app ((H.mono l).grow n4)).mono s4;have aL:L p4=none:=(s.trans l).none n4;replace s:=(s.trans l).trans s4;replace h1:=s4 _ _ (l _ _ h1);replace h2:=s4 _ _ (l _ _ h2);have g4:qf J p4 (.lst (us.map aJ)) p4=some (.lst (us.map aJ)):=q8;clear s4;generalize qf J p4 (.lst (us.map aJ))=L6 at s h1 h2 U g4 ⊢;refine qc g4 (qx g4 ?_);replace s:=s.upd (o:=.lst (us.map aJ).reverse) aL;replace U:=U.upd (o:=.lst (us.map aJ).reverse) (a:=p4) (by simp);replace h1:=(q9 (o:=.lst (us.map aJ).reverse) n1).trans h1;replace h2:=(q9 (o:=.lst (us.map aJ).reverse) n2).trans h2;replace g4:qf L6 p4 (.lst (us.map aJ).reverse) p4=some (.lst (us.map aJ).reverse):=q8;generalize qf L6 p4 (.lst (us.map aJ).reverse)=L7 at s h1 h2 U g4 ⊢;obtain⟨I',ms⟩:=I.step (us:=us) e';have ul:us.length<=2:=by have:=Bb List.length e';rw[Ab,fi] at this;lia
   have l0:ve.length<=1000:=by have:=il.2;rw[Ac] at this;lia
   refine qc h2 (qx h2 (qx g4 ⟨by rw[Ab,Bk,Ab];exact Bd (big _ (by lia)),?_⟩));refine⟨_,DU _,_,ms,fs++[(wa,w,S)],ve++us.reverse,_,_,rfl,s.upd a3,(q9 T).trans h1,by rw[q8,Aj,CV],((U.less.upd (by simp)).sub λt ht=>?_),λt ht=>?_,I',rfl⟩
   ·simp at ht ⊢;rcases ht with h|h|h|h<;>simp[h]
   ·have F0:=F t;have F1:=F' t;simp at ht F0;rcases ht with h|h|h|h
    ·exact F0 (.inl h)
    ·exact F0 (.inr (.inr h))
    ·exact F0 (.inr (.inl h))
    ·exact F1 h
abbrev WP:=Addr×List Int×Int
def m6(q:WP):Y:=.tup [.ref q.1,.int q.2.2]
theorem ab2(f:Ru->Nat->Bool)(e:List Int×Ru):(jG f e).length<=2:=by unfold jG;rw[Ab];have h1:=Co (f e.2) (List.range (qk e.2).length);rw[Bw] at h1;have:=dr e.2;lia
theorem fj(f:Ru->Nat->Bool):∀l:List (List Int×Ru),(l.flatMap (jG f)).length<=2*l.length
 |[]=>Al _
 |e::r=>by have h1:=ab2 f e;have h2:=fj f r;rw[AR,Ac,AL];lia
def exK(f:Ru->Nat->Bool)(S:Ru)(w:List Int)(k:Nat):List (List Int×Int):=((List.range k).filter (f S)).map λk=>(w,((k:Nat):Int))
theorem sL(f:Ru->Nat->Bool)(S:Ru)(w:List Int)(k:Nat):exK f S w (k+1)=exK f S w k++if f S k=true then [(w,(k:Int))] else []:=by unfold exK;rw[List.range_succ,BQ,Aj];congr 1;cases h:f S k<;>simp[h]
theorem wH(f:Ru->Nat->Bool)(S:Ru)(w:List Int)(k:Nat):(exK f S w k).length<=k:=by unfold exK;rw[Ab];have h1:=Co (f S) (List.range k);rw[Bw] at h1;exact h1
def xu(ks:List Kn)(S:Ru)(k:Nat):Bool:=(aC ks S k).isSome
def pU:jr:=λys L Q=>∃a,∃wd:List (Option Kn),∃ks:List Kn,∃R:Ru,∃E:List Nat,ys=[.tup [.ref a,qj R]]/\L a=some (.lst (cH wd))/\SR ks R E/\uB ks wd R/\(qo R).length<=120/\ja R<=120/\vf R<=1000/\
 ∀p (J:List WP) L',qg L L'->L p=none->L' p=some (.lst (J.map m6))->HW L' [p] J->o3 L J->J.map (·.2)=rK ks R->Q (.ref p) L'
theorem ae5:∀ys L Q,pU ys L Q->xp (mH pD vv gD) 5 ys L Q:=by
 rintro ys L Q ⟨a,wd,I,R,E,rfl,ha,sr,ag,tl,hd,hz,q⟩;have big:=bg_;intro l a1;have s0:=By (o:=.lst []) a1;refine⟨R,rfl,hd,hz,λp ts L1 s1 np g1 H1 F1 e1=>?_⟩;have gl:=s1 _ _ (q8:qf L l (.lst []) l=_);have a3:l≠p:=v5 q8 np;replace H1:HW L1 [l] ts:=⟨λt m=>⟨(H1.at_ t m).1,λz=>v5 q8 (F1 t m) (Ai.mp z).symm⟩⟩;have s:=s0.trans s1;have bl:=Bb List.length e1;rw[Ab,ww] at bl;clear F1 np s1 s0;refine x5 g1 λkeep kp=>vh ⟨λi τ C=>∃c2 c3 c4,∃U:List WP,τ=[some (.tup [.ref a,qj R]),some (.ref l),c2,c3,c4]/\qg L C/\C l=some (.lst (U.map m6))/\C p=some (.lst (ts.map aJ))/\HW C [l] ts/\HW C [l] U/\o3 L U/\U.map (·.2)=((fA R []).take i).flatMap (jG (xu I)),⟨_,_,_,[],rfl,s,gl,g1,H1,⟨λt m=>by cases m⟩,λt m=>(by cases m),rfl⟩,?_,?_,?_⟩
 ·rintro i τ C ⟨c2,c3,c4,U,rfl,_,_,g,_⟩;exact kp C (by rw[g,g1])
 ·rintro i y τ C hy ⟨c2,c3,c4,U,rfl,r,J,g',Ht,Hq,F,eq⟩;rw[An] at hy;obtain⟨⟨wa,w,S⟩,et,rfl⟩:=Am.mp hy;have hi:=jv et;have eb:(fA R [])[i]?=some (w,S):=by rw[<-e1,An,et];rfl
  have em:(w,S)∈fA R []:=Aw eb;obtain⟨u,eu,hu⟩:=jV.mp em;cases (show w=u from eu);obtain⟨wl,mS⟩:=gY hu;obtain⟨⟨ES,sS⟩,tS,a2,dS,_⟩:=sr.rls S mS;have a5:=a2.length_le;have rd:=xi S;have rz:=we S;have bi:i<(fA R []).length:=by rw[ww];lia
  have ql:=Bb List.length eq;rw[Ab] at ql;have xl:=fj (xu I) ((fA R []).take i);rw[AX,<-ql] at xl;have xl:U.length<=2000:=by lia
  have al:(qk S).length<=2:=dr S;refine⟨S,rfl,λp5 n5=>?_⟩;have s5:=By (o:=.lst ((qk S).map qj)) n5;refine qc q8 ⟨⟨AZ _,by rw[Ab];lia⟩,?_⟩;rw[Ab,AY];refine cN (λk τ j=>∃c4,∃U:List WP,τ=[some (.tup [.ref a,qj R]),some (.ref l),some (.ref wa),some (qj S),c4]/\qg L j/\j l=some (.lst (U.map m6))/\j p=some (.lst (ts.map aJ))/\HW j [l] ts/\HW j [l] U/\o3 L U/\U.map (·.2)=((fA R []).take i).flatMap (jG (xu I))++exK (xu I) S w k) ⟨_,U,rfl,r.trans s5,s5 _ _ J,s5 _ _ g',Ht.mono s5,Hq.mono s5,F,by rw[eq];exact(AI _).symm⟩ ?_ ?_
  ·clear J g' Ht Hq F eq ql xl r s5;rintro k τ j hk ⟨c4,U,rfl,r,J,g',Ht,Hq,F,eq⟩;have ql:=Bb List.length eq;rw[Ab,Ac] at ql;have xl:=fj (xu I) ((fA R []).take i);have xk:=wH (xu I) S w k;rw[AX] at xl;have hw:=(Ht.at_ (wa,w,S) (Aw et)).1;refine⟨a,wd,I,S,ES,k,_,rfl,BI _,r _ _ ha,sS,λx hx=>ag x (tS x hx),hk,by lia,by lia,?_⟩;have es:=sL (xu I) S w k;unfold xu at es;cases hT:aC I S k with
   |none=>
    rw[hT,AE (by simp)] at es;refine⟨_,DU _,_,U,rfl,r,J,g',Ht,Hq,F,?_⟩;rw[eq];unfold xu;rw[es,AI]
   |some T=>
    rw[hT,AD (by simp)] at es;obtain⟨zs,ez⟩:=vM T;rw[show rsY (some T)=.tup zs from ez];refine qc J (qc hw λp6 n6=>?_);have s6:=By (o:=.lst (w.map Y.int)) n6;have a4:=v5 J n6;have au:=v5 g' n6;refine qx (s6 _ _ J) ⟨by rw[Ab];exact big _ (by lia),?_⟩;refine⟨_,DU _,_,U++[(p6,w,(k:Int))],rfl,(r.trans s6).upd a1,by rw[q8,Aj,BI];rfl,(q9 (AB a3)).trans (s6 _ _ g'),(Ht.mono s6).upd (by simp),((Hq.mono s6).app (.one q8 (by simp[AB a4]))).upd (by simp),λt m=>?_,?_⟩
    ·rcases Ar.mp m with m|m
     ·exact F t m
     ·rw[Ai.mp m];exact r.none n6
    ·rw[Aj,eq];unfold xu;rw[es,AH];rfl
  ·rintro τ j ⟨c4,U,rfl,r,J,g',Ht,Hq,F,eq⟩;refine⟨_,DU _,_,_,_,U,rfl,r,J,g',Ht,Hq,F,?_⟩;rw[eq,A9,eb,Ay];congr 1;show _=jG _ _++[];rw[AI];rfl
 ·rintro τ C ⟨c2,c3,c4,U,rfl,r,J,g',Ht,Hq,F,eq⟩;rw[Ab,A5 (by rw[ww];lia)] at eq;exact js (q l U C r a1 J Hq F eq)
def jK(J:jr)(p1:jr):ke:=(qr (aa1 2 3 (qd (jh qz) (qd (jh (qd (zF (jh qz) (qb 1)) qz)) qz)))
 (qr (dJ (rdN (qb 3) (jh qz)) (qr (zr (wu qA (qb 3) qz) (wo 2 (zm (qh 4) (zm (qh 5) kw))))
 (qr (zr (zc J (x9 (qb 5))) (qh 6))
 (qr (bB (cf (x9 (cY 6))) (qh 7) (jz (yB (fY true (zc p1 (qd (qb 0) (a9 (qb 5) (qb 7)))))) (j9 (wu zq (qb 2) (qd (zF (qb 4) (qb 7)) qz))) jk))
 (bB (t7 (x9 (cY 6))) (qh 7) (j9 (wu zq (qb 3) (qd (vt (qd (zn kc (qb 4) (jh (x9 (qb 7)))) (qd (zn ay (qb 6) (qb 7)) qz))) qz))))))))
 (je (qb 2))))
def rN(J:jr):ke:=(qr (aa1 1 2 (qd (jh qz) (qd (jh (qd (zF (jh qz) (qb 0)) qz)) qz)))
 (qr (dJ (rdN (qb 2) (jh qz)) (qr (zr (wu qA (qb 2) qz) (wo 2 (zm (qh 3) (zm (qh 4) kw))))
 (qr (j9 (wu zq (qb 1) (x9 (qb 3))))
 (qr (zr (zc J (x9 (qb 4))) (qh 5))
 (bB (cf (x9 (cY 5))) (qh 6) (j9 (wu zq (qb 2) (qd (vt (qd (zn kc (qb 3) (jh (x9 (qb 6)))) (qd (zn ay (qb 5) (qb 6)) qz))) qz))))))))
 (je (qb 1))))
theorem aau(h:(fD n)[i]?=some y):i<n/\y=.int (((n-1-i:Nat):Int)):=by unfold fD at h;rw[An] at h;obtain⟨k,J,rfl⟩:=Am.mp h;obtain⟨h1,h2⟩:=AK.mp J;rw[List.getElem_range] at h2;rw[Bw] at h1;exact⟨h1,by congr 1;lia⟩
theorem zA(n:Nat):(fD n).length=n:=by simp[fD]
theorem pA{ts us:List (Addr×List Int×β)}(h:o3 L ts)(g:o3 L us):o3 L (ts++us):=λt m=>(Ar.mp m).elim (h t) (g t)
theorem qC{w:List Int}{S:β}(h:L a=none):o3 L [(a,w,S)]:=λt m=>by rw[Ai.mp m];exact h
def mK:jr:=λys L Q=>∃a,∃wd:List (Option Kn),∃ks:List Kn,∃R:Ru,∃E:List Nat,ys=[.ref a,qj R]/\L a=some (.lst (cH wd))/\SR ks R E/\uB ks wd R/\(qo R).Nodup/\(qo R).length<=120/\ja R<=120/\vf R<=1000/\
 ∀p (J:List WP) L',qg L L'->L p=none->L' p=some (.lst (J.map m6))->HW L' [p] J->o3 L J->J.map (·.2)=rK ks R->Q (.ref p) L'
theorem ab8:∀ys L Q,mK ys L Q->xp (jK aA mP) 8 ys L Q:=by
 rintro ys L Q ⟨a,wd,ks,R,E,rfl,ha,sr,ag,nd,tl,hd,hz,q⟩;have big:=bg_;intro r a5 w0 al U a1;have au:r≠w0:=v5 q8 al;have av:w0≠U:=v5 q8 a1;have a2:r≠U:=v5 ((q9 au).trans q8) a1;have a3:L U=none:=zw (zw a1);have S0:qg L (qf (qf (qf L r (.lst [])) w0 (.lst [])) U (.lst [.tup [.ref w0,qj R]])):=((By a5).trans (By al)).trans (By a1);refine⟨λm τ J=>∃fs st,∃l:List WP,∃c4 c5 c6 c7,τ=[some (.ref a),some (qj R),some (.ref r),some (.ref U),c4,c5,c6,c7]/\qg L J/\J r=some (.lst (l.map m6))/\J U=some (.lst (st.map aJ))/\HW J [r,U] st/\HW J [r,U] l/\o3 L st/\o3 L l/\ByI R fs st/\l.map (·.2)=(fs.map (·.2)).flatMap (jG (xu ks))/\m=(st.map λt=>vf t.2.2).sum,⟨_,[],[(w0,[],R)],[],_,_,_,_,rfl,S0,(q9 a2).trans ((q9 au).trans q8),q8,.one ((q9 av).trans q8) (by simp[AB au,av]),⟨λt m=>by cases m⟩,qC (zw al),λt m=>(by cases m),⟨by simp,λt ht=>by rw[Ai.mp ht];exact hd⟩,rfl,rfl⟩,?_⟩;rintro m τ J ⟨fs,st,l,c4,c5,c6,c7,rfl,s,h1,h2,H,g,F,Fq,I,eq,rfl⟩;intro p hp;have C:=By (o:=.lst []) hp;refine wz (n:=121) (m:=0) (by decide) (C _ _ h2) q8 (jO (H.mono C) I.dep) (.nil:Paired (jc _ 0) _ []) ?_;replace h1:=C _ _ h1;replace h2:=C _ _ h2;replace H:=H.mono C;replace g:=g.mono C;replace s:=s.trans C;clear C;generalize qf J p (.lst [])=L2 at s h1 h2 H g ⊢;show kj (!(Da.eqs (st.map sO) [])) _ _;rw[kC];have il:=I.len;rcases BE st with rfl|⟨ve,t,rfl⟩
 ·refine xr rfl ?_;have e:=I.all;rw[List.reverse_nil,C0,AI] at e;rw[e] at eq;exact js (q r l L2 s a5 h1 ⟨λt m=>⟨(g.at_ t m).1,λz=>(g.at_ t m).2 (Ap.mpr (.inl (Ai.mp z)))⟩⟩ Fq eq)
 ·rw[BF] at *;rw[Au (by simp)];refine kn rfl ⟨λaL J=>∃m',m'<((ve++[t]).map λt=>vf t.2.2).sum/\∃fs st,∃l:List WP,∃c4 c5 c6 c7,aL=[some (.ref a),some (qj R),some (.ref r),some (.ref U),c4,c5,c6,c7]/\qg L J/\J r=some (.lst (l.map m6))/\J U=some (.lst (st.map aJ))/\HW J [r,U] st/\HW J [r,U] l/\o3 L st/\o3 L l/\ByI R fs st/\l.map (·.2)=(fs.map (·.2)).flatMap (jG (xu ks))/\m'=(st.map λt=>vf t.2.2).sum,λaL J h=>h,?_⟩;rw[Aj] at h2;refine lI h2 ?_;replace h1:=(q9 (o:=.lst (ve.map aJ)) a2).trans h1;replace H:=H.upd (o:=.lst (ve.map aJ)) (a:=U) (by simp);replace g:=g.upd (o:=.lst (ve.map aJ)) (a:=U) (by simp);replace s:=s.upd (o:=.lst (ve.map aJ)) a3;replace h2:qf L2 U (.lst (ve.map aJ)) U=some (.lst (ve.map aJ)):=q8;generalize qf L2 U (.lst (ve.map aJ))=L3 at s h1 h2 H g ⊢;obtain⟨wa,w,S⟩:=t;have hw:=H.at_ (wa,w,S) (by simp);have fw:=F (wa,w,S) (by simp);obtain⟨wl,mS⟩:=gY I.way;replace wl:w.length+1<=ja R:=wl;obtain⟨⟨ES,sS⟩,tS,a4,dS,_⟩:=sr.rls S mS;have bf:=a4.length_le;have bg:(qk S).length<=2:=dr S;refine⟨S,rfl,λpa n1=>?_⟩;have C:=By (o:=.lst ((qk S).map qj)) n1;have ba:=v5 h1 n1;have bb:=v5 h2 n1;replace h1:=C _ _ h1;replace h2:=C _ _ h2;replace H:=H.mono C;replace g:=g.mono C;replace s:=s.trans C;replace hw:=And.intro (C _ _ hw.1) hw.2;have g1:qf L3 pa (.lst ((qk S).map qj)) pa=some (.lst ((qk S).map qj)):=q8;clear C n1;generalize qf L3 pa (.lst ((qk S).map qj))=L4 at s h1 h2 H g hw g1 ⊢;refine qc g1 ⟨⟨AZ _,by rw[Ab];lia⟩,?_⟩;rw[Ab,AY];replace F:o3 L ve:=λt m=>F t (Aq _ m);replace H:HW L4 [r,U] ve:=H.sub λt m=>Aq _ m;have xl:=fj (xu ks) (fs.map (·.2));rw[Ab] at xl;have l0:ve.length<=1000:=by have:=il.2;rw[Ac] at this;lia
  refine cN (λk τ J=>∃l:List WP,∃c7,τ=[some (.ref a),some (qj R),some (.ref r),some (.ref U),some (.ref wa),some (qj S),some (.ref pa),c7]/\qg L J/\J r=some (.lst (l.map m6))/\J U=some (.lst (ve.map aJ))/\J pa=some (.lst ((qk S).map qj))/\J wa=some (.lst (w.map Y.int))/\HW J [r,U] ve/\HW J [r,U] l/\o3 L l/\l.map (·.2)=(fs.map (·.2)).flatMap (jG (xu ks))++exK (xu ks) S w k) ⟨l,_,rfl,s,h1,h2,g1,hw.1,H,g,Fq,by rw[eq];exact(AI _).symm⟩ ?_ ?_
  ·clear h1 h2 g1 H g Fq eq s;rintro k τ J hk ⟨l,c7,rfl,s,h1,h2,g1,gw,H,g,Fq,eq⟩;have ql:=Bb List.length eq;rw[Ab,Ac] at ql;have xk:=wH (xu ks) S w k;refine⟨a,wd,ks,S,ES,_,rfl,s _ _ ha,sS,λx hx=>ag x (tS x hx),a4.nodup nd,by lia,?_⟩;have es:=sL (xu ks) S w k;unfold xu at es;rw[<-ag4 sS hk] at es;rw[BI];cases hT:goR ks S (k:Int) with
   |none=>
    rw[hT,AE (by simp)] at es;refine⟨_,DU _,l,_,rfl,s,h1,h2,g1,gw,H,g,Fq,?_⟩;rw[eq];unfold xu;rw[es,AI]
   |some T=>
    rw[hT,AD (by simp)] at es;refine qc h1 (qx h1 ⟨by rw[Ab];exact big _ (by lia),?_⟩);refine⟨_,DU _,l++[(wa,w,(k:Int))],_,rfl,s.upd a5,by rw[q8,Aj];rfl,(q9 (AB a2)).trans h2,(q9 (AB ba)).trans g1,(q9 (λe=>hw.2 (by rw[show(wa,w,S).1=r from e];simp))).trans gw,H.upd (by simp),(g.app (.one gw hw.2)).upd (by simp),pA Fq (qC fw),?_⟩;rw[Aj,eq];unfold xu;rw[es,AH];rfl
  ·clear h1 h2 g1 H g Fq eq s;rintro τ J ⟨l,c7,rfl,s,h1,h2,g1,gw,H,g,Fq,eq⟩;refine qc g1 ⟨_,rfl,by rw[Ab];lia,?_⟩;rw[Ab];have kl:=fi S w;refine vh ⟨λi τ J=>∃us:List WT,∃c7,τ=[some (.ref a),some (qj R),some (.ref r),some (.ref U),some (.ref wa),some (qj S),some (.ref pa),c7]/\qg L J/\J r=some (.lst (l.map m6))/\J U=some (.lst ((ve++us).map aJ))/\J pa=some (.lst ((qk S).map qj))/\J wa=some (.lst (w.map Y.int))/\HW J [r,U] (ve++us)/\HW J [r,U] l/\o3 L us/\us.map (·.2)=(ao S w).reverse.take i,⟨[],_,rfl,s,h1,by rw[AI];exact h2,g1,gw,by rw[AI];exact H,g,λt m=>(by cases m),rfl⟩,λ_ _ _ _=>trivial,?_,?_⟩
   ·clear h1 h2 g1 gw H g s;rintro i y τ J hy ⟨us,c7,rfl,s,h1,h2,g1,gw,H,g,Fu,eu⟩;obtain⟨hi,rfl⟩:=aau hy;have hj:(qk S).length-1-i<(qk S).length:=by lia
    generalize ej:(qk S).length-1-i=j at hj ⊢;have eB:(qk S)[j]?=some (qk S)[j]:=Ae hj;generalize (qk S)[j]=B at eB;have ul:=Bb List.length eu;rw[Ab,AX] at ul;refine qc h2 λp2 n2=>?_;have s2:=By (o:=.lst [.int (j:Int)]) n2;refine⟨_,_,s2 _ _ gw,q8,by rw[Ab];show w.length+1<=sizeLine;exact Bd (big _ (by lia)),λp3 n3=>?_⟩;have s3:=s2.trans (By (o:=.lst (w.map Y.int++[.int (j:Int)])) n3);have g3:qf (qf J p2 (.lst [.int (j:Int)])) p3 (.lst (w.map Y.int++[.int (j:Int)])) p3=some (.lst ((w++[(j:Int)]).map Y.int)):=by rw[q8,Aj];rfl
    have bc:=v5 (s2 _ _ h1) n3;have bd:=v5 (s2 _ _ h2) n3;have f3:L p3=none:=(s.trans s2).none n3;replace s:=s.trans s3;replace h1:=s3 _ _ h1;replace h2:=s3 _ _ h2;replace g1:=s3 _ _ g1;replace gw:=s3 _ _ gw;replace H:=H.mono s3;replace g:=g.mono s3;clear s2 s3 n2 n3;generalize qf (qf J p2 (.lst [.int (j:Int)])) p3 (.lst (w.map Y.int++[.int (j:Int)]))=L5 at s h1 h2 g1 gw H g g3 ⊢;refine qc g1 (qw (xb eB) (qx h2 ⟨by rw[Ab,Ac];exact big _ (by lia),?_⟩));refine⟨_,DU _,us++[(p3,w++[(j:Int)],B)],_,rfl,s.upd a3,(q9 a2).trans h1,by rw[q8,<-AH,Aj (l₁:=ve++us)];rfl,(q9 (AB bb)).trans g1,(q9 (λe=>hw.2 (by rw[show(wa,w,S).1=U from e];simp))).trans gw,?_,g.upd (by simp),pA Fu (qC f3),?_⟩
    ·rw[<-AH];exact(H.app (.one g3 (by simp[AB bc,AB bd]))).upd (by simp)
    ·rw[Aj,eu,A9,Cn (by rw[kl];exact hi),kl,ej,cI,eB];rfl
   ·rintro τ J ⟨us,c7,rfl,s,h1,h2,g1,gw,H,g,Fu,eu⟩;rw[zA,A5 (by rw[Bk,kl];exact Al _)] at eu;obtain⟨I',ms⟩:=I.step (us:=us.reverse) (by rw[CV,eu,C5]);rw[C5] at I' ms;refine⟨_,DU _,_,ms,fs++[(wa,w,S)],ve++us,l,_,_,_,_,rfl,s,h1,h2,H,g,pA F Fu,Fq,I',?_,rfl⟩;rw[eq,Aj,Ay];congr 1;show _=jG _ _++[];rw[AI];rfl
def qL(t:WT):Y:=.ref t.1
structure WaI(R:Ru)(fs st:List WT):Prop where
 num:fs.length+(st.map λt=>vf t.2.2).sum=vf R
 way:∀t∈fs++st,t.2.1.length+ja t.2.2<=ja R
theorem WaI.len{fs st:List WT}(h:WaI R fs st):fs.length<=vf R/\st.length<=vf R:=by
 have e:=h.num;have:∀l:List WT,l.length<=(l.map λt=>vf t.2.2).sum:=λl=>by
  induction l with
  |nil=>exact Al _
  |cons t r J=>
   rw[AO,List.sum_cons,AL];have:=gA t.2.2;lia
 have:=this st;lia
theorem WaI.step{fs us:List WT}{t:WT}(h:WaI R fs (ve++[t]))(e:us.map (·.2)=ao t.2.2 t.2.1):WaI R (fs++[t]) (ve++us)/\((ve++us).map λt=>vf t.2.2).sum<((ve++[t]).map λt=>vf t.2.2).sum:=by
 have j:(us.map λt=>vf t.2.2).sum+1=vf t.2.2:=by rw[<-sd t.2.2 t.2.1,<-e,BA];rfl
 refine⟨⟨?_,λu J=>?_⟩,?_⟩
 ·have n:=h.num;rw[Aj,BN,Dl,Dm] at n;rw[Ac,Bu,Aj,BN];lia
 ·have w:=h.way;rcases Ar.mp J with J|J
  ·exact w u (by simp at J ⊢;rcases J with h|h<;>simp[h])
  ·rcases Ar.mp J with J|J
   ·exact w u (by simp[J])
   ·have m:u.2∈ao t.2.2 t.2.1:=by rw[<-e];exact AS.mpr ⟨u,J,rfl⟩
    obtain⟨i,ei⟩:=Bj m;rw[cI] at ei;obtain⟨A,U,g⟩:=Am.mp ei;have h1:=vj (Aw U);have h2:=w t (by simp);rw[<-g];show(t.2.1++[(i:Int)]).length+ja A<=ja R;rw[Ac,Bu];lia
 ·rw[Aj,Aj,BN,BN,Dl,Dm];lia
def jY:jr:=λys L Q=>∃R:Ru,ys=[qj R]/\ja R<=120/\vf R<=1000/\∀p J L',qg L L'->L p=none->L' p=some (.lst (J.map qL))->HW L' [p] J->(∀t∈J,t.2.1.length<=120)->Q (.ref p) L'
theorem acr:∀ys L Q,jY ys L Q->xp (rN aA) 7 ys L Q:=by
 rintro ys L Q ⟨R,rfl,hd,hz,q⟩;have big:=bg_;intro U a2 w0 a4 g C;have a3:U≠w0:=v5 q8 a4;have a5:w0≠g:=v5 q8 C;have T:U≠g:=v5 ((q9 a3).trans q8) C;have a1:L g=none:=zw (zw C);have S0:qg L (qf (qf (qf L U (.lst [])) w0 (.lst [])) g (.lst [.tup [.ref w0,qj R]])):=((By a2).trans (By a4)).trans (By C);refine⟨λm τ J=>∃fs st c3 c4 c5 c6,τ=[some (qj R),some (.ref U),some (.ref g),c3,c4,c5,c6]/\qg L J/\J U=some (.lst (fs.map qL))/\J g=some (.lst (st.map aJ))/\HW J [U,g] (fs++st)/\WaI R fs st/\m=(st.map λt=>vf t.2.2).sum,⟨_,[],[(w0,[],R)],_,_,_,_,rfl,S0,(q9 T).trans ((q9 a3).trans q8),q8,.one ((q9 a5).trans q8) (by simp[AB a3,a5]),⟨by simp,λt ht=>by rw[Ai.mp ht];show 0+ja R<=ja R;lia⟩,rfl⟩,?_⟩;rintro m τ J ⟨fs,st,c3,c4,c5,c6,rfl,s,h1,h2,H,I,rfl⟩;intro p hp;have r:=By (o:=.lst []) hp;refine wz (n:=121) (m:=0) (by decide) (r _ _ h2) q8 (jO ((H.sub λt m=>Ah _ m).mono r) λt m=>by have:=I.way t (Ah _ m);lia) (.nil:Paired (jc _ 0) _ []) ?_;replace h1:=r _ _ h1;replace h2:=r _ _ h2;replace H:=H.mono r;replace s:=s.trans r;clear r;generalize qf J p (.lst [])=L2 at s h1 h2 H ⊢;show kj (!(Da.eqs (st.map sO) [])) _ _;rw[kC];have il:=I.len;rcases BE st with rfl|⟨ve,t,rfl⟩
 ·refine xr rfl ?_;exact js (q U fs L2 s a2 h1 ⟨λt m=>⟨(H.at_ t (Aq _ m)).1,λz=>(H.at_ t (Aq _ m)).2 (Ap.mpr (.inl (Ai.mp z)))⟩⟩ λt m=>by have:=I.way t (Aq _ m);lia)
 ·rw[BF] at *;rw[Au (by simp)];refine kn rfl ⟨λag J=>∃m',m'<((ve++[t]).map λt=>vf t.2.2).sum/\∃fs st c3 c4 c5 c6,ag=[some (qj R),some (.ref U),some (.ref g),c3,c4,c5,c6]/\qg L J/\J U=some (.lst (fs.map qL))/\J g=some (.lst (st.map aJ))/\HW J [U,g] (fs++st)/\WaI R fs st/\m'=(st.map λt=>vf t.2.2).sum,λag J h=>h,?_⟩;rw[Aj] at h2;refine lI h2 ?_;replace h1:=(q9 (o:=.lst (ve.map aJ)) T).trans h1;replace H:=H.upd (o:=.lst (ve.map aJ)) (a:=g) (by simp);replace s:=s.upd (o:=.lst (ve.map aJ)) a1;replace h2:qf L2 g (.lst (ve.map aJ)) g=some (.lst (ve.map aJ)):=q8;generalize qf L2 g (.lst (ve.map aJ))=L3 at s h1 h2 H ⊢;obtain⟨l,w,S⟩:=t;have wl:w.length+ja S<=ja R:=I.way (l,w,S) (by simp);have aL:(qk S).length<=2:=dr S;refine qc h1 (qx h1 ⟨by rw[Ab];exact big _ (by lia),?_⟩);replace H:=H.upd (o:=.lst (fs.map qL++[qL (l,w,S)])) (a:=U) (by simp);replace h2:=(q9 (o:=.lst (fs.map qL++[qL (l,w,S)])) (AB T)).trans h2;replace s:=s.upd (o:=.lst (fs.map qL++[qL (l,w,S)])) a2;replace h1:qf L3 U (.lst (fs.map qL++[qL (l,w,S)])) U=some (.lst ((fs++[(l,w,S)]).map qL)):=by rw[q8,Aj];rfl
  have hw:=H.at_ (l,w,S) (by simp);have e4:qf L3 U (.lst (fs.map qL++[.ref l]))=qf L3 U (.lst (fs.map qL++[qL (l,w,S)])):=rfl;generalize qf L3 U (.lst (fs.map qL++[qL (l,w,S)]))=L4 at s h1 h2 H hw e4;refine⟨S,rfl,λpa n1=>?_⟩;rw[e4] at n1;rw[e4];clear e4;have r:=By (o:=.lst ((qk S).map qj)) n1;have ba:=v5 h1 n1;have al:=v5 h2 n1;replace h1:=r _ _ h1;replace h2:=r _ _ h2;replace H:=H.mono r;replace s:=s.trans r;replace hw:=And.intro (r _ _ hw.1) hw.2;have g1:qf L4 pa (.lst ((qk S).map qj)) pa=some (.lst ((qk S).map qj)):=q8;clear r n1;generalize qf L4 pa (.lst ((qk S).map qj))=L5 at s h1 h2 H hw g1 ⊢;refine qc g1 ⟨⟨AZ _,by rw[Ab];lia⟩,?_⟩;rw[Ab,AY];have l0:ve.length<=1000:=by have:=il.2;rw[Ac] at this;lia
  have kl:=fi S w;replace H:HW L5 [U,g] (fs++[(l,w,S)]++ve):=H.sub λt m=>by simp at m ⊢;rcases m with h|h|h<;>simp[h]
  refine cN (λi τ J=>∃us:List WT,∃c6,τ=[some (qj R),some (.ref U),some (.ref g),some (.ref l),some (qj S),some (.ref pa),c6]/\qg L J/\J U=some (.lst ((fs++[(l,w,S)]).map qL))/\J g=some (.lst ((ve++us).map aJ))/\J pa=some (.lst ((qk S).map qj))/\J l=some (.lst (w.map Y.int))/\HW J [U,g] (fs++[(l,w,S)]++(ve++us))/\us.map (·.2)=(ao S w).take i) ⟨[],_,rfl,s,h1,by rw[AI];exact h2,g1,hw.1,by rw[AI];exact H,rfl⟩ ?_ ?_
  ·clear h1 h2 g1 H s;rintro j τ J hj ⟨us,c6,rfl,s,h1,h2,g1,gw,H,eu⟩;have eB:(qk S)[j]?=some (qk S)[j]:=Ae hj;generalize (qk S)[j]=B at eB;have ul:=Bb List.length eu;rw[Ab,AX] at ul;rw[BI];refine qc h2 λp2 n2=>?_;have s2:=By (o:=.lst [.int (j:Int)]) n2;refine⟨_,_,s2 _ _ gw,q8,by rw[Ab];show w.length+1<=sizeLine;exact Bd (big _ (by lia)),λp3 n3=>?_⟩;have s3:=s2.trans (By (o:=.lst (w.map Y.int++[.int (j:Int)])) n3);have g3:qf (qf J p2 (.lst [.int (j:Int)])) p3 (.lst (w.map Y.int++[.int (j:Int)])) p3=some (.lst ((w++[(j:Int)]).map Y.int)):=by rw[q8,Aj];rfl
   have au:=v5 (s2 _ _ h1) n3;have av:=v5 (s2 _ _ h2) n3;replace s:=s.trans s3;replace h1:=s3 _ _ h1;replace h2:=s3 _ _ h2;replace g1:=s3 _ _ g1;replace gw:=s3 _ _ gw;replace H:=H.mono s3;clear s2 s3 n2 n3;generalize qf (qf J p2 (.lst [.int (j:Int)])) p3 (.lst (w.map Y.int++[.int (j:Int)]))=L6 at s h1 h2 g1 gw H g3 ⊢;refine qc g1 (qw (xb eB) (qx h2 ⟨by rw[Ab,Ac];exact big _ (by lia),?_⟩));refine⟨_,DU _,us++[(p3,w++[(j:Int)],B)],_,rfl,s.upd a1,(q9 T).trans h1,by rw[q8,<-AH,Aj (l₁:=ve++us)];rfl,(q9 (AB al)).trans g1,(q9 (λe=>hw.2 (by rw[show(l,w,S).1=g from e];simp))).trans gw,?_,?_⟩
   ·rw[<-AH ve,<-AH];exact(H.app (.one g3 (by simp[AB au,AB av]))).upd (by simp)
   ·rw[Aj,eu,A9,cI,eB];rfl
  ·rintro τ J ⟨us,c6,rfl,s,h1,h2,g1,gw,H,eu⟩;rw[A5 (by rw[kl];exact Al _)] at eu;obtain⟨I',ms⟩:=I.step (us:=us) eu;exact⟨_,DU _,_,ms,fs++[(l,w,S)],ve++us,_,_,_,_,rfl,s,h1,h2,H,I',rfl⟩
end L3
namespace L2
open PySem PySem.W
section
variable {K:Af}(T:K.lookup Pt=some (PySem.W.tabObj #[]))
include T
theorem aaz :clsIn (lessK Pt K) C=clsIn K C:=by
 unfold clsIn;by_cases d:C=Pt
 ·subst d;rw[vm,T]
 ·rw[x8 d]
theorem alb{b:Value}:mroIn (lessK Pt K) C b=mroIn K C b:=by unfold mroIn;rw[aaz T]
theorem tU{t b:Value}:subIn (lessK Pt K) t b=subIn K t b:=by
 unfold subIn;split
 ·rfl
 ·exact alb T
 ·rfl
theorem xW{t c:Value}{b:Bool}(e:kitCls K t c=some b):kitCls (lessK Pt K) t c=some b:=by
 unfold kitCls at e ⊢;split at e
 ·rename_i C;have n:C≠Pt:=by rintro rfl;unfold clsIn at e;rw[T] at e;cases e
  have h:typeIn (lessK Pt K) (.ref C)=typeIn K (.ref C):=by show(List.lookup C (lessK Pt K)).map _=(List.lookup C K).map _;rw[x8 n]
  rw[aaz T,tU T,h];exact e
 ·rw[tU T];exact e
 ·cases e
theorem aje{t c:Value}{b:Bool}(e:exmOne K t c=some b):exmOne (lessK Pt K) t c=some b:=by
 unfold exmOne at e ⊢;rw[tU T];split at e
 ·rename_i h;rw[AD h];exact xW T e
 ·cases e
theorem vR{N:Addr}:nsOkIn (lessK Pt K) N=nsOkIn K N:=by
 unfold nsOkIn;by_cases d:N=Pt
 ·subst d;rw[vm,T]
 ·rw[x8 d]
theorem wK{bm:List Value}:∀l:List Value,tailIn (lessK Pt K) bm l=tailIn K bm l
 |[]=>rfl
 |v::r=>by
  unfold tailIn;congr 1;split
  ·rename_i A;by_cases d:A=Pt
   ·subst d;rw[vm,T]
   ·rw[x8 d];split
    ·rw[vR T,ns_dn T rfl,wK r]
    ·rfl
  ·rfl
theorem exc_dn{bm:List Value}{i:String}(e:excIn K C bm i=true):excIn (lessK Pt K) C bm i=true:=by
 unfold excIn at e ⊢;by_cases d:C=Pt
 ·subst d;rw[T] at e;cases e
 ·rw[x8 d];split at e
  ·split at e
   ·rw[wK T,vR T,ns_dn T rfl];exact e
   ·cases e
  ·cases e
end
end L2
namespace L3
open PySem L2 Words
def lw:ke:=(qr (zr (jh qz) (qh 1))
 (qr (bB (cf (qd (zn w6 (qb 0) (jf 7)) qz)) (qh 2) (qr (zr (zn w6 (zn rT (qb 0) (jf 48271)) (jf 2147483647)) (qh 0))
 (j9 (wu zq (qb 1) (qd (ade (qd (jf 0) (qd (jf 1) (qd (jf 0) (qd (jf 1) (qd (jf 0) (qd (yUn tw (jf 1)) (x9 (jf 2)))))))) (zn w6 (qb 0) (jf 7))) qz)))))
 (je (qb 1))))
def yn(K:Af)(J:Addr)(U:eW):ke:=(qr (zr (yC (.bl false)) (qh 3))
 (qr (ai4 K J (λE3=>j9 (hY U E3 (qd (qb 0) (a9 (qb 1) (qb 2))))) (zr (yC (.bl true)) (qh 3)))
 (je (qb 3))))
def af2(J:jr)(p1:jr)(p2:jr)(p3:jr)(p4:jr)(p5:jr)(p6:jr)(p7:jr)(p8:jr):ke:=(qr (zr (zn w6 (zn ay (zn ahu (qb 0) (jh (x9 (jf 0)))) (jf 0)) (zn ase (jf 10) (jf 9))) (qh 1))
 (qr (zr (zc J (qd (uw xE (qb 0) (aZ (jf 1)) wg) (a9 (qb 1) (jf 40)))) (wo 2 (zm (qh 2) (zm (qh 3) kw))))
 (qr (zr (zc p1 (qd (qb 2) (a9 (qb 3) (qb 1)))) (wo 2 (zm (qh 2) (zm (qh 3) kw))))
 (qr (zr (vt (qd (iT wx (x9 (qb 2))) (x9 (qb 3)))) (qh 4))
 (qr (zr (zc p2 (a9 (qb 2) (qb 3))) (qh 5))
 (qr (zr (zc p3 (x9 (qb 4))) (qh 6))
 (qr (jz (abo (yB (zc p4 (a9 (qb 6) (qb 5))))) (je (yC (.bl false))) jk)
 (qr (j9 (wu zq (qb 6) (qd (vt (qd (jh (x9 (jf 0))) (x9 (jf 0)))) qz)))
 (qr (j9 (wu zq (zn ay (jy 6 0) (jf 0)) (x9 (jf 7))))
 (qr (jz (abo (yB (zc p4 (qd (zc p3 (x9 (qb 4))) (x9 (qb 5)))))) (je (yC (.bl false))) jk)
 (qr (bB (kz (zc p5 (x9 (qb 3)))) (qh 7) (bB (kz (jh (qd (yUn tw (jf 1)) (qd (jf 0) (a9 (jf 1) (jf 2)))))) (qh 8) (jz (fJ (zc p6 (qd (qb 4) (qd (iT wx (x9 (qb 7))) (x9 (qb 8))))) (zn ac1 (zF (qb 7) (qb 8)) (qb 5))) (je (yC (.bl false))) jk)))
 (qr (bB (dm (uw xE (qb 0) wg (aZ (jf 24)))) (wo 2 (zm (qh 9) (zm (qh 10) kw))) (qr (zr (zc p7 (qd (qb 10) (a9 (qb 9) (jf 16807)))) (qh 11))
 (qr (zr (zc p8 (x9 (qb 11))) (qh 7))
 (qr (zr (ade (qd (jf 0) (qd (jf 1) (qd (jf 0) (qd (jf 1) (qd (yUn tw (jf 1)) (x9 (jf 2))))))) (zn w6 (zn am (qb 11) (jf 7)) (jf 6))) (qh 8))
 (jz (fJ (zc p6 (qd (qb 4) (qd (iT wx (x9 (qb 7))) (x9 (qb 8))))) (zn ac1 (zF (qb 7) (qb 8)) (qb 5))) (je (yC (.bl false))) jk)))))
 (je (zn (wB false) (jy 4 0) (qb 2)))))))))))))))
def pX:jr:=λys L Q=>∃n:Int,ys=[.int n]/\∀p (w:List Int),L p=none->w.length<=7->Q (.ref p) (qf L p (.lst (w.map Y.int)))
theorem afo:∀ys L Q,pX ys L Q->xp lw 3 ys L Q:=by
 rintro ys L Q ⟨n,rfl,q⟩;have big:=bg_;intro j J;refine⟨(show(0:Int)<7 by decide),by have h1:=CC n (show(7:Int)≠0 by decide);have h2:=CG n (show(0:Int)<7 by decide);constructor<;>omega,?_⟩;obtain⟨m,em,p⟩:∃m:Nat,n % 7=(m:Int)/\m<=7:=by have h1:=CC n (show(7:Int)≠0 by decide);have h2:=CG n (show(0:Int)<7 by decide);exact⟨(n % 7).toNat,by lia,by lia⟩
 rw[em,AY];refine cN (λi l U=>∃o:Int,∃c2,∃w:List Int,l=[some (.int o),some (.ref j),c2]/\qg L U/\U j=some (.lst (w.map Y.int))/\w.length=i) ⟨n,_,[],rfl,By J,q8,rfl⟩ ?_ ?_
 ·rintro i l U r ⟨o,c2,w,rfl,s,g,rfl⟩;refine⟨.inr ⟨by decide,by decide⟩,(show(0:Int)<2147483647 by decide),?_⟩;refine qc g ⟨(show(0:Int)<7 by decide),oO rfl rfl (by decide) λx=>?_⟩;refine qx g ⟨by rw[Ab];exact big _ (by lia),?_⟩;exact⟨_,DU _,_,_,w++[x],rfl,s.upd J,by rw[q8,Aj];rfl,by rw[Ac,Bu]⟩
 ·rintro l U ⟨o,c2,w,rfl,s,g,hw⟩;exact aY (ER s g) (q j w J (by lia))
structure XF62(K:Af)(N:Addr):Prop where
 em:PySem.W.exmOne K (.ref N) (.ref N)=some true
theorem XF62.dn{K:Af}{N:Addr}(T:K.lookup Pt=some (PySem.W.tabObj #[]))(x:XF62 K N):XF62 (lessK Pt K) N:=⟨aje T x.em⟩
def cM:jr:=λys L Q=>∃a h,∃wd:List (Option Kn),∃ks:List Kn,∃R:Ru,∃F:List Nat,∃w:List Int,∃i:Int,ys=[.tup [.ref a,qj R],.ref h,.int i]/\L a=some (.lst (cH wd))/\L h=some (.lst (w.map Y.int))/\SR ks R F/\uB ks wd R/\w.length<=1000/\(qo R).length<=120/\Q (.bl (yH ks R w i).isNone) L
theorem tf{K:Af}{N:Addr}(xf:XF62 K N):∀ys L Q,cM ys L Q->xp (yn K N (pK N)) 4 ys L Q:=by
 rintro ys L Q ⟨a,h,J,U,R,F,w,i,rfl,g,j,l,o,r,t,q⟩;refine⟨a,h,J,U,R,F,w,i,rfl,g,j,l,o,r,t,λI e p C=>?_,λe=>⟨xf.em,?_⟩⟩
 ·rw[e] at q;exact aY (By C) q
 ·rw[e] at q;exact js q
end L3
namespace L2
open PySem PySem.W
section
variable {K:Af}(T:K.lookup Pt=some (PySem.W.tabObj #[]))
include T
end
end L2
namespace L3
open PySem L2
open PySem L2 Words
theorem rq{L:qm}{n:Nat}:∀w:List Int,Paired (m4 L (n+1)) (w.map Y.int) (w.map Y.int)
 |[]=>.nil
 |_::r=>.cons (.flat rfl) (rq r)
theorem iQ{L:qm}{X Z:List Addr}{n:Nat}:∀{U J:List WP},HW L X U->HW L Z J->(∀t∈J,t.2.1.length<=1000)->U.map (·.2)=J.map (·.2)->Paired (m4 L (n+3)) (U.map m6) (J.map m6)
 |[],[],_,_,_,_=>.nil
 |[],_::_,_,_,_,e=>by cases e
 |_::_,[],_,_,_,e=>by cases e
 |(a,w,i)::U,(b,v,j)::J,h,g,l,e=>by have o:(w,i)=(v,j)/\U.map (·.2)=J.map (·.2):=Cm e;obtain⟨p,r⟩:=o;cases p;exact .cons (.tup (.cons (.inr (.inr ⟨a,b,_,_,rfl,rfl,(h.at_ _ (Ak ..)).1,(g.at_ _ (Ak ..)).1,by rw[Ab];exact l _ (Ak ..),rq w⟩)) (.cons (.flat rfl) .nil))) (iQ (h.sub λt m=>Ad _ m) (g.sub λt m=>Ad _ m) (λt m=>l t (Ad _ m)) r)
theorem oC{L:qm}{X:List Addr}:∀{J:List WP},HW L X J->Paired (agb L) (J.map λq=>(q.1,q.2.2)) (J.map (·.2))
 |[],_=>.nil
 |q::r,h=>.cons ⟨(h.at_ q (Ak ..)).1,rfl⟩ (oC (h.sub λt m=>Ad _ m))
theorem ag5{w:List Int}{i:Int}:decide ((yH ks R w i).isNone=decide ((w,i)∈rK ks R))=false:=by rw[decide_eq_false_iff_not];have m:=uz (ks:=ks) (R:=R) (w:=w) (i:=i);cases e:yH ks R w i with|none=>rw[Au (λz=>m.mp z e)];simp|some T=>rw[AG (m.mpr (by rw[e];simp))];simp
structure adh(L:qm)(a b d:Addr)(wd:List (Option Kn))(rs:List WP):Prop where
 ha:L a=some (.lst (cH wd))
 hb:L b=some (.lst (cH wd))
 hd:L d=some (.lst (rs.map m6))
 H:HW L [d] rs
theorem adh.mono{d:Addr}{J:List WP}(h:adh L a b d wd J)(s:qg L L'):adh L' a b d wd J:=⟨s _ _ h.ha,s _ _ h.hb,s _ _ h.hd,h.H.mono s⟩
theorem ahm{d U:Addr}{J:List WP}{E:List Nat}{w:List Int}{i:Int}{A B:qm->Prop}(S:adh L a b d wd J)(l:SR ks R E)(r:uB ks wd R)(tl:(qo R).length<=120)(t:J.map (·.2)=rK ks R)(hw:L U=some (.lst (w.map Y.int)))(C:w.length<=1000)(q:∀L',qg L L'->B L'):
 dU L (.ref U) λys=>∀p,L p=none->cM [.tup [.ref b,qj R],.ref p,.int i] (qf L p (.lst ys)) λx L2=>ac1 (.tup [.ref U,.int i]) (.ref d) L2 λy L3=>wB false x y L3 λz j=>match z with|.bl c=>kj c (A j) (B j)|_=>False:=by
 refine qc hw λp I=>?_;have s:=By (o:=.lst (w.map Y.int)) I;have g:=S.mono s;refine⟨b,p,wd,ks,R,E,w,i,rfl,g.hb,q8,l,r,C,tl,?_⟩;refine qx g.hd ⟨J.map (λq=>(q.1,q.2.2)),J.map (·.2),w,by rw[BA];rfl,oC g.H,s _ _ hw,?_⟩;rw[t];show kj (decide ((yH ks R w i).isNone=decide ((w,i)∈rK ks R))) _ _;rw[ag5];exact xr rfl (q _ s)
theorem aas :∀ys L Q,pV Pt lamQ ys L Q->xp (af2 (mJ Pt) kI mK pU (be 124) jY cM lK pX) 12 ys L Q:=by
 rintro ys L Q ⟨l,rfl,bb,hL,q⟩;have hP:L Pt=some (.tb lamQ):=by rw[hL];exact q8
 clear hL;have big:=bg_;intro p0 a4;refine qc q8 ⟨rfl,rfl,small (by rw[Ab];show l.length+1<=1000;lia),λp hp=>?_⟩;obtain⟨c,ec⟩:∃c:Int,eM (l.map Y.int++[Y.int 0]) 0=some (Y.int c):=by cases l with|nil=>exact⟨0,rfl⟩|cons a r=>exact⟨a,xq (j:=0) rfl⟩
 refine qc q8 (qw ec ⟨⟨by decide,by decide,by decide⟩,(by decide:(0:Int)<10 ^ (9:Int).toNat),?_⟩);show qh 1 (Y.int (c % (10:Int) ^ (9:Int).toNat)) _ _ _;have a5:=((By (o:=.lst [Y.int 0]) a4).trans (By (o:=.lst (l.map Y.int++[Y.int 0])) hp)) _ _ hP;generalize c % (10:Int) ^ (9:Int).toNat=s;generalize qf (qf _ p0 _) p _=L1 at a5 ⊢;clear hp a4 ec hP;obtain⟨ms,av,bc⟩:=ad9 l (some 1) none;intro pm al;rw[av];refine⟨pm,ms,s,40,rfl,q8,by lia,by decide,By al _ _ a5,λwa ks R E hw T tp=>?_⟩;have gw:qf (qf L1 pm (.lst (ms.map Y.int))) wa (.lst (jb ks)) wa=some (.lst (jb ks)):=q8;generalize qf (qf L1 pm (.lst (ms.map Y.int))) wa (.lst (jb ks))=L3 at gw ⊢;clear hw al;refine⟨wa,ks,R,E,s,rfl,gw,T,tp,λa R E wd L4 _ ga sr ag nd tl wl=>?_⟩;clear gw T tp;have rd:=xi R;have rz:=we R;refine qc ga λb nb=>?_;have s5:=By (o:=.lst (cH wd)) nb;have gb:qf L4 b (.lst (cH wd)) b=some (.lst (cH wd)):=q8;replace ga:=s5 _ _ ga;clear s5;generalize qf L4 b (.lst (cH wd))=L5 at ga gb ⊢;refine⟨a,wd,ks,R,E,rfl,ga,sr,ag,nd,by lia,by lia,by lia,λd rs L6 s6 _ gd Hd _ er=>?_⟩;have S6:adh L6 a b d wd rs:=⟨s6 _ _ ga,s6 _ _ gb,gd,Hd⟩;clear s6 ga gb gd Hd;have rl:rs.length<=1000:=by have e:=Bb List.length er;have h:=fj (xu ks) (fA R []);rw[ww] at h;rw[Ab] at e;have e:rs.length=((fA R []).flatMap (jG (xu ks))).length:=e;lia
 have a1:∀t∈rs,t.2.1.length<=1000:=λt m=>by
  have m:(t.2.1,t.2.2)∈rK ks R:=by rw[<-er];exact AS.mpr ⟨t,m,rfl⟩
  have h:=uz.mp m;unfold yH at h;split at h
  ·exact absurd rfl h
  ·rename_i S eS;have:=(gY eS).1;lia
 simp only[dG,List.map,List.replicate,List.length,CZ,Ci];refine⟨b,wd,ks,R,E,rfl,S6.hb,sr,ag,by lia,by lia,by lia,λf qs L7 s7 nf I Hf Ff ef=>?_⟩;have S7:=S6.mono s7;refine⟨_,_,rfl,.inr (.inr ⟨f,d,_,_,rfl,rfl,I,S7.hd,by rw[Ab];exact rl,iQ (n:=120) Hf S7.H a1 (ef.trans er.symm)⟩),?_⟩;refine qc I λpz nz=>?_;have sz:=By (o:=.lst [Y.int 0]) nz;have gz:qf L7 pz (.lst [Y.int 0]) pz=some (.lst [Y.int 0]):=q8;have au:=v5 I nz;have fz:=s7.none nz;replace I:=sz _ _ I;replace Hf:=Hf.mono sz;replace s7:=s7.trans sz;clear sz nz S7;generalize qf L7 pz (.lst [Y.int 0])=L8 at s7 gz I Hf ⊢;have ql:qs.length<=1000:=by have:=Bb List.length (ef.trans er.symm);rw[Ab,Ab] at this;lia
 refine qx I ⟨by rw[Ab];exact big _ (by lia),?_⟩;obtain⟨g,a2,ee,h0⟩:∃(g:WP) (a2:List WP),qs++[(pz,[0],0)]=g::a2/\(L8 g.1=some (.lst (g.2.1.map Y.int))/\g.1≠f/\L6 g.1=none/\g.2.1.length<=1000):=by
  cases qs with
  |nil=>exact⟨_,[],rfl,gz,AB au,fz,by show 1<=1000;decide⟩
  |cons g r=>
   have h:=Hf.at_ g (Ak ..);refine⟨g,r++[(pz,[0],0)],rfl,h.1,λz=>h.2 (by rw[z];simp),Ff g (Ak ..),?_⟩;cases rs with
   |nil=>have:=ef.trans er.symm;cases this
   |cons t rs=>
    have e:=Cm (ef.trans er.symm);have:=a1 t (Ak ..);rw[show g.2.1=t.2.1 from Bb Prod.fst e.1];exact this
 have s9:qg L6 (qf L8 f (.lst (qs.map m6++[.tup [.ref pz,.int 0]]))):=s7.upd nf;have g9:qf L8 f (.lst (qs.map m6++[.tup [.ref pz,.int 0]])) f=some (.lst ((g::a2).map m6)):=by rw[q8,<-ee,Aj];rfl
 have h9:qf L8 f (.lst (qs.map m6++[.tup [.ref pz,.int 0]])) g.1=some (.lst (g.2.1.map Y.int)):=(q9 h0.2.1).trans h0.1;generalize qf L8 f (.lst (qs.map m6++[.tup [.ref pz,.int 0]]))=L9 at s9 g9 h9 ⊢;refine qc g9 (qw (xq (j:=0) rfl) ?_);refine qc h9 (qx h9 ⟨by rw[Ab];exact big _ (by lia),?_⟩);replace s9:=s9.upd (o:=.lst (g.2.1.map Y.int++[.int 7])) h0.2.2.1;have S9:=S6.mono s9;clear S6 s7 gz I Hf Ff nf au fz ef ql g9 h9 h0 ee;generalize qf L9 g.1 (.lst (g.2.1.map Y.int++[.int 7]))=LA at s9 S9 ⊢;refine⟨b,wd,ks,R,E,rfl,S9.hb,sr,ag,by lia,by lia,by lia,λf2 qs LB sB _ I Hf _ ef=>?_⟩;have SB:=S9.mono sB;refine⟨_,_,rfl,.inr (.inr ⟨f2,d,_,_,rfl,rfl,I,SB.hd,by rw[Ab];exact rl,iQ (n:=120) Hf SB.H a1 (ef.trans er.symm)⟩),?_⟩;clear S9 s9 sB I Hf ef;simp only[dG,List.map,List.replicate,List.length,CZ,Ci];refine⟨R,rfl,by lia,by lia,λpw ws LC sC _ gC HC wC=>?_⟩;have SC:=SB.mono sC;clear SB sC;refine x5 gC λkeep kp=>vh ⟨λi C J=>∃c7 c8,C=[some (.sq (l.map Y.int)),some (.int s),some (.ref a),some (qj R),some (.tup [.ref b,qj R]),some (.ref d),some (.ref f),c7,c8,none,none,none]/\qg LC J,⟨_,_,rfl,DU _⟩,?_,?_,?_⟩
 ·rintro i C J ⟨c7,c8,rfl,U⟩;exact kp J (by rw[U _ _ gC,gC])
 ·rintro i y C J hy ⟨c7,c8,rfl,U⟩;rw[An] at hy;obtain⟨⟨wa,w,S⟩,et,rfl⟩:=Am.mp hy;have mt:=Aw et;have hw:=(HC.at_ _ mt).1;have wl:=wC _ mt;intro pl nl;have sl:=U.trans (By (o:=.lst [Y.int (-1),.int 0,.int 1,.int 2]) nl);have gl:qf J pl (.lst [Y.int (-1),.int 0,.int 1,.int 2]) pl=some (.lst ([-1,0,1,2].map Y.int)):=q8;generalize qf J pl (.lst [Y.int (-1),.int 0,.int 1,.int 2])=LD at sl gl ⊢;refine x5 gl λkeep kp=>vh ⟨λi C J=>∃c8,C=[some (.sq (l.map Y.int)),some (.int s),some (.ref a),some (qj R),some (.tup [.ref b,qj R]),some (.ref d),some (.ref f),some (.ref wa),c8,none,none,none]/\qg LD J,⟨_,rfl,DU _⟩,?_,?_,?_⟩
  ·rintro i C J ⟨c8,rfl,U⟩;exact kp J (by rw[U _ _ gl,gl])
  ·rintro i y C J hy ⟨c8,rfl,U⟩;rw[An] at hy;obtain⟨x,_,rfl⟩:=Am.mp hy;exact ahm (SC.mono (sl.trans U)) sr ag (by lia) er ((sl.trans U) _ _ hw) (AQ wl (by decide)) λaL a3=>⟨_,DU _,_,rfl,U.trans a3⟩
  ·rintro C J ⟨c8,rfl,U⟩;exact⟨_,DU _,_,_,rfl,sl.trans U⟩
 ·rintro C J ⟨c7,c8,rfl,U⟩;replace SC:=SC.mono U;clear U gC HC wC;have ba:hX (l.map Y.int) none (some 24)=(l.take 24).map Y.int:=by rw[List.map_take];exact aga _ 24
  intro pe ne;rw[ba];have se:=By (o:=.lst ((l.take 24).map Y.int)) ne;have ge:qf J pe (.lst ((l.take 24).map Y.int)) pe=some (.lst ((l.take 24).map Y.int)):=q8;replace SC:=SC.mono se;clear se ne;generalize qf J pe (.lst ((l.take 24).map Y.int))=LE at SC ge ⊢;refine x5 ge λkeep kp=>vh ⟨λi C J=>∃c7 c8 c9 eO zY,C=[some (.sq (l.map Y.int)),some (.int s),some (.ref a),some (qj R),some (.tup [.ref b,qj R]),some (.ref d),some (.ref f),c7,c8,c9,eO,zY]/\qg LE J,⟨_,_,_,_,_,rfl,DU _⟩,?_,?_,?_⟩
  ·rintro i C J ⟨c7,c8,c9,eO,zY,rfl,U⟩;exact kp J (by rw[U _ _ ge,ge])
  ·rintro i y C J hy ⟨c7,c8,c9,eO,zY,rfl,U⟩;obtain⟨z,ez,rfl⟩:=bQ hy;have hi:=jv ez;rw[Ab,AX] at hi;rw[An] at ez;obtain⟨x,_,rfl⟩:=Am.mp ez;refine⟨x,i,16807,rfl,AZ _,by lia,by decide,by decide,λr _ _=>?_⟩;refine⟨r,rfl,λpw w nw wl=>?_⟩;have sw:=U.trans (By (o:=.lst (w.map Y.int)) nw);have gw:qf J pw (.lst (w.map Y.int)) pw=some (.lst (w.map Y.int)):=q8;generalize qf J pw (.lst (w.map Y.int))=LF at sw gw ⊢;refine⟨⟨by decide,by decide⟩,(show(0:Int)<6 by decide),oO rfl rfl (by decide) λk=>?_⟩;exact ahm (SC.mono sw) sr ag (by lia) er gw (AQ wl (by decide)) λaL a3=>⟨_,DU _,_,_,_,_,_,rfl,sw.trans a3⟩
  ·rintro C J ⟨c7,c8,c9,eO,zY,rfl,U⟩;replace SC:=SC.mono U;refine⟨rfl,rfl,2,2,_,_,by decide,wr SC.hb (ot _),wr SC.ha (ot _),?_⟩;show fV Q (.bl (Da.eqs _ _)) _;rw[ac8];exact js (q _)
end L3
end
set_option maxRecDepth 100000
set_option maxHeartbeats 8000000
namespace K62
open PySem L2 L3 Words
abbrev ng:Str:="_law_knots"
abbrev nh:Str:="_law_rule"
abbrev nj:Str:="_law_seed"
abbrev nq:Str:="_law_word_here"
abbrev nr:Str:="_law_one"
abbrev nu:Str:="_law_tree_here"
abbrev nv:Str:="_law_p"
abbrev ny:Str:="_law_two"
abbrev nE:Str:="_law_at_here"
abbrev nF:Str:="_law_arm"
abbrev nG:Str:="_law_forest"
abbrev nH:Str:="_law_number"
abbrev nI:Str:="_law_k"
abbrev nJ:Str:="_law_way"
abbrev nK:Str:="_law_script"
abbrev nL:Str:="_law_ends_here"
abbrev nM:Str:="_law_stack"
abbrev nN:Str:="_law_found"
abbrev nO:Str:="_law_arms_here"
abbrev nQ:Str:="_law_gathered"
abbrev nR:Str:="_law_possible"
abbrev nS:Str:="_law_cell"
abbrev nU:Str:="_law_renamed"
abbrev nV:Str:="_law_odd_way"
abbrev nW:Str:="_law_refused"
def top(i:Nat):Stmt:=PySem.Challenge.pw_oncewise_k62_exchanges_listed.main.body.getD i (.Pass ⟨0,0,0,0⟩)
theorem ar2{us:List Value}{n:Nat}(h:us.length=n+1):∃a r,us=a::r/\r.length=n:=by cases us with|nil=>cases h|cons a r=>exact⟨a,r,rfl,Nat.succ.inj h⟩
abbrev nX:Stmt:=top 5
abbrev l9:Stmt:=top 7
abbrev i5:Stmt:=top 10
abbrev mw:Stmt:=top 11
abbrev kA:Stmt:=top 12
abbrev oR:Stmt:=top 13
abbrev mF:Stmt:=top 14
abbrev kO:Stmt:=top 16
abbrev kD:Stmt:=top 17
abbrev bT:Stmt:=top 18
abbrev g0:Stmt:=top 19
abbrev ra:Stmt:=top 20
abbrev fC:Stmt:=top 21
abbrev ie:Stmt:=top 22
abbrev dP:Stmt:=top 23
abbrev db:Stmt:=top 24
abbrev lX:Stmt:=top 26
abbrev iq:Stmt:=top 27
abbrev iu:Stmt:=top 28
abbrev i4:Stmt:=top 29
abbrev fI:Stmt:=top 30
abbrev fB:Stmt:=top 31
abbrev im:Stmt:=top 32
abbrev ig:Stmt:=top 33
abbrev kM:Stmt:=top 34
abbrev s__law_order:Stmt:=top 35
abbrev gK:Stmt:=top 36
abbrev dN:Stmt:=top 37
abbrev iW:Stmt:=top 38
abbrev jB:Stmt:=top 39
abbrev cw:Stmt:=top 40
abbrev iV:Stmt:=top 41
abbrev gM:Stmt:=top 42
abbrev iw:Stmt:=top 43
abbrev cr:Stmt:=top 48
abbrev gB:Stmt:=top 49
abbrev iZ:Stmt:=top 50
abbrev dO:Stmt:=top 51
abbrev dQ:Stmt:=top 52
abbrev fE:Stmt:=top 53
abbrev iR:Stmt:=top 54
abbrev rY:Stmt:=top 55
structure V_ where
 (P:Program) (w:World) (K:Af) (mg:Str->Option Value) (base:Heap) (Pt:Addr) (Ca:Addr)
structure B_(V:V_):Prop where
 hp:∃h:Heap,V.K.In h/\h.Ns mainGlobals V.mg
 bb:V.mg "list"=none
 bf:V.mg "enumerate"=none
 br:V.mg "all"=none
 ba:V.mg "len"=none
 bw:V.mg "zip"=none
 bn:V.mg "reversed"=none
 bd:V.mg "range"=none
 bj:V.mg "max"=none
 bq:V.mg "sorted"=none
 bu:V.mg "min"=none
 bc:V.mg "isinstance"=none
 bh:V.mg "int"=none
 bg:V.mg "tuple"=none
 bp:V.mg "str"=none
 bv:V.mg "bool"=none
 D0:zb V.K "is_leaf" nX
 D1:zb V.K "parts_of" l9
 D2:zb V.K "places_of" i5
 D3:zb V.K "arms_of" mw
 D4:zb V.K "rules_in" kA
 D5:zb V.K "told_by" oR
 D6:zb V.K "taken_by" mF
 D7:zb V.K "with_arm" kO
 D8:zb V.K "all_told" kD
 D9:zb V.K "arm_that_tells" bT
 D10:zb V.K "turned_out" g0
 D11:zb V.K "arm_at" ra
 D12:zb V.K "rules_along" fC
 D13:zb V.K "exchanged" ie
 D14:zb V.K "rules_by_way" dP
 D15:zb V.K "exchanges_of" db
 D16:zb V.K "_law_mix" lX
 D17:zb V.K "_law_name" iq
 D18:zb V.K "_law_word" iu
 D19:zb V.K "_law_flip" i4
 D20:zb V.K "_law_weight" fI
 D21:zb V.K "_law_mirror" fB
 D22:zb V.K "_law_join" im
 D23:zb V.K "_law_fold" ig
 D24:zb V.K "_law_cut" kM
 D25:DefInT V.K "_law_order" s__law_order V.Pt
 D26:zb V.K "_law_moved" gK
 D27:zb V.K nU dN
 D28:zb V.K "_law_tree" iW
 D29:zb V.K "_law_arms" jB
 D30:zb V.K nQ cw
 D31:zb V.K "_law_ends" iV
 D32:zb V.K "_law_needs" gM
 D33:zb V.K "_law_goes" iw
 D34:zb V.K nR cr
 D35:zb V.K "_law_alike" gB
 D36:zb V.K "_law_ways" iZ
 D37:zb V.K nV dO
 D38:zb V.K nW dQ
 D39:zb V.K "_law_within" fE
 D40:zb V.K "_law_part" iR
 k_LEAF_KINDS:anq ⟨V.K,V.P,V.w⟩ V.mg "LEAF_KINDS" fG
 i_PLACE_COUNTS:anu ⟨V.K,V.P,V.w⟩ V.mg "PLACE_COUNTS" wf
 md:V.mg "NoExchange"=some (.ref V.Ca)
 x_NoExchange:aab V.K V.Ca
 xf:L3.XF62 V.K V.Ca
abbrev Q_(V:V_)(k:Nat)(x:Str)(ps:List Str)(sp:jr):Prop:=akp V.P V.w V.K V.mg V.base k x ps sp
abbrev c0(_:V_):Prop:=True
local macro_rules|`(tactic| walk_at "s")=>`(tactic| exact⟨rfl,rfl,rfl,by decide +kernel,rfl,by decide +kernel,by decide +kernel⟩)
local macro_rules|`(tactic| walk_at "l")=>`(tactic| first|(rintro _ _ _ ⟨_,e,_⟩;rw[e];rfl)|(rintro _ _ _ ⟨_,_,e,_⟩;rw[e];rfl)|(rintro _ _ _ ⟨_,_,_,e,_⟩;rw[e];rfl)|(rintro _ _ _ ⟨_,_,_,_,e,_⟩;rw[e];rfl)|(rintro _ _ _ ⟨_,_,_,_,_,e,_⟩;rw[e];rfl)|(rintro _ _ _ ⟨_,_,_,_,_,_,e,_⟩;rw[e];rfl)|(rintro _ _ _ ⟨_,_,_,_,_,_,_,e,_⟩;rw[e];rfl)|(rintro _ _ _ ⟨_,_,_,_,_,_,_,_,e,_⟩;rw[e];rfl)|(rintro _ _ _ ⟨_,_,_,_,_,_,_,_,_,e,_⟩;rw[e];rfl))
local macro_rules|`(tactic| walk_at "x")=>`(tactic| (intro _;walk_at "l"))
local macro_rules|`(tactic| walk_at "b")=>`(tactic| (intro _ _ _ _ _ _ us hl;(repeat (obtain⟨_,_,e,h⟩:=ar2 hl;clear hl;subst e;have hl:=h;clear h));cases List.eq_nil_of_length_eq_zero hl;rfl))
section
variable {f:Addr}{fd:FuncData}{x q:Str}{st:Stmt}{ps:List Str}(V:V_)(k:Nat)(N:List Str)
theorem W_{sp:jr}{t:ke}(F:Fun V.K x q st f fd)(g:∀ys L Q,sp ys L Q->xp t N.length ys L Q)(h:∀(fx:Value) (A:Around) (outer:List Env) (s:Shared) (H:Hp) (E:XK),wb k (A.deeper (PyProof.Rows.envOfC q (qy st) s.heap.objs.size f fx))->N.Nodup->(A.deeper (PyProof.Rows.envOfC q (qy st) s.heap.objs.size f fx)).units+128<cLine->qF (cZ CX0 V.P V.w V.K V.mg V.base N q (qy st) f fx A outer s H E).nox (ji st) t)(J:aD N ps (qy st):=by walk_at "s")(len:∀ys L Q,sp ys L Q->ys.length=ps.length:=by walk_at "l"):Fn3 V.P V.w V.K V.mg V.base (k+1) f fd ps sp:=
 ok3 F J len λfx A outer s H E U=>⟨t,h fx A outer s H E U J.nd (huK U),g⟩
theorem M_{sp:jr}{t:ke}(J:∃h:Heap,V.K.In h/\h.Ns mainGlobals V.mg)(D:zb V.K x st)(U:∀ys L Q,sp ys L Q->xp t N.length ys L Q)(h:∀f,∀(fx:Value) (A:Around) (outer:List Env) (s:Shared) (H:Hp) (E:XK),wb k (A.deeper (PyProof.Rows.envOfC x (qy st) s.heap.objs.size f fx))->N.Nodup->(A.deeper (PyProof.Rows.envOfC x (qy st) s.heap.objs.size f fx)).units+128<cLine->qF (cZ CX0 V.P V.w V.K V.mg V.base N x (qy st) f fx A outer s H E).nox (ji st) t)(g:aD N ps (qy st):=by walk_at "s")(len:∀ys L Q,sp ys L Q->ys.length=ps.length:=by walk_at "l")(j:∀(kV hQ pm:Value) (an:Option Addr) (fx ct:Value) (us:List Value),us.length=ps.length->bindArgs (PySem.W.fnOf x x (xx st) (ji st) (qy st) .none kV hQ pm an fx ct) ⟨us,[]⟩=pure (ps.zip us):=by walk_at "b"):Q_ V (k+1) x ps sp:=by obtain⟨_,X,G⟩:=J;obtain⟨f,fd,F,b,m⟩:=D.use X G j;exact zG.of (W_ V k N F U (h f) g len) b F.kp m
theorem R_{sp:Nat->jr}{t:Nat->ke}(J:∃h:Heap,V.K.In h/\h.Ns mainGlobals V.mg)(D:zb V.K x st)(no:∀ys L Q,¬sp 0 ys L Q)(U:∀n ys L Q,sp (n+1) ys L Q->xp (t n) N.length ys L Q)(h:∀n f,Q_ V (n+k) x ps (sp n)->∀(fx:Value) (A:Around) (outer:List Env) (s:Shared) (H:Hp) (E:XK),wb (n+k) (A.deeper (PyProof.Rows.envOfC x (qy st) s.heap.objs.size f fx))->N.Nodup->(A.deeper (PyProof.Rows.envOfC x (qy st) s.heap.objs.size f fx)).units+128<cLine->qF (cZ CX0 V.P V.w V.K V.mg V.base N x (qy st) f fx A outer s H E).nox (ji st) (t n))(n:Nat)(g:aD N ps (qy st):=by walk_at "s")(len:∀n ys L Q,sp n ys L Q->ys.length=ps.length:=by walk_at "x")(j:∀(kV hQ pm:Value) (an:Option Addr) (fx ct:Value) (us:List Value),us.length=ps.length->bindArgs (PySem.W.fnOf x x (xx st) (ji st) (qy st) .none kV hQ pm an fx ct) ⟨us,[]⟩=pure (ps.zip us):=by walk_at "b"):Q_ V (n+k) x ps (sp n):=by
 obtain⟨_,X,G⟩:=J;obtain⟨f,fd,F,b,m⟩:=D.use X G j
 induction n with|zero=>exact zG.of (Fn3.never no) b F.kp m|succ n l=>rw[Nat.add_right_comm];exact zG.of (W_ V (n+k) N F (U n) (h n f l) g (len _)) b F.kp m
theorem X_{sp:eW}{t:X3->ke}(g:∃h:Heap,V.K.In h/\h.Ns mainGlobals V.mg)(D:zb V.K x st)(j:∀ys L Q E,sp ys L Q E->xp (t (r9 E)) N.length ys L Q)(h:∀f,∀(fx:Value) (A:Around) (outer:List Env) (s:Shared) (H:Hp) (E:XK) (E3:X3),wb k (A.deeper (PyProof.Rows.envOfC x (qy st) s.heap.objs.size f fx))->bK (cZ (CXE V.P V.w) V.P V.w V.K V.mg V.base N x (qy st) f fx A outer s H E) (upX ⟨V.K,V.P,V.w⟩ E3)->N.Nodup->(A.deeper (PyProof.Rows.envOfC x (qy st) s.heap.objs.size f fx)).units+128<cLine->qF (cZ (CXE V.P V.w) V.P V.w V.K V.mg V.base N x (qy st) f fx A outer s H E) (ji st) (t E3))(J:aD N ps (qy st):=by walk_at "s")(len:∀ys L Q E,sp ys L Q E->ys.length=ps.length:=by walk_at "x")(l:∀(kV hQ pm:Value) (an:Option Addr) (fx ct:Value) (us:List Value),us.length=ps.length->bindArgs (PySem.W.fnOf x x (xx st) (ji st) (qy st) .none kV hQ pm an fx ct) ⟨us,[]⟩=pure (ps.zip us):=by walk_at "b"):gZ V.P V.w V.K V.mg V.base (k+1) x ps sp:=by obtain⟨_,X,G⟩:=g;obtain⟨f,fd,F,b,m⟩:=D.use X G l;exact⟨_,_,asa F J len (λfx A outer s H E E3 U o=>h f fx A outer s H E E3 U o J.nd (huK U)) j,b,F.kp,m⟩
theorem T_{sp:jr}{t:ke}(g:∃h:Heap,V.K.In h/\h.Ns mainGlobals V.mg)(D:DefInT V.K x st V.Pt)(j:∀ys L Q,sp ys L Q->xp t N.length ys L Q)(h:∀f,∀(fx:Value) (A:Around) (outer:List Env) (s:Shared) (H:Hp) (E:XK),xG V.K fx V.Pt->wb k (A.deeper (PyProof.Rows.envOfC x (qy st) s.heap.objs.size f fx))->N.Nodup->(A.deeper (PyProof.Rows.envOfC x (qy st) s.heap.objs.size f fx)).units+128<cLine->qF (cZ CX0 V.P V.w V.K V.mg V.base N x (qy st) f fx A outer s H E).nox (ji st) t)(J:aD N ps (qy st):=by walk_at "s")(len:∀ys L Q,sp ys L Q->ys.length=ps.length:=by walk_at "l")(l:∀(kV hQ pm:Value) (an:Option Addr) (fx ct:Value) (us:List Value),us.length=ps.length->bindArgs (PySem.W.fnOf x x (xx st) (ji st) (qy st) .none kV hQ pm an fx ct) ⟨us,[]⟩=pure (ps.zip us):=by walk_at "b"):Q_ V (k+1) x ps sp:=by obtain⟨_,X,G⟩:=g;obtain⟨f,fd,F,b,m⟩:=D.use X G l;exact zG.of (ap9 F J len λfx A outer s H E C U=>⟨t,h f fx A outer s H E C U J.nd (huK U),j⟩) b F.kp m
end
theorem I_{X:Cx}{a b:Expr}{ta tb:xj}{pos:Pos}(J:QE X a ta)(U:QE X b tb)(g:gJ b:=by exactλ_ _=>rfl):QE X (.Subscript a b pos) (zn ay ta tb):=amx (ahs X.K X.prog X.w) J U g
theorem jl{X:Cx}{e:Expr}{t:xj}(h:QE X e t)(s:starEach [e] X.env=[(false,eval e X.env)]:=by rfl):QA X [e] (qd t qz):=jt h jo s
theorem k7{X:Cx}{e f:Expr}{t u:xj}(h:QE X e t)(g:QE X f u)(s:starEach [e,f] X.env=[(false,eval e X.env),(false,eval f X.env)]:=by rfl)(r:starEach [f] X.env=[(false,eval f X.env)]:=by rfl):QA X [e,f] (qd t (qd u qz)):=jt h (jl g r) (by show _=_;rw[s,r])
theorem bD{X:Cx}{e f d:Expr}{t u v:xj}(h:QE X e t)(g:QE X f u)(i:QE X d v)(s:starEach [e,f,d] X.env=[(false,eval e X.env),(false,eval f X.env),(false,eval d X.env)]:=by rfl)(r:starEach [f,d] X.env=[(false,eval f X.env),(false,eval d X.env)]:=by rfl)(q:starEach [d] X.env=[(false,eval d X.env)]:=by rfl):QA X [e,f,d] (qd t (qd u (qd v qz))):=jt h (k7 g i r q) (by show _=_;rw[s,r])
theorem E_{X:Cx}{a b:Expr}{ta tb:xj}{pos:Pos}(J:X.A.units+128<cLine)(U:QE X a ta)(g:QE X b tb):QT X (.Compare a [.Eq] [b] pos) (yB (zn (wB false) ta tb)):=xc (vB X.K X.prog X.w J) U g (w5 _)
theorem N_{X:Cx}{a b:Expr}{ta tb:xj}{pos:Pos}(J:X.A.units+128<cLine)(U:QE X a ta)(g:QE X b tb):QT X (.Compare a [.NotEq] [b] pos) (yB (zn (wB true) ta tb)):=xc (amf X.K X.prog X.w J) U g (w5 _)
theorem S_{X:Cx}{x:Str}{e:Expr}{te:xj}{pos gf:Pos}(i:Nat)(j:X.N.Nodup)(h:QE X e te)(J:X.N[i]?=some x:=by rfl)(l:Loc X.env.scope x:=by exact Or.inl rfl)(U:swapsWith e (some (.Name x gf)) pos.line X.env=pure false:=by rfl)(g:X.fn x=true\/X.env.scope.names.lookup x=some .local:=by first|exact .inl rfl|exact .inr rfl|assumption):QS X (.Assign [.Name x gf] e pos) (zr te (qh i)):=bM (i:=i) j J l h U g
theorem G_{X:Cx}{x:Str}{pos:Pos}(i:Nat)(g:X.N.Nodup)(J:X.N[i]?=some x:=by rfl)(j:Loc X.env.scope x:=by exact Or.inl rfl)(U:X.fn x=true\/X.env.scope.names.lookup x=some .local:=by first|exact .inl rfl|exact .inr rfl|assumption):QG X (.Name x pos) (qh i):=gQ (i:=i) g J j U
theorem C_{X:Cx}{e:Expr}{es:List Expr}{tr:dE}{pos p:Pos}{j k:Nat}{x:Str}{ps:List Str}{sp:jr}(c:akp X.prog X.w X.K X.mg X.base j x ps sp)(g:wb k X.A)(l:QA X (e::es) tr)(o:j<=k:=by first|decide|exact Al _|exact AQ (by decide) (DR _ _))(r:Gl X x:=by rfl)(J:Ed x:=by decide)(t:Eb e es X:=by rfl)(U:Ec pos es X:=by rfl):QE X (.Call (.Name x p) (e::es) [] pos) (zc sp tr):=aq7 (zG.mono c o) g r l J t U
theorem J_{X:Cx}{x:Str}{n:Int}{k:Nat}{p q pos:Pos}(i:Nat)(J:X.N[i]?=some x:=by rfl)(U:Vis X.env.scope x:=by first|exact Or.inl rfl|exact Or.inr (Or.inl rfl)|exact Or.inr (Or.inr rfl))(hd:Ed x:=by decide)(hc:Ee x:=by decide):QE X (.Subscript (.Name x p) (.Constant (.int n) k q) pos) (zn ay (qb i) (yC (.int n))):=I_ (qv i J U hd hc) qi (λ_ _=>rfl)
theorem L_{X:Cx}{e:Expr}{t:xj}{p pos:Pos}(J:X.mg "len"=none)(h:QE X e t)(s:starEach [e] X.env=[(false,eval e X.env)]:=by rfl)(U:Gl X "len" := by rfl):QE X (.Call (.Name "len" p) [e] [] pos) (iT jL (qd t qz)):=dR (al1 X.K X.prog X.w) U J al6 (jl h s) (hs:=s)
theorem nd_{l:List Str}(h:decide l.Nodup=true:=by kernel_rfl):l.Nodup:=of_decide_eq_true h
abbrev c1(V:V_):Prop:=c0 V/\Q_ V 1 "is_leaf" ["word"] (fU)
theorem d1(V:V_)(B:B_ V)(c:c0 V):c1 V:=⟨c,M_ V 0 ["word"] B.hp B.D0 uP λ_ _ _ _ _ _ _ J U g=>(qe (z0 (cO (ace _ _ _) (J_ 0) (ajy B.k_LEAF_KINDS rfl) (by with_unfolding_all rfl))))⟩
abbrev c2(V:V_):Prop:=c1 V/\Q_ V 2 "parts_of" ["knot"] (lv)
theorem d2(V:V_)(B:B_ V)(c:c1 V):c2 V:=⟨c,M_ V 1 ["knot"] B.hp B.D1 ad3 λ_ _ _ _ _ _ _ J U g=>(qa (j6 (ft (vE (fP (qv 0)) (pF (cT (C_ c.2 J (jl (qv 0))))))) (qe (z0 (za jo))) zh) (qe (z0 (za (k7 (J_ 0) (J_ 0))))))⟩
abbrev c3(V:V_):Prop:=c2 V/\Q_ V 1 "places_of" ["rule"] (qD)
theorem d3(V:V_)(B:B_ V)(c:c2 V):c3 V:=⟨c,M_ V 0 ["rule"] B.hp B.D2 afv λ_ _ _ _ _ _ _ J U g=>(qe (z0 (w9 aG rfl B.bb ku (jl (vk (iy _ _ _) (qv 0) (vo qi) (vo (qt jx qi (ln B.i_PLACE_COUNTS rfl (J_ 0) (λ_ _=>rfl)))))))))⟩
abbrev c4(V:V_):Prop:=c3 V/\Q_ V 1 "arms_of" ["rule"] (vv)
theorem d4(V:V_)(B:B_ V)(c:c3 V):c4 V:=⟨c,M_ V 0 ["rule"] B.hp B.D3 yg λ_ _ _ _ _ _ _ J U g=>(qe (z0 (w9 aG rfl B.bb ku (jl (vk (iy _ _ _) (qv 0) (vo (qt jx qi (ln B.i_PLACE_COUNTS rfl (J_ 0) (λ_ _=>rfl)))) aB)))))⟩
abbrev c5(V:V_):Prop:=c4 V/\Q_ V 122 "rules_in" ["rule"] (bC 120)
theorem d5(V:V_)(B:B_ V)(c:c4 V):c5 V:=⟨c,R_ V 2 ["rule","rules","arm"] B.hp B.D4 abq tN (λ_ _ J _ _ _ _ _ _ U g j=>(qa (S_ 1 g (za (jl (qv 0)))) (qa (v9 As rfl (k8 (C_ c.2 U (jl (qv 0)))) (G_ 2 g) (qe (ze (ah (qv 1) (jl (C_ J U (jl (qv 2)))))))) (qe (z0 (qv 1)))))) 120⟩
abbrev c6(V:V_):Prop:=c5 V/\Q_ V 2 "told_by" ["rule"] (gu)
theorem d6(V:V_)(B:B_ V)(c:c5 V):c6 V:=⟨c,M_ V 1 ["rule"] B.hp B.D5 yk λ_ _ _ _ _ _ _ J g U=>(qe (z0 (dM (E_ U (J_ 0) jd) (za jo) (C_ c.1.1.2 J (jl (qv 0))))))⟩
abbrev c7(V:V_):Prop:=c6 V/\Q_ V 3 "taken_by" ["knots","rule"] (pY)
theorem d7(V:V_)(B:B_ V)(c:c6 V):c7 V:=⟨c,M_ V 2 ["knots","rule","parts"] B.hp B.D6 aea λ_ _ _ _ _ _ _ U g J=>(qa (j6 (E_ J (J_ 1) jd) (qe (z0 (za jo))) zh) (qa (j6 (E_ J (J_ 1) jd) (qe (z0 (za (k7 (za (jl (J_ 1))) (za (jl (J_ 1))))))) zh) (qa (S_ 2 g (C_ c.1.1.1.1.2 U (jl (I_ (qv 0) (J_ 1))))) (qa (j6 (E_ J (J_ 1) jd) (qe (z0 (za (jl (qv 2))))) zh) (qe (z0 (lz ["part"] (EM (by rfl)) rfl (k8 (qv 2)) (wc nd_ (λ_ _ _ _=>Or.inl rfl) (λ_ _ _ _=>rfl)) (λ_ _ _ _=>l8) (λ_ _ _ _=>(za (jl (qv 3)))))))))))⟩
abbrev c8(V:V_):Prop:=c7 V/\Q_ V 1 "with_arm" ["rule","number","arm"] (fu)
theorem d8(V:V_)(B:B_ V)(c:c7 V):c8 V:=⟨c,M_ V 0 ["rule","number","arm","at"] B.hp B.D7 af6 λ_ _ _ _ _ _ _ U J g=>(qa (S_ 3 J (qt jx (qt jx qi (ln B.i_PLACE_COUNTS rfl (J_ 0) (λ_ _=>rfl))) (qv 1))) (qe (z0 (qt acp (qt acp (vk (iy _ _ _) (qv 0) aB (vo (qv 3))) (zk (jl (qv 2)))) (vk (iy _ _ _) (qv 0) (vo (qt jx (qv 3) qi)) aB)))))⟩
abbrev c9(V:V_):Prop:=c8 V/\Q_ V 123 "all_told" ["rule"] (fK)
theorem d9(V:V_)(B:B_ V)(c:c8 V):c9 V:=⟨c,M_ V 122 ["rule","places","inner"] B.hp B.D8 uj λ_ _ _ _ _ _ _ J U g=>(qa (S_ 1 U (za jo)) (qa (v9 As rfl (k8 (C_ c.1.1.1.2 J (jl (qv 0)))) (G_ 2 U) (qe (ze (ah (qv 1) (jl (C_ c.1.1.2 J (jl (qv 2)))))))) (qe (z0 (qv 1)))))⟩
abbrev eO(V:V_):Prop:=c9 V/\Q_ V 124 "arm_that_tells" ["rule","places"] (mO)
theorem d10(V:V_)(B:B_ V)(c:c9 V):eO V:=⟨c,M_ V 123 ["rule","places","number","arm","told"] B.hp B.D9 aa6 λ_ _ _ _ _ _ _ U J g=>(qa (v9 As rfl (eU rfl B.bf (C_ c.1.1.1.1.1.2 U (jl (qv 0)))) (wm rfl (zg (G_ 2 J) (zg (G_ 3 J) vi))) (qa (bM (i:=4) J rfl (Or.inr rfl) (C_ c.2 U (jl (qv 3)))) (qe (j6 (cT (dR aob rfl B.br alj (jl (lz ["place"] (EM (by rfl)) rfl (k8 (qv 1)) (wc nd_ (λ_ _ _ _=>Or.inl rfl) (λ_ _ _ _=>rfl)) (λ_ _ _ _=>l8) (λ_ _ _ _=>(cO (ace _ _ _) (qv 5) (qv 4) (by with_unfolding_all rfl))))))) (qe (z0 (qv 2))) zh)))) (qe (z0 dW)))⟩
abbrev zY(V:V_):Prop:=eO V/\Q_ V 125 "turned_out" ["knots","rule","arm"] (gD)
theorem d11(V:V_)(B:B_ V)(c:eO V):zY V:=⟨c,M_ V 124 ["knots","rule","arm","inner","number"] B.hp B.D10 aeq λ_ _ _ _ _ _ _ J U g=>(qa (S_ 3 U (I_ (C_ c.1.1.1.1.1.1.2 J (jl (qv 1))) (qv 2))) (qa (S_ 4 U (C_ c.2 J (k7 (qv 3) (I_ (C_ c.1.1.1.2 J (k7 (qv 0) (qv 1))) (qv 2))))) (qa (j6 (fP (qv 4)) (qe (z0 dW)) zh) (qe (z0 (C_ c.1.1.2 J (bD (qv 3) (qv 4) (C_ c.1.1.2 J (bD (qv 1) (qv 2) (I_ (C_ c.1.1.1.1.1.1.2 J (jl (qv 3))) (qv 4)))))))))))⟩
abbrev c12(V:V_):Prop:=zY V/\gZ V.P V.w V.K V.mg V.base 2 "arm_at" ["rule","number"] (bV V.Ca)
theorem d12(V:V_)(B:B_ V)(c:zY V):c12 V:=⟨c,X_ V 1 ["rule","number","arms"] (t:=(λJ=>sv V.Ca J (vv))) B.hp B.D11 ac7 λ_ _ _ _ _ _ _ _ U g j l=>(qa (S_ 2 j (C_ c.1.1.1.1.1.1.1.2 U (jl (qv 0)))) (qa (j6 (qB (ad0 qi (xS asl (qv 1) (yh wR (L_ B.ba (qv 2)))))) (qe (sW B.x_NoExchange rfl B.md rfl g rfl (jl jd))) zh) (qe (z0 (I_ (qv 2) (qv 1))))))⟩
abbrev c13(V:V_):Prop:=c12 V/\gZ V.P V.w V.K V.mg V.base 3 "rules_along" ["rule","way"] (fq V.Ca)
theorem d13(V:V_)(B:B_ V)(c:c12 V):c13 V:=⟨c,X_ V 2 ["rule","way","along","number"] (t:=(λU=>e9 U (bV V.Ca))) B.hp B.D12 zJ λ_ _ _ _ _ _ _ _ g j J l=>(qa (S_ 2 J (za (jl (qv 0)))) (qa (v9 PassesOwn.leaving rfl (k8 (qv 1)) (G_ 3 J) (qe (ze (zd (qv 2) (jl (act (c.2.mono (by decide)) g rfl j rfl (k7 (I_ (qv 2) (mm mv qi)) (qv 3)))))))) (qe (z0 (qv 2)))))⟩
abbrev c14(V:V_):Prop:=c13 V/\gZ V.P V.w V.K V.mg V.base 126 "exchanged" ["tree","way","arm"] (pK V.Ca)
theorem d14(V:V_)(B:B_ V)(c:c13 V):c14 V:=⟨c,X_ V 125 ["tree","way","arm","along","rule","number","outer"] (t:=(λj=>jA V.Ca j (fq V.Ca) (bV V.Ca) (gD) (fu))) B.hp B.D13 ah3 λ_ _ _ _ _ _ _ _ U g J l=>(qa (S_ 3 J (act (c.2.mono (by decide)) U rfl g rfl (k7 (J_ 0) (qv 1)))) (qa (ze (act (c.1.2.mono (by decide)) U rfl g rfl (k7 (I_ (qv 3) (mm mv qi)) (qv 2)))) (qa (S_ 4 J (C_ c.1.1.2 U (bD (J_ 0) (I_ (qv 3) (mm mv qi)) (qv 2)))) (qa (j6 (fP (qv 4)) (qe (sW B.x_NoExchange rfl B.md rfl g rfl (jl jd))) zh) (qa (v9 PassesOwn.leaving rfl (alf rfl B.bn (adu rfl rfl B.bb rfl B.bw (k7 (qv 1) (qv 3)))) (wm rfl (zg (G_ 5 J) (zg (G_ 6 J) vi))) (qe (S_ 4 J (C_ c.1.1.1.1.1.2 U (bD (qv 6) (qv 5) (qv 4)))))) (qe (z0 (zk (k7 (w9 aG rfl B.bb ku (jl (J_ 0))) (qv 4))))))))))⟩
abbrev c15(V:V_):Prop:=c14 V/\Q_ V 2 "rules_by_way" ["rule"] (pD)
theorem d15(V:V_)(B:B_ V)(c:c14 V):c15 V:=⟨c,M_ V 1 ["rule","found","due","here","behind"] B.hp B.D14 ah0 λ_ _ _ _ _ _ _ U J g=>(qa (S_ 1 J (za jo)) (qa (S_ 2 J (za (jl (zk (k7 (za jo) (qv 0)))))) (qa (aq As (N_ g (qv 2) (za jo)) (qa (bM (i:=3) J rfl (Or.inr rfl) (kK (qv 2))) (qa (ze (zd (qv 1) (jl (qv 3)))) (qa (gG ["number","arm" ] (i:=4) J rfl (Or.inl rfl) (EM (by rfl)) rfl (eU rfl B.bf (C_ c.1.1.1.1.1.1.1.1.1.1.2 U (jl (J_ 3)))) (agc rfl nd_ (λ_ _ _ _=>rfl) (λ_ _ _ _=>rfl)) (λ_ _ _ _=>l8) (λ_ _ _ _=>(zk (k7 (qt jx (J_ 3) (za (jl (qv 5)))) (qv 6))))) (qa (ze (uZ (qv 4))) (qe (ze (ah (qv 2) (jl (qv 4)))))))))) (qe (z0 (qv 1))))))⟩
abbrev c16(V:V_):Prop:=c15 V/\Q_ V 126 "exchanges_of" ["tree"] (pU)
theorem d16(V:V_)(B:B_ V)(c:c15 V):c16 V:=⟨c,M_ V 125 ["tree","pairs","way","rule","arm"] B.hp B.D15 ae5 λ_ _ _ _ _ _ _ U J g=>(qa (S_ 1 J (za jo)) (qa (v9 As rfl (k8 (C_ c.2 U (jl (J_ 0)))) (wm rfl (zg (G_ 2 J) (zg (G_ 3 J) vi))) (qe (v9 As rfl (wq rfl B.bd (jl (L_ B.ba (C_ c.1.1.1.1.1.1.1.1.1.1.1.2 U (jl (qv 3)))))) (G_ 4 J) (qe (j6 (wF (C_ c.1.1.1.1.2 U (bD (J_ 0) (qv 3) (qv 4)))) (qe (ze (zd (qv 1) (jl (zk (k7 (w9 aG rfl B.bb ku (jl (qv 2))) (qv 4))))))) zh))))) (qe (z0 (qv 1)))))⟩
abbrev c17(V:V_):Prop:=c16 V/\Q_ V 1 "_law_mix" [nS,nI,"_law_factor"] (lK)
theorem d17(V:V_)(B:B_ V)(c:c16 V):c17 V:=⟨c,M_ V 0 [nS,nI,"_law_factor"] B.hp B.D16 ak4 λ_ _ _ _ _ _ _ J U g=>(qe (z0 (qt wn (qt xa (qt i6 (qt jx (qt jx (qt i6 (qt xa (qv 0) qi) qi) (qt i6 (qv 1) (qv 1))) qi) (qv 2)) qi) qi)))⟩
abbrev c18(V:V_):Prop:=c17 V/\Q_ V 1 "_law_name" [nj,"_law_which"] (lQ)
theorem d18(V:V_)(B:B_ V)(c:c17 V):c18 V:=⟨c,M_ V 0 [nj,"_law_which","_law_letters","_law_size","_law_place","_law_base","_law_sign"] B.hp B.D17 adp λ_ _ _ _ _ _ _ g J U=>(qa (bM (i:=2) J rfl (Or.inr rfl) jd) (qa (S_ 3 J (qt jx qi (qt xa (qv 0) qi))) (qa (S_ 4 J (qt xa (qt wn (qv 0) qi) (qv 3))) (qa (S_ 5 J (agr jd (jl (lz [nI] (EM (by rfl)) rfl (wq rfl B.bd (jl qi)) (wc nd_ (λ_ _ _ _=>Or.inl rfl) (λ_ _ _ _=>rfl)) (λ_ _ _ _=>l8) (λ_ _ _ _=>(I_ (qv 2) (qt xa (qt jx (qt wn (qv 0) qi) (qt i6 qi (qv 7))) qi))))))) (qa (j6 (E_ U (qt xa (qt wn (qv 0) qi) qi) qi) (qe (z0 (vk (sX _ _ _) (qv 5) aB (vo (qt jx qi (qt xa (qt jx (qv 1) (qv 0)) qi)))))) zh) (qa (S_ 6 J (I_ (qv 2) (qt xa (qt jx (qt jx (qt wn (qv 0) qi) (qt i6 qi (qv 4))) (qv 1)) qi))) (qe (z0 (qt jx (qt jx (vk (sX _ _ _) (qv 5) aB (vo (qv 4))) (qv 6)) (vk (sX _ _ _) (qv 5) (vo (qt jx (qv 4) qi)) (vo (qv 3))))))))))))⟩
abbrev c19(V:V_):Prop:=c18 V/\Q_ V 121 "_law_word" [ng,nv] (aM 120)
theorem d19(V:V_)(B:B_ V)(c:c18 V):c19 V:=⟨c,R_ V 1 [ng,nv,"_law_knot"] B.hp B.D18 pM sD (λ_ _ J _ _ _ _ _ _ U g j=>(qa (S_ 2 g (I_ (qv 0) (qv 1))) (qa (j6 (E_ j (L_ B.ba (qv 2)) qi) (qe (z0 (qv 2))) zh) (qe (z0 (zk (bD (J_ 2) (C_ J U (k7 (qv 0) (J_ 2))) (C_ J U (k7 (qv 0) (J_ 2)))))))))) 120⟩
abbrev c20(V:V_):Prop:=c19 V/\Q_ V 121 "_law_flip" [nq] (cB 120)
theorem d20(V:V_)(B:B_ V)(c:c19 V):c20 V:=⟨c,R_ V 1 [nq,"_law_sides"] B.hp B.D19 aa3 aai (λ_ _ J _ _ _ _ _ _ U g j=>(qa (S_ 1 g (aef [ ("plain" ,"turned") ,("turned" ,"plain") ,("both" ,"either") ,("either" ,"both") ] (fe cL cL (fe cL cL (fe cL cL (fe cL cL aew)))) rfl rfl (Bs _ _) (Bv rfl))) (qa (j6 (E_ j (L_ B.ba (qv 0)) qi) (qe (z0 (zk (k7 (I_ (qv 1) (J_ 0)) (J_ 0))))) zh) (qe (z0 (zk (bD (I_ (qv 1) (J_ 0)) (C_ J U (jl (J_ 0))) (C_ J U (jl (J_ 0)))))))))) 120⟩
abbrev c21(V:V_):Prop:=c20 V/\Q_ V 121 "_law_weight" [nq] (bY 120)
theorem d21(V:V_)(B:B_ V)(c:c20 V):c21 V:=⟨c,R_ V 1 [nq] B.hp B.D20 lb wX (λ_ _ J _ _ _ _ _ _ U j g=>(qa (j6 (E_ g (L_ B.ba (qv 0)) qi) (qe (z0 qi)) zh) (qe (z0 (qt jx (qt jx qi (C_ J U (jl (J_ 0)))) (C_ J U (jl (J_ 0)))))))) 120⟩
abbrev c22(V:V_):Prop:=c21 V/\Q_ V 127 "_law_mirror" [ng,nq] (bP 5)
theorem d22(V:V_)(B:B_ V)(c:c21 V):c22 V:=⟨c,R_ V 122 [ng,nq,"_law_left","_law_right","_law_turn","_law_same","_law_low","_law_high"] B.hp B.D21 xK wT (λ_ _ J _ _ _ _ _ _ g U l=>(qa (j6 (E_ l (L_ B.ba (qv 1)) qi) (qa (ze (zd (qv 0) (jl (C_ c.1.2 g (jl (qv 1)))))) (qa (ze (zd (qv 0) (jl (qv 1)))) (qe (z0 (za (bD (zk (bD jd (qt dD (L_ B.ba (qv 0)) qi) (qt dD (L_ B.ba (qv 0)) qi))) (qt dD (L_ B.ba (qv 0)) qi) (qt dD (L_ B.ba (qv 0)) qi))))))) zh) (qa (S_ 2 U (C_ J g (k7 (qv 0) (J_ 1)))) (qa (S_ 3 U (C_ J g (k7 (qv 0) (J_ 1)))) (qa (ze (zd (qv 0) (jl (zk (bD (I_ (C_ c.1.2 g (jl (qv 1))) qi) (J_ 2) (J_ 3)))))) (qa (ze (zd (qv 0) (jl (zk (bD (J_ 1) (J_ 2) (J_ 3)))))) (qa (o0 (i:=4) (j:=5) rfl U rfl rfl (by decide) rfl rfl (k7 (qt dD (L_ B.ba (qv 0)) qi) (qt dD (L_ B.ba (qv 0)) qi)) rfl) (qa (S_ 6 U (dM (E_ l (J_ 1) jd) (qv 4) (qv 5))) (qa (S_ 7 U (dM (E_ l (J_ 1) jd) (qv 5) (qv 4))) (qe (z0 (za (bD (zk (bD jd (qv 7) (zk (jt jd (bD (qv 6) (J_ 2) (J_ 3)))))) (qv 4) (qv 5)))))))))))))) 5⟩
abbrev c23(V:V_):Prop:=c22 V/\Q_ V 1 "_law_join" [ng,nG,nr,ny] (oh)
theorem d23(V:V_)(B:B_ V)(c:c22 V):c23 V:=⟨c,M_ V 0 [ng,nG,nr,ny,"_law_first","_law_second","_law_left","_law_right",nL] B.hp B.D22 aec λ_ _ _ _ _ _ _ U J g=>(qa (S_ 4 J (bz (qv 1) (jl (qt xa (qv 3) (L_ B.ba (qv 1)))))) (qa (S_ 5 J (bz (qv 1) (jl (qt xa (qv 2) (L_ B.ba (qv 1)))))) (qa (bM (i:=6) J rfl (Or.inr rfl) (I_ (J_ 4) (qt xa (qt wn (qv 3) qi) (L_ B.ba (J_ 4))))) (qa (bM (i:=7) J rfl (Or.inr rfl) (I_ (J_ 5) (qt xa (qt wn (qv 2) qi) (L_ B.ba (J_ 5))))) (qa (ze (zd (qv 0) (jl (zk (bD jd (qv 6) (qv 7)))))) (qa (gG [nv] (i:=8) J rfl (Or.inl rfl) (EM (by rfl)) rfl (k8 (qt jx (J_ 4) (J_ 5))) (wc nd_ (λ_ _ _ _=>Or.inl rfl) (λ_ _ _ _=>rfl)) (λ_ _ _ _=>iM (xc (u8 _ _ _) (qv 9) (zk (k7 (qv 6) (qv 7))) (by with_unfolding_all rfl))) (λ_ _ _ _=>(qv 9))) (qe (ze (zd (qv 1) (jl (za (k7 (zk (jt jd (bD (qt dD (L_ B.ba (qv 0)) qi) (J_ 4) (J_ 5)))) (qt jx (qv 8) (za (jl (qt dD (L_ B.ba (qv 0)) qi))))))))))))))))⟩
abbrev c24(V:V_):Prop:=c23 V/\Q_ V 1 "_law_fold" [ng,nu,nr,ny] (lU)
theorem d24(V:V_)(B:B_ V)(c:c23 V):c24 V:=⟨c,M_ V 0 [ng,nu,nr,ny,"_law_left","_law_right"] B.hp B.D23 zN λ_ _ _ _ _ _ _ U J g=>(qa (j6 (xc wR (L_ B.ba (J_ 1)) qi (w5 _)) (qe wI) zh) (qa (S_ 4 J (bz (J_ 1) (jl (qt xa (qv 3) (L_ B.ba (J_ 1)))))) (qa (S_ 5 J (bz (J_ 1) (jl (qt xa (qv 2) (L_ B.ba (J_ 1)))))) (qa (ze (zd (qv 0) (jl (zk (bD jd (qv 4) (qv 5)))))) (qa (ag1 (qv 1) qi (zk (bD jd (qt dD (L_ B.ba (qv 0)) qi) (J_ 1)))) (qe (ze (zd (J_ 1) (jl (qt dD (L_ B.ba (qv 0)) qi))))))))))⟩
abbrev c25(V:V_):Prop:=c24 V/\Q_ V 128 "_law_cut" [ng,nG,nr,ny] (o7)
theorem d25(V:V_)(B:B_ V)(c:c24 V):c25 V:=⟨c,M_ V 127 [ng,nG,nr,ny,"_law_first",nv,nq,"_law_second","_law_q",nE,"_law_end",nh,"_law_same",nL] B.hp B.D24 af3 λ_ _ _ _ _ _ _ U J g=>(qa (S_ 4 J (bz (qv 1) (jl (qt xa (qv 3) (L_ B.ba (qv 1)))))) (qa (bM (i:=5) J rfl (Or.inr rfl) (I_ (J_ 4) (qt xa (qt wn (qv 3) qi) (L_ B.ba (J_ 4))))) (qa (S_ 6 J (C_ c.1.1.1.1.1.2 U (k7 (qv 0) (qv 5)))) (qa (cX (zk (k7 dW dW)) (wm rfl (zg (G_ 7 J) (zg (gQ (i:=8) J rfl (Or.inr rfl)) vi)))) (qa (v9 As rfl (wq rfl B.bd (jl (L_ B.ba (qv 1)))) (G_ 9 J) (qe (v9 As rfl (k8 (I_ (I_ (qv 1) (qv 9)) qi)) (G_ 10 J) (qe (j6 (ft (mC (fP (qv 7)) (gN (E_ g (C_ c.1.1.1.1.1.2 U (k7 (qv 0) (qv 10))) (C_ c.1.1.1.1.2 U (jl (qv 6))))))) (qe (cX (zk (k7 (I_ (qv 1) (qv 9)) (qv 10))) (wm rfl (zg (G_ 7 J) (zg (gQ (i:=8) J rfl (Or.inr rfl)) vi))))) zh))))) (qa (j6 (ft (mC (fP (qv 7)) (gN (xc aa9 (C_ c.1.1.1.2 U (jl (qv 6))) qi (w5 _))))) (qa (ze (zd (qv 1) (jl (qv 4)))) (qe wI)) zh) (ai (j6 (fP (qv 7)) (qa (cX (C_ c.1.1.2 U (k7 (qv 0) (qv 6))) (aj7 rfl (zg (G_ 11 J) (zg (gQ (i:=8) J rfl (Or.inr rfl)) (zg (G_ 12 J) vi))))) (qe (S_ 7 J (za (k7 (qv 11) (za (k7 (qv 8) (qv 12)))))))) (qe (ze (ym g (qv 1) (jl (qv 7)))))) (qa (gG ["_law_x"] (i:=13) J rfl (Or.inl rfl) (EM (by rfl)) rfl (k8 (qt jx (J_ 4) (J_ 7))) (wc nd_ (λ_ _ _ _=>Or.inl rfl) (λ_ _ _ _=>rfl)) (λ_ _ _ _=>iM (xc (u8 _ _ _) (qv 14) (zk (k7 (qv 5) (qv 8))) (by with_unfolding_all rfl))) (λ_ _ _ _=>(qv 14))) (qe (j6 (E_ g (qt xa (qv 2) qi) qi) (qe (ze (zd (qv 1) (jl (za (k7 (zk (jt jd (jt (qv 5) (bD (qv 8) (J_ 4) (J_ 7))))) (qv 13))))))) (qe (ze (zd (qv 1) (jl (za (k7 (zk (jt jd (jt (qv 8) (bD (qv 5) (J_ 7) (J_ 4))))) (qv 13)))))))))))))))))⟩
abbrev c26(V:V_):Prop:=c25 V/\Q_ V 2 "_law_order" [ng,nj] (gm V.Pt)
theorem d26(V:V_)(B:B_ V)(c:c25 V):c26 V:=⟨c,T_ V 1 [ng,nj,"_law_ranks",nv,"_law_knot","_law_rank"] B.hp B.D25 yL λ_ _ _ _ _ _ _ C U J g=>(qa (bM (i:=2) J rfl (Or.inr rfl) (za jo)) (qa (v9 As rfl (eU rfl B.bf (qv 0)) (wm rfl (zg (G_ 3 J) (zg (G_ 4 J) vi))) (qa (S_ 5 J (qt xa (C_ c.1.1.1.1.1.1.1.1.2 U (bD (qv 1) (qv 3) qi)) qi)) (ai (j6 (E_ g (L_ B.ba (qv 4)) qi) (qe (S_ 5 J (qt jx (qt jx (qv 5) qi) (dR aho rfl B.bj acq (k7 (I_ (qv 2) (J_ 4)) (I_ (qv 2) (J_ 4))))))) zh) (qe (ze (zd (qv 2) (jl (qv 5)))))))) (qe (z0 (acz rfl B.bq (u9 rfl rfl B.bb rfl B.bd (L_ B.ba (qv 0))) ⟨rfl,rfl,rfl,by decide +kernel,rfl,rfl,by decide,by decide,by decide⟩ C (dp3 U) rfl rfl rfl ⟨_,rfl,rfl⟩ rfl (λ_ _ _ _ _ _ _=>rfl))))))⟩
abbrev c27(V:V_):Prop:=c26 V/\Q_ V 121 "_law_moved" [nh,nE] (cA 120)
theorem d27(V:V_)(B:B_ V)(c:c26 V):c27 V:=⟨c,R_ V 1 [nh,nE,"_law_places"] B.hp B.D26 aa8 aaw (λ_ _ J _ _ _ _ _ _ g j U=>(qa (j6 (E_ U (J_ 0) jd) (qe (z0 (zk (bD jd (dR ao3 rfl B.bu aij (k7 (cJ U (qv 1) (J_ 0) (λ_ _=>rfl)) (cJ U (qv 1) (J_ 0) (λ_ _=>rfl)))) (dR aho rfl B.bj acq (k7 (cJ U (qv 1) (J_ 0) (λ_ _=>rfl)) (cJ U (qv 1) (J_ 0) (λ_ _=>rfl)))))))) zh) (qa (gG ["_law_x"] (i:=2) j rfl (Or.inl rfl) (EM (by rfl)) rfl (adk (vk (iy _ _ _) (qv 0) (vo qi) aB)) (wc nd_ (λ_ _ _ _=>Or.inl rfl) (λ_ _ _ _=>rfl)) (λ_ _ _ _=>iM (cT (aE .int rfl B.bc rfl B.bh uN (qv 3)))) (λ_ _ _ _=>(cJ U (qv 1) (qv 3) (λ_ _=>rfl)))) (qe (z0 (w9 aer rfl B.bg fb (jl (qt jx (qt jx (za (jl (J_ 0))) (qv 2)) (lz ["_law_x"] (EM (by rfl)) rfl (adk (vk (iy _ _ _) (qv 0) (vo qi) aB)) (wc nd_ (λ_ _ _ _=>Or.inl rfl) (λ_ _ _ _=>rfl)) (λ_ _ _ _=>iM (cT (aE .tuple rfl B.bc rfl B.bg fb (qv 3)))) (λ_ _ _ _=>(C_ J g (k7 (qv 3) (qv 1))))))))))))) 120⟩
abbrev c28(V:V_):Prop:=c27 V/\Q_ V 122 nU [ng,nh,nj] (fN V.Pt)
theorem d28(V:V_)(B:B_ V)(c:c27 V):c28 V:=⟨c,M_ V 121 [ng,nh,nj,nE,"_law_made",nv,"_law_knot"] B.hp B.D27 uS λ_ _ _ _ _ _ _ g J U=>(qa (S_ 3 J pj) (qa (S_ 4 J (za jo)) (qa (v9 As rfl (k8 (C_ c.1.2 g (k7 (qv 0) (qv 2)))) (G_ 5 J) (qa (bF U (qv 3) (qv 5) (L_ B.ba (qv 4))) (qa (S_ 6 J (I_ (qv 0) (qv 5))) (qe (ze (zd (qv 4) (jl (dM (E_ U (L_ B.ba (qv 6)) qi) (qv 6) (zk (bD (J_ 6) (cJ U (qv 3) (J_ 6) (λ_ _=>rfl)) (cJ U (qv 3) (J_ 6) (λ_ _=>rfl)))))))))))) (qe (z0 (zk (k7 (qv 4) (C_ c.2 g (k7 (qv 1) (qv 3))))))))))⟩
abbrev c29(V:V_):Prop:=c28 V/\Q_ V 129 "_law_tree" ["_law_cells",nj,"_law_room"] (mJ V.Pt)
theorem d29(V:V_)(B:B_ V)(c:c28 V):c29 V:=⟨c,M_ V 128 ["_law_cells",nj,"_law_room",ng,nG,nI,nS,nr,ny,"_law_deed",nE] B.hp B.D28 adi λ_ _ _ _ _ _ _ J U g=>(qa (S_ 3 U (za jo)) (qa (S_ 4 U (za jo)) (qa (v9 As rfl (eU rfl B.bf (qv 0)) (wm rfl (zg (G_ 5 U) (zg (G_ 6 U) vi))) (qa (o0 (i:=7) (j:=8) rfl U rfl rfl (by decide) rfl rfl (k7 (C_ c.1.1.1.1.1.1.1.1.1.1.1.2 J (bD (qv 6) (qv 5) qi)) (C_ c.1.1.1.1.1.1.1.1.1.1.1.2 J (bD (qv 6) (qv 5) qi))) rfl) (qa (j6 (xc aa9 (qt jx (qt jx (L_ B.ba (qv 3)) (L_ B.ba (qv 4))) qi) (qv 2) (w5 _)) (qe tG) zh) (qa (S_ 9 U (qt xa (qv 7) qi)) (qa (S_ 7 U (qt wn (qv 7) qi)) (qe (j6 (ft (vE (xc wR (qv 9) qi (w5 _)) (pF (E_ g (qv 4) (za jo))))) (qa (ze (zd (qv 3) (jl (zk (k7 jd (C_ c.1.1.1.1.1.1.1.1.1.1.2 J (k7 (qv 1) (qt xa (qv 8) qi)))))))) (qa (ze (zd (qv 3) (jl (zk (k7 jd (C_ c.1.1.1.1.1.1.1.1.1.1.2 J (k7 (qv 1) (qt xa (qv 8) qi)))))))) (ai (j6 (E_ g (qt xa (qv 7) qi) qi) (qe (ze (zd (qv 3) (jl (bz (qv 3) (jl (qt dD (L_ B.ba (qv 3)) qi))))))) zh) (qa (S_ 10 U (qt dD (L_ B.ba (qv 3)) qi)) (qe (ze (zd (qv 4) (jl (za (k7 (zk (bD jd (qv 10) (qt jx (qv 10) qi))) (za (k7 (qv 10) (qt jx (qv 10) qi))))))))))))) (qe (j6 (xc wR (qv 9) qi (w5 _)) (qe (ze (C_ c.1.1.1.1.2 J (jt (qv 3) (bD (I_ (qv 4) (qt xa (qv 8) (L_ B.ba (qv 4)))) (qv 7) (qt wn (qv 8) qi)))))) (qe (j6 (ft (mC (xc wR (qv 9) qi (w5 _)) (gN (xc aa9 (L_ B.ba (qv 4)) qi (w5 _))))) (qe (ze (C_ c.1.1.1.1.1.2 J (jt (qv 3) (bD (qv 4) (qv 7) (qv 8)))))) (qe (ze (C_ c.1.1.1.2 J (jt (qv 3) (bD (qv 4) (qv 7) (qv 8))))))))))))))))) (ai (j6 (E_ g (qv 4) (za jo)) (qa (ze (zd (qv 3) (jl (zk (k7 jd (C_ c.1.1.1.1.1.1.1.1.1.1.2 J (k7 (qv 1) qi))))))) (qa (ze (zd (qv 3) (jl (zk (k7 jd (C_ c.1.1.1.1.1.1.1.1.1.1.2 J (k7 (qv 1) qi))))))) (qe (ze (zd (qv 4) (jl (za (k7 (zk (bD jd qi qi)) (za (k7 qi qi)))))))))) zh) (qa (aq As (xc aa9 (L_ B.ba (qv 4)) qi (w5 _)) (qe (ze (C_ c.1.1.1.1.1.2 J (jt (qv 3) (bD (qv 4) (qt jx (qt wn (qv 1) qi) (L_ B.ba (qv 4))) (qt wn (qv 1) qi))))))) (qe (z0 (C_ c.2 J (bD (qv 3) (I_ (J_ 4) qi) (qv 1))))))))))⟩
abbrev c30(V:V_):Prop:=c29 V/\Q_ V 1 "_law_arms" [nh] (aA)
theorem d30(V:V_)(B:B_ V)(c:c29 V):c30 V:=⟨c,M_ V 0 [nh] B.hp B.D29 abx λ_ _ _ _ _ _ _ U g J=>(qa (j6 (E_ J (J_ 0) jd) (qe (z0 (za (k7 (J_ 0) (J_ 0))))) zh) (qa (j6 (E_ J (J_ 0) jd) (qe (z0 (za jo))) zh) (qe (z0 (w9 aG rfl B.bb ku (jl (vk (iy _ _ _) (qv 0) (vo qi) aB)))))))⟩
abbrev c31(V:V_):Prop:=c30 V/\Q_ V 2 nQ [nh] (pQ)
theorem d31(V:V_)(B:B_ V)(c:c30 V):c31 V:=⟨c,M_ V 1 [nh,"_law_links","_law_cuts","_law_told",nM,nr] B.hp B.D30 af8 λ_ _ _ _ _ _ _ g U J=>(qa (cX (zk (jt (za jo) (bD (za jo) pj (za (jl (qv 0)))))) (wm rfl (zg (G_ 1 U) (zg (G_ 2 U) (zg (G_ 3 U) (zg (G_ 4 U) vi)))))) (qa (aq As (N_ J (qv 4) (za jo)) (qa (S_ 5 U (kK (qv 4))) (ai (j6 (E_ J (J_ 5) jd) (qa (ze (zd (qv 1) (jl (zk (k7 (J_ 5) (J_ 5)))))) (qa (bF J (qv 3) (J_ 5) aT) (qe (bF J (qv 3) (J_ 5) aT)))) (qe (j6 (E_ J (J_ 5) jd) (qe (ze (zd (qv 2) (jl (zk (k7 (J_ 5) (J_ 5))))))) (qe (bF J (qv 3) (J_ 5) aT))))) (qe (ze (ah (qv 4) (jl (C_ c.2 g (jl (qv 5)))))))))) (qe (z0 (zk (bD (qv 1) (qv 2) (qv 3)))))))⟩
abbrev c32(V:V_):Prop:=c31 V/\Q_ V 2 "_law_ends" [ng,nh] (gL)
theorem d32(V:V_)(B:B_ V)(c:c31 V):c32 V:=⟨c,M_ V 1 [ng,nh,"_law_told","_law_taken",nM,nr] B.hp B.D31 ady λ_ _ _ _ _ _ _ g U J=>(qa (cX (zk (bD (za jo) pj (za (jl (qv 1))))) (wm rfl (zg (G_ 2 U) (zg (gQ (i:=3) U rfl (Or.inr rfl)) (zg (G_ 4 U) vi))))) (qa (aq As (N_ J (qv 4) (za jo)) (qa (S_ 5 U (kK (qv 4))) (ai (j6 (E_ J (J_ 5) jd) (qe (ze (ah (qv 2) (jl (za (k7 (J_ 5) (J_ 5))))))) (qe (j6 (E_ J (J_ 5) jd) (qa (bF J (qv 3) (J_ 5) aT) (qe (bF J (qv 3) (J_ 5) aT))) (qa (ze (zd (qv 2) (jl (J_ 5)))) (qa (bF J (qv 3) (I_ (I_ (qv 0) (J_ 5)) qi) aT) (qe (bF J (qv 3) (I_ (I_ (qv 0) (J_ 5)) qi) aT))))))) (qe (ze (ah (qv 4) (jl (C_ c.1.2 g (jl (qv 5)))))))))) (qe (z0 (lz [nv] (EM (by rfl)) rfl (k8 (qv 2)) (wc nd_ (λ_ _ _ _=>Or.inl rfl) (λ_ _ _ _=>rfl)) (λ_ _ _ _=>iM (xc (aji J) (qv 6) (qv 3) (by with_unfolding_all rfl))) (λ_ _ _ _=>(qv 6)))))))⟩
abbrev c33(V:V_):Prop:=c32 V/\Q_ V 1 "_law_needs" [ng,nh,nF] (hE)
theorem d33(V:V_)(B:B_ V)(c:c32 V):c33 V:=⟨c,M_ V 0 [ng,nh,nF] B.hp B.D32 y0 λ_ _ _ _ _ _ _ U g J=>(qa (j6 (E_ J (J_ 1) jd) (qe (z0 (za (jl (I_ (qv 1) (qt jx qi (qv 2))))))) zh) (qa (j6 (E_ J (J_ 1) jd) (qe (z0 (za (jl (I_ (I_ (qv 0) (J_ 1)) (qt jx qi (qv 2))))))) zh) (qe (z0 (w9 aG rfl B.bb ku (jl (vk (iy _ _ _) (I_ (qv 0) (J_ 1)) (vo qi) aB)))))))⟩
abbrev c34(V:V_):Prop:=c33 V/\Q_ V 3 "_law_goes" [ng,nh,nF] (mP)
theorem d34(V:V_)(B:B_ V)(c:c33 V):c34 V:=⟨c,M_ V 2 [ng,nh,nF,"_law_inner","_law_needs_here",nI,"_law_below",nL] B.hp B.D33 abi λ_ _ _ _ _ _ _ J U g=>(qa (j6 (ft (vE (xc wR (qv 2) qi (w5 _)) (pF (xc aqp (qv 2) (L_ B.ba (C_ c.1.1.1.2 J (jl (qv 1)))) (w5 _))))) (qe (z0 dW)) zh) (qa (S_ 3 U (I_ (C_ c.1.1.1.2 J (jl (qv 1))) (qv 2))) (qa (S_ 4 U (C_ c.2 J (bD (qv 0) (qv 1) (qv 2)))) (qa (j6 (ft (mC (N_ g (J_ 3) jd) (gN (xc (ace _ _ _) (J_ 3) (qv 4) (by with_unfolding_all rfl))))) (qe (z0 dW)) zh) (qa (v9 As rfl (eU rfl B.bf (C_ c.1.1.1.2 J (jl (qv 3)))) (wm rfl (zg (G_ 5 U) (zg (G_ 6 U) vi))) (qa (bM (i:=7) U rfl (Or.inr rfl) (C_ c.1.2 J (k7 (qv 0) (qv 6)))) (qe (j6 (E_ g (lz [nv] (EM (by rfl)) rfl (k8 (qv 4)) (wc nd_ (λ_ _ _ _=>Or.inl rfl) (λ_ _ _ _=>rfl)) (λ_ _ _ _=>iM (xc (u8 _ _ _) (qv 8) (qv 7) (by with_unfolding_all rfl))) (λ_ _ _ _=>(qv 8))) (za jo)) (qe (z0 (qv 5))) zh)))) (qe (z0 dW)))))))⟩
abbrev c35(V:V_):Prop:=c34 V/\Q_ V 4 nR [ng,nh] (mK)
theorem d35(V:V_)(B:B_ V)(c:c34 V):c35 V:=⟨c,M_ V 3 [ng,nh,nN,nM,nJ,nr,nO,"_law_a"] B.hp B.D34 ab8 λ_ _ _ _ _ _ _ U J g=>(qa (o0 (i:=2) (j:=3) rfl J rfl rfl (by decide) rfl rfl (k7 (za jo) (za (jl (zk (k7 (za jo) (qv 1)))))) rfl) (qa (aq As (N_ g (qv 3) (za jo)) (qa (cX (kK (qv 3)) (wm rfl (zg (G_ 4 J) (zg (G_ 5 J) vi)))) (qa (S_ 6 J (C_ c.1.1.1.1.2 U (jl (qv 5)))) (qa (v9 As rfl (wq rfl B.bd (jl (L_ B.ba (qv 6)))) (G_ 7 J) (qe (j6 (wF (C_ c.2 U (bD (qv 0) (qv 5) (qv 7)))) (qe (ze (zd (qv 2) (jl (zk (k7 (qv 4) (qv 7))))))) zh))) (qe (v9 As rfl (af0 rfl B.bn rfl B.bd (jl (L_ B.ba (qv 6)))) (G_ 7 J) (qe (ze (zd (qv 3) (jl (zk (k7 (qt jx (qv 4) (za (jl (qv 7)))) (I_ (qv 6) (qv 7)))))))))))))) (qe (z0 (qv 2)))))⟩
abbrev c36(V:V_):Prop:=c35 V/\Q_ V 125 "_law_alike" [nN,"_law_due"] (be 124)
theorem d36(V:V_)(B:B_ V)(c:c35 V):c36 V:=⟨c,R_ V 1 [nN,"_law_due",nI] B.hp B.D35 yr yo (λ_ _ J _ _ _ _ _ _ g j U=>(qa (j6 (fP (qv 1)) (qe (z0 (alm (qv 0)))) zh) (qa (j6 (cT (aE .str rfl B.bc rfl B.bp abt (qv 1))) (qe (z0 (u4 (aE .str rfl B.bc rfl B.bp abt (qv 0)) (adq (cO (vB _ _ _ U) (qv 0) (qv 1) (w5 _)))))) zh) (qa (j6 (cT (aE .int rfl B.bc rfl B.bh uN (qv 1))) (qe (z0 (u4 (aE .int rfl B.bc rfl B.bh uN (qv 0)) (u4 (ajz (aE .bool rfl B.bc rfl B.bv ael (qv 0))) (adq (cO (vB _ _ _ U) (qv 0) (qv 1) (w5 _))))))) zh) (qa (j6 (ft (vE (N_ U (aE .list rfl B.bc rfl B.bb ku (qv 1)) (aE .list rfl B.bc rfl B.bb ku (qv 0))) (pF (N_ U (aE .tuple rfl B.bc rfl B.bg fb (qv 1)) (aE .tuple rfl B.bc rfl B.bg fb (qv 0)))))) (qe (z0 aT)) zh) (qa (j6 (N_ U (L_ B.ba (qv 0)) (L_ B.ba (qv 1))) (qe (z0 aT)) zh) (qa (v9 As rfl (wq rfl B.bd (jl (L_ B.ba (qv 1)))) (G_ 2 j) (qe (j6 (qB (cT (C_ J g (k7 (I_ (qv 0) (qv 2)) (I_ (qv 1) (qv 2)))))) (qe (z0 aT)) zh))) (qe (z0 aT))))))))) 124⟩
abbrev c37(V:V_):Prop:=c36 V/\Q_ V 2 "_law_ways" [nh] (jY)
theorem d37(V:V_)(B:B_ V)(c:c36 V):c37 V:=⟨c,M_ V 1 [nh,"_law_ways_here",nM,nJ,nr,nO,"_law_a"] B.hp B.D36 acr λ_ _ _ _ _ _ _ U J g=>(qa (o0 (i:=1) (j:=2) rfl J rfl rfl (by decide) rfl rfl (k7 (za jo) (za (jl (zk (k7 (za jo) (qv 0)))))) rfl) (qa (aq As (N_ g (qv 2) (za jo)) (qa (cX (kK (qv 2)) (wm rfl (zg (G_ 3 J) (zg (G_ 4 J) vi)))) (qa (ze (zd (qv 1) (jl (qv 3)))) (qa (S_ 5 J (C_ c.1.1.1.1.1.1.2 U (jl (qv 4)))) (qe (v9 As rfl (wq rfl B.bd (jl (L_ B.ba (qv 5)))) (G_ 6 J) (qe (ze (zd (qv 2) (jl (zk (k7 (qt jx (qv 3) (za (jl (qv 6)))) (I_ (qv 5) (qv 6)))))))))))))) (qe (z0 (qv 1)))))⟩
abbrev c38(V:V_):Prop:=c37 V/\Q_ V 1 nV [nH] (pX)
theorem d38(V:V_)(B:B_ V)(c:c37 V):c38 V:=⟨c,M_ V 0 [nH,nJ,nI] B.hp B.D37 afo λ_ _ _ _ _ _ _ U J g=>(qa (S_ 1 J (za jo)) (qa (v9 As rfl (wq rfl B.bd (jl (qt xa (qv 0) qi))) (G_ 2 J) (qa (S_ 0 J (qt xa (qt i6 (qv 0) qi) qi)) (qe (ze (zd (qv 1) (jl (wG (jt qi (jt qi (jt qi (jt qi (bD qi (mm mv qi) qi))))) (qt xa (qv 0) qi) (aka (aal _) (akt _)) (λ_ _=>rfl)))))))) (qe (z0 (qv 1)))))⟩
abbrev c39(V:V_):Prop:=c38 V/\Q_ V 127 nW [nu,nJ,nF] (cM)
theorem d39(V:V_)(B:B_ V)(c:c38 V):c39 V:=⟨c,M_ V 126 [nu,nJ,nF,"_law_refused_here"] B.hp B.D38 (tf B.xf) λ_ _ _ _ _ _ _ U J g=>(qa (S_ 3 J aT) (qa (afb rfl rfl rfl rfl B.md (agd (c.1.1.1.1.1.1.1.1.1.1.1.1.1.1.1.1.1.1.1.1.1.1.1.1.2.mono (by decide)) U rfl rfl (λ_ _=>(bD (qv 0) (qv 1) (qv 2)))) (λ_=>(qe (S_ 3 J aT)))) (qe (z0 (qv 3)))))⟩
abbrev c40(V:V_):Prop:=c39 V/\Q_ V 2 "_law_within" [nh,nH] (hU)
theorem d40(V:V_)(B:B_ V)(c:c39 V):c40 V:=⟨c,M_ V 1 [nh,nH,nO] B.hp B.D39 yT λ_ _ _ _ _ _ _ U J g=>(qa (aq As (ft (mC (N_ g (C_ c.1.1.1.1.1.1.1.1.1.2 U (jl (qv 0))) (za jo)) (gN (xc aa9 (qt xa (qv 1) qi) qi (w5 _))))) (qa (S_ 2 J (C_ c.1.1.1.1.1.1.1.1.1.2 U (jl (qv 0)))) (qa (S_ 0 J (I_ (qv 2) (qt xa (qt wn (qv 1) qi) (L_ B.ba (qv 2))))) (qe (S_ 1 J (qt xa (qt i6 (qv 1) qi) qi)))))) (qe (z0 (qv 0))))⟩
abbrev c41(V:V_):Prop:=c40 V/\Q_ V 3 "_law_part" [ng,nh,nj] (kI)
theorem d41(V:V_)(B:B_ V)(c:c40 V):c41 V:=⟨c,M_ V 2 [ng,nh,nj,"_law_told"] B.hp B.D40 adj λ_ _ _ _ _ _ _ J U g=>(qa (j6 (N_ g (qt xa (qt wn (qv 2) qi) qi) qi) (qe (z0 (zk (k7 (qv 0) (qv 1))))) zh) (qa (S_ 1 U (C_ c.2 J (k7 (qv 1) (qt xa (qt i6 (qv 2) qi) qi)))) (qa (bM (i:=3) U rfl (Or.inr rfl) (I_ (C_ c.1.1.1.1.1.1.1.1.1.2 J (jl (qv 1))) qi)) (qe (z0 (zk (k7 (lz [nv] (EM (by rfl)) rfl (wq rfl B.bd (jl (L_ B.ba (qv 0)))) (wc nd_ (λ_ _ _ _=>Or.inl rfl) (λ_ _ _ _=>rfl)) (λ_ _ _ _=>l8) (λ_ _ _ _=>(dM (xc (amd g) (qv 4) (qv 3) (by with_unfolding_all rfl)) (I_ (qv 0) (qv 4)) dW))) (qv 1))))))))⟩
theorem dL(V:V_)(B:B_ V)(c:c41 V){f:Addr}{fd:FuncData}(F:Fun V.K "law" "law" rY f fd):Fn3 V.P V.w V.K V.mg V.base 130 f fd [nK] (pV V.Pt lamQ):=
 W_ V 129 [nK,nj,ng,nh,nu,"_law_due",nN,nJ,nF,nI,nS,nH] F aas λ_ _ _ _ _ _ U J g=>(qa (S_ 1 J (qt xa (I_ (qt (ake _ _ _) (qv 0) (za (jl qi))) qi) (qt am4 qi qi))) (qa (cX (C_ c.1.1.1.1.1.1.1.1.1.1.1.1.2 U (bD (vk (sX _ _ _) (qv 0) (vo qi) aB) (qv 1) qi)) (wm rfl (zg (G_ 2 J) (zg (G_ 3 J) vi)))) (qa (cX (C_ c.2 U (bD (qv 2) (qv 3) (qv 1))) (wm rfl (zg (G_ 2 J) (zg (G_ 3 J) vi)))) (qa (S_ 4 J (zk (k7 (w9 aG rfl B.bb ku (jl (qv 2))) (qv 3)))) (qa (S_ 5 J (C_ c.1.1.1.1.1.1.2 U (k7 (qv 2) (qv 3)))) (qa (S_ 6 J (C_ c.1.1.1.1.1.1.1.1.1.1.1.1.1.1.1.1.1.1.1.1.1.1.1.1.1.2 U (jl (qv 4)))) (qa (j6 (qB (cT (C_ c.1.1.1.1.1.2 U (k7 (qv 6) (qv 5))))) (qe (z0 aT)) zh) (qa (ze (zd (qv 6) (jl (zk (k7 (za (jl qi)) qi))))) (qa (ze (zd (I_ (J_ 6) qi) (jl qi))) (qa (j6 (qB (cT (C_ c.1.1.1.1.1.2 U (k7 (C_ c.1.1.1.1.1.1.1.1.1.1.1.1.1.1.1.1.1.1.1.1.1.1.1.1.1.2 U (jl (qv 4))) (qv 5))))) (qe (z0 aT)) zh) (qa (v9 As rfl (k8 (C_ c.1.1.1.1.2 U (jl (qv 3)))) (G_ 7 J) (qe (v9 As rfl (k8 (za (jt (mm mv qi) (bD qi qi qi)))) (G_ 8 J) (qe (j6 (E_ g (C_ c.1.1.2 U (bD (qv 4) (w9 aG rfl B.bb ku (jl (qv 7))) (qv 8))) (cO (ahz g) (zk (k7 (qv 7) (qv 8))) (qv 5) (by with_unfolding_all rfl))) (qe (z0 aT)) zh))))) (qa (v9 As rfl (eU rfl B.bf (vk (sX _ _ _) (qv 0) aB (vo qi))) (wm rfl (zg (G_ 9 J) (zg (G_ 10 J) vi))) (qa (S_ 11 J (C_ c.1.1.1.1.1.1.1.1.1.1.1.1.1.1.1.1.1.1.1.1.1.1.1.1.2 U (bD (qv 10) (qv 9) qi))) (qa (S_ 7 J (C_ c.1.1.1.2 U (jl (qv 11)))) (qa (S_ 8 J (wG (jt qi (jt qi (jt qi (bD qi (mm mv qi) qi)))) (qt xa (qt wn (qv 11) qi) qi) (aka (aka (aal _) (akt _)) (akt _)) (λ_ _=>rfl))) (qe (j6 (E_ g (C_ c.1.1.2 U (bD (qv 4) (w9 aG rfl B.bb ku (jl (qv 7))) (qv 8))) (cO (ahz g) (zk (k7 (qv 7) (qv 8))) (qv 5) (by with_unfolding_all rfl))) (qe (z0 aT)) zh)))))) (qe (z0 (cO (vB _ _ _ g) (J_ 4) (qv 2) (w5 _))))))))))))))))
theorem all_mk{l:PySem.W.OpenLaw}{w:World}{K:Af}{h:Heap}{mg:Str->Option Value}{fa:Addr}{U:Addr}{a3:Option Addr}{a4:Nat}{a5:Array (Option Value)}{a1 a2:Tok}{J:Addr}{T:Nat}{g j o p r t C I:Tok}{Ca:Addr}{Pt:Addr}(X:K.In h)(G:h.Ns mainGlobals mg)(ag:mg "law"=some (.ref fa))
 (D0:zb K "is_leaf" nX)
 (D1:zb K "parts_of" l9)
 (D2:zb K "places_of" i5)
 (D3:zb K "arms_of" mw)
 (D4:zb K "rules_in" kA)
 (D5:zb K "told_by" oR)
 (D6:zb K "taken_by" mF)
 (D7:zb K "with_arm" kO)
 (D8:zb K "all_told" kD)
 (D9:zb K "arm_that_tells" bT)
 (D10:zb K "turned_out" g0)
 (D11:zb K "arm_at" ra)
 (D12:zb K "rules_along" fC)
 (D13:zb K "exchanged" ie)
 (D14:zb K "rules_by_way" dP)
 (D15:zb K "exchanges_of" db)
 (D16:zb K "_law_mix" lX)
 (D17:zb K "_law_name" iq)
 (D18:zb K "_law_word" iu)
 (D19:zb K "_law_flip" i4)
 (D20:zb K "_law_weight" fI)
 (D21:zb K "_law_mirror" fB)
 (D22:zb K "_law_join" im)
 (D23:zb K "_law_fold" ig)
 (D24:zb K "_law_cut" kM)
 (D25:DefInT K "_law_order" s__law_order Pt)
 (D26:zb K "_law_moved" gK)
 (D27:zb K nU dN)
 (D28:zb K "_law_tree" iW)
 (D29:zb K "_law_arms" jB)
 (D30:zb K nQ cw)
 (D31:zb K "_law_ends" iV)
 (D32:zb K "_law_needs" gM)
 (D33:zb K "_law_goes" iw)
 (D34:zb K nR cr)
 (D35:zb K "_law_alike" gB)
 (D36:zb K "_law_ways" iZ)
 (D37:zb K nV dO)
 (D38:zb K nW dQ)
 (D39:zb K "_law_within" fE)
 (D40:zb K "_law_part" iR)
 (D41:zb K "law" rY)
 (aLEAF_KINDS:PySem.W.nsIn K mainGlobals "LEAF_KINDS"=some (some (.ref U)))
 (lLEAF_KINDS:K.lookup U=some ⟨.type "tuple",a3,.seq #[.str "plain" a1,.str "turned" a2] a4,a5⟩)
 (aPLACE_COUNTS:PySem.W.nsIn K mainGlobals "PLACE_COUNTS"=some (some (.ref J)))
 (lPLACE_COUNTS:K.lookup J=some ⟨.type "dict",none,.dict ((([("link",g,2,r),("either",j,1,t),("both",o,1,C),("cut",p,2,I)]:List (Str×Tok×Int×Tok)).map (afg w)).toArray) T,#[]⟩)
 (hPLACE_COUNTS:(J==sysModules)=false)
 (aCNoExchange:PySem.W.nsIn K mainGlobals "NoExchange"=some (some (.ref Ca)))
 (qCNoExchange:PySem.W.excIn K Ca [.type "ValueError",.type "Exception",.type "BaseException",.type "object"] "ValueError.__new__"=true)
 (xf:L3.XF62 K Ca)
 (zlist:PySem.W.nsIn K mainGlobals "list"=some none)
 (zenumerate:PySem.W.nsIn K mainGlobals "enumerate"=some none)
 (zall:PySem.W.nsIn K mainGlobals "all"=some none)
 (zlen:PySem.W.nsIn K mainGlobals "len"=some none)
 (zzip:PySem.W.nsIn K mainGlobals "zip"=some none)
 (zreversed:PySem.W.nsIn K mainGlobals "reversed"=some none)
 (zrange:PySem.W.nsIn K mainGlobals "range"=some none)
 (zmax:PySem.W.nsIn K mainGlobals "max"=some none)
 (zsorted:PySem.W.nsIn K mainGlobals "sorted"=some none)
 (zmin:PySem.W.nsIn K mainGlobals "min"=some none)
 (zisinstance:PySem.W.nsIn K mainGlobals "isinstance"=some none)
 (zint:PySem.W.nsIn K mainGlobals "int"=some none)
 (ztuple:PySem.W.nsIn K mainGlobals "tuple"=some none)
 (zstr:PySem.W.nsIn K mainGlobals "str"=some none)
 (zbool:PySem.W.nsIn K mainGlobals "bool"=some none):
 ∃fd:FuncData,(∀(s:Shared) (v:Value),BindsTo s fd ⟨[v],[]⟩ [(nK,v)])/\∀base:Heap,K.In base->base.Ns mainGlobals mg->ar l.prog w K mg base CX0 130 fa fd [nK] (spTopT lamQ K Pt):=by
 obtain⟨fL,kV,al,pm,an,au,ct,aL,FL⟩:=D41.ex;have e:=ag.symm.trans (Ck X G aL);cases e;refine⟨PySem.W.fnOf "law" "law" (xx rY) (ji rY) (qy rY) .none kV al pm an au ct,λs v=>.of_eq rfl,λbase _ _=>?_⟩;have B:B_ ⟨l.prog,w,K,mg,base,Pt,Ca⟩:=⟨⟨h,X,G⟩,A8 X G zlist,A8 X G zenumerate,A8 X G zall,A8 X G zlen,A8 X G zzip,A8 X G zreversed,A8 X G zrange,A8 X G zmax,A8 X G zsorted,A8 X G zmin,A8 X G zisinstance,A8 X G zint,A8 X G ztuple,A8 X G zstr,A8 X G zbool,D0,D1,D2,D3,D4,D5,D6,D7,D8,D9,D10,D11,D12,D13,D14,D15,D16,D17,D18,D19,D20,D21,D22,D23,D24,D25,D26,D27,D28,D29,D30,D31,D32,D33,D34,D35,D36,D37,D38,D39,D40,⟨U,Ck X G aLEAF_KINDS,λH=>⟨U,[V.str "plain",V.str "turned"],rfl,.inr ⟨_,_,_,lLEAF_KINDS,rfl,rfl,by show 2<=sizeLine;decide,.cons ⟨_,rfl⟩ (.cons ⟨_,rfl⟩ (.nil))⟩,⟨_,_,rfl,rfl,⟨_,_,rfl,rfl,rfl⟩⟩⟩⟩,⟨J,Ck X G aPLACE_COUNTS,ak2 _ lPLACE_COUNTS hPLACE_COUNTS (by show 4<=1000;decide) (by show List.Nodup ([Sum.inr "link",Sum.inr "either",Sum.inr "both",Sum.inr "cut"]:List jg);decide +kernel)⟩,Ck X G aCNoExchange,ug qCNoExchange,xf⟩;exact ar.imp (dL _ B (d41 _ B (d40 _ B (d39 _ B (d38 _ B (d37 _ B (d36 _ B (d35 _ B (d34 _ B (d33 _ B (d32 _ B (d31 _ B (d30 _ B (d29 _ B (d28 _ B (d27 _ B (d26 _ B (d25 _ B (d24 _ B (d23 _ B (d22 _ B (d21 _ B (d20 _ B (d19 _ B (d18 _ B (d17 _ B (d16 _ B (d15 _ B (d14 _ B (d13 _ B (d12 _ B (d11 _ B (d10 _ B (d9 _ B (d8 _ B (d7 _ B (d6 _ B (d5 _ B (d4 _ B (d3 _ B (d2 _ B (d1 _ B trivial))))))))))))))))))))))))))))))))))))))))) FL) λvs H Q E q=>ag0 q
theorem def_inT{K:Af}{x:Str}{st:Stmt}{f Pt:Addr}{oc:Value}{od an:Option Addr}{sm:Array (Option Value)}{kV hQ pm fx ct:Value}(a:PySem.W.nsIn K mainGlobals x=some (some (.ref f)))
 (l:K.lookup f=some ⟨oc,od,.func (PySem.W.fnOf x x (xx st) (ji st) (qy st) .none kV hQ pm an fx ct),sm⟩) (c:PySem.W.codeIn K fx x=true) (k:PySem.W.keepIn K (.ref f)=true) (C:xG K fx Pt):DefInT K x st Pt:=
 ⟨f,kV,hQ,pm,an,fx,ct,a,⟨⟨oc,od,kV,hQ,pm,an,fx,ct,sm,rfl,l,c,C⟩,k⟩⟩
end K62
namespace H62
noncomputable section
open PySem PySem.W PySem.W.X L2 L3 PyProof.Rows
abbrev rr:=PySem.Challenge.rw_oncewise_k62_exchanges_listed
abbrev p:Program:=PySem.Challenge.pw_oncewise_k62_exchanges_listed
abbrev top:=K62.top
abbrev s(x:String):Str:=Str.ofString x
noncomputable abbrev S (x:String) (t:Tok):Value:=.str (Str.ofString x) t
noncomputable abbrev I (i:Int) (t:Tok):Value:=.int i t
noncomputable abbrev R (a:Addr):Value:=.ref a
abbrev E(P:Params)(k:String)(t:Tok)(v:Value):DictEntry:=⟨PyData.keyHash P (Str.ofString k),.str (Str.ofString k) t,v⟩
noncomputable abbrev O (c:Value) (d:Data):Obj:=⟨c,none,d,#[]⟩
abbrev FN(n q:String)(st:Stmt)(J kV hQ pm:Value)(an:Option Addr)(cd ct:Value):FuncData:=fnOf (Str.ofString n) (Str.ofString q) (xx st) (ji st) (qy st) J kV hQ pm an cd ct
abbrev FG(n q:String)(st:Stmt):FuncData:={ fnOf (Str.ofString n) (Str.ofString q) (xx st) (ji st) (qy st) .none .none .none .none none .none .none with globals:=0 }
abbrev tu(l:Array Value):Obj:=O (.type "tuple") (.seq l 0)
abbrev fo(f:FuncData):Obj:=O (.type "function") (.func f)
abbrev go(f:FuncData):Obj:=O .none (.func f)
abbrev co(n q:String)(t l a b c fl v:Nat)(o:Bool)(m k:Nat)(x y z u:Value)(d:Nat):Obj:=O (.type "code") (.fields #[S n t,S q (t+1),S "/claim/cut.py" (t+2),I l 0,I a 0,I b 0,I c 0,I fl 0,R v,.bool o,I m 0,R k,x,y,z,u,I d 0,I l 0,S "/claim/cut.py" (d+1)])
abbrev f9:Value:=S "law_oncewise_k62_exchanges_listed" 382
abbrev m1_:Value:=S "oncewise.exchanging" 295
abbrev m2_:Value:=S "oncewise.trees" 244
abbrev fX(n:String)(i:Nat)(m:Value)(r:Nat):Obj:=fo (FN n n (top i) .none .none .none m none (R r) .none)
abbrev gX(n:String)(i:Nat):Obj:=go (FG n n (top i))
abbrev cF(n:String)(t l a v d:Nat):Obj:=co n n t l a 0 0 3 v true 181 (v+1) .none (R (v+2)) (R (v+3)) (R (v+4)) d
abbrev cC(n:String)(t l v d:Nat):Obj:=co n n t l 0 0 0 0 v false 181 (v+1) .none .none .none .none d
abbrev cS(n:String)(a J k t v:Nat):Obj:=⟨.type "type",none,.cls (ClassData.mk (s n) [R 24] [R a,R 24,.type "ValueError",.type "Exception",.type "BaseException",.type "object"] J (s n) true [] [] false none false),#[some (R k),none,some (S n t),some (S n v),some (.builtin "ValueError.__new__"),some (.bool true)]⟩
abbrev dA(P:Params)(a b:Nat)(l:Int)(c d r e:Nat):Obj:=O (.type "dict") (.dict #[E P "__module__" a (S "oncewise.errors" 187),E P "__firstlineno__" b (I l c),E P "__static_attributes__" d (R r),E P "__doc__" e .none] 2)
abbrev dB(P:Params)(a q:Nat)(n:String)(J b:Nat)(l:Int)(c d r:Nat):Obj:=O (.type "dict") (.dict #[E P "__module__" a (S "oncewise.errors" 187),E P "__qualname__" q (S n J),E P "__firstlineno__" b (I l c),E P "__static_attributes__" d (R r)] 4)
abbrev fR(a b:Nat):Obj:=⟨.type "frame",none,.plain,#[some (R a),some (R 3),some (R b),none,some (S "oncewise.errors" 187),none,some (R 0)]⟩
abbrev bI(a:Nat):Obj:=O (.type "builtin_function_or_method") (.fields #[.builtin "object.__init_subclass__",R a])
abbrev sU(a:Nat):Obj:=O (.type "super") (.fields #[R a,R a,R a])
abbrev Ob:=Params->Obj
def ev{α:Type}:Bool->List α->List α
 |_,[]=>[]
 |true,x::r=>x::ev false r
 |false,_::r=>ev true r
def bt:Nat->List Obj->BT
 |0,_=>.nil
 |_,[]=>.nil
 |n+1,x::r=>.node x (bt n (ev true r)) (bt n (ev false r))
def env0:Env:={ scope:=p.main.scope,locals:=mainNs,globals:=mainNs,cells:=[],code:=.ref 13,frame:=some 14 }
abbrev cE:Code:=.body (behindTheImports p) env0
abbrev q0:Pos:=⟨0,0,0,0⟩
abbrev an:Option Value:=some (.ref 6)
abbrev Pc(n:Nat)(S J:World->OsState->SharedT)(l:List Stmt)(q U:Pos)(w:World):Prop:=(λos=>segRunT treeTable p w 11 an 1 n (S w os) (piecesOf l env0 cE q [topFrame q0]))=λos=>some (Flow.next,J w os,cE,U)
abbrev b0:=PySem.W.boot_o_0
abbrev b1:=PySem.W.boot_o_1
abbrev b2:=PySem.W.boot_o_2
abbrev b3:=PySem.W.boot_o_3
abbrev b4:=PySem.W.boot_o_4
abbrev b5:=PySem.W.boot_o_5
abbrev b6:=PySem.W.boot_o_6
abbrev b7:=PySem.W.boot_o_7
abbrev b8:=PySem.W.boot_o_8
abbrev b9:=PySem.W.boot_o_9
abbrev b10:=PySem.W.boot_o_10
def jp:Ob:=λ_=>tu #[]
def ky:Ob:=λ_=>O .none (.fields #[])
def xac:Ob:=λ_=>cC "<module>" 182 1 11 185
def xad:Ob:=λ_=>⟨(.type "frame"),none,.plain,#[(some (R 13)),(some (R 3)),(some (R 3)),none,(some (S "__main__" 164)),none,(some (R 0))]⟩
def xaf:Ob:=λ_=>tu #[(.type "ValueError")]
def xag:Ob:=λP=>O (.type "dict") (.dict #[(E P "__module__" 196 (S "oncewise.errors" 187)),(E P "__firstlineno__" 200 (I 2 199)),(E P "__static_attributes__" 201 (R 22)),(E P "__weakref__" 203 (R 25)),(E P "__doc__" 204 .none)] 3)
def xah:Ob:=λ_=>bI 24
def xai:Ob:=λP=>dB P 196 198 "OnceError" 197 200 2 199 201 22
def xaj:Ob:=λ_=>O (.type "getset_descriptor") (.fields #[S "__weakref__" 202,R 24,(.builtin "ExceptionGroup.__weakref__"),.none])
def xak:Ob:=λ_=>fR 20 17
def xal:Ob:=λ_=>O (.type "builtin_function_or_method") (.fields #[(.builtin "type.__prepare__"),(.type "type")])
def xao:Ob:=λ_=>cC "OnceError" 191 2 18 194
def xap:Ob:=λ_=>sU 24
def xar:Ob:=λ_=>fo (FN "is_leaf" "is_leaf" (top 5) .none .none .none (S "oncewise.words" 223) none (R 46) .none)
def xas:Ob:=λ_=>bI 37
def xat:Ob:=λP=>O (.type "dict") (.dict #[(E P "link" 246 (I 2 247)),(E P "either" 248 (I 1 249)),(E P "both" 250 (I 1 251)),(E P "cut" 252 (I 2 253))] 4)
def xau:Ob:=λ_=>tu #[S "word" 231]
def xav:Ob:=λ_=>cC "NoExchange" 209 4 31 212
def xaw:Ob:=λ_=>cS "NoExchange" 37 36 28 207 215
def xax:Ob:=λ_=>cF "parts_of" 237 11 1 48 241
def xay:Ob:=λ_=>gX "is_leaf" 5
def xaz:Ob:=λ_=>⟨(.type "type"),none,(.cls (ClassData.mk (s "OnceError") [(.type "ValueError")] [R 24,(.type "ValueError"),(.type "Exception"),(.type "BaseException"),(.type "object")] 23 (s "OnceError") true [] [R 37] false none false)),#[(some (R 15)),none,(some (S "OnceError" 189)),(some (S "OnceError" 197)),(some (.builtin "ValueError.__new__")),(some (.bool true))]⟩
def xa0:Ob:=λ_=>tu #[S "plain" 225,S "turned" 226]
def xa2:Ob:=λP=>dA P 214 218 4 217 219 35 220
def xa3:Ob:=λ_=>gX "parts_of" 7
def xa4:Ob:=λ_=>tu #[R 24]
def xa5:Ob:=λ_=>fR 33 30
def xa6:Ob:=λ_=>tu #[S "knot" 240]
def xa7:Ob:=λ_=>sU 37
def xa8:Ob:=λ_=>fo (FN "parts_of" "parts_of" (top 7) .none .none .none (S "oncewise.webs" 235) none (R 53) .none)
def xa9:Ob:=λP=>dB P 214 216 "NoExchange" 215 218 4 217 219 35
def xba:Ob:=λ_=>cF "is_leaf" 228 8 1 41 232
def xbc:Ob:=λ_=>cF "rules_along" 342 63 2 122 349
def xbd:Ob:=λ_=>fX "with_arm" 16 m1_ 94
def xbe:Ob:=λ_=>tu #[S "rule" 285]
def xbf:Ob:=λ_=>fX "exchanged" 22 m1_ 134
def xbg:Ob:=λ_=>co "taken_by" "taken_by" 289 28 2 0 0 3 84 true 181 85 .none .none .none (R 86) 292
def xbh:Ob:=λ_=>gX "arm_at" 20
def xbi:Ob:=λ_=>gX "arms_of" 11
def xbj:Ob:=λ_=>tu #[S "tree" 355,S "way" 356,S "arm" 357,S "along" 358,S "rule" 359,S "number" 360,S "outer" 361]
def xbk:Ob:=λ_=>fX "told_by" 13 m2_ 82
def xbl:Ob:=λ_=>cF "rules_in" 273 21 1 70 279
def xbm:Ob:=λ_=>co "rules_by_way" "rules_by_way" 365 77 1 0 0 3 136 true 181 137 .none .none .none (R 138) 368
def xbn:Ob:=λ_=>fX "arm_that_tells" 18 m1_ 106
def xbo:Ob:=λ_=>tu #[S "rule" 300,S "number" 301,S "arm" 302,S "at" 303]
def xbp:Ob:=λ_=>tu #[S "rule" 269]
def xbq:Ob:=λ_=>gX "told_by" 13
def xbr:Ob:=λ_=>cF "turned_out" 322 52 3 108 330
def xbs:Ob:=λ_=>gX "arm_that_tells" 18
def xbt:Ob:=λ_=>fX "arm_at" 20 m1_ 120
def xbu:Ob:=λ_=>fX "arms_of" 11 m2_ 68
def xbv:Ob:=λ_=>gX "exchanged" 22
def xbw:Ob:=λ_=>cF "all_told" 307 41 1 96 313
def xbx:Ob:=λ_=>tu #[S "rule" 336,S "number" 337,S "arms" 338]
def xby:Ob:=λ_=>cF "places_of" 259 17 1 56 263
def xbz:Ob:=λ_=>gX "with_arm" 16
def xb0:Ob:=λ_=>fX "rules_along" 21 m1_ 127
def xb1:Ob:=λ_=>gX "turned_out" 19
def xb2:Ob:=λ_=>tu #[S "rule" 276,S "rules" 277,S "arm" 278]
def xb3:Ob:=λ_=>fX "taken_by" 14 m2_ 87
def xb4:Ob:=λ_=>cF "arm_at" 333 58 2 115 339
def xb6:Ob:=λ_=>cF "arms_of" 266 19 1 63 270
def xb7:Ob:=λ_=>gX "all_told" 17
def xb8:Ob:=λ_=>fX "rules_in" 12 m2_ 75
def xb9:Ob:=λ_=>fX "rules_by_way" 23 m1_ 139
def xca:Ob:=λ_=>gX "places_of" 10
def xcb:Ob:=λ_=>tu #[S "rule" 345,S "way" 346,S "along" 347,S "number" 348]
def xcc:Ob:=λ_=>tu #[S "rule" 310,S "places" 311,S "inner" 312]
def xcd:Ob:=λ_=>cF "told_by" 282 26 1 77 286
def xce:Ob:=λ_=>fX "turned_out" 19 m1_ 113
def xcf:Ob:=λ_=>gX "rules_in" 12
def xcg:Ob:=λ_=>gX "rules_by_way" 23
def xch:Ob:=λ_=>co "arm_that_tells" "arm_that_tells" 316 46 2 0 0 3 103 true 181 104 .none .none .none (R 105) 319
def xci:Ob:=λ_=>tu #[S "rule" 262]
def xcj:Ob:=λ_=>cF "exchanged" 352 68 3 129 362
def xck:Ob:=λ_=>fX "all_told" 17 m1_ 101
def xcl:Ob:=λ_=>gX "taken_by" 14
def xcm:Ob:=λ_=>tu #[S "knots" 325,S "rule" 326,S "arm" 327,S "inner" 328,S "number" 329]
def xcn:Ob:=λ_=>fX "places_of" 10 m2_ 61
def xco:Ob:=λ_=>cF "with_arm" 297 38 3 89 304
def xcp:Ob:=λ_=>gX "rules_along" 21
def xcr:Ob:=λ_=>co "_law_join" "_law_join" 437 133 4 0 0 3 188 true 181 189 .none .none .none (R 190) 440
def xcs:Ob:=λ_=>fX "_law_name" 27 f9 158
def xcv:Ob:=λ_=>fX "_law_fold" 33 f9 198
def xcw:Ob:=λ_=>co "_law_moved" "_law_moved" 473 179 2 0 0 3 212 true 181 213 .none .none .none (R 214) 476
def xcz:Ob:=λ_=>fX "exchanges_of" 24 m1_ 146
def xc0:Ob:=λ_=>fX "_law_order" 35 f9 210
def xc1:Ob:=λ_=>cF "_law_weight" 416 116 1 174 420
def xc2:Ob:=λ_=>co "_law_cut" "_law_cut" 455 149 4 0 0 3 200 true 181 201 .none .none .none (R 202) 458
def xc4:Ob:=λ_=>fX "_law_mirror" 31 f9 186
def xc8:Ob:=λ_=>cF "_law_mix" 384 95 3 148 390
def xdb:Ob:=λ_=>cF "_law_word" 399 106 2 160 405
def xdc:Ob:=λ_=>fX "_law_flip" 29 f9 172
def xde:Ob:=λ_=>fX "_law_join" 32 f9 191
def xdi:Ob:=λ_=>fX "_law_moved" 36 f9 215
def xdl:Ob:=λ_=>fX "_law_weight" 30 f9 179
def xdm:Ob:=λ_=>fX "_law_cut" 34 f9 203
def xdn:Ob:=λ_=>cF "_law_flip" 408 111 1 167 413
def xdp:Ob:=λ_=>cF "exchanges_of" 371 87 1 141 379
def xdq:Ob:=λ_=>cF "_law_order" 461 171 2 205 470
def xdt:Ob:=λ_=>fX "_law_mix" 26 f9 153
def xdu:Ob:=λ_=>cF "_law_mirror" 423 120 2 181 434
def xdv:Ob:=λ_=>cF "_law_fold" 443 141 4 193 452
def xdw:Ob:=λ_=>fX "_law_word" 28 f9 165
def xdz:Ob:=λ_=>co "_law_name" "_law_name" 393 97 2 0 0 3 155 true 181 156 .none .none .none (R 157) 396
def xd2:Ob:=λ_=>cF "_law_needs" 534 256 3 250 540
def xd4:Ob:=λ_=>fX "_law_renamed" 37 f9 222
def xd6:Ob:=λ_=>cF "_law_possible" 589 291 2 290 600
def xea:Ob:=λ_=>cF "_law_gathered" 516 227 1 238 525
def xei:Ob:=λ_=>fX "_law_ends" 41 f9 248
def xej:Ob:=λ_=>fX "_law_goes" 43 f9 260
def xek:Ob:=λ_=>cF "_law_tree" 492 192 3 224 506
def xel:Ob:=λ_=>fX "_law_arms" 39 f9 236
def xeo:Ob:=λ_=>fX "_law_needs" 42 f9 255
def xes:Ob:=λ_=>fX "_law_possible" 48 f9 295
def xeu:Ob:=λ_=>co "_law_ends" "_law_ends" 528 241 2 0 0 3 245 true 181 246 .none .none .none (R 247) 531
def xew:Ob:=λ_=>co "_law_goes" "_law_goes" 543 262 3 0 0 3 257 true 181 258 .none .none .none (R 259) 546
def xez:Ob:=λ_=>fX "_law_gathered" 40 f9 243
def xe1:Ob:=λ_=>cF "_law_arms" 509 221 1 231 513
def xe9:Ob:=λ_=>fX "_law_tree" 38 f9 229
def xfb:Ob:=λ_=>cF "_law_renamed" 479 184 3 217 489
def xfd:Ob:=λP=>O (.type "dict") (.dict #[(E P "__name__" 165 (S "law_oncewise_k62_exchanges_listed" 382)),(E P "__doc__" 166 .none),(E P "__package__" 167 .none),(E P "__loader__" 168 (.builtin "__main__.__loader__#opaque")),(E P "__spec__" 169 .none),(E P "__annotations__" 170 (R 6)),(E P "__builtins__" 171 (R 4)),(E P "__file__" 173 (S "/claim/cut.py" 172)),(E P "__cached__" 174 .none),(E P "OnceError" 206 (R 24)),(E P "NoExchange" 222 (R 37)),(E P "LEAF_KINDS" 227 (R 40)),(E P "is_leaf" 234 (R 47)),(E P "parts_of" 243 (R 54)),(E P "PLACE_COUNTS" 258 (R 55)),(E P "places_of" 265 (R 62)),(E P "arms_of" 272 (R 69)),(E P "rules_in" 281 (R 76)),(E P "told_by" 288 (R 83)),(E P "taken_by" 294 (R 88)),(E P "with_arm" 306 (R 95)),(E P "all_told" 315 (R 102)),(E P "arm_that_tells" 321 (R 107)),(E P "turned_out" 332 (R 114)),(E P "arm_at" 341 (R 121)),(E P "rules_along" 351 (R 128)),(E P "exchanged" 364 (R 135)),(E P "rules_by_way" 370 (R 140)),(E P "exchanges_of" 381 (R 147)),(E P "_law_mix" 392 (R 154)),(E P "_law_name" 398 (R 159)),(E P "_law_word" 407 (R 166)),(E P "_law_flip" 415 (R 173)),(E P "_law_weight" 422 (R 180)),(E P "_law_mirror" 436 (R 187)),(E P "_law_join" 442 (R 192)),(E P "_law_fold" 454 (R 199)),(E P "_law_cut" 460 (R 204)),(E P "_law_order" 472 (R 211)),(E P "_law_moved" 478 (R 216)),(E P "_law_renamed" 491 (R 223)),(E P "_law_tree" 508 (R 230)),(E P "_law_arms" 515 (R 237)),(E P "_law_gathered" 527 (R 244)),(E P "_law_ends" 533 (R 249)),(E P "_law_needs" 542 (R 256)),(E P "_law_goes" 548 (R 261)),(E P "_law_put_arm" 559 (R 268)),(E P "_law_about" 570 (R 275)),(E P "_law_at" 579 (R 282)),(E P "_law_put_at" 588 (R 289)),(E P "_law_possible" 602 (R 296)),(E P "_law_alike" 611 (R 303)),(E P "_law_ways" 624 (R 310)),(E P "_law_odd_way" 633 (R 317)),(E P "_law_refused" 643 (R 324)),(E P "_law_within" 652 (R 331)),(E P "_law_part" 658 (R 336)),(E P "law" 676 (R 343))] 59)
def xfe:Ob:=λ_=>co "_law_part" "_law_part" 653 345 3 0 0 3 332 true 181 333 .none .none .none (R 334) 656
def xff:Ob:=λ_=>fX "_law_alike" 49 f9 302
def xfh:Ob:=λ_=>fX "law" 55 f9 342
def xfi:Ob:=λ_=>cF "_law_refused" 634 332 3 318 641
def xfk:Ob:=λ_=>fX "_law_within" 53 f9 330
def xfq:Ob:=λ_=>cF "_law_ways" 612 317 1 304 622
def xfs:Ob:=λ_=>fX "_law_odd_way" 51 f9 316
def xfu:Ob:=λ_=>fX "_law_part" 54 f9 335
def xfw:Ob:=λ_=>fX "_law_refused" 52 f9 323
def xfy:Ob:=λ_=>cF "_law_odd_way" 625 326 1 311 631
def xf1:Ob:=λ_=>cF "_law_within" 644 339 2 325 650
def xf2:Ob:=λ_=>cF "law" 659 351 1 337 674
def xf3:Ob:=λ_=>fX "_law_ways" 50 f9 309
def xf5:Ob:=λ_=>cF "_law_alike" 603 302 2 297 609
def apa:List Ob:=[b0,b1,b2,b3,b4,b5,b6,b7,b8,b9,b10,jp,ky,xac,xad]
def anp:List Ob:=[b0,b1,b2,xfd,b4,b5,b6,b7,b8,b9,b10,jp,λ_=>O .none (.fields #[I 2 0,I 0 0,R 20,I 4 0,I 0 0,R 33,I 8 0,I 0 0,R 46,I 11 0,I 0 0,R 53,I 17 0,I 0 0,R 61,I 19 0,I 0 0,R 68,I 21 0,I 0 0,R 75,I 26 0,I 0 0,R 82,I 28 0,I 0 0,R 87,I 38 0,I 0 0,R 94,I 41 0,I 0 0,R 101,I 46 0,I 0 0,R 106,I 52 0,I 0 0,R 113,I 58 0,I 0 0,R 120,I 63 0,I 0 0,R 127,I 68 0,I 0 0,R 134,I 77 0,I 0 0,R 139,I 87 0,I 0 0,R 146,I 95 0,I 0 0,R 153,I 97 0,I 0 0,R 158,I 106 0,I 0 0,R 165,I 111 0,I 0 0,R 172,I 116 0,I 0 0,R 179,I 120 0,I 0 0,R 186,I 133 0,I 0 0,R 191,I 141 0,I 0 0,R 198,I 149 0,I 0 0,R 203,I 171 0,I 0 0,R 210,I 179 0,I 0 0,R 215,I 184 0,I 0 0,R 222,I 192 0,I 0 0,R 229,I 221 0,I 0 0,R 236,I 227 0,I 0 0,R 243,I 241 0,I 0 0,R 248,I 256 0,I 0 0,R 255,I 262 0,I 0 0,R 260,I 274 0,I 0 0,R 267,I 279 0,I 0 0,R 274,I 283 0,I 0 0,R 281,I 287 0,I 0 0,R 288,I 291 0,I 0 0,R 295,I 302 0,I 0 0,R 302,I 317 0,I 0 0,R 309,I 326 0,I 0 0,R 316,I 332 0,I 0 0,R 323,I 339 0,I 0 0,R 330,I 345 0,I 0 0,R 335,I 351 0,I 0 0,R 342]),xac,xad,xaf,xal,xai,jp,ky,xao,xak,jp,xag,xaz,xaj,xap,xah,xa4,xal,xa9,jp,ky,xav,xa5,jp,xa2,xaw,xa7,xas,xa0,jp,ky,xau,jp,xay,xba,xar,jp,ky,xa6,jp,xa3,xax,xa8,xat,jp,ky,xci,jp,xca,xby,xcn,jp,ky,xbp,jp,xbi,xb6,xbu,jp,ky,xb2,jp,xcf,xbl,xb8,jp,ky,xbe,jp,xbq,xcd,xbk,jp,ky,xcl,xbg,xb3,jp,ky,xbo,jp,xbz,xco,xbd,jp,ky,xcc,jp,xb7,xbw,xck,jp,ky,xbs,xch,xbn,jp,ky,xcm,jp,xb1,xbr,xce,jp,ky,xbx,jp,xbh,xb4,xbt,jp,ky,xcb,jp,xcp,xbc,xb0,jp,ky,xbj,jp,xbv,xcj,xbf,jp,ky,xcg,xbm,xb9,jp,ky,λ_=>tu #[S "tree" 374,S "pairs" 375,S "way" 376,S "rule" 377,S "arm" 378],jp,λ_=>gX "exchanges_of" 24,xdp,xcz,jp,ky,λ_=>tu #[S "_law_cell" 387,S "_law_k" 388,S "_law_factor" 389],jp,λ_=>gX "_law_mix" 26,xc8,xdt,jp,ky,λ_=>gX "_law_name" 27,xdz,xcs,jp,ky,λ_=>tu #[S "_law_knots" 402,S "_law_p" 403,S "_law_knot" 404],jp,λ_=>gX "_law_word" 28,xdb,xdw,jp,ky,λ_=>tu #[S "_law_word_here" 411,S "_law_sides" 412],jp,λ_=>gX "_law_flip" 29,xdn,xdc,jp,ky,λ_=>tu #[S "_law_word_here" 419],jp,λ_=>gX "_law_weight" 30,xc1,xdl,jp,ky,λ_=>tu #[S "_law_knots" 426,S "_law_word_here" 427,S "_law_left" 428,S "_law_right" 429,S "_law_turn" 430,S "_law_same" 431,S "_law_low" 432,S "_law_high" 433],jp,λ_=>gX "_law_mirror" 31,xdu,xc4,jp,ky,λ_=>gX "_law_join" 32,xcr,xde,jp,ky,λ_=>tu #[S "_law_knots" 446,S "_law_tree_here" 447,S "_law_one" 448,S "_law_two" 449,S "_law_left" 450,S "_law_right" 451],jp,λ_=>gX "_law_fold" 33,xdv,xcv,jp,ky,λ_=>gX "_law_cut" 34,xc2,xdm,jp,ky,λ_=>tu #[S "_law_knots" 464,S "_law_seed" 465,S "_law_p" 466,S "_law_knot" 467,S "_law_rank" 468],λ_=>tu #[S "_law_ranks" 469],λ_=>gX "_law_order" 35,xdq,xc0,jp,ky,λ_=>gX "_law_moved" 36,xcw,xdi,jp,ky,λ_=>tu #[S "_law_knots" 482,S "_law_rule" 483,S "_law_seed" 484,S "_law_at_here" 485,S "_law_made" 486,S "_law_p" 487,S "_law_knot" 488],jp,λ_=>gX "_law_renamed" 37,xfb,xd4,jp,ky,λ_=>tu #[S "_law_cells" 495,S "_law_seed" 496,S "_law_room" 497,S "_law_knots" 498,S "_law_forest" 499,S "_law_k" 500,S "_law_cell" 501,S "_law_one" 502,S "_law_two" 503,S "_law_deed" 504,S "_law_at_here" 505],jp,λ_=>gX "_law_tree" 38,xek,xe9,jp,ky,λ_=>tu #[S "_law_rule" 512],jp,λ_=>gX "_law_arms" 39,xe1,xel,jp,ky,λ_=>tu #[S "_law_rule" 519,S "_law_links" 520,S "_law_cuts" 521,S "_law_told" 522,S "_law_stack" 523,S "_law_one" 524],jp,λ_=>gX "_law_gathered" 40,xea,xez,jp,ky,λ_=>gX "_law_ends" 41,xeu,xei,jp,ky,λ_=>tu #[S "_law_knots" 537,S "_law_rule" 538,S "_law_arm" 539],jp,λ_=>gX "_law_needs" 42,xd2,xeo,jp,ky,λ_=>gX "_law_goes" 43,xew,xej,jp,ky,λ_=>tu #[S "_law_rule" 552,S "_law_arm" 553,S "_law_other" 554,S "_law_arms_here" 555,S "_law_kept" 556],jp,λ_=>gX "_law_put_arm" 44,λ_=>cF "_law_put_arm" 549 274 3 262 557,λ_=>fX "_law_put_arm" 44 f9 267,jp,ky,λ_=>tu #[S "_law_rule" 563,S "_law_arm" 564,S "_law_k" 565,S "_law_inner" 566,S "_law_below" 567],jp,λ_=>gX "_law_about" 45,λ_=>cF "_law_about" 560 279 3 269 568,λ_=>fX "_law_about" 45 f9 274,jp,ky,λ_=>tu #[S "_law_rule" 574,S "_law_way" 575,S "_law_a" 576],jp,λ_=>gX "_law_at" 46,λ_=>cF "_law_at" 571 283 2 276 577,λ_=>fX "_law_at" 46 f9 281,jp,ky,λ_=>tu #[S "_law_rule" 583,S "_law_way" 584,S "_law_other" 585],jp,λ_=>gX "_law_put_at" 47,λ_=>cF "_law_put_at" 580 287 3 283 586,λ_=>fX "_law_put_at" 47 f9 288,jp,ky,λ_=>tu #[S "_law_knots" 592,S "_law_rule" 593,S "_law_found" 594,S "_law_stack" 595,S "_law_way" 596,S "_law_one" 597,S "_law_arms_here" 598,S "_law_a" 599],jp,λ_=>gX "_law_possible" 48,xd6,xes,jp,ky,λ_=>tu #[S "_law_found" 606,S "_law_due" 607,S "_law_k" 608],jp,λ_=>gX "_law_alike" 49,xf5,xff,jp,ky,λ_=>tu #[S "_law_rule" 615,S "_law_ways_here" 616,S "_law_stack" 617,S "_law_way" 618,S "_law_one" 619,S "_law_arms_here" 620,S "_law_a" 621],jp,λ_=>gX "_law_ways" 50,xfq,xf3,jp,ky,λ_=>tu #[S "_law_number" 628,S "_law_way" 629,S "_law_k" 630],jp,λ_=>gX "_law_odd_way" 51,xfy,xfs,jp,ky,λ_=>tu #[S "_law_tree_here" 637,S "_law_way" 638,S "_law_arm" 639,S "_law_refused_here" 640],jp,λ_=>gX "_law_refused" 52,xfi,xfw,jp,ky,λ_=>tu #[S "_law_rule" 647,S "_law_number" 648,S "_law_arms_here" 649],jp,λ_=>gX "_law_within" 53,xf1,xfk,jp,ky,λ_=>gX "_law_part" 54,xfe,xfu,jp,ky,λ_=>tu #[S "_law_script" 662,S "_law_seed" 663,S "_law_knots" 664,S "_law_rule" 665,S "_law_tree_here" 666,S "_law_due" 667,S "_law_found" 668,S "_law_way" 669,S "_law_arm" 670,S "_law_k" 671,S "_law_cell" 672,S "_law_number" 673],jp,λ_=>gX "law" 55,xf2,xfh]
def ari:List Ob:=[b0,b1,b2,b3,b4,b5,b6,b7,b8,b9,b10,jp,ky,xac,xad]
def asg:List Ob:=[b0,b1,b2,λP=>O (.type "dict") (.dict #[(E P "__name__" 165 (S "oncewise.exchanging" 295)),(E P "__doc__" 166 .none),(E P "__package__" 167 .none),(E P "__loader__" 168 (.builtin "__main__.__loader__#opaque")),(E P "__spec__" 169 .none),(E P "__annotations__" 170 (R 6)),(E P "__builtins__" 171 (R 4)),(E P "__file__" 173 (S "/claim/cut.py" 172)),(E P "__cached__" 174 .none),(E P "OnceError" 206 (R 24)),(E P "NoExchange" 222 (R 37)),(E P "LEAF_KINDS" 227 (R 40)),(E P "is_leaf" 234 (R 47)),(E P "parts_of" 243 (R 54)),(E P "PLACE_COUNTS" 258 (R 55)),(E P "places_of" 265 (R 62)),(E P "arms_of" 272 (R 69)),(E P "rules_in" 281 (R 76)),(E P "told_by" 288 (R 83)),(E P "taken_by" 294 (R 88)),(E P "with_arm" 306 (R 95)),(E P "all_told" 315 (R 102)),(E P "arm_that_tells" 321 (R 107)),(E P "turned_out" 332 (R 114)),(E P "arm_at" 341 (R 121)),(E P "rules_along" 351 (R 128)),(E P "exchanged" 364 (R 135)),(E P "rules_by_way" 370 (R 140))] 28),b4,b5,b6,b7,b8,b9,b10,jp,λ_=>O .none (.fields #[I 2 0,I 0 0,R 20,I 4 0,I 0 0,R 33,I 8 0,I 0 0,R 46,I 11 0,I 0 0,R 53,I 17 0,I 0 0,R 61,I 19 0,I 0 0,R 68,I 21 0,I 0 0,R 75,I 26 0,I 0 0,R 82,I 28 0,I 0 0,R 87,I 38 0,I 0 0,R 94,I 41 0,I 0 0,R 101,I 46 0,I 0 0,R 106,I 52 0,I 0 0,R 113,I 58 0,I 0 0,R 120,I 63 0,I 0 0,R 127,I 68 0,I 0 0,R 134,I 77 0,I 0 0,R 139]),xac,xad,xaf,xal,xai,jp,ky,xao,xak,jp,xag,xaz,xaj,xap,xah,xa4,xal,xa9,jp,ky,xav,xa5,jp,xa2,xaw,xa7,xas,xa0,jp,ky,xau,jp,xay,xba,xar,jp,ky,xa6,jp,xa3,xax,xa8,xat,jp,ky,xci,jp,xca,xby,xcn,jp,ky,xbp,jp,xbi,xb6,xbu,jp,ky,xb2,jp,xcf,xbl,xb8,jp,ky,xbe,jp,xbq,xcd,xbk,jp,ky,xcl,xbg,xb3,jp,ky,xbo,jp,xbz,xco,xbd,jp,ky,xcc,jp,xb7,xbw,xck,jp,ky,xbs,xch,xbn,jp,ky,xcm,jp,xb1,xbr,xce,jp,ky,xbx,jp,xbh,xb4,xbt,jp,ky,xcb,jp,xcp,xbc,xb0,jp,ky,xbj,jp,xbv,xcj,xbf,jp,ky,xcg,xbm,xb9]
def asp:List Ob:=anp
def hpA(P:Params):Heap:=⟨⟨apa.map (· P)⟩,{}⟩
def hpZ(P:Params):Heap:=⟨⟨anp.map (· P)⟩,{}⟩
def tr0(P:Params):BT:=bt 20 (ari.map (· P))
def tr3(P:Params):BT:=bt 20 (asg.map (· P))
def tr6(P:Params):BT:=bt 20 (asp.map (· P))
def sA(w:World)(os:OsState):Shared:=⟨hpA w.params,#[],{},187,os⟩
def sZ(w:World)(os:OsState):Shared:=⟨hpZ w.params,#[],{},677,os⟩
def ve(w:World)(os:OsState):SharedT:=⟨tr0 w.params,15,{},#[],{},187,os⟩
def qM(w:World)(os:OsState):SharedT:=⟨tr3 w.params,141,{},#[],{},371,os⟩
def st6(w:World)(os:OsState):SharedT:=⟨tr6 w.params,344,{},#[],{},677,os⟩
def zM:List Stmt:=((behindTheImports p).drop 0).take 24
def agq:List Stmt:=((behindTheImports p).drop 24).take 32
theorem aro(w:World):(λos=>topGo treeTable p w 11 an 12 ⟨boot_heap w.params,#[],boot_drawn,boot_toks,os⟩ (topStub p))=λos=>some (sA w os,⟨denote treeTable cE,cE,⟨0,0,0,0⟩,[topFrame q0]⟩):=by kernel_rfl
theorem apn(w:World):(λos=>segRun treeTable p w 11 an 1 1 (sA w os) (blockOf (behindTheImports p) env0 cE ⟨0,0,0,0⟩ [topFrame q0]))=λos=>some (.next,(ve w os).abs,cE,⟨0,0,0,0⟩):=by kernel_rfl
theorem aqn(w:World):Pc 977 ve qM zM ⟨0,0,0,0⟩ ⟨77,0,86,16⟩ (w.withFollow "special-get-raises" false):=by kernel_rfl
theorem are(w:World):Pc 977 ve qM zM ⟨0,0,0,0⟩ ⟨77,0,86,16⟩ (w.withFollow "special-get-raises" true):=by kernel_rfl
theorem pc1:∀w,Pc 977 ve qM zM ⟨0,0,0,0⟩ ⟨77,0,86,16⟩ w:=byRow2 "special-get-raises" aqn are
theorem pc2:∀w,Pc 984 qM st6 agq ⟨77,0,86,16⟩ ⟨351,0,374,42⟩ w:=λw=>by kernel_rfl
theorem apf(w:World):(λos=>topRun treeTable p w 11 an 2 (st6 w os).abs ⟨doneF .next,cE,⟨351,0,374,42⟩,[topFrame q0]⟩)=λos=>some (sZ w os):=by kernel_rfl
theorem anv:zM++(agq++([]))=behindTheImports p:=by kernel_rfl
theorem arc(w:World)(os:OsState):topRun treeTable p w 11 an (12+(1+(977+(984+(2))))) ⟨boot_heap w.params,#[],boot_drawn,boot_toks,os⟩ (topStub p)=some (sZ w os):=by have h:=(piece_app (l:=zM) (rest:=agq++([])) (segRun_of (Dn (pc1 w) os)) (piece_app (l:=agq) (rest:=[]) (segRun_of (Dn (pc2 w) os)) (piece_nil (env:=env0) (Dn (apf w) os))));rw[anv] at h;exact go_top (Dn (aro w) os) (piece_block (Dn (apn w) os) h)
def as0:List Nat:=[0,1,2,3,4,5,6,7,8,9,10,13,23,24,25,36,37,40,46,47,53,54,55,61,62,68,69,75,76,82,83,87,88,94,95,101,102,106,107,113,114,120,121,127,128,134,135,139,140,146,147,153,154,158,159,165,166,172,173,179,180,186,187,191,192,198,199,203,204,206,210,211,215,216,222,223,229,230,236,237,243,244,248,249,255,256,260,261,295,296,302,303,309,310,316,317,323,324,330,331,335,336,342,343]
def vw:Program:={ p with main:={ p.main with body:=[top 1,top 2,top 4,top 5,top 7,top 9,top 10,top 11,top 12,top 13,top 14,top 16,top 17,top 18,top 19,top 20,top 21,top 22,top 23,top 24,top 26,top 27,top 28,top 29,top 30,top 31,top 32,top 33,top 34,top 35,top 36,top 37,top 38,top 39,top 40,top 41,top 42,top 43,top 44,top 45,top 46,top 47,top 48,top 49,top 50,top 51,top 52,top 53,top 54,top 55] } }
def K0:Params->Frag:=λP=>(nat_lit 0,b0 P)::(nat_lit 1,b1 P)::(nat_lit 2,b2 P)::(nat_lit 3,xfd P)::(nat_lit 4,b4 P)::(nat_lit 5,b5 P)::(nat_lit 6,b6 P)::(nat_lit 7,b7 P)::(nat_lit 8,b8 P)::(nat_lit 9,b9 P)::(nat_lit 10,b10 P)::(nat_lit 13,xac P)::(nat_lit 23,xag P)::(nat_lit 24,xaz P)::(nat_lit 25,xaj P)::(nat_lit 36,xa2 P)::(nat_lit 37,xaw P)::(nat_lit 40,xa0 P)::(nat_lit 46,xba P)::(nat_lit 47,xar P)::(nat_lit 53,xax P)::(nat_lit 54,xa8 P)::(nat_lit 55,xat P)::(nat_lit 61,xby P)::(nat_lit 62,xcn P)::(nat_lit 68,xb6 P)::(nat_lit 69,xbu P)::(nat_lit 75,xbl P)::(nat_lit 76,xb8 P)::(nat_lit 82,xcd P)::(nat_lit 83,xbk P)::(nat_lit 87,xbg P)::(nat_lit 88,xb3 P)::(nat_lit 94,xco P)::(nat_lit 95,xbd P)::(nat_lit 101,xbw P)::(nat_lit 102,xck P)::(nat_lit 106,xch P)::(nat_lit 107,xbn P)::(nat_lit 113,xbr P)::(nat_lit 114,xce P)::(nat_lit 120,xb4 P)::(nat_lit 121,xbt P)::(nat_lit 127,xbc P)::(nat_lit 128,xb0 P)::(nat_lit 134,xcj P)::(nat_lit 135,xbf P)::(nat_lit 139,xbm P)::(nat_lit 140,xb9 P)::(nat_lit 146,xdp P)::(nat_lit 147,xcz P)::(nat_lit 153,xc8 P)::(nat_lit 154,xdt P)::(nat_lit 158,xdz P)::(nat_lit 159,xcs P)::(nat_lit 165,xdb P)::(nat_lit 166,xdw P)::(nat_lit 172,xdn P)::(nat_lit 173,xdc P)::(nat_lit 179,xc1 P)::(nat_lit 180,xdl P)::(nat_lit 186,xdu P)::(nat_lit 187,xc4 P)::(nat_lit 191,xcr P)::(nat_lit 192,xde P)::(nat_lit 198,xdv P)::(nat_lit 199,xcv P)::(nat_lit 203,xc2 P)::(nat_lit 204,xdm P)::(nat_lit 206,ky P)::(nat_lit 210,xdq P)::(nat_lit 211,xc0 P)::(nat_lit 215,xcw P)::(nat_lit 216,xdi P)::(nat_lit 222,xfb P)::(nat_lit 223,xd4 P)::(nat_lit 229,xek P)::(nat_lit 230,xe9 P)::(nat_lit 236,xe1 P)::(nat_lit 237,xel P)::(nat_lit 243,xea P)::(nat_lit 244,xez P)::(nat_lit 248,xeu P)::(nat_lit 249,xei P)::(nat_lit 255,xd2 P)::(nat_lit 256,xeo P)::(nat_lit 260,xew P)::(nat_lit 261,xej P)::(nat_lit 295,xd6 P)::(nat_lit 296,xes P)::(nat_lit 302,xf5 P)::(nat_lit 303,xff P)::(nat_lit 309,xfq P)::(nat_lit 310,xf3 P)::(nat_lit 316,xfy P)::(nat_lit 317,xfs P)::(nat_lit 323,xfi P)::(nat_lit 324,xfw P)::(nat_lit 330,xf1 P)::(nat_lit 331,xfk P)::(nat_lit 335,xfe P)::(nat_lit 336,xfu P)::(nat_lit 342,xf2 P)::(nat_lit 343,xfh P)::[]
abbrev lamC:Nat:=210
abbrev lamT:Nat:=206
abbrev lamO:Ob:=xdq
abbrev ls:List Str:=[Str.ofString "PLACE_COUNTS"]
abbrev Xt:Shared->Bool:=λs=>xlAt vw [] s&&recOk (RowW.records rr.row.toRowW) s
theorem amj(w:World):((boot_heap w.params).isNs mainGlobals&&(#[]:Array GenState).size==0,(boot_heap w.params).objs.size,(boot_heap w.params).nsMap mainGlobals "__annotations__")=(true,11,an):=by kernel_rfl
theorem asd:opening p=plainProg p.main.scope.names:=by kernel_rfl
theorem asz(s:Shared):fenceModules? p s=some s:=by kernel_rfl
theorem lk1(w:World):(λos=>(staticsOk (importedModules p.main.body) (boot_heap w.params) (hpZ w.params)&&namesBound p (hpZ w.params)&&gensDone (sZ w os)&&laidKept (boot_heap w.params) (hpZ w.params)))=λ_=>true:=by kernel_rfl
theorem lk2(w:World):(λos=>openSeen vw ls (importedModules p.main.body) Xt true (sZ w os))=λ_=>openGood vw ls:=by kernel_rfl
theorem lk3(w:World):(λos=>obsZ as0 (sZ w os))=λ_=>valZ K0 344 677 w:=by kernel_rfl
theorem left_:LeftO p vw ls Xt (obsZ as0) (valZ K0 344 677) 4036:=LeftO.of_pieces (boot_open asd rfl asz) amj arc rfl λw=>funext λos=>looks_pair (Dn (lk1 w) os) (looks_pair (Dn (lk2 w) os) (Dn (lk3 w) os))
end
end H62
open PySem PySem.W PyProof.Rows
set_option maxRecDepth 100000 in
set_option maxHeartbeats 0 in
theorem PySem.Challenge.cw_oncewise_k62_exchanges_listed_holds : PySem.Challenge.rw_oncewise_k62_exchanges_listed.Holds := by
 w_on;refine holds_law (by unfold OpenLaw.wellSaid OpenRow.wellSaid OpenRow.partSaid looksOpen;walk_at "y";walk_at "y";walk_at "y";walk_at "y";walk_at "y";walk_at "y";all_goals decide +kernel) λU=>?_
 refine holds_openX (q:=H62.vw) (loose:=H62.ls) (Xt:=H62.Xt) (XP:=XL H62.vw []) (Yf:=PySem.W.X.obsZ H62.as0) (Ya:=PySem.W.X.valZ H62.K0 344 677) (N:=4036) H62.left_ (λs e=>xl_of s (Bool.and_eq_true_iff.mp e).1)
  XL.keeps (by rfl) (by rfl) (by rfl) (λs e=>recFacts_of (Bool.and_eq_true_iff.mp e).2)
  (by rfl) (by decide +kernel) (by decide +kernel) ⟨rfl,rfl,rfl,rfl,rfl,by decide +kernel⟩ ?hw ?hc
 case hw=>w_witness2
 k_fill
 refine L2.walk_ofZT (l:=PySem.Challenge.rw_oncewise_k62_exchanges_listed) (n:=63) (k:=130) (x:="_law_script") (CX:=L2.CX0) (sp:=L3.spTopT L3.lamQ) rfl (by decide) rfl ⟨rfl,by decide,by decide⟩ (λ_=>rfl) (by decide) ?F ?S ?C
 case F=>
  intro w t I h j G J;have T:(H62.K0 w.params).lookup H62.lamT=some (PySem.W.tabObj #[]):=by k_is
  have g:(H62.K0 w.params).lookup H62.lamC=some (H62.lamO w.params):=by k_is
  have hd:∀h:Heap,h.get? H62.lamC=some (H62.lamO w.params)->PySem.W.CodeHd h H62.lamC H62.lamT:=λh e=>⟨_,_,_,_,_,_,_,_,_,e,rfl,rfl,rfl,rfl,rfl,rfl,rfl,rfl,by decide⟩;have o:(H62.K0 w.params).lookup 4=some (PySem.W.boot_o_4 w.params):=by k_is
  have r:L3.DefInT (L2.lessK H62.lamT (H62.K0 w.params)) "_law_order" K62.s__law_order H62.lamT:=by
   refine' K62.def_inT (L2.ns_dn T ?a) (L2.lk_dn T ?l ?n) (L2.code_dn T ?c) (L2.keep_dn T ?k) ?LC
   (case a=>k_is);(case l=>k_is);(case n=>(intro e;cases e));(case c=>k_is);(case k=>k_is)
   refine'⟨⟨H62.lamC,_,rfl,L2.lk_dn T g ?m,hd⟩,⟨4,_,L2.ns_dn T ?b,by decide,by decide,L2.lk_dn T o ?p,rfl,rfl,rfl⟩⟩
   (case m=>(intro e;cases e));(case b=>k_is);(case p=>(intro e;cases e))
  refine⟨H62.lamT,⟨T,⟨H62.lamC,λh X=>hd h (X _ _ g)⟩,by decide⟩,?_⟩;refine' K62.all_mk (K:=L2.lessK H62.lamT (H62.K0 w.params)) (L2.lessK_in j) G J ?D0 ?D1 ?D2 ?D3 ?D4 ?D5 ?D6 ?D7 ?D8 ?D9 ?D10 ?D11 ?D12 ?D13 ?D14 ?D15 ?D16 ?D17 ?D18 ?D19 ?D20 ?D21 ?D22 ?D23 ?D24 ?D25 ?D26 ?D27 ?D28 ?D29 ?D30 ?D31 ?D32 ?D33 ?D34 ?D35 ?D36 ?D37 ?D38 ?D39 ?D40 ?D41 ?aLEAF_KINDS ?lLEAF_KINDS ?aPLACE_COUNTS ?lPLACE_COUNTS ?hPLACE_COUNTS ?aCNoExchange ?qCNoExchange ?xf ?zlist ?zenumerate ?zall ?zlen ?zzip ?zreversed ?zrange ?zmax ?zsorted ?zmin ?zisinstance ?zint ?ztuple ?zstr ?zbool
  (case aCNoExchange=>(refine' L2.ns_dn T ?_;k_is))
  (case D0|D1|D2|D3|D4|D5|D6|D7|D8|D9|D10|D11|D12|D13|D14|D15|D16|D17|D18|D19|D20|D21|D22|D23|D24|D26|D27|D28|D29|D30|D31|D32|D33|D34|D35|D36|D37|D38|D39|D40|D41=>refine' L2.def_in (L2.ns_dn T ?a) (L2.lk_dn T ?l ?n) (L2.code_dn T ?c) (L2.keep_dn T ?k);(case a=>k_is);(case l=>k_is);(case n=>(intro e;cases e));(case c=>k_is);(case k=>k_is))
  (case D25=>exact r)
  (case aLEAF_KINDS=>(refine' L2.ns_dn T ?_;k_is))
  (case lLEAF_KINDS=>(refine' L2.lk_dn T ?x ?n;(case x=>k_is);(case n=>(intro e;cases e))))
  (case aPLACE_COUNTS=>(refine' L2.ns_dn T ?_;k_is))
  (case lPLACE_COUNTS=>(refine' L2.lk_dn T ?x ?n;(case x=>k_is);(case n=>(intro e;cases e))))
  (case hPLACE_COUNTS=>rfl)
  (case qCNoExchange=>(refine' L2.exc_dn T ?_;k_exc))
  (case xf=>(refine' L3.XF62.dn T ?_;(refine' L3.XF62.mk ?em;(case em=>(refine' L3.exm_own ?h0 ?h1 ?h2 ?h3;(case h0=>k_is);(case h1=>k_is);(case h2=>k_is);(case h3=>k_is))))))
  (case zlist|zenumerate|zall|zlen|zzip|zreversed|zrange|zmax|zsorted|zmin|zisinstance|zint|ztuple|zstr|zbool=>(refine' L2.ns_dn T ?_;k_is))
 case S=>exact L3.top_startT
 case C=>exactλ_ _ _ _ z=>z
#print axioms PySem.Challenge.cw_oncewise_k62_exchanges_listed_holds
