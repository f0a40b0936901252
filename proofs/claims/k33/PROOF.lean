import PyProof.Rows.All
import KE.KDictOf
import KE.KDictSum
import KE.KFromBytes
import KE.KLam
import KE.KRevSl
import KE.KSortTup
import KE.KTryMore
import KE.LcSums
import OpenK.ZHead
import PySem.Challenge.RW_oncewise_k33_faults_walked
set_option genSizeOf false
set_option genInjectivity false
set_option bootstrap.genMatcherCode false
set_option compiler.extract_closed false
set_option hygiene false
local macro_rules|`(⇑$t)=>`(some (.lst $t))
local macro_rules|`(↥$t)=>`(($t).heap.objs.size)
local macro_rules|`(tactic| walk_at "t")=>`(tactic| (first|assumption|exact Nat.succ_pos _|exact qx.tk (by assumption)|exact Nat.lt_of_lt_of_le (qx.tk (by assumption)) (Nat.le_add_right _ _)|exact Nat.lt_of_lt_of_le (qx.tk (by assumption)) (by assumption)))
set_option hygiene true
local macro_rules|`(tactic| walk_at "w")=>`(tactic| conv=>whnf)
local macro_rules|`(tactic| walk_at "y")=>`(tactic| ((refine PySem.W.look_both ?_ ?_);(refine PySem.W.look_both ?_ ?_);(refine PySem.W.look_both ?_ ?_);(refine PySem.W.look_both ?_ ?_);(refine PySem.W.look_both ?_ ?_);(refine PySem.W.look_both ?_ ?_)))
local macro_rules(kind:=«term{_}»)|s=>return Lean.Syntax.node .none `Lean.Parser.Term.anonymousCtor #[Lean.mkAtom "⟨",s[1],Lean.mkAtom "⟩"]
set_option Elab.async false
set_option linter.all false
set_option maxRecDepth 100000
abbrev Aa:=@PySem.wpAny_bind
abbrev Ab:=@List.length_append
abbrev Ac:=@PyProof.Rows.wpS_bind
abbrev Ad:=@List.mem_singleton
abbrev Ae:=@List.length_map
abbrev Af:=@PyProof.Rows.wpS_pure
abbrev Ag:=@PySem.W.Frag
abbrev Ah:=@List.mem_append_right
abbrev Ai:=@List.getElem?_eq_getElem
abbrev Aj:=@List.mem_append
abbrev Ak:=@PySem.wpAny_pure
abbrev Al:=@List.mem_cons_of_mem
abbrev Am:=@List.mem_append_left
abbrev An:=@Nat.le_refl
abbrev Ao:=@decide_eq_false
abbrev Ap:=@if_neg
abbrev Aq:=@List.getElem?_map
abbrev Ar:=@if_pos
abbrev As:=@List.mem_cons_self
abbrev Au:=@List.mem_of_getElem?
abbrev Av:=@List.getElem?_append_left
abbrev Aw:=@List.mem_cons
abbrev Ax:=@List.size_toArray
abbrev Ay:=@List.append_assoc
abbrev Az:=@decide_eq_true
abbrev AA:=@Option.map_eq_some_iff
abbrev AB:=@List.append_nil
abbrev AC:=@List.map_append
abbrev AD:=@List.length_cons
abbrev AE:=@Ne.symm
abbrev AF:=@List.length_singleton
abbrev AG:=@List.nodup_cons
abbrev AH:=@List.getElem?_append_right
abbrev AI:=@Bool.false_ne_true
abbrev AJ:=@Option.some.inj
abbrev AK:=@Nat.le_trans
abbrev AL:=@List.nodup_append
abbrev AM:=@List.getElem?_eq_some_iff
abbrev AN:=@PyProof.Rows.wpS_forRange
abbrev AO:=@List.flatMap_append
abbrev AQ:=@List.map_cons
abbrev AR:=@List.length_take
abbrev AS:=@Nat.lt_of_lt_of_le
abbrev AU:=@List.pairwise_append
abbrev AV:=@PyProof.Rows.wpS_mono
abbrev AW:=@Array.length_toList
abbrev AX:=@PySem.wpAny_mono
abbrev AY:=@List.take_length
abbrev AZ:=@List.not_mem_nil
abbrev A1:=@Int.natCast_nonneg
abbrev A2:=@List.getD_eq_getElem?_getD
abbrev A3:=@Nat.ne_of_lt
abbrev A4:=@List.take_succ
abbrev A5:=@Nat.zero_le
abbrev A6:=@Array.getElem?_toList
abbrev A7:=@Bool.and_eq_true
abbrev A8:=@List.take_of_length_le
abbrev A9:=@List.mem_range
abbrev Ba:=@List.mem_map
abbrev Bb:=@List.take_append_drop
abbrev Bc:=@PySem.wpAny_holding
abbrev Bd:=@Array.toList_append
abbrev Be:=@List.flatMap_cons
abbrev Bf:=@Nat.le_add_right
abbrev Bg:=@PySem.wpAny_field
abbrev Bh:=@List.length_range
abbrev Bi:=@Nat.lt_succ_self
abbrev Bj:=@Nat.lt_of_le_of_lt
abbrev Bk:=@List.lookup_cons
abbrev Bl:=@PySem.W.mg_none_of
abbrev Bm:=@List.length_set
abbrev Bo:=@Nat.le_of_lt
abbrev Bp:=@List.getElem?_set_ne
abbrev Bq:=@List.perm_append_comm
abbrev Br:=@PySem.wpAny_newObj_type
abbrev Bs:=@Nat.add_sub_cancel_left
abbrev Bt:=@congrArg
abbrev Bu:=@List.mem_filter
abbrev Bv:=@PySem.wpAny_rule
abbrev Bw:=@Array.size_push
abbrev Bx:=@List.mem_flatMap
abbrev Bz:=@List.mem_of_mem_take
abbrev BA:=@List.perm_append_right_iff
abbrev BB:=@Int.ofNat_inj
abbrev BC:=@List.mem_erase_of_ne
abbrev BD:=@List.perm_append_left_iff
abbrev BE:=@List.filter_append
abbrev BF:=@PySem.W.kia_one
abbrev BG:=@PySem.mem_of_lookup
abbrev BH:=@List.getElem_of_mem
abbrev BI:=@List.getElem_take
abbrev BJ:=@PySem.wpAny_seqItems
abbrev BK:=@List.find?_cons
abbrev BL:=@List.length_drop
abbrev BM:=@Int.le_of_lt
abbrev BN:=@List.getElem_mem
abbrev BO:=@List.drop_eq_getElem_cons
abbrev BP:=@List.pairwise_iff_getElem
abbrev BQ:=@List.eq_nil_of_length_eq_zero
abbrev BR:=@List.pairwise_map
abbrev BS:=@List.length_replicate
abbrev BU:=@List.nodup_nil
abbrev BV:=@Int.le_trans
abbrev BW:=@List.map_map
abbrev BX:=@List.filter_nil
abbrev BY:=@PySem.W.hideAll_none
abbrev BZ:=@List.getElem?_of_mem
abbrev B3:=@List.filter_cons_of_pos
abbrev B4:=@Array.size_append
abbrev B5:=@Nat.lt_succ_of_lt
abbrev B6:=@Nat.min_eq_left
abbrev B7:=@Nat.not_lt_zero
abbrev B8:=@Or.resolve_right
abbrev B9:=@Int.toNat_natCast
abbrev Cc:=@Nat.exists_eq_add_of_le
abbrev Cd:=@List.filter_cons_of_neg
abbrev Ce:=@PySem.W.kia_tup
abbrev Cf:=@List.getElem?_set_self
abbrev Cg:=@PyProof.Rows.callWith_type1
abbrev Ci:=@Nat.sub_self
abbrev Cj:=@Nat.lt_irrefl
abbrev Ck:=@List.all_eq_true
abbrev Cm:=@List.perm_middle
abbrev Cn:=@Bool.false_eq_true
abbrev Co:=@List.perm_append_singleton
abbrev Cq:=@decide_eq_true_iff
abbrev Cr:=@List.perm_ext_iff_of_nodup
abbrev Cs:=@List.getElem?_eq_none
abbrev Ct:=@Nat.le_of_ble_eq_true
abbrev Cu:=@List.length_filter_le
abbrev Cv:=@Nat.succ_pos
abbrev Cw:=@PySem.W.look_both
abbrev Cy:=@Nat.le_succ
abbrev Cz:=@Nat.zero_add
abbrev CA:=@Nat.lt_or_ge
abbrev CB:=@List.any_cons
abbrev CC:=@PyProof.Rows.slot_tuple_getitem
abbrev CD:=@List.filterMap_cons
abbrev CF:=@List.getElem?_replicate
abbrev CG:=@List.eraseIdx_cons_succ
abbrev CH:=@Int.mul_le_mul_of_nonneg_right
abbrev CI:=@List.nodup_range
abbrev CK:=@List.flatMap_nil
abbrev CL:=@PySem.W.of_hideAll
abbrev CM:=@Nat.lt_trans
abbrev CN:=@PySem.W.funFrames_hide
abbrev CO:=@List.length_pos_of_mem
abbrev CP:=@List.nil_append
abbrev CQ:=@List.countP_eq_length_filter
abbrev CS:=@List.eq_nil_or_concat
abbrev CT:=@List.concat_eq_append
abbrev CU:=@PySem.W.kitx_list
abbrev CV:=@List.count_append
abbrev CW:=@List.getElem?_concat_length
abbrev CY:=@List.mem_of_mem_drop
abbrev CZ:=@Array.toList_reverse
abbrev C0:=@Nat.le_sub_one_of_lt
abbrev C3:=@Nat.ne_of_gt
abbrev C4:=@Nat.min_eq_right
abbrev C5:=@Nat.max_eq_right
abbrev C6:=@List.countP_cons
abbrev C7:=@PySem.W.hideAll_get
abbrev C8:=@List.getElem?_range
abbrev C9:=@List.reverse_append
abbrev De:=@List.mem_map_of_mem
abbrev Df:=@List.length_pos_iff
abbrev Dg:=@PySem.W.mg_of
abbrev Dh:=@List.forIn_cons
abbrev Di:=@Bool.or_eq_true
abbrev Dj:=@Nat.max_eq_left
abbrev Dk:=@PySem.W.callWith_K
abbrev Dl:=@Array.size_extract
abbrev Dm:=@List.pairwise_cons
abbrev Dn:=@List.getElem?_cons_succ
abbrev Do:=@List.length_eraseIdx_le
abbrev Dp:=@Int.le_refl
abbrev Dq:=@Nat.lt_add_of_pos_right
abbrev Dr:=@Nat.le_of_eq
abbrev Ds:=@List.take_sublist
abbrev Dt:=@Nat.le_succ_of_le
abbrev Du:=@Array.toList_push
abbrev Dv:=@List.length_take_of_le
abbrev Dw:=@List.Perm.refl
abbrev Dx:=@List.getElem_cons_drop
abbrev Dy:=@List.mem_range'_1
abbrev Dz:=@List.Perm.append_right
abbrev DA:=@List.filter_eq_nil_iff
abbrev DB:=@List.eraseIdxIfInBounds_toArray
abbrev DC:=@List.singleton_append
abbrev DE:=@List.Perm.append_left
abbrev DF:=@List.sum_cons
abbrev DG:=@List.take_append_of_le_length
abbrev DH:=@List.of_mem_zip
abbrev DI:=@Option.map_some
abbrev DJ:=@Nat.le_add_left
abbrev DK:=@List.length_zip
abbrev DL:=@PySem.F.slot_dict_setdefault
abbrev DM:=@PySem.W.plainGet_of
abbrev DN:=@List.length_reverse
abbrev DO:=@List.map_nil
abbrev DP:=@List.mem_filterMap
abbrev DQ:=@PySem.W.kitx_tuple
abbrev DR:=@Bool.and_false
abbrev DS:=@List.drop_zero
abbrev DU:=@PySem.F.excBase_ValueError
abbrev DV:=@Nat.lt_or_eq_of_le
abbrev DW:=@List.getElem?_take
abbrev DX:=@List.zip_cons_cons
abbrev DY:=@List.append_of_mem
abbrev DZ:=@PySem.F.slot_dict_getitem
abbrev Eb:=@List.getElem_drop
abbrev Ec:=@List.drop_sublist
abbrev Ed:=@List.ext_getElem?
abbrev Ee:=@List.reverse_perm
abbrev Ef:=@List.countP_congr
abbrev Eg:=@List.nodup_range'
abbrev Eh:=@List.set_comm
abbrev Ei:=@List.getElem?_take_of_lt
abbrev Ej:=@List.all_cons
abbrev Ek:=@List.getElem_append_left
abbrev El:=@List.Pairwise.imp_of_mem
abbrev Em:=@PySem.F.plainAttrs_dict
abbrev Eo:=@decide_eq_decide
abbrev Ep:=@PySem.F.plainAttrs_list
abbrev Er:=@List.zipIdx_cons
abbrev Es:=@List.range'_succ
abbrev Et:=@List.getElem?_set_self'
abbrev Eu:=@congrFun
abbrev Ew:=@PySem.W.cellsFrom_some
abbrev Ex:=@List.drop_of_length_le
abbrev Ey:=@List.drop_eq_nil_of_le
abbrev Ez:=@Nat.add_zero
abbrev EC:=@Int.zero_add
abbrev ED:=@Bool.eq_iff_iff
abbrev EE:=@List.length_nil
abbrev EF:=@List.Perm.of_eq
abbrev EG:=@beq_false_of_ne
abbrev EH:=@List.range_succ
abbrev EI:=@Int.emod_nonneg
abbrev EJ:=@List.sum_append
abbrev EK:=@List.forIn_nil
abbrev EL:=@Bool.and_true
abbrev EM:=@Nat.add_assoc
abbrev EN:=@List.cons.inj
abbrev EO:=@Nat.sub_le
abbrev ER:=@Nat.not_lt
abbrev sy:=@PySem.Heap.get?_push_of_some
abbrev u3:=@PySem.Heap.lt_size
abbrev vb:=@PySem.Heap.get?_push_size
abbrev wh:=@PySem.PassesOwn.never
abbrev ya:=@PySem.Heap.SameBut.update
abbrev yp:=@PySem.Calls.spliced_cons
abbrev At:=@PySem.Heap.size_push
abbrev Db:=@PySem.F.slot_tuple_iterator_next
abbrev DT:=@PySem.MeetsSeq.plain_remove_loop
abbrev En:=@PySem.W.look_both
abbrev Ev:=@Sum.inl.inj
abbrev EQ:=@PySem.Calls.callWith_builtin
abbrev Fa:=@PySem.Heap.get?_update_self
abbrev Fg:=@PySem.Calls.spliced_nil
abbrev Fh:=@PySem.Calls.evalArgs_plain
abbrev Fi:=@PySem.F.slot_zip_next
abbrev Wm:=PySem.Value->PySem.Shared->Prop
abbrev Wn:=Unit->PySem.Shared->Prop
abbrev Wo:=PySem.Str->Option PySem.Value
abbrev Wp:=List<|Nat×Nat
abbrev Wq:=List (Nat×Nat)
abbrev Wr:=List PySem.Value
abbrev Ws:=Array PySem.Value
abbrev Wt:=List Nat
abbrev Wu:=List PySem.Str
abbrev Wv:=List PySem.Expr
abbrev Ww:=List PySem.Stmt
abbrev Wx:=List Int
abbrev Wy:=Option PySem.Value
abbrev Wz:=Option Int
abbrev WA:=Nat->Nat
abbrev WB:=Nat×Nat
abbrev WC:=PySem.Value
abbrev WD:=PySem.Shared
abbrev WE:=PySem.Program
abbrev WF:=PySem.World
abbrev WG:=PySem.Heap
abbrev WH:=String
noncomputable section
namespace L2
open PySem PyProof.Rows
def kI{M:Model}{U:Ctx}{p:Pos}{t:Sem Fin}{fs:List Frame}{s s':WD}{e:End}(h:Runs M U p t fs s e s'):s.toks<=s'.toks:=by induction h with|fresh _ g=>exact AK (Cy _) g|call _ _ I J=>exact AK I J|resumeFresh _ _ _ _ I J=>exact AK I J|resumeSuspended _ _ _ _ I J=>exact AK I J|segRet _ _ I J=>exact AK I J|segGen _ _ I J=>exact AK I J|segSuspGen _ _ _ _ I J=>exact AK I J|_=>first|exact An _|assumption
def wT{M:Model}{J:Ctx}{p:Pos}{g:Nat}{r:Resume}{s s':WD}{res:GenResult}(h:Wakes M J p g r s res s'):s.toks<=s'.toks:=by
 unfold Wakes at h;split at h
 .exact h.elim
 .split at h
  .obtain⟨e,U,I,_,_,rfl⟩:=h;have q:=kI I;exact q
  .obtain⟨_,rfl⟩:=h;exact An _
  .obtain⟨_,rfl⟩:=h;exact An _
 .obtain⟨e,U,I,_,_,rfl⟩:=h;have q:=kI I;exact q
 .obtain⟨_,rfl⟩:=h;exact An _
 .obtain⟨_,rfl⟩:=h;exact An _
def Me{α:Type}{M:Model}{j:Ctx}(t:Sem α):∀{Q:α->Pos->WD->Prop} {E:WC->Pos->WD->Prop} {p:Pos} {s:WD} (n:Nat),n<=s.toks->Sem.wp M j t Q E p s->Sem.wp M j t (λa U s'=>Q a U s'/\n<=s'.toks) (λe U s'=>E e U s'/\n<=s'.toks) p s:=by induction t with|pure a=>intro Q E p s n I h;exact{(h),I}|raise e=>intro Q E p s n I h;exact{(h),I}|load a part k J=>intro Q E p s n I ⟨o,h1,h2⟩;exact{o,h1,J o n I h2}|update a part f k J=>intro Q E p s n I ⟨h1,h2⟩;exact{h1,J () n I h2}|fresh k J=>intro Q E p s n I h;exact J s.toks n (AK I<|Cy _) h|choose C m k J=>intro Q E p s n I ⟨h1,h2⟩;exact{h1,J _ n I h2}|call c hd g l k J=>intro Q E p s n I ⟨r,s',h1,h2⟩;exact{r,s',h1,J r n (AK I<|kI h1) h2}|genState g k J=>intro Q E p s n I ⟨st,h1,h2⟩;exact{st,h1,J _ n I h2}|resume g r l k J=>intro Q E p s n I ⟨res,s',h1,h2⟩;exact{res,s',h1,J _ n (AK I<|wT h1) h2}|rule tag k J=>intro Q E p s n I h;exact J () n I h|«at» pos k J=>intro Q E p s n I h;exact J () n I h|alloc o k J=>intro Q E p s n I h;exact J _ n I h|loadIfAlive a k J=>intro Q E p s n I h;exact J _ n I h|point l k J=>intro Q E p s n I h;exact J _ n I h|ask k J=>intro Q E p s n I h;exact J _ n I h|os q l k J=>intro Q E p s n I h;exact J _ n I h|handled own k J=>intro Q E p s n I h;exact J _ n I h|newGen c k J=>intro Q E p s n I h;exact J _ n I h|stack k J=>intro Q E p s n I h;exact J _ n I h|thread k J=>intro Q E p s n I h;exact J _ n I h|unsupported w=>intro Q E p s n I h;exact h.elim|finish e=>intro Q E p s n I h;exact h.elim|register a k J=>intro Q E p s n I h;exact h.elim|yield v g l k J=>intro Q E p s n I h;exact h.elim|fork c k J=>intro Q E p s n I h;exact h.elim|await a f d l k J=>intro Q E p s n I h;exact h.elim
def wV{α:Type}{M:Model}{A:Around}{t:Sem α}{Q:α->WD->Prop}{E:Wm}{s:WD}(h:wpAny M A t Q E s):wpAny M A t (λa s'=>Q a s'/\s.toks<=s'.toks) (λe s'=>E e s'/\s.toks<=s'.toks) s:=
 λJ p I=>Me t s.toks (An _)<|h J p I
def ji{α:Type}{M:Model}{A:Around}{t:Sem α}{Q:α->WD->Prop}{E:Wm}{s:WD}(hp:0<s.toks)(h:wpAny M A t (λa s'=>0<s'.toks->Q a s') (λe s'=>0<s'.toks->E e s') s):wpAny M A t Q E s:=
 AX (wV h) (λ_ _ z=>z.1<|AS hp z.2) λ_ _ z=>z.1<|AS hp z.2
variable {M:PySem.Model}{apos eK pj np p p1 p2 p3 p4 p5 pos fx py tp:PySem.Pos}{t t1 t2:Bool}{s s':PySem.Shared}{c e nC o target tg value:PySem.Expr}{α β γ κ:Type}{A:PySem.Around}{E Q xe:PySem.Value->PySem.Shared->Prop}{eA us vs:List PySem.Value}{cd eW fy oc pm u:PySem.Value}{base h h':PySem.Heap}{d i j kt m n na t' x1:Nat}{ch fp:List PySem.Addr}{C Pt dx f fa hp it ka l l1 l2 nd pa pb:PySem.Addr}{kx name px q eh x:PySem.Str}{pins:List<|PySem.Addr×PySem.Obj}{D hs ir ns pl qs:Wt}{st:PySem.Stmt}{ml es ny:List PySem.Expr}{body:List PySem.Stmt}{lo:Int}{mA mg:PySem.Str->Option PySem.Value}{kw:List<|PySem.Str×PySem.Value}{prog:PySem.Program}{env:PySem.Env}{fd:PySem.FuncData}{ps:List PySem.Str}{outer:List PySem.Env}{fm scope:PySem.Scope}{ct lk:Wp}{an od:Option PySem.Addr}{oi:Array<|Option PySem.Value}{fL rk:WA}{rks:Wx}{ad:Nat->PySem.Addr}
open PySem.Spec
abbrev j8:=Sum Int Str
def nQ:j8->WC->Bool
 |.inl k,v=>Value.isInt k v
 |.inr x,v=>Value.isStrOf x v
def Mf(w:WF):j8->Int
 |.inl k=>hashInt k
 |.inr x=>hashStr w x
theorem vm:∀{k:j8} {v:WC},nQ k v=true->(∃i t,k=Sum.inl i/\v=Value.int i t)\/(∃x t,k=Sum.inr x/\v=Value.str x t)
 |.inl i,v,h=>by obtain⟨t,e⟩:=Value.isInt_shape (k:=i) (v:=v) h;exact .inl {(i),t,rfl,e}
 |.inr x,v,h=>by obtain⟨t,e⟩:=Value.isStrOf_shape (x:=x) (v:=v) h;exact .inr {(x),t,rfl,e}
def Mg(i:Int)(t:Tok):nQ (.inl i) (.int i t)=true:=by simp[nQ,Value.isInt]
def Mh(x:Str)(t:Tok):nQ (.inr x) (.str x t)=true:=by simp[nQ,Value.isStrOf]
def Mi(a b:Int):decide ((Sum.inl a:j8)=Sum.inl b)=(a==b):=by
 by_cases e:a=b
 .subst e;simp
 .have h:¬(Sum.inl a:j8)=Sum.inl b:=λq=>e<|Ev q;rw[Ao h];exact(beq_eq_false_iff_ne.mpr e).symm
def Mj(a b:Str):decide ((Sum.inr a:j8)=Sum.inr b)=decide (a=b):=by
 by_cases e:a=b
 .subst e;simp
 .have h:¬(Sum.inr a:j8)=Sum.inr b:=λq=>e<|Sum.inr.inj q;rw[Ao h,Ao e]
def alt(a:Int)(b:Str):decide ((Sum.inl a:j8)=Sum.inr b)=false:=Ao λq=>nomatch q
def Ml(a:Str)(b:Int):decide ((Sum.inr a:j8)=Sum.inl b)=false:=Ao λq=>nomatch q
def xn(prog:WE)(w:WF):PySem.KeyKind prog w j8 where
 is:=nQ
 hash:=Mf w
 inj:=λv a b g U=>by
  rcases vm g with⟨i,t,rfl,rfl⟩|⟨x,t,rfl,rfl⟩
  .rcases vm U with⟨j,u,rfl,e⟩|⟨y,u,rfl,e⟩
   .injection e with I _;rw[I]
   .exact nomatch e
  .rcases vm U with⟨j,u,rfl,e⟩|⟨y,u,rfl,e⟩
   .exact nomatch e
   .injection e with I _;rw[I]
 byValue:=λk v h=>by rcases vm h with⟨i,t,rfl,rfl⟩|⟨x,t,rfl,rfl⟩<;>rfl
 pyHash:=λJ h=>by
  rcases vm J with⟨i,t,rfl,rfl⟩|⟨x,t,rfl,rfl⟩
  .exact wpAny_pyHash_int h
  .exact wpAny_pyHash_str h
 eqBool:=λl J h=>by
  rcases vm l with⟨i,t,rfl,rfl⟩|⟨x,t,rfl,rfl⟩
  .rcases vm J with⟨j,u,rfl,rfl⟩|⟨y,u,rfl,rfl⟩
   .rw[Mi] at h;exact wpAny_eqBool_int h
   .rw[alt] at h;exact SeqAt.EqAt.int_str i t y u _ _ _ _ h
  .rcases vm J with⟨j,u,rfl,rfl⟩|⟨y,u,rfl,rfl⟩
   .rw[Ml] at h;exact SeqAt.EqAt.str_int x t j u _ _ _ _ h
   .rw[Mj] at h;exact wpAny_eqBool_str h
 «strs» := λk x t v h=>by
  rcases vm h with⟨i,u,rfl,e⟩|⟨y,u,rfl,e⟩
  .exact nomatch e
  .injection e with I _
   subst I;cases v<;>rfl
def vU(prog:WE)(w:WF)(i:Int)(t:Tok):(xn prog w).is (.inl i) (.int i t)=true:=Mg i t
def vK(prog:WE)(w:WF)(x:Str)(t:Tok):(xn prog w).is (.inr x) (.str x t)=true:=Mh x t
set_option genInjectivity true in
inductive V where
 |KB|bl (b:Bool)|int (i:Int)|str (x:Str)|Zh (b:Array UInt8)|X8 (b:UInt64)|ref (a:Addr)|ty (n:WH)
 deriving DecidableEq
abbrev WJ:=Option V
abbrev WI:=List V
def zo:V->WC->Prop
 |.KB,u=>u=Value.none
 |.bl b,u=>u=Value.bool b
 |.int i,u=>∃t,u=Value.int i t
 |.str x,u=>∃t,u=Value.str x t
 |.Zh b,u=>∃t,u=Value.bytes b t
 |.X8 b,u=>∃t,u=Value.float b t
 |.ref a,u=>u=Value.ref a
 |.ty n,u=>u=Value.type n
abbrev zk:WI->Wr->Prop:=Paired zo
theorem zk.length{xs:WI}(r:zk xs us):xs.length=us.length:=Paired.length r
theorem zk.get:∀{xs:WI} {us:Wr} {i:Nat} {x:V},zk xs us->xs[i]?=some x->∃u,us[i]?=some u/\zo x u
 |_,_,_,_,.nil,e=>by simp at e
 |_,_,0,_,.cons r _,e=>by simp at e;subst e;exact{_,rfl,r}
 |_,_,i+1,x,.cons _ t,e=>by obtain⟨u,h1,h2⟩:=zk.get (i:=i) (x:=x) t (by simpa using e);exact{u,by simpa using h1,h2}
theorem zk.set{x:V}{u:WC}(r:zo x u):∀{xs:WI} {us:Wr} (i:Nat),zk xs us->zk (xs.set i x) (us.set i u)
 |_,_,_,.nil=>.nil
 |_,_,0,.cons _ t=>.cons r t
 |_,_,i+1,.cons q t=>.cons q<|zk.set r i t
def zk.append:∀{xs ys:WI} {us I:Wr},zk xs us->zk ys I->zk (xs++ys) (us++I):=by
 intro xs ys us I h s
 induction h with|nil=>exact s|cons r t J=>exact .cons r J
theorem zk.take:∀{xs:WI} {us:Wr} (n:Nat),zk xs us->zk (xs.take n) (us.take n)
 |_,_,0,_=>.nil
 |_,_,_+1,.nil=>.nil
 |_,_,n+1,.cons r t=>.cons r<|zk.take n t
theorem zk.drop:∀{xs:WI} {us:Wr} (n:Nat),zk xs us->zk (xs.drop n) (us.drop n)
 |_,_,0,r=>r
 |_,_,_+1,.nil=>.nil
 |_,_,n+1,.cons _ t=>zk.drop n t
def fY:WJ->Wy->Prop
 |some v,some u=>zo v u
 |none,none=>True
 |_,_=>False
def KV :List (κ×V)->List (κ×WC)->Prop:=Paired λ(p:κ×V) (q:κ×WC)=>p.1=q.1/\zo p.2 q.2
def kV:j8->V
 |.inl i=>.int i
 |.inr x=>.str x
inductive HO where
 |lst (xs:WI)
 |tup (xs:WI)
 |dK (kvs:List<|j8×V)
 |ins (C dx:Addr) (fs:List<|Str×V)
 |own (x:Addr)
 |XE (lo hi:Int)
 |Pv (o:Obj) (u:HO)
 |Xn (ps:Ws)
abbrev Hp:=Addr->Option HO
def upd(H:Hp)(a:Addr)(o:HO):Hp:=λb=>if b=a then some o else H b
def zf{H:Hp}{a:Addr}{o:HO}:upd H a o a=some o:=by unfold upd;rw[Ar rfl]
def qo{H:Hp}{a b:Addr}{o:HO}(h:b≠a):upd H a o b=H b:=by unfold upd;rw[Ap h]
def Mm{H:Hp}{a:Addr}{o u:HO}:upd (upd H a o) a u=upd H a u:=by funext b;unfold upd;split<;>rfl
def ye{H:Hp}{a b:Addr}{o u:HO}(h:H a=some o)(h':H b=some u)(d:o≠u):a≠b:=by intro e;subst e;rw[h] at h';exact d<|AJ h'
def ja{H:Hp}{a b:Addr}{o:HO}(h:H a=some o)(h':H b=none):a≠b:=by intro e;subst e;rw[h] at h';cases h'
section
variable (P:WE)(w:WF)
def xh(H:Hp)(h:WG)(a:Addr):HO->Prop
 |.lst xs=>xs.length<=sizeLine/\∃(eA:Wr) (n:Nat),zk xs eA/\h.get? a=some {cls:=.type "list",data:=.seq eA.toArray n}
 |.tup xs=>xs.length<=sizeLine/\∃eA:Wr,zk xs eA/\IsTup h a eA.toArray
 |.dK kvs=>kvs.length<=sizeLine/\(a==sysModules)=false/\∃vs,KV kvs vs/\h.DictOf (xn P w) a vs
 |.ins C dx fs=>H dx=some (.own a)/\fs.length<=1000/\dx≠a/\h.get? a=some (PySem.W.instObj C dx)/\
  ∃mA,h.Ns1 dx mA/\(∀f,fY (fs.lookup f)<|mA f)/\PySem.Within mA (fs.map (·.1))
 |.own _=>∃o,h.get? a=some o
 |.XE lo hi=>∃t u v,h.get? a=some {cls:=.type "range",data:=.fields #[.int lo t,.int hi u,.int 1 v]}
 |.Pv o u=>h.get? a=some o/\xh H h a u
 |.Xn ps=>h.get? a=some {cls:=.none,data:=.fields ps}
def fD(H:Hp)(h:WG):Prop:=∀a o,H a=some o->xh P w H h a o
end
section
variable {P:WE}{w:WF}{H H':Hp}{a:Addr}{o:HO}
theorem xh.lt(x:xh P w H h a o):a<h.objs.size:=by
 cases o with
 |lst I=>obtain⟨_,_,_,_,e⟩:=x;exact u3 e
 |tup I=>obtain⟨_,_,_,p⟩:=x;exact p.lt
 |dK J=>obtain⟨_,_,_,_,o,_,_,e,_⟩:=x;exact u3 e
 |ins C U fs=>obtain⟨_,_,_,e,_⟩:=x;exact u3 e
 |own y=>obtain⟨_,e⟩:=x;exact u3 e
 |XE lo g=>obtain⟨_,_,_,e⟩:=x;exact u3 e
 |Pv ob u=>obtain⟨e,_⟩:=x;exact u3 e
 |Xn j=>exact u3<|show h.get? a=some _ from x
def Paired.ZA{F G:α->β->Prop}:∀{l₁:List α} {l₂:List β},Paired F l₁ l₂->(∀a b,F a b->G a b)->Paired G l₁ l₂:=by
 intro l₁ l₂ h f
 induction h with|nil=>exact .nil|cons r t I=>exact .cons (f _ _ r) I
abbrev EY:=@Paired.ZA
def xh.SZ(x:xh P w H h a o)(k:∀b u,(b=a\/H b=some (.own a))->h.get? b=some u->h'.get? b=some u)
 (g:∀b,H b=some (.own a)->H' b=some (.own a)) (ht:∀b xs,H b=some (.tup xs)->H' b=some (.tup xs)):xh P w H' h' a o:=by
 induction o with
 |lst xs=>obtain⟨z,I,n,r,e⟩:=x;exact{z,I,n,r,k _ _ (.inl rfl) e}
 |tup xs=>obtain⟨z,I,r,ob,e,c⟩:=x;exact{z,I,r,ob,k _ _ (.inl rfl) e,c}
 |dK j=>obtain⟨z,y,l,r,ob,J,U,e,c⟩:=x;exact{z,y,l,r,ob,J,U,k _ _ (.inl rfl) e,c}
 |ins C dx fs=>
  obtain⟨d,z,ne,e,p,⟨T,J,U,e2,c⟩,r⟩:=x;exact{g _ d,z,ne,k _ _ (.inl rfl) e,p,{T,J,U,k _ _ (.inr d) e2,c},r}
 |own y=>obtain⟨ob,e⟩:=x;exact{ob,k _ _ (.inl rfl) e}
 |XE lo hi=>obtain⟨t,u,v,e⟩:=x;exact{t,u,v,k _ _ (.inl rfl) e}
 |Pv ob u ih=>obtain⟨e,q⟩:=x;exact{k _ _ (.inl rfl) e,ih q}
 |Xn ps=>
  have e:=x;exact k a _ (.inl rfl) e
theorem fD.lt(x:fD P w H h)(e:H a=some o):a<h.objs.size:=(x a o e).lt
def fD.fresh(x:fD P w H h)(e:h.objs.size<=a):H a=none:=by cases q:H a with|none=>rfl|some u=>exact absurd (AS (x.lt q) e)<|Cj _
def fD.kept(x:fD P w H h)(k:∀b u,h.get? b=some u->h'.get? b=some u):fD P w H h':=λa o e=>
 (x a o e).SZ (λb u _ q=>k b u q) (λ_ q=>q) λ_ _ q=>q
def fD.laid(x:fD P w H h)(k:∀b u,h.get? b=some u->h'.get? b=some u)(hp:h.objs.size<=a)(new:xh P w (upd H a o) h' a o):fD P w (upd H a o) h':=λb u e=>by
 have I:=x.fresh hp;by_cases J:b=a
 .subst J;rw[zf] at e;cases e;exact new
 .rw[qo J] at e;exact(x b u e).SZ (λc v _ q=>k c v q) (λc q=>by rw[qo<|ja q I];exact q) λc U q=>by rw[qo<|ja q I];exact q
end
def Rd(H:Hp)(a:Addr)(u:HO):Prop:=H a=some u\/∃o,H a=some (.Pv o u)
def Rd.ok{P:WE}{w:WF}{H:Hp}{a:Addr}{u:HO}(r:Rd H a u)(x:fD P w H h):xh P w H h a u:=by
 rcases r with r|⟨o,r⟩
 .exact x a u r
 .obtain⟨_,q⟩:=x a _ r;exact q
def Ft:Option HO->Prop
 |⇑_=>True
 |some (.dK _)=>True
 |some (.ins _ _ _)=>True
 |_=>False
section
variable {P:WE}{w:WF}{H:Hp}{x e:Addr}{o':HO}
def fD.write(ok:fD P w H h)(g:Ft<|H x)(t:e=x\/H e=some (.own x))(k:∀b u,b≠e->h.get? b=some u->h'.get? b=some u)(p:∃u,h'.get? e=some u)
 (new:xh P w (upd H x o') h' x o'):fD P w (upd H x o') h':=λb u q=>by
 have J:∀c y,H c=some (.own y)->c≠x:=λc y r z=>by subst z;rw[r] at g;exact g
 have U:∀c j,H c=some (.tup j)->c≠x:=λc j r z=>by subst z;rw[r] at g;exact g
 by_cases l:b=x
 .subst l;rw[zf] at q;cases q;exact new
 .rw[qo l] at q;by_cases I:b=e
  .have C:H b=some (.own x):=by
    rcases t with z|z
    .exact absurd (I.trans z) l
    .rw[I];exact z
   rw[q] at C;cases C;obtain⟨v,T⟩:=p;exact{v,by rw[I];exact T}
  .refine(ok b u q).SZ (λc v o r=>k c v ?_ r) (λc r=>by rw[qo<|J c b r];exact r) λc j r=>by rw[qo<|U c j r];exact r
   rcases o with rfl|o
   .exact I
   .rintro rfl;rcases t with z|z
    .exact J c b o z
    .rw[o] at z;cases z;exact l rfl
end
structure Un(fs ex:List Addr)(H H':Hp)(h h':WG):Prop where
 keep:∀b o,h.get? b=some o->H b=none->b∉fs->b∉ex->h'.get? b=some o
 slot:∀b o,h.get? b=some o->H b=none->b∈fs->b∉ex->∃sl,h'.get? b=some {o with slots:=sl}
 free:∀b o,h.get? b=some o->H b=none->b∉ex->H' b=none
 there:∀b o,h.get? b=some o->b∉ex->∃o',h'.get? b=some o'
 WY:∀b xs,H b=some (.tup xs)->H' b=some (.tup xs)
 W3:∀b o u,H b=some (.Pv o u)->H' b=some (.Pv o u)
 W9:∀b ps,H b=some (.Xn ps)->∃more,H' b=some (.Xn<|ps++more)
section
variable {fs fs' ex ex':List Addr}{H H1 H2:Hp}{h1 h2:WG}{a x e:Addr}{o:HO}
def Un.any(u:Un fs ex H H1 h h1){b:Addr}{ob:Obj}(q:h.get? b=some ob)(n:H b=none)(I:b∉ex):∃U,h1.get? b=some {ob with slots:=U}:=by
 by_cases J:b∈fs
 .exact u.slot b ob q n J I
 .exact{ob.slots,u.keep b ob q n J I}
def Un.kept(k:∀b u,h.get? b=some u->h'.get? b=some u):Un fs ex H H h h':=
 ⟨λb ob q _ _ _=>k b ob q,λb ob q _ _ _=>{ob.slots,k b ob q},λ_ _ _ n _=>n,λb ob q _=>{ob,k b ob q},λ_ _ q=>q,λ_ _ _ q=>q,λ_ I q=>{#[],by rw[q];simp}⟩
def Un.refl:Un fs ex H H h h:=Un.kept λ_ _ q=>q
def Un.laid(k:∀b u,h.get? b=some u->h'.get? b=some u)(hp:h.objs.size<=a)(I:H a=none):Un fs ex H (upd H a o) h h' where
 keep:=λb u q _ _ _=>k b u q
 slot:=λb u q _ _ _=>{u.slots,k b u q}
 free:=λb u q n _=>by rw[qo<|A3<|AS (u3 q) hp];exact n
 there:=λb u q _=>{u,k b u q}
 WY:=λb J q=>by rw[qo<|ja q I];exact q
 W3:=λb u J q=>by rw[qo<|ja q I];exact q
 W9:=λb U q=>{#[],by rw[qo<|ja q I,q];simp}
def Un.write(J:Ft<|H x)(p:e=x\/H e=some (.own x))(k:∀b u,b≠e->h.get? b=some u->h'.get? b=some u)(U:∃u,h'.get? e=some u):Un fs ex H (upd H x o) h h':=by
 have j:∀b,H b=none->b≠x:=λb n z=>by subst z;rw[n] at J;exact J
 have l:∀b,H b=none->b≠e:=λb n z=>by
  subst z;rcases p with r|r
  .exact j b n r
  .rw[n] at r;cases r
 have g:∀b u,H b=some u->¬Ft (some u)->b≠x:=λb u q nm z=>by subst z;rw[q] at J;exact nm J
 refine{λb u q n _ _=>k b u (l b n) q,λb u q n _ _=>{u.slots,k b u (l b n) q},λb u q n _=>by rw[qo<|j b n];exact n,λb u q _=>?_,
  λb t q=>by rw[qo<|g b _ q λz=>z];exact q,λb u t q=>by rw[qo<|g b _ q λz=>z];exact q,λb C q=>{#[],by rw[qo<|g b _ q λz=>z,q];simp}}
 by_cases I:b=e
 .subst I;exact U
 .exact{u,k b u I q}
end
def FZ(h:WG)(H:Hp):List Addr:=(List.range h.objs.size).filter λa=>(H a).isSome
def tI(h:WG)(H:Hp):WG:=PySem.W.hideAll h<|FZ h H
def Mn(h:WG)(H:Hp):(tI h H).objs.size=h.objs.size:=PySem.W.hideAll_size _ _
def Mo{H:Hp}{b:Addr}{o:Obj}(e:h.get? b=some o)(n:H b=none):(tI h H).get? b=some o:=
 C7 _ e λI=>by have q:=(Bu.mp I).2;rw[n] at q;simp at q
def Mp{H:Hp}{b:Addr}{o:Obj}(e:(tI h H).get? b=some o):h.get? b=some o/\H b=none:=by
 have I:=CL (FZ h H) e;refine{I,?_};cases q:H b with
 |none=>rfl
 |some x=>
  have J:b∈FZ h H:=Bu.mpr {A9.mpr<|u3 I,by simp[q]};have z:(tI h H).get? b=none:=BY (FZ h H) J;rw[z] at e;cases e
variable {xs zs:List V}{H H' H₀:Hp}{v:V}
structure Mod(K:Ag)(mg:Wo)(base:WG):Prop where
 YF:K.In base
 glob:base.Ns mainGlobals mg
 blt:∃mb,base.Ns builtinsNs mb/\∀x:Str,x ≠ "__name__" -> mb x=bootBuiltins x
 nolimit:base.NoLimit
structure Cx where
 prog:WE
 w:WF
 K:Ag
 mg:Wo
 base:WG
 A:Around
 N:Wu
 s₀:WD
 H₀:Hp
 env:Env
 outer:List Env
 stack:List Env
 ex:List Addr
 fn:Str->Bool
 calm:Bool
 pn:List (Addr×Obj)
 xe:Wm
abbrev ZZ(X:Cx){α:Type}:=@wpAny α (model X.prog X.w) X.A
def cW(l:List Env):List Addr:=l.filterMap (·.frame)
abbrev Cx.fs(X:Cx):List Addr:=cW X.outer
def x_(I:Scope)(x:Str):Prop:=I.names.lookup x=some .local\/I.names.lookup x=some .cell\/I.names.lookup x=some .free
def yu(I:Scope)(x:Str):Prop:=I.names.lookup x=some .local\/I.names.lookup x=some .cell
def Mq(env:Env)(h:WG)(m:Wo)(x:Str)(u:WC):Prop:=
 (env.kindOf x=some .local/\m x=some u)\/((env.kindOf x=some .cell\/env.kindOf x=some .free)/\∃c,env.cells.lookup x=some c/\h.IsCell c (some u))
structure Cx.Ok(X:Cx):Prop where
 mod:Mod X.K X.mg X.base
 kind:X.env.scope.kind=.function
 glob:X.env.globals=mainGlobals
 blt:X.env.builtins=builtinsNs
 above:X.s₀.heap.objs.size<=X.env.locals
 inj:∀x y c,X.env.cells.lookup x=some c->X.env.cells.lookup y=some c->x=y
 has:∀x,(X.env.kindOf x=some .cell\/X.env.kindOf x=some .free)->∃c,X.env.cells.lookup x=some c
 YA:∀x c,X.fn x=true->X.env.cells.lookup x=some c->X.s₀.heap.objs.size<=c
 hd:X.calm=true->X.A.handled=none
 frames:X.A.frames=some X.stack
 YG:X.stack=X.outer\/(X.stack=X.env::X.outer/\X.env.frame=some X.env.locals)
 YQ:∀b∈X.ex,b≠X.env.locals/\∀x c,X.env.cells.lookup x=some c->c≠b
 bs:∀b o,X.base.get? b=some o->X.s₀.heap.get? b=some o/\X.H₀ b=none
 XY:X.base.objs.size<=X.s₀.heap.objs.size
 Xi:∀b o,X.base.get? b=some o->b∉X.ex
 Xj:∀b∈X.ex,b∉X.fs
 WK:X.s₀.heap.FunFrames X.base X.outer
 X9:∀b∈X.fs,X.H₀ b=none
structure qx(X:Cx)(pins:List<|Addr×Obj)(σ:List<|WJ)(H:Hp)(s:WD):Prop where
 ok:X.Ok
 os:s.os=X.s₀.os
 bare:AllBare s.gens
 base:Un X.fs X.ex X.H₀ H X.s₀.heap s.heap
 loc:∃m,s.heap.Ns X.env.locals m/\∀(i:Nat) (x:Str) (v:V),X.N[i]?=some x->σ[i]?=some (some v)->x_ X.env.scope x->∃u,zo v u/\Mq X.env s.heap m x u
 cell:∀x c,X.env.cells.lookup x=some c->∃v,s.heap.IsCell c v
 free:H X.env.locals=none
 On:∀x c,X.env.cells.lookup x=some c->H c=none
 pin:∀p∈X.pn++pins,s.heap.get? p.1=some p.2/\H p.1=none/\p.1≠X.env.locals/\p.1∉X.fs/\∀v,p.2.data≠.cell v
 GT:fD X.prog X.w H s.heap
 len:σ.length=X.N.length
 tk:0<s.toks
section
variable {X:Cx}{σ:List<|WJ}
theorem Cx.Ok.ZC(ok:X.Ok){b:Addr}{o:Obj}(e:X.base.get? b=some o):b∉X.fs:=λI=>by have:=(ok.WK.mem I).1;rw[e] at this;cases this
theorem qx.bs(I:qx X pins σ H s):∀b o,X.base.get? b=some o->s.heap.get? b=some o/\H b=none:=λb o e=>
 ⟨I.base.keep b o (I.ok.bs b o e).1 (I.ok.bs b o e).2 (I.ok.ZC e)<|I.ok.Xi b o e,I.base.free b o (I.ok.bs b o e).1 (I.ok.bs b o e).2<|I.ok.Xi b o e⟩
def qx.bk(I:qx X pins σ H s):∀b o,X.base.get? b=some o->s.heap.get? b=some o:=λb o e=>(I.bs b o e).1
theorem qx.mod(I:qx X pins σ H s):Mod X.K X.mg X.base:=I.ok.mod
def qx.SC(I:qx X pins σ H s):X.K.In s.heap:=I.ok.mod.YF.keeps I.bk
theorem qx.nolimit(I:qx X pins σ H s):s.heap.NoLimit:=I.ok.mod.nolimit.keeps I.bk
theorem qx.lt(I:qx X pins σ H s):X.env.locals<↥s:=let ⟨_,J,_⟩:=I.loc;J.lt
def qx.sz(I:qx X pins σ H s):X.s₀.heap.objs.size<=↥s:=AK I.ok.above<|Bo I.lt
def qx.YX(I:qx X pins σ H s){a:Addr}(h:↥s<=a):a∉X.fs:=λJ=>by obtain⟨_,o,U,_⟩:=I.ok.WK.mem J;exact absurd (AS (u3 U)<|AK I.sz h)<|Cj _
def qx.YY(I:qx X pins σ H s):∀x c,X.env.cells.lookup x=some c->c≠X.env.locals:=λx c e z=>by obtain⟨v,o,g,hd⟩:=I.cell x c e;obtain⟨m,⟨j,l,p,J,U,_⟩,_⟩:=I.loc;rw[z,J] at g;cases g;rw[U] at hd;cases hd
theorem qx.WK(I:qx X pins σ H s):s.heap.FunFrames X.base X.outer:=by
 have all:∀(l:List Env),(∀b∈cW l,b∈X.fs)->X.s₀.heap.FunFrames X.base l->s.heap.FunFrames X.base l:=by
  intro l
  induction l with
  |nil=>intro _ _;trivial
  |cons p r t=>
   rintro j⟨T,⟨L,o,J,hn,ho,hd⟩,hr⟩;have U:=j L (by unfold cW;rw[CD,J];exact As);obtain⟨sl,e⟩:=I.base.slot L o ho (I.ok.X9 L U) U λz=>I.ok.Xj L z U;exact{T,{L,_,J,hn,e,hd},t (λb g=>j b (by unfold cW;rw[CD,J];exact Al _ g)) hr}
 exact all X.outer (λ_ g=>g) I.ok.WK
def qx.stack(I:qx X pins σ H s):s.heap.FunFrames X.base X.stack:=by
 rcases I.ok.YG with e|⟨e,J⟩
 .rw[e];exact I.WK
 .rw[e];obtain⟨m,U,_⟩:=I.loc;refine .cons (by rw[I.ok.kind];decide) J U ?_ I.WK;exact Heap.get?_none_of_le<|AK I.ok.XY I.ok.above
def qx.W2(I:qx X pins σ H s):∀b∈cW X.stack,b∈X.env.locals::X.fs:=λb J=>by
 rcases I.ok.YG with e|⟨e,U⟩
 .rw[e] at J;exact Al _ J
 .rw[e] at J;unfold cW at J;rw[CD,U] at J;exact J
def qx.Xs(I:qx X pins σ H s):∀b∈cW X.stack,H b=none:=λb J=>by
 rcases Aw.mp (I.W2 b J) with e|J
 .rw[e];exact I.free
 .obtain⟨_,o,U,_⟩:=I.ok.WK.mem J;exact I.base.free b o U (I.ok.X9 b J) λz=>I.ok.Xj b z J
def qx.step{g':Array GenState}{d':Drawn}(I:qx X pins σ H s)
 (U:∀b∈ch,(b∈X.ex\/X.s₀.heap.objs.size<=b)/\b≠X.env.locals/\(∀x c,X.env.cells.lookup x=some c->c≠b)/\∀p∈X.pn++pins,p.1≠b)
 (keep:∀b o,b≠X.env.locals->b∉X.fs->b∉ch->s.heap.get? b=some o->H b=none->h'.get? b=some o)
 (slot:∀b o,b≠X.env.locals->b∈X.fs->b∉ch->s.heap.get? b=some o->H b=none->∃sl,h'.get? b=some {o with slots:=sl}) (free:∀b o,b∉ch->s.heap.get? b=some o->H b=none->H' b=none)
 (there:∀b o,b∉ch->s.heap.get? b=some o->∃o',h'.get? b=some o')
 (WY:∀b xs,H b=some (.tup xs)->H' b=some (.tup xs)) (W3:∀b o u,H b=some (.Pv o u)->H' b=some (.Pv o u)) (W9:∀b ps,H b=some (.Xn ps)->∃more,H' b=some (.Xn<|ps++more))
 (ns:∀m,s.heap.Ns X.env.locals m->h'.Ns X.env.locals m) (GT:fD X.prog X.w H' h') (hg:AllBare g') (ht:0<t':=by walk_at "t"):
 qx X pins σ H' {s with heap:=h',gens:=g',drawn:=d',toks:=t'}:=by
 have vh:∀b o,X.s₀.heap.get? b=some o->b≠X.env.locals:=λb o e=>A3<|AS (u3 e) I.ok.above;have t:∀b o,X.s₀.heap.get? b=some o->b∉X.ex->b∉ch:=λb o e J T=>by
  rcases (U b T).1 with z|z
  .exact J z
  .exact absurd (AS (u3 e) z)<|Cj _
 have g:∀x c,X.env.cells.lookup x=some c->∀v,s.heap.IsCell c v->h'.IsCell c v:=λx c e v ⟨o,ho,hd⟩=>by
  have j:c∉ch:=λz=>(U c z).2.2.1 x c e rfl;by_cases hc:c∈X.fs
  .obtain⟨sl,q⟩:=slot c o (I.YY x c e) hc j ho<|I.On x c e;exact{_,q,hd}
  .exact{o,keep c o (I.YY x c e) hc j ho<|I.On x c e,hd}
 refine{I.ok,I.os,hg,{λb o e n T J=>?_,λb o e n T J=>?_,λb o e n J=>?_,λb o e J=>?_,λb xs e=>WY b xs<|I.base.WY b xs e,λb o xs e=>W3 b o xs<|I.base.W3 b o xs e,λb ps e=>?_},?_,λx c e=>?_,?_,λx c e=>?_,λp hp=>?_,GT,I.len,ht}
 .exact keep b o (vh b o e) T (t b o e J) (I.base.keep b o e n T J)<|I.base.free b o e n J
 .obtain⟨sl,C⟩:=I.base.slot b o e n T J;obtain⟨a1,e2⟩:=slot b _ (vh b o e) T (t b o e J) C<|I.base.free b o e n J;exact{(a1),e2}
 .obtain⟨o',C⟩:=I.base.there b o e J;exact free b o' (t b o e J) C<|I.base.free b o e n J
 .obtain⟨o',C⟩:=I.base.there b o e J;exact there b o' (t b o e J) C
 .obtain⟨m1,C⟩:=I.base.W9 b ps e;obtain⟨m2,e2⟩:=W9 b _ C;exact{m1++m2,by rw[e2,Array.append_assoc]}
 .obtain⟨m,hn,hl⟩:=I.loc;refine{m,ns m hn,λi x v C e2 e3=>?_};obtain⟨u,r,l⟩:=hl i x v C e2 e3;refine{u,r,?_};rcases l with l|⟨k,c,e,z⟩
  .exact .inl l
  .exact .inr {k,c,e,g x c e _ z}
 .obtain⟨v,z⟩:=I.cell x c e;exact{v,g x c e v z}
 .obtain⟨m,⟨o,_,_,ho,_⟩,_⟩:=I.loc;exact free _ o (λz=>(U _ z).2.1 rfl) ho I.free
 .obtain⟨v,o,ho,hd⟩:=I.cell x c e;exact free c o (λz=>(U c z).2.2.1 x c e rfl) ho<|I.On x c e
 .obtain⟨e,n,ne,nf,d⟩:=I.pin p hp;have j:p.1∉ch:=λz=>(U p.1 z).2.2.2 p hp rfl;exact{keep p.1 p.2 ne nf j e n,free p.1 p.2 j e n,ne,nf,d}
def qx.un(I:qx X pins σ H s)(u:Un X.fs [] H H' s.heap h')(GT:fD X.prog X.w H' h')(T:0<t':=by walk_at "t"):qx X pins σ H' {s with heap:=h',toks:=t'}:=by obtain⟨m,⟨o,es,ep,l,r⟩,_⟩:=id I.loc;obtain⟨sl,p⟩:=u.any l I.free (by simp);exact I.step (g':=s.gens) (d':=s.drawn) (ch:=[]) (λ_ z=>nomatch z) (λb o _ U _ e n=>u.keep b o e n U (by simp)) (λb o _ U _ e n=>u.slot b o e n U (by simp)) (λb o _ e n=>u.free b o e n (by simp)) (λb o _ e=>u.there b o e (by simp)) u.WY u.W3 u.W9 (λm' t=>by obtain⟨o',g,j,J,C⟩:=t;rw[l] at J;cases J;exact{_,g,j,p,C}) GT I.bare
def qx.call{g':Array GenState}{d':Drawn}(I:qx X pins σ H s)(u:Un (cW X.stack) ch H H' s.heap h')(GT:fD X.prog X.w H' h')(T:AllBare g')
 (U:∀b∈ch,(b∈X.ex\/X.s₀.heap.objs.size<=b)/\b≠X.env.locals/\(∀x c,X.env.cells.lookup x=some c->c≠b)/\∀p∈X.pn++pins,p.1≠b) (ht:0<t':=by walk_at "t"):
 qx X pins σ H' {s with heap:=h',gens:=g',drawn:=d',toks:=t'}:=by
 obtain⟨m,⟨o,es,ep,C,r⟩,_⟩:=id I.loc;obtain⟨sl,j⟩:=u.any C I.free λz=>(U _ z).2.1 rfl;exact I.step (ch:=ch) U (λb o j hb J e n=>u.keep b o e n (λz=>(Aw.mp<|I.W2 b z).elim j hb) J) (λb o _ _ J e n=>u.any e n J) (λb o J e n=>u.free b o e n J) (λb o J e=>u.there b o e J) u.WY u.W3 u.W9 (λm' hm=>by obtain⟨o',l,t,g,r'⟩:=hm;rw[C] at g;cases g;exact{_,l,t,j,r'}) GT T
def qx.turned(I:qx X pins σ H s)(k:∀b o,b≠it->s.heap.get? b=some o->h'.get? b=some o)(j:H it=none)(g:it≠X.env.locals)
 (h1:it∈X.ex\/X.s₀.heap.objs.size<=it) (h2:∀x c,X.env.cells.lookup x=some c->c≠it) (h3:∀p∈X.pn++pins,p.1≠it) (ht:0<t':=by walk_at "t"):qx X pins σ H {s with heap:=h',toks:=t'}:=by
 have U:∀b u,H b=some u->b≠it:=λb u e z=>by rw[z,j] at e;cases e
 refine I.step (g':=s.gens) (d':=s.drawn) (ch:=[it]) (λb l=>?_) (λb o _ _ J e _=>k b o (λz=>J (by simp[z])) e) (λb o _ _ J e _=>{o.slots,k b o (λz=>J (by simp[z])) e}) (λ_ _ _ _ n=>n)
  (λb o J e=>{o,k b o (λz=>J (by simp[z])) e}) (λ_ _ e=>e) (λ_ _ _ e=>e) (λb ps e=>{#[],by rw[e];simp}) (λm t=>?_) (λb u e=>?_) I.bare
 .have e:b=it:=by simpa using l
  subst e;exact{(h1),g,h2,h3}
 .obtain⟨o,C,T,ho,r⟩:=t;exact{o,C,T,k _ o (AE g) ho,r}
 .refine(I.GT b u e).SZ (λc v J q=>k c v ?_ q) (λ_ q=>q) λ_ _ q=>q;rcases J with z|z
  .rw[z];exact U b u e
  .exact U c _ z
def qx.tok(I:qx X pins σ H s)(t:Nat)(J:0<t:=by walk_at "t"):qx X pins σ H {s with toks:=t}:=I.un (h':=s.heap) (t':=t) Un.refl I.GT
theorem qx.kept(I:qx X pins σ H s)(k:∀b u,s.heap.get? b=some u->h'.get? b=some u)(J:0<t':=by walk_at "t"):qx X pins σ H {s with heap:=h',toks:=t'}:=I.un (Un.kept k)<|I.GT.kept k
theorem qx.laid{a:Addr}{o:HO}(I:qx X pins σ H s)(k:∀b u,s.heap.get? b=some u->h'.get? b=some u)(hp:↥s<=a)(new:xh X.prog X.w (upd H a o) h' a o)(J:0<t':=by walk_at "t"):
 qx X pins σ (upd H a o) {s with heap:=h',toks:=t'}:=I.un (Un.laid k hp<|I.GT.fresh hp)<|I.GT.laid k hp new
theorem qx.write{x e:Addr}{o:HO}(I:qx X pins σ H s)(U:Ft<|H x)(g:e=x\/H e=some (.own x))(k:∀b u,b≠e->s.heap.get? b=some u->h'.get? b=some u)(J:∃u,h'.get? e=some u)
 (new:xh X.prog X.w (upd H x o) h' x o) (j:0<t':=by walk_at "t"):qx X pins σ (upd H x o) {s with heap:=h',toks:=t'}:=I.un (Un.write U g k J)<|I.GT.write U g k J new
def qx.weak{hQ:List<|WJ}(I:qx X pins σ H s)(U:hQ.length=σ.length)(w:∀(i:Nat) v,hQ[i]?=some (some v)->σ[i]?=some (some v)):qx X pins hQ H s:=
 ⟨I.ok,I.os,I.bare,I.base,let ⟨m,g,J⟩:=I.loc;⟨m,g,λi x v j l o=>J i x v j (w i v l) o⟩,I.cell,I.free,I.On,I.pin,I.GT,U.trans I.len,I.tk⟩
def qx.Xu{J:List<|Addr×Obj}(I:qx X pins σ H s)(h:∀p∈J,s.heap.get? p.1=some p.2/\H p.1=none/\p.1≠X.env.locals/\p.1∉X.fs/\∀v,p.2.data≠.cell v):qx X J σ H s:=
 ⟨I.ok,I.os,I.bare,I.base,I.loc,I.cell,I.free,I.On,λp U=>(Aj.mp U).elim (λz=>I.pin p<|Am _ z)<|h p,I.GT,I.len,I.tk⟩
def u9{N:Wu}(hN:N.Nodup)(a:N[i]?=some x)(b:N[j]?=some x):i=j:=by obtain⟨h1,I⟩:=AM.mp a;obtain⟨h2,J⟩:=AM.mp b;exact(List.getElem_inj hN).mp (I.trans J.symm)
def qJ{Q:Wn}(I:qx X pins σ H s)(hN:X.N.Nodup)(hi:X.N[i]?=some x)(t:yu X.env.scope x)(r:zo v u)
 (h:∀s',qx X pins (σ.set i<|some v) H s'->(∃a,Heap.SameBut a s.heap s'.heap/\(a=X.env.locals\/X.env.cells.lookup x=some a))->(X.env.kindOf x=some .local->∃m',s'.heap.Ns X.env.locals m'/\m' x=some u)->Q () s') (hf:X.fn x=true\/X.env.scope.names.lookup x=some .local:=by first|exact .inl rfl|exact .inr rfl|assumption):wpAny M A (storeName X.env x u) Q E s:=by
 obtain⟨m,hn,hl⟩:=id I.loc;have a3:(X.env.scope.kind==.class||(X.env.scope.kind==.module&&X.env.locals != X.env.globals))=false:=by rw[I.ok.kind];rfl
 have a1:i<σ.length:=by rw[I.len];exact(AM.mp hi).1
 have YY:=I.YY;have U:∀{a:Addr} {h':WG},(∃o,s.heap.get? a=some o/\H a=none)->Heap.SameBut a s.heap h'->fD X.prog X.w H h':=λ{a h'} ha J b ob e=>by
  obtain⟨_,_,C⟩:=ha;refine(I.GT b ob e).SZ (λc w' l q=>(J.2 c ?_).trans q) (λ_ q=>q) λ_ _ q=>q;rintro rfl;rcases l with rfl|l
  .rw[C] at e;cases e
  .rw[C] at l;cases l
 rcases t with T|T
 .refine wpAny_storeName_local T hn (λh' a4 J=>?_) a3;obtain⟨oL,_,_,aL,_⟩:=id hn;refine h _ {I.ok,I.os,I.bare,{λb o e n hb t=>?_,λb o e n hb t=>?_,I.base.free,λb o e t=>?_,I.base.WY,I.base.W3,I.base.W9},{_,a4,λj y v' g e2 e3=>?_},λy c e=>?_,I.free,I.On,λp hp=>?_,U {(oL),aL,I.free} J,by simpa using I.len,by first|exact I.tk|exact Cv _} {_,J,.inl rfl} λ_=>{_,a4,by simp}
  .exact(J.2 b<|A3<|AS (u3 e) I.ok.above).trans (I.base.keep b o e n hb t)
  .obtain⟨sl,g⟩:=I.base.slot b o e n hb t;exact{sl,(J.2 b<|A3<|AS (u3 e) I.ok.above).trans g}
  .obtain⟨o',g⟩:=I.base.there b o e t;exact{o',(J.2 b<|A3<|AS (u3 e) I.ok.above).trans g}
  .by_cases hj:j=i
   .subst hj;rw[hi] at g;cases g;rw[Cf a1] at e2;cases e2;exact{u,r,.inl {T,by simp}}
   .rw[Bp<|AE hj] at e2;obtain⟨u',r',q⟩:=hl j y v' g e2 e3;refine{u',r',?_};rcases q with⟨k,e⟩|⟨k,c,e,z⟩
    .refine .inl {k,?_};have:y≠x:=λe=>hj<|u9 hN g<|e▸hi;simp[this,e]
    .exact .inr {k,c,e,z.sameBut J<|YY y c e}
  .obtain⟨w',z⟩:=I.cell y c e;exact{w',z.sameBut J<|YY y c e}
  .obtain⟨e,n,ne,nf,d⟩:=I.pin p hp;exact{(J.2 p.1 ne).trans e,n,ne,nf,d}
 .have a2:X.fn x=true:=by
   rcases hf with z|z
   .exact z
   .rw[z] at T;cases T
  obtain⟨c,l⟩:=I.ok.has x<|.inl T;obtain⟨w',z⟩:=I.cell x c l;refine wpAny_storeName_cell I.ok.kind T l z λh' a5 J=>?_;obtain⟨oc,ac,al⟩:=id z;refine h {s with heap:=h'} {I.ok,I.os,I.bare,{λb o e n hb t=>?_,λb o e n hb t=>?_,I.base.free,λb o e t=>?_,I.base.WY,I.base.W3,I.base.W9},{m,hn.sameBut J<|AE<|YY x c l,λj y v' g e2 e3=>?_},λy c' e=>?_,I.free,I.On,λp hp=>?_,U {oc,ac,I.On x c l} J,by simpa using I.len,I.tk} {c,J,.inr l} (λz=>by have e:=(show X.env.kindOf x=some .cell from T).symm.trans z;cases e)
  .exact(J.2 b<|A3<|AS (u3 e)<|I.ok.YA x c a2 l).trans (I.base.keep b o e n hb t)
  .obtain⟨sl,g⟩:=I.base.slot b o e n hb t;exact{sl,(J.2 b<|A3<|AS (u3 e)<|I.ok.YA x c a2 l).trans g}
  .obtain⟨o',g⟩:=I.base.there b o e t;exact{o',(J.2 b<|A3<|AS (u3 e)<|I.ok.YA x c a2 l).trans g}
  .by_cases hj:j=i
   .subst hj;rw[hi] at g;cases g;rw[Cf a1] at e2;cases e2;exact{u,r,.inr {.inl T,c,l,a5}}
   .rw[Bp<|AE hj] at e2;obtain⟨u',r',q⟩:=hl j y v' g e2 e3;refine{u',r',?_};rcases q with q|⟨k,c',e,z'⟩
    .exact .inl q
    .refine .inr {k,c',e,z'.sameBut J ?_};rintro rfl;exact hj<|u9 hN g<|I.ok.inj _ _ _ e l▸hi
  .by_cases av:c'=c
   .subst av;exact{_,a5}
   .obtain⟨w2,z2⟩:=I.cell y c' e;exact{w2,z2.sameBut J av}
  .obtain⟨e,n,ne,nf,d⟩:=I.pin p hp;refine{(J.2 p.1 ?_).trans e,n,ne,nf,d};intro q;rw[q,ac] at e;have q':=AJ e;exact d w' (by rw[<-q'];exact al)
def br{Q:Wn}(I:qx X pins σ H s)(hN:X.N.Nodup)(hi:X.N[i]?=some x)(J:yu X.env.scope x)(r:zo v u)
 (h:∀s',qx X pins (σ.set i<|some v) H s'->Q () s') (U:X.fn x=true\/X.env.scope.names.lookup x=some .local:=by first|exact .inl rfl|exact .inr rfl|assumption):wpAny M A (storeName X.env x u) Q E s:=
 qJ I hN hi J r (λs' g _ _=>h s' g) U
def qx.XI(I:qx X pins σ H s)(U:s'.os=s.os)(u:Un (cW X.stack) ch H H' s.heap s'.heap)(GT:fD X.prog X.w H' s'.heap)(g:AllBare s'.gens)
 (J:∀b∈ch,(b∈X.ex\/X.s₀.heap.objs.size<=b)/\b≠X.env.locals/\(∀x c,X.env.cells.lookup x=some c->c≠b)/\∀p∈X.pn++pins,p.1≠b) (j:0<s'.toks:=by walk_at "t"):qx X pins σ H' s':=by
 obtain⟨l,g',d',t',o⟩:=s';have e:=U;subst e;exact I.call (g':=g') (t':=t') (d':=d') u GT g J j
end
abbrev XK:=WC->Option Addr->Hp->Prop
abbrev St:=List<|WJ
abbrev VK:=V->Hp->Prop
abbrev TE:=St->Hp->VK->Prop
abbrev TT:=St->Hp->(Bool->Hp->Prop)->Prop
abbrev TA:=St->Hp->(WI->Hp->Prop)->Prop
structure re where
 nx:St->Hp->Prop
 rt:VK
 bk:St->Hp->Prop:=λ_ _=>False
 ct:St->Hp->Prop:=λ_ _=>False
abbrev TS:=re->St->Hp->Prop
def EP(X:Cx)(pins:List<|Addr×Obj)(σ:St)(Q:VK)(u:WC)(s':WD):Prop:=∃v H',qx X pins σ H' s'/\zo v u/\Q v H'
def TP(X:Cx)(pins:List<|Addr×Obj)(σ:St)(Q:Bool->Hp->Prop)(b:Bool)(s':WD):Prop:=∃H',qx X pins σ H' s'/\Q b H'
def AP(X:Cx)(pins:List<|Addr×Obj)(σ:St)(Q:WI->Hp->Prop)(us:Wr)(s':WD):Prop:=∃vs H',qx X pins σ H' s'/\zk vs us/\Q vs H'
def SP(X:Cx)(pins:List<|Addr×Obj)(D:re)(f:Flow)(s':WD):Prop:=
 match f with
 |.next=>∃hQ H',qx X pins hQ H' s'/\D.nx hQ H'
 |.brk=>∃hQ H',qx X pins hQ H' s'/\D.bk hQ H'
 |.cont=>∃hQ H',qx X pins hQ H' s'/\D.ct hQ H'
 |.ret u=>∃v hQ H',qx X pins hQ H' s'/\zo v u/\D.rt v H'
def PE(X:Cx)(e:Expr)(t:TE):Prop:=
 ∀(pins:List<|Addr×Obj) (s:WD) (σ:St) (H:Hp) (Q:VK),qx X pins σ H s->t σ H Q->ZZ X (eval e X.env) (EP X pins σ Q) X.xe s
def PT(X:Cx)(e:Expr)(t:TT):Prop:=
 ∀(pins:List<|Addr×Obj) (s:WD) (σ:St) (H:Hp) (Q:Bool->Hp->Prop),qx X pins σ H s->t σ H Q->ZZ X (isTrue e X.env<|eval e X.env) (TP X pins σ Q) X.xe s
def PW(X:Cx)(e:Expr)(t:TT):Prop:=
 ∀(whole:Sem WC) (pins:List<|Addr×Obj) (s:WD) (σ:St) (H:Hp) (Q:Bool->Hp->Prop),qx X pins σ H s->t σ H Q->ZZ X (isTrue e X.env whole) (TP X pins σ Q) X.xe s
def PW.pt{X:Cx}{t:TT}(h:PW X e t):PT X e t:=h _
def PA(X:Cx)(es:Wv)(t:TA):Prop:=
 ∀(pos:Pos) (pins:List<|Addr×Obj) (s:WD) (σ:St) (H:Hp) (Q:WI->Hp->Prop),qx X pins σ H s->t σ H Q->ZZ X (spliced<|backTo pos<|starEach es X.env) (AP X pins σ Q) X.xe s
def PS(X:Cx)(st:Stmt)(t:TS):Prop:=
 ∀(pins:List<|Addr×Obj) (s:WD) (σ:St) (H:Hp) (D:re),qx X pins σ H s->t D σ H->ZZ X (exec st X.env) (SP X pins D) X.xe s
def hJ(X:Cx)(st:Ww)(t:TS):Prop:=
 ∀(pins:List<|Addr×Obj) (s:WD) (σ:St) (H:Hp) (D:re),qx X pins σ H s->t D σ H->ZZ X (execs st X.env) (SP X pins D) X.xe s
def aD{t:Sem α}{Q I:α->WD->Prop}(h:wpAny M A t Q E s)(J:∀a s,Q a s->I a s):wpAny M A t I E s:=AX h J λ_ _ x=>x
def aU{t:Sem WC}{X:Cx}{σ:St}{Q:VK}{I:Wm}(h:wpAny M A t (EP X pins σ Q) E s)(J:∀v s x H,qx X pins σ H s->zo x v->Q x H->I v s):wpAny M A t I E s:=aD h λv s ⟨x,H,a,b,c⟩=>J v s x H a b c
def vN{t:Sem<|Wr}{X:Cx}{σ:St}{Q:WI->Hp->Prop}{I:Wr->WD->Prop}(h:wpAny M A t (AP X pins σ Q) E s)(J:∀v s x H,qx X pins σ H s->zk x v->Q x H->I v s):wpAny M A t I E s:=aD h λv s ⟨x,H,a,b,c⟩=>J v s x H a b c
variable {r:V->Wz->Wz->Hp->VK->Prop}{X:Cx}{σ:St}{ty:TE}
section
def mH(i:Nat):TE:=λσ H Q=>∃v,σ[i]?=some (some v)/\Q v H
def tC(v:V):TE:=λ_ H Q=>Q v H
abbrev Fe(x:Str):Prop:=(x==("__debug__":Str))=false
abbrev Ff(x:Str):Prop:=(x==("__classdict__":Str))=false
def Mr(hN:X.N[i]?=some x)(p:x_ X.env.scope x)(hd:Fe x:=by decide)(j:Ff x:=by decide):PE X (.Name x pos) (mH i):=by
 rintro g s t H Q I⟨v,e,h⟩;obtain⟨m,C,T⟩:=I.loc;obtain⟨u,r,l⟩:=T i x v hN e p;have k8:EP X g t Q u s:={(v),H,I,r,h};rcases l with⟨U,hm⟩|⟨U,c,o,J⟩
 .exact wpAny_Name (wpAny_loadName_local I.ok.kind U C hm k8) hd
 .rcases U with U|U
  .exact wpAny_Name (wpAny_loadName_cell I.ok.kind U o J k8) hd
  .exact wpAny_Name (wpAny_loadName_free I.ok.kind U o J k8 j) hd
def HE{i j pos}:PE X (.Constant (.int i) j pos) (tC<|.int i):=λ_ _ _ H _ I h=>wpAny_Constant_int {.int i,H,I.tok _,{_,rfl},h}
def Ms{b j pos}:PE X (.Constant (.bool b) j pos) (tC<|.bl b):=λ_ _ _ H _ I h=>Constant_bool {.bl b,H,I,rfl,h}
def Mt{j pos}:PE X (.Constant .none j pos) (tC .KB):=λ_ _ _ H _ I h=>Constant_none {.KB,H,I,rfl,h}
def eJ{x j pos}:PE X (.Constant (.str x) j pos) (tC<|.str x):=λ_ _ _ H _ I h=>Calls.Constant_str {.str x,H,I.tok _,{_,rfl},h}
def Gl(X:Cx)(x:Str):Prop:=X.env.kindOf x=some .globalImplicit
def iQ(I:qx X pins σ H s)(J:Gl X x)(U:X.mg x=some u)(h:Q u s)
 (hd:Fe x:=by decide):ZZ X (eval (.Name x pos) X.env) Q E s:=
 Calls.Name_function_global I.ok.kind J (Calls.loadGlobal_global (by rw[I.ok.glob];exact I.mod.glob.keeps I.bk) U h) hd
def hU(I:qx X pins σ H s)(J:Gl X x)(U:X.mg x=none)(g:bootBuiltins x=some u)(h:Q u s)
 (j:x ≠ "__name__" := by decide) (hd:Fe x:=by decide):ZZ X (eval (.Name x pos) X.env) Q E s:=by
 obtain⟨l,h1,h2⟩:=I.mod.blt;exact Calls.Name_function_global I.ok.kind J (Calls.loadGlobal_builtin (by rw[I.ok.glob];exact I.mod.glob.keeps I.bk) U (by rw[I.ok.blt];exact h1.keeps I.bk) ((h2 x j).trans g) h) hd
def Mu(J:Gl X x)(U:X.mg x=none)(g:bootBuiltins x=some u)(r:zo v u)(j:x ≠ "__name__" := by decide)(hd:Fe x:=by decide):PE X (.Name x pos) (tC v):=
 λ_ _ _ H _ I h=>hU I J U g {(v),H,I,r,h} j hd
variable {a b:Expr}{ta tb:TE}
def PC(X:Cx)(op:CmpOp)(a b:Expr)(t:TE):Prop:=
 ∀(pins:List<|Addr×Obj) (s:WD) (σ:St) (H:Hp) (Q:VK),qx X pins σ H s->t σ H Q->
  ZZ X (eval a X.env) (λv I=>ZZ X (eval b X.env) (λu J=>ZZ X (compareOp op v u) (EP X pins σ Q) X.xe J) X.xe I) X.xe s
def ui(b:Expr){op:CmpOp}(h:op≠.In)(h2:op≠.NotIn):behindInMarks op b=false:=by
 have I:(op==CmpOp.In)=false:=by cases op<;>first|rfl|exact absurd rfl h
 have J:(op==CmpOp.NotIn)=false:=by cases op<;>first|rfl|exact absurd rfl h2
 cases b<;>simp[behindInMarks,I,J]
def HF(ta:TE):TE:=λσ H Q=>ta σ H λx H1=>Q (.bl<|decide<|x=.KB) H1
def HG(ta:TE):TE:=λσ H Q=>ta σ H λx H1=>Q (.bl<|!decide (x=.KB)) H1
def zo.Xz{x:V}{v:WC}(r:zo x v):(v==Value.none)=decide (x=.KB):=by
 cases x with
 |KB=>cases r;rfl
 |bl _=>cases r;rfl
 |int _=>obtain⟨t,rfl⟩:=r;rfl
 |str _=>obtain⟨t,rfl⟩:=r;rfl
 |Zh _=>obtain⟨t,rfl⟩:=r;rfl
 |X8 _=>obtain⟨t,rfl⟩:=r;rfl
 |ref _=>cases r;rfl
 |ty _=>cases r;rfl
def HH{j fx}(U:PE X a ta):PC X .Is a (.Constant .none j fx) (HF ta):=by intro J s g H Q I h;refine aU (U J s g H _ I h) λv t x l o p r=>?_;exact Constant_none (is_none_gen {.bl _,l,o,by rw[p.Xz];rfl,r})
def Mv{j fx}(U:PE X a ta):PC X .IsNot a (.Constant .none j fx) (HG ta):=by intro J s g H Q I h;refine aU (U J s g H _ I h) λv t x l o p r=>?_;exact Constant_none (isnot_none_gen {.bl _,l,o,by rw[p.Xz];rfl,r})
def tB(t:TE):TT:=λσ H Q=>t σ H λx H1=>∃c,x=.bl c/\Q c H1
def Mw{op:CmpOp}{t:TE}(h:PC X op a b t)(h1:behindInMarks op b=false:=by first|exact ui _ (by decide) (by decide)|rfl):PE X (.Compare a [op] [b] pos) t:=λJ s U H Q I hw=>wpAny_Compare1 (h J s U H Q I hw) h1
def HI{op:CmpOp}{t:TE}(h:PC X op a b t)(h1:behindInMarks op b=false:=by first|exact ui _ (by decide) (by decide)|rfl):PT X (.Compare a [op] [b] pos) (tB t):=by intro J s U H Q I hw;refine wpAny_isTrue_Compare1 (aD (h J s U H _ I hw) λv p h1=>aD h1 λu r h2=>aD h2 λc C ⟨x,g,j,l,o⟩=>?_) h1;obtain⟨d,rfl,q⟩:=o;cases l;exact wpAny_truthy_bool {(g),j,q}
def Mx{t:TE}(h:PE X e t)(U:∀whole,isTrue e X.env whole=(do let v <-whole;standAt e.pos;holding [v] (truthy v)):=by intro _;rfl):PT X e (tB t):=by intro J s g H Q I hw;refine isTrue_plain (aU (h J s g H _ I hw) λv r x j l o p=>?_)<|U _;obtain⟨d,rfl,q⟩:=p;cases o;exact wpAny_truthy_bool {(j),l,q}
variable {tA qy:TT}{rest:Wv}
def My(t u:TT):TT:=λσ H Q=>t σ H λc H1=>if c=true then u σ H1 Q else Q false H1
def Mz(t u:TT):TT:=λσ H Q=>t σ H λc H1=>if c=true then Q true H1 else u σ H1 Q
def MA(t:TT):TT:=λσ H Q=>t σ H λc H1=>Q (!c) H1
def MB(U:PT X a tA):PW X (.BoolOp .And [a] pos) tA:=by intro j J s g H Q I h;refine isTrue_and<|aD (U J s g H Q I h) λc l e=>?_;cases c with|true=>exact isTrue_and_nil e|false=>exact e
def MC(U:PT X a tA):PW X (.BoolOp .Or [a] pos) tA:=by intro j J s g H Q I h;refine isTrue_or<|aD (U J s g H Q I h) λc l e=>?_;cases c with|false=>exact isTrue_or_nil e|true=>exact e
def MD(o:PT X a tA)(p:PW X (.BoolOp .And (b::rest) pos) qy):PW X (.BoolOp .And (a::b::rest) pos) (My tA qy):=by intro r J s U H Q I h;refine isTrue_and<|aD (o J s U H _ I h) λc t ⟨g,j,l⟩=>?_;cases c with|true=>exact p r J t U g Q j l|false=>exact{(g),j,l}
def ME(o:PT X a tA)(p:PW X (.BoolOp .Or (b::rest) pos) qy):PW X (.BoolOp .Or (a::b::rest) pos) (Mz tA qy):=by intro r J s U H Q I h;refine isTrue_or<|aD (o J s U H _ I h) λc t ⟨g,j,l⟩=>?_;cases c with|true=>exact{(g),j,l}|false=>exact p r J t U g Q j l
def MF(U:PT X a tA):PT X (.UnaryOp .Not a pos) (MA tA):=by intro J s g H Q I h;exact isTrue_not<|U J s g H (λc j=>Q (!c) j) I h
def MG(ta tb:TE):TE:=λσ H Q=>ta σ H λx H1=>∃c,x=.bl c/\if c=true then tb σ H1 Q else Q (.bl false) H1
def MJ(ta:TE):TE:=λσ H Q=>ta σ H λx H1=>∃c,x=.bl c/\Q (.bl<|!c) H1
def MK{op}{t:TE}(h:PE X a t):PE X (.BoolOp op [a] pos) t:=λJ s U H Q I hw=>BoolOp_one<|h J s U H Q I hw
def MN(o:PE X a ta)(p:PE X (.BoolOp .And (b::rest) pos) tb):PE X (.BoolOp .And (a::b::rest) pos) (MG ta tb):=by
 intro J s g H Q I h;refine BoolOp_and<|aU (o J s g H _ I h) λv r x j l t U=>?_;obtain⟨c,rfl,U⟩:=U;cases t;refine wpAny_truthy_bool ?_;cases c with
 |true=>exact p J r g j Q l U
 |false=>exact{.bl false,j,l,rfl,U}
def MO(g:PE X a ta):PE X (.UnaryOp .Not a pos) (MJ ta):=by intro J s j H Q I h;refine UnaryOp_<|aU (g J s j H _ I h) λv r x l o p U=>?_;obtain⟨c,rfl,U⟩:=U;cases p;exact not_of<|wpAny_truthy_bool {.bl<|!c,l,o,rfl,U}
def MQ(t:TT)(ta tb:TE):TE:=λσ H Q=>t σ H λc H1=>if c=true then ta σ H1 Q else tb σ H1 Q
def MT(hc:PT X c tA)(p:PE X a ta)(r:PE X b tb):PE X (.IfExp c a b pos) (MQ tA ta tb):=by intro J s U H Q I h;refine wpAny_IfExp<|aD (hc J s U H _ I h) λd g ⟨j,l,o⟩=>?_;cases d with|true=>exact p J g U j Q l o|false=>exact r J g U j Q l o
end
def ag(K:Ag)(H:Hp)(a:Addr)(xs:WI):Prop:=
 Rd H a (.lst xs)\/
  ∃(o:Obj) (eA:Ws) (n:Nat),K.lookup a=some o/\o.cls=.type "list" /\ o.dict=none/\o.data=.seq eA n/\eA.size<=sizeLine/\zk xs eA.toList
def fB(K:Ag)(H:Hp)(a:Addr)(xs:WI):Prop:=
 Rd H a (.tup xs)\/
  ∃(o:Obj) (eA:Ws) (n:Nat),K.lookup a=some o/\o.cls=.type "tuple" /\ o.data=.seq eA n/\eA.size<=sizeLine/\zk xs eA.toList
def MU:WC->WJ
 |.none=>some .KB
 |.bool b=>some<|.bl b
 |.int i _=>some<|.int i
 |.str x _=>some<|.str x
 |.bytes b _=>some<|.Zh b
 |.float b _=>some<|.X8 b
 |.ref a=>some<|.ref a
 |.type n=>some<|.ty n
 |_=>none
def zo.abs{x:V}(r:zo x u):MU u=some x:=by
 cases x with
 |KB=>cases r;rfl
 |bl _=>cases r;rfl
 |int _=>obtain⟨t,rfl⟩:=r;rfl
 |str _=>obtain⟨t,rfl⟩:=r;rfl
 |Zh _=>obtain⟨t,rfl⟩:=r;rfl
 |X8 _=>obtain⟨t,rfl⟩:=r;rfl
 |ref _=>cases r;rfl
 |ty _=>cases r;rfl
def zo.inj{x y:V}(r:zo x u)(q:zo y u):x=y:=AJ<|r.abs.symm.trans q.abs
theorem zk.inj:∀{xs ys:WI} {us:Wr},zk xs us->zk ys us->xs=ys:=by
 intro xs ys us h k
 induction h generalizing ys with
 |nil=>cases k;rfl
 |cons r t I=>
  cases k with|cons J U=>rw[r.inj J,I U]
section
variable {a:Addr}{ys:WI}
def ag.of{K:Ag}(h:H a=⇑xs):ag K H a xs:=.inl<|.inl h
abbrev FA:=@ag.of
def fB.of{K:Ag}(h:H a=some (.tup xs)):fB K H a xs:=.inl<|.inl h
def qx.list(I:qx X pins σ H s)(h:ag X.K H a xs):∃eA:Wr,zk xs eA/\PlainL s.heap a eA.toArray/\xs.length<=sizeLine:=by
 rcases h with h|⟨o,eA,n,J,U,hd,g,j,r⟩
 .obtain⟨z,eA,n,r,e⟩:=h.ok I.GT;exact{eA,r,{_,n,e,rfl,rfl,rfl},z}
 .refine{eA.toList,r,{o,n,I.SC a o J,U,hd,by simpa using g},?_};have e:=r.length;simp only[AW] at e;lia
def qx.tuple(I:qx X pins σ H s)(h:fB X.K H a xs):∃eA:Wr,zk xs eA/\IsTup s.heap a eA.toArray/\xs.length<=sizeLine:=by
 rcases h with h|⟨o,eA,n,J,U,g,j,r⟩
 .obtain⟨z,eA,r,p⟩:=h.ok I.GT;exact{(eA),r,p,z}
 .refine{eA.toList,r,{o,I.SC a o J,U,n,by simpa using g},?_};have e:=r.length;simp only[AW] at e;lia
def qx.WL(I:qx X pins σ H s)(h:ag X.K H a xs)(h':ag X.K H a ys):xs=ys:=by
 obtain⟨U,r,⟨o,n,e,_,_,d⟩,_⟩:=I.list h;obtain⟨J,l,⟨p,t,g,_,_,j⟩,_⟩:=I.list h';rw[e] at g;cases g;rw[d] at j;injection j with d1 _
 have:U=J:=by simpa using Bt Array.toList d1
 subst this;exact r.inj l
def qx.WW(I:qx X pins σ H s)(h:fB X.K H a xs)(h':fB X.K H a ys):xs=ys:=by
 obtain⟨U,r,⟨o,e,_,n,d⟩,_⟩:=I.tuple h;obtain⟨J,l,⟨p,g,_,t,j⟩,_⟩:=I.tuple h';rw[e] at g;cases g;rw[d] at j;injection j with d1 _
 have:U=J:=by simpa using Bt Array.toList d1
 subst this;exact r.inj l
end
abbrev Cx.Xk(X:Cx)(E:Wm):Cx:={X with xe:=E}
abbrev Cx.YH(X:Cx):Cx:=X.Xk λ_ _=>False
theorem Cx.Ok.Xk(ok:X.Ok)(E:Wm):(X.Xk E).Ok:=
 ⟨ok.mod,ok.kind,ok.glob,ok.blt,ok.above,ok.inj,ok.has,ok.YA,ok.hd,ok.frames,ok.YG,ok.YQ,ok.bs,ok.XY,ok.Xi,ok.Xj,ok.WK,ok.X9⟩
theorem Cx.Ok.WS(ok:(X.Xk E).Ok):X.Ok:=
 ⟨ok.mod,ok.kind,ok.glob,ok.blt,ok.above,ok.inj,ok.has,ok.YA,ok.hd,ok.frames,ok.YG,ok.YQ,ok.bs,ok.XY,ok.Xi,ok.Xj,ok.WK,ok.X9⟩
theorem qx.Xk(I:qx X pins σ H s)(E:Wm):qx (X.Xk E) pins σ H s:={I.ok.Xk E,I.os,I.bare,I.base,I.loc,I.cell,I.free,I.On,I.pin,I.GT,I.len,I.tk}
theorem qx.WS(I:qx (X.Xk E) pins σ H s):qx X pins σ H s:={(I.ok.WS),I.os,I.bare,I.base,I.loc,I.cell,I.free,I.On,I.pin,I.GT,I.len,I.tk}
theorem SP.WS{D:re}{f:Flow}(h:SP (X.Xk E) pins D f s'):SP X pins D f s':=by
 cases f with
 |next=>obtain⟨J,U,I,q⟩:=h;exact{(J),U,I.WS,q}
 |brk=>obtain⟨J,U,I,q⟩:=h;exact{(J),U,I.WS,q}
 |cont=>obtain⟨J,U,I,q⟩:=h;exact{(J),U,I.WS,q}
 |ret u=>obtain⟨v,J,U,I,r,q⟩:=h;exact{(v),J,U,I.WS,r,q}
def hJ.YH{st:Ww}{t:TS}(h:hJ X.YH st t):hJ X st t:=λJ s U H D I hw=>
 AX (h J s U H D (I.Xk _) hw) (λ_ _ q=>q.WS) λ_ _ z=>False.elim z
section
variable {rest:Ww}{t u:TS}{te:TE}
def MV:TS:=λD σ H=>D.nx σ H
def MW(t u:TS):TS:=λD σ H=>t {D with nx:=u D} σ H
def MX:hJ X [] MV:=λ_ _ J H _ I h=>wpAny_execs_nil {(J),H,I,h}
def uI(h1:PS X st t)(h2:hJ X rest u):hJ X (st::rest) (MW t u):=by
 intro J s g H D I h;refine wpAny_execs_cons<|aD (h1 J s g H {D with nx:=u D} I h) λf j q=>?_;cases f with
 |next=>
  obtain⟨U,l,o,q⟩:=q;exact h2 J j U l D o q
 |ret v=>exact q
 |brk=>exact q
 |cont=>exact q
def zQ(h1:PS X st t):hJ X [st] t:=by intro J s U H D I h;refine wpAny_execs_cons<|aD (h1 J s U H D I h) λf g q=>?_;cases f with|next=>exact wpAny_execs_nil q|ret v=>exact q|brk=>exact q|cont=>exact q
def ast:TS:=λD σ H=>D.ct σ H
def vV:PS X (.Continue pos) ast:=λ_ _ J H _ I h=>wpAny_Continue {(J),H,I,h}
def qx.quiet(I:qx X pins σ H s):interactive X.env=false:=by simp[interactive,I.ok.kind]
def MY(te:TE):TS:=λD σ H=>te σ H λ_ H1=>D.nx σ H1
def yk(g:PE X e te)(hs:swapsWith e none pos.line X.env=pure false:=by rfl):PS X (.Expr e pos) (MY te):=by intro J s U H D I h;exact wpAny_Expr_any (aU (g J s U H _ I h) λv p x j l r o=>{(U),j,l,o}) I.quiet hs
def MZ(te:TE):TS:=λD σ H=>te σ H D.rt
def M5(g:PE X e te):PS X (.Return (some e) pos) (MZ te):=by intro J s U H D I h;exact wpAny_Return_some<|aU (g J s U H _ I h) λv r x j l o p=>{(x),U,j,l,o,p}
def M6:TS:=λD _ H=>D.rt .KB H
def M7:PS X (.Return none pos) M6:=λ_ _ J H _ I h=>wpAny_Return_none {.KB,J,H,I,rfl,h}
def HJ(c:TT)(t u:TS):TS:=λD σ H=>c σ H λb H1=>if b=true then t D σ H1 else u D σ H1
def M8{a b:Ww}{tc:TT}(hc:PT X c tc)(p:hJ X a t)(r:hJ X b u):PS X (.If c a b pos) (HJ tc t u):=by intro J s U H D I h;refine wpAny_If<|aD (hc J s U H _ I h) λd g ⟨j,l,o⟩=>?_;cases d with|true=>exact p J g U j D l o|false=>exact r J g U j D l o
end
abbrev TG:=V->St->Hp->(St->Hp->Prop)->Prop
abbrev e_:=WI->St->Hp->(St->Hp->Prop)->Prop
def PG(X:Cx)(target:Expr)(t:TG):Prop:=
 ∀(pins:List<|Addr×Obj) (s:WD) (σ:St) (H:Hp) (v:V) (u:WC) (Q:St->Hp->Prop),qx X pins σ H s->zo v u->t v σ H Q->
  ZZ X (assign target X.env u) (λ_ s'=>∃hQ H',qx X pins hQ H' s'/\Q hQ H') X.xe s
def Yd(X:Cx)(ts:Wv)(t:e_):Prop:=
 ∀(pins:List<|Addr×Obj) (s:WD) (σ:St) (H:Hp) (vs:WI) (us:Wr) (Q:St->Hp->Prop),qx X pins σ H s->zk vs us->t vs σ H Q->
  ZZ X (assignInOrder ((assignEach ts X.env).map (·.2)) us) (λ_ s'=>∃hQ H',qx X pins hQ H' s'/\Q hQ H') X.xe s
abbrev GA:=V->V->V->Hp->(Hp->Prop)->Prop
def HK(X:Cx)(t:GA):Prop:=
 ∀(pins:List<|Addr×Obj) (s:WD) (σ:St) (H:Hp) (o i v:V) (I J u:WC) (Q:Hp->Prop),qx X pins σ H s->zo o I->zo i J->zo v u->t o i v H Q->
  ZZ X (setItem I J u) (λ_ s'=>∃H',qx X pins σ H' s'/\Q H') X.xe s
def dF(i:Nat):TG:=λv σ H Q=>Q (σ.set i<|some v) H
def gM(hN:X.N.Nodup)(hi:X.N[i]?=some x)(U:yu X.env.scope x)(g:X.fn x=true\/X.env.scope.names.lookup x=some .local:=by first|exact .inl rfl|exact .inr rfl|assumption):PG X (.Name x pos) (dF i):=by intro J s l H v u Q I r h;exact wpAny_assign_Name<|br I hN hi U r (λo j=>{_,H,j,h}) g
def GB:e_:=λvs σ H Q=>vs=[]/\Q σ H
def wB(t:TG)(u:e_):e_:=λvs σ H Q=>∃v r,vs=v::r/\t v σ H λhQ H'=>u r hQ H' Q
def HL:Yd X [] GB:=by rintro J s U H g j Q I r⟨e,h⟩;subst e;cases r;exact assignInOrder_nil {(U),H,I,h}
def pG{t:TG}{u:e_}(h1:PG X e t)(h2:Yd X es u)
 (hs:(assignEach (e::es) X.env).map (·.2)=assign e X.env::(assignEach es X.env).map (·.2):=by rfl):Yd X (e::es) (wB t u):=by
 rintro J s g H T us Q I r⟨v,vr,j,h⟩;subst j;cases r with
 |cons r rr=>
  rw[hs];refine assignInOrder_cons<|aD (h1 J s g H _ _ _ I r h) λ_ l ⟨U,o,p,C⟩=>?_;exact h2 J l U o _ _ Q p rr C
def amp(K:Ag)(n:Nat)(t:e_):TG:=λv σ H Q=>∃a xs,v=.ref a/\fB K H a xs/\xs.length=n/\t xs σ H Q
def HM{k:Nat}{t:e_}(hc:X.calm=true)(h:Yd X es t)
 (j:(assignEach es X.env).length=n:=by rfl) (U:(assignEach es X.env).findIdx? (·.1)=none:=by rfl):PG X (.Tuple es k pos) (amp X.K n t):=by
 rintro J s l H v u Q I r⟨a,p,C,T,hl,hw⟩;subst C;cases r;obtain⟨a1,g,ht,hz⟩:=I.tuple T;refine assign_Tuple_tuple (I.ok.hd hc) ht (by simp[j,<-hl,g.length]) U λh' hx=>?_;have I1:=I.kept (t':=s.toks) λb o e=>hx b o (A3<|u3 e) e;exact h J _ l H p _ Q I1 (by simpa using g) hw
def M9(to ti:TE)(t:GA):TG:=λv σ H Q=>to σ H λo H1=>ti σ H1 λi H2=>t o i v H2 λI=>Q σ I
def Na{i:Expr}{to ti:TE}{t:GA}(l:PE X o to)(hi:PE X i ti)(hs:HK X t)
 (p:∀v,assign (.Subscript o i pos) X.env v=(do
  let U <-holding [v] (eval o X.env)
  let g <-holding [v,U] (eval i X.env)
  standAt pos
  holding [v,U,g] (setItem U g v)
  release [v,U,g] []):=by intro _;rfl):PG X (.Subscript o i pos) (M9 to ti t):=by
 intro J s j H v u Q I r h;rw[p];refine Aa<|Bc<|aU (l J s j H _ I h) λU C x T I1 r1 q1=>?_;refine Aa<|Bc<|aU (hi J C j T _ I1 q1) λg s2 y H2 I2 r2 q2=>?_;refine Aa<|wpAny_standAt<|Aa<|Bc<|aD (hs J s2 j H2 x y v U g u _ I2 r1 r2 r q2) λ_ s3 ⟨H3,I3,q3⟩=>?_;exact wpAny_release {(j),H3,I3,q3}
def GC(te:TE)(g:TG):TS:=λD σ H=>te σ H λx H1=>g x σ H1 D.nx
def HN{te:TE}{g:TG}(j:PE X e te)(l:PG X tg g)(hs:swapsWithSole [tg] e pos.line X.env=pure false:=by rfl)(hw:swappedStores [tg] e X.env=pure none:=by rfl)
 (h1:(assignEach [tg] X.env).map (·.2)=[assign tg X.env]:=by rfl):PS X (.Assign [tg] e pos) (GC te g):=by
 intro J s U H D I h;refine wpAny_Assign_stores (aU (j J s U H _ I h) λv o x p r t C=>?_) hs hw;rw[h1];exact aD (l J o U p x v _ r t C) λ_ T q=>q
def Nb{te:TE}(hN:X.N.Nodup)(hi:X.N[i]?=some x)(U:yu X.env.scope x)(g:PE X e te)(hs:swapsWith e (some<|.Name x fx) pos.line X.env=pure false:=by rfl)(j:X.fn x=true\/X.env.scope.names.lookup x=some .local:=by first|exact .inl rfl|exact .inr rfl|assumption):
 PS X (.Assign [.Name x fx] e pos) (GC te<|dF i):=by
 intro J s l H D I h;refine wpAny_Assign_Name (aU (g J s l H _ I h) λv T y o p r t=>?_) hs;exact br p hN hi U r (λs2 C=>{_,o,C,t}) j
def Nc(i j:Nat)(ta:TA):TS:=λD σ H=>ta σ H λvs H1=>∃v w,vs=[v,w]/\D.nx ((σ.set i<|some v).set j<|some w) H1
def Nd{y:Str}{a b:Expr}{ta:TA}{px pt:Pos}{kt k2 U}(hc:X.calm=true)(hN:X.N.Nodup)(hi:X.N[i]?=some x)(hj:X.N[j]?=some y)(t:i≠j)
 (hx:X.env.scope.names.lookup x=some .local) (hy:X.env.scope.names.lookup y=some .local) (ha:PA X [a,b] ta)
 (hw:swappedStores [.Tuple [.Name x px,.Name y py] kt pt] (.Tuple [a,b] k2 U) X.env=pure (some [x,y]))
 (hs:swapsWithSole [.Tuple [.Name x px,.Name y py] kt pt] (.Tuple [a,b] k2 U) pos.line X.env=pure false:=by rfl):
 PS X (.Assign [.Tuple [.Name x px,.Name y py] kt pt] (.Tuple [a,b] k2 U) pos) (Nc i j ta):=by
 intro J s σ H D I h;rw[exec_Assign_arm];refine Aa<|wpAny_standAt ?_;rw[hs];refine Aa<|Ak ?_;rw[Ap (by decide)];refine Aa<|Tuple_<|vN (ha _ J s σ H _ I h) λus g vs H1 I1 r1 C=>?_;obtain⟨v,w,e1,C⟩:=C;subst e1;obtain⟨l,r,rfl,rv,T⟩:∃l r,us=[l,r]/\zo v l/\zo w r:=by
  cases r1 with
  |cons p q=>
   cases q with
   |cons p' q'=>
    cases q';exact{_,_,rfl,p,p'}
 refine Br ?_ (by show 2<=sizeLine;decide);have I2:qx X J σ H1 {g with heap:=g.heap.push {cls:=.type "tuple",data:=.seq [l,r].toArray}}:=I1.kept (t':=g.toks) λb o e=>sy _ e;rw[hw];refine Aa<|Ak ?_;show ZZ X (do rule "assign.swapped-stores";let items <-unpackItems (.ref ↥g) 2 none;assignInOrder [λv=>bindName X.env y v,λv=>bindName X.env x v] items.reverse;pure Flow.next) _ _ _;refine Aa<|Bv<|Aa<|unpackItems_tuple (items:=#[l,r]) (I.ok.hd hc) (IsTup.new g.heap _) λh' a1=>?_;have I3:=I2.kept (h':=h') (t':=g.toks) λb o e=>a1 b o (A3<|u3 e) e;refine Aa<|assignInOrder_cons<|wpAny_bindName<|br I3 hN hj (.inl hy) T (λs2 I4=>?_)<|.inr hy;refine assignInOrder_cons<|wpAny_bindName<|br I4 hN hi (.inl hx) rv (λs3 I5=>assignInOrder_nil<|Ak ?_)<|.inr hx;rw[Eh _ _<|AE t] at I5;exact{_,H1,I5,C}
def Nf(c:TT)(tb:TS):TS:=λD σ H=>∃W:Nat->St->Hp->Prop,(∃m,W m σ H)/\∀m σ H,W m σ H->
 c σ H λb H1=>if b=true then ∃N:St->Hp->Prop,(∀hQ H',N hQ H'->∃m',m'<m/\W m' hQ H')/\tb {D with nx:=N,ct:=N,bk:=D.nx} σ H1 else D.nx σ H1
def Ng{tc:TT}{tb:TS}(hp:PassesOwn (model X.prog X.w) X.A X.env X.xe)(hc:PT X c tc)(hb:hJ X body tb):PS X (.While c body [] pos) (Nf tc tb):=by
 rintro J s σ H D I⟨W,⟨m0,w0⟩,turn⟩;refine wpAny_While<|codeAny_whileLoop (λn s'=>∃j H',qx X J j H' s'/\W n j H') ?_ m0 {(σ),H,I,w0};rintro n s1 ⟨g,H1,I1,w1⟩;refine wpAny_passesOwn hp<|aD (hc J s1 g H1 _ I1<|turn n g H1 w1) λb s2 ⟨H2,I2,o⟩=>?_;cases b with
 |true=>
  obtain⟨N,hN,o⟩:=o;rw[Ar rfl];refine wpAny_passesOwn hp<|aD (hb J s2 g H2 _ I2 o) λf s3 p=>?_;cases f with
  |next=>
   obtain⟨U,l,r,t⟩:=p;obtain⟨C,T,w3⟩:=hN U l t;exact{(C),T,U,l,r,w3}
  |cont=>
   obtain⟨U,l,r,t⟩:=p;obtain⟨C,T,w3⟩:=hN U l t;exact{(C),T,U,l,r,w3}
  |brk=>exact p
  |ret v=>exact p
 |false=>
  rw[Ap AI];exact wpAny_execs_nil {(g),H2,I2,o}
structure It where
 go:Nat->Hp->Prop
 X0:Nat->Hp->V->Hp->Prop
 stop:Nat->Hp->Prop
def pK(X:Cx)(pins:List<|Addr×Obj)(H:Hp)(b:Addr):Prop:=
 H b=none/\b≠X.env.locals/\b∉X.fs/\(b∈X.ex\/X.s₀.heap.objs.size<=b)/\(∀x c,X.env.cells.lookup x=some c->c≠b)/\∀p∈X.pn++pins,p.1≠b
def qx.XZ{b:Addr}(I:qx X pins σ H s)(J:↥s<=b)(U:H' b=none):pK X pins H' b:=by
 refine{U,C3<|AS I.lt J,I.YX J,.inr<|AK I.sz J,λx c e z=>?_,λp g z=>?_}
 .obtain⟨v,q⟩:=I.cell x c e;exact absurd (AS q.lt (by rw[z];exact J))<|Cj _
 .exact absurd (AS (u3 (I.pin p g).1) (by rw[z];exact J))<|Cj _
structure xQ(P:WE)(w:WF)(K:Ag)(tg:Expr)(J:It)(fp:List Addr)(it:Addr)(tn:Nat->WG->Prop):Prop where
 mem:it∈fp
 obj:∀i h,tn i h->∀b∈fp,∃o,h.get? b=some o/\∀v,o.data≠.cell v
 keep:∀i h h',tn i h->(∀b∈fp,∀o,h.get? b=some o->h'.get? b=some o)->tn i h'
 item:∀(X:Cx),X.prog=P->X.w=w->X.K=K->X.calm=true->∀(i:Nat) (pins:List<|Addr×Obj) (s:WD) (σ:St) (H:Hp) (E:Wm),qx X pins σ H s->(∀b∈fp,pK X pins H b)->tn i s.heap->J.go i H->
  wpAny (model P w) X.A (pyNext<|.ref it) (λr s1=>∃u,r=some u/\
   wpAny (model P w) X.A (letOwnedTupleGo tg (.ref it) u) (λ_ s2=>∃x H',qx X pins σ H' s2/\zo x u/\J.X0 i H x H'/\tn (i+1) s2.heap/\∀b∈fp,H' b=none) E s1) E s
 done:∀(X:Cx),X.prog=P->X.w=w->X.K=K->X.calm=true->∀(i:Nat) (pins:List<|Addr×Obj) (s:WD) (σ:St) (H:Hp) (E:Wm),qx X pins σ H s->(∀b∈fp,pK X pins H b)->tn i s.heap->J.stop i H->
  wpAny (model P w) X.A (pyNext<|.ref it) (λr s1=>r=none/\qx X pins σ H s1) E s
 self:∀(A:Around) (i:Nat) (s:WD) (Q:Wm) (E:Wm),tn i s.heap->Q (.ref it) s->wpAny (model P w) A (pyIter<|.ref it) Q E s
abbrev TI:=St->Hp->(It->Hp->Prop)->Prop
def GD(X:Cx)(pins:List<|Addr×Obj)(σ:St)(tg:Expr)(R:It->Hp->Prop)(I:WC)(U:WD):Prop:=
 ∃(it:Addr) (fp:List Addr) (g:Nat->WG->Prop) (J:It) (H':Hp),I=.ref it/\qx X pins σ H' U/\xQ X.prog X.w X.K tg J fp it g/\g 0 U.heap/\(∀b∈fp,pK X pins H' b)/\R J H'
def PI(X:Cx)(tg iter:Expr)(wi:TI):Prop:=
 ∀(pins:List<|Addr×Obj) (s:WD) (σ:St) (H:Hp) (R:It->Hp->Prop),qx X pins σ H s->wi σ H R->
  ZZ X (eval iter X.env) (λv I=>ZZ X (pyIter v) (GD X pins σ tg R) X.xe I) X.xe s
def GF{o:Obj}{n:WH}{vs:Ws}{Q:Wn}(J:s.heap.get? it=some o)(hc:o.cls=.type n)(hd:o.data=.fields vs)
 (U:["enumerate","zip","dict_itemiterator","dict_reverseitemiterator","odict_iterator","itertools.zip_longest","itertools.pairwise"].contains n=false) (I:Q () s):wpAny M A (letOwnedTupleGo tg (.ref it) u) Q E s:=by
 cases tg<;>first
  |exact Ak I
  |(cases u<;>first
   |exact Ak I
   |(refine Aa (wpAny_load J ?_)
     rw[hc,hd];show wpAny M A (if (["enumerate","zip","dict_itemiterator","dict_reverseitemiterator","odict_iterator","itertools.zip_longest","itertools.pairwise"].contains n&&vs[0]?==some (rawInt _))=true then _ else _) Q E s;rw[Ap (by intro h;rw[U,Bool.false_and] at h;cases h)];exact Ak I))
def GG(K:Ag)(a:Addr):It:=
 ⟨λi H=>∃xs x,ag K H a xs/\xs[i]?=some x,λi H x H'=>H'=H/\∀xs,ag K H a xs->xs[i]?=some x,λi H=>∃xs,ag K H a xs/\xs.length<=i⟩
def GH(K:Ag)(a:Addr):It:=
 ⟨λi H=>∃xs x,fB K H a xs/\xs[i]?=some x,λi H x H'=>H'=H/\∀xs,fB K H a xs->xs[i]?=some x,λi H=>∃xs,fB K H a xs/\xs.length<=i⟩
def Fu(lo:Int)(n:Nat):It:={λi _=>i<n,λi H x H'=>H'=H/\x=.int (lo+i),λi _=>n<=i}
def Nh{P:WE}{w:WF}{K:Ag}(a it:Addr):xQ P w K tg (GG K a) [it] it (λi h=>h.IsListIter it a i) where
 mem:=by simp
 obj:=λi h st b J=>by
  have e:b=it:=by simpa using J
  subst e;obtain⟨o,e,c,d⟩:=st;exact{o,e,λv z=>by rw[d] at z;cases z}
 keep:=λi h r st k=>st.at λo e=>k it (by simp) o e
 item:=by intro X t hw C hc i U s σ H E I j st T;subst t hw C;obtain⟨xs,x,l,hx⟩:=T;obtain⟨a1,rv,p,hz⟩:=I.list l;obtain⟨u,hu,ru⟩:=rv.get hx;obtain⟨f0,f1,f2,f3,f4,f5⟩:=j it (by simp);refine wpAny_pyNext_list_item st p.isList (x:=u) (by simpa using hu) λr g sb=>?_;have I1:=I.turned (t':=s.toks) (λb o J e=>(sb.2 b J).trans e) f0 f1 f3 f4 f5;obtain⟨o,e,c,d⟩:=id g;exact{u,rfl,GF (s:={s with heap:=r}) e c d (by decide) {x,H,I1,ru,{rfl,λys hy=>by rw[I.WL hy l];exact hx},g,λb J=>(j b J).1}}
 done:=by intro X t hw C hc i U s σ H E I j st T;subst t hw C;obtain⟨xs,l,hx⟩:=T;obtain⟨a1,rv,p,hz⟩:=I.list l;obtain⟨f0,f1,f2,f3,f4,f5⟩:=j it (by simp);have hl:=rv.length;exact wpAny_pyNext_list_end (I.ok.hd hc) st p.isList (by simp;lia) λr eb=>{rfl,I.turned (t':=s.toks) (λb o J e=>eb b o J e) f0 f1 f3 f4 f5}
 self:=λ_ _ _ _ _ st h=>wpAny_pyIter_listiter st h
def wU{P:WE}{w:WF}{K:Ag}(a it:Addr):xQ P w K tg (GH K a) [it] it (λi h=>h.IsTupleIter it a i) where
 mem:=by simp
 obj:=λi h st b J=>by
  have e:b=it:=by simpa using J
  subst e;obtain⟨o,e,c,d⟩:=st;exact{o,e,λv z=>by rw[d] at z;cases z}
 keep:=λi h t st k=>st.at λo e=>k it (by simp) o e
 item:=by intro X C hw T hc i g s σ H E I l st hg;subst C hw T;obtain⟨xs,x,r,hx⟩:=hg;obtain⟨U,rv,p,hz⟩:=I.tuple r;obtain⟨u,hu,ru⟩:=rv.get hx;obtain⟨f0,f1,f2,f3,f4,f5⟩:=l it (by simp);refine wpAny_pyNext_tuple_item st (show s.heap.IsTuple a U.toArray from p) (x:=u) (by simpa using hu) λt j sb=>?_;have I1:=I.turned (t':=s.toks) (λb o J e=>(sb.2 b J).trans e) f0 f1 f3 f4 f5;obtain⟨o,e,c,d⟩:=id j;exact{u,rfl,GF (s:={s with heap:=t}) e c d (by decide) {x,H,I1,ru,{rfl,λys hy=>by rw[I.WW hy r];exact hx},j,λb J=>(l b J).1}}
 done:=by intro X C hw T hc i g s σ H E I l st hg;subst C hw T;obtain⟨xs,r,hx⟩:=hg;obtain⟨U,rv,p,hz⟩:=I.tuple r;obtain⟨f0,f1,f2,f3,f4,f5⟩:=l it (by simp);have hl:=rv.length;exact wpAny_pyNext_tuple_end (I.ok.hd hc) st (show s.heap.IsTuple a U.toArray from p) (by simp;lia) λt eb=>{rfl,I.turned (t':=s.toks) (λb o J e=>eb b o J e) f0 f1 f3 f4 f5}
 self:=λ_ _ _ _ _ st h=>wpAny_pyIter_tupleiter st h
theorem yN{P:WE}{w:WF}{K:Ag}(it:Addr)(lo:Int)(n:Nat):xQ P w K tg (Fu lo n) [it] it (λi h=>IsRangeIter h it (lo+(i:Nat)*1) ((n:Int)-(i:Nat)) 1) where
 mem:=by simp
 obj:=λi h st b J=>by
  have e:b=it:=by simpa using J
  subst e;exact{_,st,λv z=>by have z':=z;cases z'}
 keep:=λi h l st k=>k it (by simp) _ st
 item:=by intro X p hw r C i U s σ H E I j st T;subst p hw r;obtain⟨f0,f1,f2,f3,f4,f5⟩:=j it (by simp);have W:=Walks.range (prog:=X.prog) (w:=X.w) (I.ok.hd C) it lo 1 n;refine ji I.tk<|W.item i s _ _ T st λv l tk hv g kk ht=>?_;obtain⟨t,rfl⟩:=hv;have I1:=I.turned (λb o J e=>kk b o (by simpa using J) e) f0 f1 f3 f4 f5;refine{_,rfl,GF (s:={s with heap:=l,toks:=tk}) (n:="range_iterator") g rfl rfl (by decide) {.int<|lo+i,H,I1,{t,?_},{(rfl),rfl},g,λb J=>(j b J).1}};rw[Int.mul_one]
 done:=by intro X p hw r C i U s σ H E I j st T;subst p hw r;obtain⟨f0,f1,f2,f3,f4,f5⟩:=j it (by simp);exact wpAny_pyNext_range_end (I.ok.hd C) st (by have:n<=i:=T;lia) λl eb=>{rfl,I.turned (t':=s.toks) (λb o J e=>eb b o J e) f0 f1 f3 f4 f5}
 self:=λ_ _ _ _ _ st h=>wpAny_pyIter_rangeiter st h
variable {wi:TI}
def Ni(K:Ag)(tl:TE):TI:=λσ H R=>tl σ H λx H1=>∃a,x=.ref a/\(∃xs,ag K H1 a xs)/\R (GG K a) H1
def Nj(K:Ag)(tl:TE):TI:=λσ H R=>tl σ H λx H1=>∃a,x=.ref a/\(∃xs,fB K H1 a xs)/\R (GH K a) H1
def Nk{l:Expr}{tl:TE}(j:PE X l tl):PI X tg l (Ni X.K tl):=by
 intro J s r H R I h;refine aU (j J s r H _ I h) λv U x t g C T=>?_;obtain⟨a,e,⟨xs,hq⟩,q⟩:=T;subst e;cases C;obtain⟨a1,rv,p,hz⟩:=g.list hq;refine wpAny_pyIter_list p.isList ?_;refine{↥U,[↥U],_,_,t,rfl,g.kept (t':=U.toks) λb o e=>sy _ e,Nh a _,{_,vb _ rfl,rfl,rfl},λb hb=>?_,q};have e:b=↥U:=by simpa using hb
 subst e;exact g.XZ (An _)<|g.GT.fresh<|An _
def Nl{l:Expr}{tl:TE}(r:PE X l tl):PI X tg l (Nj X.K tl):=by
 intro J s t H R I h;refine aU (r J s t H _ I h) λv U x C g T q1=>?_;obtain⟨a,e,⟨xs,hq⟩,q⟩:=q1;subst e;cases T;obtain⟨j,rv,p,hz⟩:=g.tuple hq;refine wpAny_pyIter_tuple (show U.heap.IsTuple a j.toArray from p) ?_;refine{↥U,[↥U],_,_,C,rfl,g.kept (t':=U.toks) λb o e=>sy _ e,wU a _,{_,vb _ rfl,rfl,rfl},λb hb=>?_,q};have e:b=↥U:=by simpa using hb
 subst e;exact g.XZ (An _)<|g.GT.fresh<|An _
def Nm{R:It->Hp->Prop}{hi:Int}{t u v:Tok}{tk:Nat}(I:qx X pins σ H s)(h1 : -(2 ^ 62)<=lo)(h2:lo<2 ^ 62)(h3 : -(2 ^ 62)<=hi)(U:hi<2 ^ 62)
 (q:R (Fu lo (hi-lo).toNat) H) (p:0<tk:=by walk_at "t"):ZZ X (pyIter<|.ref ↥s) (GD X pins σ tg R) E {s with heap:=s.heap.push {cls:=.type "range",data:=.fields #[.int lo t,.int hi u,.int 1 v]},toks:=tk}:=by
 refine wpAny_pyIter_range (IsRange.new ..) (small_one h1 h2 h3 U) ?_;have J:qx X pins σ H {s with heap:=s.heap.push {cls:=.type "range",data:=.fields #[.int lo t,.int hi u,.int 1 v]},toks:=tk}:=I.kept λb o e=>sy _ e;refine{(s.heap.push {cls:=.type "range",data:=.fields #[.int lo t,.int hi u,.int 1 v]}).objs.size,[(s.heap.push {cls:=.type "range",data:=.fields #[.int lo t,.int hi u,.int 1 v]}).objs.size],_,_,H,rfl,
  J.kept (t':=tk) λb o e=>sy _ e,yN _ lo (hi-lo).toNat,?_,λb g=>?_,q}
 .have j:lo+((0:Nat):Int)*1=lo:=by simp
  have l:(((hi-lo).toNat:Nat):Int)-((0:Nat):Int)=Builtin.Range.rangeSize lo hi 1:=by rw[rangeSize_one];split<;>lia
  rw[j,l];exact vb _ rfl
 .have e:b=(s.heap.push {cls:=.type "range",data:=.fields #[.int lo t,.int hi u,.int 1 v]}).objs.size:=by simpa using g
  subst e;exact J.XZ (An _)<|J.GT.fresh<|An _
def Nn(ta:TA):TI:=λσ H R=>ta σ H λvs H1=>∃j:Int,vs=[.int j] /\ -(2 ^ 62)<=j/\j<2 ^ 62/\R (Fu 0 j.toNat) H1
def No{a:Expr}{ta:TA}(g:Gl X "range")(l:X.mg "range"=none)(o:PA X [a] ta)(hs:starEach [a] X.env=[(false,eval a X.env)]:=by rfl):PI X tg (.Call (.Name "range" p) [a] [] pos) (Nn ta):=by
 intro J s C H R I h;refine Call_<|hU I g l boot_range<|Cg (vN (o pos J s C H _ I h) λus s1 vs H1 T r1 U=>?_) hs rfl;obtain⟨j,e,U,q2,q⟩:=U;subst e;cases r1 with
 |cons r rr=>
  cases rr;obtain⟨t,rfl⟩:=r;exact call_range_1<|Nm T (by lia) (by lia) U q2 (by simpa using q)
def Np(wi:TI)(g:TG)(tb:TS):TS:=λD σ H=>wi σ H λJ H1=>∃W:Nat->Nat->St->Hp->Prop,(∃m,W 0 m σ H1)/\∀i m σ H,W i m σ H->
 (J.stop i H/\D.nx σ H)\/(J.go i H/\∃N:St->Hp->Prop,(∀hQ H',N hQ H'->∃m',m'<m/\W (i+1) m' hQ H')/\∀x H',J.X0 i H x H'->g x σ H' λI H2=>tb {D with nx:=N,ct:=N,bk:=D.nx} I H2)
def nO(fp:List Addr)(h:WG):List (Addr×Obj):=fp.filterMap λb=>(h.get? b).map λo=>(b,o)
def df{b:Addr}{o:Obj}(I:b∈fp)(e:h.get? b=some o):(b,o)∈nO fp h:=DP.mpr {b,I,by rw[e];rfl}
def Nt{p:Addr×Obj}(hp:p∈nO fp h):p.1∈fp/\h.get? p.1=some p.2:=by
 obtain⟨b,I,e⟩:=DP.mp hp;cases q:h.get? b with
 |none=>rw[q] at e;cases e
 |some o=>
  rw[q] at e;have J:=AJ e;subst J;exact{(I),q}
def qx.pinned(I:qx X pins σ H s)(g:∀b∈fp,pK X pins H b)(j:∀b∈fp,∃o,s.heap.get? b=some o/\∀v,o.data≠.cell v):qx X (pins++nO fp s.heap) σ H s:=
 I.Xu λp l=>(Aj.mp l).elim (λz=>I.pin p<|Ah _ z) λz=>by obtain⟨J,e⟩:=Nt z;obtain⟨r,f1,f2,_⟩:=g p.1 J;obtain⟨o,U,d⟩:=j p.1 J;rw[e] at U;cases U;exact{(e),r,f1,f2,d}
def qx.WT{pl:List<|Addr×Obj}(I:qx X (pins++pl) σ H s):qx X pins σ H s:=I.Xu λp J=>I.pin p<|Ah _<|Am _ J
def Nu{iter:Expr}{g:TG}{tb:TS}(hp:PassesOwn (model X.prog X.w) X.A X.env X.xe)(hc:X.calm=true)(hi:PI X tg iter wi)(hg:PG X tg g)(l:hJ X body tb)
 (hs:∀x,foldedSetIterable iter X.env x=pure x:=by intro _;rfl):PS X (.For tg iter body [] pos) (Np wi g tb):=by
 intro U s σ H D I h;refine wpAny_For (aD (hi U s σ H _ I h) λv s1 h1=>aD h1 λav s2 h2=>?_) hs;obtain⟨it,fp,tn,J,H2,e,I2,T,a4,f2,W,⟨m0,w0⟩,turn⟩:=h2;subst e;have p:∀{H':Hp},(∀b∈fp,H' b=none)->∀b∈fp,pK X U H' b:=λhn b l=>{hn b l,(f2 b l).2};refine codeAny_forLoop_any (λn s'=>∃i t H',qx X U t H' s'/\tn i s'.heap/\(∀b∈fp,H' b=none)/\W i n t H') ?_ m0 {0,σ,H2,I2,a4,λb l=>(f2 b l).1,w0};rintro n s3 ⟨i,C,H3,I3,a2,a3,w3⟩;rcases turn i n C H3 w3 with⟨stop,qn⟩|⟨go,N,hN,step⟩
 .refine wpAny_passesOwn hp<|aD (T.done X rfl rfl rfl hc i U s3 C H3 X.xe I3 (p a3) a2 stop) λr s4 ⟨hr,I4⟩=>?_;subst hr;exact wpAny_execs_nil {(C),H3,I4,qn}
 .refine wpAny_passesOwn hp<|aD (T.item X rfl rfl rfl hc i U s3 C H3 X.xe I3 (p a3) a2 go) λr s4 ⟨u,hr,h4⟩=>?_;subst hr;refine wpAny_passesOwn hp<|aD h4 λ_ s5 ⟨x,H5,I5,r5,y5,a1,a5⟩=>?_;have ac:=I5.pinned (p a5)<|T.obj _ _ a1;refine wpAny_passesOwn hp<|aD (hg _ s5 C H5 x u _ ac r5<|step x H5 y5) λ_ s6 ⟨al,H6,I6,q6⟩=>?_;refine wpAny_passesOwn hp<|aD (l _ s6 al H6 _ I6 q6) λf s7 q7=>?_;have again:∀{j:St} {H7:Hp},qx X (U++nO fp s5.heap) j H7 s7->N j H7->∃m,m<n/\∃i t H',qx X U t H' s7/\tn i s7.heap/\(∀b∈fp,H' b=none)/\W i m t H':=λ{j H7} I7 n7=>by obtain⟨m',hm,w7⟩:=hN j H7 n7;refine{m',hm,i+1,j,H7,I7.WT,T.keep _ _ _ a1 λb l o e=>(I7.pin (b,o)<|Ah _<|Ah _<|df l e).1,λb l=>?_,w7};obtain⟨o,e,d⟩:=T.obj _ _ a1 b l;exact(I7.pin (b,o)<|Ah _<|Ah _<|df l e).2.1
  cases f with
  |next=>obtain⟨j,H7,I7,n7⟩:=q7;exact again I7 n7
  |cont=>obtain⟨j,H7,I7,n7⟩:=q7;exact again I7 n7
  |brk=>obtain⟨j,H7,I7,q7⟩:=q7;exact{(j),H7,I7.WT,q7}
  |ret v=>obtain⟨x7,j,H7,I7,r7,q7⟩:=q7;exact{(x7),j,H7,I7.WT,r7,q7}
abbrev R2:=V->V->Hp->VK->Prop
def aG(X:Cx)(f:WC->WC->Sem WC)(r:R2):Prop:=
 ∀(pins:List<|Addr×Obj) (s:WD) (σ:St) (H:Hp) (x y:V) (v u:WC) (Q:VK),qx X pins σ H s->zo x v->zo y u->r x y H Q->
  ZZ X (f v u) (EP X pins σ Q) X.xe s
def YB(X:Cx)(f:WC->Sem WC)(r:V->Hp->VK->Prop):Prop:=
 ∀(pins:List<|Addr×Obj) (s:WD) (σ:St) (H:Hp) (x:V) (v:WC) (Q:VK),qx X pins σ H s->zo x v->r x H Q->
  ZZ X (f v) (EP X pins σ Q) X.xe s
def je(X:Cx)(f:WC)(r:WI->Hp->VK->Prop):Prop:=
 ∀(pins:List<|Addr×Obj) (s:WD) (σ:St) (H:Hp) (xs:WI) (us:Wr) (Q:VK),qx X pins σ H s->zk xs us->r xs H Q->
  ZZ X (call f us) (EP X pins σ Q) X.xe s
def Fv(r:R2)(ta tb:TE):TE:=λσ H Q=>ta σ H λx H1=>tb σ H1 λy H2=>r x y H2 Q
def Nv(r:V->Hp->VK->Prop)(ta:TE):TE:=λσ H Q=>ta σ H λx H1=>r x H1 Q
def rI(C:Int->Int->Prop)(g:Int->Int->V):R2:=λx y H Q=>∃i j,x=.int i/\y=.int j/\C i j/\Q (g i j) H
def j_(g:Int->Int->V):R2:=λx y H Q=>∃i j,x=.int i/\y=.int j/\Q (g i j) H
def rU(g:Int->V):V->Hp->VK->Prop:=λx H Q=>∃i,x=.int i/\Q (g i) H
section
variable {a b:Expr}{ta tb tc:TE}
def GI(j:PE X a ta)(l:PE X b tb){R:V->V->Hp->Prop}(I:qx X pins σ H s)
 (h:ta σ H λx H1=>tb σ H1 λy H2=>R x y H2) {f:WC->WC->Sem WC}
 (o:∀v u g x y H2,qx X pins σ H2 g->zo x v->zo y u->R x y H2->ZZ X (f v u) Q X.xe g):
 ZZ X (eval a X.env) (λv J=>ZZ X (eval b X.env) (λu U=>ZZ X (f v u) Q X.xe U) X.xe J) X.xe s:=by
 refine aU (j pins s σ H _ I h) λv p x H1 r t C=>?_;refine aU (l pins p σ H1 _ r C) λu g y H2 T r2 q2=>?_;exact o v u g x y H2 T t r2 q2
def Nw{op:Operator}{r:R2}(U:aG X (binaryOp op) r)(g:PE X a ta)(j:PE X b tb):PE X (.BinOp a op b pos) (Fv r ta tb):=by intro J s l H Q I h;exact wpAny_BinOp<|GI g j I h λv u o x y p t C T q=>U J o l p x y v u Q t C T q
def Nx{op:UnaryOp}{r:V->Hp->VK->Prop}(g:YB X (unaryOp op) r)(j:PE X a ta):PE X (.UnaryOp op a pos) (Nv r ta):=by intro J s U H Q I h;exact UnaryOp_<|aU (j J s U H _ I h) λv l x o p t C=>g J l U o x v Q p t C
def F5{f:WC->WC->Sem WC}{C:Int->Int->Prop}{g:Int->Int->Int}
 (rule:∀(i j:Int) (t u:Tok) (s:WD) (Q:Wm) (E:Wm),C i j->Q (.int (g i j) s.toks) {s with toks:=s.toks+1}->ZZ X (f (.int i t)<|.int j u) Q E s):
 aG X f (rI C λi j=>.int<|g i j):=by
 rintro J s r H x y v u Q I U l⟨i,j,rfl,rfl,o,q⟩;obtain⟨t,rfl⟩:=U;obtain⟨p,rfl⟩:=l;exact rule i j t p s _ _ o {.int<|g i j,H,I.tok _,{_,rfl},q}
def HQ{f:WC->WC->Sem WC}{g:Int->Int->Int}
 (rule:∀(i j:Int) (t u:Tok) (s:WD) (Q:Wm) (E:Wm),Q (.int (g i j) s.toks) {s with toks:=s.toks+1}->ZZ X (f (.int i t)<|.int j u) Q E s):
 aG X f (j_ λi j=>.int<|g i j):=by
 rintro J s p H x y v u Q I U l⟨i,j,rfl,rfl,q⟩;obtain⟨t,rfl⟩:=U;obtain⟨o,rfl⟩:=l;exact rule i j t o s _ _ {.int<|g i j,H,I.tok _,{_,rfl},q}
def F6{f:WC->WC->Sem WC}{g:Int->Int->Bool}
 (rule:∀(i j:Int) (t u:Tok) (s:WD) (Q:Wm) (E:Wm),Q (.bool<|g i j) s->ZZ X (f (.int i t)<|.int j u) Q E s):
 aG X f (j_ λi j=>.bl<|g i j):=by
 rintro J s p H x y v u Q I U l⟨i,j,rfl,rfl,q⟩;obtain⟨t,rfl⟩:=U;obtain⟨o,rfl⟩:=l;exact rule i j t o s _ _ {.bl<|g i j,H,I,rfl,q}
def GJ(i j:Int):Prop:=0<j/\j<1073741824
def GK(i j:Int):Prop:=0<=j/\j<=1000000/\i.natAbs<2 ^ 64
def Zc(i j:Int):Prop:=(-(2 ^ 64)<i/\i<2 ^ 64)\/(-(2 ^ 64)<j/\j<2 ^ 64)
def Zc.ok{i j:Int}(h:Zc i j):IntMulOk i j:=by
 rcases h with⟨h1,h2⟩|⟨h1,h2⟩
 .exact .of_left<|intBits_le_64 h1 h2
 .exact .of_right<|intBits_le_64 h1 h2
def Ny:aG X (binaryOp .Add) (j_ λi j=>.int<|i+j):=HQ λ_ _ _ _ _ _ _ q=>add_int q
def Nz:aG X (binaryOp .Sub) (j_ λi j=>.int<|i-j):=HQ λ_ _ _ _ _ _ _ q=>sub_int q
def NA:aG X (binaryOp .Mult) (rI Zc λi j=>.int<|i*j):=F5 λ_ _ _ _ _ _ _ I q=>mul_int q I.ok
def NB:aG X (binaryOp .FloorDiv) (rI GJ λi j=>.int<|i / j):=F5 λi j _ _ _ _ _ I q=>by have h1:=I.1;have h2:=I.2;exact floordiv_int (by lia) (by rw[Int.fdiv_eq_ediv_of_nonneg i (by lia)];exact q)<|.inl<|PyProof.noPylong_small (by lia)
def NC:aG X (binaryOp .Mod) (rI (λ_ j=>0<j) λi j=>.int<|i % j):=F5 λi j _ _ _ _ _ I q=>by exact mod_int' (by lia) (by rw[Int.fmod_eq_emod_of_nonneg i (by lia)];exact q)
def ND:aG X (binaryOp .Pow) (rI GK λi j=>.int<|i ^ j.toNat):=F5 λ_ _ _ _ _ _ _ I q=>pow_int_small I.1 I.2.1 I.2.2 q
def NE{f:WC->Sem WC}{g:Int->Int}
 (rule:∀(i:Int) (t:Tok) (s:WD) (Q:Wm) (E:Wm),Q (.int (g i) s.toks) {s with toks:=s.toks+1}->ZZ X (f<|.int i t) Q E s):
 YB X f (rU λi=>.int<|g i):=by
 rintro J s j H x v Q I U⟨i,rfl,q⟩;obtain⟨t,rfl⟩:=U;exact rule i t s _ _ {.int<|g i,H,I.tok _,{_,rfl},q}
def NF:YB X (unaryOp .USub) (rU λi=>.int<|-i):=NE λ_ _ _ _ _ q=>neg_int q
end
def HR:V->V->Bool
 |.int _,.int _=>true
 |.bl _,.bl _=>true
 |.str _,.str _=>true
 |_,_=>false
def F7:Bool->CmpOp
 |true=>.NotEq
 |false=>.Eq
def q_(ne b:Bool):Bool:=match ne with
 |true=>!b
 |false=>b
def NG(ne:Bool):R2:=λx y H Q=>HR x y=true/\Q (.bl<|q_ ne<|decide<|x=y) H
def HU{i j:Int}:decide (V.int i=V.int j)=(i==j):=by rw[ED];simp
def HV{i j:Bool}:decide (V.bl i=V.bl j)=(i==j):=by rw[ED];simp
def HW{i j:Str}:decide (V.str i=V.str j)=(i==j):=by rw[ED];simp
section
variable {a b:Expr}{ta tb tc:TE}
def kX{Q:VK}{k J:Bool}(I:qx X pins σ H s)(q:Q (.bl k) H)(e:k=J):EP X pins σ Q (.bool J) s:=by subst e;exact{.bl k,H,I,rfl,q}
def yi(ne:Bool):aG X (compareOp<|F7 ne) (NG ne):=by
 rintro l s o H x y v u Q I U g⟨J,q⟩;cases x with
 |bl i=>
  cases y with|bl j=>cases U;cases g;cases ne;exact eq_bool<|kX I q HV;exact ne_bool (kX I q<|Bt not HV)|_=>exact(AI J).elim
 |int i=>
  cases y with
  |int j=>obtain⟨_,rfl⟩:=U;obtain⟨_,rfl⟩:=g;cases ne;exact eq_int<|kX I q HU;exact ne_int<|kX I q<|Bt not HU
  |_=>exact(AI J).elim
 |str i=>
  cases y with
  |str j=>obtain⟨_,rfl⟩:=U;obtain⟨_,rfl⟩:=g;cases ne;exact eq_str<|kX I q HW;exact ne_str<|kX I q<|Bt not HW
  |_=>exact(AI J).elim
 |_=>cases y<;>exact(AI J).elim
def NH:aG X (compareOp .Lt) (j_ λi j=>.bl<|decide<|i<j):=F6 λ_ _ _ _ _ _ _ q=>lt_int q
def NI:aG X (compareOp .LtE) (j_ λi j=>.bl<|decide<|i<=j):=F6 λ_ _ _ _ _ _ _ q=>le_int q
def NJ:aG X (compareOp .Gt) (j_ λi j=>.bl<|decide<|j<i):=F6 λ_ _ _ _ _ _ _ q=>gt_int q
def NK:aG X (compareOp .GtE) (j_ λi j=>.bl<|decide<|j<=i):=F6 λ_ _ _ _ _ _ _ q=>ge_int q
def xc(b:Expr){op:CmpOp}(h:op≠.In:=by decide)(h2:op≠.NotIn:=by decide):behindInMarks op b=false:=by
 have I:(op==CmpOp.In)=false:=by cases op<;>first|rfl|exact absurd rfl h
 have J:(op==CmpOp.NotIn)=false:=by cases op<;>first|rfl|exact absurd rfl h2
 cases b<;>simp[behindInMarks,I,J]
def NL{op:CmpOp}{r:R2}(U:aG X (compareOp op) r)(g:PE X a ta)(j:PE X b tb)(l:behindInMarks op b=false):PE X (.Compare a [op] [b] pos) (Fv r ta tb):=by intro J s o H Q I h;exact wpAny_Compare1 (GI g j I h λv u p x y t C T ry q=>U J p o t x y v u Q C T ry q) l
def HX(t:TE):TT:=λσ H Q=>t σ H λx H'=>∃k,x=.bl k/\Q k H'
def tV{op:CmpOp}{r:R2}(g:aG X (compareOp op) r)(j:PE X a ta)(l:PE X b tb)(o:behindInMarks op b=false):PT X (.Compare a [op] [b] pos) (HX<|Fv r ta tb):=by
 intro J s U H Q I h;refine wpAny_isTrue_Compare1 (aU (j J s U H _ I h) λv p x t C T q1=>aU (l J p U t _ C q1) λu s2 y H2 I2 r2 q2=>
  aD (g J s2 U H2 x y v u _ I2 T r2 q2) λc s3 ⟨z,H3,I3,r3,k,e,q3⟩=>?_) o
 subst e;cases r3;exact wpAny_truthy_bool {(H3),I3,q3}
def jY:(sizeLine:Nat)<2 ^ 63:=by rw[sizeLine_eq];decide
def yF:aG X (binaryOp .Add) (λx y H Q=>∃i j,x=.str i/\y=.str j/\i.length+j.length<=sizeLine/\Q (.str<|i++j) H):=by rintro J s p H x y v u Q I U g⟨i,j,rfl,rfl,l,q⟩;obtain⟨t,rfl⟩:=U;obtain⟨o,rfl⟩:=g;exact ji I.tk<|add_str (λo r C=>{.str<|i++j,H,I.tok _,{_,rfl},q}) l
def uZ{x:V}(r:zk [x] us):∃u,us=[u]/\zo x u:=by cases r with|cons I J=>cases J;exact{_,rfl,I}
def HY{x y:V}(r:zk [x,y] us):∃u I,us=[u,I]/\zo x u/\zo y I:=by
 cases r with
 |cons J U=>
  cases U with|cons g j=>cases j;exact{_,_,rfl,J,g}
def NN(hc:X.calm=true):je X (.builtin "max") (λxs H Q=>∃i j,xs=[.int i,.int j]/\Q (.int<|if j > i then j else i) H):=by
 rintro U s g H xs l Q I r⟨i,j,rfl,q⟩;obtain⟨u,o,rfl,⟨t,rfl⟩,⟨p,rfl⟩⟩:=HY r;refine ji I.tk<|max_two_ints (I.ok.hd hc) λC T k ht=>{_,H,I.kept k,?_,q};by_cases J:j > i
 .rw[Ar J,Ar J];exact{_,rfl}
 .rw[Ap J,Ap J];exact{_,rfl}
def NO(hc:X.calm=true):je X (.builtin "min") (λxs H Q=>∃i j,xs=[.int i,.int j]/\Q (.int<|if j<i then j else i) H):=by
 rintro U s g H xs l Q I r⟨i,j,rfl,q⟩;obtain⟨u,o,rfl,⟨t,rfl⟩,⟨p,rfl⟩⟩:=HY r;refine ji I.tk<|min_two_ints (I.ok.hd hc) λC T k ht=>{_,H,I.kept k,?_,q};by_cases J:j<i
 .rw[Ar J,Ar J];exact{_,rfl}
 .rw[Ap J,Ap J];exact{_,rfl}
end
structure xS(h:WG)(x dx C:Addr)(mA:Wo):Prop where
 obj:h.get? x=some (PySem.W.instObj C dx)
 ns:h.Ns1 dx mA
 ne:dx≠x
def NP(n:h.Ns1 dx mA):∃od,h.get? dx=some od/\∀name,PySem.W.lookIn name od=some (mA name):=by
 obtain⟨o,J,r,U,hd,g,_,j⟩:=n;refine{o,U,λname=>?_};have e:=j name;unfold nsFind findBy at e;rw[<-Array.find?_toList] at e;unfold PySem.W.lookIn;rw[hd];dsimp only;split
 .rename_i y q;rw[q] at e;exact Bt some e
 .rename_i q;rw[q] at e;have a:J.toList.any (·.refKey)=false:=by rw[List.any_eq_false];intro y l;obtain⟨z,t,I⟩:=g y<|Array.mem_toList_iff.mp l;simp[DictEntry.refKey,I]
  have p:¬J.toList.any (·.refKey)=true:=by rw[a];exact AI
  rw[Ap p];exact Bt some e
def xS.look{x:Addr}(I:xS h x dx C mA):∃od,PySem.W.InstAt h x (PySem.W.instObj C dx) C (some od)/\∀name,PySem.W.lookIn name od=some (mA name):=
 let ⟨od,J,U⟩:=NP I.ns
 ⟨od,⟨I.obj,rfl,rfl,J⟩,U⟩
section
variable {w:WF}{K:Ag}{x:Addr}{v:WC}
def NQ{expr:Bool}(X:K.In s.heap)(I:xS s.heap x dx C mA)(g:PySem.W.plainGet K C name=true)(j:PySem.W.hasDictIn K C=true)
 (l:PySem.W.findIn K (.ref C) name=some none) (o:mA name=some v) (U:PySem.W.handedIn v=true) (h:Q v {s with toks:=s.toks+1}):
 wpAny (model prog w) A (getAttr (.ref x) name expr) Q E s:=by
 obtain⟨r,J,p⟩:=I.look;exact PySem.W.get_value X J (DM g).1 (PySem.W.findObj_own j l rfl (by rw[p,o])) U h
def NR{pl:Sem Bool}{Q:WC×Wr->WD->Prop}(X:K.In s.heap)(I:xS s.heap x dx C mA)(U:PySem.W.plainGet K C name=true)
 (g:PySem.W.findIn K (.ref C) name=some (some<|.ref f)) (j:PySem.W.isFn K (.ref f)=true) (l:mA name=none) (h:Q (.ref f,[.ref x]) s):
 wpAny (model prog w) A (getMethod (.ref x) name pl) Q E s:=by
 obtain⟨o,J,p⟩:=I.look;exact PySem.W.method_fn X J (DM U).1 (DM U).2 g (beq_iff_eq.mp j) (by show(PySem.W.lookIn name o).map (·.isSome)=some false;rw[p,l];rfl) h
def NS{ns:Wu}{Q:Wn}(X:K.In s.heap)(I:xS s.heap x dx C mA)
 (hs:PySem.W.findIn K (.ref C) "__setattr__"=some (some<|.builtin "object.__setattr__")) (hp:PySem.W.plainOver K C=true) (t:PySem.W.takerIn K C name=some none) (T:PySem.W.hasDictIn K C=true)
 (hw:PySem.Within mA ns) (hsz:ns.length<=sizeLine)
 (h:∀h',xS h' x dx C (λy=>if y=name then some v else mA y)->Heap.SameBut dx s.heap h'->Q () {s with heap:=h',toks:=s.toks+2}):
 wpAny (model prog w) A (setAttr (.ref x) name v) Q E s:=by
 obtain⟨od,J,hl⟩:=I.look;refine PySem.W.set_plain X J hs<|PySem.W.osa_open (s:={s with toks:=s.toks+1}) (r:=none) X J hp t λb=>?_;obtain⟨cd,hc,j⟩:=PySem.W.any_some T;have hx:=I.obj;refine Aa<|Ak<|Aa<|Aa<|wpAny_loadPart hx<|Aa<|PySem.W.Looks.here (s:={s with toks:=s.toks+1}) (PySem.W.looks_clsIn X hc) ?_;rw[j];refine Ak (a:=some dx)<|Aa<|Ak<|Aa ?_;refine wpAny_nsSet1 (s:={s with toks:=s.toks+1}) I.ns λh' U g=>?_;obtain⟨oD,a1,a2,l,o,p⟩:=U.count<|PySem.Within.cons name v hw;refine Aa (wpAny_lookBehind l (by rw[o];exact pastItsLine_dict (AK p (by rw[AD];lia))) ?_);exact Ak<|h _ {(g.2 _<|AE I.ne).trans I.obj,U,I.ne} g
def NT{R:Result->WD->Prop}(X:K.In s.heap)(I:PySem.W.makesIn K C=true)
 (hi:PySem.W.findIn K (.ref C) "__init__"=some (some<|.ref f)) (J:PySem.W.typeIn K (.ref f)=some (.type "function"))
 (h:codeAny (model prog w) (A.under<|.builtin "type.__call__" {.ref C::vs,kw}) (.call (.ref f) ⟨.ref (↥s+1)::vs,kw⟩) (PySem.W.InitBack (↥s+1) R)
  {s with heap:=(s.heap.push PySem.W.emptyDict).push (PySem.W.instObj C ↥s)}):
 codeAny (model prog w) A (.call (.ref C) ⟨vs,kw⟩) R s:=by
 obtain⟨U,g,d,t,os⟩:=s;exact PySem.W.make_core (PySem.W.makes_of X I) (PySem.W.looks_findIn X hi) (λself=>PySem.W.bind_fn X self J) (.inl rfl) h
end
def dm(f:Str)(v:V):List (Str×V)->List (Str×V)
 |[]=>[(f,v)]
 |(g,x)::r=>if g=f then(g,v)::r else(g,x)::dm f v r
theorem lS(f g:Str)(v:V):∀fs:List (Str×V),(dm f v fs).lookup g=if g=f then some v else fs.lookup g
 |[]=>by
  show List.lookup g [(f,v)]=_;by_cases h:g=f
  .have I:=beq_iff_eq.mpr h;simp only[List.lookup,I,Ar h]
  .have I:=beq_eq_false_iff_ne.mpr h;simp only[List.lookup,I,Ap h]
 |(k,x)::r=>by
  have U:=lS f g v r;rw[show dm f v ((k,x)::r)=(if k=f then(k,v)::r else(k,x)::dm f v r) from rfl];by_cases J:k=f
  .rw[Ar J];by_cases h:g=k
   .have I:=beq_iff_eq.mpr h;simp only[List.lookup,I,Ar<|h.trans J]
   .have I:=beq_eq_false_iff_ne.mpr h;simp only[List.lookup,I,Ap (λe:g=f=>h<|e.trans J.symm)]
  .rw[Ap J];by_cases h:g=k
   .have I:=beq_iff_eq.mpr h;simp only[List.lookup,I,Ap (λe:g=f=>J<|h.symm.trans e)]
   .have I:=beq_eq_false_iff_ne.mpr h;simp only[List.lookup,I];exact U
theorem kZ(f:Str)(v:V):∀fs:List (Str×V),f∈(dm f v fs).map (·.1)/\∀g,g∈fs.map (·.1)->g∈(dm f v fs).map (·.1)
 |[]=>{by simp[dm],λg h=>by simp at h}
 |(k,x)::r=>by
  obtain⟨J,U⟩:=kZ f v r;rw[show dm f v ((k,x)::r)=(if k=f then(k,v)::r else(k,x)::dm f v r) from rfl];by_cases I:k=f
  .rw[Ar I];subst I;exact{by simp,λg h=>by simpa using h}
  .rw[Ap I];refine{?_,λg h=>?_}
   .rw[AQ];exact Al _ J
   .rw[AQ] at h ⊢;rcases Aw.mp h with e|e
    .exact Aw.mpr<|.inl e
    .exact Al _<|U g e
theorem lJ(f:Str)(v:V):∀fs:List (Str×V),(dm f v fs).length<=fs.length+1
 |[]=>by simp[dm]
 |(k,x)::r=>by
  have J:=lJ f v r;rw[show dm f v ((k,x)::r)=(if k=f then(k,v)::r else(k,x)::dm f v r) from rfl];by_cases I:k=f
  .rw[Ar I,AD,AD];lia
  .rw[Ap I,AD,AD];lia
def fY.some_of{o:Wy}(r:fY (some v) o):∃u,o=some u/\zo v u:=by cases o with|none=>exact(show False from r).elim|some u=>exact{(u),rfl,r}
abbrev E7:=@fY.some_of
def fY.none_of{o:Wy}(r:fY none o):o=none:=by cases o with|none=>rfl|some u=>exact(show False from r).elim
def NU(r:zo v u):PySem.W.handedIn u=true:=by
 cases v with
 |KB=>cases (show u=Value.none from r);rfl
 |bl b=>cases (show u=Value.bool b from r);rfl
 |int i=>obtain⟨t,e⟩:=(show ∃t,u=Value.int i t from r);cases e;rfl
 |str x=>obtain⟨t,e⟩:=(show ∃t,u=Value.str x t from r);cases e;rfl
 |Zh b=>obtain⟨t,e⟩:=(show ∃t,u=Value.bytes b t from r);cases e;rfl
 |X8 b=>obtain⟨t,e⟩:=(show ∃t,u=Value.float b t from r);cases e;rfl
 |ref a=>cases (show u=Value.ref a from r);rfl
 |ty n=>cases (show u=Value.type n from r);rfl
section
variable {P:WE}{w:WF}{a:Addr}{fs fs':List<|Str×V}
def mz(GT:fD P w H h)(e:H a=some (.ins C dx fs)):∃mA,xS h a dx C mA/\(∀f,fY (fs.lookup f)<|mA f)/\PySem.Within mA (fs.map (·.1))/\fs.length<=1000/\H dx=some (.own a):=by obtain⟨d,z,ne,ob,mA,n,r,q⟩:=(show xh P w H h a (.ins C dx fs) from GT a _ e);exact{mA,{(ob),n,ne},r,q,z,d}
end
structure Xe(K:Ag)(C:Addr):Prop where
 pg:PySem.W.plainGet K C Str.empty=true
 hd:PySem.W.hasDictIn K C=true
 po:PySem.W.plainOver K C=true
 sa:PySem.W.findIn K (.ref C) "__setattr__"=some (some<|.builtin "object.__setattr__")
def Xe.get{K:Ag}(c:Xe K C)(f:Str):PySem.W.plainGet K C f=true:=c.pg
def Pi(K:Ag)(C:Addr)(f:Str):Prop:=PySem.W.findIn K (.ref C) f=some none
def Pi.Zi{K:Ag}{f:Str}(n:Pi K C f):PySem.W.takerIn K C f=some none:=by unfold PySem.W.takerIn;rw[show PySem.W.findIn K (.ref C) f=some none from n];rfl
structure Fw(K:Ag)(C:Addr)(m:Str)(f:Addr):Prop where
 at_:PySem.W.findIn K (.ref C) m=some (some<|.ref f)
 fn:PySem.W.isFn K (.ref f)=true
 kp:PySem.W.keepIn K (.ref f)=true
section
variable {a:Addr}{fs:List<|Str×V}{f:Str}
def yY{b:Bool}(I:qx X pins σ H s)(e:H a=some (.ins C dx fs))(c:Xe X.K C)(n:Pi X.K C f)(l:fs.lookup f=some v)
 (h:∀u s',qx X pins σ H s'->zo v u->Q u s'):wpAny (model X.prog X.w) A (getAttr (.ref a) f b) Q E s:=by
 obtain⟨U,O,r,_,_,_⟩:=mz I.GT e;obtain⟨u,g,J⟩:=E7 (v:=v) (o:=U f) (by rw[<-l];exact r f);exact NQ I.SC O (c.get f) c.hd n g (NU J)<|h u _ (I.tok _) J
def wQ{m:Str}{g:Addr}{pl:Sem Bool}{Q:WC×Wr->WD->Prop}(I:qx X pins σ H s)(e:H a=some (.ins C dx fs))(c:Xe X.K C)(k:Fw X.K C m g)(l:fs.lookup m=none)
 (h:Q (.ref g,[.ref a]) s):wpAny (model X.prog X.w) A (getMethod (.ref a) m pl) Q E s:=by
 obtain⟨U,O,r,_,_,_⟩:=mz I.GT e;have J:=fY.none_of (by rw[<-l];exact r m);exact NR I.SC O (c.get m) k.at_ k.fn J h
def yS{y:V}{Q:Wn}(I:qx X pins σ H s)(e:H a=some (.ins C dx fs))(c:Xe X.K C)(n:Pi X.K C f)(hl:fs.length<1000)(p:zo y u)
 (h:∀s',qx X pins σ (upd H a<|.ins C dx<|dm f y fs) s'->Q () s'):wpAny (model X.prog X.w) A (setAttr (.ref a) f u) Q E s:=by
 obtain⟨U,O,r,j,_,l⟩:=mz I.GT e;have t:(fs.map (·.1)).length<=sizeLine:=by rw[Ae,sizeLine_eq];lia
 refine NS I.SC O c.sa c.po n.Zi c.hd j t λT J sb=>h _ ?_;have hd:∃o,T.get? dx=some o:=let ⟨o,_,_,e',_⟩:=J.ns;⟨o,e'⟩;refine I.write (x:=a) (e:=dx) (by rw[e];exact True.intro) (.inr l) (λb q hb z=>(sb.2 b hb).trans z) hd ?_;refine{by rw[qo O.ne];exact l,?_,O.ne,J.obj,_,J.ns,λg=>?_,λg hg=>?_}
 .have:=lJ f y fs;lia
 .show fY ((dm f y fs).lookup g) (if g=f then some u else U g);rw[lS];by_cases q:g=f
  .rw[Ar q,Ar q];exact p
  .rw[Ap q,Ap q];exact r g
 .by_cases q:g=f
  .rw[q];exact(kZ f y fs).1
  .refine(kZ f y fs).2 g (j g λz=>hg ?_);show(if g=f then some u else U g)=none;rw[Ap q];exact z
def qx.made(I:qx X pins σ H s):qx X pins σ (upd (upd H ↥s<|.own<|↥s+1) (↥s+1)<|.ins C ↥s [])
 {s with heap:=(s.heap.push PySem.W.emptyDict).push (PySem.W.instObj C ↥s)}:=by
 have J:(s.heap.push PySem.W.emptyDict).get? ↥s=some PySem.W.emptyDict:=vb s.heap rfl;have U:((s.heap.push PySem.W.emptyDict).push<|PySem.W.instObj C ↥s).get? (↥s+1)=some (PySem.W.instObj C ↥s):=by have:=vb (s.heap.push PySem.W.emptyDict) (o:=PySem.W.instObj C ↥s) rfl;rwa[At] at this
 have g:(s.heap.push PySem.W.emptyDict).Ns ↥s (λ_=>none):={PySem.W.emptyDict,#[],_,J,rfl,(λe j=>absurd j (by simp)),λ_=>rfl};have l:=I.laid (a:=↥s) (o:=.own<|↥s+1) (h':=s.heap.push PySem.W.emptyDict) (t':=s.toks) (λb u q=>sy _ q) (An _) {_,J};refine l.laid (a:=↥s+1) (o:=.ins C ↥s []) (t':=s.toks) (λb u q=>sy _ q) (Dr<|At _ _) ?_;have ne:↥s≠↥s+1:=A3<|Bi _;refine{by rw[qo ne,zf],A5 _,ne,U,λ_=>none,(Heap.Ns1.of_empty g).at λo q=>sy _ q,λ_=>True.intro,λy p=>absurd rfl p}
def NV{w:WF}{f:Str}(J:attributeBase e f env (eval e env)=eval e env)
 (h:wpAny (model prog w) A (eval e env) (λo I=>wpAny (model prog w) A (getAttr o f true) Q E I) E s):wpAny (model prog w) A (eval (.Attribute e f pos) env) Q E s:=
 Attribute_any_ h (by rw[arm_eval_Attribute,J])
end
def NW(K:Ag)(ta:TE)(f:Str):TE:=λσ H Q=>ta σ H λx H1=>∃a C dx fs v,x=.ref a/\H1 a=some (.ins C dx fs)/\Xe K C/\Pi K C f/\fs.lookup f=some v/\Q v H1
def NX(K:Ag)(ta tv:TE)(f:Str):TS:=λD σ H=>tv σ H λy H1=>ta σ H1 λx H2=>∃a C dx fs,x=.ref a/\H2 a=some (.ins C dx fs)/\Xe K C/\Pi K C f/\fs.length<1000/\
 D.nx σ (upd H2 a<|.ins C dx<|dm f y fs)
section
variable {f:Str}{tpos:Pos}{ta tv:TE}
def NY(U:PE X e ta)(g:attributeBase e f X.env (eval e X.env)=eval e X.env):PE X (.Attribute e f pos) (NW X.K ta f):=by intro J s j H Q I h;refine NV g<|aD (U J s j H _ I h) λu s1 ⟨x,o,p,r,a,C,dx,fs,v,ex,ea,c,n,l,q⟩=>?_;subst ex;obtain rfl:u=Value.ref a:=r;exact yY p ea c n l λu' s2 t T=>{(v),o,t,T,q}
def NZ(g:PE X o ta)(j:PE X value tv)(hs:swapsWith value (some<|.Attribute o f fx) pos.line X.env=pure false):PS X (.Assign [.Attribute o f fx] value pos) (NX X.K ta tv f):=by intro J s U H D I h;refine plainObj_wpAny_Assign_Attribute (aU (j J s U H _ I h) λu p y r t T q=>aD (g J p U r _ t q) λov s2 ⟨x,H2,I2,rx,a,C,dx,fs,ex,ea,c,n,l,q2⟩=>?_) hs;subst ex;obtain rfl:ov=Value.ref a:=rx;exact yS I2 ea c n l T λs3 I3=>{U,_,I3,q2}
end
section
variable {c:WC}{b:Bool}
inductive oJ(K:Ag)(H:Hp):V->WC->Prop where
 |KB:oJ K H .KB (.type "NoneType")
 |bl (x:Bool):oJ K H (.bl x) (.type "bool")
 |int (i:Int):oJ K H (.int i) (.type "int")
 |str (x:Str):oJ K H (.str x) (.type "str")
 |X8 (x:UInt64):oJ K H (.X8 x) (.type "float")
 |lst {a:Addr} {xs:WI} (e:H a=⇑xs):oJ K H (.ref a) (.type "list")
 |Pv {a:Addr} {o:Obj} {xs:WI} (e:H a=some (.Pv o<|.lst xs)):oJ K H (.ref a) (.type "list")
 |tup {a:Addr} {xs:WI} (e:H a=some (.tup xs)):oJ K H (.ref a) (.type "tuple")
 |dK {a:Addr} {kvs:List<|j8×V} (e:H a=some (.dK kvs)):oJ K H (.ref a) (.type "dict")
 |ins {a C dx:Addr} {fs:List<|Str×V} (e:H a=some (.ins C dx fs)) (cl:Xe K C) (ha:PySem.W.findIn K (.ref C) "__class__"=some (some<|.builtin "object.__class__"))
  (hn:PySem.W.specialIn K (.builtin "object.__class__") "__get__"=some (some<|.builtin "getset_descriptor.__get__")) (htk:PySem.W.takesIn K (.builtin "object.__class__")=some true)
  (hm:PySem.W.mroIn K C (.type "object")=some true):oJ K H (.ref a) (.ref C)
def bK{x:V}{t:WC}(I:qx X pins σ H s)(U:zo x u)(ty:oJ X.K H x t)(e:PySem.W.kitOne X.K t c=some b)(h:∀tk,Q (.bool b) {s with toks:=tk}):
 wpAny (model X.prog X.w) A (call (.builtin "isinstance") [u,c]) Q E s:=by
 cases ty with
 |KB=>cases (show u=Value.none from U);exact BF PySem.W.kitx_none I.SC True.intro e (λz=>nomatch z) h
 |bl y=>cases (show u=Value.bool y from U);exact BF PySem.W.kitx_bool I.SC True.intro e (λz=>nomatch z) h
 |int i=>obtain⟨t,q⟩:=(show ∃t,u=Value.int i t from U);cases q;exact BF PySem.W.kitx_int I.SC True.intro e (λz=>nomatch z) h
 |str y=>obtain⟨t,q⟩:=(show ∃t,u=Value.str y t from U);cases q;exact BF PySem.W.kitx_str I.SC True.intro e (λz=>nomatch z) h
 |X8 y=>obtain⟨t,q⟩:=(show ∃t,u=Value.float y t from U);cases q;exact BF PySem.W.kitx_float I.SC True.intro e (λz=>nomatch z) h
 |@lst a g ea=>
  cases (show u=Value.ref a from U);obtain⟨_,_,n,_,h1⟩:=(show xh X.prog X.w H s.heap a (.lst g) from I.GT a _ ea);exact BF CU I.SC {_,h1,rfl} e (λz=>nomatch z) h
 |@Pv a ob g ea=>
  cases (show u=Value.ref a from U);obtain⟨_,_,_,n,_,h1⟩:=(show xh X.prog X.w H s.heap a (.Pv ob<|.lst g) from I.GT a _ ea);exact BF CU I.SC {_,h1,rfl} e (λz=>nomatch z) h
 |@tup a g ea=>
  cases (show u=Value.ref a from U);obtain⟨_,_,_,p⟩:=(show xh X.prog X.w H s.heap a (.tup g) from I.GT a _ ea);obtain⟨o,h1,h2,_⟩:=p;exact BF DQ I.SC {(o),h1,h2} e (λz=>nomatch z) h
 |@dK a j ea=>
  cases (show u=Value.ref a from U);obtain⟨_,_,vs,_,p⟩:=(show xh X.prog X.w H s.heap a (.dK j) from I.GT a _ ea);obtain⟨o,es,ep,h1,h2,_⟩:=p;exact BF PySem.W.kitx_dict I.SC {(o),h1,h2.1} e (λz=>nomatch z) h
 |@ins a C dx fs ea cl r T l hm=>
  cases (show u=Value.ref a from U);obtain⟨mA,O,_⟩:=mz I.GT ea;obtain⟨od,J,_⟩:=O.look;exact BF (PySem.W.kitx_own (cl.get _) cl.hd r T l hm) I.SC J e (λz=>nomatch z) h
end
structure ki(k:Nat)(A:Around):Prop where
 hd:A.handled=none
 dp:A.depth+3*k+5<recursionLimit
 un:A.units+16*k+200<cLine
def ki.mono{k:Nat}(r:ki k A)(h:j<=k):ki j A:={r.hd,by have:=r.dp;lia,by have:=r.un;lia}
def ki.deeper{k:Nat}(r:ki (k+1) A)(env:Env):ki k (A.deeper env):=
 ⟨r.hd,by have:=r.dp;show A.depth+1+3*k+5<_;lia,by have:=r.un;show A.units+3+16*k+200<_;lia⟩
def wZ :(A.under<|.builtin "type.__call__" {.ref C::us,kw}).depth=A.depth+1:=by first|rfl|simp[Around.under,Code.weight,Code.isCreation,Code.isGuard,Code.isCaller,Code.frames,Code.isFrame,guardIds]
def xR :(A.under<|.builtin "type.__call__" {.ref C::us,kw}).units=A.units+1:=by first|rfl|simp[Around.under,Code.cUnits,Code.frames,Code.isFrame]
def ki.make{k:Nat}(r:ki (k+1) A)(C:Addr)(us:Wr)(kw:List<|Str×WC):ki k (A.under<|.builtin "type.__call__" {.ref C::us,kw}):=
 ⟨r.hd,by have:=r.dp;rw[wZ];lia,by have:=r.un;rw[xR];lia⟩
def ki.depth{k:Nat}(r:ki k A):A.depth<recursionLimit:=by have:=r.dp;lia
def N4:TA:=λ_ H Q=>Q [] H
def N7(ta:TE)(tr:TA):TA:=λσ H Q=>ta σ H λx H1=>tr σ H1 λxs H2=>Q (x::xs) H2
section
variable {te:TE}{t:TA}
def fH:PA X [] N4:=λ_ _ _ _ H Q I h=>Fg {[],H,I,.nil,h}
abbrev Fb(e:Expr)(es:Wv)(X:Cx):Prop:=starEach (e::es) X.env=(false,eval e X.env)::starEach es X.env
def aP(g:PE X e te)(j:PA X es t)(hs:Fb e es X:=by rfl):PA X (e::es) (N7 te t):=by intro pos J s U H Q I h;rw[hs];refine yp<|aU (g J s U H _ I h) λu l x o p r C=>?_;exact vN (j pos J l U o _ p C) λus s2 T H2 I2 r2 q2=>{x::T,H2,I2,.cons r r2,q2}
def N8(t:TA):TE:=λσ H Q=>t σ H λxs H1=>xs.length<=sizeLine/\∀p,H1 p=none->Q (.ref p) (upd H1 p<|.tup xs)
def N9(t:TA):TE:=λσ H Q=>t σ H λxs H1=>xs.length<=sizeLine/\∀p,H1 p=none->Q (.ref p) (upd H1 p<|.lst xs)
def HZ{x1}(h:PA X es t):PE X (.Tuple es x1 pos) (N8 t):=by intro J s j H Q I l;refine wpAny_Tuple_spliced (aD (h pos J s j H _ I l) λo U ⟨p,C,g,r,z,q⟩=>{by rw[<-r.length];exact z,?_});have T:=g.GT.fresh<|An _;refine{.ref ↥U,upd C ↥U<|.tup p,g.laid (t':=U.toks) (λb u e=>sy _ e) (An _) ?_,rfl,q _ T};exact{z,o,r,{_,vb _ rfl,rfl,_,rfl}}
def N'(h:PA X es t):PE X (.List es pos) (N9 t):=by intro J s j H Q I l;refine wpAny_List_spliced (aD (h pos J s j H _ I l) λo U ⟨p,C,g,r,z,q⟩=>{by rw[<-r.length];exact z,?_});have T:=g.GT.fresh<|An _;refine{.ref ↥U,upd C ↥U<|.lst p,g.laid (t':=U.toks) (λb u e=>sy _ e) (An _) ?_,rfl,q _ T};exact{z,o,0,r,vb _ rfl}
end
abbrev Sp:=WI->Hp->VK->XK->Prop
abbrev y9:=List Env->Hp->WD->XK->Wm
structure xP(P:WE)(w:WF)(K:Ag)(mg:Wo)(base:WG)(A:Around)(outer:List Env)(s:WD)(H:Hp):Prop where
 frames:A.frames=some outer
 mod:Mod K mg base
 bs:∀b o,base.get? b=some o->s.heap.get? b=some o/\H b=none
 XY:base.objs.size<=↥s
 WK:s.heap.FunFrames base outer
 X9:∀b∈cW outer,H b=none
 GT:fD P w H s.heap
 bare:AllBare s.gens
 tk:0<s.toks
def CE(outer:List Env)(P:WE)(w:WF)(H:Hp)(s:WD)(Q:VK)(u:WC)(s':WD):Prop:=
 ∃v H',s'.os=s.os/\AllBare s'.gens/\Un (cW outer) [] H H' s.heap s'.heap/\fD P w H' s'.heap/\zo v u/\Q v H'/\0<s'.toks
def CR(CX:y9)(outer:List Env)(P:WE)(w:WF)(H:Hp)(s:WD)(Q:VK)(E:XK)(r:Result)(s':WD):Prop:=
 match r with
 |.ok (.ret u)=>CE outer P w H s Q u s'
 |.ok _=>False
 |.error e=>CX outer H s E e s'
structure au(P:WE)(w:WF)(K:Ag)(mg:Wo)(base:WG)(CX:y9)(k:Nat)(f:Addr)(fd:FuncData)(ps:Wu)(sp:Sp):Prop where
 len:∀vs H Q E,sp vs H Q E->vs.length=ps.length
 run:∀(A:Around) (outer:List Env) (s:WD) (H:Hp) (args:Args) (us:Wr) (vs:WI) (Q:VK) (E:XK),ki k A->xP P w K mg base A outer s H->BindsTo s fd args (ps.zip us)->zk vs us->sp vs H Q E->
  codeAny (model P w) A (.call (.ref f) args) (CR CX outer P w H s Q E) s
theorem au.mono{P:WE}{w:WF}{K:Ag}{CX:y9}{k:Nat}{sp:Sp}(F:au P w K mg base CX j f fd ps sp)(h:j<=k):
 au P w K mg base CX k f fd ps sp:={F.len,λA I s H args J U Q E g=>F.run A I s H args J U Q E<|g.mono h}
def au.imp{P:WE}{w:WF}{K:Ag}{CX:y9}{k:Nat}{sp J:Sp}(F:au P w K mg base CX k f fd ps sp)
 (h:∀vs H Q E,J vs H Q E->sp vs H Q E):au P w K mg base CX k f fd ps J:=
 ⟨λvs H Q E q=>F.len vs H Q E<|h _ _ _ _ q,λA I s H args U vs Q E g j l o p=>F.run A I s H args U vs Q E g j l o<|h _ _ _ _ p⟩
def xP.make{P:WE}{w:WF}{K:Ag}(e:xP P w K mg base A outer s H)(C:Addr)(us:Wr)(kw:List<|Str×WC):
 xP P w K mg base (A.under<|.builtin "type.__call__" {.ref C::us,kw}) outer s H:={by first|exact e.frames|(simpa[Around.under,Code.envs,Code.isFrame,pushEnvs] using e.frames),e.mod,e.bs,e.XY,e.WK,e.X9,e.GT,e.bare,e.tk}
def qx.XA(I:qx X pins σ H s):xP X.prog X.w X.K X.mg X.base X.A X.stack s H:=
 ⟨I.ok.frames,I.ok.mod,I.bs,AK I.ok.XY I.sz,I.stack,I.Xs,I.GT,I.bare,I.tk⟩
def qx.after{Q:VK}(I:qx X pins σ H s)(h:CE X.stack X.prog X.w H s Q u s'):EP X pins σ Q u s':=by obtain⟨v,j,os,bare,un,J,r,q,o⟩:=h;obtain⟨l,g,d,t,U⟩:=s';obtain rfl:U=s.os:=os;exact{v,j,I.call (h':=l) (g':=g) (d':=d) (t':=t) (ch:=[]) un J bare λb z=>absurd z (by simp),r,q}
def H0(sp:Sp)(mv:WI)(E:XK)(t:TA):TE:=λσ H Q=>t σ H λvs H1=>sp (vs++mv) H1 Q E
def Oa(C:Addr)(m:Str)(sp:Sp)(mv:WI)(E:XK)(ta:TE)(t:TA):TE:=λσ H Q=>ta σ H λx H1=>∃a dx fs,x=.ref a/\H1 a=some (.ins C dx fs)/\fs.lookup m=none/\
 t σ H1 λvs H2=>sp (x::(vs++mv)) H2 Q E
def Oc(C:Addr)(sp:Sp)(mv:WI)(E:XK)(t:TA):TE:=λσ H Q=>t σ H λvs H1=>∀x dx,H1 x=none->H1 dx=none->dx≠x->
 sp (.ref x::(vs++mv)) (upd (upd H1 dx<|.own x) x<|.ins C dx []) (λv H2=>v=.KB/\Q (.ref x) H2) E
def aA(K:Ag)(fd:FuncData)(ps:Wu)(ds:Wr):Prop:=
 ∀(s:WD) (us:Wr),K.In s.heap->(us++ds).length=ps.length->BindsTo s fd ⟨us,[]⟩ (ps.zip<|us++ds)
def aA.all{K:Ag}(h:∀us:Wr,us.length=ps.length->bindArgs fd ⟨us,[]⟩=pure (ps.zip us)):aA K fd ps []:=λs us _ I=>by rw[AB] at I ⊢;exact .of_eq<|h us I
def kK(CX:y9)(X:Cx)(E:XK):Prop:=∀(pins:List<|Addr×Obj) (σ:St) (H:Hp) (s:WD) (e:WC) (s':WD),qx X pins σ H s->CX X.stack H s E e s'->X.xe e s'
section
variable {CX:y9}{k:Nat}{sp:Sp}{mv:WI}{ds:Wr}{E:XK}{m:Str}{ta:TE}{t:TA}
def H9{Q:VK}{vs:WI}(F:au X.prog X.w X.K X.mg X.base CX k f fd ps sp)(g:ki k X.A)(j:aA X.K fd ps ds)(hd:zk mv ds)(l:kK CX X E)
 (I:qx X pins σ H s) (r:zk vs us) (h:sp (vs++mv) H Q E):ZZ X (call (.ref f) us) (EP X pins σ Q) X.xe s:=by
 have U:=r.append hd;have o:(us++ds).length=ps.length:=by rw[<-U.length];exact F.len _ _ _ _ h
 refine wpAny_call<|codeAny_mono (F.run X.A X.stack s H {us,[]} (us++ds) (vs++mv) Q E g I.XA (j s us I.SC o) U h) λr p J=>?_;cases r with
 |error e=>exact l pins σ H s e p I J
 |ok t=>
  cases t with|ret u=>exact I.after J|next=>exact False.elim J|brk=>exact False.elim J|cont=>exact False.elim J
abbrev Fc(p:Pos)(es:Wv)(X:Cx):Prop:=(backTo p<|starEach es X.env).any (·.1)=false
def Od(F:au X.prog X.w X.K X.mg X.base CX k f fd ps sp)(l:ki k X.A)(o:Gl X x)(C:X.mg x=some (.ref f))(T:PySem.W.keepIn X.K (.ref f)=true)(hb:aA X.K fd ps ds)(hd:zk mv ds)(hx:kK CX X E)
 (ha:PA X (e::es) t) (U:Fe x:=by decide) (he:Fb e es X:=by rfl) (g:Fc pos es X:=by rfl):
 PE X (.Call (.Name x p) (e::es) [] pos) (H0 sp mv E t):=by
 intro J s σ H Q I h;refine wpAny_Call_Name_kw<|iQ I o C ?_ U;refine Dk (h₀:=X.base) I.ok.mod.YF T (vN (ha pos J s σ H _ I h) λus s1 vs H1 j r q=>{j.SC,?_}) he g;exact H9 F l hb hd hx j r q
def Oe{pl:Sem Bool}(he:PE X o ta)(c:Xe X.K C)(j:Fw X.K C m f)(F:au X.prog X.w X.K X.mg X.base CX k f fd ps sp)(hr:ki k X.A)(hb:aA X.K fd ps ds)(hd:zk mv ds)(hx:kK CX X E)(ha:PA X (e::es) t)
 (U:Fb e es X:=by rfl) (g:Fc pos es X:=by rfl)
 (ht:eval (.Call (.Attribute o m apos) (e::es) [] pos) X.env=(do
  let p <-eval o X.env
  standAt apos.atName
  let (f,first) <-holding [p] (getMethod p m pl)
  callWith pos f first (backTo pos<|starEach (e::es) X.env) (backToKw pos<|keywordEach [] X.env)):=by rfl):
 PE X (.Call (.Attribute o m apos) (e::es) [] pos) (Oa C m sp mv E ta t):=by
 intro J s T H Q I h;refine PySem.W.methodCall_KW (pl:=pl) (aD (he J s T H _ I h) λu s1 ⟨x,H1,I1,rx,a,dx,fs,ex,ea,l,q⟩=>?_) ht;subst ex;obtain rfl:u=Value.ref a:=rx;refine wQ I1 ea c j l ?_;refine Dk (first:=[.ref a]) (h₀:=X.base) I.ok.mod.YF j.kp (vN (ha pos J s1 T H1 _ I1 q) λus s2 vs H2 I2 r q2=>{I2.SC,?_}) U g;exact H9 (us:=.ref a::us) (vs:=.ref a::vs) F hr hb hd hx I2 (.cons rfl r) q2
structure Mk(K:Ag)(C f:Addr):Prop where
 makes:PySem.W.makesIn K C=true
 init:PySem.W.findIn K (.ref C) "__init__"=some (some<|.ref f)
 fn:PySem.W.isFn K (.ref f)=true
 kp:PySem.W.keepIn K (.ref C)=true
theorem Of{Q:VK}{vs:WI}(M:Mk X.K C f)(F:au X.prog X.w X.K X.mg X.base CX k f fd ps sp)(l:ki (k+1) X.A)(o:aA X.K fd ps ds)(hd:zk mv ds)
 (p:kK CX X E) (I:qx X pins σ H s) (r:zk vs us)
 (h:∀x dx,H x=none->H dx=none->dx≠x->sp (.ref x::(vs++mv)) (upd (upd H dx<|.own x) x<|.ins C dx []) (λv H2=>v=.KB/\Q (.ref x) H2) E):
 ZZ X (call (.ref C) us) (EP X pins σ Q) X.xe s:=by
 have g:=h (↥s+1) ↥s (I.GT.fresh<|Cy _) (I.GT.fresh<|An _)<|A3<|Bi _;have U:=qx.made (C:=C) I;have j:zk (V.ref (↥s+1)::(vs++mv)) (Value.ref (↥s+1)::(us++ds)):=.cons rfl<|r.append hd;have t:(Value.ref (↥s+1)::us++ds).length=ps.length:=by have e:=j.length;rw[F.len _ _ _ _ g] at e;exact e.symm
 refine wpAny_call (NT (f:=f) I.SC M.makes M.init (beq_iff_eq.mp M.fn) (codeAny_mono (F.run _ X.stack _ _ {Value.ref (↥s+1)::us,[]} (Value.ref (↥s+1)::(us++ds)) _ _ E (l.make C us [])
  (U.XA.make C us []) (o _ (Value.ref (↥s+1)::us) U.SC t) j g) λr T J=>?_))
 cases r with
 |error e=>exact p pins σ _ _ e T U J
 |ok fl=>
  cases fl with
  |ret u=>
   obtain⟨v,H',I3,rv,ev,q3⟩:=U.after J;subst ev;exact{rv,{V.ref<|↥s+1,H',I3,rfl,q3}}
  |next=>exact False.elim J
  |brk=>exact False.elim J
  |cont=>exact False.elim J
def Og(M:Mk X.K C f)(F:au X.prog X.w X.K X.mg X.base CX k f fd ps sp)(l:ki (k+1) X.A)(o:Gl X x)(T:X.mg x=some (.ref C))(hb:aA X.K fd ps ds)(hd:zk mv ds)(hx:kK CX X E)
 (ha:PA X (e::es) t) (U:Fe x:=by decide) (he:Fb e es X:=by rfl) (g:Fc pos es X:=by rfl):
 PE X (.Call (.Name x p) (e::es) [] pos) (Oc C sp mv E t):=by
 intro J s σ H Q I h;refine wpAny_Call_Name_kw<|iQ I o T ?_ U;refine Dk (h₀:=X.base) I.ok.mod.YF M.kp (vN (ha pos J s σ H _ I h) λus s1 vs H1 j r q=>{j.SC,?_}) he g;exact Of M F l hb hd hx j r q
end
section
variable {CX:y9}{k:Nat}{ks:Wu}{sp:Sp}{E:XK}{m:Str}{kws:List Keyword}{te ta:TE}{t tk:TA}{nm:Option Str}
variable {g:Wr->Wr->Wr}{gV:WI->WI->WI}
end
structure aR(N P:Wu)(sc:Scope):Prop where
 kind:sc.kind=.function
 co:sc.isCoroutine=false
 gen:sc.isGenerator=false
 nd:N.Nodup
 pre:N.take P.length=P
 par:∀x∈P,sc.names.lookup x=some .local\/sc.names.lookup x=some .cell
 YZ:∀y∈sc.names,y.2≠.free
theorem qY{kindOf:Str->Option NameKind}{x:Str}:∀{I:List<|Str×WC} {m:Wo},(∀v,(x,v)∉I)->bindL kindOf I m x=m x
 |[],_,_=>rfl
 |(n,v)::r,m,h=>by
  unfold bindL;rw[qY λw hw=>h w<|Al _ hw];split
  .have:x≠n:=by rintro rfl;exact h v As
   simp[this]
  .rfl
theorem qV{kindOf:Str->Option NameKind}{x:Str}:∀{I:List<|Str×WC} {m:Wo},(∀v,(x,v)∉I)->bindC kindOf I m x=m x
 |[],_,_=>rfl
 |(n,v)::r,m,h=>by
  unfold bindC;rw[qV λw hw=>h w<|Al _ hw];split
  .rfl
  .have:x≠n:=by rintro rfl;exact h v As
   simp[this]
theorem rC{kindOf:Str->Option NameKind}{x:Str}{v:WC}:∀{P:Wu} {vs:Wr} {i:Nat} {m:Wo},P.Nodup->P[i]?=some x->vs[i]?=some v->kindOf x=some .local->
 bindL kindOf (P.zip vs) m x=some v
 |[],_,_,_,_,h,_,_=>by simp at h
 |_::_,[],_,_,_,_,h,_=>by simp at h
 |p::P,w::vs,0,m,nd,h1,h2,I=>by simp at h1 h2;subst h1;subst h2;show bindL kindOf ((p,w)::P.zip vs) m p=_;unfold bindL;rw[qY λv J=>(AG.mp nd).1 (DH J).1,Ar I];simp
 |p::P,w::vs,i+1,m,nd,h1,h2,I=>by unfold bindL;exact rC (i:=i) (AG.mp nd).2 (by simpa using h1) (by simpa using h2) I
theorem qK{kindOf:Str->Option NameKind}{x:Str}{v:WC}:∀{P:Wu} {vs:Wr} {i:Nat} {m:Wo},P.Nodup->P[i]?=some x->vs[i]?=some v->kindOf x≠some .local->
 bindC kindOf (P.zip vs) m x=some v
 |[],_,_,_,_,h,_,_=>by simp at h
 |_::_,[],_,_,_,_,h,_=>by simp at h
 |p::P,w::vs,0,m,nd,h1,h2,I=>by simp at h1 h2;subst h1;subst h2;show bindC kindOf ((p,w)::P.zip vs) m p=_;unfold bindC;rw[qV λv J=>(AG.mp nd).1 (DH J).1,Ap I];simp
 |p::P,w::vs,i+1,m,nd,h1,h2,I=>by unfold bindC;exact qK (i:=i) (AG.mp nd).2 (by simpa using h1) (by simpa using h2) I
def start(N:Wu)(vs:WI):St:=vs.map some++List.replicate (N.length-vs.length) none
def fP(CX:y9)(P:WE)(w:WF)(K:Ag)(mg:Wo)(base:WG)(N:Wu)(eh:Str)(scope:Scope)(f:Addr)(cd:WC)(A:Around)(outer:List Env)(s:WD)(H:Hp)(E:XK):Cx where
 prog:=P
 w:=w
 K:=K
 mg:=mg
 base:=base
 A:=A.deeper<|envOfC eh scope ↥s f cd
 N:=N
 s₀:=s
 H₀:=H
 env:=envOfC eh scope ↥s f cd
 outer:=outer
 stack:=envOfC eh scope ↥s f cd::outer
 ex:=[]
 calm:=true
 fn:=λ_=>true
 pn:=[]
 xe:=λe s'=>wpAny (model P w) (A.deeper<|envOfC eh scope ↥s f cd) (leaving (envOfC eh scope ↥s f cd) e) (λ_ I=>CX outer H s E e I) (λJ I=>CX outer H s E J I) s'
def vO{I:Scope}(h:I.names.lookup x=some .cell):∃c,(cellsFrom n I.names []).lookup x=some c:=by have q:=Ew I.names n []<|.inl h;exact Option.isSome_iff_exists.mp q
def Oh{CX:y9}{P:WE}{w:WF}{K:Ag}{N:Wu}{o:WD}{E:XK}{vs:WI}
 (S:aR N ps scope) (hd:A.handled=none) (I:xP P w K mg base A outer s H) (hl:vs.length=ps.length) (r:zk vs us)
 (x:InCallC s ↥s (bindL (envOfC eh scope ↥s f cd).kindOf (ps.zip us) λ_=>none) (cellsFrom (↥s+1) scope.names []) (bindC (envOfC eh scope ↥s f cd).kindOf (ps.zip us) λ_=>none) o) (T:0<o.toks):
 qx (fP CX P w K mg base N eh scope f cd A outer s H E) [] (start N vs) H o:=by
 have a1:ps.length<=N.length:=by have:=Bt List.length S.pre;rw[AR] at this;lia
 obtain⟨h1,tk,rfl,t⟩:=x.done;have J:∀b:Addr,b∉(fP CX P w K mg base N eh scope f cd A outer s H E).ex:=λb z=>absurd (show b∈([]:List Addr) from z) (by simp);refine{{I.mod,S.kind,rfl,rfl,An _,λy z c h1 h2=>?_,λy U=>?_,λy c _ h=>?_,λ_=>hd,Around.frames_deeper I.frames,.inr {(rfl),rfl},λb z=>absurd z<|J b,I.bs,I.XY,λb _ _=>J b,λb z=>absurd z<|J b,I.WK,I.X9},
  rfl,I.bare,Un.kept t,{_,x.toInCall.ns,λi y v h1 h2 h3=>?_},λy c h=>{_,x.cell y c h},I.GT.fresh<|An _,λy c h=>?_,λp g=>absurd (show p∈([]:List<|Addr×Obj) from g) (by simp),I.GT.kept t,?_,T}
 .exact name_of_addr x.apart (BG h1)<|BG h2
 .have U:=U;rcases U with U|U
  .exact vO U
  .exact absurd rfl<|S.YZ _<|BG U
 .exact Bo<|x.above y c<|BG h
 .have l:i<vs.length:=by
   unfold start at h2;by_cases l:i<vs.length
   .exact l
   .rw[AH (by simpa using l)] at h2;rw[CF] at h2;split at h2<;>cases h2
  have ha:vs[i]?=some v:=by unfold start at h2;rw[Av (by simpa using l),Aq] at h2;cases e:vs[i]? with|none=>rw[e] at h2;cases h2|some a=>rw[e] at h2;cases h2;rfl
  obtain⟨u,C,rv⟩:=r.get ha;have g:ps[i]?=some y:=by rw[<-S.pre,Ei (by lia)];exact h1
  have j:ps.Nodup:=by rw[<-S.pre];exact S.nd.sublist<|Ds _ _
  refine{u,rv,?_};rcases S.par y (Au g) with k|k
  .exact .inl {k,rC j g C k}
  .obtain⟨c,e⟩:=vO (n:=↥s+1) k;refine .inr {.inl k,c,e,?_};have q:=x.cell y c e;rw[qK j g C (by show scope.names.lookup y≠_;rw[k];decide)] at q;exact q
 .exact I.GT.fresh<|Bo<|x.above y c<|BG h
 .unfold start;show _=N.length;rw[Ab,Ae,BS];lia
theorem GL{CX:y9}{P:WE}{w:WF}{K:Ag}{k:Nat}{U:Arguments}{dV kV ct:WC}
 {N:Wu} {sp:Sp} (lk:K.lookup f=some ⟨oc,od,.func<|PySem.W.fnOf name eh U body scope dV kV fy pm an eW ct,oi⟩) (a1:PySem.W.codeIn K eW eh=true) (S:aR N ps scope)
 (len:∀vs H Q E,sp vs H Q E->vs.length=ps.length)
 (j:∀(A:Around) (outer:List Env) (s:WD) (H:Hp) (vs:WI) (Q:VK) (E:XK),ki k (A.deeper<|envOfC eh scope ↥s f eW)->sp vs H Q E->
  ∃t,hJ (fP CX P w K mg base N eh scope f eW A outer s H E) body t/\t {nx:=λ_ H'=>Q .KB H',rt:=Q} (start N vs) H):
 au P w K mg base CX (k+1) f (PySem.W.fnOf name eh U body scope dV kV fy pm an eW ct) ps sp:=by
 refine{len,λA outer s H args us vs Q E hr p hb r T=>?_};have hl:=len _ _ _ _ T;have KX:=p.mod.YF.keeps λb o e=>(p.bs b o e).1;have a2:=p.mod.nolimit.keeps λb o e=>(p.bs b o e).1;have l:∀y∈ps.zip us,scope.names.lookup y.1=some .local\/(scope.names.lookup y.1=some .cell/\((cellsFrom (↥s+1) scope.names []).lookup y.1).isSome=true):=λ⟨n,v⟩ hy=>by
  rcases S.par n (DH hy).1 with q|q
  .exact .inl q
  .exact .inr {q,Ew _ _ _<|.inl q}
 refine codeAny_call_function hr.depth (KX _ _ lk) rfl S.co S.gen rfl (PySem.W.codeRec_of KX a1)<|hb _ _ _ _ ?_;refine ji p.tk<|wpAny_newFunctionEnv_cells S.kind l λa4 he s1 x a3=>?_;subst he;refine{a2.keeps x.toInCall.keep,codeAny_func ?_};obtain⟨t,ht,hq⟩:=j A outer s H vs Q E (hr.deeper _) T;have I:qx (fP CX P w K mg base N eh scope f eW A outer s H E) [] (start N vs) H s1:=Oh S hr.hd p hl r x a3;refine AX (ht [] s1 (start N vs) H _ I hq) (λfl s' C=>?_) λe s' C=>C;have k8:∀{g:St} {H':Hp} {v:V} {u:WC},qx (fP CX P w K mg base N eh scope f eW A outer s H E) [] g H' s'->zo v u->Q v H'->CE outer P w H s Q u s':=
  λ{g H' v u} J rv q=>{(v),H',J.os,J.bare,J.base,J.GT,rv,q,J.tk}
 cases fl with
 |ret u=>
  obtain⟨v,g,H',J,rv,q⟩:=C;exact k8 J rv q
 |next=>
  obtain⟨g,H',J,q⟩:=C;exact k8 (v:=V.KB) (u:=Value.none) J rfl q
 |brk=>
  obtain⟨_,_,_,q⟩:=C;exact False.elim q
 |cont=>
  obtain⟨_,_,_,q⟩:=C;exact False.elim q
section
variable {t:TA}{id T:WH}{r:WI->Hp->VK->Prop}
def H_(r:WI->Hp->VK->Prop)(t:TA):TE:=λσ H Q=>t σ H λvs H1=>r vs H1 Q
def iR(hc:je X (.builtin id) r)(l:Gl X x)(o:X.mg x=none)(C:bootBuiltins x=some (.builtin id))(T:PA X (e::es) t)(hn:x ≠ "__name__" := by decide)(U:Fe x:=by decide)
 (he:Fb e es X:=by rfl) (g:Fc pos es X:=by rfl):PE X (.Call (.Name x p) (e::es) [] pos) (H_ r t):=by
 intro J s j H Q I h;refine wpAny_Call_Name_kw<|hU I l o C ?_ hn U;exact PyProof.Rows.callWith_builtin1 (vN (T pos J s j H _ I h) λus s1 vs H1 I1 r1 q1=>hc J s1 j H1 vs us Q I1 r1 q1) he g
def kM(hc:je X (.type T) r)(l:Gl X x)(o:X.mg x=none)(C:bootBuiltins x=some (.type T))(ha:PA X (e::es) t)(hn:x ≠ "__name__" := by decide)(U:Fe x:=by decide)
 (he:Fb e es X:=by rfl) (g:Fc pos es X:=by rfl):PE X (.Call (.Name x p) (e::es) [] pos) (H_ r t):=by
 intro J s j H Q I h;refine wpAny_Call_Name_kw<|hU I l o C ?_ hn U;exact Cg (vN (ha pos J s j H _ I h) λus s1 vs H1 I1 r1 q1=>hc J s1 j H1 vs us Q I1 r1 q1) he g
end
section
variable [DecidableEq κ]
def am(kvs:List<|κ×V)(k:κ):WJ:=(kvs.find? λI=>decide<|I.1=k).map (·.2)
def dz(kvs:List<|κ×V)(k:κ)(v:V):List (κ×V):=
 if (kvs.any λI=>decide<|I.1=k)=true then kvs.map (λI=>if I.1=k then(I.1,v) else I) else kvs++[(k,v)]
def vC{p:κ×V}{r:List<|κ×V}{k:κ}(e:p.1=k):am (p::r) k=some p.2:=by simp[am,BK,e]
def oR{p:κ×V}{r:List<|κ×V}{k:κ}(e:¬p.1=k):am (p::r) k=am r k:=by simp[am,BK,e]
theorem Oi(k:κ):∀kvs:List (κ×V),(kvs.any λI=>decide<|I.1=k)=(am kvs k).isSome
 |[]=>rfl
 |p::r=>by
  rw[CB];by_cases e:p.1=k
  .simp only[vC e,Az e,Bool.true_or,Option.isSome_some]
  .rw[oR e,Ao e,Bool.false_or];exact Oi k r
def bx(kvs:List<|κ×V)(k:κ)(v:V):(dz kvs k v).length<=kvs.length+1:=by
 unfold dz;split
 .rw[Ae];lia
 .rw[Ab,AD,EE];lia
def fY.Xo{o:WJ}{u:Wy}(r:fY o u):o.isSome=u.isSome:=by
 cases o with
 |none=>cases u with|none=>rfl|some _=>exact(show False from r).elim
 |some _=>cases u with|none=>exact(show False from r).elim|some _=>rfl
def fY.getD{o:WJ}{u:Wy}{d:V}{d':WC}(r:fY o u)(rd:zo d d'):zo (o.getD d) (u.getD d'):=by
 cases o with
 |none=>cases u with|none=>exact rd|some _=>exact(show False from r).elim
 |some _=>cases u with|none=>exact(show False from r).elim|some _=>exact r
def KV.val{kvs:List<|κ×V}{vs:List<|κ×WC}(r:KV kvs vs)(k:κ):fY (am kvs k) (valueAt vs k):=by
 induction r with
 |nil=>exact True.intro
 |@cons p q g I h t U=>
  obtain⟨h1,h2⟩:=h;by_cases e:p.1=k
  .have J:=h1.symm.trans e;have b:valueAt (q::I) k=some q.2:=by simp[valueAt,BK,J]
   rw[vC e,b];exact h2
  .have J:¬q.1=k:=λz=>e<|h1.trans z;have b:valueAt (q::I) k=valueAt I k:=by simp[valueAt,BK,J]
   rw[oR e,b];exact U
def KV.any{kvs:List<|κ×V}{vs:List<|κ×WC}(r:KV kvs vs)(k:κ):(kvs.any λI=>decide<|I.1=k)=vs.any λI=>decide (I.1=k):=by induction r with|nil=>rfl|cons h t J=>rw[CB,CB,J,h.1]
def KV.ZD{kvs:List<|κ×V}{vs:List<|κ×WC}(r:KV kvs vs)(k:κ){y:V}(J:zo y u):
 KV (kvs.map λI=>if I.1=k then(I.1,y) else I) (vs.map λI=>if I.1=k then(I.1,u) else I):=by
 induction r with
 |nil=>exact .nil
 |@cons p q g j h t U=>
  rw[AQ,AQ];refine .cons ?_ U;obtain⟨h1,h2⟩:=h;by_cases e:p.1=k
  .rw[Ar e,Ar<|h1.symm.trans e];exact{(h1),J}
  .rw[Ap e,Ap λz=>e<|h1.trans z];exact{(h1),h2}
def KV.put{kvs:List<|κ×V}{vs:List<|κ×WC}(r:KV kvs vs)(k:κ){y:V}(I:zo y u):KV (dz kvs k y) (stored vs k u):=by
 unfold dz stored;rw[r.any k];by_cases e:(vs.any λJ=>decide<|J.1=k)=true
 .rw[Ar e,Ar e];exact r.ZD k I
 .rw[Ap e,Ap e];exact Paired.snoc r {(rfl),I}
theorem KV.length{kvs:List<|κ×V}{vs:List<|κ×WC}(r:KV kvs vs):kvs.length=vs.length:=Paired.length r
end
def gu{P:WE}{w:WF}{k:j8}(r:zo (kV k) u):(xn P w).is k u=true:=by
 cases k with
 |inl i=>obtain⟨t,e⟩:=(show ∃t,u=Value.int i t from r);subst e;exact vU P w i t
 |inr x=>obtain⟨t,e⟩:=(show ∃t,u=Value.str x t from r);subst e;exact vK P w x t
section
variable {P:WE}{w:WF}{a:Addr}
def Oj{u:HO}(ok:fD P w H h)(e:Rd H a u):xh P w H h a u:=e.ok ok
def iH{kvs:List<|j8×V}(ok:fD P w H h)(e:Rd H a<|.dK kvs):kvs.length<=sizeLine/\(a==sysModules)=false/\∃vs,KV kvs vs/\h.DictOf (xn P w) a vs:=
 show xh P w H h a (.dK kvs) from Oj ok e
def rH{kvs:List<|j8×V}(ok:fD P w H h)(e:H a=some (.dK kvs)):kvs.length<=sizeLine/\(a==sysModules)=false/\∃vs,KV kvs vs/\h.DictOf (xn P w) a vs:=iH ok<|.inl e
end
def nG(H:Hp)(a:Addr)(y:V)(r:WJ):Prop:=
 (∃kvs k,Rd H a (.dK kvs)/\y=kV k/\r=am kvs k)\/False
def Ia(H:Hp)(a:Addr)(y v:V)(H':Hp):Prop:=
 (∃kvs k,H a=some (.dK kvs)/\y=kV k/\kvs.length<sizeLine/\H'=upd H a (.dK<|dz kvs k v))\/False
theorem nG.k{a:Addr}{kvs:List<|j8×V}{k:j8}(e:H a=some (.dK kvs)):nG H a (kV k) (am kvs k):=.inl {kvs,k,.inl e,rfl,rfl}
section
variable {a:Addr}{y:V}{r:WC}{o:WJ}
def qx.big(I:qx X pins σ H s):sysModules<↥s:=by have h:=(I.mod.glob.keeps I.bk).lt;exact CM (by decide) h
def Ol(T:A.units+1<cLine)(I:qx X pins σ H s)(g:nG H a y<|some v)(j:zo y u)(h:∀J s',qx X pins σ H s'->zo v J->Q J s'):
 wpAny (model X.prog X.w) A (getItem (.ref a) u) Q E s:=by
 obtain⟨p,k,e,r,l⟩:=B8 g id;subst r;obtain⟨z,hd,t,rel,C⟩:=iH I.GT e;obtain⟨J,hw,U⟩:=E7 (v:=v) (o:=valueAt t k) (by rw[l];exact rel.val k);exact wpAny_getItem_of (gu j) C.mapOf hw<|h J _ (I.tok _) U
def Om(r:A.units+1<cLine)(I:qx X pins σ H s)(g:nG H a y o)(J:zo y u)(h:∀s',qx X pins σ H s'->Q (.bool o.isSome) s'):
 wpAny (model X.prog X.w) A (compareOp .In u<|.ref a) Q E s:=by
 obtain⟨U,k,e,j,l⟩:=B8 g id;subst j;obtain⟨z,hd,t,rel,p⟩:=iH I.GT e;refine wpAny_in_of (gu J) hd p.mapOf ?_;rw[<-(rel.val k).Xo,<-l];exact h _<|I.tok _
def Oo(r:A.units+1<cLine)(I:qx X pins σ H s)(g:nG H a y o)(J:zo y u)(h:∀s',qx X pins σ H s'->Q (.bool<|!o.isSome) s'):
 wpAny (model X.prog X.w) A (compareOp .NotIn u<|.ref a) Q E s:=by
 obtain⟨U,k,e,j,l⟩:=B8 g id;subst j;obtain⟨z,hd,t,rel,p⟩:=iH I.GT e;refine wpAny_notIn_of (gu J) hd p.mapOf ?_;rw[<-(rel.val k).Xo,<-l];exact h _<|I.tok _
def mV{ob:HO}(I:qx X pins σ H s)(J:Ft<|H a)(hs:Heap.SameBut a s.heap h')(U:∃q,h'.get? a=some q)(new:xh X.prog X.w (upd H a ob) h' a ob)(j:0<t':=by walk_at "t"):
 qx X pins σ (upd H a ob) {s with heap:=h',toks:=t'}:=
 I.write (x:=a) (e:=a) J (.inl rfl) (λb q g z=>(hs.2 b g).trans z) U new
def ss{P:WE}{w:WF}{kvs:List<|j8×V}{vs:List<|j8×WC}(z:kvs.length<=sizeLine)(hd:(a==sysModules)=false)(rel:KV kvs vs)(dd:h'.DictOf (xn P w) a vs):
 xh P w H' h' a (.dK kvs):={(z),hd,vs,rel,dd}
def Op{Q:Wn}(hu:A.units+1<cLine)(I:qx X pins σ H s)(g:Ia H a y v H')(j:zo y u)(o:zo v r)(h:∀s',qx X pins σ H' s'->Q () s'):
 wpAny (model X.prog X.w) A (setItem (.ref a) u r) Q E s:=by
 obtain⟨J,k,e,p,l,t⟩:=B8 g id;subst p t;obtain⟨z,hd,C,rel,T⟩:=rH I.GT e;have hz:C.length<=sizeLine:=by rw[<-rel.length];exact z
 have hl:(dz J k v).length<=sizeLine:=by have:=bx J k v;lia
 refine wpAny_setItem_pairs (hsz:=hz) (gu j) T λh' U hs=>h _ ?_;have he:∃q,h'.get? a=some q:=let ⟨q,_,_,hq,_⟩:=U;⟨q,hq⟩;exact mV I (by rw[e];exact True.intro) hs he<|ss hl hd (rel.put k o) U
end
section
variable {a:Addr}{kvs:List<|j8×V}{k:j8}
end
def GN(i:Expr):Prop:=∀I J,subscripted i false I J=operate [I,J] (getItem I J)
def Oq{w:WF}{slice:Expr}{T id:WH}
 (t:typeLookup (.type T) "__getitem__" = pure (some<|.builtin id)) (hs:GN slice)
 (h:wpAny (model prog w) A (eval value env) (λo U=>wpAny (model prog w) A (eval slice env) (λi I=>I.TypeIs o T/\wpAny (model prog w) A (getItem o i) Q E I) E U) E s):
 wpAny (model prog w) A (eval (.Subscript value slice pos) env) Q E s:=by
 refine Subscript_<|AX h (λo U j=>AX j (λi I J=>?_) λ_ _ x=>x) λ_ _ x=>x;obtain⟨p,J⟩:=J;refine Aa ?_;rw[getitemInPython_of_ne p.not_modules];refine Aa<|wpAny_specialOf p t ?_;have k8:wpAny (model prog w) A (subscripted slice false o i) (λr g=>wpAny (model prog w) A (letTemporaryGo value o r >>= λ_=>pure r) Q E g) E I:=by rw[hs o i];exact wpAny_operating<|AX J (λr g l=>Aa<|wpAny_letTemporaryGo<|Ak l) λ_ _ x=>x
 first
  |exact Ak<|Aa k8
  |exact Aa<|Ak<|Aa k8
  |exact Aa k8
def u5{a:Addr}{y:V}{o:WJ}(I:qx X pins σ H s)(g:nG H a y o):s.TypeIs (.ref a) "dict" := by obtain⟨J,k,e,_,_⟩:=B8 g id;obtain⟨_,_,j,_,U⟩:=iH I.GT e;exact U.typeIs
def Ot(td ty:TE):TE:=λσ H Q=>td σ H λx H1=>ty σ H1 λy H2=>∃a v,x=.ref a/\nG H2 a y (some v)/\Q v H2
def Ou(td ty tv:TE):TS:=λD σ H=>tv σ H λv H1=>td σ H1 λx H2=>ty σ H2 λy J=>∃a I,x=.ref a/\Ia J a y v I/\D.nx σ I
section
variable {i:Expr}{tpos:Pos}{td tv:TE}
def rf(p:X.A.units+1<cLine)(r:PE X o td)(hi:PE X i ty)(hs:GN i):PE X (.Subscript o i pos) (Ot td ty):=by intro J s j H Q I h;refine Oq DZ.lookup hs<|aU (r J s j H _ I h) λu t x C T rx q1=>aD (hi J t j C _ T q1) λiv s2 ⟨y,H2,l,ry,a,v,ex,g,q2⟩=>?_;subst ex;obtain rfl:u=Value.ref a:=rx;exact{u5 l g,Ol p l g ry λw' s3 I3 U=>{(v),H2,I3,U,q2}}
def Ov(j:X.A.units+1<cLine)(l:PE X o td)(hi:PE X i ty)(p:PE X value tv)(hs:swapsWith value (some<|.Subscript o i fx) pos.line X.env=pure false):
 PS X (.Assign [.Subscript o i fx] value pos) (Ou td ty tv):=by
 intro J s U H D I h;refine wpAny_Assign_Subscript (aU (p J s U H _ I h) λr t v C T rv q1=>aU (l J t U C _ T q1) λu s2 x H2 I2 rx q2=>aD (hi J s2 U H2 _ I2 q2) λiv s3 ⟨y,H3,I3,ry,a,H4,ex,g,q3⟩=>?_) hs;subst ex;obtain rfl:u=Value.ref a:=rx;exact Op j I3 g ry rv λs4 I4=>{(U),H4,I4,q3}
end
def pF{P:WE}{w:WF}(h:WG)(I:sysModules<h.objs.size):xh P w H (h.push {cls:=.type "dict",data:=.dict #[]}) h.objs.size (.dK []):=
 ⟨A5 _,beq_eq_false_iff_ne.mpr<|AE<|A3 I,[],.nil,Heap.DictOf.new h⟩
def Ow:TE:=λ_ H Q=>∀p,H p=none->Q (.ref p) (upd H p<|.dK [])
def Ox:PE X (.Dict [] [] pos) Ow:=λJ s U H Q I h=>
 wpAny_Dict_empty ⟨.ref ↥s,_,I.laid (a:=↥s) (o:=.dK []) (t':=s.toks) (λ_ _ q=>sy _ q) (An _)<|pF s.heap I.big,rfl,h _<|I.GT.fresh<|An _⟩
def sI:List (TE×TE)->St->Hp->(List (V×V)->Hp->Prop)->Prop
 |[],_,H,Q=>Q [] H
 |(tk,tv)::r,σ,H,Q=>tk σ H λx H1=>tv σ H1 λy H2=>sI r σ H2 λps I=>Q ((x,y)::ps) I
abbrev VV:List (V×V)->List (WC×WC)->Prop:=Paired λp q=>zo p.1 q.1/\zo p.2 q.2
def Fx(X:Cx)(pos:Pos)(keys:List<|Option Expr)(values:Wv)(I:List<|TE×TE):Prop:=
 ∀(pins:List<|Addr×Obj) (s:WD) (σ:St) (H:Hp) (Q:List (V×V)->Hp->Prop),qx X pins σ H s->sI I σ H Q->
  ZZ X (evalPairs<|pairTrees keys values X.env pos) (λvs s'=>∃ps H',qx X pins σ H' s'/\VV ps vs/\Q ps H') X.xe s
def Oy :Fx X pos [] [] []:=λJ s U H Q I h=>pairTrees_nil_walk {[],H,I,.nil,h}
def iK{k v:Expr}{ks:List<|Option Expr}{vs:Wv}{tk tv:TE}{U:List<|TE×TE}(j:PE X k tk)(l:PE X v tv)(o:Fx X pos ks vs U):
 Fx X pos (some k::ks) (v::vs) ((tk,tv)::U):=λJ s g H Q I h=>
 pairTrees_cons_walk (aU (j J s g H _ I h) λu p x r t C T=>aU (l J p g r _ t T) λw2 s2 y H2 I2 ry q2=>
  aD (o J s2 g H2 _ I2 q2) λws s3 ⟨ps,H3,I3,rel,q3⟩=>{(x,y)::ps,H3,I3,.cons {(C),ry} rel,q3})
def jT(kvs more:List<|j8×V):List (j8×V):=more.foldl (λI J=>dz I J.1 J.2) kvs
def KV.merge:∀{more:List<|j8×V} {I:List<|j8×WC} {kvs:List<|j8×V} {vs:List<|j8×WC},KV more I->KV kvs vs->KV (jT kvs more) (merged vs I):=by
 intro more I kvs vs r
 induction r generalizing kvs vs with
 |nil=>intro q;exact q
 |@cons p q g j h t J=>
  intro U;have e:KV (dz kvs p.1 p.2) (stored vs q.1 q.2):=by have:=U.put p.1 h.2;rw[<-h.1];exact this
  exact J e
theorem gc:∀(more kvs:List<|j8×V),(jT kvs more).length<=kvs.length+more.length
 |[],kvs=>by show kvs.length<=kvs.length+0;lia
 |p::r,kvs=>by have h1:=gc r<|dz kvs p.1 p.2;have h2:=bx kvs p.1 p.2;show(jT (dz kvs p.1 p.2) r).length<=_;rw[AD];lia
theorem nR{P:WE}{w:WF}:∀{kvs:List<|j8×V} {J:List<|WC×WC},VV (kvs.map λU=>(kV U.1,U.2)) J->∃I,Carries (xn P w) J I/\KV kvs I
 |[],_,r=>by rw[DO] at r;cases r;exact{[],True.intro,.nil}
 |p::kvs,_,r=>by
  rw[AQ] at r;cases r with
  |@cons a b as bs h t=>
   obtain⟨I,c,q⟩:=nR (P:=P) (w:=w) t;obtain⟨b1,b2⟩:=b;exact{(p.1,b2)::I,{gu h.1,rfl,c},.cons {(rfl),h.2} q}
def Oz(I:List<|TE×TE):TE:=λσ H Q=>∀p,H p=none->sI I σ (upd H p<|.dK []) λps H2=>H2 p=some (.dK [])/\∃kvs:List (j8×V),ps=kvs.map (λJ=>(kV J.1,J.2))/\kvs.length<=15/\Q (.ref p) (upd H2 p<|.dK<|jT [] kvs)
def OA{keys:List<|Option Expr}{values:Wv}{J:List<|TE×TE}(h:Fx X pos keys values J)(U:keys.all (·.isSome)=true)(t:keys.length=values.length)(h0:keys≠[])
 (p:keys.length<=15):PE X (.Dict keys values pos) (Oz J):=by
 intro g s C H Q I q;have T:=I.GT.fresh<|An ↥s;have I1:=I.laid (a:=↥s) (o:=.dK []) (h':=s.heap.push {cls:=.type "dict",data:=.dict #[]}) (t':=s.toks) (λ_ _ q=>sy _ q) (An _)<|pF s.heap I.big;refine wpAny_Dict_walk (knd:=xn X.prog X.w) U t h0 p<|aD (h g _ C _ _ I1<|q _ T) λws s2 ⟨ps,H2,r,rel,e,j,ep,lk,q2⟩=>?_;subst ep;obtain⟨rs,c,rk⟩:=nR (P:=X.prog) (w:=X.w) rel;obtain⟨z,hd,a1,r0,dd⟩:=rH r.GT e;cases r0;refine{rs,c,dd,λh' l hs=>{.ref ↥s,_,?_,rfl,q2}};have hz:(jT [] j).length<=sizeLine:=by have h1:=gc j [];rw[EE] at h1;rw[sizeLine_eq];lia
 have he:∃q,h'.get? ↥s=some q:=let ⟨q,_,_,hq,_⟩:=l;⟨q,hq⟩;exact mV r (by rw[e];exact True.intro) hs he<|ss hz hd (rk.merge .nil) l
structure M2(X:Cx)(o:Expr)(m:Str)(apos:Pos)(e f:Expr)(eK:Pos):Prop where
 base:attributeBase o m X.env (eval o X.env)=eval o X.env
 ZL:((backTo eK<|starEach [e,f] X.env).all (λx=>!x.1)&&(backToKw eK<|keywordEach [] X.env).all (λx=>x.1.isSome)
  && decide (([e,f]:Wv).length+([]:List Keyword).length+(if ([]:List Keyword).isEmpty then 0 else 1)<30))=true
 line:(apos.endLine==eK.line)=true
 trees:backTo eK (starEach [e,f] X.env)=[(false,eval e X.env),(false,eval f X.env)]
def GO(H:Hp)(a:Addr):Prop:=(∃kvs,Rd H a<|.dK kvs)\/False
def Ib{a:Addr}(I:qx X pins σ H s)(d:GO H a):
 s.TypeIs (.ref a) "dict" /\ (∀b,Value.ref a=.ref b->∃ob,s.heap.get? b=some ob/\ob.dict=none)/\(a==sysModules)=false:=by
 obtain⟨U,e⟩:=B8 d id;obtain⟨_,hd,g,_,J⟩:=iH I.GT e;refine{J.typeIs,λb q=>?_,hd};cases q;obtain⟨ob,_,_,h1,h2,_⟩:=J;exact{(ob),h1,h2.2.1}
section
variable {a:Addr}{y d:V}{r:WC}{o:WJ}
def OB(C:A.units+1<cLine)(I:qx X pins σ H s)(g:nG H a y o)(j:zo y u)(rd:zo d r)(h:∀J s',qx X pins σ H s'->zo (o.getD d) J->Q J s'):
 wpAny (model X.prog X.w) A (call (.builtin "dict.get") [.ref a,u,r]) Q E s:=by
 obtain⟨p,k,e,t,l⟩:=B8 g id;subst t;obtain⟨z,hd,T,rel,U⟩:=iH I.GT e;refine call_meetsIn PySem.F.slot_dict_get U.typeIs PySem.F.entry_dict_get (PySem.F.args_dict_get_3 _ _ _) (meets_dict_get_default (xn X.prog X.w) a (gu j) hd r) {_,U.mapOf,h _ _ (I.tok _) ?_};rw[l];exact(rel.val k).getD rd
end
def OC(td ty tx:TE):TE:=λσ H Q=>td σ H λx H1=>∃a,x=.ref a/\GO H1 a/\ty σ H1 λy H2=>tx σ H2 λz I=>∃o,nG I a y o/\Q (o.getD z) I
section
variable {f:Expr}{td tx:TE}
def OD(p:X.A.units+1<cLine)(r:PE X o td)(t:PE X e ty)(C:PE X f tx)(m:M2 X o "get" apos e f eK):PE X (.Call (.Attribute o "get" apos) [e,f] [] eK) (OC td ty tx):=by
 intro J s U H Q I h;refine wpAny_Call_method m.base m.ZL m.line Em PySem.F.slot_dict_get PySem.F.type_dict_get<|aD (r J s U H _ I h) λu T ⟨x,H1,l,rx,a,ex,d,q1⟩=>?_;subst ex;obtain rfl:u=Value.ref a:=rx;obtain⟨t1,t2,_⟩:=Ib l d;refine{t1,t2,?_};rw[m.trees];refine EQ rfl (Fh (yp (aU (t J T U H1 _ l q1) λiv s2 y H2 I2 ry q2=>
  yp (aD (C J s2 U H2 _ I2 q2) λfv s3 ⟨z,H3,I3,rz,ov,g,q3⟩=>Fg ?_))))
 exact OB p I3 g ry rz λw' s4 I4 j=>{_,H3,I4,j,q3}
end
section
variable {a:Addr}{kvs:List<|j8×V}
end
section
variable {a:Addr}{y:V}
end
section
section
open PySem.SeqAt
open PySem.AutoSeq1 (wpAny_loadPart')
section
open PySem.MeetsSeq PySem.MeetsSeq2 PySem.MeetsSeq3
end
section
variable {w:WF}
def KM(n d:Nat):Wz->Nat
 |none=>d
 |some v=>if v<0 then(v+(n:Int)).toNat else min v.toNat n
def Xc(n d:Nat):KM n d none=d:=rfl
def W7(n d k:Nat):KM n d (some (k:Int))=min k n:=by show(if (k:Int)<0 then((k:Int)+(n:Int)).toNat else min (k:Int).toNat n)=min k n;rw[Ap (by lia),B9]
def Yl(n d:Nat)(hd:d<=n)(o:Wz):KM n d o<=n:=by
 cases o with
 |none=>exact hd
 |some v=>
  show(if v<0 then(v+(n:Int)).toNat else min v.toNat n)<=n;by_cases I:v<0
  .rw[Ar I];lia
  .rw[Ap I];exact Nat.min_le_right _ _
def zA(v:Int)(n d:Nat):(if v<0 then max (v+(n:Int)) 0 else min v (n:Int))=((KM n d (some v):Nat):Int):=by
 show(if v<0 then max (v+(n:Int)) 0 else min v (n:Int))=(((if v<0 then(v+(n:Int)).toNat else min v.toNat n):Nat):Int);by_cases I:v<0
 .simp only[Ar I];lia
 .simp only[Ap I];lia
def wJ(lo hi:Wz)(n:Nat):Builtin.Slice.sliceAdjust lo hi 1 (n:Int)=(((KM n 0 lo:Nat):Int),(KM n n hi:Int)):=by
 have h1:¬((1:Int)<0):=by lia
 unfold Builtin.Slice.sliceAdjust;simp only[h1,if_false];refine Prod.ext ?_ ?_
 .cases lo with|none=>rfl|some v=>exact zA v n 0
 .cases hi with|none=>rfl|some v=>exact zA v n n
def xO(i j:Nat):Builtin.Slice.slicePlaces (i:Int) (j:Int) 1=j-i:=by
 unfold Builtin.Slice.slicePlaces;have h1:(1:Int) > 0:=by lia
 simp only[h1,if_true,Int.ediv_one];split<;>lia
def oA{v:WC}{o:Wz}{Q:Wz->WD->Prop}(p:IsPart v o)(h:Q o s):wpAny (model prog w) A (Builtin.Slice.slicePartIndex v) Q E s:=by cases p with|none=>exact slicePart_none h|int i t=>exact slicePart_int h
def kR{j:Addr}{U g:WC}{lo hi:Wz}{Q:Int×Int×Nat->WD->Prop}(hs:s.heap.IsSliceOf j U g .none)(pl:IsPart U lo)(l:IsPart g hi)
 (h:Q (((KM n 0 lo:Nat):Int),1,KM n n hi-KM n 0 lo) s):wpAny (model prog w) A (Builtin.Slice.sliceApplied (.ref j)<|pure (n:Int)) Q E s:=by
 obtain⟨os,I,o,J⟩:=id hs;refine Aa<|Aa<|Bg I J (x:=U) rfl<|Aa<|Bg I J (x:=g) rfl<|Aa<|Bg I J (x:=.none) rfl<|Ak ?_;refine Aa<|slicePart_none ?_;rw[Ap (by decide)];refine Aa<|oA pl<|Aa<|oA l<|Aa<|Ak ?_;show wpAny _ _ (match Builtin.Slice.sliceAdjust lo hi 1 (n:Int) with|(lo,hi)=>pure (lo,(1:Int),Builtin.Slice.slicePlaces lo hi 1)) _ _ s;rw[wJ lo hi n];show wpAny _ _ (pure (((KM n 0 lo:Nat):Int),(1:Int),Builtin.Slice.slicePlaces ((KM n 0 lo:Nat):Int) (KM n n hi:Int) 1)) _ _ s;rw[xO];exact Ak h
def OE(xs:Ws)(i k:Nat):((List.range k).filterMap λ(m:Nat)=>xs[((i:Int)+(m:Int)*1).toNat]?).toArray=((xs.toList.drop i).take k).toArray:=by
 have e:(λ(m:Nat)=>xs[((i:Int)+(m:Int)*1).toNat]?)=λm=>xs[i+m]?:=by
  funext m;have:((i:Int)+(m:Int)*1).toNat=i+m:=by lia
  rw[this]
 rw[e];have:=pick_run xs i k;rw[List.filterMap_map] at this;have I:((λx=>xs[x]?)∘λx=>i+x)=λm=>xs[i+m]?:=rfl;rw[I] at this;rw[this]
def W5{t U:Addr}{items:Ws}{p r:WC}{lo hi:Wz}(J:IsTup s.heap t items)(hs:s.heap.IsSliceOf U p r .none)(pl:IsPart p lo)(C:IsPart r hi)
 (hw:¬(KM items.size 0 lo=0/\KM items.size items.size hi=items.size))
 (h:Q (.ref ↥s) {s with heap:=s.heap.push {cls:=.type "tuple",data:=.seq ((items.toList.drop<|KM items.size 0 lo).take<|KM items.size items.size hi-KM items.size 0 lo).toArray}})
 (hsz:items.size<=sizeLine):wpAny (model prog w) A (getItem (.ref t)<|.ref U) Q E s:=by
 have I:sizeOk (.seq ((items.toList.drop<|KM items.size 0 lo).take<|KM items.size items.size hi-KM items.size 0 lo).toArray):=by show((items.toList.drop<|KM items.size 0 lo).take<|KM items.size items.size hi-KM items.size 0 lo).toArray.size<=sizeLine;rw[Ax,AR,BL,AW];lia
 obtain⟨os,g,j,T⟩:=id hs;have l:s.TypeIs (.ref U) "slice" := {(os),g,j};unfold getItem
 try with_reducible refine Bc ?_
 first|refine Aa (Ak ?_)|skip
 refine Aa<|wpAny_sequenceKey J.typeIs (by decide) ?_;refine Aa (wpAny_callSpecial?_slot (name:=Str.ofString "__getitem__") J.typeIs CC
  (wpAny_call_entry CC J.typeIs entry_tuple_getitem ?_<|args_tuple_getitem _ _))
 show wpAny _ _ (Builtin.Tuple.tupleItemsOf (.ref t) >>= _) _ _ s;refine Aa<|tupleItemsOf_ J ?_;refine Aa<|wpAny_typeOf l ?_;rw[Ar (by decide)];refine Aa<|kR hs pl C ?_;have o:¬((((KM items.size 0 lo:Nat):Int)==0&&(1:Int)==1&&(KM items.size items.size hi-KM items.size 0 lo)==items.size)=true):=by intro q;rw[A7,A7] at q;exact hw {by lia,by lia}
 show wpAny _ _ (if (((KM items.size 0 lo:Nat):Int)==0&&(1:Int)==1&&(KM items.size items.size hi-KM items.size 0 lo)==items.size)=true then _ else _) _ _ s;rw[Ap o,OE]
 first
  |exact Aa (m:=Builtin.Tuple.tupleExact _)<|Br (Ak {_,rfl,Ak h}) I
  |exact Aa (m:=Builtin.Tuple.tupleExact _)<|Br (Aa<|Ak<|Ak {_,rfl,Ak h}) I
  |exact Aa<|Aa (m:=Builtin.Tuple.tupleExact _)<|Br (Ak<|Ak {_,rfl,Ak h}) I
  |exact Aa<|Aa (m:=Builtin.Tuple.tupleExact _)<|Br (Ak {_,rfl,Ak h}) I
end
end
end
abbrev TO:=St->Hp->(Wz->Hp->Prop)->Prop
def PO(X:Cx)(e:Option Expr)(t:TO):Prop:=
 ∀(pins:List<|Addr×Obj) (s:WD) (σ:St) (H:Hp) (Q:Wz->Hp->Prop),qx X pins σ H s->t σ H Q->
  ZZ X (evalPart e X.env) (λu s'=>∃o H',qx X pins σ H' s'/\IsPart u o/\Q o H') X.xe s
def OF:TO:=λ_ H Q=>Q none H
def OG(t:TE):TO:=λσ H Q=>t σ H λx H1=>∃i,x=.int i/\Q (some i) H1
section
variable {te:TE}{lo hi:Option Expr}{tl th:TO}
def OH:PO X none OF:=by intro J s U H Q I h;rw[evalPart_none];exact Ak {none,H,I,.none,h}
def OI(h:PE X e te):PO X (some e) (OG te):=by intro J s U H Q I hw;rw[evalPart_some];refine aU (h J s U H _ I hw) λu p x g j l o=>?_;obtain⟨i,rfl,q⟩:=o;obtain⟨t,rfl⟩:=l;exact{some i,g,j,.int i t,q}
def tZ(X:Cx)(r:V->Wz->Wz->Hp->VK->Prop):Prop:=
 ∀(pins:List<|Addr×Obj) (s:WD) (σ:St) (H:Hp) (x:V) (v I J:WC) (lo hi:Wz) (U:Addr) (Q:VK),qx X pins σ H s->zo x v->s.heap.IsSliceOf U I J .none->IsPart I lo->IsPart J hi->r x lo hi H Q->
  ∃T id,typeLookup (.type T) "__getitem__" = pure (some<|.builtin id)/\s.TypeIs v T/\ZZ X (getItem v<|.ref U) (EP X pins σ Q) X.xe s
def tZ.or{U:V->Wz->Wz->Hp->VK->Prop}(h:tZ X r)(h':tZ X U):tZ X (λx lo hi H Q=>r x lo hi H Q\/U x lo hi H Q):=by
 intro J s g H x v j l lo hi o Q I p t C T q;rcases q with q|q
 .exact h J s g H x v j l lo hi o Q I p t C T q
 .exact h' J s g H x v j l lo hi o Q I p t C T q
def OJ(r:V->Wz->Wz->Hp->VK->Prop)(te:TE)(tl th:TO):TE:=λσ H Q=>te σ H λx H1=>tl σ H1 λl H2=>th σ H2 λu I=>r x l u I Q
def OK(t:tZ X r)(C:PE X e te)(hl:PO X lo tl)(hu:PO X hi th):PE X (.Subscript e (.Slice lo hi none p2) pos) (OJ r te tl th):=by intro J s g H Q I h;refine Subscript_<|aD (C J s g H _ I h) λv s1 ⟨x,H1,I1,r1,q1⟩=>?_;refine wpAny_Slice<|aD (hl J s1 g H1 _ I1 q1) λj s2 ⟨l,H2,I2,pl,q2⟩=>aD (hu J s2 g H2 _ I2 q2) λo U ⟨u,p,I3,pu,q3⟩=>?_;rw[evalPart_none];refine Ak ?_;have I4:qx X J g p {U with heap:=U.heap.push {cls:=.type "slice",data:=.fields #[j,o,.none]}}:=I3.kept (t':=U.toks) λb ob q=>sy _ q;obtain⟨T,id,hT,ht,hg⟩:=t J {U with heap:=U.heap.push {cls:=.type "slice",data:=.fields #[j,o,.none]}} g p x v j o l u ↥U Q I4 r1 (Heap.IsSliceOf.new ..) pl pu q3;exact tail_any (ops:=[.ref ↥U,v]) ht hT hg (by with_unfolding_all rfl)
def vG(xs:WI)(lo hi:Wz):WI:=(xs.drop<|KM xs.length 0 lo).take<|KM xs.length xs.length hi-KM xs.length 0 lo
def lI(xs:WI)(lo hi:Wz):(vG xs lo hi).length<=xs.length:=by unfold vG;rw[AR,BL];lia
def OL(K:Ag):V->Wz->Wz->Hp->VK->Prop:=λx lo hi H Q=>∃a xs,x=.ref a/\fB K H a xs/\
 ¬(KM xs.length 0 lo=0/\KM xs.length xs.length hi=xs.length)/\∀p,H p=none->Q (.ref p) (upd H p<|.tup<|vG xs lo hi)
def OM:tZ X (OL X.K):=by
 rintro l s σ H x v vl vu lo g sl Q I C T pl pu⟨a,U,rfl,hx,hw,q⟩;cases C;obtain⟨j,r,p,t⟩:=I.tuple hx;have J:j.toArray.size=U.length:=by rw[Ax];exact r.length.symm
 refine{"tuple",_,CC.lookup,p.typeIs,?_};refine W5 p T pl pu (by rw[J];exact hw) ?_ (by rw[J];exact t);rw[J];refine{.ref ↥s,_,I.laid (t':=s.toks) (o:=.tup<|vG U lo g) (λb ob q=>sy _ q) (An _) ?_,rfl,q _<|I.GT.fresh<|An _};exact{AK (lI U lo g) t,_,(r.drop<|KM U.length 0 lo).take<|KM U.length U.length g-KM U.length 0 lo,IsTup.new _ _}
end
def f_(n:Nat)(i:Int):Option Nat:=if 0<=i then(if i<n then some i.toNat else none) else if -(n:Int)<=i then some (i+n).toNat else none
def iV(xs:List α)(i:Int):Option α:=(f_ xs.length i).bind λj=>xs[j]?
def Ic{i:Int}(h:f_ n i=some j):seqIndex? i n=some j/\j<n /\ -(n:Int)<=i/\i<n:=by
 unfold f_ at h;by_cases h0:0<=i
 .rw[Ar h0] at h;by_cases h1:i<n
  .rw[Ar h1] at h;have e:=AJ h;exact{by rw[seqIndex_of h0 h1,e],by lia,by lia,h1}
  .rw[Ap h1] at h;cases h
 .rw[Ap h0] at h;by_cases h1 : -(n:Int)<=i
  .rw[Ar h1] at h;have e:=AJ h;exact{by rw[seqIndex_neg (by lia) h1,e],by lia,h1,by lia}
  .rw[Ap h1] at h;cases h
def sj{xs:List α}{i:Int}{v:α}(h:iV xs i=some v):∃j,seqIndex? i xs.length=some j/\xs[j]?=some v/\j<xs.length /\ -(xs.length:Int)<=i/\i<xs.length:=by
 unfold iV at h;cases e:f_ xs.length i with
 |none=>rw[e] at h;cases h
 |some j=>
  rw[e] at h;obtain⟨h1,h2,h3,I⟩:=Ic e;exact{(j),h1,h,h2,h3,I}
def w5{xs:List α}{v:α}(h:xs[j]?=some v):iV xs (j:Int)=some v:=by
 have I:=(AM.mp h).1;have e:f_ xs.length (j:Int)=some j:=by unfold f_;rw[Ar (by lia),Ar (by lia)];simp
 unfold iV;rw[e];exact h
def sH(b:Expr):Prop:=∀o i,subscripted b false o i=operate [o,i] (getItem o i)
def Yi(X:Cx)(r:R2):Prop:=
 ∀(value slice:Expr) (pins:List<|Addr×Obj) (s:WD) (σ:St) (H:Hp) (x y:V) (v u:WC) (Q:VK),qx X pins σ H s->zo x v->zo y u->r x y H Q->
  subscripted slice false v u=operate [v,u] (getItem v u)->ZZ X (subscriptTail value slice v u) (EP X pins σ Q) X.xe s
def Ie(X:Cx)(id:WH)(r:V->WI->Hp->VK->Prop):Prop:=
 ∀(pins:List<|Addr×Obj) (s:WD) (σ:St) (H:Hp) (x:V) (xs:WI) (v:WC) (us:Wr) (Q:VK),qx X pins σ H s->zo x v->zk xs us->r x xs H Q->
  ZZ X (call (.builtin id)<|v::us) (EP X pins σ Q) X.xe s
section
variable {a b:Expr}{ta tb:TE}
def ON{r:R2}(U:Yi X r)(g:PE X a ta)(j:PE X b tb)(hs:sH b):PE X (.Subscript a b pos) (Fv r ta tb):=by intro J s l H Q I h;exact Subscript_<|GI g j I h λv u o x y p t C T q=>U a b J o l p x y v u Q t C T q<|hs _ _
def OO(K:Ag):R2:=λx y H Q=>∃p xs i v,x=.ref p/\y=.int i/\ag K H p xs/\iV xs i=some v/\Q v H
def OP(K:Ag):R2:=λx y H Q=>∃p xs i v,x=.ref p/\y=.int i/\fB K H p xs/\iV xs i=some v/\Q v H
def OQ:R2:=λx y H Q=>∃z i c,x=.str z/\y=.int i/\z.length<=sizeLine/\iV z.cps.toList i=some c/\Q (.str ⟨#[c]⟩) H
def OR:Yi X (OO X.K):=by
 intro value slice J s C H x y v u Q I rx ry h T;obtain⟨p,xs,i,z,rfl,rfl,hq,he,q⟩:=h;cases rx;obtain⟨t,rfl⟩:=ry;obtain⟨U,r,g,hz⟩:=I.list hq;obtain⟨j,h1,h2,h3,h4,h5⟩:=sj he;obtain⟨w,ew,l⟩:=r.get h2;have hl:=r.length;have hn:=jY;have k8:EP X J C Q w s:={(z),H,I,l,q};by_cases h0:0<=i
 .have o:i.toNat=j:=by rw[seqIndex_of h0 h5] at h1;exact AJ h1
  exact item_listR g.isList h0 (by lia) (by rw[o];simpa using ew) k8 T
 .have o:(i+(U.toArray.size:Int)).toNat=j:=by rw[seqIndex_neg (by lia) h4] at h1;rw[Ax,<-hl];exact AJ h1
  exact subscriptTail_builtinR (x:=w) g.isList.typeIs slot_list_getitem.lookup
   (wpAny_getItem_list_neg (Q:=λr s'=>r=w/\EP X J C Q r s') g.isList (by lia) (by rw[Ax]<;>lia) (by lia) (by rw[o];simpa using ew) ⟨rfl,k8⟩) T
def OS:Yi X (OP X.K):=by
 intro value slice J s g H x y v u Q I o C h T;obtain⟨p,xs,i,z,rfl,rfl,hq,he,q⟩:=h;cases o;obtain⟨t,rfl⟩:=C;obtain⟨a1,r,l,hz⟩:=I.tuple hq;obtain⟨j,h1,h2,h3,h4,h5⟩:=sj he;obtain⟨w,ew,U⟩:=r.get h2;have hl:=r.length;have hn:=jY;have k8:EP X J g Q w s:={(z),H,I,U,q};exact subscriptTail_builtinR (x:=w) l.typeIs slot_tuple_getitem.lookup
  (getItem_tuple (j:=j) (Q:=λr s'=>r=w/\EP X J g Q r s') l (by lia) (by lia) (by rw[Ax,<-hl];exact h1) (by simpa using ew) ⟨rfl,k8⟩) T
def OT:Yi X OQ:=by
 intro value slice J s σ H x y v u Q I U g h l;obtain⟨z,i,c,rfl,rfl,hz,o,q⟩:=h;obtain⟨t,rfl⟩:=U;obtain⟨t',rfl⟩:=g;obtain⟨j,h1,h2,h3,p,r⟩:=sj o;have C:z.cps.toList.length=z.length:=by simp[Str.length]
 rw[C] at h1 p r;have hn:=jY;exact tail_any (typeIs_str s z t) slot_str_getitem.lookup (getItem_str (c:=c) (by have T:decide (i < -(2 ^ 63:Int))=false:=Ao (by lia);have e2:decide (i>=2 ^ 63)=false:=Ao (by lia);rw[T,e2,Bool.or_false]) (by rw[h1];simpa using h2) {.str {#[c]},H,I.tok _,{_,rfl},q}) l
def yG(eA:Wr)(n j:Nat)(u:WC):Obj.mapSeq (·.setIfInBounds j u) {cls:=.type "list",data:=.seq eA.toArray n}={cls:=.type "list",data:=.seq (eA.set j u).toArray n}:=by simp[Obj.mapSeq]
def qx.lst{p:Addr}(I:qx X pins σ H s)(h:H p=⇑xs):
 ∃(eA:Wr) (n:Nat),zk xs eA/\s.heap.get? p=some {cls:=.type "list",data:=.seq eA.toArray n}/\xs.length<=sizeLine:=by
 obtain⟨z,eA,n,r,e⟩:=I.GT p _ h;exact{(eA),n,r,e,z}
def qx.Y0{p:Addr}{ys:WI}{its':Wr}{J:Nat}{f:Obj->Obj}(I:qx X pins σ H s)(h:H p=⇑xs)
 (g:s.heap.get? p=some {cls:=.type "list",data:=.seq eA.toArray n}) (U:f {cls:=.type "list",data:=.seq eA.toArray n}={cls:=.type "list",data:=.seq its'.toArray J}) (r:zk ys its') (hz:ys.length<=sizeLine) (t:Nat) (l:0<t:=by walk_at "t"):
 qx X pins σ (upd H p<|.lst ys) {s with heap:=s.heap.update p f,toks:=t}:=by
 have e:(s.heap.update p f).get? p=some {cls:=.type "list",data:=.seq its'.toArray J}:=by rw[Fa f g (by rw[U]<;>rfl),U]
 refine I.write (x:=p) (e:=p) (by rw[h];trivial) (.inl rfl) (λb u j q=>(Heap.get?_update_other _ _<|AE j).trans q) {_,e} ?_;exact{(hz),its',J,r,e}
def OU:V->V->V->Hp->(Hp->Prop)->Prop:=λo i v H Q=>∃p xs k j,o=.ref p/\i=.int k/\H p=⇑xs/\f_ xs.length k=some j/\Q (upd H p<|.lst<|xs.set j v)
def OV:HK X OU:=by
 rintro J s σ H o i v ov iv u Q I ro ri rv⟨p,xs,k,j,rfl,rfl,T,hj,q⟩;cases ro;obtain⟨t,rfl⟩:=ri;obtain⟨U,n,r,g,hz⟩:=I.lst T;obtain⟨h1,h2,h3,h4⟩:=Ic hj;have l:=r.length;have hn:=jY;have I':qx X J σ (upd H p<|.lst<|xs.set j v) {s with heap:=s.heap.update p (Obj.mapSeq (·.setIfInBounds j u))}:=
  I.Y0 T g (yG U n j u) (r.set rv j) (by rw[Bm];exact hz) s.toks
 by_cases h0:0<=k
 .have C:k.toNat=j:=by rw[seqIndex_of h0 h4] at h1;exact AJ h1
  exact PySem.W.ki_setAt g h0 (by lia) (by rw[Ax,<-l];exact h4) (by rw[C];exact{_,I',q})
 .have C:(k+(U.toArray.size:Int)).toNat=j:=by rw[seqIndex_neg (by lia) h3] at h1;rw[Ax,<-l];exact AJ h1
  exact PySem.W.ki_setBack g (by lia) (by rw[Ax,<-l];exact h3) (by lia) (by rw[C];exact{_,I',q})
def rW(lo hi:Wz)(n:Nat):(sliceBounds lo hi none n).1=((KM n 0 lo:Nat):Int)/\(sliceBounds lo hi none n).2.1=((KM n n hi:Nat):Int)/\(sliceBounds lo hi none n).2.2=1:=by
 refine{?_,?_,rfl}
 .cases lo with
  |none=>simp[sliceBounds,KM]
  |some i=>
   simp only[sliceBounds,KM,Option.getD_none,show(1:Int) > 0 by decide,if_true];by_cases h:i<0
   .simp only[h,if_true]<;>lia
   .simp only[h,if_false]<;>lia
 .cases hi with
  |none=>simp[sliceBounds,KM]
  |some i=>
   simp only[sliceBounds,KM,Option.getD_none,show(1:Int) > 0 by decide,if_true];by_cases h:i<0
   .simp only[h,if_true]<;>lia
   .simp only[h,if_false]<;>lia
def pY(eA:Wr)(lo hi:Wz):slicePick eA.toArray lo hi none=((eA.drop<|KM eA.length 0 lo).take<|KM eA.length eA.length hi-KM eA.length 0 lo).toArray:=by obtain⟨h1,h2,h3⟩:=rW lo hi eA.toArray.size;unfold slicePick;rw[h1,h2,h3];simp only[sliceRange_one,pick_run,Ax]<;>rfl
def OW(K:Ag):V->Wz->Wz->Hp->VK->Prop:=λx lo hi H Q=>∃a xs,x=.ref a/\ag K H a xs/\∀p,H p=none->Q (.ref p) (upd H p<|.lst<|vG xs lo hi)
def OX:tZ X (OW X.K):=by rintro j s σ H x v vl vu lo g sl Q I p t C T⟨a,J,rfl,hx,q⟩;cases p;obtain⟨a1,r,l,hz⟩:=I.list hx;have U:=r.length;refine{"list",_,slot_list_getitem.lookup,l.isList.typeIs,?_};refine wpAny_getItem_list_slice l.isList t C T .none (by simp) ?_ (by rw[Ax]<;>lia);rw[pY,<-U];refine{.ref ↥s,_,I.laid (t':=s.toks) (o:=.lst<|vG J lo g) (λb ob q=>sy _ q) (An _) ?_,rfl,q _<|I.GT.fresh<|An _};exact{AK (lI J lo g) hz,_,0,(r.drop<|KM J.length 0 lo).take<|KM J.length J.length g-KM J.length 0 lo,vb _ rfl}
def ay:V->Bool
 |.KB=>true
 |.bl _=>true
 |.int _=>true
 |.str _=>true
 |_=>false
def mI:V->V->Bool
 |.KB,.KB=>true
 |.bl a,.bl b=>a==b
 |.bl a,.int b=>(if a then 1 else 0)==b
 |.int a,.bl b=>a==(if b then 1 else 0)
 |.int a,.int b=>a==b
 |.str a,.str b=>a==b
 |_,_=>false
def oO{y x:V}{v:WC}(U:zo y u)(I:zo x v)(j:ay y=true)(g:ay x=true):SeqAt.EqAt A s u v (mI y x):=by
 cases y with
 |KB=>
  cases U;cases x with
  |KB=>cases I;exact SeqAt.EqAt.same _
  |bl b=>cases I;exact SeqAt.EqAt.none_bool b
  |int b=>obtain⟨t,rfl⟩:=I;exact SeqAt.EqAt.none_int b t
  |str b=>obtain⟨t,rfl⟩:=I;exact SeqAt.EqAt.none_str b t
  |_=>exact absurd (show false=true from g) AI
 |bl a=>
  cases U;cases x with
  |KB=>cases I;exact SeqAt.EqAt.bool_none a
  |bl b=>cases I;exact SeqAt.EqAt.bool_bool a b
  |int b=>obtain⟨t,rfl⟩:=I;exact SeqAt.EqAt.bool_int a b t
  |str b=>obtain⟨t,rfl⟩:=I;exact SeqAt.EqAt.bool_str a b t
  |_=>exact absurd (show false=true from g) AI
 |int a=>
  obtain⟨J,rfl⟩:=U;cases x with
  |KB=>cases I;exact SeqAt.EqAt.int_none a J
  |bl b=>cases I;exact SeqAt.EqAt.int_bool a J b
  |int b=>obtain⟨t,rfl⟩:=I;exact SeqAt.EqAt.int_int a J b t
  |str b=>obtain⟨t,rfl⟩:=I;exact SeqAt.EqAt.int_str a J b t
  |_=>exact absurd (show false=true from g) AI
 |str a=>
  obtain⟨J,rfl⟩:=U;cases x with
  |KB=>cases I;exact SeqAt.EqAt.str_none a J
  |bl b=>cases I;exact SeqAt.EqAt.str_bool a J b
  |int b=>obtain⟨t,rfl⟩:=I;exact SeqAt.EqAt.str_int a J b t
  |str b=>obtain⟨t,rfl⟩:=I;exact SeqAt.EqAt.str_str a J b t
  |_=>exact absurd (show false=true from g) AI
 |_=>exact absurd (show false=true from j) AI
def wP(x:V)(u:WC):Bool:=match u with
 |.none=>mI .KB x
 |.bool b=>mI (.bl b) x
 |.int i _=>mI (.int i) x
 |.str z _=>mI (.str z) x
 |_=>false
def Ig{x y:V}(r:zo y u)(f:ay y=true):wP x u=mI y x:=by
 cases y with
 |KB=>cases r;rfl
 |bl b=>cases r;rfl
 |int i=>obtain⟨t,rfl⟩:=r;rfl
 |str z=>obtain⟨t,rfl⟩:=r;rfl
 |_=>exact absurd (show false=true from f) AI
theorem jJ{x:V}:∀{xs:WI} {us:Wr},zk xs us->xs.all ay=true->us.any (wP x)=xs.any λy=>mI y x
 |_,_,.nil,_=>rfl
 |y::xs,u::us,.cons r t,f=>by rw[Ej,A7] at f;rw[CB,CB,Ig r f.1,jJ t f.2]
def iu{x:V}{v:WC}(J:zo x v)(U:ay x=true):∀{xs:WI} {us:Wr},zk xs us->xs.all ay=true->∀u∈us,SeqAt.EqAt A s u v (wP x u):=by
 intro xs us h
 induction h with
 |nil=>intro _ u I;cases I
 |cons r t g=>
  intro f j I;rw[Ej,A7] at f;rcases Aw.mp I with rfl|I
  .rw[Ig r f.1];exact oO r J f.1 U
  .exact g f.2 j I
def k_(x:V)(xs:WI):Bool:=xs.any λy=>mI y x
def GP(K:Ag)(neg:Bool):R2:=λx y H Q=>∃p xs,y=.ref p/\(ag K H p xs\/fB K H p xs)/\ay x=true/\xs.all ay=true/\Q (.bl<|if neg then !k_ x xs else k_ x xs) H
def OY:aG X (compareOp .In) (GP X.K false):=by
 rintro j s T H x y v u Q I l t⟨p,xs,rfl,U,o,fs,q⟩;cases t;rcases U with U|U
 .obtain⟨J,r,g,C⟩:=I.list U;refine SeqAt.in_listAt (wP x) g.isList (λw hw=>iu l o r fs w (by simpa using hw)) {.bl _,H,I,rfl,?_};rw[show J.toArray.any (wP x)=J.any (wP x) by simp,jJ r fs];exact q
 .obtain⟨J,r,g,C⟩:=I.tuple U;refine SeqAt.in_tupleAt (wP x) g (λw hw=>iu l o r fs w (by simpa using hw)) {.bl _,H,I,rfl,?_};rw[show J.toArray.any (wP x)=J.any (wP x) by simp,jJ r fs];exact q
def tN:aG X (compareOp .NotIn) (GP X.K true):=by
 rintro j s T H x y v u Q I l t⟨p,xs,rfl,U,o,fs,q⟩;cases t;rcases U with U|U
 .obtain⟨J,r,g,C⟩:=I.list U;refine SeqAt.notIn_listAt (wP x) g.isList (λw hw=>iu l o r fs w (by simpa using hw)) {.bl _,H,I,rfl,?_};rw[show J.toArray.any (wP x)=J.any (wP x) by simp,jJ r fs];exact q
 .obtain⟨J,r,g,C⟩:=I.tuple U;refine SeqAt.notIn_tupleAt (wP x) g (λw hw=>iu l o r fs w (by simpa using hw)) {.bl _,H,I,rfl,?_};rw[show J.toArray.any (wP x)=J.any (wP x) by simp,jJ r fs];exact q
def sE:je X (.builtin "len") (λxs H Q=>∃p ys,xs=[.ref p]/\(ag X.K H p ys\/fB X.K H p ys)/\Q (.int ys.length) H):=by
 rintro o s T H xs us Q I r⟨p,ys,rfl,U,q⟩;obtain⟨u,rfl,t⟩:=uZ r;cases t;have hn:=jY;rcases U with U|U
 .obtain⟨g,j,l,C⟩:=I.list U;have J:=j.length;exact Calls.call_len_list l.isList (by simp only[Ax]<;>lia) {.int ys.length,H,I.tok _,{s.toks+1,by rw[Ax,J]},q}
 .obtain⟨g,j,l,C⟩:=I.tuple U;have J:=j.length;exact len_tuple l (by simp only[Ax]<;>lia) {.int ys.length,H,I.tok _,{s.toks+1,by rw[Ax,J]},q}
def rM:je X (.builtin "len") (λxs H Q=>∃z,xs=[.str z]/\z.length<=sizeLine/\Q (.int z.length) H):=by rintro J s U H xs g Q I r⟨z,rfl,j,q⟩;obtain⟨u,rfl,t,rfl⟩:=uZ r;have l:=jY;exact len_str (by lia) {.int z.length,H,I.tok _,{_,rfl},q}
def rZ:je X (.type "list") (λxs H Q=>∃p ys,xs=[.ref p]/\(ag X.K H p ys\/fB X.K H p ys)/\∀l,H l=none->Q (.ref l) (upd H l<|.lst ys)):=by
 rintro t s σ H xs us Q I r⟨p,ys,rfl,C,q⟩;obtain⟨u,rfl,rx⟩:=uZ r;cases rx;have k8:∀(J:Wr),zk ys J->ys.length<=sizeLine->∀(U:WG) (g:Nat),(∀b o',s.heap.get? b=some o'->U.get? b=some o')->
  U.get? ↥s=some {cls:=.type "list",dict:=none,data:=.seq J.toArray g,slots:=#[]}->EP X t σ Q (.ref ↥s) {s with heap:=U}:=λJ j T U g kp e=>
  ⟨.ref ↥s,_,I.laid (t':=s.toks) kp (An _)<|show xh X.prog X.w _ U _ (.lst ys) from{(T),J,g,j,e},rfl,q _<|I.GT.fresh<|An _⟩
 rcases C with C|C
 .obtain⟨J,j,pl,T⟩:=I.list C;have a1:=j.length;obtain⟨o,ho,hc,n,hd⟩:=pl.isList;exact call_list_seq p (.inl rfl) ho hc hd (λU g kp e=>k8 J j T U g kp e) (by simp only[Ax]<;>lia)
 .obtain⟨J,j,pl,T⟩:=I.tuple C;have a1:=j.length;obtain⟨o,ho,hc,n,hd⟩:=pl;exact call_list_seq p (.inr rfl) ho hc hd (λU g kp e=>k8 J j T U g kp e) (by simp only[Ax]<;>lia)
def F8(K:Ag)(T:WH)(x:V)(H:Hp):Prop:=match x with
 |.str _=>T = "str"
 |.int _=>T = "int"
 |.ref p=>(T = "list" /\ ∃xs,ag K H p xs)\/False
 |_=>False
def Ih{T:WH}{x:V}{v:WC}(I:qx X pins σ H s)(r:zo x v)(ty:F8 X.K T x H):
 s.TypeIs v T/\∀a,v=.ref a->∃ob,s.heap.get? a=some ob/\ob.dict=none:=by
 cases x with
 |str z=>
  obtain⟨t,rfl⟩:=r;cases (show T = "str" from ty);exact{typeIs_str s z t,λ_ e=>nomatch e}
 |int i=>
  obtain⟨t,rfl⟩:=r;cases (show T = "int" from ty);exact{typeIs_int s i t,λ_ e=>nomatch e}
 |ref p=>
  cases r;obtain⟨rfl,j,U⟩:=B8 ty id;obtain⟨g,_,J,_⟩:=I.list U;refine{J.isList.typeIs,λa e=>?_};cases e;obtain⟨o,n,e,c,hd,_⟩:=J;exact{(o),e,hd}
 |_=>exact False.elim ty
def OZ(K:Ag)(T:WH)(r:V->WI->Hp->VK->Prop)(to:TE):TE:=λσ H Q=>to σ H λx H1=>F8 K T x H1/\r x [] H1 Q
def O0(K:Ag)(T:WH)(r:V->WI->Hp->VK->Prop)(to:TE)(t:TA):TE:=λσ H Q=>to σ H λx H1=>F8 K T x H1/\t σ H1 λxs H2=>r x xs H2 Q
variable {to:TE}{t:TA}{T id:WH}{r:V->WI->Hp->VK->Prop}
def O1(pa:PlainAttrs T)(slot:Slot T name id)(j:typeOf (.builtin id)=pure (.type "method_descriptor"))(C:Ie X id r)(ho:PE X o to)
 (U:attributeBase o name X.env (eval o X.env)=eval o X.env:=by rfl) (g:(apos.endLine==eK.line)=true:=by rfl):PE X (.Call (.Attribute o name apos) [] [] eK) (OZ X.K T r to):=by
 intro J s l H Q I h;refine wpAny_Call_method0_late U g<|aD (ho J s l H _ I h) λv s1 ⟨x,H1,p,t,ty,q1⟩=>?_;obtain⟨h1,h2⟩:=Ih p t ty;exact{T,id,pa,slot,j,h1,h2,EQ rfl<|PySem.evalArgs_none<|C J s1 l H1 x [] v [] Q p t .nil q1}
def Ii(pa:PlainAttrs T)(slot:Slot T name id)(p:typeOf (.builtin id)=pure (.type "method_descriptor"))(hm:Ie X id r)(ho:PE X o to)(ha:PA X (e::es) t)
 (g:attributeBase o name X.env (eval o X.env)=eval o X.env:=by rfl)
 (l:((backTo eK<|starEach (e::es) X.env).all (λx=>!x.1)&&(backToKw eK<|keywordEach [] X.env).all (λx=>x.1.isSome)
  && decide ((e::es).length+([]:List Keyword).length+(if ([]:List Keyword).isEmpty then 0 else 1)<30))=true:=by rfl)
 (j:(apos.endLine==eK.line)=true:=by rfl) (hs:Fb e es X:=by rfl) (U:Fc eK es X:=by rfl):
 PE X (.Call (.Attribute o name apos) (e::es) [] eK) (O0 X.K T r to t):=by
 intro J s C H Q I h;refine wpAny_Call_method_late g l j rfl<|aD (ho J s C H _ I h) λv s1 ⟨x,H1,I1,r1,ty,q1⟩=>?_;obtain⟨h1,h2⟩:=Ih I1 r1 ty;refine{T,id,pa,slot,p,h1,h2,?_};have hA:=ha eK J s1 C H1 _ I1 q1;rw[hs] at hA ⊢;refine EQ (by show(false||(backTo eK<|starEach es X.env).any (·.1))=false;rw[U]<;>rfl)<|Fh ?_;exact aD hA λus s2 ⟨vs,H2,I2,r2,q2⟩=>hm J s2 C H2 x vs v us Q I2 r1 r2 q2
end
def kF(X:Cx)(id:WH)(r:V->WI->Hp->VK->Prop):Prop:=
 ∀(pins:List<|Addr×Obj) (s:WD) (σ:St) (H:Hp) (x:V) (xs:WI) (v:WC) (us:Wr) (Q:VK),qx X pins σ H s->zo x v->zk xs us->r x xs H Q->
  ZZ X (call (.builtin id)<|v::us) (EP X pins σ Q) X.xe s
def zk.one{x:V}(h:zk [x] us):∃u,us=[u]/\zo x u:=by cases h with|cons r t=>cases t;exact{_,rfl,r}
def zk.two{x y:V}(h:zk [x,y] us):∃u v,us=[u,v]/\zo x u/\zo y v:=by cases h with|cons r t=>cases t with|cons q t=>cases t;exact{_,_,rfl,r,q}
theorem zk.zero:∀{us:Wr},zk [] us->us=[]
 |_,.nil=>rfl
def zk.dropLast(h:zk xs us):zk xs.dropLast us.dropLast:=by
 induction h with
 |nil=>exact .nil
 |cons r t I=>
  cases t with|nil=>exact .nil|cons q J=>exact .cons r I
theorem zk.eraseIdx:∀{xs:WI} {us:Wr} (i:Nat),zk xs us->zk (xs.eraseIdx i) (us.eraseIdx i)
 |_,_,_,.nil=>.nil
 |_,_,0,.cons _ t=>t
 |_,_,i+1,.cons r t=>.cons r<|zk.eraseIdx i t
def yT(l:List α):l.eraseIdx (l.length-1)=l.dropLast:=by
 induction l with
 |nil=>rfl
 |cons a r I=>
  cases r with
  |nil=>rfl
  |cons b r=>
   have e:(a::b::r).length-1=((b::r).length-1)+1:=by have h1:(a::b::r).length=r.length+2:=rfl;have h2:(b::r).length=r.length+1:=rfl;lia
   rw[e,CG,I]
   all_goals rfl
theorem qZ{α:Type}:∀(l:List α) (i:Nat),(l.eraseIdx i).length<=l.length
 |[],_=>An _
 |_::_,0=>Cy _
 |_::r,i+1=>Nat.succ_le_succ<|qZ r i
section
variable {b:Addr}{ys:WI}
def qx.Ym{its':Wr}{f:Ws->Ws}(I:qx X pins σ H s)(J:H l=⇑xs)
 (e:s.heap.get? l=some {cls:=.type "list",data:=.seq eA.toArray n}) (U:f eA.toArray=its'.toArray) (g:zk ys its') (hz:ys.length<=sizeLine) (p:0<t':=by walk_at "t"):
 qx X pins σ (upd H l<|.lst ys) {s with heap:=s.heap.update l<|Obj.mapSeq f,toks:=t'}:=by
 have q:=PySem.IsL.update e f;rw[U] at q;refine I.write (x:=l) (e:=l) (by rw[J];exact trivial) (.inl rfl) (λr u j o=>(Heap.get?_update_other s.heap (Obj.mapSeq f)<|AE j).trans o) {_,q} ?_;exact{hz,its',_,g,q}
def qx.ZE(I:qx X pins σ H s)(J:zk ys eA)(hz:ys.length<=sizeLine)(U:0<t':=by walk_at "t"):
 qx X pins σ (upd H ↥s<|.lst ys) {s with heap:=s.heap.push {cls:=.type "list",data:=.seq eA.toArray},toks:=t'}:=
 I.laid (λ_ _ q=>sy _ q) (An _) ⟨hz,eA,0,J,vb _ rfl⟩
theorem qx.fresh(I:qx X pins σ H s):H ↥s=none:=I.GT.fresh<|An _
def qx.XB(I:qx X pins σ H s)(J:H l=⇑xs):xs.length<=sizeLine/\∃(eA:Wr) (n:Nat),zk xs eA/\xs.length=eA.length/\s.heap.get? l=some {cls:=.type "list",data:=.seq eA.toArray n}:=by obtain⟨z,eA,n,r,e⟩:=I.GT l _ J;exact{(z),eA,n,r,r.length,e}
def O6(h:n<=sizeLine):Builtin.List.listTooLong n=false:=by exact Ao (by lia)
end
def O7:V->WI->Hp->VK->Prop:=λx vs H Q=>∃l xs y,x=.ref l/\vs=[y]/\H l=⇑xs/\xs.length<sizeLine/\Q .KB (upd H l<|.lst<|xs++[y])
def O8:kF X "list.append" O7:=by rintro U s t H x C v T Q I j o⟨l,xs,y,rfl,rfl,g,hz,q⟩;cases j;obtain⟨u,rfl,p⟩:=o.one;obtain⟨z,J,n,r,hl,e⟩:=I.XB g;refine call_meets F.slot_list_append {_,e,rfl} F.entry_list_append (F.args_list_append_2 _ _) (PySem.list_append l J.toArray n u (by rw[Ax];lia)) {e,?_};refine{.KB,_,I.Ym (its':=J++[u]) g e (by simp) (r.append<|.cons p .nil) ?_,rfl,q};rw[Ab,AF];lia
def O9:V->WI->Hp->VK->Prop:=λx vs H Q=>∃l b xs zs,x=.ref l/\vs=[.ref b]/\H l=⇑xs/\H b=⇑zs/\xs.length+zs.length<=sizeLine/\Q .KB (upd H l<|.lst<|xs++zs)
def O_:kF X "list.extend" O9:=by
 rintro o s σ H x vs v us Q I t C⟨l,b,xs,zs,rfl,rfl,p,T,hz,q⟩;cases t;obtain⟨u,rfl,ru⟩:=C.one;cases ru;obtain⟨z,U,n,r,hl,e⟩:=I.XB p;obtain⟨z2,J,n2,r2,a1,e2⟩:=I.XB T;have j:U.toArray.size+J.toArray.size<=sizeLine:=by rw[Ax,Ax];lia
 have g:¬(!U.toArray.isEmpty&&Builtin.List.listTooLong (U.toArray.size+J.toArray.size))=true:=by rw[O6 j,DR];exact AI
 refine call_meets F.slot_list_extend {_,e,rfl} F.entry_list_extend (F.args_list_extend_2 _ _)
  (AutoSeq1.list_extend_list_list_0 l U.toArray n b J.toArray n2 g (by rw[Ax];lia) (by lia)) ⟨e,e2,?_⟩
 refine{.KB,_,I.Ym (its':=U++J) p e (by simp) (r.append r2) ?_,rfl,q};rw[Ab];lia
def aug:V->WI->Hp->VK->Prop:=λx vs H Q=>∃l xs y,x=.ref l/\vs=[]/\H l=⇑xs/\xs[xs.length-1]?=some y/\Q y (upd H l<|.lst xs.dropLast)
def O':kF X "list.pop" aug:=by
 rintro j s σ H x vs v us Q I p t⟨l,xs,y,rfl,rfl,o,C,q⟩;cases p;have U:=t.zero;subst U;obtain⟨z,J,n,r,T,e⟩:=I.XB o;obtain⟨u,hu,ru⟩:=r.get C;have g:J.toArray[J.toArray.size-1]?=some u:=by show J.toArray[J.length-1]?=some u;rw[<-A6,<-T];exact hu
 refine call_meets F.slot_list_pop {_,e,rfl} F.entry_list_pop (F.args_list_pop_1 _) (MeetsSeq.list_pop_last l J.toArray n u g (by rw[Ax];lia)) {e,?_};refine{y,_,I.Ym (its':=J.dropLast) o e ?_ r.dropLast ?_,ru,q}
 .show J.toArray.eraseIdxIfInBounds (J.toArray.size-1)=J.dropLast.toArray;rw[Ax,DB,yT]
 .rw[List.length_dropLast];lia
def Pa:V->WI->Hp->VK->Prop:=λx vs H Q=>∃l xs i k y,x=.ref l/\vs=[.int i]/\H l=⇑xs /\ -(2 ^ 63)<=i/\i<2 ^ 63/\seqIndex? i xs.length=some k/\xs[k]?=some y/\Q y (upd H l<|.lst<|xs.eraseIdx k)
def Pb:kF X "list.pop" Pa:=by
 rintro g s σ H x vs v us Q I o p⟨l,C,i,k,y,rfl,rfl,j,h1,h2,T,hy,q⟩;cases o;obtain⟨u,rfl,ru⟩:=p.one;obtain⟨t,rfl⟩:=ru;obtain⟨z,J,n,r,hl,e⟩:=I.XB j;obtain⟨w,hw,U⟩:=r.get hy;refine call_meets F.slot_list_pop {_,e,rfl} F.entry_list_pop (F.args_list_pop_2 _ _)
  (MeetsSeq.list_pop_at l J.toArray n i t k w (fitsIndex_both h1 h2) (by rw[Ax,<-hl];exact T) (by rw[<-A6];exact hw) (by rw[Ax];lia)) ⟨e,?_⟩
 refine{y,_,I.Ym (its':=J.eraseIdx k) j e ?_ (r.eraseIdx k) ?_,U,q}
 .show J.toArray.eraseIdxIfInBounds k=(J.eraseIdx k).toArray;rw[DB]
 .have:=qZ C k;lia
def Pd:R2:=λx y H Q=>∃l b xs zs,x=.ref l/\y=.ref b/\H l=⇑xs/\H b=⇑zs/\xs.length+zs.length<=sizeLine/\∀p,H p=none->Q (.ref p) (upd H p<|.lst<|xs++zs)
def Pe:aG X (binaryOp .Add) Pd:=by
 rintro g s σ H x y v u Q I j o⟨l,b,xs,zs,rfl,rfl,p,t,hz,q⟩;cases j;cases o;obtain⟨z,U,n,r,hl,e⟩:=I.XB p;obtain⟨z2,J,n2,C,T,e2⟩:=I.XB t;refine PySem.P.add_list e e2 ?_ (by rw[Ax,Ax];lia);have ea:U.toArray++J.toArray=(U++J).toArray:=by simp
 rw[ea];exact{.ref _,_,I.ZE (t':=s.toks) (r.append C) (by rw[Ab];lia),rfl,q _ I.fresh}
section
variable {w:WF}
set_option maxRecDepth 100000 in
end
section
open PySem.W PySem.Calls
def mK{P:Params} :∀(ns:Wx) (vs:Wr),WellAll P h vs (ns.map WData.int)->IntsAre vs ns:=by
 intro ns
 induction ns with
 |nil=>
  intro vs w;rw[DO] at w;cases w;exact .nil
 |cons n ns I=>
  intro vs w;rw[AQ] at w;cases w with
  |cons a b=>
   cases a;exact .cons _ _<|I _ b
def Pf{l:OpenLaw}(C:l.most=some n){P:Params}{args:List WData}{I:Wr}
 (J:l.row.toRowW.claim.pre args=true) (p:WellAll P h I args):
 ∃a vs ns,I=[Value.ref a]/\args=[WData.list<|ns.map WData.int]/\h.get? a=some {cls:=.type "list",data:=.seq vs.toArray}/\IntsAre vs ns/\ns.length<=n:=by
 have t:=(pre_splitW J).1;have T:=(pre_splitW J).2;obtain⟨d,r,rfl,h1,h2⟩:=hasAllW_cons t;obtain rfl:=hasAllW_nil h2;obtain⟨xs,rfl,h3⟩:=hasW_list h1;obtain⟨ns,rfl⟩:=items_int h3;have U:ns.length<=n:=by
  have j:(WTm.not<|.lt (.lit<|.int (n:Int))<|.len<|.arg 0).holds [] {args:=[.list<|ns.map .int]}=true:=by have j:=(holds_andW T).1;rw[C] at j;exact j
  have o:=condW_of j<|w_not<|w_lt w_lit<|w_len_list<|w_arg rfl;rw[Ae] at o;refine Nat.le_of_not_lt λq=>?_;have q':(n:Int)<((ns.length:Nat):Int):=by lia
  first
   |(rw[Az q'] at o;exact absurd o (by decide))
   |(simp at o;lia)
 cases p with
 |cons w1 w2=>
  cases w2;cases w1 with|list ho g=>exact{_,_,ns,rfl,rfl,ho,mK ns _ g,U}
def Pg(l:OpenLaw)(args:List WData):l.row.toRowW.claim.post args (.bool true) args=true:=
 postW_of (r:=l.row.toRowW) (X:=(true==true))
  (show WShape.has [] (.bool true) .bool=true by first|rfl|decide|simp[WShape.has,WShape.arms,WShape.armsAll])
  (show(WTm.eq .res<|.lit<|.bool true).value [] {args:=args,res:=some<|.bool true,after:=args}=some (.bool<|true==true) from w_eq_bool (w_res rfl) w_lit) rfl
theorem Xp{l:OpenLaw}{q:WE}{loose:Wu}{XP:(Wo)->WG->Prop}{YM:List Addr}{N t:Nat}{K:Params->Frag}{d:DefRec}
 (hn:l.most=some n) (p:d.params.defaults=[]) (ek:∀P,YM=(K P).map (·.1)) (C:0<t)
 (call:∀(w:WF) (s₀ I:WD) (mg T:Wo) (fa:Addr) (o:Obj) (pm cd fy:WC) (a:Addr) (vs:Wr) (ns:Wx),
  Ground q loose [] XP w s₀ mg T I.heap->(K w.params).In I.heap->0<I.toks->
  I.heap.get? fa=some o->o.data=.func (docDef d.name d.params d.body d.scope pm cd fy)->I.heap.CodeRec cd d.name->mg d.name=some (.ref fa)->
  I.heap.get? a=some {cls:=.type "list",data:=.seq vs.toArray}->IntsAre vs ns->ns.length<=n->I.gens=#[]->
  codeAny (model l.prog w) callerA (.call (.ref fa) ⟨[.ref a],[]⟩) (λr s'=>r=.ok (.ret<|.bool true)/\OldK I.heap s'.heap/\s'.os=I.os/\AllBare s'.gens) I):
 WalkX q loose XP (PySem.W.X.obsZ YM) (PySem.W.X.valZ K N t) l.row.toRowW d [] (λf vs=>PySem.call f vs):=by
 intro w s₀ I mg T G Y fa o pm cd fy dV kV ho hd a1 hD a2 hg args a5 as L U ac al a3 av;obtain rfl:dV=.none:=Dflts.none hD p;obtain rfl:kV=.none:=Dflts.noKw hD;obtain⟨a,vs,ns,rfl,rfl,g,J,j⟩:=Pf hn U a3;obtain⟨_,zi,_,zt⟩:=X.z_facts ek Y;have eP:∀ns:Wx,ofPy (PyData.list<|ns.map PyData.int)=WData.list (ns.map WData.int):=λns=>by
  simp only[ofPy];congr 1
  induction ns with|nil=>simp[ofPys]|cons n r ih=>simp only[AQ,ofPys,ofPy,ih]
 rw[<-eP] at L;have KX:=InK.keeps w s₀.heap I.heap zi L.keeps;have a4:=AS C<|X.script_toks L zt;refine enter_call<|codeAny_mono (call w s₀ I mg T fa o pm cd fy a vs ns G KX a4 ho (fd_plain hd) a1 a2 g J j hg) λr s' hq=>?_;obtain⟨rfl,h2,h3,h4⟩:=hq;exact{.inl {.bool true,.bool true,[],rfl,λ_=>rfl,.bool true,Pg l _,λ_=>{List.Pairwise.nil,λ_ hm=>(nomatch hm)}},h2,h3,h4}
section
variable {w:WF}{K:Frag}
end
end
theorem qR:∀{vs:Wr} {ns:Wx},IntsAre vs ns->zk (ns.map V.int) vs
 |_,_,.nil=>.nil
 |_,_,.cons n t h=>.cons {(t),rfl}<|qR h
def vj(s:Stmt):Arguments:=match s with
 |.FunctionDef _ a _ _ _ _ _ _ _ _=>a
 |_=>{posonlyargs:=[],args:=[],vararg:=none,kwonlyargs:=[],kw_defaults:=[],kwarg:=none,defaults:=[]}
def jr(s:Stmt):Ww:=match s with
 |.FunctionDef _ _ b _ _ _ _ _ _ _=>b
 |_=>[]
def qw(s:Stmt):Scope:=match s with
 |.FunctionDef _ _ _ _ _ _ I _ _ _=>I
 |_=>{kind:=.function,names:=[],isGenerator:=false,isCoroutine:=false}
abbrev XU:y9:=λ_ _ _ _ _ _=>False
abbrev E0:XK:=λ_ _ _=>False
def GQ :kK XU X E0:=λ_ _ _ _ _ _ _ h=>h.elim
structure Yk(K:Ag)(x eh:Str)(st:Stmt)(f:Addr)(fd:FuncData):Prop where
 ex:∃(oc:WC) (od:Option Addr) (kV fy pm:WC) (an:Option Addr) (eW ct:WC) (oi:Array<|Wy),
  fd=PySem.W.fnOf x eh (vj st) (jr st) (qw st) .none kV fy pm an eW ct/\K.lookup f=some ⟨oc,od,.func fd,oi⟩/\PySem.W.codeIn K eW eh=true
 kp:PySem.W.keepIn K (.ref f)=true
section
variable {P:WE}{w:WF}{K:Ag}
def Yk.ok{N:Wu}{k:Nat}{sp:Sp}(F:Yk K x eh st f fd)(S:aR N ps<|qw st)(len:∀vs H Q E,sp vs H Q E->vs.length=ps.length)
 (I:∀(eW:WC) (A:Around) (outer:List Env) (s:WD) (H:Hp) (vs:WI) (Q:VK) (E:XK),ki k (A.deeper<|envOfC eh (qw st) ↥s f eW)->sp vs H Q E->
  ∃t,hJ (fP XU P w K mg base N eh (qw st) f eW A outer s H E).YH (jr st) t/\t {nx:=λ_ H'=>Q .KB H',rt:=Q} (start N vs) H):au P w K mg base XU (k+1) f fd ps sp:=by
 obtain⟨o,p,kV,g,pm,an,eW,r,j,rfl,lk,J⟩:=F.ex;refine GL lk J S len λA outer s H vs Q E l U=>?_;obtain⟨t,h,q⟩:=I eW A outer s H vs Q E l U;exact{(t),h.YH,q}
def Ij{kV ct:WC}(l:K.lookup f=some ⟨oc,od,.func<|PySem.W.fnOf x eh (vj st) (jr st) (qw st) .none kV fy pm an eW ct,oi⟩)
 (c:PySem.W.codeIn K eW eh=true) (k:PySem.W.keepIn K (.ref f)=true):Yk K x eh st f (PySem.W.fnOf x eh (vj st) (jr st) (qw st) .none kV fy pm an eW ct):={{(oc),od,kV,fy,pm,an,eW,ct,oi,rfl,l,c},k}
end
def qT(h:n<=1000):n<sizeLine:=Bj h (by decide)
def pv(i:Nat)(hN:X.N[i]?=some x:=by rfl)(J:x_ X.env.scope x:=by first|exact Or.inl rfl|exact Or.inr (Or.inl rfl)|exact Or.inr<|Or.inr rfl)(hd:Fe x:=by decide)
 (I:Ff x:=by decide):PE X (.Name x pos) (mH i):=Mr hN J hd I
section
variable [DecidableEq κ]
end
set_option maxHeartbeats 8000000
def Fy{a b c:Nat}(h:a<b:=by assumption)(k:b<=c:=by assumption):a<c:=AS h k
def pO{a b c:Nat}(h:a<=b:=by assumption)(k:b<c:=by assumption):a<c:=Bj h k
def GR{a b c:Nat}(h:a<=b:=by assumption)(k:b<=c:=by assumption):a<=c:=AK h k
def pS{a b c:Nat}(h:a<b:=by assumption)(k:b<c:=by assumption):a<c:=CM h k
def fu{a b c:Nat}(h:a<=b:=by assumption)(k:b<=c:=by decide):a<=c:=AK h k
def Fz{a b:Nat}(h:a<=b:=by assumption):a<b+1:=Nat.lt_succ_of_le h
def Ik{a b:Nat}(h:a<=b:=by assumption):a<=b+1:=Dt h
def iT{a b:Nat}(h:a<b:=by assumption):a<=b:=Bo h
def Il{a b:Nat}(h:a<b:=by assumption):a≠b:=A3 h
def Im{a b:Nat}(h:b<a:=by assumption):a≠b:=C3 h
def FD{a:Nat}(h:a≠0:=by assumption):0<a:=Nat.pos_of_ne_zero h
def Io{a b c:Nat}(h:a<b:=by assumption)(k:b<=c:=by assumption):a<=c:=AK (Bo h) k
def GS{a b c:Nat}(h:a<b:=by assumption):a<b+c:=AS h<|Bf _ _
def uY{a b:Nat}(h:a=b:=by assumption):a<=b:=Dr h
def FE{a b:Nat}(h:¬a<b:=by assumption):b<=a:=Nat.le_of_not_lt h
def are{a b:Nat}(h:¬b<=a:=by assumption):a<b:=Nat.lt_of_not_le h
def Ip{a b:Nat}(h:a<b+1:=by assumption):a<=b:=Nat.le_of_lt_succ h
def Ph{a b c:Nat}(h:a<=b:=by assumption)(k:c<=d:=by assumption):a+c<=b+d:=Nat.add_le_add h k
def y_{a b:Nat}(h:0<a:=by assumption)(k:0<b:=by decide):a-b<a:=Nat.sub_lt h k
def Iq{a b c:Nat}(h:a<=c:=by assumption):a-b<=c:=AK (EO _ _) h
def sm{a b c:Nat}(h:a<c:=by assumption):a-b<c:=Bj (EO _ _) h
def z_{a b:Nat}(h:a<=b:=by assumption)(k:a≠b:=by assumption):a<b:=Nat.lt_of_le_of_ne h k
def Pj:R2:=λx y H Q=>match x,y with
 |.int i,.int j=>Q (.int<|i+j) H
 |.str a,.str b=>a.length+b.length<=sizeLine/\Q (.str<|a++b) H
 |.ref l,.ref b=>∃xs zs,H l=⇑xs/\H b=⇑zs/\xs.length+zs.length<=sizeLine/\∀p,H p=none->Q (.ref p) (upd H p<|.lst<|xs++zs)
 |_,_=>False
def Pk:aG X (binaryOp .Add) Pj:=by
 intro J s U H x y v u Q I g j h;cases x<;>cases y<;>first
  |exact False.elim h
  |exact Ny J s U H _ _ v u Q I g j {_,_,rfl,rfl,h}
  |exact yF J s U H _ _ v u Q I g j {_,_,rfl,rfl,h.1,h.2}
  |(obtain⟨l,o,h1,h2,h3,p⟩:=h;exact Pe J s U H _ _ v u Q I g j {_,_,l,o,rfl,rfl,h1,h2,h3,p})
def KD(K:Ag)(P:WE)(w:WF)(a:Addr)(kvs:List<|j8×V):Prop:=
 (a==sysModules)=false/\kvs.length<=sizeLine/\∀h:WG,K.In h->∃vs,KV kvs vs/\h.DictOf (xn P w) a vs
def Ir(K:Ag)(P:WE)(w:WF):R2:=λx y H Q=>match x,y with
 |.str z,.int i=>z.length<=sizeLine/\∃c,iV z.cps.toList i=some c/\Q (.str ⟨#[c]⟩) H
 |.ref p,.int i=>∃xs v,(ag K H p xs\/fB K H p xs)/\iV xs i=some v/\Q v H
 |.ref p,.str k=>∃kvs v,(Rd H p (.dK kvs)\/KD K P w p kvs)/\am kvs (Sum.inr k)=some v/\Q v H
 |_,_=>False
def Iu{slice:Expr}{a:Addr}{vs:List<|j8×WC}{k:j8}{J:WC}{Q:VK}(I:qx X pins σ H s)(dd:s.heap.DictOf (xn X.prog X.w) a vs)(U:nQ k u=true)
 (hw:valueAt vs k=some J) (r:zo v J) (q:Q v H) (hs:subscripted slice false (.ref a) u=operate [.ref a,u] (getItem (.ref a) u)):ZZ X (subscriptTail value slice (.ref a) u) (EP X pins σ Q) X.xe s:=
 tail_any dd.typeIs DZ.lookup (wpAny_getItem_of U dd.mapOf hw ⟨v,H,I.tok _,r,q⟩) hs
def Pl:Yi X (Ir X.K X.prog X.w):=by
 intro value slice J s T H x y v u Q I t C q g;cases x with
 |str z=>
  cases y with
  |int i=>
   obtain⟨h1,c,h2,h3⟩:=q;exact OT value slice J s T H _ _ v u Q I t C {(z),i,c,rfl,rfl,h1,h2,h3} g
  |_=>exact q.elim
 |ref p=>
  cases y with
  |int i=>
   obtain⟨xs,j,h1,h2,h3⟩:=q;rcases h1 with h1|h1
   .exact OR value slice J s T H _ _ v u Q I t C {(p),xs,i,j,rfl,rfl,h1,h2,h3} g
   .exact OS value slice J s T H _ _ v u Q I t C {(p),xs,i,j,rfl,rfl,h1,h2,h3} g
  |str k=>
   obtain⟨a1,j,h1,h2,h3⟩:=q;have l:zo (kV<|Sum.inr k) u:=C;cases (show v=Value.ref p from t);rcases h1 with h1|h1
   .obtain⟨z,hd,vs,rel,r⟩:=iH I.GT h1;obtain⟨w2,hw,U⟩:=E7 (v:=j) (o:=valueAt vs<|Sum.inr k) (by rw[<-h2];exact rel.val _);exact Iu I r (gu (P:=X.prog) (w:=X.w) l) hw U h3 g
   .obtain⟨hd,z,r⟩:=h1;obtain⟨vs,rel,r⟩:=r s.heap I.SC;obtain⟨w2,hw,U⟩:=E7 (v:=j) (o:=valueAt vs<|Sum.inr k) (by rw[<-h2];exact rel.val _);exact Iu I r (gu (P:=X.prog) (w:=X.w) l) hw U h3 g
  |_=>exact q.elim
 |_=>cases y<;>exact q.elim
def Pm(K:Ag):WI->Hp->VK->Prop:=λxs H Q=>match xs with
 |[.str z]=>z.length<=sizeLine/\Q (.int z.length) H
 |[.ref p]=>∃ys,(ag K H p ys\/fB K H p ys)/\Q (.int ys.length) H
 |_=>False
def Pn:je X (.builtin "len") (Pm X.K):=by
 intro J s U H j g Q I r h;obtain _|⟨x,_|⟨y,t⟩⟩:=j
 .exact h.elim
 .cases x with
  |str z=>exact rM J s U H _ g Q I r {(z),rfl,h.1,h.2}
  |ref p=>
   obtain⟨l,h1,h2⟩:=h;exact sE J s U H _ g Q I r {(p),l,rfl,h1,h2}
  |_=>exact h.elim
 .cases x<;>exact h.elim
inductive Da where
 |s (v:V)
 |tup (xs:List Da)
 |lst (xs:List Da)
mutual
def Da.eq:Da->Da->Bool
 |.s v,.s w=>mI v w
 |.tup xs,.tup ys=>Da.eqs xs ys
 |.lst xs,.lst ys=>Da.eqs xs ys
 |_,_=>false
def Da.eqs:List Da->List Da->Bool
 |[],[]=>true
 |x::xs,y::ys=>Da.eq x y&&Da.eqs xs ys
 |_,_=>false
end
def aa(K:Ag)(H:Hp):Nat->V->Da->Prop
 |0,v,d=>d=.s v/\ay v=true
 |n+1,v,d=>(d=.s v/\ay v=true)\/(∃a xs ds,v=.ref a/\d=.tup ds/\fB K H a xs/\Paired (aa K H n) xs ds)\/(∃a xs ds,v=.ref a/\d=.lst ds/\ag K H a xs/\Paired (aa K H n) xs ds)
theorem Da.W':∀(ds es:List Da),((List.range<|min ds.length es.length).all (λj=>Da.eq (ds.getD j<|.s .KB)<|es.getD j<|.s .KB)&&ds.length==es.length)=Da.eqs ds es
 |[],[]=>by simp[Da.eqs]
 |[],e::es=>by simp[Da.eqs]
 |d::ds,[]=>by simp[Da.eqs]
 |d::ds,e::es=>by
  have I:=Da.W' ds es;rw[Da.eqs,<-I];have:min (d::ds).length (e::es).length=min ds.length es.length+1:=by simp only[AD];lia
  rw[this,List.range_succ_eq_map,Ej,List.all_map];have h2:((d::ds).length==(e::es).length)=(ds.length==es.length):=by simp
  rw[h2,Bool.and_assoc];rfl
theorem Paired.at{F:α->β->Prop}:∀{xs:List α} {ys:List β} {j:Nat} {x:α} {y:β},Paired F xs ys->xs[j]?=some x->ys[j]?=some y->F x y:=by
 intro xs ys j x y h
 induction h generalizing j with
 |nil=>intro h _;simp at h
 |cons r t I=>
  intro h1 h2;cases j with|zero=>simp at h1 h2;subst h1 h2;exact r|succ j=>exact I (j:=j) (by simpa using h1) (by simpa using h2)
abbrev EZ:=@Paired.at
theorem ix:∀{v:V},ay v=true->mI v v=true
 |.KB,_=>rfl
 |.bl _,_=>by simp[mI]
 |.int _,_=>by simp[mI]
 |.str _,_=>by simp[mI]
def x4{a:Addr}(h:ay (.ref a)=true):False:=by simp[ay] at h
def qx.XJ(I:qx X pins σ H s){a:Addr}{ys:WI}(h:fB X.K H a xs)(h':ag X.K H a ys):False:=by
 obtain⟨j,_,⟨o,e,c,_⟩,_⟩:=I.tuple h;obtain⟨U,_,⟨l,p,g,J,_⟩,_⟩:=I.list h';rw[e] at g;cases g;rw[c] at J;injection J with J
 exact absurd J (by decide)
theorem sC(I:qx X pins σ H s):∀(n:Nat) {m:Nat} {x:V} {d e:Da},aa X.K H n x d->aa X.K H m x e->Da.eq d e=true
 |0,m,x,d,e,h1,h2=>by
  obtain⟨rfl,f⟩:=h1;cases m with
  |zero=>obtain⟨rfl,_⟩:=h2;exact ix f
  |succ m=>
   rcases h2 with⟨rfl,_⟩|⟨a,g,j,rfl,_⟩|⟨a,g,j,rfl,_⟩
   .exact ix f
   .exact(x4 f).elim
   .exact(x4 f).elim
 |n+1,m,x,d,e,h1,h2=>by
  have both:∀{g:WI} {j l:List Da} {m:Nat},Paired (aa X.K H n) g j->Paired (aa X.K H m) g l->Da.eqs j l=true:=by
   intro g j l m p
   induction p generalizing l with
   |nil=>intro q;cases q;rfl
   |cons r t ih=>
    intro q;cases q with|cons r' t'=>rw[Da.eqs,sC I n r r',ih t'];rfl
  rcases h1 with⟨rfl,f⟩|⟨a,g,j,rfl,rfl,C,T⟩|⟨a,g,j,rfl,rfl,C,T⟩
  .cases m with
   |zero=>obtain⟨rfl,_⟩:=h2;exact ix f
   |succ m=>
    rcases h2 with⟨rfl,_⟩|⟨a,g,j,rfl,_⟩|⟨a,g,j,rfl,_⟩
    .exact ix f
    .exact(x4 f).elim
    .exact(x4 f).elim
  .cases m with
   |zero=>exact(x4 h2.2).elim
   |succ m=>
    rcases h2 with⟨_,f⟩|⟨a',ys,l,o,rfl,J,U⟩|⟨a',ys,l,o,rfl,J,U⟩
    .exact(x4 f).elim
    .cases o;cases I.WW C J;exact both T U
    .cases o;exact(I.XJ C J).elim
  .cases m with
   |zero=>exact(x4 h2.2).elim
   |succ m=>
    rcases h2 with⟨_,f⟩|⟨a',ys,l,o,rfl,J,U⟩|⟨a',ys,l,o,rfl,J,U⟩
    .exact(x4 f).elim
    .cases o;exact(I.XJ J C).elim
    .cases o;cases I.WL C J;exact both T U
def xt{a:Addr}{eA:Ws}(p:PlainL h a eA):h.IsList a eA:=let ⟨o,n,e,c,_,d⟩:=p;⟨o,e,c,n,d⟩
def vB{ys:WI}{ds es:List Da}(px:Paired (aa X.K H n) xs ds)(py:Paired (aa X.K H m) ys es)(I:zk xs us)(J:zk ys vs)
 (p:∀{x y:V} {d e:Da} {u v:WC},aa X.K H n x d->aa X.K H m y e->zo x u->zo y v->SeqAt.EqAt A.in1 s u v (Da.eq d e)):
 ∀j (h1:j<us.toArray.size) (h2:j<vs.toArray.size),SeqAt.EqAt A.in1 s us.toArray[j] vs.toArray[j] (Da.eq (ds.getD j<|.s .KB)<|es.getD j<|.s .KB):=by
 intro j h1 h2;have C:=px.length;have T:=py.length;have l3:=I.length;have l4:=J.length;rw[Ax] at h1 h2;have U:xs[j]?=some xs[j]:=Ai (by lia);have g:ys[j]?=some ys[j]:=Ai (by lia);have l:ds[j]?=some ds[j]:=Ai (by lia);have o:es[j]?=some es[j]:=Ai (by lia);have r:us[j]?=some us[j]:=Ai (by lia);have t:vs[j]?=some vs[j]:=Ai (by lia);rw[A2,A2,l,o];exact p (EZ px U l) (EZ py g o) (EZ I U r)<|EZ J g t
def GU(ne:Bool)(A:Around)(s:WD)(u v:WC)(k:Bool):Prop:=match ne with
 |true=>SeqAt.RcNeAt A s u v<|!k
 |false=>SeqAt.RcAt A s u v k
def qL(ne:Bool){a b:Addr}{ys:WI}{ds es:List Da}(I:qx X pins σ H s)(J:A.units<cLine)(l:fB X.K H a xs)(o:fB X.K H b ys)(px:Paired (aa X.K H n) xs ds)(py:Paired (aa X.K H m) ys es)
 (p:∀{x y:V} {d e:Da} {u v:WC},aa X.K H n x d->aa X.K H m y e->zo x u->zo y v->SeqAt.EqAt A.in1 s u v (Da.eq d e)):GU ne A s (.ref a) (.ref b) (Da.eqs ds es):=by
 obtain⟨r,U,g,_⟩:=I.tuple l;obtain⟨t,j,ty,_⟩:=I.tuple o;have i:=vB px py U j p;cases ne
 case' false=>have q:=SeqAt.RcAt.tuples g ty J i
 case' true=>have q:=SeqAt.RcNeAt.tuples g ty J i
 all_goals
  rw[Ax,Ax,<-U.length,<-j.length,px.length,py.length,Da.W'] at q;exact q
def uS(ne:Bool){a b:Addr}{ys:WI}{ds es:List Da}(I:qx X pins σ H s)(g:A.units<cLine)(C:ag X.K H a xs)(T:ag X.K H b ys)(px:Paired (aa X.K H n) xs ds)(py:Paired (aa X.K H m) ys es)
 (ih:∀{x y:V} {d e:Da} {u v:WC},aa X.K H n x d->aa X.K H m y e->zo x u->zo y v->SeqAt.EqAt A.in1 s u v (Da.eq d e)):GU ne A s (.ref a) (.ref b) (Da.eqs ds es):=by
 obtain⟨l,o,J,_⟩:=I.list C;obtain⟨p,r,ty,_⟩:=I.list T;have J:=xt J;have ty:=xt ty;have e:=Da.W' ds es;have j:ds.length=l.toArray.size:=by rw[<-px.length,o.length,Ax]
 have t:es.length=p.toArray.size:=by rw[<-py.length,r.length,Ax]
 by_cases U:l.toArray.size=p.toArray.size
 .have i:=vB px py o r ih;rw[t,<-U,<-j,Nat.min_self,beq_self_eq_true,EL] at e;cases ne
  case' false=>have q:=SeqAt.RcAt.lists J ty U g i
  case' true=>have q:=SeqAt.RcNeAt.lists J ty U g i
  all_goals
   rw[<-j,e] at q;exact q
 .rw[show(ds.length==es.length)=false by rw[j,t];simpa using U,DR] at e;rw[<-e];cases ne
  .exact SeqAt.RcAt.lists_lengths J ty (by simpa using U) g
  .exact SeqAt.RcNeAt.lists_lengths J ty (by simpa using U) g
def xZ(I:qx X pins σ H s):∀(n:Nat) {m:Nat} {A:Around} {x y:V} {d e:Da} {u v:WC},A.units+n<cLine->aa X.K H n x d->aa X.K H m y e->zo x u->zo y v->SeqAt.EqAt A s u v (Da.eq d e):=by
 have J:∀{A:Around} {x:V} {u:WC} {b:Addr} {p:WI},A.units<cLine->ay x=true->zo x u->(fB X.K H b p\/ag X.K H b p)->SeqAt.EqAt A s u (.ref b) false/\SeqAt.EqAt A s (.ref b) u false:=by
  intro A x u b p g f r h;have h':(∃C,s.heap.IsTuple b C)\/∃C,s.heap.IsList b C:=by
   rcases h with h|h
   .obtain⟨C,_,t,_⟩:=I.tuple h;exact .inl {_,t}
   .obtain⟨C,_,t,_⟩:=I.list h;exact .inr {_,xt t}
  cases x with
  |KB=>cases r;rcases h' with⟨_,t⟩|⟨_,t⟩;exact{.none_tuple t g,.tuple_none t g};exact{.none_list t g,.list_none t g}
  |bl k=>cases r;rcases h' with⟨_,t⟩|⟨_,t⟩;exact{.bool_tuple k t g,.tuple_bool k t g};exact{.bool_list k t g,.list_bool k t g}
  |int k=>obtain⟨tk,rfl⟩:=r;rcases h' with⟨_,t⟩|⟨_,t⟩;exact{.int_tuple k tk t g,.tuple_int k tk t g};exact{.int_list k tk t g,.list_int k tk t g}
  |str k=>obtain⟨tk,rfl⟩:=r;rcases h' with⟨_,t⟩|⟨_,t⟩;exact{.str_tuple k tk t g,.tuple_str k tk t g};exact{.str_list k tk t g,.list_str k tk t g}
  |_=>simp[ay] at f
 intro n
 induction n with
 |zero=>
  intro m A x y d e u v g h1 h2 T j;obtain⟨rfl,f⟩:=h1;cases m with
  |zero=>obtain⟨rfl,l⟩:=h2;exact oO T j f l
  |succ m=>
   rcases h2 with⟨rfl,l⟩|⟨b,p,es,rfl,rfl,U,py⟩|⟨b,p,es,rfl,rfl,U,py⟩
   .exact oO T j f l
   .cases j;exact(J (by lia) f T<|.inl U).1
   .cases j;exact(J (by lia) f T<|.inr U).1
 |succ n ih=>
  intro m A x y d e u v g h1 h2 T j;have a2:A.in1.units+n<cLine:=by lia
  rcases h1 with⟨rfl,f⟩|⟨a,xs,ds,rfl,rfl,o,px⟩|⟨a,xs,ds,rfl,rfl,o,px⟩
  .cases m with
   |zero=>obtain⟨rfl,l⟩:=h2;exact oO T j f l
   |succ m=>
    rcases h2 with⟨rfl,l⟩|⟨b,p,es,rfl,rfl,U,py⟩|⟨b,p,es,rfl,rfl,U,py⟩
    .exact oO T j f l
    .cases j;exact(J (by lia) f T<|.inl U).1
    .cases j;exact(J (by lia) f T<|.inr U).1
  .cases T;cases m with
   |zero=>obtain⟨rfl,l⟩:=h2;exact(J (by lia) l j<|.inl o).2
   |succ m=>
    rcases h2 with⟨rfl,l⟩|⟨b,p,es,rfl,rfl,U,py⟩|⟨b,p,es,rfl,rfl,U,py⟩
    .exact(J (by lia) l j<|.inl o).2
    .cases j;by_cases a1:a=b
     .subst a1;cases I.WW o U;have e:=sC I (n+1) (m:=m+1) (x:=.ref a) (.inr<|.inl {(a),xs,ds,rfl,rfl,o,px})<|.inr<|.inl {(a),xs,es,rfl,rfl,U,py};rw[e];exact .same _
     .exact .of_refs a1<|qL false I (by lia) o U px py λh1 h2 r1 r2=>ih a2 h1 h2 r1 r2
    .cases j;obtain⟨us,vx,tx,_⟩:=I.tuple o;obtain⟨vs,vy,ty,_⟩:=I.list U;exact .tuple_list tx (xt ty) (by lia)
  .cases T;cases m with
   |zero=>obtain⟨rfl,l⟩:=h2;exact(J (by lia) l j<|.inr o).2
   |succ m=>
    rcases h2 with⟨rfl,l⟩|⟨b,p,es,rfl,rfl,U,py⟩|⟨b,p,es,rfl,rfl,U,py⟩
    .exact(J (by lia) l j<|.inr o).2
    .cases j;obtain⟨us,vx,tx,_⟩:=I.list o;obtain⟨vs,vy,ty,_⟩:=I.tuple U;exact .list_tuple (xt tx) ty (by lia)
    .cases j;by_cases a1:a=b
     .subst a1;cases I.WL o U;have e:=sC I (n+1) (m:=m+1) (x:=.ref a) (.inr<|.inr {(a),xs,ds,rfl,rfl,o,px})<|.inr<|.inr {(a),xs,es,rfl,rfl,U,py};rw[e];exact .same _
     .exact .of_refs a1<|uS false I (by lia) o U px py λh1 h2 r1 r2=>ih a2 h1 h2 r1 r2
def Po(K:Ag)(k:Nat)(ne:Bool):R2:=λx y H Q=>match x,y with
 |.ref a,.ref b=>∃n m d e,n<=k/\aa K H n (.ref a) d/\aa K H m (.ref b) e/\Q (.bl<|q_ ne<|Da.eq d e) H
 |x,y=>HR x y=true/\Q (.bl<|q_ ne<|decide<|x=y) H
def Pp(ne:Bool){k:Nat}(U:X.A.units+k<cLine):aG X (compareOp<|F7 ne) (Po X.K k ne):=by
 intro J s t H x y v u Q I C T h;cases x with
 |ref a=>
  cases y with
  |ref b=>
   obtain⟨n,m,d,e,hn,h1,h2,q⟩:=h;cases C;cases T;have k8:GU ne X.A s (.ref a) (.ref b) (Da.eq d e)->ZZ X (compareOp (F7 ne) (.ref a)<|.ref b) (EP X J t Q) X.xe s:=λr=>by cases ne<;>exact r X.prog X.w X.xe (EP X J t Q) {.bl _,H,I,rfl,q}
   cases n with
   |zero=>exact(x4 h1.2).elim
   |succ n=>
    cases m with
    |zero=>exact(x4 h2.2).elim
    |succ m=>
     have l:X.A.in1.units+n<cLine:=by lia
     have U:X.A.units<cLine:=by lia
     rcases h1 with⟨_,f⟩|⟨a',xs,ds,e1,rfl,o,px⟩|⟨a',xs,ds,e1,rfl,o,px⟩
     .exact(x4 f).elim
     .cases e1;rcases h2 with⟨_,f⟩|⟨b',ys,es,g,rfl,j,py⟩|⟨b',ys,es,g,rfl,j,py⟩
      .exact(x4 f).elim
      .cases g;exact k8<|qL ne I U o j px py λh1 h2 r1 r2=>xZ I n l h1 h2 r1 r2
      .cases g;obtain⟨us,vx,p,_⟩:=I.tuple o;obtain⟨vs,vy,ty,_⟩:=I.list j;exact k8 (by cases ne;exact SeqAt.RcAt.tuple_list p (xt ty) U;exact SeqAt.RcNeAt.tuple_list p (xt ty) U)
     .cases e1;rcases h2 with⟨_,f⟩|⟨b',ys,es,g,rfl,j,py⟩|⟨b',ys,es,g,rfl,j,py⟩
      .exact(x4 f).elim
      .cases g;obtain⟨us,vx,p,_⟩:=I.list o;obtain⟨vs,vy,ty,_⟩:=I.tuple j;exact k8 (by cases ne;exact SeqAt.RcAt.list_tuple (xt p) ty U;exact SeqAt.RcNeAt.list_tuple (xt p) ty U)
      .cases g;exact k8<|uS ne I U o j px py λh1 h2 r1 r2=>xZ I n l h1 h2 r1 r2
  |_=>exact yi ne J s t H _ _ v u Q I C T h
 |_=>cases y<;>exact yi ne J s t H _ _ v u Q I C T h
def GV{T:WH}(I:Gl X x)(J:X.mg x=none)(U:bootBuiltins x=some (.type T))(g:x ≠ "__name__" := by decide)(hd:Fe x:=by decide):PE X (.Name x pos) (tC<|.ty T):=Mu I J U (v:=.ty T) rfl g hd
structure X7(P:WE)(w:WF)(K:Ag)(mg:Wo)(base:WG)(k:Nat)(x:Str)(ps:Wu)(sp:Sp):Prop where
 ex:∃f fd,au P w K mg base XU k f fd ps sp/\aA K fd ps []/\PySem.W.keepIn K (.ref f)=true/\mg x=some (.ref f)
def Pq{k:Nat}{sp:Sp}{t:TA}(c:X7 X.prog X.w X.K X.mg X.base k x ps sp)(U:ki k X.A)(g:Gl X x)(j:PA X (e::es) t)(I:Fe x:=by decide)
 (l:Fb e es X:=by rfl) (J:Fc pos es X:=by rfl):PE X (.Call (.Name x p) (e::es) [] pos) (H0 sp [] E0 t):=by
 obtain⟨f,fd,F,b,o,m⟩:=c.ex;exact Od F U g m o b .nil GQ j I l J
theorem X7.mono{P:WE}{w:WF}{K:Ag}{k:Nat}{sp:Sp}(c:X7 P w K mg base j x ps sp)(h:j<=k):X7 P w K mg base k x ps sp:=by obtain⟨f,fd,F,b,I,m⟩:=c.ex;exact{f,fd,F.mono h,b,I,m}
variable {ds:List Da}
def oz(env:Env):List (Str×NameKind)->List (Str×Addr)->List (Str×Addr)
 |[],cs=>cs
 |(n,k)::r,cs=>oz env r<|if k==.free then(n,(env.cells.lookup n).getD 0)::cs else cs
def hX(scope:Scope)(env:Env):List (Str×Addr):=oz env scope.names []
theorem uN{env:Env}:∀{names:List<|Str×NameKind} {cs:List<|Str×Addr} {p:Str×Addr},p∈oz env names cs->p∈cs\/((p.1,NameKind.free)∈names/\p.2=(env.cells.lookup p.1).getD 0)
 |[],_,_,h=>.inl h
 |(n,k)::r,cs,p,h=>by
  rcases uN (names:=r) h with q|⟨q,e⟩
  .by_cases I:(k==NameKind.free)=true
   .rw[Ar I] at q;rcases Aw.mp q with rfl|q
    .have:k=.free:=by simpa using I
     exact .inr {by rw[this];exact As,rfl}
    .exact .inl q
   .rw[Ap I] at q;exact .inl q
  .exact .inr {Al _ q,e}
theorem uw{env:Env}{x:Str}:∀{names:List<|Str×NameKind} {cs:List<|Str×Addr},((∃c,(x,c)∈cs)\/(x,NameKind.free)∈names)->∃c,(x,c)∈oz env names cs
 |[],_,.inl h=>h
 |[],_,.inr h=>by simp at h
 |(n,k)::r,cs,h=>by
  refine uw (names:=r) ?_;rcases h with⟨c,h⟩|h
  .left;by_cases I:(k==NameKind.free)=true
   .rw[Ar I];exact{c,Al _ h}
   .rw[Ap I];exact{(c),h}
  .rcases Aw.mp h with e|h
   .left;injection e with J U
    subst J;subst U;exact{_,As}
   .exact .inr h
theorem gf{x:Str}:∀{l:List<|Str×Addr} {c:Addr},(x,c)∈l->∃I,l.lookup x=some I
 |(n,d)::r,c,h=>by
  rw[Bk];cases J:x==n with
  |true=>exact{(d),rfl}
  |false=>
   rcases Aw.mp h with e|h
   .injection e with U _;subst U;simp at J
   .exact gf h
def mL(h:∀n,(n,NameKind.free)∈scope.names->∃c,env.cells.lookup n=some c):closureFor scope env=pure (hX scope env):=by
 have key:∀(names:List<|Str×NameKind) (I:List<|Str×Addr),(∀n,(n,NameKind.free)∈names->∃c,env.cells.lookup n=some c)->
  (forIn names I λx (r:List<|Str×Addr)=>(match x with|(name,kind)=>if kind==NameKind.free then do let a <-cellOf env name;pure (ForInStep.yield<|(name,a)::r) else pure (ForInStep.yield r):Sem<|ForInStep<|List<|Str×Addr))=pure (oz env names I):=by
  intro names
  induction names with
  |nil=>intro I _;rfl
  |cons p r o=>
   intro I J;obtain⟨n,k⟩:=p;rw[Dh];cases U:k==NameKind.free with
   |true=>
    have g:k=.free:=by simpa using U
    subst g;obtain⟨c,t⟩:=J n As;have e:cellOf env n=pure c:=by unfold cellOf;rw[t]
    simp only[beq_self_eq_true,if_true,e];have j:oz env ((n,NameKind.free)::r) I=oz env r ((n,c)::I):=by show oz env r _=_;rw[t];rfl
    rw[j];exact o ((n,c)::I) λm l=>J m<|Al _ l
   |false=>
    simp only[U,Cn,if_false];have j:oz env ((n,k)::r) I=oz env r I:=by show oz env r (if (k==NameKind.free)=true then _ else _)=_;rw[U];rfl
    rw[j];exact o I λm l=>J m<|Al _ l
 exact(Bt (· >>= pure)<|key scope.names [] h)
theorem aO{env:Env}{x:Str}:∀{names:List<|Str×NameKind},
 (names.map λ(n,k)=>if (k==NameKind.free&&env.scope.kind==.function&&env.kindOf n==some .cell) then(n,NameKind.cell) else(n,k)).lookup x
  = (names.lookup x).map λk=>if (k==NameKind.free&&env.scope.kind==.function&&env.kindOf x==some .cell) then NameKind.cell else k
 |[]=>rfl
 |(n,k)::r=>by
  have g:=@aO env x r;show List.lookup x ((if (k==NameKind.free&&env.scope.kind==.function&&env.kindOf n==some .cell)=true then(n,NameKind.cell) else(n,k))::_)=_;cases J:x==n with
  |true=>
   have U:x=n:=by simpa using J
   subst U;by_cases I:(k==NameKind.free&&env.scope.kind==.function&&env.kindOf x==some .cell)=true
   .rw[Ar I];simp only[Bk,beq_self_eq_true,DI];rw[Ar I]
   .rw[Ap I];simp only[Bk,beq_self_eq_true,DI];rw[Ap I]
  |false=>
   by_cases I:(k==NameKind.free&&env.scope.kind==.function&&env.kindOf n==some .cell)=true
   .rw[Ar I];simp only[Bk,J];exact g
   .rw[Ap I];simp only[Bk,J];exact g
def Cx.comp(X:Cx)(scope:Scope)(T:Wu)(C:Addr)(fp:List Addr)(s₀:WD)(H₀:Hp):Cx:=
 {X with N:=X.N++T,s₀:=s₀,H₀:=H₀,env:=compEnvC scope (hX scope X.env) C X.env,outer:=X.stack,ex:=fp,fn:=λ_=>false,xe:=λ_ _=>False}
structure j9(X:Cx)(scope:Scope):Prop where
 kind:scope.kind=.function
 Yo:∀y∈scope.names,y.2≠.cell
 names:∀y∈scope.names,y.2=.local->scope.names.lookup y.1=some .local
 free:∀n,scope.names.lookup n=some .free->X.env.kindOf n=some .cell\/X.env.kindOf n=some .free
 YR:∀n,(n,NameKind.free)∈scope.names->X.env.kindOf n=some .cell\/X.env.kindOf n=some .free
 apart:∀x∈X.N,scope.names.lookup x≠some .local
def j9.ZF(S:j9 X scope)(I:qx X pins σ H s):closureFor scope X.env=pure (hX scope X.env):=
 mL λn h=>I.ok.has n<|S.YR n h
def j9.W4(S:j9 X scope)(I:qx X pins σ H s){c:Addr}(h:(hX scope X.env).lookup x=some c):X.env.cells.lookup x=some c:=by
 rcases uN (BG h) with q|⟨q,e⟩
 .simp at q
 .obtain⟨d,hd⟩:=I.ok.has x<|S.YR x q;have J:c=(X.env.cells.lookup x).getD 0:=e;rw[hd] at J ⊢;rw[J];rfl
def j9.Yn(_:j9 X scope)(h:scope.names.lookup x=some .free):∃c,(hX scope X.env).lookup x=some c:=by obtain⟨c,I⟩:=uw (env:=X.env) (names:=scope.names) (cs:=[]) (x:=x)<|.inr<|BG h;exact gf I
theorem j9.kindOf(S:j9 X scope)(h:(compEnvC scope (hX scope X.env) C X.env).kindOf x=some .cell\/(compEnvC scope (hX scope X.env) C X.env).kindOf x=some .free):scope.names.lookup x=some .free:=by
 have e:(compEnvC scope (hX scope X.env) C X.env).kindOf x=(scope.names.lookup x).map λk=>if (k==NameKind.free&&X.env.scope.kind==.function&&X.env.kindOf x==some .cell) then NameKind.cell else k:=aO
 rw[e] at h;cases I:scope.names.lookup x with
 |none=>rw[I] at h;rcases h with h|h<;>cases h
 |some k=>
  rw[I] at h;cases k with|free=>rfl|cell=>exact absurd rfl (S.Yo _<|BG I)|_=>rcases h with h|h<;>cases h
def j9.ZS(S:j9 X scope)(U:x∈X.N)(h:x_ (compEnvC scope (hX scope X.env) C X.env).scope x):scope.names.lookup x=some .free:=by
 rcases h with h|h|h
 .exfalso;have e:(compEnvC scope (hX scope X.env) C X.env).kindOf x=(scope.names.lookup x).map λk=>if (k==NameKind.free&&X.env.scope.kind==.function&&X.env.kindOf x==some .cell) then NameKind.cell else k:=aO
  have I:(compEnvC scope (hX scope X.env) C X.env).kindOf x=some .local:=h;rw[e] at I;cases J:scope.names.lookup x with
  |none=>rw[J] at I;cases I
  |some k=>
   rw[J] at I;have I:(if (k==NameKind.free&&X.env.scope.kind==.function&&X.env.kindOf x==some .cell)=true then NameKind.cell else k)=.local:=AJ I;split at I
   .cases I
   .subst I;exact S.apart x U J
 .exact S.kindOf (C:=C)<|.inl h
 .exact S.kindOf (C:=C)<|.inr h
def j9.back(S:j9 X scope)(h:scope.names.lookup x=some .free):(compEnvC scope (hX scope X.env) C X.env).kindOf x=some .cell\/(compEnvC scope (hX scope X.env) C X.env).kindOf x=some .free:=by
 have e:(compEnvC scope (hX scope X.env) C X.env).kindOf x=(scope.names.lookup x).map λk=>if (k==NameKind.free&&X.env.scope.kind==.function&&X.env.kindOf x==some .cell) then NameKind.cell else k:=aO
 rw[e,h];show some (if _ then _ else _)=_\/some (if _ then _ else _)=_;split
 .exact .inl rfl
 .exact .inr rfl
def PF(X:Cx)(ny:Wv)(t:TT):Prop:=
 ∀(pins:List<|Addr×Obj) (s:WD) (σ:St) (H:Hp) (Q:Bool->Hp->Prop),qx X pins σ H s->t σ H Q->
  ZZ X (forIn ny true λc r=>if r=true then do let ok <-isTrue c X.env (eval c X.env);pure (ForInStep.yield ok) else pure (ForInStep.yield r)) (TP X pins σ Q) X.xe s
def Pr:TT:=λ_ H Q=>Q true H
def Ps :PF X [] Pr:=λ_ _ _ H _ I h=>Ak {(H),I,h}
def xI{t:TT}(hc:PT X c t):PF X [c] t:=by intro J s U H Q I h;rw[Dh];simp only[if_true];refine Aa<|Aa<|aD (hc J s U H Q I h) λb g q=>Ak ?_;exact Ak q
def gZ{w:WF}{R:Result->WD->Prop}{iter:Expr}{it C:WC}(I:Nat->WD->Prop)
 (turn:∀n s,I n s->wpAny (model prog w) A (pyNext it) (λr J=>match r with
  |none=>R (.ok .next) J
  |some v=>wpAny (model prog w) A (letOwnedTupleGo target it v) (λ_ J=>wpAny (model prog w) A (assign target env v) (λ_ l=>
   wpAny (model prog w) A (forIn ny true λc r=>if r=true then do let ok <-isTrue c env (eval c env);pure (ForInStep.yield ok) else pure (ForInStep.yield r)) (λok g=>
    if ok=true then wpAny (model prog w) A (eval nC env) (λx o=>
     wpAny (model prog w) A (call (.builtin "list.append") [C,x]) (λ_ p=>∃m,m<n/\I m p) (λ_ _=>False) o) (λ_ _=>False) g
    else ∃m,m<n/\I m g) (λ_ _=>False) l) (λ_ _=>False) J) (λ_ _=>False) J) (λ_ _=>False) s)
 (n:Nat) (h:I n s):
 codeAny (model prog w) A (.compLoop (.ListComp nC [{target,iter,ny,0}] scope pos) 0 it C env) R s:=by
 refine codeAny_loop rfl I (λn s hI=>?_) n h;show wpAny _ A ((compTurn (.ListComp nC [{target,iter,ny,0}] scope pos) 0 it C env).onRaise (λx=>do noteFrame x env;theTreesLotGoes x)) _ _ s;refine wpAny_noted ?_;rw[compTurn_list];refine Aa<|wpAny_standAt<|Aa<|AX (turn n s hI) (λr J U=>?_) λ_ _ j=>j.elim;cases r with
 |none=>exact Ak U
 |some v=>
  refine Aa<|AX U (λ_ J U=>?_) λ_ _ j=>j.elim;refine Aa<|AX U (λ_ l T=>Aa<|AX T (λok g t=>?_) λ_ _ j=>j.elim) λ_ _ j=>j.elim;cases ok with
  |false=>exact Ak {(rfl),t}
  |true=>
   exact Aa<|Aa<|AX t (λx o a1=>Aa<|AX a1 (λ_ p a2=>Ak<|Ak {(rfl),a2}) λ_ _ j=>j.elim) λ_ _ j=>j.elim
def GW(n:Nat)(wi:TI)(g:TG)(tc:TT)(te:TE):TE:=λσ H Q=>wi σ H λJ H1=>∃W:Nat->Nat->WI->Hp->Prop,(∃m,W 0 m [] H1)/\∀i m ys H,W i m ys H->
 (J.stop i H/\ys.length<=sizeLine/\∀D,H D=none->Q (.ref D) (upd H D<|.lst ys))\/
 (J.go i H/\ys.length<sizeLine/\∀x H',J.X0 i H x H'->g x (σ++List.replicate n none) H' λI H2=>tc I H2 λb U=>
  if b=true then te I U λy j=>∃m',m'<m/\W (i+1) m' (ys++[y]) j else ∃m',m'<m/\W (i+1) m' ys U)
def rG(g:TG)(n k:Nat):Prop:=∀(σ:St),σ.length=n->∀x H Q,g x (σ++List.replicate k none) H Q->
 g x (σ++List.replicate k none) H λI H2=>((I.length=n+k/\∀(i:Nat) v,(σ++List.replicate k none)[i]?=some (some v)->I[i]?=some (some v))/\Q I H2)
section
variable {T:Wu}{iter:Expr}{g:TG}{tc:TT}{te:TE}
def ltN{b:Addr}{o:Obj}(e:h.get? b=some o):@LT.lt Nat instLTNat b h.objs.size:=u3 e
def wG{a b:Addr}(h:@Ne Nat a b):a≠b:=h
def r4{a b:Addr}(h:@LE.le Nat instLENat a b):a<=b:=h
def Pu(eA:Wr)(n:Nat)(u:WC):∃I,Obj.mapSeq (·.push u) {cls:=.type "list",data:=.seq eA.toArray n}=({cls:=.type "list",data:=.seq (eA++[u]).toArray I}:Obj):=
 ⟨_,by simp[Obj.mapSeq];rfl⟩
def yK{w:WF}{D:Addr}(I:s.heap.get? D=some {cls:=.type "list",data:=.seq eA.toArray n})
 (hz:eA.length<=sizeLine) (h:∀h' J,Heap.SameBut D s.heap h'->h'.get? D=some {cls:=.type "list",data:=.seq (eA++[u]).toArray J}->Q .none {s with heap:=h'}):
 wpAny (model prog w) A (call (.builtin "list.append") [.ref D,u]) Q E s:=by
 have g:s.heap.IsList D eA.toArray:={_,I,rfl,n,rfl};refine wpAny_call_entry slot_list_append g.typeIs entry_list_append ?_<|args_list_append _ _;show wpAny _ _ (updateSeq D (·.push u) >>= λ_=>ret .none) _ _ s;refine Aa ?_;obtain⟨J,U⟩:=Pu eA n u;refine wpAny_updateSeq (f:=(·.push u)) I rfl (Ak {.none,rfl,h _ J (ya ..) ?_}) (by rw[Ax];exact hz) (by rw[Bw,Ax];exact Nat.succ_le_succ hz);rw[<-U];exact Fa _ I (by rw[U];rfl)
theorem iD{Q:VK}{c5:WC}{I:WD}{RR:WC->Addr->Result->WD->Prop}
 (S:j9 X scope) (hc:X.calm=true)
 (hg:∀C fp s₀ H₀,PG (X.comp scope T C fp s₀ H₀) target g) (d0:rG g X.N.length T.length) (hf:∀C fp s₀ H₀,PF (X.comp scope T C fp s₀ H₀) ny tc) (he:∀C fp s₀ H₀,PE (X.comp scope T C fp s₀ H₀) nC te)
 (h:GD X pins σ target (λJ H1=>∃W:Nat->Nat->WI->Hp->Prop,(∃m,W 0 m [] H1)/\∀i m ys H,W i m ys H->
  (J.stop i H/\ys.length<=sizeLine/\∀D,H D=none->Q (.ref D) (upd H D<|.lst ys))\/
  (J.go i H/\ys.length<sizeLine/\∀x H',J.X0 i H x H'->g x (σ++List.replicate T.length none) H' λc6 H2=>tc c6 H2 λb H3=>
   if b=true then te c6 H3 λy H4=>∃m',m'<m/\W (i+1) m' (ys++[y]) H4 else ∃m',m'<m/\W (i+1) m' ys H3)) c5 I)
 (da:∀D C s' H' m',qx X pins σ H' s'->pK X pins H' C->s'.heap.Ns C m'->Q (.ref D) H'->RR (.ref D) C (.ok .next) s'):
 ZZ X (newList []) (λc7 aL=>ZZ X (newFunctionEnv scope X.env.globals (hX scope X.env) [] X.env.qual none .none<|some X.env) (λbh c8=>
  codeAny (model X.prog X.w) X.A (.compStart (.ListComp nC [{target,iter,ny,0}] scope pos) 0 c5 c7 {bh with scope:=relabel scope X.env}) (RR c7 bh.locals) c8) E aL) E I:=by
 obtain⟨it,fp,tn,J,H2,rfl,U,Tn,bj,f2,W,⟨m0,w0⟩,turn⟩:=h;refine Br (wpAny_newFunctionEnv S.Yo (by intro y hy;simp at hy) (λbc al t=>?_) S.kind);dsimp only at al t ⊢;generalize bn:I.heap.push {cls:=.type "list",dict:=none,data:=.seq ([]:Wr).toArray}=G at al t ⊢;have hC:G.objs.size=↥I+1:=by rw[<-bn,At]
 obtain⟨D,eD⟩:∃D,↥I=D:={_,rfl};obtain⟨C,eC⟩:∃C,G.objs.size=C:={_,rfl};rw[eD] at hC ⊢;rw[eC] at hC al t ⊢;have bp:D≠C:=by lia
 have old:∀b o,I.heap.get? b=some o->bc.get? b=some o:=λb o e=>by have j:=ltN e;exact t.extBut b o (wG (by lia))<|sy _<|bn▸sy _ e
 have c9:bc.get? D=some {cls:=.type "list",data:=.seq ([]:Wr).toArray 0}:=by refine t.extBut _ _ bp<|sy _ ?_;rw[<-bn,<-eD];exact vb _ rfl
 have bq:∀b∈fp,@LT.lt Nat instLTNat b ↥I:=λb j=>by obtain⟨o,e,_⟩:=Tn.obj _ _ bj b j;exact ltN e
 have ca:=U.lt;have ed:=U.sz;have HD:=U.GT.fresh<|r4<|uY;have HC:H2 C=none:=U.GT.fresh<|r4 (by lia);have dc:∀b:Addr,@LE.le Nat instLENat ↥I b->b∉cW X.stack:=λb j z=>by
  have q:=U.W2 b z;rcases Aw.mp q with q|q
  .rw[<-q] at ca;exact absurd ca<|ER.mpr j
  .exact U.YX j q
 have bd:∀x c,X.env.cells.lookup x=some c->@LT.lt Nat instLTNat c ↥I:=λx c e=>by obtain⟨v,q⟩:=U.cell x c e;exact q.lt
 let X':Cx:=X.comp scope T C fp I H2
 have c0:X'.Ok:={
  mod:=U.ok.mod,kind:=S.kind,glob:=U.ok.glob,blt:=U.ok.blt
  above:=r4 (by show @LE.le Nat instLENat ↥I C;lia)
  inj:=λx y c h1 h2=>U.ok.inj x y c (S.W4 U h1) (S.W4 U h2)
  has:=λx hx=>S.Yn (S.kindOf hx)
  YA:=λx c hx=>absurd (show false=true from hx) (by simp)
  hd:=U.ok.hd,frames:=U.ok.frames,YG:=.inl rfl
  YQ:=λb j=>{wG (by have:=bq b j;show @Ne Nat b C;lia),λx c e=>(f2 b j).2.2.2.2.1 x c<|S.W4 U e}
  bs:=U.bs,XY:=AK U.ok.XY U.sz
  Xi:=λb o e j=>by
   obtain⟨e0,n0⟩:=U.ok.bs b o e;rcases (f2 b j).2.2.2.1 with q|q
   .exact U.ok.Xi b o e q
   .have q':=q;have:=ltN e0;lia
  Xj:=λb j z=>by
   rcases Aw.mp (U.W2 b z) with q|q
   .exact(f2 b j).2.1 q
   .exact(f2 b j).2.2.1 q
  WK:=U.stack,X9:=U.Xs}
 have I4:∀tk,0<tk->qx X' pins (σ++List.replicate T.length none) H2 {I with heap:=bc,toks:=tk}:=λtk de=>{
  tk:=de,ok:=c0,os:=rfl,bare:=U.bare,base:=Un.kept old
  loc:={_,al,λi x v e1 e2 e3=>by
   have hi:i<σ.length:=by
    by_cases hi:i<σ.length
    .exact hi
    .rw[AH<|FE,CF] at e2;split at e2<;>cases e2
   rw[Av hi] at e2;have dg:i<X.N.length:=by rw[<-U.len];exact hi
   have cb:X.N[i]?=some x:=by have:(X.N++T)[i]?=some x:=e1;rw[Av dg] at this;exact this
   have c1:=S.ZS (Au cb) e3;obtain⟨m,hn,hl⟩:=U.loc;have hk:=S.free x c1;obtain⟨u,r,l⟩:=hl i x v cb e2<|.inr hk;refine{u,r,.inr {S.back c1,?_}};rcases l with⟨l,_⟩|⟨_,c,e,z⟩
   .rw[l] at hk;rcases hk with q|q<;>cases q
   .obtain⟨c',e'⟩:=S.Yn c1;have cc:=S.W4 U e';rw[e] at cc;cases cc;exact{c,e',z.keeps old}}
  cell:=λx c e=>by obtain⟨v,z⟩:=U.cell x c<|S.W4 U e;exact{v,z.keeps old}
  free:=HC,On:=λx c e=>U.On x c (S.W4 U e)
  pin:=λp hp=>by
   obtain⟨a,b,c,d,e⟩:=U.pin p hp;have di:=ltN a;refine{old _ _ a,b,wG (by show @Ne Nat p.1 C;lia),λz=>?_,e};rcases Aw.mp (U.W2 _ z) with q|q
   .exact c q
   .exact d q
  GT:=U.GT.kept old
  len:=by show(σ++_).length=(X.N++T).length;rw[Ab,Ab,BS,U.len]}
 have c2:∀(ba:List<|Addr×Obj) (H':Hp),(∀p∈ba,p∈pins\/p.1=D)->(∀b∈fp,H' b=none)->∀b∈fp,pK X' ba H' b:=λba H' hp hn b j=>by
  obtain⟨_,q1,q2,q3,q4,q5⟩:=f2 b j;have di:=bq b j;refine{hn b j,wG (by show @Ne Nat b C;lia),c0.Xj b j,.inl j,(c0.YQ b j).2,λp dj=>?_};rcases Aj.mp dj with z|z
  .exact q5 p<|Am _ z
  .rcases hp p z with z|z
   .exact q5 p<|Ah _ z
   .rw[z];exact wG (by lia)
 have SZ:Tn.keep=Tn.keep:=rfl;have bi:∀aL:WD,aL={I with heap:=bc,toks:=I.toks+([]:List<|Str×WC).length}->
  codeAny (model X.prog X.w) X.A (.compLoop (.ListComp nC [{target,iter,ny,0}] scope pos) 0 (.ref it) (.ref D) X'.env) (RR (.ref D) C) aL:=by
  rintro aL rfl;refine gZ (λn s'=>∃i c3 H' ys av k,qx X' pins c3 H' s'/\(c3.length=X.N.length+T.length/\∀(i:Nat) v,(σ++List.replicate T.length none)[i]?=some (some v)->c3[i]?=some (some v))/\
   s'.heap.get? D=some {cls:=.type "list",data:=.seq (av:Wr).toArray k}/\zk ys av/\H' D=none/\tn i s'.heap/\(∀b∈fp,H' b=none)/\W i n ys H') ?_ m0
   ⟨0,_,H2,[],[],0,I4 _ U.tk,⟨by rw[Ab,BS,U.len],λ_ _ e=>e⟩,c9,.nil,HD,Tn.keep _ _ _ bj λb _ o e=>old b o e,λb j=>(f2 b j).1,w0⟩
  rintro n s3 ⟨i,ee,H3,ys,av,k,I3,⟨dp,dt⟩,dv,bf,bg,ck,cm,w3⟩;have ec:=bf.length.symm;have cn:=dc D<|uY;have cv:=bp;have cw:qx X' (pins++[(D,{cls:=.type "list",data:=.seq av.toArray k})]) (σ++List.replicate T.length none) H3 s3:=
   (I3.weak (by rw[dp,Ab,BS,U.len]) dt).Xu λp hp=>by
    rcases Aj.mp hp with z|z
    .exact I3.pin p<|Ah _ z
    .have e:=Ad.mp z;subst e;exact{dv,bg,cv,cn,λv z=>by cases z}
  have bb:∀p∈pins++[(D,({cls:=.type "list",data:=.seq av.toArray k}:Obj))],p∈pins\/p.1=D:=λp hp=>by
   rcases Aj.mp hp with z|z
   .exact .inl z
   .exact .inr (by rw[Ad.mp z])
  rcases turn i n ys H3 w3 with⟨stop,hz,qn⟩|⟨go,hz,step⟩
  .refine aD (Tn.done X' rfl rfl rfl hc i _ s3 _ H3 _ cw (c2 _ H3 bb cm) ck stop) λr s4 ⟨hr,ac⟩=>?_;subst hr;obtain⟨dV,ef,_⟩:=ac.pin (D,_)<|Ah _<|Ah _ As;obtain⟨m',e4,_⟩:=ac.loc;have un:Un (cW X.stack) fp H2 (upd H3 D<|.lst ys) I.heap s4.heap:={
    keep:=ac.base.keep,slot:=ac.base.slot
    free:=λb o e n hx=>by have:=ltN e;rw[qo<|wG (by lia)];exact ac.base.free b o e n hx
    there:=ac.base.there
    WY:=λb xs e=>by rw[qo (λz=>by rw[z,HD] at e;cases e)];exact ac.base.WY b xs e
    W3:=λb o u e=>by rw[qo (λz=>by rw[z,HD] at e;cases e)];exact ac.base.W3 b o u e
    W9:=λb ps e=>by rw[qo (λz=>by rw[z,HD] at e;cases e)];exact ac.base.W9 b ps e}
   have e5:fD X.prog X.w (upd H3 D<|.lst ys) s4.heap:=λb u e=>by
    by_cases j:b=D
    .subst j;rw[zf] at e;cases e;exact{(hz),av,k,bf,dV}
    .rw[qo j] at e;refine(ac.GT b u e).SZ (λ_ _ _ q=>q) (λc q=>?_) λc xs q=>?_
     .rw[qo<|ja q bg];exact q
     .rw[qo<|ja q bg];exact q
   have I5:=U.XI (ch:=fp) ac.os un e5 ac.bare λb j=>{(f2 b j).2.2.2.1,(f2 b j).2.1,(f2 b j).2.2.2.2.1,(f2 b j).2.2.2.2.2};refine da D C s4 _ m' I5 ?_ e4<|qn D bg;refine{by rw[qo<|AE bp];exact ac.free,?_,?_,.inr ?_,λx c e=>?_,λp hp=>?_}
   .exact wG (by lia)
   .exact U.YX<|r4 (by lia)
   .exact r4 (by lia)
   .exact wG (by have:=bd x c e;lia)
   .exact wG (by have:=ltN (U.pin p hp).1;lia)
  .refine aD (Tn.item X' rfl rfl rfl hc i _ s3 _ H3 _ cw (c2 _ H3 bb cm) ck go) λr s4 ⟨u,hr,h4⟩=>?_;subst hr;refine aD h4 λ_ s5 ⟨x,H5,I5,r5,y5,c4,e6⟩=>?_;have e7:=I5.pinned (c2 _ H5 bb e6)<|Tn.obj _ _ c4;refine AX ((hg C fp I H2) _ s5 _ H5 x u _ e7 r5<|d0 σ U.len x H5 _<|step x H5 y5) (λ_ s6 ⟨be,H6,I6,⟨cy,cI⟩,q6⟩=>?_) λ_ _ z=>z;refine AX ((hf C fp I H2) _ s6 be H6 _ I6 q6) (λb s7 ⟨H7,I7,q7⟩=>?_) λ_ _ z=>z;have k8:∀{s8:WD} {H8:Hp} (I8:qx X' ((pins++[(D,{cls:=.type "list",data:=.seq av.toArray k})])++nO fp s5.heap) be H8 s8),tn (i+1) s8.heap/\(∀b∈fp,H8 b=none)/\s8.heap.get? D=some {cls:=.type "list",data:=.seq av.toArray k}/\H8 D=none/\qx X' pins be H8 s8:=λ{s8 H8} I8=>by
    refine{Tn.keep _ _ _ c4 λb j o e=>(I8.pin (b,o)<|Ah _<|Ah _<|df j e).1,λb j=>?_,?_,?_,I8.WT.WT}
    .obtain⟨o,e,d⟩:=Tn.obj _ _ c4 b j;exact(I8.pin (b,o)<|Ah _<|Ah _<|df j e).2.1
    .exact(I8.pin (D,_)<|Ah _<|Am _<|Ah _ As).1
    .exact(I8.pin (D,_)<|Ah _<|Am _<|Ah _ As).2.1
   cases b with
   |false=>
    rw[Ap AI] at q7 ⊢;obtain⟨m',hm,w7⟩:=q7;obtain⟨a1,a2,a3,a4,a5⟩:=k8 I7;exact{m',hm,i+1,be,H7,ys,av,k,a5,{(cy),cI},a3,bf,a4,a1,a2,w7}
   |true=>
    rw[Ar rfl] at q7 ⊢;refine AX ((he C fp I H2) _ s7 be H7 _ I7 q7) (λv s8 ⟨y,H8,I8,r8,m',hm,w8⟩=>?_) λ_ _ z=>z;obtain⟨a1,a2,a3,a4,a5⟩:=k8 I8;refine yK a3 (by lia) λh9 k9 cP e8=>?_;have nD:∀b∈fp,b≠D:=λb j=>wG (by have:=bq b j;lia);refine{m',hm,i+1,be,H8,ys++[y],av++[v],k9,?_,{(cy),cI},e8,bf.append<|.cons r8 .nil,a4,Tn.keep _ _ _ a1 λb j o e=>(cP.2 b<|nD b j).trans e,a2,w8};exact a5.turned (t':=s8.toks) (it:=D) (λb o j e=>(cP.2 b j).trans e) a4 cv (.inr<|r4 (by exact uY)) (λx c e=>wG (by have:=bd x c<|S.W4 U e;lia)) λp hp=>wG (by have:=ltN (U.pin p hp).1;lia)
 exact codeAny_compStart_list (bi _ rfl)<|Tn.self _ _ _ _ _ (Tn.keep _ _ _ bj λb _ o e=>old b o e)<|bi _ rfl
end
section
variable {T:Wu}{iter:Expr}{g:TG}{tc:TT}{te:TE}
def Pw(T:Wu)(S:j9 X scope)(hc:X.calm=true)(hi:PI X target iter wi)(t:∀C fp s₀ H₀,PG (X.comp scope T C fp s₀ H₀) target g)(j:rG g X.N.length T.length)
 (hf:∀C fp s₀ H₀,PF (X.comp scope T C fp s₀ H₀) ny tc) (he:∀C fp s₀ H₀,PE (X.comp scope T C fp s₀ H₀) nC te)
 (hs:∀x,foldedSetIterable iter X.env x=pure x:=by intro _;rfl):PE X (.ListComp nC [{target,iter,ny,0}] scope pos) (GW T.length wi g tc te):=by
 intro J s r H Q I h;rw[eval_ListComp];refine wpAny_comprehension_free (use:=none) rfl hs (S.ZF I) S.kind S.names<|aD (hi J s r H _ I h) λv s1 h1=>aD h1 λa1 s2 h2=>?_;refine iD (RR:=λl C=>compPost (model X.prog X.w) X.A X.xe none (EP X J r Q) l C) S hc t j hf he h2 ?_;intro D C s' H' m' I' U hn q;exact{m',hn,λh' p=>{.ref D,H',I'.turned (t':=s'.toks) (it:=C) (λb o hb e=>(p.2 b hb).trans e) U.1 (AE<|AE U.2.1) U.2.2.2.1 U.2.2.2.2.1 U.2.2.2.2.2,rfl,q}}
theorem Px(T:Wu){px lp:Pos}(hN:X.N.Nodup)(j:X.N[i]?=some x)(hx:yu X.env.scope x)(S:j9 X scope)(hc:X.calm=true)(hi:PI X target iter wi)
 (hg:∀C fp s₀ H₀,PG (X.comp scope T C fp s₀ H₀) target g) (l:rG g X.N.length T.length)
 (hf:∀C fp s₀ H₀,PF (X.comp scope T C fp s₀ H₀) ny tc) (he:∀C fp s₀ H₀,PE (X.comp scope T C fp s₀ H₀) nC te)
 (p:swapsWith (.ListComp nC [{target,iter,ny,0}] scope lp) (some<|.Name x px) pos.line X.env=pure true:=by rfl)
 (r:X.fn x=true\/X.env.scope.names.lookup x=some .local:=by first|exact .inl rfl|exact .inr rfl|assumption)
 (hs:∀x,foldedSetIterable iter X.env x=pure x:=by intro _;rfl):PS X (.Assign [.Name x px] (.ListComp nC [{target,iter,ny,0}] scope lp) pos) (GC (GW T.length wi g tc te)<|dF i):=by
 intro pins s σ H D I h;rw[exec_Assign_Name_used _ _ _ _ p];refine Aa<|wpAny_standAt<|Aa ?_;refine Aa (AX (wpAny_comprehension_free (use:=some<|assign (.Name x px) X.env) (Q:=λ_ U=>SP X pins D .next U) rfl hs (S.ZF I) S.kind S.names
  (aD (hi pins s σ H _ I h) λv s1 h1=>aD h1 λa5 s2 h2=>?_)) (λ_ U hq=>Ak<|Ak hq) λ_ _ e=>e)
 refine iD (RR:=λt C=>compPost (model X.prog X.w) X.A X.xe (some<|assign (.Name x px) X.env) (λ_ U=>SP X pins D .next U) t C) (pins:=pins) (σ:=σ) (Q:=λx H1=>dF i x σ H1 D.nx) S hc hg l hf he h2 ?_;intro A C U H' m' I' J hn q;refine wpAny_assign_Name<|qJ I' hN j hx (v:=.ref A) rfl (λa1 a2 ⟨a,hs,ha⟩ _=>?_) r;have a3:C≠a:=by
  rcases ha with z|z
  .rw[z];exact J.2.1
  .exactλe=>J.2.2.2.2.1 x a z e.symm
 exact{m',hn.sameBut hs a3,λh' a4=>{_,H',a2.turned (t':=a1.toks) (it:=C) (λb o hb e=>(a4.2 b hb).trans e) J.1 J.2.1 J.2.2.2.1 J.2.2.2.2.1 J.2.2.2.2.2,q}}
end
def xg(outer:Scope)(N:Wu)(I:Scope):Bool:=
 decide (I.kind=.function)&&I.names.all (λp=>decide (p.2≠.cell)&&(decide (p.2≠.local)||decide (I.names.lookup p.1=some .local))&&(decide (p.2≠.free)||(decide (outer.names.lookup p.1=some .cell)||decide (outer.names.lookup p.1=some .free))))
  && N.all (λx=>decide<|I.names.lookup x≠some .local)
def xg.mk{I:Scope}(h:xg X.env.scope X.N I=true):j9 X I:=by
 unfold xg at h;rw[A7,A7,Ck,Ck] at h;obtain⟨⟨h1,h2⟩,h3⟩:=h;have g:∀n,(n,NameKind.free)∈I.names->X.env.kindOf n=some .cell\/X.env.kindOf n=some .free:=λn J=>by
  have q:=h2 _ J;simp only[A7,Di,decide_eq_true_eq] at q;rcases q.2 with z|z
  .exact absurd rfl z
  .exact z
 refine{of_decide_eq_true h1,λy U=>?_,λy U e=>?_,λn J=>g n<|BG J,g,λx j=>of_decide_eq_true<|h3 x j}
 .have q:=h2 _ U;simp only[A7,Di,decide_eq_true_eq] at q;exact q.1.1
 .have q:=h2 _ U;simp only[A7,Di,decide_eq_true_eq] at q;rcases q.1.2 with z|z
  .exact absurd e z
  .exact z
abbrev EW:=@xg.mk
def pH(n:Nat):rG (dF n) n 1:=by
 intro U I x H Q h;refine{{by simp[I],λi v e=>?_},h};by_cases J:i=n
 .subst J;rw[AH<|uY] at e;simp[I] at e
 .rw[Bp<|AE J];exact e
def gi:bootBuiltins "isinstance"=some (.builtin "isinstance"):=by decide +kernel
def fS:bootBuiltins "tuple"=some (.type "tuple"):=by decide +kernel
def Iv:bootBuiltins "str"=some (.type "str"):=by decide +kernel
def rh:bootBuiltins "int"=some (.type "int"):=by decide +kernel
def az:bootBuiltins "list"=some (.type "list"):=by decide +kernel
def Py:bootBuiltins "len"=some (.builtin "len"):=by decide +kernel
def GX{k:Nat}(I:ki k A):A.units+128<cLine:=by have:=I.un;lia
def gD(h:n<=1000):n<=sizeLine:=Bo<|qT h
def X7.of{P:WE}{w:WF}{K:Ag}{k:Nat}{sp:Sp}(F:au P w K mg base XU k f fd ps sp)(b:aA K fd ps [])(I:PySem.W.keepIn K (.ref f)=true)(m:mg x=some (.ref f)):
 X7 P w K mg base k x ps sp:={(f),fd,F,b,I,m}
def au.never{P:WE}{w:WF}{K:Ag}{k:Nat}{sp:Sp}(no:∀vs H Q E,¬sp vs H Q E):au P w K mg base XU k f fd ps sp:=
 ⟨λvs H Q E h=>absurd h<|no vs H Q E,λA I s H args J vs Q E _ _ _ _ h=>absurd h<|no vs H Q E⟩
section
variable (K:Ag)(P:WE)(w:WF)
end
structure jj(K:Ag)(x:Str)(st:Stmt):Prop where
 ex:∃(f:Addr) (kV fy pm:WC) (an:Option Addr) (eW ct:WC),PySem.W.nsIn K mainGlobals x=some (some<|.ref f)/\Yk K x x st f (PySem.W.fnOf x x (vj st) (jr st) (qw st) .none kV fy pm an eW ct)
def YW{K:Ag}{kV ct:WC}(a:PySem.W.nsIn K mainGlobals x=some (some<|.ref f))
 (l:K.lookup f=some ⟨oc,od,.func<|PySem.W.fnOf x x (vj st) (jr st) (qw st) .none kV fy pm an eW ct,oi⟩) (c:PySem.W.codeIn K eW x=true) (k:PySem.W.keepIn K (.ref f)=true):jj K x st:=
 ⟨f,kV,fy,pm,an,eW,ct,a,Ij (st:=st) l c k⟩
def jj.use{K:Ag}(D:jj K x st)(X:K.In h)(G:h.Ns mainGlobals mg)
 (I:∀(kV fy pm:WC) (an:Option Addr) (eW ct:WC) (us:Wr),us.length=ps.length->bindArgs (PySem.W.fnOf x x (vj st) (jr st) (qw st) .none kV fy pm an eW ct) ⟨us,[]⟩=pure (ps.zip us)):
 ∃f fd,Yk K x x st f fd/\aA K fd ps []/\mg x=some (.ref f):=by
 obtain⟨f,kV,fy,pm,an,eW,ct,a,F⟩:=D.ex;exact{f,_,F,aA.all<|I kV fy pm an eW ct,Dg X G a}
inductive Wd where
 |leaf (t:Bool) (n:Str)
 |node (e:Bool) (l r:Wd)
def kL:Bool->Str
 |false => "plain"
 |true => "turned"
def kN:Bool->Str
 |false => "both"
 |true => "either"
def Wd.turn:Wd->Wd
 |.leaf t n=>.leaf (!t) n
 |.node e l r=>.node (!e) l.turn r.turn
def Wd.depth:Wd->Nat
 |.leaf _ _=>1
 |.node _ l r=>max l.depth r.depth+1
def Wd.SB:Wd->Nat
 |.leaf _ _=>1
 |.node _ l r=>l.SB+r.SB
theorem Wd.Xf:∀w:Wd,1<=w.SB
 |.leaf _ _=>An _
 |.node _ l r=>by have:=Wd.Xf l;exact GS
abbrev E5:=@Wd.Xf
theorem Wd.Xg:∀w:Wd,w.depth<=w.SB
 |.leaf _ _=>An _
 |.node _ l r=>by have:=Wd.Xg l;have:=Wd.Xg r;have:=E5 l;have:=E5 r;show max l.depth r.depth+1<=l.SB+r.SB;lia
def iG:Wd->Da
 |.leaf t n=>.tup [.s<|.str<|kL t,.s<|.str n]
 |.node e l r=>.tup [.s<|.str<|kN e,iG l,iG r]
def fG(x:Str):Prop:=1<=x.length/\x.length<=8/\∀c∈x.cps.toList,97<=c/\c<=122
def Wd.ok:Wd->Prop
 |.leaf _ n=>fG n
 |.node _ l r=>l.ok/\r.ok
def Paired.Yp{F:α->β->Prop}:∀{xs:List α} {ys:List β} {i:Nat} {x:α},Paired F xs ys->xs[i]?=some x->∃y,ys[i]?=some y/\F x y:=by
 intro xs ys i x h
 induction h generalizing i with
 |nil=>intro h;simp at h
 |cons r t I=>
  intro h;cases i with
  |zero=>simp at h;subst h;exact{_,rfl,r}
  |succ i=>
   obtain⟨y,e,q⟩:=I (i:=i) (by simpa using h);exact{y,by simpa using e,q}
def rP:bootBuiltins "max"=some (.builtin "max"):=by decide +kernel
def io:bootBuiltins "bool"=some (.type "bool"):=by decide +kernel
def Wd.size:Wd->Nat
 |.leaf _ _=>1
 |.node _ l r=>1+l.size+r.size
theorem Wd.size_eq:∀w:Wd,w.size+1=2*w.SB
 |.leaf _ _=>rfl
 |.node _ l r=>by have:=Wd.size_eq l;have:=Wd.size_eq r;show 1+l.size+r.size+1=2*(l.SB+r.SB);lia
theorem xh.get{P:WE}{w:WF}{a:Addr}{o:HO}(x:xh P w H h a o):∃ob,h.get? a=some ob:=by
 cases o with
 |lst I=>obtain⟨_,_,_,_,e⟩:=x;exact{_,e}
 |tup I=>obtain⟨_,_,_,_,e,_⟩:=x;exact{_,e}
 |dK J=>obtain⟨_,_,_,_,o,_,_,e,_⟩:=x;exact{_,e}
 |ins C U fs=>obtain⟨_,_,_,e,_⟩:=x;exact{_,e}
 |own y=>exact x
 |XE lo g=>obtain⟨_,_,_,e⟩:=x;exact{_,e}
 |Pv ob u=>obtain⟨e,_⟩:=x;exact{_,e}
 |Xn j=>exact{_,show h.get? a=some _ from x}
def rK(h0 h:WG)(H:Hp)(a C:Addr)(tr:Option Addr):Prop:=
 h0.get? a=none/\H a=none/\∃I vs a0,h.get? a=some I/\I.cls=.ref C/\I.data=.fields vs/\vs[0]?=some a0/\
  match tr with
  |none=>vs[1]?=some .none
  |some T=>vs[1]?=some (.ref T)/\h0.get? T=none/\H T=none/\T≠a/\∃J ts,h.get? T=some J/\J.data=.fields ts/\ts[3]?=some .none
def bB(a:Addr)(tr:Option Addr)(fs:List Addr):List Addr:=a::(tr.toList++fs)
section
variable {a:Addr}{tr:Option Addr}
def m4{l:List Env}{b:Addr}(h:env∈l)(e:env.frame=some b):b∈cW l:=DP.mpr {(env),h,e}
def m6(I:qx X pins σ H s)(hs:X.stack=X.env::X.outer)(hx:X.ex=[])(new:X.s₀.heap.get? a=none)(free:H a=none)(j:∀T,tr=some T->X.s₀.heap.get? T=none/\H T=none){a0 fl:WC}
 (k1:(PySem.W.hideAll s.heap<|bB a tr<|cW X.stack).StaysIn h') (k2:h'.FunFrames (PySem.W.hideAll s.heap<|bB a tr<|cW X.stack) X.stack) (k3:h'.TracedAtW (PySem.W.hideAll s.heap<|bB a tr<|cW X.stack) a (.ref C) a0 fl)
 (k4:∀b o,s.heap.get? b=some o->(∀vs,o.data≠.fields vs)->∃sl,h'.get? b=some {o with slots:=sl}):
 Un X.fs [] X.H₀ H X.s₀.heap h'/\fD X.prog X.w H h'/\∃T,(∀b o,s.heap.get? b=some o->(∀T0,tr=some T0->b≠T0)->b≠T)/\X.s₀.heap.get? T=none/\H T=none/\T≠a/\∃oe vs oT ts,h'.get? a=some oe/\oe.cls=.ref C/\vs[0]?=some a0/\oe.data=.fields vs/\vs[1]?=some (.ref T)/\h'.get? T=some oT/\oT.data=.fields ts/\ts[3]?=some fl:=by
 have kp:=λb o e n=>k1 b o<|C7 _ e n;have sl:∀b o,s.heap.get? b=some o->b∈cW X.stack->∃sl,h'.get? b=some {o with slots:=sl}:=λb o e J=>by obtain⟨_,l,e',nf⟩:=I.stack.mem J;rw[e] at e';cases e';exact k4 b o e nf
 have p:∀b,b∈bB a tr (cW X.stack)->H b=none:=λb J=>by
  rcases Aw.mp J with e|J
  .rw[e];exact free
  .rcases Aj.mp J with q|q
   .exact(j b (by simpa using q)).2
   .exact I.Xs b q
 have g:∀b o,X.s₀.heap.get? b=some o->b∉X.fs->b∉bB a tr (cW X.stack):=λb o e nb J=>by
  rcases Aw.mp J with q|J
  .rw[q,new] at e;cases e
  .rcases Aj.mp J with q|q
   .rw[(j b (by simpa using q)).1] at e;cases e
   .rcases Aw.mp (I.W2 b q) with q|q
    .exact absurd (AS (u3 e) I.ok.above) (by rw[q];exact Cj _)
    .exact nb q
 have r:∀b,b∈X.fs->b∈cW X.stack:=λb J=>by
  rw[hs];unfold cW;rw[CD];split
  .exact J
  .exact Al _ J
 have U:∀b:Addr,b∉X.ex:=λb=>by rw[hx];simp
 have a3:fD X.prog X.w H h':=λb u e=>(I.GT b u e).SZ (λc w' hc q=>kp c w' q λhm=>by
  have n:=p c hm;rcases hc with z|z
  .rw[z,e] at n;cases n
  .rw[z] at n;cases n) (λ_ q=>q) λ_ _ q=>q
 refine{{λb o e n J _=>?_,λb o e n J _=>?_,λb o e n _=>I.base.free b o e n<|U b,λb o e _=>?_,I.base.WY,I.base.W3,I.base.W9},a3,?_}
 .exact kp b o (I.base.keep b o e n J<|U b)<|g b o e J
 .obtain⟨z,t⟩:=I.base.slot b o e n J<|U b;obtain⟨z',e2⟩:=sl b _ t<|r b J;exact{(z'),e2}
 .obtain⟨l,t⟩:=I.base.there b o e<|U b;by_cases J:b∈X.fs
  .obtain⟨z',e2⟩:=sl b _ t<|r b J;exact{_,e2}
  .exact{l,kp b l t<|g b o e J}
 .obtain⟨al,av,T,oT,ts,aL,⟨ba,bb⟩,bc,bd,a4,a1,hT,a5,h3⟩:=k3;have a2:∀o,s.heap.get? T=some o->T∈bB a tr (cW X.stack):=λo e=>by
   by_cases q:T∈bB a tr (cW X.stack)
   .exact q
   .rw[C7 _ e q] at a4;cases a4
  have ac:T∉cW X.stack:=λJ=>by obtain⟨_,l,e',nf⟩:=k2.mem J;rw[hT] at e';cases e';exact nf ts a5
  refine{T,λb o e ne z=>?_,?_,?_,a1,al,av,oT,ts,aL,ba,bb,bc,bd,hT,a5,h3}
  .subst z;rcases Aw.mp (a2 o e) with z|z
   .exact a1 z
   .rcases Aj.mp z with z|z
    .exact ne b (by simpa using z) rfl
    .exact ac z
  .cases q:X.s₀.heap.get? T with
   |none=>rfl
   |some o=>
    obtain⟨l,t⟩:=I.base.there T o q<|U T;rcases Aw.mp (a2 l t) with z|z
    .exact absurd z a1
    .rcases Aj.mp z with z|z
     .rw[(j T (by simpa using z)).1] at q;cases q
     .exact absurd z ac
  .cases q:H T with
   |none=>rfl
   |some u=>
    obtain⟨l,t⟩:=(I.GT T u q).get;have:=p T<|a2 l t;rw[q] at this;cases this
def Pz{Q:Wn}(I:qx X pins σ H s)(hs:X.stack=X.env::X.outer)(hf:X.env.frame=some X.env.locals)(hx:X.ex=[])(L:rK X.s₀.heap s.heap H a C tr)
 (h:∀h' T,Un X.fs [] X.H₀ H X.s₀.heap h'->fD X.prog X.w H h'->rK X.s₀.heap h' H a C (some T)->Q () {s with heap:=h'}):wpAny M X.A (leaving X.env<|.ref a) Q E s:=by
 have L0:=L;obtain⟨new,free,oe,vs,b0,g,hc,hd,h0,J⟩:=L0;have j:s.heap.FunFrames (PySem.W.hideAll s.heap<|bB a tr<|cW X.stack) X.stack:=CN I.stack λenv g b hb=>Al _<|Ah _<|m4 g hb;have st:(PySem.W.hideAll s.heap<|bB a tr<|cW X.stack).StaysIn s.heap:=λb o e=>CL _ e;have na:(PySem.W.hideAll s.heap<|bB a tr<|cW X.stack).get? a=none:=BY _ As;have U:X.A.frames=some (X.env::X.outer):=by rw[<-hs];exact I.ok.frames
 have go:∀h',Heap.LeftW (PySem.W.hideAll s.heap<|bB a tr<|cW X.stack) (X.env::X.outer) a (.ref C) b0 s.heap h'->Q () {s with heap:=h'}:=λh' ⟨k1,k2,k3,k4⟩=>by obtain⟨u,l,T,_,n1,n2,ne,p,r,t,ts,e1,e2,e3,e4,e5,e6,e7,e8⟩:=m6 I hs hx new free (by intro T e;subst e;exact{(J.2.1),J.2.2.1}) k1 (by rw[hs];rw[hs] at k2;exact k2) k3.at k4;exact h h' T u l {(new),free,p,r,b0,e1,e2,e4,e3,e5,n1,n2,ne,t,ts,e6,e7,e8}
 have nT:∀T,tr=some T->(PySem.W.hideAll s.heap<|bB a tr<|cW X.stack).get? T=none:=λT e=>by subst e;exact BY _<|Al _<|Am _ (by simp)
 generalize PySem.W.hideAll s.heap (bB a tr<|cW X.stack)=base at j st na go nT;rw[hs] at j;cases tr with
 |none=>exact wpAny_leaving_firstW U j hf g st na hd J h0 (by rw[hc];exact go)
 |some T=>
  obtain⟨h1,_,_,a1,t,ts,hT,a2,h3⟩:=J;exact wpAny_leaving_nextW U j hf {oe,vs,T,t,ts,g,{(hc),h0},hd,h1,nT T rfl,a1,hT,a2,h3} st na go
end
def g7(P:WE)(w:WF):y9:=λouter H s E e s'=>∃a C T H',e=.ref a/\s'.os=s.os/\AllBare s'.gens/\Un (cW outer) [] H H' s.heap s'.heap/\fD P w H' s'.heap/\rK s.heap s'.heap H' a C (some T)/\E (.ref C) none H'/\0<s'.toks
def yc(X:Cx)(a:Addr):Prop:=a≠X.env.locals/\(∀x c,X.env.cells.lookup x=some c->c≠a)/\∀p∈X.pn,p.1≠a
abbrev X1:=St->WC->Hp->Prop
def bO(X:Cx)(E1:X1):Prop:=∀(pins:List<|Addr×Obj) (σ:St) (H:Hp) (s:WD) (a C:Addr) (tr:Option Addr),qx X pins σ H s->rK X.s₀.heap s.heap H a C tr->yc X a->(∀T,tr=some T->yc X T)->E1 σ (.ref C) H->X.xe (.ref a) s
section
variable {a b T:Addr}{tr:Option Addr}{E1:X1}
def qx.apart(I:qx X pins σ H s)(h:s.heap.get? b=none):yc X b:=by
 refine{λe=>?_,λx c e z=>?_,λp U z=>?_}
 .obtain⟨m,⟨o,_,_,J,_⟩,_⟩:=I.loc;rw[<-e,h] at J;cases J
 .obtain⟨v,o,J,_⟩:=I.cell x c e;rw[z,h] at J;cases J
 .obtain⟨e,_⟩:=I.pin p<|Am _ U;rw[z,h] at e;cases e
def qx.news(I:qx X pins σ H s)(J:X.ex=[])(h:s.heap.get? b=none):X.s₀.heap.get? b=none:=by
 cases q:X.s₀.heap.get? b with
 |none=>rfl
 |some o=>
  obtain⟨U,e⟩:=I.base.there b o q (by rw[J];simp);rw[h] at e;cases e
def bO.pass(t:bO X E1)(U:X.ex=[]){e:WC}(I:qx X pins σ H s)(h:g7 X.prog X.w X.stack H s (λc _ H'=>E1 σ c H') e s'):X.xe e s':=by obtain⟨a,C,T,H',rfl,j,l,u,J,⟨new,free,o,p,r,he,hc,hd,h0,h1,g,fT,rest⟩,q,a1⟩:=h;have I':=I.XI (ch:=[]) j u J l λb z=>absurd z (by simp);exact t pins σ H' s' a C (some T) I' {I.news U new,free,o,p,r,he,hc,hd,h0,h1,I.news U g,fT,rest} (I.apart new) (λT' e=>by cases e;exact I.apart g) q
def PB{k:Nat}{sp:Sp}{Q:VK}{vs:WI}(F:au X.prog X.w X.K X.mg X.base (g7 X.prog X.w) k f fd ps sp)(U:ki k X.A)(g:aA X.K fd ps [])(j:bO X E1)(l:X.ex=[])
 (I:qx X pins σ H s) (r:zk vs us) (h:sp vs H Q λc _ H'=>E1 σ c H'):ZZ X (call (.ref f) us) (EP X pins σ Q) X.xe s:=by
 have o:(us++[]).length=ps.length:=by rw[AB,<-r.length];exact F.len _ _ _ _ h
 refine wpAny_call (codeAny_mono (F.run X.A X.stack s H {us,[]} us vs Q _ U I.XA (by have:=g s us I.SC o;rw[AB] at this;exact this) r h) λr t J=>?_);cases r with
 |error e=>exact j.pass l I J
 |ok p=>
  cases p with|ret u=>exact I.after J|next=>exact False.elim J|brk=>exact False.elim J|cont=>exact False.elim J
end
def PD(sp:Sp)(E1:X1)(t:TA):TE:=λσ H Q=>t σ H λvs H1=>sp vs H1 Q λc _ H'=>E1 σ c H'
section
variable {k:Nat}{sp:Sp}{E1:X1}{t:TA}
def vP(F:au X.prog X.w X.K X.mg X.base (g7 X.prog X.w) k f fd ps sp)(l:ki k X.A)(o:Gl X x)(C:X.mg x=some (.ref f))(T:PySem.W.keepIn X.K (.ref f)=true)(hb:aA X.K fd ps [])(ht:bO X E1)(hx:X.ex=[])
 (ha:PA X (e::es) t) (U:Fe x:=by decide) (he:Fb e es X:=by rfl) (g:Fc pos es X:=by rfl):
 PE X (.Call (.Name x p) (e::es) [] pos) (PD sp E1 t):=by
 intro J s σ H Q I h;refine wpAny_Call_Name_kw<|iQ I o C ?_ U;refine Dk (h₀:=X.base) I.ok.mod.YF T (aD (ha pos J s σ H _ I h) λus s1 ⟨vs,H1,j,r,q⟩=>{j.SC,?_}) he g;exact PB F l hb ht hx j r q
end
def PH{P:WE}{w:WF}{K:Ag}{N:Wu}{E:XK}:
 bO (fP (g7 P w) P w K mg base N eh scope f cd A outer s H E) λ_ c H'=>E c none H':=by
 intro U j H' l a C tr I L _ _ q;refine Pz (X:=fP (g7 P w) P w K mg base N eh scope f cd A outer s H E) I rfl rfl rfl L λo T u J g=>?_;exact{(a),C,T,H',rfl,I.os,I.bare,u,J,g,q,I.tk}
structure FF(K:Ag)(C:Addr):Prop where
 ex:∃(nm q:Str) (N:Addr) (bs bm:Wr) (hdct:Bool) (sn:Wu) (sub:Wr) (ab:Bool) (col:Option Bool) (dd:Option Addr) (k0 k1 k2 k3 k5:Wy) (B Bn newId nid initId inN:WH) (bmB bmN:Wr),
  ExcBaseFacts Bn newId inN bmN/\bmB.contains (.type Bn)=true/\ExcBaseFacts B nid initId bmB/\
  ∀h,K.In h->h.get? C=some (excClassObj nm q C N bs bm hdct sn sub ab col dd k0 k1 k2 k3 k5 newId)/\(∃mN,h.Ns N mN/\mN "__init__"=none)/\OwnTail h bmB bm
def PJ{K:Ag}{U o:Wr}{B T J p I r:WH}(q:PySem.W.excIn K C U J=true)(Fn:ExcBaseFacts T J r o)(a1:U.contains (.type T)=true)(F:ExcBaseFacts B p I U):FF K C:=by
 unfold PySem.W.excIn at q;split at q
 .rename_i dd cd sl ho;split at q
  .rename_i C' bm k0 k1 k2 k3 n k5 hm hs;simp only[A7,beq_iff_eq,Bool.not_eq_true'] at q;obtain⟨⟨⟨⟨⟨rfl,rfl⟩,g⟩,ht⟩,j⟩,t⟩:=q;obtain⟨nm,bs,a4,ns,qn,hd,sn,sub,ab,a2,del⟩:=cd;dsimp only at hm g j t;subst hm g;have a3:sl=#[k0,k1,k2,k3,some<|.builtin n,k5]:=by obtain⟨l⟩:=sl;simp only at hs;rw[hs]
   subst a3;exact{nm,qn,ns,bs,bm,hd,sn,sub,ab,a2,dd,k0,k1,k2,k3,k5,B,T,n,p,I,r,U,o,Fn,a1,F,λh X=>{X _ _ ho,{_,.of_isNs<|PySem.W.isNs_of_in X j,PySem.W.nsMap_none_of_in X j t},PySem.W.tail_of_in X ht}}
  .cases q
 .cases q
def PK(C:Addr)(E1:X1)(t:TA):TS:=λ_ σ H=>t σ H λvs H1=>vs.length<=sizeLine/\E1 σ (.ref C) H1
def PL{E1:X1}{t:TA}(c:FF X.K C)(hg:Gl X x)(U:X.mg x=some (.ref C))(hc:X.calm=true)(ht:bO X E1)(hx:X.ex=[])(ha:PA X (e::es) t)(p:Fe x:=by decide)
 (he:Fb e es X:=by rfl) (a1:Fc eK es X:=by rfl):
 PS X (.Raise (some<|.Call (.Name x np) (e::es) [] eK) none pos) (PK C E1 t):=by
 intro J s σ H D I h;obtain⟨nm,q,N,bs,bm,hdct,sn,sub,ab,col,dd,k0,k1,k2,k3,k5,B,Bn,a2,a5,l,ac,al,av,Fn,a3,F,all⟩:=c.ex;obtain⟨_,⟨mN,hn,a4⟩,ow⟩:=all X.base I.ok.mod.YF;refine wpAny_Raise_call_subU (C:=C) (nm:=nm) (q:=q) (N:=N) (bs:=bs) (bm:=bm) (hdct:=hdct) (sn:=sn) (sub:=sub) (ab:=ab) (col:=col) (dd:=dd) (k0:=k0) (k1:=k1) (k2:=k2) (k3:=k3) (k5:=k5) Fn a3 F (mN:=mN) (ow.hasType F.hasBase) (I.ok.hd hc)
  (by rw[he];show(false||(backTo eK<|starEach es X.env).any (·.1))=false;rw[a1];rfl) a4 (iQ I hg U ⟨rfl,?_⟩ p)
 rw[he];have j:=ha eK J s σ H _ I h;rw[he] at j;refine Fh (aD j λus s2 ⟨vs,H1,g,r,hl,q1⟩=>{rfl,by rw[<-r.length];exact hl,(all _ g.SC).1,hn.keeps g.bk,(all _ g.SC).2.2,λh' a U=>?_});obtain⟨t0,e1,_,_⟩:=U.there;have I2:=g.kept (t':=s2.toks) U.keeps;have fr:H1 a=none:=by
  cases z:H1 a with
  |none=>rfl
  |some u=>
   obtain⟨o,eo⟩:=(g.GT a u z).get;rw[U.new] at eo;cases eo
 exact ht J σ H1 _ a C none I2 {g.news hx U.new,fr,_,_,.ref t0,e1,rfl,rfl,rfl,rfl} (g.apart U.new) (λT z=>nomatch z) q1
section
variable {a T:Addr}{tr:Option Addr}
def jZ(I:qx X pins σ H s)(C:X.ex=[])(hf:X.stack=X.env::X.outer)(un:Un X.fs [] X.H₀ H X.s₀.heap h')(GT:fD X.prog X.w H h')
 (k1:(PySem.W.hideAll s.heap<|bB a tr<|cW X.stack).StaysIn h') (l:∀b o,s.heap.get? b=some o->(∀vs,o.data≠.fields vs)->∃J,h'.get? b=some {o with slots:=J})
 (pa:∀p∈X.pn++pins,p.1≠a/\∀T,tr=some T->p.1≠T):qx X pins σ H {s with heap:=h'}:=by
 have cl:∀{c:Addr} {v:Wy},s.heap.IsCell c v->h'.IsCell c v:=λ{c v} ⟨o,U,hd⟩=>by
  obtain⟨J,e⟩:=l c o U λvs q=>by rw[hd] at q;cases q
  exact{_,e,hd}
 obtain⟨m,hn,hl⟩:=id I.loc;have g:h'.Ns X.env.locals m:=by
  obtain⟨o,es,ep,U,hd,r⟩:=hn;obtain⟨J,e⟩:=l _ o U λvs q=>by rw[hd] at q;cases q
  exact{_,es,ep,e,hd,r}
 refine{I.ok,I.os,I.bare,by rw[C];exact un,{m,g,λi x v e1 e2 e3=>?_},λx c e=>?_,I.free,I.On,λp j=>?_,GT,I.len,I.tk}
 .obtain⟨u,ru,lk⟩:=hl i x v e1 e2 e3;refine{u,ru,?_};rcases lk with lk|⟨k,c,e,z⟩
  .exact .inl lk
  .exact .inr {k,c,e,cl z}
 .obtain⟨v,z⟩:=I.cell x c e;exact{v,cl z}
 .obtain⟨e,n,ne,t,d⟩:=I.pin p j;refine{k1 _ _<|C7 _ e λhm=>?_,n,ne,t,d};rcases Aw.mp hm with z|z
  .exact(pa p j).1 z
  .rcases Aj.mp z with z|z
   .exact(pa p j).2 p.1 (by simpa using z) rfl
   .rcases Aw.mp (I.W2 _ z) with z|z
    .exact ne z
    .exact t z
def PM{Q:Wn}(I:qx X pins σ H s)(hs:X.stack=X.env::X.outer)(hf:X.env.frame=some X.env.locals)(hx:X.ex=[])(L:rK X.s₀.heap s.heap H a C tr)
 (pa:∀p∈X.pn++pins,p.1≠a/\∀T,tr=some T->p.1≠T)
 (h:∀h' T,qx X pins σ H {s with heap:=h'}->rK X.s₀.heap h' H a C (some T)->(∀p∈X.pn++pins,p.1≠T)->Q () {s with heap:=h'}):
 wpAny M X.A (noteFrame (.ref a) X.env) (λ_ j=>wpAny M X.A (setFlight (.ref a) none) Q E j) E s:=by
 obtain⟨new,free,oe,vs,b0,g,hc,hd,h0,J⟩:=id L;have r:∀T,tr=some T->X.s₀.heap.get? T=none/\H T=none:=by intro T e;subst e;exact{(J.2.1),J.2.2.1}
 have fr:s.heap.FunFrames (PySem.W.hideAll s.heap<|bB a tr<|cW X.stack) X.stack:=CN I.stack λenv g b hb=>Al _<|Ah _<|m4 g hb;have st:(PySem.W.hideAll s.heap<|bB a tr<|cW X.stack).StaysIn s.heap:=λb o e=>CL _ e;have na:(PySem.W.hideAll s.heap<|bB a tr<|cW X.stack).get? a=none:=BY _ As;have t:X.A.frames=some (X.env::X.outer):=by rw[<-hs];exact I.ok.frames
 have nT:∀T,tr=some T->(PySem.W.hideAll s.heap<|bB a tr<|cW X.stack).get? T=none:=λT e=>by subst e;exact BY _<|Al _<|Am _ (by simp)
 have go:∀h',Heap.NotedW (PySem.W.hideAll s.heap<|bB a tr<|cW X.stack) (X.env::X.outer) a (.ref C) b0 (rawInt X.env.locals) s.heap h'->wpAny M X.A (setFlight (.ref a) none) Q E {s with heap:=h'}:=λh' ⟨k1,k2,k3,k4⟩=>by
  rw[<-hs] at k2;obtain⟨u,a5,T,ac,n1,n2,ne,al,av,oT,ts,e1,e2,e3,e4,e5,e6,e7,e8⟩:=m6 I hs hx new free r k1 k2 k3 k4;have I2:=jZ I hx hs u a5 k1 k4 pa;have a1:∀p∈X.pn++pins,p.1≠T:=λp U=>by obtain⟨e,_⟩:=I.pin p U;exact ac p.1 _ e (pa p U).2
  have aL:h'.FunFrames (PySem.W.hideAll h'<|bB a (some T)<|cW X.stack) X.stack:=CN I2.stack λenv g b hb=>Al _<|Ah _<|m4 g hb;refine wpAny_setFlight_noneW (s:={s with heap:=h'}) (base:=PySem.W.hideAll h'<|bB a (some T)<|cW X.stack) (l:=X.stack) (e:=a) (cls:=.ref C) (a0:=b0) (fl:=rawInt X.env.locals) (λb o e=>CL _ e) aL
   ⟨al,av,T,oT,ts,e1,⟨e2,e3⟩,e4,e5,BY _<|Al _<|Am _ (by simp),ne,e6,e7,e8⟩ λh3 j1 j2 j3 j4=>?_
  have a2:∀b o,h'.get? b=some o->(∀vs,o.data≠.fields vs)->∃sl,h3.get? b=some {o with slots:=sl}:=λb o e q=>{o.slots,j4 b o e q};obtain⟨u',a3,T',a4,ba,bb,bc,bd,be,bf,bg,f1,f2,f3,f4,f5,f6,f7,f8⟩:=m6 (s:={s with heap:=h'}) (tr:=some T) I2 hs hx new free (λT0 e=>by cases e;exact{(n1),n2}) j1 j2 j3.at a2;have I3:=jZ (s:={s with heap:=h'}) (h':=h3) (tr:=some T) I2 hx hs u' a3 j1 a2 λp U=>{(pa p U).1,λT0 e=>by cases e;exact a1 p U};refine h h3 T' I3 {(new),free,bd,be,b0,f1,f2,f4,f3,f5,ba,bb,bc,bf,bg,f6,f7,f8} λp U=>?_;obtain⟨e,_⟩:=I2.pin p U;exact a4 p.1 _ e λT0 z=>by cases z;exact a1 p U
 generalize PySem.W.hideAll s.heap (bB a tr<|cW X.stack)=base at fr st na go nT;rw[hs] at fr;cases tr with
 |none=>
  unfold noteFrame;simp only[hf];refine Aa<|Bg g hd J ?_;rw[Ap (by decide)];exact wpAny_entryW t fr hf g st na hd (Array.getElem?_eq_some_iff.mp J).1 h0 (by rw[hc];exact go)
 |some T=>
  obtain⟨h1,_,_,bh,oT,ts,hT,bi,h3⟩:=J;exact wpAny_noteFrame_onW t fr hf {oe,vs,T,oT,ts,g,{(hc),h0},hd,h1,nT T rfl,bh,hT,bi,h3} st na go
end
abbrev Cx.tr(X:Cx)(pn:List<|Addr×Obj)(xe:Wm):Cx:={X with pn:=pn,xe:=xe}
abbrev Cx.WU(X:Cx)(a:Addr):Cx:={X with A:=X.A.mark<|some<|.ref a,calm:=false,xe:=λ_ _=>False}
theorem Cx.Ok.tr(ok:X.Ok)(pn:List<|Addr×Obj)(xe:Wm):(X.tr pn xe).Ok:=
 ⟨ok.mod,ok.kind,ok.glob,ok.blt,ok.above,ok.inj,ok.has,ok.YA,ok.hd,ok.frames,ok.YG,ok.YQ,ok.bs,ok.XY,ok.Xi,ok.Xj,ok.WK,ok.X9⟩
theorem Cx.Ok.Xv{pn:List<|Addr×Obj}(ok:(X.tr pn xe).Ok):X.Ok:=
 ⟨ok.mod,ok.kind,ok.glob,ok.blt,ok.above,ok.inj,ok.has,ok.YA,ok.hd,ok.frames,ok.YG,ok.YQ,ok.bs,ok.XY,ok.Xi,ok.Xj,ok.WK,ok.X9⟩
theorem Cx.Ok.WU(ok:X.Ok)(a:Addr):(X.WU a).Ok:=
 ⟨ok.mod,ok.kind,ok.glob,ok.blt,ok.above,ok.inj,ok.has,ok.YA,(λz=>nomatch z),ok.frames,ok.YG,ok.YQ,ok.bs,ok.XY,ok.Xi,ok.Xj,ok.WK,ok.X9⟩
section
variable {a T:Addr}
theorem qx.tr(I:qx X pins σ H s)(xe:Wm):qx (X.tr (X.pn++pins) xe) [] σ H s:={I.ok.tr _ _,I.os,I.bare,I.base,I.loc,I.cell,I.free,I.On,(λp J=>I.pin p (by simpa using J)),I.GT,I.len,I.tk}
theorem qx.Xv{J:List<|Addr×Obj}(I:qx (X.tr (X.pn++pins) xe) J σ H s):qx X pins σ H s:={I.ok.Xv,I.os,I.bare,I.base,I.loc,I.cell,I.free,I.On,(λp U=>I.pin p<|Am _ U),I.GT,I.len,I.tk}
theorem qx.WU(I:qx X pins σ H s)(a:Addr):qx (X.WU a) pins σ H s:={I.ok.WU a,I.os,I.bare,I.base,I.loc,I.cell,I.free,I.On,I.pin,I.GT,I.len,I.tk}
def qx.XM(ok:X.Ok)(I:qx (X.WU a) pins σ H s):qx X pins σ H s:={(ok),I.os,I.bare,I.base,I.loc,I.cell,I.free,I.On,I.pin,I.GT,I.len,I.tk}
theorem SP.Xv{D:re}{f:Flow}(h:SP (X.tr (X.pn++pins) xe) [] D f s'):SP X pins D f s':=by
 cases f with
 |next=>obtain⟨I,U,J,q⟩:=h;exact{(I),U,J.Xv,q}
 |brk=>obtain⟨I,U,J,q⟩:=h;exact{(I),U,J.Xv,q}
 |cont=>obtain⟨I,U,J,q⟩:=h;exact{(I),U,J.Xv,q}
 |ret u=>obtain⟨v,I,U,J,r,q⟩:=h;exact{(v),I,U,J.Xv,r,q}
def PN{Q:Wn}(I:qx X pins σ H s)(hs:X.stack=X.env::X.outer)(hx:X.ex=[])(L:rK X.s₀.heap s.heap H a C<|some T)
 (pa:∀p∈X.pn++pins,p.1≠a/\p.1≠T) (h:∀h' g,qx X pins σ H {s with heap:=h'}->rK X.s₀.heap h' H a C (some g)->Q () {s with heap:=h'}):wpAny M A (setFlight (.ref a) none) Q E s:=by
 obtain⟨new,free,oe,j,b0,r,hc,hd,h0,h1,n1,n2,ne,oT,ts,hT,t,h3⟩:=L;have a1:s.heap.FunFrames (PySem.W.hideAll s.heap<|bB a (some T)<|cW X.stack) X.stack:=CN I.stack λenv r b hb=>Al _<|Ah _<|m4 r hb;refine wpAny_setFlight_noneW (base:=PySem.W.hideAll s.heap<|bB a (some T)<|cW X.stack) (l:=X.stack) (e:=a) (cls:=.ref C) (a0:=b0) (fl:=.none) (λb o e=>CL _ e) a1
  ⟨oe,j,T,oT,ts,r,⟨hc,h0⟩,hd,h1,BY _<|Al _<|Am _ (by simp),ne,hT,t,h3⟩ λh3 j1 j2 j3 j4=>?_
 have J:∀b o,s.heap.get? b=some o->(∀j,o.data≠.fields j)->∃sl,h3.get? b=some {o with slots:=sl}:=λb o e q=>{o.slots,j4 b o e q};obtain⟨u',U,g,aL,a2,a3,a4,a5,ac,al,av,f1,f2,f3,f4,f5,f6,f7,f8⟩:=m6 (tr:=some T) I hs hx new free (λT0 e=>by cases e;exact{(n1),n2}) j1 j2 j3.at J;exact h h3 g (jZ (tr:=some T) I hx hs u' U j1 J λp hp=>{(pa p hp).1,λT0 e=>by cases e;exact(pa p hp).2}) {(new),free,a5,ac,b0,f1,f2,f4,f3,f5,a2,a3,a4,al,av,f6,f7,f8}
end
section
open PySem.W
open Builtin.ObjectAttr in
section
variable {w:WF}{K:Frag}{a:Addr}
open Builtin Builtin.ObjectAttr Builtin.Getset_descriptor in
end
def PP(K:Ag)(H:Hp)(a C:Addr):Prop:=∃I,H a=some (.Pv I<|.own 0)/\I.cls=.ref C
def vT(H:Hp)(P:Addr)(q:Str):Prop:=∃ps,H P=some (.Xn ps)/\TriplesOk ps.toList/\∀pos I,codeAmong pos ps.toList=some I->∃J oc vs t,I=.ref J/\H J=some (.Pv oc<|.own 0)/\oc.data=.fields vs/\vs[1]?=some (.str q t)
def vT.keep{P:Addr}(h:vT H P q)(e:H' P=H P)(t:∀b o u,H b=some (.Pv o u)->H' b=some (.Pv o u)):vT H' P q:=by obtain⟨I,h1,h2,h3⟩:=h;refine{I,e.trans h1,h2,λpos J z=>?_};obtain⟨U,g,j,l,p,r,C⟩:=h3 pos J z;exact{U,g,j,l,p,t _ _ _ r,C}
end
inductive Y where
 |KB|bl (b:Bool)|int (i:Int)|str (x:Str)|ref (a:Addr)|ty (n:WH)|cd (kvs:List<|Str×Str)|tup (ys:List Y)|sq (ys:List Y)
abbrev Z0:=List Y
abbrev WM:=Option Y
inductive LO where
 |lst (ys:Z0)|KF (kvs:List<|j8×Y)|ins (C:Addr) (fs:List<|Str×Y)|exc (C:Addr)|tb (q:Str)
abbrev qj:=Addr->Option LO
def qd(L:qj)(a:Addr)(o:LO):qj:=λb=>if b=a then some o else L b
def q9{L:qj}{a:Addr}{o:LO}:qd L a o a=some o:=by unfold qd;rw[Ar rfl]
def qb{L:qj}{a b:Addr}{o:LO}(h:b≠a):qd L a o b=L b:=by unfold qd;rw[Ap h]
def jz{L:qj}{a:Addr}{o u:LO}:qd (qd L a o) a u=qd L a u:=by funext b;unfold qd;split<;>rfl
def vh{L:qj}{a b:Addr}{o:LO}(h:L a=some o)(h':L b=none):a≠b:=by intro e;subst e;rw[h] at h';cases h'
def FH{L:qj}{a b:Addr}{o u:LO}(h:L a=some o)(h':L b=some u)(d:o≠u):a≠b:=by intro e;subst e;rw[h] at h';exact d<|AJ h'
structure G3 where
 K:Ag
 P:WE
 w:WF
abbrev Cx.g3(X:Cx):G3:={(X.K),X.prog,X.w}
def YV(K:Ag)(H:Hp)(a:Addr)(xs:WI):Prop:=(∃o,H a=some (.Pv o<|.lst xs))\/
 ∃(o:Obj) (eA:Ws) (n:Nat),K.lookup a=some o/\o.cls=.type "list" /\ o.dict=none/\o.data=.seq eA n/\eA.size<=sizeLine/\zk xs eA.toList
def YV.sq{K:Ag}{a:Addr}(h:YV K H a xs):ag K H a xs:=by
 rcases h with⟨o,h⟩|h
 .exact .inl<|.inr {(o),h}
 .exact .inr h
mutual
def RV(G:G3)(H:Hp):Y->V->Prop
 |.KB,v=>v=.KB
 |.bl b,v=>v=.bl b
 |.int i,v=>v=.int i
 |.str x,v=>v=.str x
 |.ref a,v=>v=.ref a
 |.ty n,v=>v=.ty n
 |.cd kvs,v=>∃a,v=.ref a/\KD G.K G.P G.w a (kvs.map λp=>(Sum.inr p.1,V.str p.2))
 |.tup ys,v=>∃a xs,v=.ref a/\fB G.K H a xs/\xo G H ys xs
 |.sq ys,v=>∃a xs,v=.ref a/\YV G.K H a xs/\xo G H ys xs
def xo(G:G3)(H:Hp):Z0->WI->Prop
 |[],xs=>xs=[]
 |y::ys,xs=>∃x I,xs=x::I/\RV G H y x/\xo G H ys I
end
def PQ:HO->Bool
 |.tup _=>true
 |.Pv _ _=>true
 |_=>false
def j5(H H':Hp):Prop:=∀a u,PQ u=true->H a=some u->H' a=some u
def j5.refl(H:Hp):j5 H H:=λ_ _ _ h=>h
abbrev ET:=@j5.refl
def j5.trans{H1 H2:Hp}(a:j5 H H1)(b:j5 H1 H2):j5 H H2:=λc u i h=>b c u i<|a c u i h
def j5.new{p:Addr}{o:HO}(h:H p=none):j5 H (upd H p o):=λ_ _ _ q=>by rw[qo<|ja q h];exact q
abbrev EU:=@j5.new
def j5.lst{p:Addr}{o:HO}(h:H p=⇑zs):j5 H (upd H p o):=λa u i q=>by rw[qo ?_];exact q;rintro rfl;rw[h] at q;cases q;cases i
abbrev E6:=@j5.lst
def fB.ts{K:Ag}{a:Addr}(h:fB K H a xs)(t:j5 H H'):fB K H' a xs:=by
 rcases h with(h|⟨o,h⟩)|h
 .exact .inl<|.inl<|t _ _ rfl h
 .exact .inl<|.inr {o,t _ _ rfl h}
 .exact .inr h
def YV.ts{K:Ag}{a:Addr}(h:YV K H a xs)(t:j5 H H'):YV K H' a xs:=by
 rcases h with⟨o,h⟩|h
 .exact .inl {o,t _ _ rfl h}
 .exact .inr h
mutual
theorem RV.ts{G:G3}{H H':Hp}(t:j5 H H'):∀{y:Y} {v:V},RV G H y v->RV G H' y v
 |.KB,_,h=>h
 |.bl _,_,h=>h
 |.int _,_,h=>h
 |.str _,_,h=>h
 |.ref _,_,h=>h
 |.ty _,_,h=>h
 |.cd _,_,h=>h
 |.tup _,_,⟨a,I,e,s,r⟩=>{a,I,e,fB.ts s t,xo.ts t r}
 |.sq _,_,⟨a,I,e,s,r⟩=>{a,I,e,s.ts t,xo.ts t r}
theorem xo.ts{G:G3}{H H':Hp}(t:j5 H H'):∀{ys:Z0} {xs:WI},xo G H ys xs->xo G H' ys xs
 |[],_,h=>h
 |_::_,_,⟨x,I,e,r,s⟩=>{x,I,e,RV.ts t r,xo.ts t s}
end
theorem xo.length{G:G3}{H:Hp}:∀{ys:Z0} {xs:WI},xo G H ys xs->ys.length=xs.length
 |[],_,h=>by cases h;rfl
 |_::_,_,⟨x,I,e,_,s⟩=>by subst e;simp[xo.length s]
theorem xo.get{G:G3}{H:Hp}:∀{ys:Z0} {xs:WI} {i:Nat} {y:Y},xo G H ys xs->ys[i]?=some y->∃x,xs[i]?=some x/\RV G H y x
 |[],_,_,_,_,h=>by simp at h
 |_::_,_,0,_,⟨x,I,e,r,_⟩,h=>by subst e;simp at h;subst h;exact{(x),rfl,r}
 |_::_,_,i+1,_,⟨x,I,e,_,s⟩,h=>by subst e;obtain⟨J,q,r⟩:=xo.get (i:=i) s (by simpa using h);exact{J,by simpa using q,r}
theorem xo.app{G:G3}{H:Hp}:∀{ys zs:Z0} {xs us:WI},xo G H ys xs->xo G H zs us->xo G H (ys++zs) (xs++us)
 |[],_,_,_,h,q=>by cases h;exact q
 |_::_,_,_,_,⟨x,I,e,r,s⟩,q=>by subst e;exact{x,I++_,rfl,r,xo.app s q}
def xo.one{G:G3}{y:Y}{x:V}(r:RV G H y x):xo G H [y] [x]:={x,[],rfl,r,rfl}
theorem xo.take{G:G3}{H:Hp}:∀{ys:Z0} {xs:WI} (n:Nat),xo G H ys xs->xo G H (ys.take n) (xs.take n)
 |[],_,n,h=>by cases h;simp[xo]
 |_::_,_,0,_=>by simp[xo]
 |_::_,_,n+1,⟨x,I,e,r,s⟩=>by subst e;exact{x,I.take n,rfl,r,xo.take n s}
theorem xo.drop{G:G3}{H:Hp}:∀{ys:Z0} {xs:WI} (n:Nat),xo G H ys xs->xo G H (ys.drop n) (xs.drop n)
 |[],_,n,h=>by cases h;simp[xo]
 |_::_,_,0,h=>h
 |_::_,_,n+1,⟨x,I,e,r,s⟩=>by subst e;exact xo.drop n s
theorem xo.Zj{G:G3}{H:Hp}{y:Y}{x:V}(r:RV G H y x):∀{ys:Z0} {xs:WI} (i:Nat),xo G H ys xs->xo G H (ys.set i y) (xs.set i x)
 |[],_,_,h=>by cases h;simp[xo]
 |_::_,_,0,⟨J,I,e,_,s⟩=>by subst e;exact{(x),I,rfl,r,s}
 |_::_,_,i+1,⟨J,I,e,q,s⟩=>by subst e;exact{J,I.set i x,rfl,q,xo.Zj r i s}
def xo.dropLast{G:G3}{ys:Z0}(h:xo G H ys xs):xo G H ys.dropLast xs.dropLast:=by rw[List.dropLast_eq_take,List.dropLast_eq_take,h.length];exact h.take _
theorem xo.eraseIdx{G:G3}{H:Hp}:∀{ys:Z0} {xs:WI} (n:Nat),xo G H ys xs->xo G H (ys.eraseIdx n) (xs.eraseIdx n)
 |[],_,n,h=>by cases h;simp[xo]
 |_::_,_,0,⟨x,I,e,r,s⟩=>by subst e;exact s
 |_::_,_,n+1,⟨x,I,e,r,s⟩=>by subst e;exact{x,I.eraseIdx n,rfl,r,xo.eraseIdx n s}
def RO(G:G3)(H:Hp)(a:Addr):LO->Prop
 |.lst ys=>∃xs,H a=⇑xs/\xo G H ys xs
 |.KF kvs=>∃xs,H a=some (.dK xs)/\Paired (λ(p:j8×Y) (q:j8×V)=>p.1=q.1/\RV G H p.2 q.2) kvs xs
 |.ins C fs=>∃dx xs,H a=some (.ins C dx xs)/\Paired (λ(p:Str×Y) (q:Str×V)=>p.1=q.1/\RV G H p.2 q.2) fs xs
 |.exc C=>PP G.K H a C
 |.tb q=>vT H a q
def zw(G:G3)(H:Hp)(L:qj):Prop:=∀a o,L a=some o->RO G H a o
theorem RO.ex{G:G3}{a:Addr}:∀{o:LO},RO G H a o->∃u,H a=some u
 |.lst _,⟨_,h,_⟩=>{_,h}
 |.KF _,⟨_,h,_⟩=>{_,h}
 |.ins _ _,⟨_,_,h,_⟩=>{_,h}
 |.exc _,⟨_,h,_⟩=>{_,h}
 |.tb _,⟨_,h,_⟩=>{_,h}
theorem zw.none{G:G3}{L:qj}(h:zw G H L){p:Addr}(hp:H p=none):L p=none:=by cases e:L p with|none=>rfl|some o=>obtain⟨u,q⟩:=(h p o e).ex;rw[hp] at q;cases q
theorem RO.keep{G:G3}(t:j5 H H'){a:Addr}(e:H' a=H a):∀{o:LO},RO G H a o->RO G H' a o
 |.lst _,⟨I,h,r⟩=>{I,e.trans h,r.ts t}
 |.KF _,⟨I,h,r⟩=>{I,e.trans h,EY r λ_ _ ⟨a,b⟩=>{a,b.ts t}}
 |.ins _ _,⟨J,I,h,r⟩=>{J,I,e.trans h,EY r λ_ _ ⟨a,b⟩=>{a,b.ts t}}
 |.exc _,⟨o,h,c⟩=>{o,e.trans h,c}
 |.tb _,h=>vT.keep h e λb o u z=>t b _ rfl z
def zw.skip{G:G3}{L:qj}(h:zw G H L){p:Addr}{o:HO}(hp:H p=.none):zw G (upd H p o) L:=λa u e=>by obtain⟨x,q⟩:=(h a u e).ex;exact(h a u e).keep (EU hp) (qo<|ja q hp)
def zw.Xa{G:G3}{L:qj}(h:zw G H L){p:Addr}{ys:Z0}(hp:H p=.none)(r:xo G H ys xs):zw G (upd H p<|.lst xs) (qd L p<|.lst ys):=λa u e=>by
 by_cases c:a=p
 .subst c;rw[q9] at e;cases e;exact{xs,zf,r.ts<|EU hp}
 .rw[qb c] at e;exact(h a u e).keep (EU hp) (qo c)
def zw.X2{G:G3}{L:qj}(h:zw G H L){p:Addr}{ys:Z0}(hp:H p=⇑zs)(r:xo G H ys xs):zw G (upd H p<|.lst xs) (qd L p<|.lst ys):=λa u e=>by
 by_cases c:a=p
 .subst c;rw[q9] at e;cases e;exact{xs,zf,r.ts<|E6 hp}
 .rw[qb c] at e;exact(h a u e).keep (E6 hp) (qo c)
def qf(L L':qj):Prop:=∀a o,L a=some o->L' a=some o
def qf.refl(L:qj):qf L L:=λ_ _ h=>h
abbrev ES:=@qf.refl
def qf.trans{L L1 L2:qj}(a:qf L L1)(b:qf L1 L2):qf L L2:=λc o h=>b c o<|a c o h
def qf.new{L:qj}{p:Addr}{o:LO}(h:L p=none):qf L (qd L p o):=λa u e=>by rw[qb<|vh e h];exact e
abbrev By:=@qf.new
@[elab_as_elim] theorem PR {L:qj} {p:Addr} {o:LO} {motive:qj->Prop} (h:L p=none) (k:∀L',qf L L'->L' p=some o->motive L'):motive (qd L p o):=k _ (By h) q9
def zw.sub{G:G3}{L L':qj}(h:zw G H L')(s:qf L L'):zw G H L:=λa o e=>h a o<|s a o e
abbrev jd:=List<|WM
structure va(G:G3)(H:Hp)(σ:St)(τ:jd):Prop where
 len:σ.length=τ.length
 get:∀(i:Nat) y,τ[i]?=some (some y)->∃v,σ[i]?=some (some v)/\RV G H y v
theorem va.ts{G:G3}{τ:jd}(h:va G H σ τ)(t:j5 H H'):va G H' σ τ:=
 ⟨h.len,λi y e=>let ⟨v,a,b⟩:=h.get i y e;⟨v,a,b.ts t⟩⟩
def va.set{G:G3}{τ:jd}(h:va G H σ τ){y:Y}(r:RV G H y v):va G H (σ.set i<|some v) (τ.set i<|some y):=by
 refine{by simp[h.len],λj z e=>?_};by_cases c:i=j
 .subst c;have I:i<τ.length:=by
   by_cases q:i<τ.length
   .exact q
   .rw[Cs (by simp;omega)] at e;cases e
  rw[Cf I] at e;cases e;exact{v,Cf (by rw[h.len];exact I),r}
 .rw[Bp c] at e ⊢;exact h.get j z e
def va.more{G:G3}{τ:jd}(h:va G H σ τ)(n:Nat):va G H (σ++List.replicate n none) (τ++List.replicate n none):=by
 refine{by simp[h.len],λj z e=>?_};by_cases c:j<τ.length
 .rw[Av c] at e;rw[Av (by rw[h.len];exact c)];exact h.get j z e
 .rw[AH (by omega),CF] at e;split at e<;>cases e
def qC:jd->Nat->WM
 |[],_=>none
 |o::_,0=>o
 |_::r,i+1=>qC r i
theorem gG:∀(τ:jd) (i:Nat) {y:Y},qC τ i=some y->τ[i]?=some (some y)
 |[],_,_,h=>by cases h
 |o::_,0,_,h=>by simp[qC] at h;simp[h]
 |_::r,i+1,_,h=>by simp only[Dn];exact gG r i h
abbrev YK:=Y->qj->Prop
abbrev xu:=jd->qj->YK->Prop
abbrev hV:=jd->qj->(Bool->qj->Prop)->Prop
abbrev eX:=jd->qj->(Z0->qj->Prop)->Prop
structure vd where
 nx:jd->qj->Prop
 rt:YK
 bk:jd->qj->Prop:=λ_ _=>False
 ct:jd->qj->Prop:=λ_ _=>False
abbrev ai:=vd->jd->qj->Prop
abbrev kJ:=Y->jd->qj->(jd->qj->Prop)->Prop
abbrev uq:=Z0->jd->qj->(jd->qj->Prop)->Prop
abbrev n_:=jd->qj->(Z0->(qj->Prop)->qj->Prop)->Prop
abbrev t8:=Y->Y->qj->YK->Prop
def t7(G:G3)(H:Hp)(I:YK)(Q:VK):Prop:=∀v H' y L',j5 H H'->zw G H' L'->RV G H' y v->I y L'->Q v H'
def Y8(G:G3)(H:Hp)(I:Bool->qj->Prop)(Q:Bool->Hp->Prop):Prop:=∀b H' L',j5 H H'->zw G H' L'->I b L'->Q b H'
def Iw(G:G3)(H:Hp)(I:Z0->qj->Prop)(Q:WI->Hp->Prop):Prop:=∀vs H' ys L',j5 H H'->zw G H' L'->xo G H' ys vs->I ys L'->Q vs H'
def qE(G:G3)(H:Hp)(I:jd->qj->Prop)(Q:St->Hp->Prop):Prop:=∀σ H' τ L',j5 H H'->va G H' σ τ->zw G H' L'->I τ L'->Q σ H'
def t7.ts{G:G3}{I:YK}{Q:VK}(h:t7 G H I Q)(t:j5 H H'):t7 G H' I Q:=λv J y U g=>h v J y U<|t.trans g
def Y8.ts{G:G3}{I:Bool->qj->Prop}{Q:Bool->Hp->Prop}(h:Y8 G H I Q)(t:j5 H H'):Y8 G H' I Q:=λv J U g=>h v J U<|t.trans g
def qE.ts{G:G3}{I:jd->qj->Prop}{Q:St->Hp->Prop}(h:qE G H I Q)(t:j5 H H'):qE G H' I Q:=λv J y U g=>h v J y U<|t.trans g
structure yL(G:G3)(H:Hp)(D3:vd)(D:re):Prop where
 nx:qE G H D3.nx D.nx
 rt:t7 G H D3.rt D.rt
 bk:qE G H D3.bk D.bk
 ct:qE G H D3.ct D.ct
theorem yL.ts{G:G3}{I:vd}{D:re}(h:yL G H I D)(t:j5 H H'):yL G H' I D:={h.nx.ts t,h.rt.ts t,h.bk.ts t,h.ct.ts t}
def y0(G:G3)(t:xu):TE:=λσ H Q=>∃τ L I,va G H σ τ/\zw G H L/\t τ L I/\t7 G H I Q
def h_(G:G3)(t:hV):TT:=λσ H Q=>∃τ L I,va G H σ τ/\zw G H L/\t τ L I/\Y8 G H I Q
def Ix(G:G3)(t:eX):TA:=λσ H Q=>∃τ L I,va G H σ τ/\zw G H L/\t τ L I/\Iw G H I Q
def FI(G:G3)(t:ai):TS:=λD σ H=>∃τ L I,va G H σ τ/\zw G H L/\t I τ L/\yL G H I D
def FJ(G:G3)(g:kJ):TG:=λv σ H Q=>∃y τ L I,RV G H y v/\va G H σ τ/\zw G H L/\g y τ L I/\qE G H I Q
def PU(G:G3)(g:uq):e_:=λvs σ H Q=>∃ys τ L I,xo G H ys vs/\va G H σ τ/\zw G H L/\g ys τ L I/\qE G H I Q
structure gx(G:G3)(H₀:Hp)(J:It)(ys:Z0)(keep:qj->Prop):Prop where
 go:∀i H L,j5 H₀ H->zw G H L->keep L->i<ys.length->J.go i H
 X0:∀i H L x H' y,j5 H₀ H->zw G H L->keep L->ys[i]?=some y->J.X0 i H x H'->j5 H H'/\zw G H' L/\RV G H' y x
 stop:∀H L,j5 H₀ H->zw G H L->keep L->J.stop ys.length H
def GY(G:G3)(wi:n_):TI:=λσ H R=>∃τ L I,va G H σ τ/\zw G H L/\wi τ L I/\∀J H' ys keep L',j5 H H'->zw G H' L'->gx G H' J ys keep->I ys keep L'->R J H'
def kY(G:G3)(U:t8):R2:=λx y H Q=>∃x3 I L J,RV G H x3 x/\RV G H I y/\zw G H L/\U x3 I L J/\t7 G H J Q
def b_(G:G3)(J:Z0->qj->YK->Prop):WI->Hp->VK->Prop:=λxs H Q=>∃ys L I,xo G H ys xs/\zw G H L/\J ys L I/\t7 G H I Q
def Iy(G:G3)(J:Y->qj->YK->Prop):V->Hp->VK->Prop:=λx H Q=>∃y L I,RV G H y x/\zw G H L/\J y L I/\t7 G H I Q
def PE.imp{t u:TE}(h:PE X e t)(q:∀σ H Q,u σ H Q->t σ H Q):PE X e u:=λJ s σ H Q I z=>h J s σ H Q I<|q σ H Q z
abbrev E8:=@PE.imp
def PE.SL{G:G3}{t:TE}{u:xu}(h:PE X e t)(q:∀σ H Q τ L I,va G H σ τ->zw G H L->u τ L I->t7 G H I Q->t σ H Q):PE X e (y0 G u):=E8 h λσ H Q ⟨τ,L,I,a,b,c,d⟩=>q σ H Q τ L I a b c d
abbrev EV:=@PE.SL
def PT.imp{t u:TT}(h:PT X e t)(q:∀σ H Q,u σ H Q->t σ H Q):PT X e u:=λJ s σ H Q I z=>h J s σ H Q I<|q σ H Q z
def PT.SL{G:G3}{t:TT}{u:hV}(h:PT X e t)(q:∀σ H Q τ L I,va G H σ τ->zw G H L->u τ L I->Y8 G H I Q->t σ H Q):PT X e (h_ G u):=PT.imp h λσ H Q ⟨τ,L,I,a,b,c,d⟩=>q σ H Q τ L I a b c d
def PW.imp{t u:TT}(h:PW X e t)(q:∀σ H Q,u σ H Q->t σ H Q):PW X e u:=λU J s σ H Q I z=>h U J s σ H Q I<|q σ H Q z
def PW.SL{G:G3}{t:TT}{u:hV}(h:PW X e t)(q:∀σ H Q τ L I,va G H σ τ->zw G H L->u τ L I->Y8 G H I Q->t σ H Q):PW X e (h_ G u):=PW.imp h λσ H Q ⟨τ,L,I,a,b,c,d⟩=>q σ H Q τ L I a b c d
def PA.imp{e:Wv}{t u:TA}(h:PA X e t)(q:∀σ H Q,u σ H Q->t σ H Q):PA X e u:=λpos J s σ H Q I z=>h pos J s σ H Q I<|q σ H Q z
def PA.SL{G:G3}{e:Wv}{t:TA}{u:eX}(h:PA X e t)(q:∀σ H Q τ L I,va G H σ τ->zw G H L->u τ L I->Iw G H I Q->t σ H Q):PA X e (Ix G u):=PA.imp h λσ H Q ⟨τ,L,I,a,b,c,d⟩=>q σ H Q τ L I a b c d
def PS.imp{e:Stmt}{t u:TS}(h:PS X e t)(q:∀D σ H,u D σ H->t D σ H):PS X e u:=λJ s σ H Q I z=>h J s σ H Q I<|q _ σ H z
def PS.SL{G:G3}{e:Stmt}{t:TS}{u:ai}(h:PS X e t)(q:∀D σ H τ L I,va G H σ τ->zw G H L->u I τ L->yL G H I D->t D σ H):PS X e (FI G u):=PS.imp h λD σ H ⟨τ,L,I,a,b,c,d⟩=>q D σ H τ L I a b c d
abbrev EX:=@PS.SL
def hJ.imp{e:Ww}{t u:TS}(h:hJ X e t)(q:∀D σ H,u D σ H->t D σ H):hJ X e u:=λJ s σ H Q I z=>h J s σ H Q I<|q _ σ H z
def hJ.SL{G:G3}{e:Ww}{t:TS}{u:ai}(h:hJ X e t)(q:∀D σ H τ L I,va G H σ τ->zw G H L->u I τ L->yL G H I D->t D σ H):hJ X e (FI G u):=hJ.imp h λD σ H ⟨τ,L,I,a,b,c,d⟩=>q D σ H τ L I a b c d
def PF.imp{e:Wv}{t u:TT}(h:PF X e t)(q:∀σ H Q,u σ H Q->t σ H Q):PF X e u:=λJ s σ H Q I z=>h J s σ H Q I<|q σ H Q z
variable {g:kJ}{G:G3}{y:Y}{tA tc:hV}{ta tb td te ti to:xu}{kvs:List<|j8×Y}{ys:Z0}{L L' L0 L1:qj}{τ:jd}{gs:uq}
def ao(b:Bool)(A B:Prop):Prop:=match b with
 |true=>A
 |false=>B
def PV{b:Bool}{A B:Prop}(h:b=true->A)(k:b=false->B):ao b A B:=by cases b with|true=>exact h rfl|false=>exact k rfl
def xq{b:Bool}{A B:Prop}(e:b=true)(h:A):ao b A B:=by rw[e];exact h
def jv{b:Bool}{A B:Prop}(e:b=false)(h:B):ao b A B:=by rw[e];exact h
def zu{p:Prop} [Decidable p]{A B:Prop}(h:p->A)(k:¬p->B):ao (decide p) A B:=by
 by_cases c:p
 .rw[Az c];exact h c
 .rw[Ao c];exact k c
def nb(neg b:Bool):Bool:=match neg with
 |true=>!b
 |false=>b
def qh(i:Nat)(τ:jd)(L:qj)(Q:YK):Prop:=match qC τ i with
 |some y=>Q y L
 |none=>False
def yC(y:Y)(_:jd)(L:qj)(Q:YK):Prop:=Q y L
def ky(r:t8)(ta tb:xu)(τ:jd)(L:qj)(Q:YK):Prop:=ta τ L λx L1=>tb τ L1 λy L2=>r x y L2 Q
def Iz(r:Y->qj->YK->Prop)(ta:xu)(τ:jd)(L:qj)(Q:YK):Prop:=ta τ L λx L1=>r x L1 Q
def yI(C:Int->Int->Prop)(g:Int->Int->Y)(x y:Y)(L:qj)(Q:YK):Prop:=match x,y with
 |.int i,.int j=>C i j/\Q (g i j) L
 |_,_=>False
def g_(g:Int->Int->Y)(x y:Y)(L:qj)(Q:YK):Prop:=match x,y with
 |.int i,.int j=>Q (g i j) L
 |_,_=>False
def IA(x:Y)(L:qj)(Q:YK):Prop:=match x with
 |.int i=>Q (.int<|-i) L
 |_=>False
def dD(L:qj):Y->Option Z0
 |.tup ys=>some ys
 |.sq ys=>some ys
 |.ref a=>match L a with
  |⇑ys=>some ys
  |_=>none
 |_=>none
@[irreducible] def fA (L:qj) (a:Addr) (k:Z0->Prop):Prop:=match L a with
 |⇑ys=>k ys
 |_=>False
def vo{a:Addr}{k:Z0->Prop}(h:fA L a k):∃ys,L a=⇑ys/\k ys:=by
 unfold fA at h;split at h
 .rename_i ys e;exact{(ys),e,h}
 .exact h.elim
def qm{a:Addr}{k:Z0->Prop}(e:L a=⇑ys)(h:k ys):fA L a k:=by unfold fA;rw[e];exact h
def lF(L:qj)(x:Y)(k:Z0->Prop):Prop:=match x with
 |.tup ys=>k ys
 |.sq ys=>k ys
 |.ref a=>fA L a k
 |_=>False
def aY{a:Addr}(h:L a=⇑ys):dD L (.ref a)=some ys:=by show(match L a with|⇑ys=>some ys|_=>none)=some ys;rw[h]
def aS{x:Y}{k:Z0->Prop}(h:lF L x k):∃ys,dD L x=some ys/\k ys:=by
 cases x with
 |tup ys=>exact{(ys),rfl,h}
 |sq ys=>exact{(ys),rfl,h}
 |ref a=>obtain⟨ys,e,q⟩:=vo h;exact{ys,aY e,q}
 |_=>exact h.elim
def kW{a:Addr}(h:dD L (.ref a)=some ys):L a=⇑ys:=by
 have I:(match L a with|⇑ys=>some ys|_=>none)=some ys:=h;split at I
 .rename_i e;cases I;exact e
 .cases I
def PX{x:Y}{k:Z0->Prop}(e:dD L x=some ys)(h:k ys):lF L x k:=by cases x with|tup I=>cases e;exact h|sq I=>cases e;exact h|ref a=>exact qm (kW e) h|_=>cases e
def qc{a:Addr}{k:Z0->Prop}(e:L a=⇑ys)(h:k ys):lF L (.ref a) k:=PX (aY e) h
def gU(x y:Y)(L:qj)(Q:YK):Prop:=match x,y with
 |.int i,.int j=>Q (.int<|i+j) L
 |.str a,.str b=>a.length+b.length<=sizeLine/\Q (.str<|a++b) L
 |.ref a,.ref b=>∃ys zs,L a=⇑ys/\L b=⇑zs/\ys.length+zs.length<=sizeLine/\∀p,L p=none->Q (.ref p) (qd L p<|.lst<|ys++zs)
 |_,_=>False
def zX(L:qj)(Q:α->qj->Prop):Option α->Prop
 |some v=>Q v L
 |none=>False
def xj(kvs:List<|j8×Y)(k:j8):WM:=(kvs.find? λp=>decide<|p.1=k).map (·.2)
@[irreducible] def jG (L:qj) (a:Addr) (k:List (j8×Y)->Prop):Prop:=match L a with
 |some (.KF kvs)=>k kvs
 |_=>False
def kz{a:Addr}{k:List (j8×Y)->Prop}(h:jG L a k):∃kvs,L a=some (.KF kvs)/\k kvs:=by
 unfold jG at h;split at h
 .rename_i I e;exact{(I),e,h}
 .exact h.elim
def zj{a:Addr}{k:List (j8×Y)->Prop}(e:L a=some (.KF kvs))(h:k kvs):jG L a k:=by unfold jG;rw[e];exact h
def m5(x y:Y)(L:qj)(Q:YK):Prop:=match x,y with
 |.str z,.int i=>z.length<=sizeLine/\zX L (λc L=>Q (.str {#[c]}) L) (iV z.cps.toList i)
 |.cd kvs,.str k=>zX L (λs L=>Q (.str s) L)<|kvs.lookup k
 |.ref a,.str k=>jG L a λkvs=>zX L Q<|xj kvs<|.inr k
 |x,.int i=>lF L x λys=>zX L Q<|iV ys i
 |_,_=>False
def xJ(xs:Z0)(L:qj)(Q:YK):Prop:=match xs with
 |[.str z]=>z.length<=sizeLine/\Q (.int z.length) L
 |[x]=>lF L x λys=>Q (.int ys.length) L
 |_=>False
def A_(xs:Z0)(L:qj)(Q:YK):Prop:=match xs with
 |[.int i,.int j]=>Q (.int<|max i j) L
 |_=>False
def FK(xs:Z0)(L:qj)(Q:YK):Prop:=match xs with
 |[.int i,.int j]=>Q (.int<|min i j) L
 |_=>False
inductive mB where
 |KB|bool|int|str|tuple|list|dict
def mB.nm:mB->WH
 |.KB => "NoneType"
 |.bool => "bool"
 |.int => "int"
 |.str => "str"
 |.tuple => "tuple"
 |.list => "list"
 |.dict => "dict"
def o_(L:qj):Y->Option mB
 |.KB=>some .KB
 |.bl _=>some .bool
 |.int _=>some .int
 |.str _=>some .str
 |.tup _=>some .tuple
 |.sq _=>some .list
 |.ref a=>match L a with
  |⇑_=>some .list
  |some (.KF _)=>some .dict
  |_=>none
 |_=>none
def PY{a:Addr}(h:L a=⇑ys):o_ L (.ref a)=some .list:=by show(match L a with|⇑_=>some mB.list|some (.KF _)=>some .dict|_=>none)=some .list;rw[h]
def dU:mB->mB->Bool
 |.bool,.int=>true
 |.bool,.bool=>true
 |.int,.int=>true
 |.str,.str=>true
 |.tuple,.tuple=>true
 |.list,.list=>true
 |.dict,.dict=>true
 |.KB,.KB=>true
 |_,_=>false
@[irreducible] def FL (L:qj) (a:Addr) (k:mB->Prop):Prop:=match o_ L (.ref a) with
 |some T=>k T
 |none=>False
def PZ{a:Addr}{k:mB->Prop}(h:FL L a k):∃T,o_ L (.ref a)=some T/\k T:=by
 unfold FL at h;split at h
 .rename_i T e;exact{(T),e,h}
 .exact h.elim
def cO{a:Addr}{k:mB->Prop}(e:L a=⇑ys)(h:k .list):FL L a k:=by unfold FL;rw[PY e];exact h
def GZ(L:qj)(x:Y)(k:mB->Prop):Prop:=match x with
 |.KB=>k .KB
 |.bl _=>k .bool
 |.int _=>k .int
 |.str _=>k .str
 |.tup _=>k .tuple
 |.sq _=>k .list
 |.ref a=>FL L a k
 |_=>False
def vD{x:Y}{k:mB->Prop}(h:GZ L x k):∃T,o_ L x=some T/\k T:=by cases x with|ref a=>exact PZ h|ty n=>exact h.elim|cd k=>exact h.elim|_=>exact{_,rfl,h}
def IB(S:mB)(te:xu)(τ:jd)(L:qj)(Q:YK):Prop:=te τ L λx L1=>GZ L1 x λT=>Q (.bl<|dU T S) L1
def P0(S I:mB)(te:xu)(τ:jd)(L:qj)(Q:YK):Prop:=te τ L λx L1=>GZ L1 x λT=>Q (.bl<|dU T S||dU T I) L1
def gl:Y->Bool
 |.KB=>true
 |.bl _=>true
 |.int _=>true
 |.str _=>true
 |_=>false
def jX:Y->V
 |.KB=>.KB
 |.bl b=>.bl b
 |.int i=>.int i
 |.str x=>.str x
 |_=>.ty "?"
def RV.flat :∀{y:Y} {v:V},gl y=true->RV G H y v->v=jX y:=by intro y v e h;cases y<;>first|exact h|cases e
theorem jL:∀{y:Y},gl y=true->ay (jX y)=true
 |.KB,_=>rfl
 |.bl _,_=>rfl
 |.int _,_=>rfl
 |.str _,_=>rfl
theorem xo.flat :∀{ys:Z0} {xs:WI},ys.all gl=true->xo G H ys xs->xs=ys.map jX
 |[],_,_,h=>h
 |y::ys,_,f,⟨x,I,e,r,s⟩=>by rw[Ej,A7] at f;rw[e,r.flat f.1,s.flat f.2];rfl
def G2:Y->Bool
 |.ref _=>true
 |.sq _=>true
 |_=>false
def jo(L:qj):Nat->Y->Da->Prop
 |0,y,d=>gl y=true/\d=.s (jX y)
 |n+1,y,d=>(gl y=true/\d=.s (jX y))\/(∃ys ds,y=.tup ys/\d=.tup ds/\Paired (jo L n) ys ds)\/(∃ys ds,G2 y=true/\d=.lst ds/\dD L y=some ys/\Paired (jo L n) ys ds)
def A':Y->Bool
 |.ref _=>true
 |.tup _=>true
 |.sq _=>true
 |_=>false
def c_(neg:Bool)(x y:Y)(L:qj)(Q:YK):Prop:=match x,y with
 |.int i,.int j=>Q (.bl<|nb neg<|decide<|i=j) L
 |.str i,.str j=>Q (.bl<|nb neg<|decide<|i=j) L
 |.bl i,.bl j=>Q (.bl<|nb neg<|decide<|i=j) L
 |x,y=>A' x=true/\A' y=true/\∃n m d e,n<=128/\jo L n x d/\jo L m y e/\Q (.bl<|nb neg<|Da.eq d e) L
def pW(neg:Bool)(ta:xu)(τ:jd)(L:qj)(Q:YK):Prop:=ta τ L λx L1=>match x with
 |.KB=>Q (.bl<|!neg) L1
 |_=>Q (.bl neg) L1
def yB(t:xu)(τ:jd)(L:qj)(Q:Bool->qj->Prop):Prop:=t τ L λx L1=>match x with
 |.bl c=>Q c L1
 |_=>False
def mJ(t u:hV)(τ:jd)(L:qj)(Q:Bool->qj->Prop):Prop:=t τ L λc L1=>ao c (u τ L1 Q)<|Q false L1
def r_(t u:hV)(τ:jd)(L:qj)(Q:Bool->qj->Prop):Prop:=t τ L λc L1=>ao c (Q true L1)<|u τ L1 Q
def rT(t:hV)(τ:jd)(L:qj)(Q:Bool->qj->Prop):Prop:=t τ L λc L1=>Q (!c) L1
def P5(ta tb:xu)(τ:jd)(L:qj)(Q:YK):Prop:=ta τ L λx L1=>match x with
 |.bl c=>ao c (tb τ L1 Q)<|Q (.bl false) L1
 |_=>False
def P6(ta:xu)(τ:jd)(L:qj)(Q:YK):Prop:=ta τ L λx L1=>match x with
 |.bl c=>Q (.bl<|!c) L1
 |_=>False
def FM(t:hV)(ta tb:xu)(τ:jd)(L:qj)(Q:YK):Prop:=t τ L λc L1=>ao c (ta τ L1 Q)<|tb τ L1 Q
def jc(_:jd)(L:qj)(Q:Z0->qj->Prop):Prop:=Q [] L
def qp(ta:xu)(tr:eX)(τ:jd)(L:qj)(Q:Z0->qj->Prop):Prop:=ta τ L λx L1=>tr τ L1 λxs L2=>Q (x::xs) L2
def bC(t:eX)(τ:jd)(L:qj)(Q:YK):Prop:=t τ L λys L1=>match Nat.ble ys.length 1000 with
 |true=>Q (.tup ys) L1
 |false=>False
def cV(t:eX)(τ:jd)(L:qj)(Q:YK):Prop:=t τ L λys L1=>match Nat.ble ys.length 1000 with
 |true=>∀p,L1 p=none->Q (.ref p) (qd L1 p<|.lst ys)
 |false=>False
def oN(r:Z0->qj->YK->Prop)(t:eX)(τ:jd)(L:qj)(Q:YK):Prop:=t τ L λvs L1=>r vs L1 Q
abbrev FO:=jd->qj->(Wz->qj->Prop)->Prop
def mY(_:jd)(L:qj)(Q:Wz->qj->Prop):Prop:=Q none L
def F9(t:xu)(τ:jd)(L:qj)(Q:Wz->qj->Prop):Prop:=t τ L λx L1=>match x with
 |.int i=>Q (some i) L1
 |_=>False
def jO(xs:Z0)(lo hi:Wz):Z0:=(xs.drop<|KM xs.length 0 lo).take<|KM xs.length xs.length hi-KM xs.length 0 lo
def IC(x:Y)(lo hi:Wz)(L:qj)(Q:YK):Prop:=match x with
 |.ref a=>fA L a λys=>∀p,L p=none->Q (.ref p) (qd L p<|.lst<|jO ys lo hi)
 |.sq ys=>∀p,L p=none->Q (.ref p) (qd L p<|.lst<|jO ys lo hi)
 |_=>False
def F_(r:Y->Wz->Wz->qj->YK->Prop)(te:xu)(tl th:FO)(τ:jd)(L:qj)(Q:YK):Prop:=te τ L λx L1=>tl τ L1 λl L2=>th τ L2 λu L3=>r x l u L3 Q
def zv(t u:ai)(D:vd)(τ:jd)(L:qj):Prop:=t {D with nx:=u D} τ L
def aW(D:vd)(τ:jd)(L:qj):Prop:=D.nx τ L
def P7(D:vd)(τ:jd)(L:qj):Prop:=D.ct τ L
def wo(te:xu)(D:vd)(τ:jd)(L:qj):Prop:=te τ L λ_ L1=>D.nx τ L1
def bP(te:xu)(D:vd)(τ:jd)(L:qj):Prop:=te τ L D.rt
def ID(D:vd)(_:jd)(L:qj):Prop:=D.rt .KB L
def bN(c:hV)(t u:ai)(D:vd)(τ:jd)(L:qj):Prop:=c τ L λb L1=>ao b (t D τ L1)<|u D τ L1
def jw(te:xu)(g:kJ)(D:vd)(τ:jd)(L:qj):Prop:=te τ L λx L1=>g x τ L1 D.nx
def cg:jd->Nat->Y->jd
 |[],_,_=>[]
 |_::r,0,y=>some y::r
 |o::r,i+1,y=>o::cg r i y
theorem aB:∀(τ:jd) (i:Nat) (y:Y),cg τ i y=τ.set i (some y)
 |[],_,_=>rfl
 |_::_,0,_=>rfl
 |o::r,i+1,y=>by rw[cg,aB r i y];rfl
def qk(i:Nat)(y:Y)(τ:jd)(L:qj)(Q:jd->qj->Prop):Prop:=Q (cg τ i y) L
def bT(ys:Z0)(τ:jd)(L:qj)(Q:jd->qj->Prop):Prop:=match ys with
 |[]=>Q τ L
 |_=>False
def jt(t:kJ)(u:uq)(ys:Z0)(τ:jd)(L:qj)(Q:jd->qj->Prop):Prop:=match ys with
 |[]=>False
 |y::r=>t y τ L λI L'=>u r I L' Q
def dC(n:Nat)(t:uq)(y:Y)(τ:jd)(L:qj)(Q:jd->qj->Prop):Prop:=match y with
 |.tup ys=>match ys.length==n with
  |true=>t ys τ L Q
  |false=>False
 |_=>False
def IE(i j:Nat)(ta:eX)(D:vd)(τ:jd)(L:qj):Prop:=ta τ L λvs L1=>match vs with
 |[v,w]=>D.nx (cg (cg τ i v) j w) L1
 |_=>False
inductive jP{α:Type}(W:α->qj->Prop)(x:α)(L:qj):Prop
 |mk:∀L',qf L' L->W x L'->jP W x L
def IH{W:α->qj->Prop}{x:α}(h:W x L):jP W x L:={L,ES L,h}
inductive yE(c:hV)(tb:ai)(D:vd)(τ:jd)(L:qj):Prop
 |mk:∀W:Nat->jd->qj->Prop,(∃m,W m τ L)->(∀m τ L,W m τ L->
 c τ L λb L1=>ao b (∃N:jd->qj->Prop,(∀τ' L',N τ' L'->∃m',m'<m/\W m' τ' L')/\tb {D with nx:=jP N,ct:=jP N,bk:=D.nx} τ L1)<|D.nx τ L1)->yE c tb D τ L
inductive rq(ys:Z0)(keep:qj->Prop)(g:kJ)(tb:ai)(D:vd)(τ:jd)(L1:qj):Prop
 |mk:∀W:Nat->jd->qj->Prop,W 0 τ L1->(∀i τ L,W i τ L->keep L)->
 (∀i y τ L,ys[i]?=some y->W i τ L->g y τ L λτ2 L2=>tb {D with nx:=jP<|W<|i+1,ct:=jP<|W<|i+1,bk:=D.nx} τ2 L2)->(∀τ L,W ys.length τ L->D.nx τ L)->rq ys keep g tb D τ L1
def xm{keep:qj->Prop}{tb:ai}{D:vd}(h:rq ys keep g tb D τ L1):rq ys keep g tb D τ L1:=h
def P8{keep:qj->Prop}{tb:ai}{D:vd}(h:rq ys keep g tb D τ L1):rq ys keep g tb D τ L1:=h
def kC(wi:n_)(g:kJ)(tb:ai)(D:vd)(τ:jd)(L:qj):Prop:=wi τ L λys keep L1=>rq ys keep g tb D τ L1
@[irreducible] def uk (L:qj) (a:Addr) (R:Z0->(qj->Prop)->qj->Prop):Prop:=match L a with
 |⇑ys=>R ys (λL=>L a=⇑ys) L
 |_=>False
def j7{a:Addr}{R:Z0->(qj->Prop)->qj->Prop}(h:L a=⇑ys)(q:∀keep:qj->Prop,(∀L',L' a=L a->keep L')->R ys keep L):uk L a R:=by unfold uk;rw[h];exact q _ λL' I=>I.trans h
def vL{a:Addr}{R:Z0->(qj->Prop)->qj->Prop}(h:uk L a R):∃ys keep,dD L (.ref a)=some ys/\keep L/\(∀L',keep L'->dD L' (.ref a)=some ys)/\R ys keep L:=by
 unfold uk at h;split at h
 .rename_i ys e;exact{ys,_,aY e,e,λL' I=>aY I,h}
 .exact h.elim
def aK(tl:xu)(τ:jd)(L:qj)(R:Z0->(qj->Prop)->qj->Prop):Prop:=tl τ L λx L1=>match x with
 |.ref a=>uk L1 a R
 |.sq ys=>R ys (λ_=>True) L1
 |_=>False
def P9(tl:xu)(τ:jd)(L:qj)(R:Z0->(qj->Prop)->qj->Prop):Prop:=tl τ L λx L1=>match x with
 |.tup ys=>R ys (λ_=>True) L1
 |_=>False
def ak(lo:Int)(n:Nat):Z0:=(List.range n).map λk=>.int<|lo+(k:Nat)
def tG(ta:eX)(τ:jd)(L:qj)(R:Z0->(qj->Prop)->qj->Prop):Prop:=ta τ L λvs L1=>match vs with
 |[.int j]=>(-(2 ^ 62)<=j/\j<2 ^ 62)/\R (ak 0 j.toNat) (λ_=>True) L1
 |_=>False
def D_(_:jd)(L:qj)(Q:Bool->qj->Prop):Prop:=Q true L
inductive y8(ys:Z0)(keep:qj->Prop)(n:Nat)(g:kJ)(tc:hV)(te:xu)(τ:jd)(L1:qj)(Q:YK):Prop
 |mk:ys.length<sizeLine->∀W:Nat->Z0->qj->Prop,W 0 [] L1->(∀i zs L,W i zs L->keep L)->
 (∀i y zs L,ys[i]?=some y->W i zs L->g y (τ++List.replicate n none) L λτ2 L2=>tc τ2 L2 λb L3=>ao b (te τ2 L3 λz L4=>jP (W<|i+1) (zs++[z]) L4)<|jP (W<|i+1) zs L3)->
 (∀zs L,W ys.length zs L->∀p,L p=none->Q (.ref p) (qd L p<|.lst zs))->y8 ys keep n g tc te τ L1 Q
def yR{keep:qj->Prop}{Q:YK}(h:y8 ys keep n g tc te τ L1 Q):y8 ys keep n g tc te τ L1 Q:=h
def P_{keep:qj->Prop}{Q:YK}(h:y8 ys keep n g tc te τ L1 Q):y8 ys keep n g tc te τ L1 Q:=h
def d_(n:Nat)(wi:n_)(g:kJ)(tc:hV)(te:xu)(τ:jd)(L:qj)(Q:YK):Prop:=wi τ L λys keep L1=>y8 ys keep n g tc te τ L1 Q
abbrev km:=Z0->qj->YK->Prop
def xa(sp:km)(t:eX)(τ:jd)(L:qj)(Q:YK):Prop:=t τ L λys L1=>sp ys L1 Q
def x0(x:Y)(vs:Z0)(L:qj)(Q:YK):Prop:=match x,vs with
 |.ref a,[v]=>fA L a λys=>ys.length<sizeLine/\Q .KB (qd L a<|.lst<|ys++[v])
 |_,_=>False
def mU(x:Y)(vs:Z0)(L:qj)(Q:YK):Prop:=match x,vs with
 |.ref a,[.ref b]=>fA L a λys=>fA L b λzs=>ys.length+zs.length<=sizeLine/\Q .KB (qd L a<|.lst<|ys++zs)
 |_,_=>False
def F'(x:Y)(vs:Z0)(L:qj)(Q:YK):Prop:=match x,vs with
 |.ref a,[]=>fA L a λys=>zX L (λv L=>Q v<|qd L a<|.lst ys.dropLast)<|ys[ys.length-1]?
 |_,_=>False
variable {sp:km}
def aG.imp{f:WC->WC->Sem WC}{r U:R2}(h:aG X f r)(q:∀x y H Q,U x y H Q->r x y H Q):aG X f U:=λJ s g H x y v u Q I j l z=>h J s g H x y v u Q I j l<|q x y H Q z
def aG.SL{f:WC->WC->Sem WC}{r:R2}{u:t8}(h:aG X f r)(q:∀x y H Q x3 I L J,RV G H x3 x->RV G H I y->zw G H L->u x3 I L J->t7 G H J Q->r x y H Q):aG X f (kY G u):=aG.imp h λx y H Q ⟨x3,I,L,J,a,b,c,d,e⟩=>q x y H Q x3 I L J a b c d e
def YB.imp{f:WC->Sem WC}{r U:V->Hp->VK->Prop}(h:YB X f r)(q:∀x H Q,U x H Q->r x H Q):YB X f U:=λJ s g H x v Q I j z=>h J s g H x v Q I j<|q x H Q z
def je.imp{f:WC}{r U:WI->Hp->VK->Prop}(h:je X f r)(q:∀x H Q,U x H Q->r x H Q):je X f U:=λJ s g H x v Q I j z=>h J s g H x v Q I j<|q x H Q z
def je.SL{f:WC}{r:WI->Hp->VK->Prop}{u:Z0->qj->YK->Prop}(h:je X f r)(q:∀xs H Q ys L I,xo G H ys xs->zw G H L->u ys L I->t7 G H I Q->r xs H Q):je X f (b_ G u):=je.imp h λxs H Q ⟨ys,L,I,a,b,c,d⟩=>q xs H Q ys L I a b c d
abbrev E9:=@je.SL
def Yi.imp{r U:R2}(h:Yi X r)(q:∀x y H Q,U x y H Q->r x y H Q):Yi X U:=λvalue slice J s g H x y v u Q I j l z=>h value slice J s g H x y v u Q I j l<|q x y H Q z
def kF.imp{id:WH}{r U:V->WI->Hp->VK->Prop}(h:kF X id r)(q:∀x xs H Q,U x xs H Q->r x xs H Q):kF X id U:=λJ s g H x xs v j Q I l o z=>h J s g H x xs v j Q I l o<|q x xs H Q z
def se(U:zw G H L)(r:RV G H y v)(h:dD L y=some ys):∃p xs,v=.ref p/\(ag G.K H p xs\/fB G.K H p xs)/\xo G H ys xs:=by
 cases y with
 |tup J=>
  obtain⟨a,xs,e,s,q⟩:=r;cases h;exact{a,xs,e,.inr s,q}
 |sq J=>
  obtain⟨a,xs,e,s,q⟩:=r;cases h;exact{a,xs,e,.inl s.sq,q}
 |ref a=>
  cases (show v=.ref a from r);have I:(match L a with|⇑ys=>some ys|_=>none)=some ys:=h;split at I
  .rename_i J e;cases I;obtain⟨xs,g,q⟩:=U a _ e;exact{a,xs,rfl,.inl<|FA g,q}
  .cases I
 |_=>cases h
def P'{i:Int}(s:xo G H ys xs)(h:iV ys i=some y):∃x,iV xs i=some x/\RV G H y x:=by
 unfold iV at h ⊢;rw[<-s.length];cases e:f_ ys.length i with
 |none=>rw[e] at h;cases h
 |some j=>
  rw[e] at h;exact s.get (i:=j) h
section
variable {a b:Expr}{tc:xu}
abbrev QE(X:Cx)(e:Expr)(t:xu):Prop:=PE X e<|y0 X.g3 t
abbrev QT(X:Cx)(e:Expr)(t:hV):Prop:=PT X e<|h_ X.g3 t
abbrev QW(X:Cx)(e:Expr)(t:hV):Prop:=PW X e<|h_ X.g3 t
abbrev QA(X:Cx)(es:Wv)(t:eX):Prop:=PA X es<|Ix X.g3 t
abbrev QS(X:Cx)(st:Stmt)(t:ai):Prop:=PS X st<|FI X.g3 t
abbrev rO(X:Cx)(st:Ww)(t:ai):Prop:=hJ X st<|FI X.g3 t
abbrev QG(X:Cx)(e:Expr)(g:kJ):Prop:=PG X e<|FJ X.g3 g
abbrev FP(X:Cx)(es:Wv)(g:uq):Prop:=Yd X es<|PU X.g3 g
abbrev QI(X:Cx)(tg it:Expr)(w:n_):Prop:=PI X tg it<|GY X.g3 w
abbrev QF(X:Cx)(es:Wv)(t:hV):Prop:=PF X es<|h_ X.g3 t
def QE.Y1(h:PE X e<|mH i):QE X e (qh i):=EV h λj H Q l L o I J z k=>by
 unfold qh at z;split at z
 .rename_i y U;obtain⟨v,ev,g⟩:=I.get i y<|gG _ _ U;exact{v,ev,k v H y L (ET _) J g z}
 .exact z.elim
def QE.YI(h:PE X e<|tC v)(q:∀H,RV X.g3 H y v):QE X e (yC y):=EV h λJ H Q U L g j I z k=>k v H y L (ET _) I (q H) z
def qv(i:Nat)(hN:X.N[i]?=some x:=by rfl)(J:x_ X.env.scope x:=by first|exact Or.inl rfl|exact Or.inr (Or.inl rfl)|exact Or.inr<|Or.inr rfl)(hd:Fe x:=by decide)
 (I:Ff x:=by decide):QE X (.Name x pos) (qh i):=QE.Y1<|pv i hN J hd I
def kE :QE X (.Constant .none j pos) (yC .KB):=QE.YI Mt λ_=>rfl
def cT{b:Bool} :QE X (.Constant (.bool b) j pos) (yC<|.bl b):=QE.YI Ms λ_=>rfl
def qg{i:Int} :QE X (.Constant (.int i) j pos) (yC<|.int i):=QE.YI HE λ_=>rfl
def j6 :QE X (.Constant (.str x) j pos) (yC<|.str x):=QE.YI eJ λ_=>rfl
def yb{r:t8}(σ:St)(H:Hp)(Q:VK):y0 G (ky r ta tb) σ H Q->Fv (kY G r) (y0 G ta) (y0 G tb) σ H Q:=λ⟨j,L,t,l,C,z,k⟩=>
 ⟨j,L,_,l,C,z,λv H1 y T o I J z1=>{j,T,_,l.ts o,I,z1,λv2 H2 y2 L2 p U g z2=>{y,y2,L2,t,J.ts p,g,U,z2,k.ts<|o.trans p}}⟩
def qr{op:Operator}{r:t8}(h:aG X (binaryOp op)<|kY X.g3 r)(I:QE X a ta)(J:QE X b tb):QE X (.BinOp a op b pos) (ky r ta tb):=E8 (Nw h I J) yb
def Qa{r:t8}(h:Yi X<|kY X.g3 r)(I:QE X a ta)(J:QE X b tb)(hp:sH b):QE X (.Subscript a b pos) (ky r ta tb):=E8 (ON h I J hp) yb
def dq{op:CmpOp}{r:t8}(h:aG X (compareOp op)<|kY X.g3 r)(I:QE X a ta)(J:QE X b tb)(U:behindInMarks op b=false):QE X (.Compare a [op] [b] pos) (ky r ta tb):=E8 (NL h I J U) yb
def II{t:xu}(σ:St)(H:Hp)(Q:Bool->Hp->Prop):h_ G (yB t) σ H Q->HX (y0 G t) σ H Q:=λ⟨g,L,C,j,l,z,k⟩=>
 ⟨g,L,_,j,l,z,λv o y p r I J U=>by cases y with|bl b=>exact{b,J,k b o p r I U}|_=>exact U.elim⟩
def IJ{t:xu}(σ:St)(H:Hp)(Q:Bool->Hp->Prop):h_ G (yB t) σ H Q->tB (y0 G t) σ H Q:=II σ H Q
def js{op:CmpOp}{r:t8}(h:aG X (compareOp op)<|kY X.g3 r)(J:QE X a ta)(U:QE X b tb)(g:behindInMarks op b=false):QT X (.Compare a [op] [b] pos) (yB<|ky r ta tb):=
 PT.imp (tV h J U g) λI H Q q=>by have j:=II I H Q q;obtain⟨l,L,o,p,t,z,k⟩:=j;exact yb I H _ {(l),L,o,p,t,z,k}
def ko(h:QE X e te)(I:∀whole,isTrue e X.env whole=(do let v <-whole;standAt e.pos;holding [v] (truthy v)):=by intro _;rfl):QT X e (yB te):=PT.imp (Mx h I) IJ
def Ga{f:WC->WC->Sem WC}{C:Int->Int->Prop}{g:Int->Int->V}{g3:Int->Int->Y}(h:aG X f<|rI C g)(e:∀i j H,RV X.g3 H (g3 i j)<|g i j):aG X f (kY X.g3<|yI C g3):=aG.SL h λx y H Q J I L p U l o z k=>by
 cases J with
 |int i=>
  cases I with|int j=>exact{i,j,U,l,z.1,k _ H _ L (ET _) o (e i j H) z.2}|_=>exact z.elim
 |_=>cases I<;>exact z.elim
def FQ{f:WC->WC->Sem WC}{g:Int->Int->V}{g3:Int->Int->Y}(h:aG X f<|j_ g)(e:∀i j H,RV X.g3 H (g3 i j)<|g i j):aG X f (kY X.g3<|g_ g3):=aG.SL h λx y H Q J I L p U l o z k=>by
 cases J with
 |int i=>
  cases I with|int j=>exact{i,j,U,l,k _ H _ L (ET _) o (e i j H) z}|_=>exact z.elim
 |_=>cases I<;>exact z.elim
def bz:aG X (binaryOp .Sub) (kY X.g3<|g_ λi j=>.int<|i-j):=FQ Nz λ_ _ _=>rfl
def uD:aG X (binaryOp .Mult) (kY X.g3<|yI Zc λi j=>.int<|i*j):=Ga NA λ_ _ _=>rfl
def wx:aG X (binaryOp .FloorDiv) (kY X.g3<|yI GJ λi j=>.int<|i / j):=Ga NB λ_ _ _=>rfl
def x9:aG X (binaryOp .Mod) (kY X.g3<|yI (λ_ j=>0<j) λi j=>.int<|i % j):=Ga NC λ_ _ _=>rfl
def Qb:aG X (binaryOp .Pow) (kY X.g3<|yI GK λi j=>.int<|i ^ j.toNat):=Ga ND λ_ _ _=>rfl
def sN:aG X (compareOp .Lt) (kY X.g3<|g_ λi j=>.bl<|decide<|i<j):=FQ NH λ_ _ _=>rfl
def Qc:aG X (compareOp .LtE) (kY X.g3<|g_ λi j=>.bl<|decide<|i<=j):=FQ NI λ_ _ _=>rfl
def Gb:aG X (compareOp .Gt) (kY X.g3<|g_ λi j=>.bl<|decide<|j<i):=FQ NJ λ_ _ _=>rfl
def Qd:aG X (compareOp .GtE) (kY X.g3<|g_ λi j=>.bl<|decide<|j<=i):=FQ NK λ_ _ _=>rfl
def jm:aG X (binaryOp .Add) (kY X.g3 gU):=aG.SL Pk λx y H Q t J L Q3 U g I z k=>by
 cases t with
 |int i=>
  cases J with|int j=>cases U;cases g;exact k _ H _ L (ET _) I (by rfl) z|_=>exact z.elim
 |str i=>
  cases J with|str j=>cases U;cases g;exact{z.1,k _ H _ L (ET _) I (by rfl) z.2}|_=>exact z.elim
 |ref a=>
  cases J with
  |ref b=>
   cases U;cases g;obtain⟨ys,zs,C,T,hz,q⟩:=z;obtain⟨xs,h1,o⟩:=I a _ C;obtain⟨us,h2,r⟩:=I b _ T;refine{xs,us,h1,h2,by rw[<-o.length,<-r.length];exact hz,λp l=>?_};exact k _ _ _ _ (EU l) (I.Xa l<|o.app r) (by rfl)<|q p<|I.none l
  |_=>exact z.elim
 |_=>cases J<;>exact z.elim
def vH{kvs:List<|Str×Str}{k:Str}(h:kvs.lookup k=some x):am (kvs.map λp=>((Sum.inr p.1:j8),V.str p.2)) (Sum.inr k)=some (V.str x):=by
 induction kvs with
 |nil=>simp at h
 |cons p r I=>
  obtain⟨a,b⟩:=p;unfold am;rw[AQ,BK];rw[Bk] at h;by_cases c:k=a
  .subst c;simp at h;simp[h]
  .have J:(k==a)=false:=by simpa using c
   rw[J] at h;have U:decide ((Sum.inr a:j8)=Sum.inr k)=false:=Ao λz=>c (Sum.inr.inj z).symm;simp only[U];exact I h
def a9{xs:List<|j8×V}{k:j8}(p:Paired (λ(p:j8×Y) (q:j8×V)=>p.1=q.1/\RV G H p.2 q.2) kvs xs)(h:xj kvs k=some y):∃x,am xs k=some x/\RV G H y x:=by
 induction p with
 |nil=>cases h
 |@cons a b _ _ r t U=>
  obtain⟨J,l⟩:=a;obtain⟨g,j⟩:=b;obtain⟨e,r⟩:=r;cases (show J=g from e);unfold xj at h;unfold am;rw[BK] at h ⊢;by_cases c:J=k
  .have I:=Az c;simp only[I] at h ⊢;cases h;exact{(j),rfl,r}
  .have I:=Ao c;simp only[I] at h ⊢;exact U h
def asg(K:Ag)(P:WE)(w:WF)(hK:X.K=K:=by rfl)(hP:X.prog=P:=by rfl)(hw:X.w=w:=by rfl):Yi X (kY ⟨K,P,w⟩ m5):=by
 subst hK hP hw;refine Yi.imp Pl λx y H Q ⟨x3,j,L,Q3,I,l,o,z,k⟩=>?_;have seq:∀{i:Int} {x3:Y},RV X.g3 H x3 x->y=.int i->(lF L x3 λg=>zX L Q3<|iV g i)->Ir X.K X.prog X.w x y H Q:=by
  intro i x3 I ey z;subst ey;obtain⟨g,es,z⟩:=aS z;obtain⟨p,C,e,sq,rv⟩:=se o I es;subst e;cases ea:iV g i with
  |none=>rw[ea] at z;exact z.elim
  |some y=>
   rw[ea] at z;obtain⟨x,ex,T⟩:=P' rv ea;exact{C,x,sq,ex,k _ H _ L (ET _) o T z}
 cases x3 with
 |str s=>
  cases j with
  |int i=>
   cases I;cases l;obtain⟨z1,r⟩:=z;cases ea:iV s.cps.toList i with
   |none=>rw[ea] at r;exact r.elim
   |some c=>rw[ea] at r;exact{z1,c,ea,k _ H _ L (ET _) o (by rfl) r}
  |_=>exact z.elim
 |cd J=>
  cases j with
  |str s=>
   obtain⟨a,ea,kd⟩:=I;cases ea;cases l;have U:zX L (λs L=>Q3 (.str s) L) (J.lookup s):=z;cases el:J.lookup s with
   |none=>rw[el] at U;exact U.elim
   |some t=>rw[el] at U;exact{_,_,.inr kd,vH el,k _ H _ L (ET _) o (by rfl) U}
  |int i=>exact z.elim
  |_=>exact z.elim
 |ref a=>
  cases j with
  |int i=>exact seq (x3:=.ref a) I l z
  |str s=>
   cases I;cases l;obtain⟨J,e,U⟩:=kz z;obtain⟨C,e2,pr⟩:=o a _ e;cases ev:xj J (Sum.inr s) with
   |none=>rw[ev] at U;exact U.elim
   |some y=>
    rw[ev] at U;obtain⟨x,ex,I⟩:=a9 pr ev;exact{C,x,.inl<|.inl e2,ex,k _ H _ L (ET _) o I U}
  |_=>exact z.elim
 |tup g=>
  cases j with|int i=>exact seq (x3:=.tup g) I l z|_=>exact z.elim
 |sq g=>
  cases j with|int i=>exact seq (x3:=.sq g) I l z|_=>exact z.elim
 |_=>cases j<;>exact z.elim
def xo.inv1(h:xo G H [y] xs):∃x,xs=[x]/\RV G H y x:=by obtain⟨x,I,e,r,s⟩:=h;cases (show I=[] from s);exact{(x),e,r}
def xo.inv2{J:Y}(h:xo G H [y,J] xs):∃x I,xs=[x,I]/\RV G H y x/\RV G H J I:=by obtain⟨x,U,e,r,s⟩:=h;obtain⟨I,g,j⟩:=s.inv1;exact{x,I,by rw[e,g],r,j}
def Qe(K:Ag)(P:WE)(w:WF)(g:X.K=K:=by rfl)(j:X.prog=P:=by rfl)(hw:X.w=w:=by rfl):je X (.builtin "len") (b_ ⟨K,P,w⟩ xJ):=by
 subst g j hw;refine E9 Pn λC H Q l L T U I z k=>?_;unfold xJ at z;split at z
 .obtain⟨x,rfl,r⟩:=U.inv1;cases r;exact{z.1,k _ H _ L (ET _) I (by rfl) z.2}
 .rename_i y _;obtain⟨x,rfl,r⟩:=U.inv1;obtain⟨l,o,z⟩:=aS z;obtain⟨p,t,e,sq,J⟩:=se I r o;subst e;refine{t,sq,?_};rw[<-J.length];exact k _ H _ L (ET _) I (by rfl) z
 .exact z.elim
def Qf(i j:Int):(if j > i then j else i)=max i j:=by split<;>lia
def Qg(i j:Int):(if j<i then j else i)=min i j:=by split<;>lia
def Gc(hc:X.calm=true:=by rfl):je X (.builtin "max") (b_ X.g3 A_):=E9 (NN hc) λl H Q o L p I J z k=>by
 unfold A_ at z;split at z
 .rename_i i j;obtain⟨x,r,rfl,U,g⟩:=I.inv2;cases U;cases g;refine{i,j,rfl,?_};rw[Qf];exact k _ H _ L (ET _) J (by rfl) z
 .exact z.elim
def zS(hc:X.calm=true:=by rfl):je X (.builtin "min") (b_ X.g3 FK):=E9 (NO hc) λl H Q o L p I J z k=>by
 unfold FK at z;split at z
 .rename_i i j;obtain⟨x,r,rfl,U,g⟩:=I.inv2;cases U;cases g;refine{i,j,rfl,?_};rw[Qg];exact k _ H _ L (ET _) J (by rfl) z
 .exact z.elim
def Qh:YB X (unaryOp .USub) (Iy X.g3 IA):=YB.imp NF λx H Q ⟨y,L,U,I,J,z,k⟩=>by cases y with|int i=>exact{i,I,k _ H _ L (ET _) J (by rfl) z}|_=>exact z.elim
def Qi{op:UnaryOp}{r:Y->qj->YK->Prop}(h:YB X (unaryOp op)<|Iy X.g3 r)(U:QE X a ta):QE X (.UnaryOp op a pos) (Iz r ta):=EV (Nx h U) λT H Q g L j l o z k=>
 ⟨g,L,_,l,o,z,λv H1 y p t I J C=>{y,p,j,J,I,C,k.ts t}⟩
end
section
variable {a b:Expr}{tc:xu}
def fk{a:Addr}(J:zw G H L)(h:dD L (.ref a)=some ys):∃xs,ag G.K H a xs/\xo G H ys xs:=by
 have I:(match L a with|⇑ys=>some ys|_=>none)=some ys:=h;split at I
 .rename_i e;cases I;obtain⟨xs,U,q⟩:=J a _ e;exact{xs,FA U,q}
 .cases I
def rD(I:zw G H L)(r:RV G H y v)(J:G2 y=true)(h:dD L y=some ys):∃a xs,v=.ref a/\ag G.K H a xs/\xo G H ys xs:=by
 cases y with
 |ref a=>obtain⟨xs,s,q⟩:=fk I h;exact{(a),xs,r,s,q}
 |sq U=>obtain⟨a,xs,e,s,q⟩:=r;cases h;exact{(a),xs,e,s.sq,q}
 |_=>cases J
def Qj{G:G3}{T:mB}{σ:St}(I:qx X pins σ H s)(C:zw X.g3 H L)(r:RV X.g3 H y v)(J:zo v u)(h:o_ L y=some T)
 {c:WC} {b:Bool} (e:PySem.W.kitOne X.K (.type T.nm) c=some b) (U:∀tk,Q (.bool b) {s with toks:=tk}):
 wpAny (model X.prog X.w) A (call (.builtin "isinstance") [u,c]) Q E s:=by
 cases y with
 |KB=>cases h;cases r;exact bK I J .KB e U
 |bl b=>cases h;cases r;exact bK I J (.bl _) e U
 |int i=>cases h;cases r;exact bK I J (.int _) e U
 |str x=>cases h;cases r;exact bK I J (.str _) e U
 |tup ys=>
  cases h;obtain⟨a,j,rfl,sq,_⟩:=r;cases (show u=Value.ref a from J);obtain⟨l,_,⟨o,h1,h2,_⟩,_⟩:=I.tuple sq;exact BF DQ I.SC {(o),h1,h2} e (λz=>nomatch z) U
 |sq ys=>
  cases h;obtain⟨a,j,rfl,sq,_⟩:=r;cases (show u=Value.ref a from J);obtain⟨l,_,⟨o,n,h1,h2,_⟩,_⟩:=I.list sq.sq;exact BF CU I.SC {(o),h1,h2} e (λz=>nomatch z) U
 |ref a=>
  cases (show v=.ref a from r);have g:(match L a with|⇑_=>some mB.list|some (.KF _)=>some .dict|_=>none)=some T:=h;split at g
  .rename_i ys p;cases g;obtain⟨j,t,_⟩:=C a _ p;exact bK I J (.lst t) e U
  .rename_i a1 p;cases g;obtain⟨j,t,_⟩:=C a _ p;exact bK I J (.dK t) e U
  .cases g
 |_=>cases h
def sO(K:Ag):∀T S:mB,PySem.W.kitOne K (.type T.nm) (.type S.nm)=some (dU T S):=by intro T S;cases T<;>cases S<;>rfl
def Qk(G:G3)(S:mB):WI->Hp->VK->Prop:=λxs H Q=>∃y v L I T,xs=[v,.ty S.nm]/\RV G H y v/\zw G H L/\o_ L y=some T/\I (.bl<|dU T S) L/\t7 G H I Q
def Ql(S:mB):je X (.builtin "isinstance") (Qk X.g3 S):=by rintro J s o H p t Q I r⟨y,v,L,C,T,rfl,g,U,ty,q,k⟩;obtain⟨u,c,rfl,j,l⟩:=zk.two r;cases (show c=Value.type S.nm from l);exact ji I.tk<|Qj (G:=X.g3) I U g j ty (sO _ T S) λtk ht=>{.bl _,H,I.tok _,rfl,k _ H _ L (ET _) U (by rfl) q}
def vt{I:Str}(S:mB)(t:Gl X "isinstance")(C:X.mg "isinstance"=none)(J:Gl X I)(U:X.mg I=none)(g:bootBuiltins I=some (.type S.nm))(ha:QE X a ta)
 (hn:I ≠ "__name__" := by decide) (hd:(I==("__debug__" : Str))=false:=by decide)
 (hs:starEach [a,.Name I p1] X.env=(false,eval a X.env)::starEach [.Name I p1] X.env:=by rfl) (j:starEach [.Name I p1] X.env=(false,eval (.Name I p1) X.env)::starEach [] X.env:=by rfl)
 (hp:(backTo pos<|starEach [.Name I p1] X.env).any (·.1)=false:=by rfl):
 QE X (.Call (.Name "isinstance" p) [a,.Name I p1] [] pos) (IB S ta):=by
 refine E8 (iR (Ql S) t C gi (aP ha (aP (GV J U g hn hd) fH j) hs) (by decide) (by decide) hs hp) ?_;rintro σ H Q ⟨τ,L,Q3,rs,rl,z,k⟩;refine{τ,L,_,rs,rl,z,λv H1 y L1 t1 l o r=>?_};obtain⟨T,et,r⟩:=vD r;exact{y,v,L1,Q3,T,rfl,o,l,et,r,k.ts t1}
def uj(neg:Bool)(x y:Y)(L:qj)(Q:YK):Prop:=lF L y λys=>gl x=true/\ys.all gl=true/\Q (.bl<|nb neg<|k_ (jX x)<|ys.map jX) L
def IK(neg:Bool){op:CmpOp}(h:aG X (compareOp op)<|GP X.K neg):aG X (compareOp op) (kY X.g3<|uj neg):=aG.SL h λx y H Q I t L C g j U z k=>by
 obtain⟨J,l,f1,f2,q⟩:=aS z;obtain⟨p,T,e,sq,o⟩:=se U j l;rw[g.flat f1];rw[o.flat f2] at sq;refine{p,_,e,sq,jL f1,?_,?_}
 .rw[List.all_map,Ck];intro y r;exact jL<|Ck.mp f2 y r
 .have:(if neg=true then !k_ (jX I) (J.map jX) else k_ (jX I) (J.map jX))=(nb neg<|k_ (jX I)<|J.map jX):=by cases neg<;>simp[nb]
  rw[this];exact k _ H _ L (ET _) U (by rfl) q
def IL(K:Ag)(P:WE)(w:WF)(I:X.K=K:=by rfl)(J:X.prog=P:=by rfl)(hw:X.w=w:=by rfl):aG X (compareOp .In) (kY ⟨K,P,w⟩<|uj false):=by subst I J hw;exact IK false OY
def xY(K:Ag)(P:WE)(w:WF)(I:X.K=K:=by rfl)(J:X.prog=P:=by rfl)(hw:X.w=w:=by rfl):aG X (compareOp .NotIn) (kY ⟨K,P,w⟩<|uj true):=by subst I J hw;exact IK true tN
theorem jo.rep{G:G3}{H:Hp}{L:qj}(j:zw G H L):∀{n:Nat} {y:Y} {d:Da} {v:V},jo L n y d->RV G H y v->aa G.K H n v d
 |0,y,d,v,⟨f,e⟩,r=>by rw[r.flat f];exact{e,jL f}
 |n+1,y,d,v,h,r=>by
  have both:∀{U:Z0} {J:List Da} {I:WI},Paired (jo L n) U J->xo G H U I->Paired (aa G.K H n) I J:=by
   intro U J I p
   induction p generalizing I with
   |nil=>intro r;cases (show I=[] from r);exact .nil
   |cons q t l=>
    rintro⟨x,o,rfl,C,T⟩;exact .cons (jo.rep j q C)<|l T
  rcases h with⟨f,e⟩|⟨U,J,rfl,rfl,p⟩|⟨U,J,hy,rfl,es,p⟩
  .rw[r.flat f];exact .inl {e,jL f}
  .obtain⟨a,I,rfl,sq,g⟩:=r;exact .inr<|.inl {a,I,J,rfl,rfl,sq,both p g}
  .obtain⟨a,I,rfl,sq,g⟩:=rD j r hy es;exact .inr<|.inr {a,I,J,rfl,rfl,sq,both p g}
def zG(h:A' y=true)(r:RV G H y v):∃a,v=.ref a:=by
 cases y with
 |ref a=>exact{(a),r}
 |tup I=>obtain⟨a,J,e,_⟩:=r;exact{(a),e}
 |sq I=>obtain⟨a,J,e,_⟩:=r;exact{(a),e}
 |_=>cases h
def IM(neg:Bool)(K:Ag)(P:WE)(w:WF)(g:X.A.units+128<cLine)(l:X.K=K)(o:X.prog=P)(hw:X.w=w):aG X (compareOp<|F7 neg) (kY ⟨K,P,w⟩<|c_ neg):=by
 subst l o hw;refine aG.SL (Pp neg g) λx y H Q T y3 L r J U I z k=>?_;have t:∀{p q:Prop} [Decidable p] [Decidable q],(p↔q)->q_ neg (decide p)=nb neg (decide q):=λh=>by rw[Eo.mpr h];cases neg<;>rfl
 unfold c_ at z;split at z
 any_goals
  rename_i i j;cases J;cases U;refine{rfl,?_};rw[t (q:=i=j) (by simp)];exact k _ H _ L (ET _) I (by rfl) z
 obtain⟨f1,f2,n,m,d,e,C,h1,h2,q⟩:=z;obtain⟨a,rfl⟩:=zG f1 J;obtain⟨b,rfl⟩:=zG f2 U;have q:r (.bl<|q_ neg<|Da.eq d e) L:=by cases neg<;>exact q
 exact{n,m,d,e,C,h1.rep I J,h2.rep I U,k _ H _ L (ET _) I (by rfl) q}
def qU(K:Ag)(P:WE)(w:WF)(I:X.A.units+128<cLine)(J:X.K=K:=by rfl)(U:X.prog=P:=by rfl)(hw:X.w=w:=by rfl):aG X (compareOp .Eq) (kY ⟨K,P,w⟩<|c_ false):=IM false K P w I J U hw
def IP(K:Ag)(P:WE)(w:WF)(I:X.A.units+128<cLine)(J:X.K=K:=by rfl)(U:X.prog=P:=by rfl)(hw:X.w=w:=by rfl):aG X (compareOp .NotEq) (kY ⟨K,P,w⟩<|c_ true):=IM true K P w I J U hw
def RV.XN(r:RV G H y v):decide (v=.KB)=(match y with|.KB=>true|_=>false):=by
 cases y with
 |KB=>cases r;rfl
 |cd I=>obtain⟨a,rfl,_⟩:=r;rfl
 |tup J=>obtain⟨a,U,rfl,_⟩:=r;rfl
 |sq J=>obtain⟨a,U,rfl,_⟩:=r;rfl
 |_=>cases r;rfl
def IQ(σ:St)(H:Hp)(Q:VK):y0 G (pW false ta) σ H Q->HF (y0 G ta) σ H Q:=λ⟨U,L,t,g,j,z,k⟩=>
 ⟨U,L,_,g,j,z,λv l y o p I J r=>by dsimp only;rw[J.XN];cases y<;>exact k _ l _ o p I (by rfl) r⟩
def Qm(σ:St)(H:Hp)(Q:VK):y0 G (pW true ta) σ H Q->HG (y0 G ta) σ H Q:=λ⟨U,L,t,g,j,z,k⟩=>
 ⟨U,L,_,g,j,z,λv l y o p I J r=>by dsimp only;rw[J.XN];cases y<;>exact k _ l _ o p I (by rfl) r⟩
def IR(h:QE X a ta):QE X (.Compare a [.Is] [.Constant .none j fx] pos) (pW false ta):=E8 (Mw<|HH h) IQ
def IS{t:TE}(h:∀σ H Q,y0 G te σ H Q->t σ H Q)(σ:St)(H:Hp)(Q:Bool->Hp->Prop):h_ G (yB te) σ H Q->tB t σ H Q:=λq=>h σ H _<|IJ σ H Q q
def wX(h:QE X a ta):QT X (.Compare a [.Is] [.Constant .none j fx] pos) (yB<|pW false ta):=PT.imp (HI<|HH h)<|IS IQ
def cM(h:QE X a ta):QT X (.Compare a [.IsNot] [.Constant .none j fx] pos) (yB<|pW true ta):=PT.imp (HI<|Mv h)<|IS Qm
end
section
variable {a b:Expr}{rest:Wv}{tc:xu}{tB:hV}{tr:eX}
def vq(h:QT X a tA):QW X (.BoolOp .And [a] pos) tA:=MB h
def dk(h:QT X a tA):QW X (.BoolOp .Or [a] pos) tA:=MC h
def w9(h:QT X a tA)(k:QW X (.BoolOp .And (b::rest) pos) tB):QW X (.BoolOp .And (a::b::rest) pos) (mJ tA tB):=PW.SL (MD h k) λt H Q U L o g p z k=>
 ⟨U,L,_,g,p,z,λc r j J I l=>by cases c with|true=>rw[Ar rfl];exact{U,j,o,g.ts J,I,l,k.ts J}|false=>rw[Ap AI];exact k _ r j J I l⟩
def fg(h:QT X a tA)(k:QW X (.BoolOp .Or (b::rest) pos) tB):QW X (.BoolOp .Or (a::b::rest) pos) (r_ tA tB):=PW.SL (ME h k) λt H Q U L o g p z k=>
 ⟨U,L,_,g,p,z,λc r j J I l=>by cases c with|true=>rw[Ar rfl];exact k _ r j J I l|false=>rw[Ap AI];exact{U,j,o,g.ts J,I,l,k.ts J}⟩
def kj(h:QW X a tA):QT X a tA:=PW.pt h
def bU(h:QT X a tA):QT X (.UnaryOp .Not a pos) (rT tA):=PT.SL (MF h) λr H Q J L t U g z k=>
 ⟨J,L,_,U,g,z,λc j l o I p=>k _ j l o I p⟩
def oP{op:BoolOp}(h:QE X a ta):QE X (.BoolOp op [a] pos) ta:=MK h
def jV(h:QE X a ta)(k:QE X (.BoolOp .And (b::rest) pos) tb):QE X (.BoolOp .And (a::b::rest) pos) (P5 ta tb):=EV (MN h k) λT H Q g L r j t z k=>
 ⟨g,L,_,j,t,z,λv C y l J I U o=>by
  cases y with
  |bl c=>
   refine{c,U,?_};have p:=o;cases c with|true=>rw[Ar rfl];exact{g,l,r,j.ts J,I,p,k.ts J}|false=>rw[Ap AI];exact k _ C _ l J I (by rfl) p
  |_=>exact o.elim⟩
def Qn(h:QE X a ta):QE X (.UnaryOp .Not a pos) (P6 ta):=EV (MO h) λt H Q g L C j l z k=>
 ⟨g,L,_,j,l,z,λv o y p r I J U=>by cases y with|bl c=>exact{c,J,k _ o _ p r I (by rfl) U}|_=>exact U.elim⟩
def dN(h:QT X c tA)(p:QE X a ta)(r:QE X b tb):QE X (.IfExp c a b pos) (FM tA ta tb):=EV (MT h p r) λC H Q U L j g t z k=>
 ⟨U,L,_,g,t,z,λc T l J I o=>by cases c with|true=>rw[Ar rfl];exact{U,l,j,g.ts J,I,o,k.ts J}|false=>rw[Ap AI];exact{U,l,j,g.ts J,I,o,k.ts J}⟩
def xd:QA X [] jc:=PA.SL fH λJ H Q U L g j I z k=>k _ H _ L (ET _) I (by rfl) z
def xx(h:QE X e te)(t:QA X es tr)(hs:Fb e es X:=by rfl):QA X (e::es) (qp te tr):=PA.SL (aP h t hs) λσ H Q j L Q3 l C z k=>
 ⟨j,L,_,l,C,z,λv H1 y T o I J z1=>{j,T,_,l.ts o,I,z1,λp H2 ys L2 r U g z2=>k (v::p) H2 (y::ys) L2 (o.trans r) U {v,p,rfl,J.ts r,g} z2}⟩
def zg(h:QA X es tr):QE X (.Tuple es x1 pos) (bC tr):=EV (HZ h) λσ H Q l L Q3 o r z k=>
 ⟨l,L,_,o,r,z,λt H1 j C T U I J=>by
  cases e:Nat.ble j.length 1000 with
  |false=>rw[e] at J;exact J.elim
  |true=>
   rw[e] at J;have:=Ct e;refine{gD (by rw[<-I.length];exact this),λp g=>?_};exact k _ _ (.tup j) C (T.trans<|EU g) (U.skip g) {p,t,rfl,fB.of zf,I.ts<|EU g} J⟩
def zh(h:QA X es tr):QE X (.List es pos) (cV tr):=EV (N' h) λC H Q j L T l o z k=>
 ⟨j,L,_,l,o,z,λvs H1 r L1 t I J U=>by
  cases e:Nat.ble r.length 1000 with
  |false=>rw[e] at U;exact U.elim
  |true=>
   rw[e] at U;have:=Ct e;refine{gD (by rw[<-J.length];exact this),λp g=>?_};exact k _ _ _ _ (t.trans<|EU g) (I.Xa g J) (by rfl)<|U p<|I.none g⟩
def x5{id:WH}{r:Z0->qj->YK->Prop}(hc:je X (.builtin id)<|b_ X.g3 r)(U:Gl X x)(g:X.mg x=none)(j:bootBuiltins x=some (.builtin id))(h:QA X (e::es) tr)
 (l:x ≠ "__name__" := by decide) (hd:Fe x:=by decide) (hs:Fb e es X:=by rfl) (hp:Fc pos es X:=by rfl):
 QE X (.Call (.Name x p) (e::es) [] pos) (oN r tr):=EV (iR hc U g j h l hd hs hp) λσ H Q o L t C T z k=>
 ⟨o,L,_,C,T,z,λvs H1 ys L1 t1 I J z1=>{ys,L1,t,J,I,z1,k.ts t1}⟩
def IT(G:G3)(t:FO):TO:=λσ H Q=>∃τ L I,va G H σ τ/\zw G H L/\t τ L I/\∀(o:Wz) H' L',j5 H H'->zw G H' L'->I o L'->Q o H'
abbrev QO(X:Cx)(e:Option Expr)(t:FO):Prop:=PO X e<|IT X.g3 t
def PO.imp{e:Option Expr}{t u:TO}(h:PO X e t)(q:∀σ H Q,u σ H Q->t σ H Q):PO X e u:=λJ s σ H Q I z=>h J s σ H Q I<|q σ H Q z
def PO.SL{e:Option Expr}{t:TO}{u:FO}(h:PO X e t)(q:∀σ H Q τ L I,va G H σ τ->zw G H L->u τ L I->(∀(o:Wz) H' L',j5 H H'->zw G H' L'->I o L'->Q o H')->t σ H Q):PO X e (IT G u):=PO.imp h λσ H Q ⟨τ,L,I,a,b,c,d⟩=>q σ H Q τ L I a b c d
def tZ.imp{U:V->Wz->Wz->Hp->VK->Prop}(h:tZ X r)(q:∀x lo hi H Q,U x lo hi H Q->r x lo hi H Q):tZ X U:=by intro J s g H x v j l lo hi o Q I p t C T z;exact h J s g H x v j l lo hi o Q I p t C T<|q _ _ _ _ _ z
def gH:QO X none mY:=PO.SL OH λJ H Q U L g j I z k=>k _ H L (ET _) I z
def cU(h:QE X e te):QO X (some e) (F9 te):=PO.SL (OI h) λt H Q g L C j l z k=>
 ⟨g,L,_,j,l,z,λv o y p r I J U=>by cases y with|int i=>exact{i,J,k _ o p r I U}|_=>exact U.elim⟩
def Gd(G:G3)(r:Y->Wz->Wz->qj->YK->Prop):V->Wz->Wz->Hp->VK->Prop:=λx lo hi H Q=>∃y L I,RV G H y x/\zw G H L/\r y lo hi L I/\t7 G H I Q
def bZ{lo hi:Option Expr}{tl th:FO}{r:Y->Wz->Wz->qj->YK->Prop}(h:tZ X<|Gd X.g3 r)(T:QE X a ta)(hl:QO X lo tl)(hh:QO X hi th):QE X (.Subscript a (.Slice lo hi none p2) pos) (F_ r ta tl th):=
 EV (OK h T hl hh) λσ H Q I L Q3 J rl z k=>
 ⟨I,L,_,J,rl,z,λv H1 y L1 U g j z1=>{I,L1,_,J.ts U,g,z1,λo H2 L2 l p z2=>{I,L2,_,J.ts<|U.trans l,p,z2,λo' H3 L3 C t z3=>{y,L3,Q3,j.ts<|l.trans C,t,z3,k.ts<|U.trans<|l.trans C}}}⟩
def rY(r:xo G H ys xs)(lo hi:Wz):xo G H (jO ys lo hi) (vG xs lo hi):=by unfold jO vG;rw[r.length];exact(r.drop _).take _
def arm(K:Ag)(P:WE)(w:WF)(l:X.K=K:=by rfl)(o:X.prog=P:=by rfl)(hw:X.w=w:=by rfl):tZ X (Gd ⟨K,P,w⟩ IC):=by
 subst l o hw;refine tZ.imp OX λx lo g H Q ⟨y,L,Q3,j,J,z,k⟩=>?_;cases y with
 |ref a=>
  obtain⟨t,C,T⟩:=vo z;obtain⟨U,sq,r⟩:=fk J<|aY C;exact{a,U,j,sq,λp I=>k _ _ _ _ (EU I) (J.Xa I<|rY r lo g) (by rfl)<|T p<|J.none I}
 |sq t=>
  obtain⟨a,U,e,sf,r⟩:=j;exact{a,U,e,sf.sq,λp I=>k _ _ _ _ (EU I) (J.Xa I<|rY r lo g) (by rfl)<|z p<|J.none I}
 |_=>exact z.elim
end
section
variable {a b iter:Expr}{tc:xu}{tB:hV}{tr:eX}{rest jk:Ww}{t u:ai}
def zb:rO X [] aW:=hJ.SL MX λD U H g L j I J z k=>k.nx _ H _ L (ET _) I J z
def qe(h:QS X st t):rO X [st] t:=zQ h
def qa(h:QS X st t)(k:rO X rest u):rO X (st::rest) (zv t u):=hJ.SL (uI h k) λD σ H j L I l o z k=>
 ⟨j,L,{I with nx:=u I},l,o,z,λp H1 J r C U g T=>{J,r,I,U,g,T,k.ts C},k.rt,k.bk,k.ct⟩
def wD:QS X (.Continue pos) P7:=EX vV λD U H g L j I J z k=>k.ct _ H _ L (ET _) I J z
def z9(h:QE X e te)(hs:swapsWith e none pos.line X.env=pure false:=by rfl):QS X (.Expr e pos) (wo te):=EX (yk h hs) λD t H g L C J j z k=>
 ⟨g,L,_,J,j,z,λv l y o U I p r=>k.nx _ l _ o U (J.ts U) I r⟩
def za(h:QE X e te):QS X (.Return (some e) pos) (bP te):=EX (M5 h) λD g H I L j J U z k=>{I,L,_,J,U,z,k.rt}
def zO:QS X (.Return none pos) ID:=EX M7 λD J H U L g j I z k=>k.rt _ H _ L (ET _) I (by rfl) z
def zy(h:QT X c tA)(p:rO X body t)(r:rO X jk u):QS X (.If c body jk pos) (bN tA t u):=EX (M8 h p r) λD T H U L j g C z k=>
 ⟨U,L,_,g,C,z,λc H1 l J I o=>by cases c with|true=>rw[Ar rfl];exact{U,l,j,g.ts J,I,o,k.ts J}|false=>rw[Ap AI];exact{U,l,j,g.ts J,I,o,k.ts J}⟩
def wf(hN:X.N.Nodup)(I:X.N[i]?=some x)(r:yu X.env.scope x)(h:QE X e te)(J:swapsWith e (some<|.Name x fx) pos.line X.env=pure false:=by rfl)
 (U:X.fn x=true\/X.env.scope.names.lookup x=some .local:=by first|exact .inl rfl|exact .inr rfl|assumption):QS X (.Assign [.Name x fx] e pos) (jw te<|qk i):=EX (Nb hN I r h J U) λD σ H l L D3 o t z k=>
 ⟨l,L,_,o,t,z,λv C y T p g j z1=>k.nx _ C _ T p (show va _ _ _ (cg l i y) by rw[aB];exact(o.ts p).set j) g z1⟩
def fW(h:QE X e te)(o:QG X tg g)(h1:swapsWithSole [tg] e pos.line X.env=pure false:=by rfl)(h2:swappedStores [tg] e X.env=pure none:=by rfl)
 (h3:(assignEach [tg] X.env).map (·.2)=[assign tg X.env]:=by rfl):QS X (.Assign [tg] e pos) (jw te g):=EX (HN h o h1 h2 h3) λD C H U L T j p z k=>
 ⟨U,L,_,j,p,z,λv H1 y r l I J t=>{y,U,r,_,J,j.ts l,I,t,k.nx.ts l}⟩
def PG.imp{t u:TG}(h:PG X e t)(q:∀v σ H Q,u v σ H Q->t v σ H Q):PG X e u:=λJ s σ H x v Q I r z=>h J s σ H x v Q I r<|q _ _ _ _ z
def Yd.imp{e:Wv}{t u:e_}(h:Yd X e t)(q:∀v σ H Q,u v σ H Q->t v σ H Q):Yd X e u:=λJ s σ H x v Q I r z=>h J s σ H x v Q I r<|q _ _ _ _ z
def mW(hN:X.N.Nodup)(I:X.N[i]?=some x)(U:yu X.env.scope x)(J:X.fn x=true\/X.env.scope.names.lookup x=some .local:=by first|exact .inl rfl|exact .inr rfl|assumption):QG X (.Name x pos) (qk i):=
 PG.imp (gM hN I U J) λv p H Q ⟨y,g,L,r,j,l,o,z,k⟩=>k _ H _ L (ET _) (show va _ _ _ (cg g i y) by rw[aB];exact l.set j) o z
def xb:FP X [] bT:=Yd.imp HL λj l H Q ⟨I,o,L,p,J,U,g,z,k⟩=>by cases I with|nil=>exact{J,k _ H _ L (ET _) U g z}|cons y r=>exact z.elim
def z0(h:QG X e g)(hs:FP X es gs)(l:(assignEach (e::es) X.env).map (·.2)=assign e X.env::(assignEach es X.env).map (·.2):=by rfl):FP X (e::es) (jt g gs):=
 Yd.imp (pG h hs l) λvs σ H Q ⟨o,p,L,t,C,T,rl,z,k⟩=>by
 cases o with
 |nil=>exact z.elim
 |cons y r=>
  obtain⟨x,xs,rfl,r1,r2⟩:=C;exact{x,xs,rfl,y,p,L,_,r1,T,rl,z,λa1 H1 I L1 j J U z1=>{r,I,L1,t,r2.ts j,J,U,z1,k.ts j}}
def kn{j:Nat}(hc:X.calm=true)(h:FP X es gs)(h1:(assignEach es X.env).length=n:=by rfl)(h2:(assignEach es X.env).findIdx? (·.1)=none:=by rfl):QG X (.Tuple es j pos) (dC n gs):=
 PG.imp (HM hc h h1 h2) λv C H Q ⟨y,U,L,g,l,o,p,z,k⟩=>by
 cases y with
 |tup I=>
  obtain⟨a,t,rfl,sq,r⟩:=l;have J:(match I.length==n with|true=>gs I U L g|false=>False):=z;split at J
  .rename_i e;exact{a,t,rfl,sq,by rw[<-r.length];exact beq_iff_eq.mp e,I,U,L,g,r,o,p,J,k}
  .exact J.elim
 |_=>exact z.elim
def IU{y:Str}{px pt:Pos}{k2:Nat}{I:Pos}(hc:X.calm=true)(hN:X.N.Nodup)(hi:X.N[i]?=some x)(t:X.N[j]?=some y)(J:i≠j)(C:X.env.scope.names.lookup x=some .local)(T:X.env.scope.names.lookup y=some .local)
 (h:QA X [a,b] tr) (h1:swappedStores [.Tuple [.Name x px,.Name y py] kt pt] (.Tuple [a,b] k2 I) X.env=pure (some [x,y])) (h2:swapsWithSole [.Tuple [.Name x px,.Name y py] kt pt] (.Tuple [a,b] k2 I) pos.line X.env=pure false:=by rfl):
 QS X (.Assign [.Tuple [.Name x px,.Name y py] kt pt] (.Tuple [a,b] k2 I) pos) (IE i j tr):=EX (Nd hc hN hi t J C T h h1 h2) λD σ H o L D3 p rl z k=>
 ⟨o,L,_,p,rl,z,λvs H1 ys L1 r U g l=>by
  split at l
  .rename_i v w;obtain⟨x',y',rfl,r1,r2⟩:=g.inv2;exact{x',y',rfl,k.nx _ H1 _ L1 r (show va _ _ _ (cg (cg o i v) j w) by rw[aB,aB];exact((p.ts r).set r1).set r2) U l}
  .exact l.elim⟩
def cx(hp:PassesOwn (model X.prog X.w) X.A X.env X.xe)(h:QT X c tA)(hb:rO X body t):QS X (.While c body [] pos) (yE tA t):=PS.imp (Ng hp h hb) λD σ H ⟨τ,L,D3,rs,rl,⟨W,⟨m0,w0⟩,turn⟩,k⟩=>by
 refine{λm r H1=>∃J C,j5 H H1/\va X.g3 H1 r J/\zw X.g3 H1 C/\W m J C,{m0,τ,L,ET _,rs,rl,w0},?_};rintro m r H1 ⟨J,C,t1,l,a2,w1⟩;refine{J,C,_,l,a2,turn m J C w1,λb H2 L2 T a1 z2=>?_};cases b with
 |false=>rw[Ap AI];exact k.nx _ H2 _ L2 (t1.trans T) (l.ts T) a1 z2
 |true=>
  rw[Ar rfl];obtain⟨N,hN,z2⟩:=z2;refine{λU g=>∃I j,j5 H g/\va X.g3 g U I/\zw X.g3 g j/\N I j,?_,?_}
  .rintro U g ⟨I,j,t',o,p,n'⟩;obtain⟨m',hm,w'⟩:=hN I j n';exact{(m'),hm,I,j,t',o,p,w'}
  .have nx:qE X.g3 H2 (jP N) (λU g=>∃I j,j5 H g/\va X.g3 g U I/\zw X.g3 g j/\N I j):=λU g I j t' o p ⟨L5,s5,n'⟩=>{I,L5,(t1.trans T).trans t',o,p.sub s5,n'};have k2:=k.ts<|t1.trans T;exact{J,L2,_,l.ts T,a1,z2,nx,k2.rt,k2.nx,nx}
def vf{wi:n_}(hp:PassesOwn (model X.prog X.w) X.A X.env X.xe)(hc:X.calm=true)(hi:QI X tg iter wi)(hg:QG X tg g)(hb:rO X body t)(hs:∀x,foldedSetIterable iter X.env x=pure x:=by intro _;rfl):
 QS X (.For tg iter body [] pos) (kC wi g t):=EX (Nu hp hc hi hg hb hs) λD σ H τ L D3 rs rl z k=>by
 refine{τ,L,_,rs,rl,z,λJ H1 ys keep L1 t1 a3 yl zz=>?_};obtain⟨W,w0,wk,turn,k8⟩:=P8 zz;refine{λi m U j=>∃I o,i+m=ys.length/\j5 H1 j/\va X.g3 j U I/\zw X.g3 j o/\W i I o,{ys.length,τ,L1,by omega,ET _,rs.ts t1,a3,w0},?_};rintro i m aL H2 ⟨l,L2,ba,T,a1,p,w2⟩;by_cases a2:i<ys.length
 .refine .inr {yl.go i H2 L2 T p (wk i l L2 w2) a2,λU j=>∃I o,j5 H1 j/\va X.g3 j U I/\zw X.g3 j o/\W (i+1) I o,?_,?_}
  .rintro U j ⟨I,o,t',r,C,w'⟩;exact{m-1,by omega,I,o,by omega,t',r,C,w'}
  .intro x H3 y3;have ey:=Ai a2;obtain⟨t3,a4,a5⟩:=yl.X0 i H2 L2 x H3 _ T p (wk i l L2 w2) ey y3;refine{ys[i],l,L2,_,a5,a1.ts t3,a4,turn i _ l L2 ey w2,λbb H4 ac L4 t4 al av z4=>?_};have nx:qE X.g3 H4 (jP<|W<|i+1) (λU j=>∃I o,j5 H1 j/\va X.g3 j U I/\zw X.g3 j o/\W (i+1) I o):=λU j I o t' r C ⟨L5,s5,n'⟩=>{I,L5,((T.trans t3).trans t4).trans t',r,C.sub s5,n'};have k2:=k.ts<|t1.trans<|(T.trans t3).trans t4;exact{ac,L4,_,al,av,z4,nx,k2.rt,k2.nx,nx}
 .have e:i=ys.length:=by omega
  subst e;exact .inl {yl.stop H2 L2 T p<|wk _ l L2 w2,k.nx _ H2 _ L2 (t1.trans T) a1 p<|k8 l L2 w2}
def PI.imp{t u:TI}(h:PI X tg e t)(q:∀σ H Q,u σ H Q->t σ H Q):PI X tg e u:=λJ s σ H Q I z=>h J s σ H Q I<|q σ H Q z
def PI.SL{t:TI}{u:n_}(h:PI X tg e t)(q:∀σ H R τ L I,va G H σ τ->zw G H L->u τ L I->(∀J H' ys keep L',j5 H H'->zw G H' L'->gx G H' J ys keep->I ys keep L'->R J H')->t σ H R):PI X tg e (GY G u):=PI.imp h λσ H R ⟨τ,L,I,a,b,c,d⟩=>q σ H R τ L I a b c d
def lQ{a:Addr}{keep:qj->Prop}(h:∀H L,j5 H₀ H->zw G H L->keep L->∃xs,ag G.K H a xs/\xo G H ys xs):gx G H₀ (GG G.K a) ys keep where
 go:=λi H L t I J U=>by
  obtain⟨xs,sq,r⟩:=h H L t I J;have:i<xs.length:=by rw[<-r.length];exact U
  exact{xs,xs[i],sq,Ai this}
 X0:=λi H L x o y t I J g ⟨e,f⟩=>by subst e;obtain⟨xs,sq,r⟩:=h _ L t I J;obtain⟨p,j,l⟩:=r.get g;have:=f xs sq;rw[j] at this;cases this;exact{ET _,I,l}
 stop:=λH L t I J=>by obtain⟨xs,sq,r⟩:=h H L t I J;exact{xs,sq,by rw[r.length];exact An _}
def jq(h:QE X e te):QI X tg e (aK te):=PI.SL (Nk h) λσ H R τ L R3 rs l z k=>by
 refine{τ,L,_,rs,l,z,λv g y o C I U p=>?_};cases y with
 |ref a=>
  obtain⟨j,keep,es,kp,hk,z2⟩:=vL p;have T:∀H L,j5 g H->zw X.g3 H L->keep L->∃J,ag X.K H a J/\xo X.g3 H j J:=λH L _ l e=>fk l<|hk L e;obtain⟨J,sq,_⟩:=T g o (ET _) I kp;exact{a,U,{(J),sq},k _ g j _ o C I (lQ T) z2}
 |sq j=>
  obtain⟨a,J,e,sf,r⟩:=U;exact{a,e,{(J),sf.sq},k _ g j (λ_=>True) o C I (lQ λH L t _ _=>{J,(sf.ts t).sq,r.ts t}) p}
 |_=>exact p.elim
def wC(lo:Int)(n:Nat):gx G H₀ (Fu lo n) (ak lo n) (λ_=>True) where
 go:=λi H L t J g j=>show i<n by simpa[ak] using j
 X0:=λi H L x l y t J g U ⟨e,f⟩=>by
  subst e f;refine{ET _,J,?_};unfold ak at U;rw[Aq] at U;obtain⟨z,I,e⟩:=AA.mp U;have:=C8 (i:=i) (n:=n) (by
   by_cases c:i<n
   .exact c
   .rw[Cs (by simp;omega)] at I;cases I)
  rw[this] at I;cases I;subst e;rfl
 stop:=λH L t J g=>by simp[ak,Fu]
def af(g:Gl X "range")(l:X.mg "range"=none)(h:QA X [a] tr)(hs:starEach [a] X.env=[(false,eval a X.env)]:=by rfl):QI X tg (.Call (.Name "range" p) [a] [] pos) (tG tr):=
 PI.SL (No g l h hs) λσ H R o L R3 t C z k=>by
 refine{o,L,_,t,C,z,λvs T ys L1 t1 J U I=>?_};split at I
 .rename_i j;obtain⟨x,rfl,r⟩:=U.inv1;cases r;exact{j,rfl,I.1.1,I.1.2,k _ T _ _ L1 t1 J (wC 0 _) I.2}
 .exact I.elim
end
section
variable {T:Wu}{iter:Expr}{wi:n_}{tr:eX}
def gy:QF X [] D_:=PF.imp Ps λJ H Q ⟨U,L,g,j,I,z,k⟩=>k _ H L (ET _) I z
def a6(h:QT X c tA):QF X [c] tA:=xI h
def IV{g2:TG}(a1:∀v σ H Q,FJ G g v σ H Q->g2 v σ H Q)(σ:St)(H:Hp)(Q:VK):y0 G (d_ n wi g tA te) σ H Q->GW n (GY G wi) g2 (h_ G tA) (y0 G te) σ H Q:=λ⟨τ,L,Q3,rs,rl,z,k⟩=>by
 refine{τ,L,_,rs,rl,z,λJ H1 o keep L1 t1 a2 yl zz=>?_};obtain⟨hz,W,w0,wk,turn,k8⟩:=P_ zz;refine{λi m vs H'=>∃I L',i+m=o.length/\I.length<=i/\j5 H1 H'/\xo G H' I vs/\zw G H' L'/\W i I L',{o.length,[],L1,Nat.add_comm _ _,An _,ET _,rfl,a2,w0},?_};rintro i m vs H2 ⟨I,L2,av,aL,l,U,j,p⟩;by_cases r:i<o.length
 .refine .inr {yl.go i H2 L2 l j (wk i I L2 p) r,by rw[<-U.length];lia,?_};intro x H3 y3;have ey:=Ai r;obtain⟨t3,a3,a4⟩:=yl.X0 i H2 L2 x H3 _ l j (wk i I L2 p) ey y3;refine a1 _ _ _ _ {o[i],_,L2,_,a4,(rs.ts<|(t1.trans l).trans t3).more n,a3,turn i _ I L2 ey p,λba H4 t L4 t4 C a5 z4=>?_};refine{t,L4,_,C,a5,z4,λb H5 L5 t5 T z5=>?_};cases b with
  |true=>
   rw[Ar rfl];refine{t,L5,_,C.ts t5,T,z5,λv6 H6 y6 L6 t6 ac al ⟨L7,s7,z6⟩=>?_};have tt:=((t3.trans t4).trans t5).trans t6;exact{m-1,by omega,I++[y6],L7,by lia,by rw[Ab,AF];exact Fz,l.trans tt,(U.ts tt).app<|xo.one al,ac.sub s7,z6}
  |false=>
   rw[Ap AI];have tt:=(t3.trans t4).trans t5;obtain⟨L7,s7,z6⟩:=z5;exact{m-1,by lia,I,L7,by lia,Ik,l.trans tt,U.ts tt,T.sub s7,z6}
 .have ei:i=o.length:=by lia
  subst ei;refine .inl {yl.stop H2 L2 l j<|wk _ I L2 p,by rw[<-U.length];lia,λD hD=>?_};exact k _ _ _ _ ((t1.trans l).trans<|EU hD) (j.Xa hD U) (by rfl)<|k8 I L2 p D<|j.none hD
structure Fj(X:Cx)(scope:Scope)(T:Wu)(target:Expr)(g:kJ):Prop where
 ex:∃g2:TG,(∀C fp s₀ H₀,PG (X.comp scope T C fp s₀ H₀) target g2)/\rG g2 X.N.length T.length/\∀v σ H Q,FJ X.g3 g v σ H Q->g2 v σ H Q
def Qo(i:Nat)(v:V)(σ:St)(H:Hp)(Q:St->Hp->Prop):FJ G (qk i) v σ H Q->dF i v σ H Q:=λ⟨y,I,L,j,J,U,g,z,k⟩=>
 k _ H _ L (ET _) (show va _ _ _ (cg I i y) by rw[aB];exact U.set J) g z
def bu(hN:(X.N++[x]).Nodup)(J:∀C fp s₀ H₀,yu (X.comp scope [x] C fp s₀ H₀).env.scope x)(I:∀C fp s₀ H₀,(X.comp scope [x] C fp s₀ H₀).env.scope.names.lookup x=some .local):Fj X scope [x] (.Name x p) (qk X.N.length):=
 ⟨dF X.N.length,λC fp s₀ H₀=>gM (X:=X.comp scope [x] C fp s₀ H₀) hN (by show(X.N++[x])[X.N.length]?=some x;simp) (J C fp s₀ H₀)<|.inr<|I C fp s₀ H₀,pH _,Qo _⟩
def Qp{K:Ag}(n:Nat):rG (amp K 2<|wB (dF n)<|wB (dF<|n+1) GB) n 2:=by
 rintro o I x H Q ⟨a,J,e,sq,len,v,r,U,w,g,j,l,q⟩;refine{a,J,e,sq,len,v,r,U,w,g,j,l,{by simp[I],λi u ei=>?_},q};have p:i<n:=by
  by_cases c:i<n
  .exact c
  .rw[AH (by lia),CF] at ei;split at ei<;>cases ei
 rw[Bp (by lia),Bp<|Im];exact ei
def Qq(i j:Nat)(v:V)(σ:St)(H:Hp)(Q:St->Hp->Prop):FJ G (dC 2<|jt (qk i)<|jt (qk j) bT) v σ H Q->amp G.K 2 (wB (dF i)<|wB (dF j) GB) v σ H Q:=λ⟨y,g,L,l,o,p,t,z,k⟩=>by
 cases y with
 |tup I=>
  obtain⟨a,xs,rfl,sq,r⟩:=o;have J:(match I.length==2 with|true=>jt (qk i) (jt (qk j) bT) I g L l|false=>False):=z;split at J
  .rename_i e;have C:=beq_iff_eq.mp e
   match I,C with
   |[y1,y2],_=>
    obtain⟨T,U,rfl,r1,r2⟩:=r.inv2;have z2:=J;exact{a,_,rfl,sq,rfl,T,[U],rfl,U,[],rfl,rfl,k _ H _ L (ET _) (by rw[aB,aB];exact(p.set r1).set r2) t z2}
  .exact J.elim
 |_=>exact z.elim
def sF{y:Str}{I pt:Pos}(hc:X.calm=true)(hN:(X.N++[x,y]).Nodup)(U:∀C fp s₀ H₀,(X.comp scope [x,y] C fp s₀ H₀).env.scope.names.lookup x=some .local)(J:∀C fp s₀ H₀,(X.comp scope [x,y] C fp s₀ H₀).env.scope.names.lookup y=some .local)
 (h1:∀env,(assignEach [.Name x p,.Name y I] env).length=2:=by intro _;rfl) (h2:∀env,(assignEach [.Name x p,.Name y I] env).findIdx? (·.1)=none:=by intro _;rfl)
 (h3:∀env,(assignEach [.Name x p,.Name y I] env).map (·.2)=assign (.Name x p) env::(assignEach [.Name y I] env).map (·.2):=by intro _;rfl) (g:∀env,(assignEach [.Name y I] env).map (·.2)=assign (.Name y I) env::(assignEach [] env).map (·.2):=by intro _;rfl):
 Fj X scope [x,y] (.Tuple [.Name x p,.Name y I] kt pt) (dC 2<|jt (qk X.N.length)<|jt (qk<|X.N.length+1) bT):=
 ⟨_,λC fp s₀ H₀=>HM (X:=X.comp scope [x,y] C fp s₀ H₀) hc (pG (gM hN (by show(X.N++[x,y])[X.N.length]?=some x;simp) (.inl<|U C fp s₀ H₀)<|.inr<|U C fp s₀ H₀) (pG (gM hN (by show(X.N++[x,y])[X.N.length+1]?=some y;simp) (.inl<|J C fp s₀ H₀)<|.inr<|J C fp s₀ H₀) HL<|g _)<|h3 _) (h1 _)<|h2 _,Qp _,Qq _ _⟩
def cQ(T:Wu)(S:j9 X scope)(hc:X.calm=true)(hi:QI X target iter wi)(I:Fj X scope T target g)
 (J:∀C fp s₀ H₀,QF (X.comp scope T C fp s₀ H₀) ny tA) (U:∀C fp s₀ H₀,QE (X.comp scope T C fp s₀ H₀) nC te)
 (hs:∀x,foldedSetIterable iter X.env x=pure x:=by intro _;rfl):QE X (.ListComp nC [{target,iter,ny,0}] scope pos) (d_ T.length wi g tA te):=by
 obtain⟨g2,h1,h2,h3⟩:=I.ex;exact E8 (Pw T S hc hi h1 h2 J U hs)<|IV h3
def dE(T:Wu){px o:Pos}(hN:X.N.Nodup)(I:X.N[i]?=some x)(hx:yu X.env.scope x)(S:j9 X scope)(hc:X.calm=true)(hi:QI X target iter wi)
 (hg:Fj X scope T target g) (hf:∀C fp s₀ H₀,QF (X.comp scope T C fp s₀ H₀) ny tA) (he:∀C fp s₀ H₀,QE (X.comp scope T C fp s₀ H₀) nC te)
 (J:swapsWith (.ListComp nC [{target,iter,ny,0}] scope o) (some<|.Name x px) pos.line X.env=pure true:=by rfl)
 (U:X.fn x=true\/X.env.scope.names.lookup x=some .local:=by first|exact .inl rfl|exact .inr rfl|assumption)
 (hs:∀x,foldedSetIterable iter X.env x=pure x:=by intro _;rfl):QS X (.Assign [.Name x px] (.ListComp nC [{target,iter,ny,0}] scope o) pos) (jw (d_ T.length wi g tA te)<|qk i):=by
 obtain⟨g2,h1,h2,h3⟩:=hg.ex;refine PS.imp (Px (tc:=h_ X.g3 tA) (te:=y0 X.g3 te) T hN I hx S hc hi h1 h2 hf he J U hs) λD σ H ⟨p,L,D3,r,rl,z,k⟩=>?_;refine IV h3 σ H _ {p,L,_,r,rl,z,λv H1 y L1 t j l z1=>?_};exact k.nx _ H1 _ L1 t (show va _ _ _ (cg p i y) by rw[aB];exact(r.ts t).set l) j z1
def dn(G:G3)(sp:km):Sp:=λvs H Q _=>∃ys L I,xo G H ys vs/\zw G H L/\sp ys L I/\t7 G H I Q
abbrev G4(P:WE)(w:WF)(K:Ag)(mg:Wo)(base:WG)(k:Nat)(x:Str)(ps:Wu)(sp:km):Prop:=X7 P w K mg base k x ps<|dn {(K),P,w} sp
abbrev Ye(P:WE)(w:WF)(K:Ag)(mg:Wo)(base:WG)(k:Nat)(f:Addr)(fd:FuncData)(ps:Wu)(sp:km):Prop:=au P w K mg base XU k f fd ps<|dn {(K),P,w} sp
def Qr{k:Nat}(c:G4 X.prog X.w X.K X.mg X.base k x ps sp)(j:ki k X.A)(l:Gl X x)(o:QA X (e::es) tr)(I:Fe x:=by decide)
 (r:Fb e es X:=by rfl) (J:Fc pos es X:=by rfl):QE X (.Call (.Name x p) (e::es) [] pos) (xa sp tr):=
 EV (Pq c j l o I r J) λσ H Q t L C T rl z k=>
 ⟨t,L,_,T,rl,z,λvs H1 ys L1 t1 U g z1=>{ys,L1,C,by rw[AB];exact g,U,z1,k.ts t1}⟩
def gW(Q:YK):YK:=λy L=>∃L2,qf L2 L/\Q y L2
def ff(N:Wu)(ys:Z0):jd:=ys.map some++List.replicate (N.length-ys.length) none
def jW{N:Wu}{vs:WI}(r:xo G H ys vs):va G H (start N vs) (ff N ys):=by unfold start ff;rw[<-r.length];refine va.more {by simp[r.length],λi y e=>?_} _;rw[Aq] at e;obtain⟨g,I,J⟩:=AA.mp e;cases J;obtain⟨x,ex,U⟩:=r.get I;exact{x,by rw[Aq,ex];rfl,U}
def Qs{P:WE}{w:WF}{K:Ag}{N:Wu}{k:Nat}(F:Yk K x eh st f fd)(S:aR N ps<|qw st)(len:∀ys L Q,sp ys L Q->ys.length=ps.length)
 (I:∀(eW:WC) (A:Around) (outer:List Env) (s:WD) (H:Hp) (E:XK),ki k (A.deeper<|PyProof.Rows.envOfC eh (qw st) ↥s f eW)->
  ∃t,rO (fP XU P w K mg base N eh (qw st) f eW A outer s H E).YH (jr st) t/\∀ys L Q,sp ys L Q->t {nx:=λ_ L'=>gW Q .KB L',rt:=gW Q} (ff N ys) L):Ye P w K mg base (k+1) f fd ps sp:=by
 refine F.ok S (λT H Q E ⟨ys,L,U,g,C,z,_⟩=>by rw[<-g.length];exact len ys L U z) λeW A outer s H T Q E hr ⟨ys,L,U,g,C,z,k⟩=>?_;obtain⟨t,ht,q⟩:=I eW A outer s H E hr;refine{_,ht,ff N ys,L,_,jW g,C,q ys L U z,?_};refine{λσ j τ L' l a1 J ⟨L2,o,p⟩=>k .KB j .KB L2 l (J.sub o) (by rfl) p,λv j y L' l J r ⟨L2,o,p⟩=>k v j y L2 l (J.sub o) r p,λ_ _ _ _ _ _ _ z=>z.elim,λ_ _ _ _ _ _ _ z=>z.elim}
def i_(G:G3)(r:Y->Z0->qj->YK->Prop):V->WI->Hp->VK->Prop:=λx xs H Q=>∃y ys L I,RV G H y x/\xo G H ys xs/\zw G H L/\r y ys L I/\t7 G H I Q
def kF.SL{id:WH}{r:V->WI->Hp->VK->Prop}{u:Y->Z0->qj->YK->Prop}(h:kF X id r)(q:∀x xs H Q y ys L I,RV G H y x->xo G H ys xs->zw G H L->u y ys L I->t7 G H I Q->r x xs H Q):kF X id (i_ G u):=kF.imp h λx xs H Q ⟨y,ys,L,I,a,b,c,d,e⟩=>q x xs H Q y ys L I a b c d e
def Qt:kF X "list.append" (i_ X.g3 x0):=kF.SL O8 λx p H Q y t L C U g J z k=>by
 unfold x0 at z;split at z
 .rename_i a v;obtain⟨T,e,z⟩:=vo z;obtain⟨j,I,r⟩:=J a _ e;obtain⟨l,rfl,o⟩:=g.inv1;exact{a,j,l,U,rfl,I,by rw[<-r.length];exact z.1,k _ _ _ _ (E6 I) (J.X2 I<|r.app<|xo.one o) (by rfl) z.2}
 .exact z.elim
def Qu:kF X "list.extend" (i_ X.g3 mU):=kF.SL O_ λx T H Q y ys L Q3 g j I z k=>by
 unfold mU at z;split at z
 .rename_i a b;obtain⟨zs,e,z⟩:=vo z;obtain⟨us,l,z⟩:=vo z;obtain⟨o,J,r⟩:=I a _ e;obtain⟨p,t,U⟩:=I b _ l;obtain⟨v',rfl,C⟩:=j.inv1;cases C;exact{a,b,o,p,g,rfl,J,t,by rw[<-r.length,<-U.length];exact z.1,k _ _ _ _ (E6 J) (I.X2 J<|r.app U) (by rfl) z.2}
 .exact z.elim
def Qv:kF X "list.pop" (i_ X.g3 F'):=kF.SL O' λx l H Q y T L Q3 o p U z k=>by
 unfold F' at z;split at z
 .rename_i a;obtain⟨g,e,z⟩:=vo z;obtain⟨t,I,r⟩:=U a _ e;cases (show l=[] from p);cases J:g[g.length-1]? with
  |none=>rw[J] at z;exact z.elim
  |some v=>
   rw[J] at z;obtain⟨u,j,C⟩:=r.get J;rw[r.length] at j;exact{a,t,u,o,rfl,I,j,k _ _ _ _ (E6 I) (U.X2 I r.dropLast) (C.ts<|E6 I) z}
 .exact z.elim
def IW{a:Addr}(I:zw G H L)(h:dD L (.ref a)=some ys):F8 G.K "list" (.ref a) H:=by obtain⟨J,sq,_⟩:=fk I h;exact .inl {(rfl),J,sq}
def iI(r:Y->Z0->qj->YK->Prop)(to:xu)(t:eX)(τ:jd)(L:qj)(Q:YK):Prop:=to τ L λx L1=>match x with
 |.ref a=>lF L1 (.ref a) λ_=>t τ L1 λxs L2=>r (.ref a) xs L2 Q
 |_=>False
structure s_(X:Cx)(o e:Expr)(es:Wv)(name:Str)(apos eK:Pos):Prop where
 h4:attributeBase o name X.env (eval o X.env)=eval o X.env
 h5:((backTo eK<|starEach (e::es) X.env).all (λx=>!x.1)&&(backToKw eK<|keywordEach [] X.env).all (λx=>x.1.isSome)&&decide ((e::es).length+([]:List Keyword).length+(if ([]:List Keyword).isEmpty=true then 0 else 1)<30))=true
 h6:(apos.endLine==eK.line)=true
 h7:Fb e es X
 h8:Fc eK es X
def tJ{id:WH}{r:Y->Z0->qj->YK->Prop}(h2:Slot "list" name id)(h3:typeOf (.builtin id)=pure (.type "method_descriptor"))(hm:kF X id<|i_ X.g3 r)(ho:QE X o to)(ha:QA X (e::es) tr)
 (I:s_ X o e es name apos eK:=by exact{(rfl),rfl,rfl,rfl,rfl}):
 QE X (.Call (.Attribute o name apos) (e::es) [] eK) (iI r to tr):=EV (Ii Ep h2 h3 hm ho ha I.h4 I.h5 I.h6 I.h7 I.h8) λσ H Q p L Q3 t rl z k=>
 ⟨p,L,_,t,rl,z,λv H1 y L1 C J U g=>by
  split at g
  .rename_i a;obtain⟨T,es,g⟩:=aS g;exact{by cases U;exact IW J es,p,L1,_,t.ts C,J,g,λvs H2 T L2 t2 j l z2=>{.ref a,T,L2,Q3,U.ts t2,l,j,z2,k.ts<|C.trans t2}}
  .exact g.elim⟩
def Qw{id:WH}{r:Y->Z0->qj->YK->Prop}(h2:Slot "list" name id)(h3:typeOf (.builtin id)=pure (.type "method_descriptor"))(g:kF X id<|i_ X.g3 r)(j:QE X o to)
 (l:attributeBase o name X.env (eval o X.env)=eval o X.env:=by rfl) (p:(apos.endLine==eK.line)=true:=by rfl):
 QE X (.Call (.Attribute o name apos) [] [] eK) (iI r to jc):=EV (O1 Ep h2 h3 g j l p) λσ H Q t L C T rl z k=>
 ⟨t,L,_,T,rl,z,λv H1 y L1 t1 I J U=>by
  split at U
  .rename_i a;obtain⟨ys,es,U⟩:=aS U;exact{by cases J;exact IW I es,.ref a,[],L1,C,J,rfl,I,U,k.ts t1}
  .exact U.elim⟩
def qz(I:QE X o to)(J:QA X (e::es) tr)(U:s_ X o e es "append" apos eK:=by exact{(rfl),rfl,rfl,rfl,rfl}):
 QE X (.Call (.Attribute o "append" apos) (e::es) [] eK) (iI x0 to tr):=tJ PySem.F.slot_list_append PySem.F.type_list_append Qt I J U
def bH(I:QE X o to)(J:QA X (e::es) tr)(U:s_ X o e es "extend" apos eK:=by exact{(rfl),rfl,rfl,rfl,rfl}):
 QE X (.Call (.Attribute o "extend" apos) (e::es) [] eK) (iI mU to tr):=tJ PySem.F.slot_list_extend PySem.F.type_list_extend Qu I J U
def sw(I:QE X o to)(J:attributeBase o "pop" X.env (eval o X.env)=eval o X.env:=by rfl)(U:(apos.endLine==eK.line)=true:=by rfl):
 QE X (.Call (.Attribute o "pop" apos) [] [] eK) (iI F' to jc):=Qw PySem.F.slot_list_pop PySem.F.type_list_pop Qv I J U
end
abbrev yX:t8:=g_ λi j=>.int<|i-j
abbrev ZX:t8:=yI Zc λi j=>.int<|i*j
abbrev IX:t8:=yI GJ λi j=>.int<|i / j
abbrev tS:t8:=yI (λ_ j=>0<j) λi j=>.int<|i % j
abbrev Qx:t8:=yI GK λi j=>.int<|i ^ j.toNat
abbrev Ge:t8:=g_ λi j=>.bl<|decide<|i<j
abbrev Qy:t8:=g_ λi j=>.bl<|decide<|i<=j
abbrev Qz:t8:=g_ λi j=>.bl<|decide<|j<i
abbrev QC:t8:=g_ λi j=>.bl<|decide<|j<=i
def IY(kvs:List<|Str×Str):LO:=.KF<|kvs.map λp=>(Sum.inr p.1,Y.str p.2)
def QD(kvs:List<|Str×Str)(_:jd)(L:qj)(Q:YK):Prop:=∀p,L p=none->Q (.ref p) (qd L p<|IY kvs)
def t_(kvs:List<|Str×Str):List (j8×V):=kvs.map λp=>(Sum.inr p.1,V.str p.2)
theorem uz{σ:St}{H:Hp}{Q:List (V×V)->Hp->Prop}:∀{kvs:List<|Str×Str},Q (kvs.map λp=>(V.str p.1,V.str p.2)) H->sI (kvs.map λp=>(tC<|.str p.1,tC<|.str p.2)) σ H Q
 |[],h=>h
 |_::r,h=>uz (kvs:=r) h
theorem zB{G:G3}{H:Hp}:∀kvs:List (Str×Str),Paired (λ(p:j8×Y) (q:j8×V)=>p.1=q.1/\RV G H p.2 q.2) (kvs.map λp=>(Sum.inr p.1,Y.str p.2))<|t_ kvs
 |[]=>.nil
 |_::r=>.cons {(rfl),rfl}<|zB r
def QH{keys:List<|Option Expr}{values:Wv}(kvs:List<|Str×Str)(h:Fx X pos keys values<|kvs.map λp=>(tC<|.str p.1,tC<|.str p.2))(h1:(keys.all λx=>x.isSome)=true)(h2:keys.length=values.length)(h3:keys≠[])(U:keys.length<=15)
 (g:kvs.length<=15:=by decide) (nd:jT [] (t_ kvs)=t_ kvs:=by decide +kernel):QE X (.Dict keys values pos) (QD kvs):=EV (OA h h1 h2 h3 U) λj H Q l L o r J z k=>by
 intro p I;refine uz {zf,t_ kvs,by simp[t_,kV],by simpa[t_] using g,?_};rw[nd,Mm];refine k _ _ _ (qd L p<|IY kvs) (EU I) ?_ (by rfl)<|z p<|J.none I;intro a u e;by_cases c:a=p
 .subst c;rw[q9] at e;cases e;exact{t_ kvs,zf,zB kvs}
 .rw[qb c] at e;exact(J a u e).keep (EU I) (qo c)
def nE{Q:α->qj->Prop}{o:Option α}(h:zX L Q o):∃v,o=some v/\Q v L:=by cases o with|none=>exact h.elim|some v=>exact{(v),rfl,h}
def lV{kvs:List<|Str×Str}{k:Str}(h:kvs.lookup k=some x):xj (kvs.map λp=>((Sum.inr p.1:j8),Y.str p.2)) (Sum.inr k)=some (Y.str x):=by
 induction kvs with
 |nil=>simp at h
 |cons p r I=>
  obtain⟨a,b⟩:=p;unfold xj;rw[AQ,BK];rw[Bk] at h;by_cases c:k=a
  .subst c;simp at h;simp[h]
  .have J:(k==a)=false:=by simpa using c
   rw[J] at h;have U:decide ((Sum.inr a:j8)=Sum.inr k)=false:=Ao λz=>c (Sum.inr.inj z).symm;simp only[U];exact I h
def IZ(h:(ak lo n)[i]?=some y):i<n/\y=.int (lo+i):=by
 unfold ak at h;rw[Aq] at h;obtain⟨z,I,e⟩:=AA.mp h;have J:i<n:=by
  by_cases c:i<n
  .exact c
  .rw[Cs (by simp;exact FE)] at I;cases I
 rw[C8 J] at I;cases I;exact{(J),e.symm}
def GE(lo:Int)(n:Nat):(ak lo n).length=n:=by simp[ak]
def r9{tb:ai}{D:vd}(W:Nat->jd->qj->Prop)(h0:W 0 τ L)
 (hs:∀i τ L,i<n->W i τ L->g (.int<|lo+i) τ L λI L2=>tb {D with nx:=jP<|W<|i+1,ct:=jP<|W<|i+1,bk:=D.nx} I L2) (hd:∀τ L,W n τ L->D.nx τ L):rq (ak lo n) (λ_=>True) g tb D τ L:=by
 refine xm {W,h0,λ_ _ _ _=>trivial,λi y τ L e w=>?_,λτ L w=>hd τ L (by rw[GE] at w;exact w)};obtain⟨J,rfl⟩:=IZ e;exact hs i τ L J w
def tT{a:Addr}{v:Y}{Q:YK}(e:L a=⇑(ys++[v]))(q:Q v<|qd L a<|.lst ys):lF L (.ref a) (λ_=>jc τ L λxs L2=>F' (.ref a) xs L2 Q):=by
 refine qc e<|qm e ?_;have:(ys++[v])[(ys++[v]).length-1]?=some v:=by simp
 rw[this,List.dropLast_concat];exact q
def QJ{tb:ai}{D:vd}{a:Addr}(h:dD L (.ref a)=some ys)(W:Nat->jd->qj->Prop)(h0:W 0 τ L)(J:∀i τ L',W i τ L'->L' a=L a)
 (hs:∀i y τ L,ys[i]?=some y->W i τ L->g y τ L λI L2=>tb {D with nx:=jP<|W<|i+1,ct:=jP<|W<|i+1,bk:=D.nx} I L2) (hd:∀τ L,W ys.length τ L->D.nx τ L):
 uk L a λys keep L1=>rq ys keep g tb D τ L1:=j7 (kW h) λkeep U=>xm {W,h0,λi τ L' w=>U L'<|J i τ L' w,hs,hd}
def bQ{keep:qj->Prop}{Q:YK}(I:Nat->Z0->Prop)(hz:ys.length<sizeLine)(j:keep L)(h0:I 0 [])
 (turn:∀(i:Nat) y zs,ys[i]?=some y->I i zs->g y (τ++List.replicate n none) L λJ L2=>tc J L2 λb L3=>ao b (te J L3 λz l=>jP (λzs L'=>L'=L/\I (i+1) zs) (zs++[z]) l)<|jP (λzs L'=>L'=L/\I (i+1) zs) zs L3)
 (o:∀zs,I ys.length zs->∀p,L p=none->Q (.ref p) (qd L p<|.lst zs)):y8 ys keep n g tc te τ L Q:=by
 refine yR {hz,λi zs L'=>L'=L/\I i zs,{(rfl),h0},?_,?_,?_}
 .rintro i zs L' ⟨rfl,_⟩;exact j
 .rintro i y zs L' r ⟨rfl,U⟩;exact turn i y zs r U
 .rintro zs L' ⟨rfl,U⟩ p t;exact o zs U p t
def rS{Q:YK}(I:Nat->Z0->Prop)(hz:m<sizeLine)(h0:I 0 [])
 (turn:∀(i:Nat) zs,i<m->I i zs->g (.int<|lo+i) (τ++List.replicate n none) L λJ L2=>tc J L2 λb L3=>ao b (te J L3 λz j=>jP (λzs L'=>L'=L/\I (i+1) zs) (zs++[z]) j)<|jP (λzs L'=>L'=L/\I (i+1) zs) zs L3)
 (l:∀zs,I m zs->∀p,L p=none->Q (.ref p) (qd L p<|.lst zs)):y8 (ak lo m) (λ_=>True) n g tc te τ L Q:=by
 refine bQ (keep:=λ_=>True) I (by rw[GE];exact hz) trivial h0 (λi y zs e U=>?_) λzs U=>l zs (by rw[GE] at U;exact U);obtain⟨o,rfl⟩:=IZ e;exact turn i zs o U
def qX(ys:Z0)(n:Nat):jO ys (some ((n:Nat):Int)) none=ys.drop n:=by
 unfold jO;rw[W7,Xc];by_cases h:n<=ys.length
 .rw[B6 h,A8 (by rw[BL];simp +arith only)]
 .rw[C4 (by lia),Ex<|An _,Ex (by lia),List.take_nil]
def QK(ys:Z0)(n:Nat):jO ys none (some ((n:Nat):Int))=ys.take n:=by
 unfold jO;rw[W7,Xc,DS,Nat.sub_zero];by_cases h:n<=ys.length
 .rw[B6 h]
 .rw[C4 (by lia),A8<|An _,A8 (by lia)]
def ww{I:List α}{f:α->Y}{w:α}(h:I[i]?=some w):iV (I.map f) (i:Int)=some (f w):=w5 (by rw[Aq,h];rfl)
def QL{keep:qj->Prop}{Q:YK}(f:Y->WM)(hz:ys.length<sizeLine)(j:keep L)
 (turn:∀(i:Nat) y (W:Z0->qj->Prop) zs,ys[i]?=some y->W (zs++(f y).toList) L->g y (τ++List.replicate n none) L λI L2=>tc I L2 λb L3=>ao b (te I L3 λz l=>jP W (zs++[z]) l)<|jP W zs L3)
 (o:∀p,L p=none->Q (.ref p) (qd L p<|.lst<|ys.filterMap f)):y8 ys keep n g tc te τ L Q:=by
 refine yR {hz,λi zs J=>J=L/\zs=(ys.take i).filterMap f,{rfl,by simp},?_,?_,?_}
 .rintro i zs J ⟨rfl,_⟩;exact j
 .rintro i y zs J U ⟨rfl,rfl⟩;refine turn i y _ _ U {rfl,?_};rw[A4,U,List.filterMap_append];congr 1
 .rintro zs J ⟨rfl,rfl⟩ p r;rw[AY];exact o p r
def v9(t:ai)(n:Nat)(ys:Z0)(L:qj)(Q:YK):Prop:=t {nx:=λ_ L'=>gW Q .KB L',rt:=gW Q} (ys.map some++List.replicate (n-ys.length) none) L
abbrev ZY(sp:Z0->qj->YK->Prop)(t:ai)(n:Nat):Prop:=∀ys L Q,sp ys L Q->v9 t n ys L Q
def k8{Q:YK}(h:Q y L):gW Q y L:={L,ES L,h}
def jI{Q:YK}(s:qf L L')(h:Q y L):gW Q y L':={(L),s,h}
theorem Ye.never{P:WE}{w:WF}{K:Ag}{k:Nat}(no:∀ys L Q,¬sp ys L Q):Ye P w K mg base k f fd ps sp:=
 au.never λJ H Q E ⟨ys,L,I,_,_,z,_⟩=>no ys L I z
def qf.upd{a:Addr}{o:LO}(s:qf L L')(h:L a=none):qf L (qd L' a o):=λb u e=>by rw[qb<|vh e h];exact s b u e
def qf.put{a:Addr}{o:LO}(s:qf L L')(h:L' a=some o):qf (qd L a o) L':=λb u e=>by
 by_cases c:b=a
 .subst c;rw[q9] at e;cases e;exact h
 .rw[qb c] at e;exact s b u e
theorem uJ{G:G3}{H:Hp}:∀ns:Wx,xo G H (ns.map Y.int)<|ns.map V.int
 |[]=>rfl
 |_::r=>{_,_,rfl,rfl,uJ r}
section
variable {σ:St}
def nH(I:qx X pins σ H s)(U:∀b∈fp,H b=none)(k:∀b o,b∉fp->s.heap.get? b=some o->h'.get? b=some o):fD X.prog X.w H h':=λb u e=>by
 refine(I.GT b u e).SZ (λc v g q=>k c v (λz=>?_) q) (λ_ q=>q) λ_ _ q=>q;have J:=U c z;rcases g with w|w
 .rw[w,e] at J;cases J
 .rw[w] at J;cases J
def QM{fs:List Addr}(k:∀b o,b∉fp->h.get? b=some o->h'.get? b=some o):Un fs fp H H h h':=
 ⟨λb o q _ _ x=>k b o x q,λb o q _ _ x=>{o.slots,k b o x q},λ_ _ _ n _=>n,λb o q x=>{o,k b o x q},λ_ _ q=>q,λ_ _ _ q=>q,λb I q=>{#[],by rw[q];simp}⟩
def qx.XO(I:qx X pins σ H s)(k:∀b o,b∉fp->s.heap.get? b=some o->h'.get? b=some o)(U:∀b∈fp,pK X pins H b)(g:0<t':=by walk_at "t"):qx X pins σ H {s with heap:=h',toks:=t'}:=
 I.XI (s':={s with heap:=h',toks:=t'}) (ch:=fp) rfl (QM k) (nH I (λb J=>(U b J).1) k) I.bare λb J=>{(U b J).2.2.2.1,(U b J).2.1,(U b J).2.2.2.2.1,(U b J).2.2.2.2.2}
def qx.XQ{a:Addr}{o:HO}(I:qx X pins σ H s)(k:∀b o,b∉fp->s.heap.get? b=some o->h'.get? b=some o)(U:∀b∈fp,pK X pins H b)(j:↥s<=a)
 (new:xh X.prog X.w (upd H a o) h' a o) (p:0<t':=by walk_at "t"):qx X pins σ (upd H a o) {s with heap:=h',toks:=t'}:=by
 have g:=I.GT.fresh j;have lt:∀b ob,s.heap.get? b=some ob->b≠a:=λb ob q=>A3<|AS (u3 q) j;refine I.XI (s':={s with heap:=h',toks:=t'}) (ch:=fp) rfl ?_ ?_ I.bare λb J=>{(U b J).2.2.2.1,(U b J).2.1,(U b J).2.2.2.2.1,(U b J).2.2.2.2.2}
 .exact{λb ob q _ _ x=>k b ob x q,λb ob q _ _ x=>{ob.slots,k b ob x q},λb ob q n _=>by rw[qo<|lt b ob q];exact n,λb ob q x=>{ob,k b ob x q},
   λb l q=>by rw[qo<|ja q g];exact q,λb ob u q=>by rw[qo<|ja q g];exact q,λb r q=>{#[],by rw[qo<|ja q g,q];simp}}
 .intro b u e;by_cases J:b=a
  .subst J;rw[zf] at e;cases e;exact new
  .rw[qo J] at e;have ok:=nH I (h':=h') (λb J=>(U b J).1) k b u e;exact ok.SZ (λ_ _ _ q=>q) (λc q=>by rw[qo<|ja q g];exact q) λc l q=>by rw[qo<|ja q g];exact q
end
def G5(K:Ag)(a:Addr):It:=
 ⟨λi H=>∃xs x,ag K H a xs/\xs[i]?=some x,λi H v H'=>∃p x,H p=none/\v=.ref p/\H'=upd H p (.tup [.int i,x])/\∀xs,ag K H a xs->xs[i]?=some x,λi H=>∃xs,ag K H a xs/\xs.length<=i⟩
def QN{P:WE}{w:WF}{K:Ag}(a e it:Addr)(l:e≠it):xQ P w K (.Tuple ml x1 tp) (G5 K a) [e,it] e (λi h=>(∃old,IsEnum h e it i old)/\h.IsListIter it a i) where
 mem:=by simp
 obj:=λi h ⟨⟨old,J⟩,U⟩ b g=>by
  rcases Aw.mp g with rfl|g
  .exact{_,J,λv z=>by cases z}
  .cases Ad.mp g;obtain⟨o,T,hc,hd⟩:=U;exact{o,T,λv z=>by rw[hd] at z;cases z}
 keep:=λi h h' ⟨⟨old,J⟩,U⟩ k=>{{old,k e (by simp) _ J},U.at λo q=>k it (by simp) o q}
 item:=by
  intro X hP hw hK hc i r s σ H E I t ⟨⟨old,J⟩,U⟩ hg;subst hP hw hK;obtain⟨xs,x,C,hx⟩:=hg;obtain⟨a1,rv,p,hz⟩:=I.list C;obtain⟨u,hu,ru⟩:=rv.get hx;refine wpAny_pyNext_enum_item J U p.isList (x:=u) (by simpa using hu) l λh1 a2 a3 ht ac hk=>{.ref ↥s,rfl,wpAny_letOwnedTupleGo_enum a2 λh2 a4 j=>?_};have el:=u3 J;have il:it<↥s:=by obtain⟨o,T,_⟩:=U;exact u3 T
  have kk:∀b o,b∉[e,it]->s.heap.get? b=some o->h2.get? b=some o:=λb o nb q=>by have n1:b≠e:=λz=>nb (by simp[z]);have n2:b≠it:=λz=>nb (by simp[z]);exact j.extBut b o n1<|hk b o n1 n2 q
  have tg:=j.extBut _ _ (C3 el) ht;refine{.ref ↥s,upd H ↥s<|.tup [.int i,x],?_,rfl,{_,x,I.GT.fresh<|An _,rfl,rfl,λys hy=>by rw[I.WL hy C];exact hx},{{_,a4},a3.at λo q=>j.extBut _ _ (AE l) q},λb g=>?_}
  .exact I.XQ (t':=s.toks+1) kk t (An _) {by show 2<=sizeLine;decide,[.int i s.toks,u],.cons {_,rfl}<|.cons ru .nil,{_,tg,rfl,_,rfl}}
  .have a5:b<↥s:=by rcases Aw.mp g with rfl|g;exact el;cases Ad.mp g;exact il
   rw[qo<|A3 a5];exact(t b g).1
 done:=by intro X hP hw hK hc i r s σ H E I t ⟨⟨old,J⟩,U⟩ hg;subst hP hw hK;obtain⟨xs,C,hx⟩:=hg;obtain⟨a1,rv,p,hz⟩:=I.list C;have hl:=rv.length;exact wpAny_pyNext_enum_end (I.ok.hd hc) J U p.isList (by simp;omega) λh1 eb=>{rfl,I.XO (t':=s.toks) (fp:=[e,it]) (λb o nb q=>eb b o (λz=>nb (by simp[z])) q) t}
 self:=λ_ _ _ _ _ ⟨⟨_,J⟩,_⟩ h=>wpAny_pyIter_enum J h
def QP(K:Ag)(ta:TA):TI:=λσ H R=>ta σ H λvs H1=>∃a,vs=[.ref a]/\(∃xs,ag K H1 a xs)/\R (G5 K a) H1
def sG:bootBuiltins "enumerate"=some (.type "enumerate"):=by decide +kernel
def QQ{a:Expr}{ta:TA}(t:Gl X "enumerate")(C:X.mg "enumerate"=none)(T:PA X [a] ta)(hs:starEach [a] X.env=[(false,eval a X.env)]:=by rfl):
 PI X (.Tuple ml x1 tp) (.Call (.Name "enumerate" p) [a] [] pos) (QP X.K ta):=by
 intro U s σ H R I h;refine Call_<|hU I t C sG<|Cg (aD (T pos U s σ H _ I h) λus J ⟨vs,H1,j,r1,q1⟩=>?_) hs rfl;obtain⟨l,e,⟨xs,hq⟩,q⟩:=q1;subst e;obtain⟨u,rfl,ru⟩:=uZ r1;cases ru;obtain⟨a1,rv,pl,hz⟩:=j.list hq;refine call_enumerate_list pl.isList λh1 r hi a2 hk=>?_;have I2:=j.kept (t':=J.toks) hk;refine wpAny_pyIter_enum (s:={J with heap:=h1}) r ?_;refine{↥J+1,[↥J+1,↥J],_,_,H1,rfl,I2,QN l _ _<|Nat.succ_ne_self _,{{_,r},hi},λb o=>?_,q};have g:↥J<=b:=by rcases Aw.mp o with rfl|o;exact Cy _;cases Ad.mp o;exact An _
 exact j.XZ g<|j.GT.fresh g
def mC{a:Addr}{keep:qj->Prop}(h:∀H L,j5 H₀ H->zw G H L->keep L->∃xs,ag G.K H a xs/\xo G H ys xs):gx G H₀ (G5 G.K a) (ys.zipIdx.map λp=>Y.tup [.int (p.2:Nat),p.1]) keep where
 go:=λi H L t I J o=>by
  obtain⟨xs,sq,r⟩:=h H L t I J;have:i<xs.length:=by rw[<-r.length];simpa using o
  exact{xs,xs[i],sq,Ai this}
 X0:=λi H L x H' y t I J l ⟨p,z,U,C,T,f⟩=>by subst C T;obtain⟨xs,sq,r⟩:=h H L t I J;rw[Aq,List.getElem?_zipIdx] at l;obtain⟨⟨y',j⟩,ey,e3⟩:=AA.mp l;obtain⟨a1,g,e4⟩:=AA.mp ey;cases e4;subst e3;obtain⟨x',e',rv⟩:=r.get g;have:=f xs sq;rw[e'] at this;cases this;refine{EU U,I.skip U,p,_,rfl,fB.of zf,{_,_,rfl,?_,_,_,rfl,rv.ts<|EU U,rfl}};congr 1;simp
 stop:=λH L t I J=>by obtain⟨xs,sq,r⟩:=h H L t I J;exact{xs,sq,by rw[Ae,List.length_zipIdx,r.length];exact An _}
def l5(ys:Z0):Z0:=ys.zipIdx.map λp=>Y.tup [.int (p.2:Nat),p.1]
def bY(h:(l5 ys)[i]?=some y):∃z,ys[i]?=some z/\y=.tup [.int i,z]:=by unfold l5 at h;rw[Aq,List.getElem?_zipIdx] at h;obtain⟨⟨J,j⟩,U,g⟩:=AA.mp h;obtain⟨l,I,o⟩:=AA.mp U;cases o;exact{J,I,by rw[<-g];simp}
def ae(ys:Z0):(l5 ys).length=ys.length:=by simp[l5]
def rV(tl:xu)(τ:jd)(L:qj)(R:Z0->(qj->Prop)->qj->Prop):Prop:=tl τ L λx L1=>match x with
 |.ref a=>uk L1 a λys keep L=>R (l5 ys) keep L
 |.sq ys=>R (l5 ys) (λ_=>True) L1
 |_=>False
def cN{a:Expr}(hg:Gl X "enumerate")(hm:X.mg "enumerate"=none)(ha:QE X a te)(hs:starEach [a] X.env=[(false,eval a X.env)]:=by rfl)
 (j:starEach [a] X.env=(false,eval a X.env)::starEach [] X.env:=by rfl):QI X (.Tuple ml x1 tp) (.Call (.Name "enumerate" p) [a] [] pos) (rV te):=PI.SL (QQ hg hm (aP ha fH j) hs) λσ H R τ L R3 rs l z k=>by
 refine{τ,L,_,rs,l,z,λv g y o T I U C=>?_};cases y with
 |ref a=>
  obtain⟨ys,keep,es,kp,hk,z2⟩:=vL C;have hy:∀H L,j5 g H->zw X.g3 H L->keep L->∃J,ag X.K H a J/\xo X.g3 H ys J:=λH L _ l e=>fk l<|hk L e;obtain⟨J,sq,_⟩:=hy g o (ET _) I kp;cases U;exact{a,rfl,{(J),sq},k _ g _ _ o T I (mC hy) z2}
 |sq ys=>
  obtain⟨a,J,e,sf,r⟩:=U;subst e;exact{a,rfl,{(J),sf.sq},k _ g _ (λ_=>True) o T I (mC λH L t _ _=>{J,(sf.ts t).sq,r.ts t}) C}
 |_=>exact C.elim
def jQ(t:Bool)(h:WG)(it l:Addr)(k:Nat):Prop:=match t with
 |false=>h.IsListIter it l k
 |true=>h.IsTupleIter it l k
def tO(t:Bool)(h:WG)(l:Addr)(xs:Ws):Prop:=match t with
 |false=>h.IsList l xs
 |true=>h.IsTuple l xs
def jQ.on{k:Nat}(x:jQ t h it l k)(e:∀o,h.get? it=some o->h'.get? it=some o):jQ t h' it l k:=by cases t with|false=>exact Heap.IsListIter.at x e|true=>exact Heap.IsTupleIter.at x e
def tO.on{xs:Ws}(x:tO t h l xs)(e:∀o,h.get? l=some o->h'.get? l=some o):tO t h' l xs:=by cases t with|false=>exact Heap.IsList.at x e|true=>exact Heap.IsTuple.at x e
def jQ.ob{k:Nat}(x:jQ t h it l k):∃o,h.get? it=some o/\∀v,o.data≠.cell v:=by
 cases t with
 |false=>obtain⟨o,e,c,d⟩:=x;exact{o,e,λv z=>by rw[d] at z;cases z}
 |true=>obtain⟨o,e,c,d⟩:=x;exact{o,e,λv z=>by rw[d] at z;cases z}
def zW(l:Addr):¬((Value.ref l==Value.none)=true):=AI
section
variable {w:WF}
def xL{xs:Ws}{x:WC}(hi:s.heap.IsTupleIter it l i)(U:s.heap.IsTuple l xs)(g:xs[i]?=some x)
 (q:∀h',h'.IsTupleIter it l (i+1)->Heap.SameBut it s.heap h'->Q x {s with heap:=h'}):wpAny (model prog w) A (Builtin.SmallTypes.nextOf<|.ref it) Q E s:=by
 obtain⟨o,J,ci,I⟩:=id hi;obtain⟨u,ul,_,n,dl⟩:=U;refine Aa<|wpAny_callSpecial?_slot (name:="__next__") hi.typeIs Db<|wpAny_call_entry Db hi.typeIs F.entry_tuple_iterator_next ?_<|F.args_tuple_iterator_next_1 _;refine Aa (m:=field (.ref it) 0)<|Bg J I (x:=.ref l) rfl ?_;rw[Ap<|zW l];refine Aa (m:=field (.ref it) 1)<|Bg J I (x:=.int i 0) rfl<|Aa (m:=seqItems?<|.ref l)<|BJ ul dl ?_;simp only[B9,g];refine Aa<|wpAny_setField J I (by simp)<|Ak {x,rfl,Ak<|q _ {_,Fa _ J<|Obj.isFreed_of_fields<|Obj.data_mapFields I _,(Obj.cls_mapFields ..).trans ci,?_}<|ya ..};rw[Obj.data_mapFields I];simp[rawInt]
def QR{xs:Ws}(U:A.handled=none)(hi:s.heap.IsTupleIter it l i)(g:s.heap.IsTuple l xs)(j:xs[i]?=none)
 (q:∀h' e,Heap.ExtBut it s.heap h'->(∃o,h'.get? e=some o/\o.cls=.type "StopIteration")->E (.ref e) {s with heap:=h'}):wpAny (model prog w) A (Builtin.SmallTypes.nextOf<|.ref it) Q E s:=by
 obtain⟨o,I,ci,J⟩:=id hi;obtain⟨u,ul,_,n,dl⟩:=g;refine Aa<|wpAny_callSpecial?_slot (name:="__next__") hi.typeIs Db<|wpAny_call_entry Db hi.typeIs F.entry_tuple_iterator_next ?_<|F.args_tuple_iterator_next_1 _;refine Aa (m:=field (.ref it) 0)<|Bg I J (x:=.ref l) rfl ?_;rw[Ap<|zW l];refine Aa (m:=field (.ref it) 1)<|Bg I J (x:=.int i 0) rfl<|Aa (m:=seqItems?<|.ref l)<|BJ ul dl ?_;simp only[B9,j];refine Aa<|Bv<|Aa<|wpAny_setField I J (by simp) ?_;refine Aa (m:=newExc (.type "StopIteration") []) ?_;simp only[newExc,newTuple];refine Aa (Br (Aa (m:=firstArgMember _ _) (wpAny_of_eq (a:=Value.none) (by first|rfl|(simp only[firstArgMember];rfl))<|Br ?_ (by size_fits))) (by size_fits));simp only[raiseNew];refine Aa<|wpAny_handled ?_
 first|rw[show A.in1.handled=none from U]|rw[U]
 exact Aa<|Ak<|wpAny_throw<|q _ _ (((ya ..).extBut.push _).push _) {_,vb _ rfl,rfl}
def jQ.next{xs:Ws}{x:WC}(hi:jQ t s.heap it l i)(I:tO t s.heap l xs)(J:xs[i]?=some x)
 (q:∀h',jQ t h' it l (i+1)->Heap.SameBut it s.heap h'->Q x {s with heap:=h'}):wpAny (model prog w) A (Builtin.SmallTypes.nextOf<|.ref it) Q E s:=by
 cases t with|false=>exact wpAny_nextOf_list_item hi I J q|true=>exact xL hi I J q
def jQ.stop{xs:Ws}(I:A.handled=none)(hi:jQ t s.heap it l i)(J:tO t s.heap l xs)(U:xs[i]?=none)
 (q:∀h' e,Heap.ExtBut it s.heap h'->(∃o,h'.get? e=some o/\o.cls=.type "StopIteration")->E (.ref e) {s with heap:=h'}):wpAny (model prog w) A (Builtin.SmallTypes.nextOf<|.ref it) Q E s:=by
 cases t with|false=>exact wpAny_nextOf_list_end I hi J U q|true=>exact QR I hi J U q
structure G6(z TI TO i1 i2 l1 l2:Addr):Prop where
 n1:TI≠z
 n2:TO≠z
 n3:i1≠z
 n4:i2≠z
 n5:TO≠i1
 n6:TO≠i2
 n7:i1≠i2
 n8:l1≠z
 n9:l1≠TO
 n10:l1≠i1
 n11:l1≠i2
 ZO:l2≠z
 ZM:l2≠TO
 ZN:l2≠i1
 n15:l2≠i2
def QU{z TI TO I J:Addr}{k:Nat}{xs ys:Ws}{x y a b:WC}(D:G6 z TI TO I J l1 l2)(hz:IsZip s.heap z TI TO .none)(hI:IsPair s.heap TI (.ref I)<|.ref J)(hO:IsPair s.heap TO a b)
 (h1:jQ t1 s.heap I l1 k) (h2:jQ t2 s.heap J l2 k) (q1:tO t1 s.heap l1 xs) (q2:tO t2 s.heap l2 ys) (hx:xs[k]?=some x) (hy:ys[k]?=some y)
 (q:∀h',IsZip h' z TI TO (rawInt ↥s)->IsPair h' TO x y->jQ t1 h' I l1 (k+1)->jQ t2 h' J l2 (k+1)->IsPair h' ↥s x y->
  (∀c o,c≠z->c≠TO->c≠I->c≠J->s.heap.get? c=some o->h'.get? c=some o)->Q (.ref ↥s) {s with heap:=h'}):
 wpAny (model prog w) A (Builtin.«zip.__next__» ⟨[.ref z],[]⟩) (λk8 s'=>∃v,k8=.done (.ret v)/\Q v s') E s:=by
 refine Aa (m:=field (.ref z) 2)<|Bg hz rfl (x:=.bool false) rfl<|Aa (m:=field (.ref z) 3)<|Bg hz rfl (x:=.ref TI) rfl<|Aa<|BJ hI rfl ?_;refine Aa (m:=Builtin.SmallTypes.ownedTupleIsFree<|.ref z) ?_;refine Aa<|Bg hz rfl (x:=.none) rfl<|Ak ?_;simp only[if_true];refine Aa<|Bv<|Aa<|Bg hz rfl (x:=.ref TO) rfl<|Aa<|wpAny_setField_rec hz (by simp) λg1 z1 U=>?_;have ac:=z1;refine Aa ?_;simp only[Er,List.zipIdx_nil,Dh,EK];refine Aa<|Aa<|wpAny_onRaise<|Aa (m:=Builtin.SmallTypes.nextOf<|.ref I)<|(h1.on λo e=>U.extBut _ _ D.n3 e).next (q1.on λo e=>U.extBut _ _ D.n8 e) hx λg2 al j=>Ak ?_;have O2:=j.extBut _ _ D.n5<|U.extBut _ _ D.n2 hO;refine Aa<|BJ O2 rfl<|Aa<|wpAny_updateSeq_pair O2 λg3 O3 p=>Aa<|wpAny_letGo<|Ak ?_;have av:=O3;refine Aa (Aa (wpAny_onRaise (Aa (m:=Builtin.SmallTypes.nextOf<|.ref J) (jQ.next (l:=l2) (i:=k) (xs:=ys) (x:=y) (t:=t2) (h2.on λo e=>p.extBut _ _ (AE D.n6)<|j.extBut _ _ (AE D.n7)<|U.extBut _ _ D.n4 e)
  (q2.on λo e=>p.extBut _ _ D.ZM<|j.extBut _ _ D.ZN<|U.extBut _ _ D.ZO e) hy λg4 aL C=>Ak ?_))))
 have O4:=C.extBut _ _ D.n6 av;refine Aa<|BJ O4 rfl<|Aa<|wpAny_updateSeq_pair O4 λr O5 T=>Aa<|wpAny_letGo<|Ak<|Ak ?_;have a5:IsPair r TO x y:=O5;refine Aa<|BJ a5 rfl<|Aa<|wpAny_newTuple ?_;have sz:r.objs.size=↥s:=by rw[T.1,C.1,p.1,j.1,U.1]
 have z5:=T.extBut _ _ (AE D.n2)<|C.extBut _ _ (AE D.n4)<|p.extBut _ _ (AE D.n2)<|j.extBut _ _ (AE D.n3) ac;have k5:∀c o,c≠z->c≠TO->c≠I->c≠J->s.heap.get? c=some o->r.get? c=some o:=λc o g a2 a3 a4 e=>T.extBut _ _ a2<|C.extBut _ _ a4<|p.extBut _ _ a2<|j.extBut _ _ a3<|U.extBut _ _ g e;have zl:=u3 z5;refine Aa (m:=Builtin.SmallTypes.ownedTupleHandOut (.ref z)<|.ref r.objs.size) ?_;refine Aa<|wpAny_setField_rec (show IsZip (r.push {cls:=.type "tuple",data:=.seq #[x,y]}) z TI TO .ellipsis from sy _ z5) (by simp) λg7 z7 e7=>?_;have ba:=z7;refine wpAny_setField_rec ba (by simp) λg8 z8 e8=>Ak {_,rfl,?_};have bb:=z8;have up:∀c o,c≠z->r.get? c=some o->g8.get? c=some o:=λc o g e=>e8.extBut _ _ g<|e7.extBut _ _ g<|sy _ e;have T8:=e8.extBut _ _ (C3 zl)<|e7.extBut _ _ (C3 zl)<|vb _ rfl;have k8:=q g8 (by rw[<-sz];exact bb) (up _ _ D.n2 a5) (al.on λo e=>up _ o D.n3<|T.extBut _ _ (AE D.n5)<|C.extBut _ _ D.n7<|p.extBut _ _ (AE D.n5) e) (aL.on λo e=>up _ o D.n4<|T.extBut _ _ (AE D.n6) e)
  (by rw[<-sz];exact T8) λc o g a2 a3 a4 e=>up c o g<|k5 c o g a2 a3 a4 e
 rw[sz];exact k8
def QV{z TI TO J U:Addr}{k:Nat}{xs ys:Ws}{a b:WC}{Q:Fin->WD->Prop}(hh:A.handled=none)(D:G6 z TI TO J U l1 l2)(hz:IsZip s.heap z TI TO .none)(hI:IsPair s.heap TI (.ref J)<|.ref U)(hO:IsPair s.heap TO a b)
 (h1:jQ t1 s.heap J l1 k) (h2:jQ t2 s.heap U l2 k) (q1:tO t1 s.heap l1 xs) (q2:tO t2 s.heap l2 ys) (g:xs[k]?=none\/ys[k]?=none)
 (q:∀h' e,(∀c o,c≠z->c≠TO->c≠J->c≠U->s.heap.get? c=some o->h'.get? c=some o)->(∃o,h'.get? e=some o/\o.cls=.type "StopIteration")->E (.ref e) {s with heap:=h'}):
 wpAny (model prog w) A (Builtin.«zip.__next__» ⟨[.ref z],[]⟩) Q E s:=by
 refine Aa (m:=field (.ref z) 2)<|Bg hz rfl (x:=.bool false) rfl<|Aa (m:=field (.ref z) 3)<|Bg hz rfl (x:=.ref TI) rfl<|Aa<|BJ hI rfl ?_;refine Aa (m:=Builtin.SmallTypes.ownedTupleIsFree<|.ref z) ?_;refine Aa<|Bg hz rfl (x:=.none) rfl<|Ak ?_;simp only[if_true];refine Aa<|Bv<|Aa<|Bg hz rfl (x:=.ref TO) rfl<|Aa<|wpAny_setField_rec hz (by simp) λg1 z1 I=>?_;have j:=z1;refine Aa ?_;simp only[Er,List.zipIdx_nil,Dh,EK];refine Aa<|Aa<|wpAny_onRaise<|Aa (m:=Builtin.SmallTypes.nextOf<|.ref J) ?_;have p:=h1.on λo e=>I.extBut _ _ D.n3 e;have r:=q1.on λo e=>I.extBut _ _ D.n8 e;cases hx:xs[k]? with
 |none=>
  refine jQ.stop hh p r hx λg2 e s2 he=>?_;obtain⟨oe,ge,ce⟩:=he;have z2:=s2 _ _ (AE D.n3) j;have nz:e≠z:=λw=>by subst w;rw[z2] at ge;cases ge;simp at ce
  exact wpAny_setField_rec z2 (by simp) λg3 _ s3=>q g3 e (λc o C _ a3 _ w=>s3.extBut _ _ C<|s2 _ _ a3<|I.extBut _ _ C w) {oe,s3.extBut _ _ nz ge,ce}
 |some x=>
  have hy:ys[k]?=none:=by rcases g with h|h;rw[hx] at h;cases h;exact h
  refine jQ.next p r hx λg2 a5 T=>Ak ?_;have O2:=T.extBut _ _ D.n5<|I.extBut _ _ D.n2 hO;refine Aa<|BJ O2 rfl<|Aa<|wpAny_updateSeq_pair O2 λg3 O3 e3=>Aa<|wpAny_letGo<|Ak ?_;refine Aa (Aa (wpAny_onRaise (Aa (m:=Builtin.SmallTypes.nextOf<|.ref U) (jQ.stop (t:=t2) (l:=l2) (i:=k) (xs:=ys) hh (h2.on λo e=>e3.extBut _ _ (AE D.n6)<|T.extBut _ _ (AE D.n7)<|I.extBut _ _ D.n4 e)
   (q2.on λo e=>e3.extBut _ _ D.ZM<|T.extBut _ _ D.ZN<|I.extBut _ _ D.ZO e) hy λg4 e s4 he=>?_))))
  obtain⟨oe,ge,ce⟩:=he;have z4:=s4 _ _ (AE D.n4)<|e3.extBut _ _ (AE D.n2)<|T.extBut _ _ (AE D.n3) j;have nz:e≠z:=λw=>by subst w;rw[z4] at ge;cases ge;simp at ce
  exact wpAny_setField_rec z4 (by simp) λg5 _ s5=>q g5 e (λc o C a2 a3 a4 w=>s5.extBut _ _ C<|s4 _ _ a4<|e3.extBut _ _ a2<|T.extBut _ _ a3<|I.extBut _ _ C w) {oe,s5.extBut _ _ nz ge,ce}
end
def FR(t:Bool):WH:=if t then "tuple_iterator" else "list_iterator"
section
variable {w:WF}
def tO.iter{xs:Ws}(I:tO t s.heap l xs)(q:Q (.ref ↥s) {s with heap:=s.heap.push {cls:=.type<|FR t,data:=.fields #[.ref l,.int 0 0]}}):wpAny (model prog w) A (pyIter<|.ref l) Q E s:=by cases t with|false=>exact wpAny_pyIter_list I q|true=>exact wpAny_pyIter_tuple I q
end
def jQ.new(e:h.get? it=some {cls:=.type<|FR t,data:=.fields #[.ref l,.int 0 0]}):jQ t h it l 0:=by cases t with|false=>exact{_,e,rfl,rfl}|true=>exact{_,e,rfl,rfl}
abbrev Gf(t1:Bool)(h:WG)(l1:Addr):WG:=h.push {cls:=.type<|FR t1,data:=.fields #[.ref l1,.int 0 0]}
abbrev Gg(t1 t2:Bool)(h:WG)(l1 l2:Addr):WG:=(Gf t1 h l1).push {cls:=.type<|FR t2,data:=.fields #[.ref l2,.int 0 0]}
abbrev Gh(t1 t2:Bool)(h:WG)(l1 l2:Addr):WG:=(Gg t1 t2 h l1 l2).push {cls:=.type "tuple",data:=.seq #[.ref h.objs.size,.ref (Gf t1 h l1).objs.size]}
abbrev Gi(t1 t2:Bool)(h:WG)(l1 l2:Addr):WG:=(Gh t1 t2 h l1 l2).push {cls:=.type "tuple",data:=.seq #[.none,.none]}
abbrev Fk(t1 t2:Bool)(h:WG)(l1 l2:Addr):WG:=(Gi t1 t2 h l1 l2).push {cls:=.type "zip",data:=.fields #[.none,.bool false,.bool false,.ref (Gg t1 t2 h l1 l2).objs.size,.ref (Gh t1 t2 h l1 l2).objs.size]}
def yP(t1 t2:Bool)(l1 l2:Addr)(xs ys:Ws):Meets (Builtin.«zip.__new__» ⟨[.type "zip",.ref l1,.ref l2],[]⟩) (λ_ R s=>tO t1 s.heap l1 xs/\tO t2 s.heap l2 ys/\R (.ok<|.ret<|.ref (Gi t1 t2 s.heap l1 l2).objs.size) {s with heap:=Fk t1 t2 s.heap l1 l2}):=
 .of_wp λI w A R s h=>by
  obtain⟨U,g,d,j,os⟩:=s;obtain⟨l,p,h⟩:=h;have J:=sub_zip;have r:=l;have t:tO t2 (Shared.heap ⟨U.push {cls:=.type<|FR t1,data:=.fields #[.ref l1,.int 0 0]},g,d,j,os⟩) l2 ys:=p.on λo e=>sy _ e
  wp_walk using tO.iter r,tO.iter t
  exact{_,rfl,h}
def QX{w:WF}{xs ys:Ws}(p:tO t1 s.heap l1 xs)(r:tO t2 s.heap l2 ys)
 (q:∀h',IsZip h' (↥s+4) (↥s+2) (↥s+3) .none->IsPair h' (↥s+2) (.ref ↥s) (.ref<|↥s+1)->IsPair h' (↥s+3) .none .none->
  jQ t1 h' ↥s l1 0->jQ t2 h' (↥s+1) l2 0->(∀c o,s.heap.get? c=some o->h'.get? c=some o)->Q (.ref<|↥s+4) {s with heap:=h'}):
 wpAny (model prog w) A (call (.type "zip") [.ref l1,.ref l2]) Q E s:=by
 refine callType_new F.called_zip (by decide) (F.typeCall_zip_2 _ _) (F.newCall_zip_2 _ _) (λobj=>F.args_object_init_3 obj _ _) F.entry_zip_new (yP t1 t2 l1 l2 xs ys) {p,r,?_};have I:(Gf t1 s.heap l1).objs.size=↥s+1:=At ..;have J:(Gg t1 t2 s.heap l1 l2).objs.size=↥s+2:=by rw[At,I]
 have U:(Gh t1 t2 s.heap l1 l2).objs.size=↥s+3:=by rw[At,J]
 have j:(Gi t1 t2 s.heap l1 l2).objs.size=↥s+4:=by rw[At,U]
 have g:(Fk t1 t2 s.heap l1 l2).get? (Gi t1 t2 s.heap l1 l2).objs.size=some _:=vb _ rfl;have l:(Fk t1 t2 s.heap l1 l2).get? (Gh t1 t2 s.heap l1 l2).objs.size=some _:=sy _<|vb _ rfl;have g3:(Fk t1 t2 s.heap l1 l2).get? (Gg t1 t2 s.heap l1 l2).objs.size=some _:=sy _<|sy _<|vb _ rfl;have g2:(Fk t1 t2 s.heap l1 l2).get? (Gf t1 s.heap l1).objs.size=some _:=sy _<|sy _<|sy _<|vb _ rfl;have g1:(Fk t1 t2 s.heap l1 l2).get? ↥s=some _:=sy _<|sy _<|sy _<|sy _<|vb _ rfl;rw[J,U,j] at g;rw[I,J] at g3;rw[U] at l;rw[I] at g2;rw[j];exact{{_,g,rfl},q _ g g3 l (jQ.new g1) (jQ.new g2) λc o e=>sy _<|sy _<|sy _<|sy _<|sy _ e}
def Sq(t:Bool)(K:Ag)(H:Hp)(a:Addr)(xs:WI):Prop:=match t with
 |false=>ag K H a xs
 |true=>fB K H a xs
section
variable {σ:St}
def qx.seq{a:Addr}(I:qx X pins σ H s)(h:Sq t X.K H a xs):∃eA:Wr,zk xs eA/\tO t s.heap a eA.toArray/\xs.length<=sizeLine:=by
 cases t with
 |false=>obtain⟨eA,v,p,z⟩:=I.list h;exact{(eA),v,p.isList,z}
 |true=>obtain⟨eA,v,p,z⟩:=I.tuple h;exact{(eA),v,p,z}
def qx.XR{a:Addr}{ys:WI}(I:qx X pins σ H s)(h:Sq t X.K H a xs)(h':Sq t X.K H a ys):xs=ys:=by cases t with|false=>exact I.WL h h'|true=>exact I.WW h h'
end
def G7(t1 t2:Bool)(K:Ag)(a b:Addr):It:=
 ⟨λi H=>∃xs ys x y,Sq t1 K H a xs/\Sq t2 K H b ys/\xs[i]?=some x/\ys[i]?=some y,
  λi H v H'=>∃p x y,H p=none/\v=.ref p/\H'=upd H p (.tup [x,y])/\(∀xs,Sq t1 K H a xs->xs[i]?=some x)/\∀ys,Sq t2 K H b ys->ys[i]?=some y,
  λi H=>∃xs ys,Sq t1 K H a xs/\Sq t2 K H b ys/\(xs.length<=i\/ys.length<=i)⟩
def QY{P:WE}{w:WF}{K:Ag}(a b z TI TO l p:Addr)(D:G6 z TI TO l p a b)(d1:TI≠TO)(d2:TI≠l)(d3:TI≠p):
 xQ P w K (.Tuple ml x1 tp) (G7 t1 t2 K a b) [z,TI,TO,l,p] z (λi h=>IsZip h z TI TO .none/\IsPair h TI (.ref l) (.ref p)/\(∃u v,IsPair h TO u v)/\jQ t1 h l a i/\jQ t2 h p b i) where
 mem:=by simp
 obj:=λi h ⟨U,r,⟨u,v,t⟩,h1,h2⟩ c j=>by
  simp only[Aw,AZ,or_false] at j;rcases j with rfl|rfl|rfl|rfl|rfl
  .exact{_,U,λv z=>by cases z}
  .exact{_,r,λv z=>by cases z}
  .exact{_,t,λv z=>by cases z}
  .exact h1.ob
  .exact h2.ob
 keep:=λi h h' ⟨U,r,⟨u,v,t⟩,h1,h2⟩ k=>{k z (by simp) _ U,k TI (by simp) _ r,{u,v,k TO (by simp) _ t},h1.on λo q=>k l (by simp) o q,h2.on λo q=>k p (by simp) o q}
 item:=by
  intro X hP hw hK j i a2 s σ H E I hf ⟨U,r,⟨u,v,t⟩,h1,h2⟩ hg;subst hP hw hK;obtain⟨xs,ys,x,y,q1,q2,hx,hy⟩:=hg;obtain⟨a3,C,p1,_⟩:=I.seq q1;obtain⟨a4,a1,p2,_⟩:=I.seq q2;obtain⟨ux,a5,ac⟩:=C.get hx;obtain⟨uy,al,av⟩:=a1.get hy;have hT:s.TypeIs (.ref z) "zip" := {_,U,rfl};refine Aa (wpAny_attempt (wpAny_callSpecial?_slot (name:="__next__") hT Fi (wpAny_call_entry Fi hT F.entry_zip_next
   (QU D U r t h1 h2 p1 p2 (x:=ux) (y:=uy) (by simpa using a5) (by simpa using al) λg1 gz gO aL ba gT gk=>Ak {.ref ↥s,rfl,wpAny_letOwnedTupleGo_zip gz λg2 bb J=>?_}) (F.args_zip_next_1 _))))
  have lz:=u3 U;have bc:∀c∈[z,TI,TO,l,p],c<↥s:=λc j=>by
   simp only[Aw,AZ,or_false] at j;rcases j with rfl|rfl|rfl|rfl|rfl
   .exact lz
   .exact u3 r
   .exact u3 t
   .obtain⟨o,e,_⟩:=h1.ob;exact u3 e
   .obtain⟨o,e,_⟩:=h2.ob;exact u3 e
  have kk:∀c o,c∉[z,TI,TO,l,p]->s.heap.get? c=some o->g2.get? c=some o:=λc o g q=>by simp only[Aw,AZ,or_false,not_or] at g;exact J.extBut c o g.1<|gk c o g.1 g.2.2.1 g.2.2.2.1 g.2.2.2.2 q
  have tg:=J.extBut _ _ (C3 lz) gT;refine{.ref ↥s,upd H ↥s<|.tup [x,y],?_,rfl,{_,x,y,I.GT.fresh<|An _,rfl,rfl,λzs hq=>by rw[I.XR hq q1];exact hx,λzs hq=>by rw[I.XR hq q2];exact hy},?_,λc j=>?_}
  .exact I.XQ (t':=s.toks) kk hf (An _) {by show 2<=sizeLine;decide,[ux,uy],.cons ac<|.cons av .nil,{_,tg,rfl,_,rfl}}
  .exact{bb,J.extBut _ _ D.n1<|gk _ _ D.n1 d1 d2 d3 r,{_,_,J.extBut _ _ D.n2 gO},aL.on λo q=>J.extBut _ _ D.n3 q,ba.on λo q=>J.extBut _ _ D.n4 q}
  .rw[qo<|A3<|bc c j];exact(hf c j).1
 done:=by
  intro X hP hw hK j i a2 s σ H E I hf ⟨U,r,⟨u,v,t⟩,h1,h2⟩ hg;subst hP hw hK;obtain⟨xs,ys,q1,q2,hl⟩:=hg;obtain⟨a3,C,p1,_⟩:=I.seq q1;obtain⟨a4,a1,p2,_⟩:=I.seq q2;have l1:=C.length;have l2:=a1.length;have hT:s.TypeIs (.ref z) "zip" := {_,U,rfl};refine Aa (wpAny_attempt (wpAny_callSpecial?_slot (name:="__next__") hT Fi (wpAny_call_entry Fi hT F.entry_zip_next
   (QV (I.ok.hd j) D U r t h1 h2 p1 p2 (by rcases hl with h|h;exact .inl (by simp;lia);exact .inr (by simp;lia)) λg1 e gk he=>?_) (F.args_zip_next_1 _))))
  obtain⟨o,ho,bd⟩:=he;refine Aa<|wpAny_isInstance (T:="StopIteration") (b:=true) {(o),ho,bd} isSubtype_stop<|Ak {rfl,?_};exact I.XO (t':=s.toks) (fp:=[z,TI,TO,l,p]) (λc o g q=>by simp only[Aw,AZ,or_false,not_or] at g;exact gk c o g.1 g.2.2.1 g.2.2.2.1 g.2.2.2.2 q) hf
 self:=λ_ _ _ _ _ ⟨U,_⟩ h=>wpAny_pyIter_zip U h
def QZ(K:Ag)(ta:TA):TI:=λσ H R=>ta σ H λvs H1=>∃t1 t2 a b,vs=[.ref a,.ref b]/\(∃xs,Sq t1 K H1 a xs)/\(∃xs,Sq t2 K H1 b xs)/\R (G7 t1 t2 K a b) H1
def Q0:bootBuiltins "zip"=some (.type "zip"):=by decide +kernel
def Q1{a b:Expr}{ta:TA}(hg:Gl X "zip")(hm:X.mg "zip"=none)(ha:PA X [a,b] ta)(hs:starEach [a,b] X.env=[(false,eval a X.env),(false,eval b X.env)]:=by rfl)
 (U:starEach [b] X.env=[(false,eval b X.env)]:=by rfl):PI X (.Tuple ml x1 tp) (.Call (.Name "zip" p) [a,b] [] pos) (QZ X.K ta):=by
 intro g s σ H R I h;refine Call_ (hU I hg hm Q0 (Cg (aD (ha pos g s σ H _ I h) λus J ⟨vs,H1,j,r1,q1⟩=>?_) (by rw[hs,U]) (by rw[U];rfl)));obtain⟨t1,t2,l1,l2,e,⟨xs,hx⟩,⟨ys,hy⟩,q⟩:=q1;subst e;obtain⟨u1,u2,rfl,r,t⟩:=zk.two r1;cases r;cases t;obtain⟨a5,_,C,_⟩:=j.seq hx;obtain⟨ac,_,T,_⟩:=j.seq hy;have a1:l1<↥J:=by
  cases t1 with
  |false=>obtain⟨o,e,_⟩:=C;exact u3 e
  |true=>obtain⟨o,e,_⟩:=C;exact u3 e
 have al:l2<↥J:=by
  cases t2 with
  |false=>obtain⟨o,e,_⟩:=T;exact u3 e
  |true=>obtain⟨o,e,_⟩:=T;exact u3 e
 refine QX C T λg1 gz gI gO a2 a3 gk=>?_;have I2:=j.kept (t':=J.toks) gk;refine wpAny_pyIter_zip (s:={J with heap:=g1}) gz ?_;refine{_,[_,↥J+2,↥J+3,↥J,↥J+1],_,_,H1,rfl,I2,QY l1 l2 _ _ _ _ _ ?_ (wG (by lia)) (wG (by lia))<|wG (by lia),{gz,gI,{_,_,gO},a2,a3},λc hc=>?_,q}
 .have a4:=a1;constructor<;>exact wG (by lia)
 .have l:↥J<=c:=by simp only[Aw,AZ,or_false] at hc;rcases hc with rfl|rfl|rfl|rfl|rfl<;>exact r4 (by simp +arith only)
  exact j.XZ l<|j.GT.fresh l
def rm(I:qj):Y->qj->Prop
 |.ref a,L=>L a=I a
 |_,_=>True
theorem l9(L:qj):∀y:Y,rm L y L
 |.ref _=>rfl
 |.KB=>trivial
 |.bl _=>trivial
 |.int _=>trivial
 |.str _=>trivial
 |.ty _=>trivial
 |.cd _=>trivial
 |.tup _=>trivial
 |.sq _=>trivial
def ym{H1:Hp}(r:RV G H1 y v)(h:dD L1 y=some ys):∃t p,v=.ref p/\∀H L,j5 H1 H->zw G H L->rm L1 y L->∃xs,Sq t G.K H p xs/\xo G H ys xs:=by
 cases y with
 |tup I=>
  obtain⟨a,xs,e,s,q⟩:=r;cases h;exact{true,a,e,λH L t _ _=>{xs,fB.ts s t,q.ts t}}
 |sq I=>
  obtain⟨a,xs,e,s,q⟩:=r;cases h;exact{false,a,e,λH L t _ _=>{xs,(s.ts t).sq,q.ts t}}
 |ref a=>
  have e:=kW h;exact{false,a,r,λH L _ J U=>let ⟨xs,g,q⟩:=J a _<|U.trans e;⟨xs,FA g,q⟩}
 |_=>cases h
def xW(xs ys:Z0):Z0:=List.zipWith (λa b=>Y.tup [a,b]) xs ys
def I9{xs:Z0}(h:(xW xs ys)[i]?=some y):∃a b,xs[i]?=some a/\ys[i]?=some b/\y=.tup [a,b]:=by
 unfold xW at h;rw[List.getElem?_zipWith] at h;cases I:xs[i]? with
 |none=>rw[I] at h;simp at h
 |some a=>
  cases J:ys[i]? with|none=>rw[I,J] at h;simp at h|some b=>rw[I,J] at h;simp at h;exact{(a),b,rfl,rfl,h.symm}
def nU(xs ys:Z0):(xW xs ys).length=min xs.length ys.length:=by simp[xW]
def wY{a b:Addr}{xs:Z0}{keep:qj->Prop}(h1:∀H L,j5 H₀ H->zw G H L->keep L->∃us,Sq t1 G.K H a us/\xo G H xs us)(h2:∀H L,j5 H₀ H->zw G H L->keep L->∃us,Sq t2 G.K H b us/\xo G H ys us):
 gx G H₀ (G7 t1 t2 G.K a b) (xW xs ys) keep where
 go:=λi H L t I J hi=>by obtain⟨us,g,j⟩:=h1 H L t I J;obtain⟨U,l,o⟩:=h2 H L t I J;rw[nU] at hi;have l1:=j.length;have l2:=o.length;exact{us,U,us[i]'(by lia),U[i]'(by lia),g,l,Ai _,Ai _}
 X0:=λi H L x H' y t I J hy ⟨p,u,v,r,e1,e2,f1,f2⟩=>by subst e1 e2;obtain⟨us,g,j⟩:=h1 H L t I J;obtain⟨U,l,o⟩:=h2 H L t I J;obtain⟨c,d,ec,ed,rfl⟩:=I9 hy;obtain⟨u',eu,ru⟩:=j.get ec;obtain⟨v',ev,rv⟩:=o.get ed;have C:=f1 us g;rw[eu] at C;cases C;have T:=f2 U l;rw[ev] at T;cases T;exact{EU r,I.skip r,p,_,rfl,fB.of zf,{_,_,rfl,ru.ts<|EU r,_,_,rfl,rv.ts<|EU r,rfl}}
 stop:=λH L t I J=>by obtain⟨us,g,j⟩:=h1 H L t I J;obtain⟨U,l,o⟩:=h2 H L t I J;have l1:=j.length;have l2:=o.length;exact{us,U,g,l,by rw[nU];lia}
def Ja(ta:eX)(τ:jd)(L:qj)(R:Z0->(qj->Prop)->qj->Prop):Prop:=ta τ L λvs L1=>match vs with
 |[x,y]=>lF L1 x λxs=>lF L1 y λys=>R (xW xs ys) (λL=>rm L1 x L/\rm L1 y L) L1
 |_=>False
def Jb{a b:Expr}{tr:eX}(hg:Gl X "zip")(hm:X.mg "zip"=none)(ha:QA X [a,b] tr)(hs:starEach [a,b] X.env=[(false,eval a X.env),(false,eval b X.env)]:=by rfl)
 (g:starEach [b] X.env=[(false,eval b X.env)]:=by rfl):QI X (.Tuple ml x1 tp) (.Call (.Name "zip" p) [a,b] [] pos) (Ja tr):=PI.SL (Q1 hg hm ha hs g) λσ H R τ L R3 rs U z k=>by
 refine{τ,L,_,rs,U,z,λvs j ys l t1 I o J=>?_};split at J
 .rename_i x y;obtain⟨u,v,rfl,ru,rv⟩:=o.inv2;obtain⟨xs,ex,J⟩:=aS J;obtain⟨zs,ez,J⟩:=aS J;obtain⟨r,p1,rfl,k1⟩:=ym ru ex;obtain⟨C,p2,rfl,k2⟩:=ym rv ez;obtain⟨us,s1,_⟩:=k1 j l (ET _) I<|l9 _ _;obtain⟨ws,s2,_⟩:=k2 j l (ET _) I<|l9 _ _;exact{r,C,p1,p2,rfl,{(us),s1},{(ws),s2},k _ j _ _ l t1 I (wY (λH L t U T=>k1 H L t U T.1) λH L t U T=>k2 H L t U T.2) J}
 .exact J.elim
def tQ(xs:Z0)(L:qj)(Q:YK):Prop:=match xs with
 |[x]=>lF L x λys=>∀p,L p=none->Q (.ref p) (qd L p<|.lst ys)
 |_=>False
def iL :je X (.type "list") (b_ X.g3 tQ):=E9 rZ λt H Q C L T U I z k=>by
 unfold tQ at z;split at z
 .rename_i x;obtain⟨u,rfl,g⟩:=U.inv1;obtain⟨zs,j,z⟩:=aS z;obtain⟨p,o,e,sq,r⟩:=se I g j;subst e;exact{p,o,rfl,sq,λl J=>k _ _ _ _ (EU J) (I.Xa J r) (by rfl)<|z l<|I.none J}
 .exact z.elim
def gB{T:WH}{tr:eX}{r:Z0->qj->YK->Prop}(hc:je X (.type T)<|b_ X.g3 r)(U:Gl X x)(g:X.mg x=none)(j:bootBuiltins x=some (.type T))(h:QA X (e::es) tr)
 (l:x ≠ "__name__" := by decide) (hd:Fe x:=by decide) (hs:Fb e es X:=by rfl) (hp:Fc pos es X:=by rfl):
 QE X (.Call (.Name x p) (e::es) [] pos) (oN r tr):=EV (kM hc U g j h l hd hs hp) λσ H Q o L t C rl z k=>
 ⟨o,L,_,C,rl,z,λvs H1 ys L1 t1 I J z1=>{ys,L1,t,J,I,z1,k.ts t1}⟩
def sS(x:Y)(vs:Z0)(L:qj)(Q:YK):Prop:=match x,vs with
 |.ref a,[.int i]=>fA L a λys=>0<=i/\i<ys.length/\zX L (λv L=>Q v<|qd L a<|.lst<|ys.eraseIdx i.toNat) (ys[i.toNat]?)
 |_,_=>False
def Q2 :kF X "list.pop" (i_ X.g3 sS):=λJ s l H x xs v o Q I p t ⟨y,ys,L,Q3,C,T,j,z,k⟩=>by
 unfold sS at z;split at z
 .rename_i a i;obtain⟨zs,e,h0,h1,z⟩:=vo z;obtain⟨ws,U,r⟩:=j a _ e;obtain⟨i',rfl,ri⟩:=T.inv1;cases ri;cases g:zs[i.toNat]? with
  |none=>rw[g] at z;exact z.elim
  |some w=>
   rw[g] at z;obtain⟨u,eu,ru⟩:=r.get g;obtain⟨_,_,_,hz⟩:=I.list<|FA U;have hl:=r.length;have hs:sizeLine<2 ^ 62:=by decide
   refine Pb J s l H x _ v o Q I p t {a,ws,i,i.toNat,u,C,rfl,U,by lia,by lia,?_,eu,k _ _ _ _ (E6 U) (j.X2 U<|r.eraseIdx _) (ru.ts<|E6 U) z};unfold seqIndex?;rw[Ap (show ¬i<0 by lia),Ar (by simp;lia)]
 .exact z.elim
def dR{tr:eX}(I:QE X o to)(J:QA X (e::es) tr)(U:s_ X o e es "pop" apos eK:=by exact{(rfl),rfl,rfl,rfl,rfl}):
 QE X (.Call (.Attribute o "pop" apos) (e::es) [] eK) (iI sS to tr):=tJ PySem.F.slot_list_pop PySem.F.type_list_pop Q2 I J U
def yd(i:Int)(n d:Nat):max 0 (min (if i<0 then i+(n:Int) else i) n)=((KM n d (some i):Nat):Int):=by
 simp only[KM];by_cases h:i<0
 .simp only[h,if_true]<;>lia
 .simp only[h,if_false]<;>lia
def Q4(l u:Wz)(n:Nat):Builtin.Str.strSliceIndices l u 1 n=(List.range<|KM n n u-KM n 0 l).map (KM n 0 l+·):=by
 have y:(n:Int)=((KM n n none:Nat):Int):=rfl;cases l with
 |none=>
  cases u with
  |none=>exact sliceRange_one 0 n
  |some j=>
   show sliceRange 0 (max 0<|min (if j<0 then j+(n:Int) else j) n) 1=_;rw[yd j n n];exact sliceRange_one 0 _
 |some i=>
  cases u with
  |none=>
   show sliceRange (max 0<|min (if i<0 then i+(n:Int) else i) n) n 1=_;rw[yd i n 0];exact sliceRange_one _ n
  |some j=>
   show sliceRange (max 0<|min (if i<0 then i+(n:Int) else i) n) (max 0<|min (if j<0 then j+(n:Int) else j) n) 1=_;rw[yd i n 0,yd j n n];exact sliceRange_one _ _
def qO(x:Str)(l u:Wz):(Txt.slice x l u).cps.toList=(x.cps.toList.drop<|KM x.length 0 l).take (KM x.length x.length u-KM x.length 0 l):=by
 have U:x.length=x.cps.toList.length:=by simp[Str.length]
 have I:=pick_run x.cps (KM x.length 0 l)<|KM x.length x.length u-KM x.length 0 l;unfold Txt.slice;rw[Q4];split
 .rename_i h;simp only[beq_self_eq_true,Bool.true_and,Ae,Bh,beq_iff_eq] at h;have h1:=Yl x.length 0 (A5 _) l;have h2:=Yl x.length x.length (An _) u;have J:KM x.length 0 l=0:=by lia
  rw[h,J,DS,A8<|uY]
 .show(List.filterMap (λi=>x.cps[i]?) _).toArray.toList=_;rw[List.toList_toArray];exact I
def Q5:V->Wz->Wz->Hp->VK->Prop:=λx lo hi H Q=>∃z,x=.str z/\z.length<=sizeLine/\Q (.str<|Txt.slice z lo hi) H
def ann:tZ X Q5:=by
 rintro J s σ H x v U g lo j sl Q I o p r C⟨z,rfl,T,q⟩;obtain⟨t,rfl⟩:=o;obtain⟨l,rfl,hl⟩:∃l:Option (Int×Tok),U=partValue l/\l.map (·.1)=lo:=by cases r with|none=>exact{(none),rfl,rfl}|int i t=>exact{some (i,t),rfl,rfl}
 obtain⟨u,rfl,hu⟩:∃u:Option (Int×Tok),g=partValue u/\u.map (·.1)=j:=by cases C with|none=>exact{(none),rfl,rfl}|int i t=>exact{some (i,t),rfl,rfl}
 subst hl hu;refine{"str",_,F.slot_str_getitem.lookup,typeIs_str _ _ _,ji I.tk<|wpAny_getItem_str_slice (l:=l) (u:=u) (st:=none) p rfl ?_};exact post_val_or_str {AK (Txt.slice_le z _ _) T,λt' k ht=>{.str _,H,I.tok _,{(t'),rfl},q}}
def y7{zs:Wu}:∀{us:Wr},zk (zs.map V.str) us->StrsAre us zs:=by
 induction zs with
 |nil=>intro us r;rw[DO] at r;cases r;exact .nil
 |cons z zs I=>
  intro us r;rw[AQ] at r;cases r with
  |cons J U=>
   obtain⟨t,e⟩:=J;subst e;exact .cons z t<|I U
def Q6(K:Ag):V->WI->Hp->VK->Prop:=λx vs H Q=>∃z a zs,x=.str z/\vs=[.ref a]/\ag K H a ((zs:Wu).map V.str)/\(zs.map (·.length)).sum+zs.length*z.length<=16777216/\Q (.str<|Txt.join z zs) H
def Q7:kF X "str.join" (Q6 X.K):=by rintro J s σ H x vs v us Q I U g⟨z,a,zs,rfl,rfl,j,l,q⟩;obtain⟨t,rfl⟩:=U;obtain⟨u,rfl,o⟩:=g.one;cases o;obtain⟨C,r,p,_⟩:=I.list j;exact ji I.tk<|PyProof.Rows.join_list p.isList (by simpa using y7 r) l λT k ht=>{.str _,H,I.tok _,{(T),rfl},q}
def Gj(x:Y)(lo hi:Wz)(L:qj)(Q:YK):Prop:=match x with
 |.str z=>z.length<=sizeLine/\Q (.str<|Txt.slice z lo hi) L
 |x=>IC x lo hi L Q
def qW(K:Ag)(P:WE)(w:WF)(U:X.K=K:=by rfl)(g:X.prog=P:=by rfl)(hw:X.w=w:=by rfl):tZ X (Gd ⟨K,P,w⟩ Gj):=by refine tZ.imp (ann.or<|arm K P w U g hw) λx lo l H Q ⟨y,L,j,I,J,z,k⟩=>?_;cases y with|str s=>exact .inl {s,I,z.1,k _ H _ L (ET _) J (by rfl) z.2}|_=>exact .inr {_,L,j,I,J,z,k}
def Jc(r:Y->Z0->qj->YK->Prop)(to:xu)(t:eX)(τ:jd)(L:qj)(Q:YK):Prop:=to τ L λx L1=>match x with
 |.str z=>t τ L1 λxs L2=>r (.str z) xs L2 Q
 |_=>False
def Q8{tr:eX}{id:WH}{r:Y->Z0->qj->YK->Prop}(h2:Slot "str" name id)(h3:typeOf (.builtin id)=pure (.type "method_descriptor"))(T:kF X id<|i_ X.g3 r)(ho:QE X o to)(ha:QA X (e::es) tr)
 (I:s_ X o e es name apos eK:=by exact{(rfl),rfl,rfl,rfl,rfl}):
 QE X (.Call (.Attribute o name apos) (e::es) [] eK) (Jc r to tr):=EV (Ii PySem.F.plainAttrs_str h2 h3 T ho ha I.h4 I.h5 I.h6 I.h7 I.h8) λσ H Q p L Q3 t rl z k=>
 ⟨p,L,_,t,rl,z,λv H1 y L1 C J U g=>by
  split at g
  .rename_i s;cases U;exact{rfl,p,L1,_,t.ts C,J,g,λvs H2 ys L2 t2 j l z2=>{.str s,ys,L2,Q3,rfl,l,j,z2,k.ts<|C.trans t2}}
  .exact g.elim⟩
theorem wA{G:G3}{H:Hp}:∀{zs:Wu} {xs:WI},xo G H (zs.map Y.str) xs->xs=zs.map V.str
 |[],_,h=>h
 |z::r,_,⟨x,I,e,q,s⟩=>by rw[e,show x=V.str z from q,wA s];rfl
def G8(x:Y)(vs:Z0)(L:qj)(Q:YK):Prop:=match x,vs with
 |.str z,[.ref a]=>fA L a λys=>∃zs,ys=zs.map Y.str/\(zs.map (·.length)).sum+zs.length*z.length<=16777216/\Q (.str<|Txt.join z zs) L
 |_,_=>False
def Q9 :kF X "str.join" (i_ X.g3 G8):=kF.SL Q7 λx p H Q y t L C U g I z k=>by
 unfold G8 at z;split at z
 .rename_i s a;obtain⟨T,e,j,rfl,l,z⟩:=vo z;obtain⟨ws,J,r⟩:=I a _ e;obtain⟨u,rfl,o⟩:=g.inv1;cases o;rw[wA r] at J;exact{s,a,j,U,rfl,FA J,l,k _ H _ L (ET _) I (by rfl) z}
 .exact z.elim
def Ra{tr:eX}(I:QE X o to)(J:QA X (e::es) tr)(U:s_ X o e es "join" apos eK:=by exact{(rfl),rfl,rfl,rfl,rfl}):
 QE X (.Call (.Attribute o "join" apos) (e::es) [] eK) (Jc G8 to tr):=Q8 PySem.F.slot_str_join PySem.F.type_str_join Q9 I J U
def sP(zs:Wu):(Txt.join "" zs).cps.toList=zs.flatMap λz=>z.cps.toList:=by
 have e:∀zs:Wu,(Str.join "" zs).cps.toList=zs.flatMap λz=>z.cps.toList:=by
  intro zs
  induction zs with
  |nil=>rfl
  |cons z r I=>
   cases r with
   |nil=>simp[Str.join]
   |cons y r=>
    show(z ++ "" ++ Str.join "" (y::r)).cps.toList=_;have:(z ++ "" ++ Str.join "" (y::r)).cps=z.cps++#[]++(Str.join ""<|y::r).cps:=rfl;rw[this];simp only[Bd,I,Be,Array.append_empty]
 exact(Bt (λx:Str=>x.cps.toList)<|StrLaws.glued_eq_join "" zs).trans (e zs)
def Rb(K:Ag)(T S I:mB):PySem.W.kitAny K (.type T.nm) [.type S.nm,.type I.nm]=some (dU T S||dU T I):=by show(match PySem.W.kitOne K (.type T.nm) (.type S.nm) with|some true=>some true|some false=>(match PySem.W.kitOne K (.type T.nm) (.type I.nm) with|some true=>some true|some false=>some false|none=>none)|none=>none)=_;rw[sO,sO];cases dU T S<;>cases dU T I<;>rfl
def Rc{T S g:mB}{a:Addr}{σ:St}(I:qx X pins σ H s)(rl:zw X.g3 H L)(r:RV X.g3 H y v)(U:zo v u)(h:o_ L y=some T)(ha:H a=some (.tup [.ty S.nm,.ty g.nm]))
 (J:∀tk,Q (.bool<|dU T S||dU T g) {s with toks:=tk}):wpAny (model X.prog X.w) A (call (.builtin "isinstance") [u,.ref a]) Q E s:=by
 obtain⟨_,a1,vs,⟨⟨oc,od,dt,sl⟩,h1,h2,n,h3⟩⟩:=(show xh X.prog X.w H s.heap a (.tup [.ty S.nm,.ty g.nm]) from I.GT a _ ha);obtain⟨u1,u2,rfl,r1,r2⟩:=zk.two vs;cases (show u1=Value.type S.nm from r1);cases (show u2=Value.type g.nm from r2);cases (show oc=_ from h2);cases (show dt=_ from h3);have e:=Rb X.K T S g;cases y with
 |KB=>cases h;cases r;cases (show u=Value.none from U);exact Ce PySem.W.kitx_none I.SC True.intro h1 e (λz=>nomatch z) J
 |bl b=>cases h;cases r;cases (show u=Value.bool b from U);exact Ce PySem.W.kitx_bool I.SC True.intro h1 e (λz=>nomatch z) J
 |int i=>cases h;cases r;obtain⟨t,q⟩:=(show ∃t,u=Value.int i t from U);cases q;exact Ce PySem.W.kitx_int I.SC True.intro h1 e (λz=>nomatch z) J
 |str x=>cases h;cases r;obtain⟨t,q⟩:=(show ∃t,u=Value.str x t from U);cases q;exact Ce PySem.W.kitx_str I.SC True.intro h1 e (λz=>nomatch z) J
 |tup ys=>
  cases h;obtain⟨b,j,rfl,sq,_⟩:=r;cases (show u=Value.ref b from U);obtain⟨_,_,⟨o,g1,g2,_⟩,_⟩:=I.tuple sq;exact Ce DQ I.SC {(o),g1,g2} h1 e (λz=>nomatch z) J
 |sq ys=>
  cases h;obtain⟨b,j,rfl,sq,_⟩:=r;cases (show u=Value.ref b from U);obtain⟨_,_,⟨o,_,g1,g2,_⟩,_⟩:=I.list sq.sq;exact Ce CU I.SC {(o),g1,g2} h1 e (λz=>nomatch z) J
 |ref b=>
  cases (show v=.ref b from r);cases (show u=Value.ref b from U);have l:(match L b with|⇑_=>some mB.list|some (.KF _)=>some .dict|_=>none)=some T:=h;split at l
  .rename_i ys C;cases l;obtain⟨j,e2,_⟩:=rl b _ C;obtain⟨_,_,⟨o,_,g1,g2,_⟩,_⟩:=I.list<|FA e2;exact Ce CU I.SC {(o),g1,g2} h1 e (λz=>nomatch z) J
  .rename_i a2 C;cases l;obtain⟨j,e2,_⟩:=rl b _ C;obtain⟨_,_,ws,_,p⟩:=(show xh X.prog X.w H s.heap b (.dK j) from I.GT b _ e2);obtain⟨o,es,ep,g1,g2,_⟩:=p;exact Ce PySem.W.kitx_dict I.SC {(o),g1,g2.1} h1 e (λz=>nomatch z) J
  .cases l
 |_=>cases h
def Rf(G:G3)(S I:mB):WI->Hp->VK->Prop:=λxs H Q=>∃y v L J T a,xs=[v,.ref a]/\H a=some (.tup [.ty S.nm,.ty I.nm])/\RV G H y v/\zw G H L/\o_ L y=some T/\J (.bl<|dU T S||dU T I) L/\t7 G H J Q
def Rg(S g:mB):je X (.builtin "isinstance") (Rf X.g3 S g):=by rintro J s t H C us Q I r⟨y,v,L,Q3,T,a,rfl,j,l,U,ty,q,k⟩;obtain⟨u,c,rfl,o,p⟩:=zk.two r;cases (show c=Value.ref a from p);exact ji I.tk<|Rc I U l o ty j λtk ht=>{.bl _,H,I.tok _,rfl,k _ H _ L (ET _) U (by rfl) q}
def wL{a:Expr}{pt:Pos}{J I:Str}(S l:mB)(hg:Gl X "isinstance")(hm:X.mg "isinstance"=none)(o:Gl X J)(r:X.mg J=none)(t:bootBuiltins J=some (.type S.nm))(U:Gl X I)(g:X.mg I=none)(j:bootBuiltins I=some (.type l.nm))(ha:QE X a ta)
 (hn:J ≠ "__name__" := by decide) (hd:(J==("__debug__" : Str))=false:=by decide) (C:I ≠ "__name__" := by decide) (a1:(I==("__debug__" : Str))=false:=by decide)
 (hs:starEach [a,.Tuple [.Name J p1,.Name I p2] kt pt] X.env=(false,eval a X.env)::starEach [.Tuple [.Name J p1,.Name I p2] kt pt] X.env:=by rfl)
 (a2:starEach [.Tuple [.Name J p1,.Name I p2] kt pt] X.env=(false,eval (.Tuple [.Name J p1,.Name I p2] kt pt) X.env)::starEach [] X.env:=by rfl)
 (a3:starEach [.Name J p1,.Name I p2] X.env=(false,eval (.Name J p1) X.env)::starEach [.Name I p2] X.env:=by rfl) (a4:starEach [.Name I p2] X.env=(false,eval (.Name I p2) X.env)::starEach [] X.env:=by rfl)
 (hp:(backTo pos<|starEach [.Tuple [.Name J p1,.Name I p2] kt pt] X.env).any (·.1)=false:=by rfl):
 QE X (.Call (.Name "isinstance" p) [a,.Tuple [.Name J p1,.Name I p2] kt pt] [] pos) (P0 S l ta):=by
 refine E8 (iR (Rg S l) hg hm gi (aP ha (aP (HZ<|aP (GV o r t hn hd) (aP (GV U g j C a1) fH a4) a3) fH a2) hs) (by decide) (by decide) hs hp) ?_;rintro σ H Q ⟨τ,L,Q3,rs,rl,z,k⟩;refine{τ,L,_,rs,rl,z,λv H1 y L1 t1 a5 ac z1=>?_};obtain⟨T,et,z1⟩:=vD z1;refine{by show 2<=sizeLine;decide,λq hq=>?_};exact{y,v,L1,Q3,T,q,rfl,zf,ac.ts<|EU hq,a5.skip hq,et,z1,k.ts<|t1.trans<|EU hq}
inductive oF(t u:ai)(D:vd)(τ:jd)(L:qj):Prop
 |mk:∀J:jd->qj->Prop,t {D with nx:=J} τ L->(∀τ' L',J τ' L'->u D τ' L')->oF t u D τ L
def vi{rest:Ww}{t u:ai}(h:QS X st t)(k:rO X rest u):rO X (st::rest) (oF t u):=hJ.imp (uI h k) λD σ H ⟨o,L,j,p,r,⟨J,z,q⟩,k⟩=>
 ⟨o,L,{j with nx:=J},p,r,z,λC H1 I l T U g z1=>{I,l,j,U,g,q I l z1,k.ts T},k.rt,k.bk,k.ct⟩
abbrev X3:=jd->Addr->qj->Prop
abbrev kH:=Z0->qj->YK->(Addr->qj->Prop)->Prop
def Fl(G:G3)(E3:X3):X1:=λσ c H=>∃C τ L,c=.ref C/\va G H σ τ/\zw G H L/\E3 τ C L
def Jd(G:G3)(H:Hp)(E3:Addr->qj->Prop)(E:XK):Prop:=∀C H' L',j5 H H'->zw G H' L'->E3 C L'->E (.ref C) none H'
def Rh(G:G3)(sp:kH):Sp:=λvs H Q E=>∃ys L I E3,xo G H ys vs/\zw G H L/\sp ys L I E3/\t7 G H I Q/\Jd G H E3 E
def vX(E3:Addr->qj->Prop):X3:=λ_ C L=>∃L2,qf L2 L/\E3 C L2
abbrev Je(P:WE)(w:WF)(K:Ag)(mg:Wo)(base:WG)(k:Nat)(f:Addr)(fd:FuncData)(ps:Wu)(sp:kH):Prop:=au P w K mg base (g7 P w) k f fd ps<|Rh {(K),P,w} sp
structure i6(P:WE)(w:WF)(K:Ag)(mg:Wo)(base:WG)(k:Nat)(x:Str)(ps:Wu)(sp:kH):Prop where
 ex:∃f fd,Je P w K mg base k f fd ps sp/\aA K fd ps []/\PySem.W.keepIn K (.ref f)=true/\mg x=some (.ref f)
theorem i6.mono{P:WE}{w:WF}{K:Ag}{k:Nat}{sp:kH}(c:i6 P w K mg base j x ps sp)(h:j<=k):i6 P w K mg base k x ps sp:=by obtain⟨f,fd,F,b,I,m⟩:=c.ex;exact{f,fd,F.mono h,b,I,m}
def qx.ZT{σ:St}(I:qx X pins σ H s):j5 X.H₀ H:=λa u i e=>by cases u with|tup J=>exact I.base.WY a J e|Pv o u=>exact I.base.W3 a o u e|_=>cases i
def Ri{P:WE}{w:WF}{K:Ag}{N:Wu}{E:XK}{E3:Addr->qj->Prop}(h:Jd ⟨K,P,w⟩ H E3 E):
 bO (fP (g7 P w) P w K mg base N eh scope f cd A outer s H E) (Fl ⟨K,P,w⟩<|vX E3):=by
 intro J j g l a C tr I L ap U ⟨t,T,L',o,rs,p,L2,r,q⟩;cases o;exact PH J j g l a C tr I L ap U<|h C g L2 (qx.ZT I) (p.sub r) q
def kU(sp:kH)(E3:X3)(t:eX)(τ:jd)(L:qj)(Q:YK):Prop:=t τ L λys L1=>sp ys L1 Q<|E3 τ
def Jf(C:Addr)(E3:X3)(t:eX)(_:vd)(τ:jd)(L:qj):Prop:=t τ L λys L1=>ys.length<=1000/\E3 τ C L1
section
variable {tr:eX}{E3:X3}
def G9{k:Nat}{sp:kH}(c:i6 X.prog X.w X.K X.mg X.base k x ps sp)(t:ki k X.A)(T:Gl X x)(ht:bO X<|Fl X.g3 E3)(hx:X.ex=[])(ha:QA X (e::es) tr)(I:Fe x:=by decide)
 (he:Fb e es X:=by rfl) (J:Fc pos es X:=by rfl):QE X (.Call (.Name x p) (e::es) [] pos) (kU sp E3 tr):=by
 obtain⟨f,fd,F,b,kp,m⟩:=c.ex;refine EV (vP F t T m kp b ht hx ha I he J) λσ H Q U L Q3 o rl z k=>?_;exact{U,L,_,o,rl,z,λvs H1 ys L1 r g j z1=>{ys,L1,Q3,E3 U,j,g,z1,k.ts r,λC H' L' t' l q=>{C,U,L',rfl,o.ts<|r.trans t',l,q}}}
def Rj(c:FF X.K C)(o:Gl X x)(p:X.mg x=some (.ref C))(hc:X.calm=true)(r:bO X<|Fl X.g3 E3)(t:X.ex=[])(T:QA X (e::es) tr)(I:Fe x:=by decide)
 (he:Fb e es X:=by rfl) (J:Fc eK es X:=by rfl):
 QS X (.Raise (some<|.Call (.Name x np) (e::es) [] eK) none pos) (Jf C E3 tr):=EX (PL c o p hc r t T I he J) λD σ H j L D3 l rl z k=>
 ⟨j,L,_,l,rl,z,λvs H1 ys L1 t1 U g ⟨hl,z1⟩=>{gD (by rw[<-g.length];exact hl),C,j,L1,rfl,l.ts t1,U,z1}⟩
end
def Rk{P:WE}{w:WF}{K:Ag}{N:Wu}{k:Nat}{sp:kH}{t:X3->ai}(F:Yk K x eh st f fd)(S:aR N ps<|qw st)(len:∀ys L Q E,sp ys L Q E->ys.length=ps.length)
 (I:∀(eW:WC) (A:Around) (outer:List Env) (s:WD) (H:Hp) (E:XK) (E3:X3),ki k (A.deeper<|PyProof.Rows.envOfC eh (qw st) ↥s f eW)->
  bO (fP (g7 P w) P w K mg base N eh (qw st) f eW A outer s H E) (Fl ⟨K,P,w⟩ E3)->rO (fP (g7 P w) P w K mg base N eh (qw st) f eW A outer s H E) (jr st) (t E3))
 (vc:∀ys L Q E,sp ys L Q E->t (vX E) {nx:=λ_ L'=>gW Q .KB L',rt:=gW Q} (ff N ys) L):Je P w K mg base (k+1) f fd ps sp:=by
 obtain⟨oc,od,kV,a1,pm,an,eW,ct,a2,rfl,lk,U⟩:=F.ex;refine GL lk U S (λvs H Q E ⟨ys,L,g,E3,j,T,z,_⟩=>by rw[<-j.length];exact len ys L g E3 z) λA outer s H vs Q E hr ⟨ys,L,g,E3,j,T,z,k,kx⟩=>?_;refine{_,I eW A outer s H E (vX E3) hr<|Ri kx,ff N ys,L,_,jW j,T,vc ys L g E3 z,?_};exact{λσ l τ L' o a3 J ⟨L2,p,r⟩=>k .KB l .KB L2 o (J.sub p) (by rfl) r,λv l y L' o J C ⟨L2,p,r⟩=>k v l y L2 o (J.sub p) C r,λ_ _ _ _ _ _ _ z=>z.elim,λ_ _ _ _ _ _ _ z=>z.elim}
def Rl(G:G3)(H:Hp)(E3:X3)(E1:X1):Prop:=∀hQ C H' I L',j5 H H'->va G H' hQ I->zw G H' L'->E3 I C L'->E1 hQ (.ref C) H'
def Jg(G:G3)(t:X3->ai):X1->TS:=λE1 D σ H=>∃τ L I E3,va G H σ τ/\zw G H L/\t E3 I τ L/\yL G H I D/\Rl G H E3 E1
def QB(X:Cx)(body:Ww)(t:X3->ai):Prop:=∀(pn:List<|Addr×Obj) (xe:Wm) (E1:X1),bO (X.tr pn xe) E1->hJ (X.tr pn xe) body (Jg X.g3 t E1)
section
variable {tr:eX}{cp:Pos}
def Rm{k:Nat}{sp:kH}(c:i6 X.prog X.w X.K X.mg X.base k x ps sp)(hr:ki k X.A)(hg:Gl X x)(hx:X.ex=[])(ha:∀pn xe,QA (X.tr pn xe) (e::es) tr)(J:Fe x:=by decide)
 (he:Fb e es X:=by rfl) (U:Fc cp es X:=by rfl) (hs:swapsWith (.Call (.Name x p) (e::es) [] cp) none pos.line X.env=pure false:=by rfl):
 QB X [.Expr (.Call (.Name x p) (e::es) [] cp) pos] (λE3=>wo<|kU sp E3 tr):=by
 obtain⟨f,fd,F,b,kp,m⟩:=c.ex;intro pn xe E1 ht;refine hJ.imp (zQ<|yk (vP (X:=X.tr pn xe) F hr hg m kp b ht hx (ha pn xe) J he U) hs) λD σ H ⟨g,L,D3,E3,j,rl,z,k,kx⟩=>?_;exact{g,L,_,j,rl,z,λvs H1 ys L1 I l o z1=>{ys,L1,_,E3 g,o,l,z1,(λv H2 y L2 T r a1 z2=>k.nx _ H2 _ L2 (I.trans T) (j.ts<|I.trans T) r z2),λC H' L' t' t q=>kx σ C H' g L' (I.trans t') (j.ts<|I.trans t') t q}}
end
section
variable {a:Expr}{pt:Pos}{vs:WI}
end
def Jh:X3:=λ_ _ _=>False
def Rn :bO X (Fl X.g3 Jh):=λ_ _ _ _ _ _ _ _ _ _ _ ⟨_,_,_,_,_,_,z⟩=>z.elim
section
open PySem.W
def yV{K:Frag}(q:excIn K C [.type "ValueError",.type "Exception",.type "BaseException",.type "object"] "ValueError.__new__"=true):FF K C:=PJ q DU (by decide +kernel) DU
section
variable {K:Frag}{D:Addr}{t c:WC}{b:Bool}
def YE{cd:ClassData}(h0:subIn K (.ref D) (.type "BaseException")=some true)(h1:clsIn K D=some cd)(h2:typeIn K (.ref D)=some (.type "type"))(h3:subIn K (.ref C) (.ref D)=some b):exmOne K (.ref C) (.ref D)=some b:=by unfold exmOne;rw[Ar (by rw[h0];rfl)];unfold kitCls;simp only[h1,h2,Option.isSome_some,beq_self_eq_true,Bool.and_self,if_true];exact h3
end
end
section
variable {a b:Expr}{ta tb:TE}{op op':CmpOp}{ops:List CmpOp}{r:R2}{u:V->TE}
end
section
variable {a b:Expr}{op op':CmpOp}{ops:List CmpOp}{r:t8}{u:Y->xu}
end
theorem yy:∀{bs:List Bool} {us:Wr},zk (bs.map V.bl) us->us=bs.map Value.bool
 |[],_,.nil=>rfl
 |b::bs,_,.cons r t=>by cases (show _=Value.bool b from r);rw[yy t];rfl
def Ro(hc:X.calm=true:=by rfl):je X (.builtin "all") (λxs H Q=>∃(a:Addr) (bs:List Bool),xs=[.ref a]/\ag X.K H a (bs.map V.bl)/\Q (.bl<|bs.all id) H):=by
 rintro l s σ H xs us Q I r⟨a,bs,rfl,sq,q⟩;obtain⟨u,rfl,o⟩:=uZ r;cases o;obtain⟨p,t,C,_⟩:=I.list sq;cases yy t;have g:=xt C;have j:a<↥s:=by obtain⟨_,e,_⟩:=g;exact u3 e
 refine ji I.tk<|call_all_walk<|wpAny_pyIter_list g ?_;refine{↥s,[↥s,a],[↥s],(bs.map Value.bool).toArray.size,_,_,λi=>(bs[i]?).getD true,rfl,Walks.list (A:=X.A.in1) (I.ok.hd hc) _ a (A3 j) (bs.map Value.bool).toArray,
  ⟨⟨_,vb _ rfl,rfl,rfl⟩,g.push _⟩,λi v T Q' E' J U=>?_,λh' tk hk ht=>?_}
 .have J:(bs.map Value.bool).toArray[i]?=some v:=J;rw[List.getElem?_toArray,Aq] at J;obtain⟨b,e,rfl⟩:=AA.mp J;have U:Q' ((bs[i]?).getD true) T:=U;rw[e] at U;exact wpAny_truthy_bool U
 .have e:((List.range (bs.map Value.bool).toArray.size).all λi=>(bs[i]?).getD true)=bs.all id:=by rw[Ax,Ae];exact PyProof.Rows.LSm.range_all bs
  rw[e];exact{.bl _,H,I.kept (h':=h') (t':=tk)<|PyProof.Rows.LSm.kept_iter hk,rfl,q}
def FT:Z0->Option (List Bool)
 |[]=>some []
 |.bl b::r=>(FT r).map (b::·)
 |_::_=>none
def Rp(bs:List Bool):FT (bs.map Y.bl)=some bs:=by induction bs with|nil=>rfl|cons b r I=>show(FT<|r.map Y.bl).map (b::·)=_;rw[I];rfl
theorem vQ{G:G3}{H:Hp}:∀{ys:Z0} {xs:WI} {bs:List Bool},FT ys=some bs->xo G H ys xs->xs=bs.map V.bl
 |[],_,_,h,r=>by cases h;exact r
 |y::ys,_,bs,h,⟨x,I,e,J,U⟩=>by
  cases y with
  |bl b=>
   have g:=h;obtain⟨l,j,rfl⟩:=AA.mp g;cases (show x=V.bl b from J);rw[e,vQ j U];rfl
  |_=>cases h
def G'(xs:Z0)(L:qj)(Q:YK):Prop:=match xs with
 |[y]=>G2 y=true/\lF L y λys=>zX L (λbs L=>Q (.bl<|List.all bs id) L)<|FT ys
 |_=>False
def Rq(hc:X.calm=true:=by rfl):je X (.builtin "all") (b_ X.g3 G'):=E9 (Ro hc) λj H Q l L o J I z k=>by
 unfold G' at z;split at z
 .rename_i y;obtain⟨x,rfl,r⟩:=J.inv1;obtain⟨U,z⟩:=z;obtain⟨p,g,z⟩:=aS z;obtain⟨bs,eb,z⟩:=nE z;obtain⟨a,t,rfl,sq,rr⟩:=rD I r U g;cases vQ eb rr;exact{a,bs,rfl,sq,k _ H _ L (ET _) I (by rfl) z}
 .exact z.elim
def Rr:bootBuiltins "all"=some (.builtin "all"):=by decide +kernel
def yA:Y->Option j8
 |.int i=>some<|.inl i
 |.str x=>some<|.inr x
 |_=>none
def dP{k:j8}(h:yA y=some k)(r:RV G H y v):v=kV k:=by cases y with|int i=>cases h;exact r|str x=>cases h;exact r|_=>cases h
def wv(kvs:List<|j8×Y)(k:j8)(y:Y):List (j8×Y):=
 if (kvs.any λI=>decide<|I.1=k)=true then kvs.map (λI=>if I.1=k then(I.1,y) else I) else kvs++[(k,y)]
def j5.KF{p:Addr}{zs:List<|j8×V}{o:HO}(h:H p=some (.dK zs)):j5 H (upd H p o):=λa u i q=>by rw[qo ?_];exact q;rintro rfl;rw[h] at q;cases q;cases i
def Rs{xs:List<|j8×V}(p:Paired (λ(p:j8×Y) (q:j8×V)=>p.1=q.1/\RV G H p.2 q.2) kvs xs)(k:j8):(kvs.any λI=>decide<|I.1=k)=xs.any λI=>decide (I.1=k):=by induction p with|nil=>rfl|cons r t J=>rw[CB,CB,J,r.1]
def Rt{xs:List<|j8×V}(p:Paired (λ(p:j8×Y) (q:j8×V)=>p.1=q.1/\RV G H p.2 q.2) kvs xs)(k:j8)(r:RV G H y v):
 Paired (λ(p:j8×Y) (q:j8×V)=>p.1=q.1/\RV G H p.2 q.2) (kvs.map λI=>if I.1=k then(I.1,y) else I) (xs.map λI=>if I.1=k then(I.1,v) else I):=by
 induction p with
 |nil=>exact .nil
 |@cons a b _ _ J t U=>
  refine .cons ?_ U;obtain⟨e,q⟩:=J;dsimp only;by_cases c:a.1=k
  .rw[Ar c,Ar<|e▸c];exact{(e),r}
  .rw[Ap c,Ap λz=>c<|e.trans z];exact{(e),q}
def Rv{xs:List<|j8×V}(p:Paired (λ(p:j8×Y) (q:j8×V)=>p.1=q.1/\RV G H p.2 q.2) kvs xs)(k:j8)(r:RV G H y v):
 Paired (λ(p:j8×Y) (q:j8×V)=>p.1=q.1/\RV G H p.2 q.2) (kvs++[(k,y)]) (xs++[(k,v)]):=by
 induction p with|nil=>exact .cons {(rfl),r} .nil|cons I t J=>exact .cons I J
def oC{xs:List<|j8×V}(p:Paired (λ(p:j8×Y) (q:j8×V)=>p.1=q.1/\RV G H p.2 q.2) kvs xs)(k:j8)(r:RV G H y v):
 Paired (λ(p:j8×Y) (q:j8×V)=>p.1=q.1/\RV G H p.2 q.2) (wv kvs k y) (dz xs k v):=by
 unfold wv dz;rw[Rs p k];by_cases c:(xs.any λI=>decide<|I.1=k)=true
 .rw[Ar c,Ar c];exact Rt p k r
 .rw[Ap c,Ap c];exact Rv p k r
def o8{R:α->β->Prop}{l:List α}{m:List β}(p:Paired R l m):l.length=m.length:=by induction p with|nil=>rfl|cons _ _ I=>rw[AD,AD,I]
def zH(_:jd)(L:qj)(Q:YK):Prop:=∀p,L p=none->Q (.ref p) (qd L p<|.KF [])
def gt(td ti:xu)(τ:jd)(L:qj)(Q:YK):Prop:=td τ L λx L1=>ti τ L1 λy L2=>match x,yA y with
 |.ref a,some k=>jG L2 a λkvs=>zX L2 Q<|xj kvs k
 |_,_=>False
def uc(td ti tv:xu)(D:vd)(τ:jd)(L:qj):Prop:=tv τ L λv L1=>td τ L1 λx L2=>ti τ L2 λy L3=>match x,yA y with
 |.ref a,some k=>jG L3 a λkvs=>kvs.length<sizeLine/\D.nx τ (qd L3 a<|.KF<|wv kvs k v)
 |_,_=>False
section
variable {i:Expr}{tv:xu}
def gR:QE X (.Dict [] [] pos) zH:=EV Ox λU H Q g L j l J z k=>λp I=>by
 refine k _ _ _ (qd L p<|.KF []) (EU I) (λa u e=>?_) (by rfl)<|z p<|J.none I;by_cases c:a=p
 .subst c;rw[q9] at e;cases e;exact{[],zf,.nil}
 .rw[qb c] at e;exact(J a u e).keep (EU I) (qo c)
def vk(hu:X.A.units+128<cLine)(t:QE X o td)(hi:QE X i ti)(hs:GN i):QE X (.Subscript o i pos) (gt td ti):=EV (rf (by omega) t hi hs) λσ H Q l L Q3 p C z k=>
 ⟨l,L,_,p,C,z,λv H1 x T r J U z1=>{l,T,_,p.ts r,J,z1,λw H2 y L2 t2 I g j=>by
  split at j
  .rename_i a kk ek;obtain⟨a1,e,z3⟩:=kz j;obtain⟨yv,ev,q⟩:=nE z3;obtain⟨xs,e2,pr⟩:=I a _ e;obtain⟨xv,ex,rx⟩:=a9 pr ev;exact{a,xv,U,.inl {xs,kk,.inl e2,dP ek g,ex.symm},k _ H2 _ L2 (r.trans t2) I rx q}
  .exact j.elim}⟩
theorem eO(hu:X.A.units+128<cLine)(ho:QE X o td)(hi:QE X i ti)(hv:QE X value tv)(hs:swapsWith value (some<|.Subscript o i fx) pos.line X.env=pure false:=by rfl):QS X (.Assign [.Subscript o i fx] value pos) (uc td ti tv):=
 EX (Ov (by omega) ho hi hv hs) λD σ H l L D3 J rl z k=>
 ⟨l,L,_,J,rl,z,λv H1 vy L1 U p r z1=>{l,L1,_,J.ts U,p,z1,λx H2 xy L2 g t C z2=>{l,L2,_,J.ts<|U.trans g,t,z2,λw H3 y L3 T I a1 z3=>by
  split at z3
  .rename_i a kk ek;obtain⟨a2,e,hl,q⟩:=kz z3;obtain⟨xs,e2,pr⟩:=I a _ e;have j:j5 H3 (upd H3 a<|.dK<|dz xs kk v):=j5.KF e2;cases (show x=V.ref a from C);refine{a,_,rfl,.inl {xs,kk,e2,dP ek a1,by rw[<-o8 pr];exact hl,rfl},?_};refine k.nx _ _ _ _ (((U.trans g).trans T).trans j) (J.ts<|((U.trans g).trans T).trans j) (λb u eb=>?_) q;by_cases c:b=a
   .subst c;rw[q9] at eb;cases eb;exact{_,zf,EY (oC pr kk<|r.ts<|g.trans T) λ_ _ ⟨h1,h2⟩=>{h1,h2.ts j}}
   .rw[qb c] at eb;exact(I b u eb).keep j (qo c)
  .exact z3.elim}}⟩
end
def Ha(to ti tv:xu)(D:vd)(τ:jd)(L:qj):Prop:=tv τ L λv L1=>to τ L1 λx L2=>ti τ L2 λy L3=>match x,y with
 |.ref a,.int i=>fA L3 a λys=>zX L3 (λj L=>D.nx τ<|qd L a<|.lst<|ys.set j v)<|f_ ys.length i
 |_,_=>False
section
variable {i:Expr}{tv:xu}
theorem tU(ho:QE X o to)(hi:QE X i ti)(hv:QE X value tv)
 (ha:∀v,assign (.Subscript o i fx) X.env v=(do
  let J <-holding [v] (eval o X.env)
  let p <-holding [v,J] (eval i X.env)
  standAt fx
  holding [v,J,p] (setItem J p v)
  release [v,J,p] []):=by intro _;rfl)
 (h1:swapsWithSole [.Subscript o i fx] value pos.line X.env=pure false:=by rfl) (h2:swappedStores [.Subscript o i fx] value X.env=pure none:=by rfl)
 (h3:(assignEach [.Subscript o i fx] X.env).map (·.2)=[assign (.Subscript o i fx) X.env]:=by rfl):QS X (.Assign [.Subscript o i fx] value pos) (Ha to ti tv):=
 EX (HN hv (Na ho hi OV ha) h1 h2 h3) λD σ H t L D3 U rl z k=>
 ⟨t,L,_,U,rl,z,λv H1 vy L1 g C T z1=>{t,L1,_,U.ts g,C,z1,λx H2 xy L2 l a1 a2 z2=>{t,L2,_,U.ts<|g.trans l,a1,z2,λw H3 y L3 t3 I a3 z3=>by
  split at z3
  .rename_i a ii;obtain⟨ys,e,z4⟩:=vo z3;obtain⟨j,ej,q⟩:=nE z4;obtain⟨xs,e2,r⟩:=I a _ e;cases (show x=V.ref a from a2);cases (show w=V.int ii from a3);have tt:j5 H3 (upd H3 a<|.lst<|xs.set j v):=E6 e2;exact{a,xs,ii,j,rfl,rfl,e2,by rw[<-r.length];exact ej,k.nx _ _ _ _ (((g.trans l).trans t3).trans tt) (U.ts<|((g.trans l).trans t3).trans tt) (I.X2 e2<|xo.Zj (T.ts<|l.trans t3) j r) q}
  .exact z3.elim}}⟩
end
section
variable {v₁ v₂:Expr}{te:TE}{u:Str->TE}
end
section
variable {v₁ v₂:Expr}{u:Str->xu}
end
@[irreducible] def yJ (L:qj) (a:Addr) (k:Addr->List (Str×Y)->Prop):Prop:=match L a with
 |some (.ins C fs)=>k C fs
 |_=>False
def aC{a:Addr}{fs:List<|Str×Y}{k:Addr->List (Str×Y)->Prop}(e:L a=some (.ins C fs))(h:k C fs):yJ L a k:=by unfold yJ;rw[e];exact h
def oM{a:Addr}{k:Addr->List (Str×Y)->Prop}(h:yJ L a k):∃C fs,L a=some (.ins C fs)/\k C fs:=by
 unfold yJ at h;split at h
 .rename_i C fs e;exact{(C),fs,e,h}
 .exact h.elim
abbrev Gk(G:G3)(H:Hp):List (Str×Y)->List (Str×V)->Prop:=Paired λ(p:Str×Y) (q:Str×V)=>p.1=q.1/\RV G H p.2 q.2
def Rw{fs:List<|Str×Y}{xs:List<|Str×V}(p:Gk G H fs xs){f:Str}(h:fs.lookup f=some y):∃v,xs.lookup f=some v/\RV G H y v:=by
 induction p with
 |nil=>cases h
 |@cons a b _ _ r t J=>
  obtain⟨I,j⟩:=a;obtain⟨U,g⟩:=b;obtain⟨e,r⟩:=r;cases (show I=U from e);rw[Bk] at h ⊢;cases c:(f==I) with
  |true=>rw[c] at h;cases h;exact{(g),rfl,r}
  |false=>rw[c] at h;exact J h
def Rx{fs:List<|Str×Y}{xs:List<|Str×V}(p:Gk G H fs xs){f:Str}(h:fs.lookup f=none):xs.lookup f=none:=by
 induction p with
 |nil=>rfl
 |@cons a b _ _ r t J=>
  obtain⟨I,g⟩:=a;obtain⟨U,j⟩:=b;obtain⟨e,r⟩:=r;cases (show I=U from e);rw[Bk] at h ⊢;cases c:(f==I) with
  |true=>rw[c] at h;cases h
  |false=>rw[c] at h;exact J h
def zC(f:Str)(y:Y):List (Str×Y)->List (Str×Y)
 |[]=>[(f,y)]
 |(g,x)::r=>if g=f then(g,y)::r else(g,x)::zC f y r
def Ry{fs:List<|Str×Y}{xs:List<|Str×V}(p:Gk G H fs xs)(f:Str)(r:RV G H y v):Gk G H (zC f y fs) (dm f v xs):=by
 induction p with
 |nil=>exact .cons {(rfl),r} .nil
 |@cons a b _ _ J t U=>
  obtain⟨I,j⟩:=a;obtain⟨g,l⟩:=b;obtain⟨e,q⟩:=J;cases (show I=g from e);unfold zC dm;by_cases c:I=f
  .rw[Ar c,Ar c];exact .cons {(rfl),r} t
  .rw[Ap c,Ap c];exact .cons {(rfl),q} U
def j5.ins{p:Addr}{zs:List<|Str×V}{o:HO}(h:H p=some (.ins C dx zs)):j5 H (upd H p o):=λa u i q=>by rw[qo ?_];exact q;rintro rfl;rw[h] at q;cases q;cases i
def xE(K:Ag)(f:Str)(te:xu)(τ:jd)(L:qj)(Q:YK):Prop:=te τ L λx L1=>match x with
 |.ref a=>yJ L1 a λC fs=>Xe K C/\Pi K C f/\zX L1 Q (fs.lookup f)
 |_=>False
def Ji(K:Ag)(f:Str)(to tv:xu)(D:vd)(τ:jd)(L:qj):Prop:=tv τ L λv L1=>to τ L1 λx L2=>match x with
 |.ref a=>yJ L2 a λC fs=>Xe K C/\Pi K C f/\fs.length<1000/\D.nx τ (qd L2 a<|.ins C<|zC f v fs)
 |_=>False
def Hb(C:Addr)(sp:km)(t:eX)(τ:jd)(L:qj)(Q:YK):Prop:=t τ L λys L1=>∀x,L1 x=none->sp (.ref x::ys) (qd L1 x<|.ins C []) λv L2=>v=.KB/\Q (.ref x) L2
section
variable {tv:xu}{tr:eX}{f m:Str}{g:Addr}
def jS(h:QE X e te)(j:attributeBase e f X.env (eval e X.env)=eval e X.env:=by rfl):QE X (.Attribute e f pos) (xE X.K f te):=EV (NY h j) λσ H Q l L Q3 o p z k=>
 ⟨l,L,_,o,p,z,λv r y t T I J U=>by
  split at U
  .rename_i a;obtain⟨C,fs,e,c,n,z2⟩:=oM U;obtain⟨y,ey,q⟩:=nE z2;obtain⟨dx,xs,e2,pr⟩:=I a _ e;obtain⟨w,ew,g⟩:=Rw pr ey;exact{a,C,dx,xs,w,J,e2,c,n,ew,k _ r _ t T I g q}
  .exact U.elim⟩
def Rz(ho:QE X o to)(hv:QE X value tv)(hs:swapsWith value (some<|.Attribute o f fx) pos.line X.env=pure false:=by rfl):QS X (.Assign [.Attribute o f fx] value pos) (Ji X.K f to tv):=EX (NZ ho hv hs) λD σ H τ L D3 U rl z k=>
 ⟨τ,L,_,U,rl,z,λv H1 vy L1 g j l z1=>{τ,L1,_,U.ts g,j,z1,λw H2 y L2 p I r t=>by
  split at t
  .rename_i a;obtain⟨C,fs,e,c,n,hl,q⟩:=oM t;obtain⟨T,xs,e2,pr⟩:=I a _ e;have J:j5 H2 (upd H2 a<|.ins C T<|dm f v xs):=j5.ins e2;refine{a,C,T,xs,r,e2,c,n,by rw[<-o8 pr];exact hl,k.nx _ _ _ _ ((g.trans p).trans J) (U.ts<|(g.trans p).trans J) (λb u eb=>?_) q};by_cases cc:b=a
   .subst cc;rw[q9] at eb;cases eb;exact{T,_,zf,EY (Ry pr f<|l.ts p) λ_ _ ⟨h1,h2⟩=>{h1,h2.ts J}}
   .rw[qb cc] at eb;exact(I b u eb).keep J (qo cc)
  .exact t.elim}⟩
def RA{k:Nat}(M:Mk X.K C g)(F:Ye X.prog X.w X.K X.mg X.base k g fd ps sp)(hr:ki (k+1) X.A)(hg:Gl X x)(hm:X.mg x=some (.ref C))(hb:aA X.K fd ps [])(ha:QA X (e::es) tr)
 (l:Fe x:=by decide) (he:Fb e es X:=by rfl) (o:Fc pos es X:=by rfl):
 QE X (.Call (.Name x p) (e::es) [] pos) (Hb C sp tr):=EV (Og M F hr hg hm hb .nil GQ ha l he o) λσ H Q τ L Q3 rs rl z k=>
 ⟨τ,L,_,rs,rl,z,λvs U ys L1 t1 I r z1=>λx J hx j ne=>by
  have ta:j5 U (upd U J<|.own x):=EU j;have t:upd U J (.own x) x=none:=by rw[qo<|AE ne];exact hx
  have T:j5 U (upd (upd U J<|.own x) x<|.ins C J []):=ta.trans<|EU t;refine{.ref x::ys,qd L1 x<|.ins C [],_,{.ref x,vs++[],by simp,rfl,by rw[AB];exact r.ts T},λb u eb=>?_,z1 x<|I.none hx,λv H2 y L2 t2 a1 a2 ⟨ev,q⟩=>?_}
  .by_cases cc:b=x
   .subst cc;rw[q9] at eb;cases eb;exact{J,[],zf,.nil}
   .rw[qb cc] at eb;have nd:b≠J:=λz=>by obtain⟨w,ew⟩:=(I b u eb).ex;rw[z,j] at ew;cases ew
    exact(I b u eb).keep T (by rw[qo cc,qo nd])
  .subst ev;exact{a2,k _ H2 _ L2 (t1.trans<|T.trans t2) a1 (by rfl) q}⟩
end
open PySem.AutoSeq1 (wpAny_loadPart')
section
open MeetsSeq MeetsSeq2 MeetsSeq3 SeqRoads2
end
section
open PySem.Builtin.Str
def len_list(x:Str):x.cps.toList.length=x.length:=by simp[Str.length]
end
section
variable {isp imk c j1 j2:Nat}{sp mk:Str}{u:Tok}{m:Wo}{p6 p7 p8 p9 pR:Pos}{Q:Flow->WD->Prop}
end
def nF(s:Stmt):Ww:=match s with
 |.ClassDef _ _ _ b _ _ _ _ _ _ _=>b
 |_=>[]
structure Y_(P:WE)(w:WF)(K:Ag)(mg:Wo)(base:WG)(k:Nat)(C:Addr)(m:Str)(ps:Wu)(sp:km):Prop where
 ex:∃g fd,Fw K C m g/\Ye P w K mg base k g fd ps sp/\aA K fd ps []
structure Ze(P:WE)(w:WF)(K:Ag)(mg:Wo)(base:WG)(k:Nat)(C:Addr)(ps:Wu)(sp:km):Prop where
 ex:∃g fd,Mk K C g/\(∃j,k=j+1/\Ye P w K mg base j g fd ps sp)/\aA K fd ps []
theorem Y_.mono{P:WE}{w:WF}{K:Ag}{k:Nat}{m:Str}(c:Y_ P w K mg base j C m ps sp)(h:j<=k):Y_ P w K mg base k C m ps sp:=by obtain⟨g,fd,M,F,b⟩:=c.ex;exact{g,fd,M,F.mono h,b}
theorem Ze.mono{P:WE}{w:WF}{K:Ag}{k:Nat}(c:Ze P w K mg base j C ps sp)(h:j<=k):Ze P w K mg base k C ps sp:=by obtain⟨g,fd,M,⟨i,e,F⟩,b⟩:=c.ex;subst e;exact{g,fd,M,{k-1,by omega,F.mono (by omega)},b}
section
variable {tr:eX}{m:Str}{k:Nat}
def RB(ci:Ze X.prog X.w X.K X.mg X.base k C ps sp)(U:ki k X.A)(l:Gl X x)(o:X.mg x=some (.ref C))(r:QA X (e::es) tr)
 (I:Fe x:=by decide) (t:Fb e es X:=by rfl) (J:Fc pos es X:=by rfl):
 QE X (.Call (.Name x p) (e::es) [] pos) (Hb C sp tr):=by
 obtain⟨g,fd,M,⟨j,T,F⟩,b⟩:=ci.ex;subst T;exact RA M F U l o b r I t J
end
structure dZ(K:Ag)(C:Addr)(x eh:Str)(st:Stmt):Prop where
 ex:∃(f:Addr) (kV fy pm:WC) (an:Option Addr) (eW ct:WC),PySem.W.findIn K (.ref C) x=some (some<|.ref f)/\PySem.W.isFn K (.ref f)=true/\Yk K x eh st f (PySem.W.fnOf x eh (vj st) (jr st) (qw st) .none kV fy pm an eW ct)
def YC{K:Ag}{kV ct:WC}(a:PySem.W.findIn K (.ref C) x=some (some<|.ref f))
 (l:K.lookup f=some ⟨oc,od,.func<|PySem.W.fnOf x eh (vj st) (jr st) (qw st) .none kV fy pm an eW ct,oi⟩) (c:PySem.W.codeIn K eW eh=true) (k:PySem.W.keepIn K (.ref f)=true) (i:PySem.W.isFn K (.ref f)=true):dZ K C x eh st:=
 ⟨f,kV,fy,pm,an,eW,ct,a,i,Ij (st:=st) l c k⟩
def dZ.use{K:Ag}(D:dZ K C x eh st)
 (I:∀(kV fy pm:WC) (an:Option Addr) (eW ct:WC) (us:Wr),us.length=ps.length->bindArgs (PySem.W.fnOf x eh (vj st) (jr st) (qw st) .none kV fy pm an eW ct) ⟨us,[]⟩=pure (ps.zip us)):
 ∃f fd,Yk K x eh st f fd/\aA K fd ps []/\Fw K C x f:=by
 obtain⟨f,kV,fy,pm,an,eW,ct,a,i,F⟩:=D.ex;exact{f,_,F,aA.all<|I kV fy pm an eW ct,{(a),i,F.kp}}
def top(i:Nat):Stmt:=PySem.Challenge.pw_oncewise_k33_faults_walked.main.body.getD i<|.Pass {0,0,0,0}
abbrev gg:Stmt:=(nF<|top 4).getD 0<|.Pass {0,0,0,0}
abbrev cf:Stmt:=(nF<|top 4).getD 1<|.Pass {0,0,0,0}
abbrev fe:Stmt:=(nF<|top 4).getD 2<|.Pass {0,0,0,0}
abbrev fU:Stmt:=top 6
abbrev iX:Stmt:=top 7
abbrev tF:Stmt:=top 9
abbrev xM:Stmt:=top 10
abbrev eU:Stmt:=top 11
abbrev qF:Stmt:=top 12
abbrev yO:Stmt:=top 13
abbrev fK:Stmt:=top 15
abbrev lZ:Stmt:=top 16
abbrev pC:Stmt:=top 17
abbrev lT:Stmt:=top 18
abbrev lu:Stmt:=top 19
abbrev lM:Stmt:=top 20
abbrev gj:Stmt:=top 21
abbrev pX:Stmt:=top 22
abbrev lg:Stmt:=top 23
abbrev lO:Stmt:=top 24
abbrev wM:Stmt:=top 25
abbrev lm:Stmt:=top 26
abbrev lU:Stmt:=top 27
abbrev fF:Stmt:=top 28
abbrev fM:Stmt:=top 29
abbrev pQ:Stmt:=top 30
abbrev Re:Stmt:=top 31
abbrev qB:Stmt:=top 32
abbrev pJ:Stmt:=top 33
abbrev lw:Stmt:=top 34
abbrev jF:Stmt:=top 35
abbrev jB:Stmt:=top 36
abbrev gb:Stmt:=top 37
abbrev gE:Stmt:=top 38
abbrev jA:Stmt:=top 39
abbrev gw:Stmt:=top 40
abbrev uV:Stmt:=top 41
abbrev cH:Stmt:=top 42
abbrev nV:Stmt:=top 43
abbrev uf:Stmt:=top 44
structure V_ where
 (P:WE) (w:WF) (K:Ag) (mg:Wo) (base:WG) (Pt:Addr) (Ca Cb:Addr)
structure B0_(V:V_):Prop where
 bb:V.mg "list"=none
 be:V.mg "range"=none
 bf:V.mg "enumerate"=none
 bq:V.mg "all"=none
 ba:V.mg "len"=none
 bp:V.mg "zip"=none
 bg:V.mg "sorted"=none
 b_isinstance:V.mg "isinstance"=none
 b_bool:V.mg "bool"=none
 b_tuple:V.mg "tuple"=none
 bi:V.mg "int"=none
 b_str:V.mg "str"=none
 bj:V.mg "max"=none
 bh:V.mg "min"=none
abbrev Q_(V:V_)(k:Nat)(x:Str)(ps:Wu)(sp:km):Prop:=G4 V.P V.w V.K V.mg V.base k x ps sp
def I_{a b:Expr}(I:QE X a ta)(J:QE X b tb)(hp:sH b:=by exactλ_ _=>rfl):QE X (.Subscript a b pos) (ky m5 ta tb):=Qa (asg X.K X.prog X.w) I J hp
def x6{t:xu}(h:QE X e t)(s:starEach [e] X.env=[(false,eval e X.env)]:=by rfl):QA X [e] (qp t jc):=xx h xd s
def ve{f:Expr}{t u:xu}(h:QE X e t)(g:QE X f u)(s:starEach [e,f] X.env=[(false,eval e X.env),(false,eval f X.env)]:=by rfl)(r:starEach [f] X.env=[(false,eval f X.env)]:=by rfl):QA X [e,f] (qp t<|qp u jc):=xx h (x6 g r) (by show _=_;rw[s,r])
def cG{f d:Expr}{t u v:xu}(h:QE X e t)(g:QE X f u)(i:QE X d v)(s:starEach [e,f,d] X.env=[(false,eval e X.env),(false,eval f X.env),(false,eval d X.env)]:=by rfl)(r:starEach [f,d] X.env=[(false,eval f X.env),(false,eval d X.env)]:=by rfl)(q:starEach [d] X.env=[(false,eval d X.env)]:=by rfl):QA X [e,f,d] (qp t<|qp u<|qp v jc):=xx h (ve g i r q) (by show _=_;rw[s,r])
def E_{a b:Expr}(I:X.A.units+128<cLine)(J:QE X a ta)(U:QE X b tb):QT X (.Compare a [.Eq] [b] pos) (yB<|ky (c_ false) ta tb):=js (qU X.K X.prog X.w I) J U<|xc _
def N_{a b:Expr}(I:X.A.units+128<cLine)(J:QE X a ta)(U:QE X b tb):QT X (.Compare a [.NotEq] [b] pos) (yB<|ky (c_ true) ta tb):=js (IP X.K X.prog X.w I) J U<|xc _
def S_(i:Nat)(hN:X.N.Nodup)(h:QE X e te)(I:X.N[i]?=some x:=by rfl)(g:yu X.env.scope x:=by exact Or.inl rfl)(J:swapsWith e (some<|.Name x fx) pos.line X.env=pure false:=by rfl)(U:X.fn x=true\/X.env.scope.names.lookup x=some .local:=by first|exact .inl rfl|exact .inr rfl|assumption):QS X (.Assign [.Name x fx] e pos) (jw te<|qk i):=wf (i:=i) hN I g h J U
def G_(i:Nat)(hN:X.N.Nodup)(I:X.N[i]?=some x:=by rfl)(U:yu X.env.scope x:=by exact Or.inl rfl)(J:X.fn x=true\/X.env.scope.names.lookup x=some .local:=by first|exact .inl rfl|exact .inr rfl|assumption):QG X (.Name x pos) (qk i):=mW (i:=i) hN I U J
def C_{tr:eX}{k:Nat}(c:G4 X.prog X.w X.K X.mg X.base j x ps sp)(U:ki k X.A)(g:QA X (e::es) tr)(l:j<=k:=by first|decide|exact An _|exact AK (by decide)<|DJ _ _)(o:Gl X x:=by rfl)(I:Fe x:=by decide)(r:Fb e es X:=by rfl)(J:Fc pos es X:=by rfl):QE X (.Call (.Name x p) (e::es) [] pos) (xa sp tr):=Qr (X7.mono c l) U o g I r J
def J_{n:Int}{k:Nat}{q:Pos}(i:Nat)(hN:X.N[i]?=some x:=by rfl)(I:x_ X.env.scope x:=by first|exact Or.inl rfl|exact Or.inr (Or.inl rfl)|exact Or.inr<|Or.inr rfl)(hd:Fe x:=by decide)(hc:Ff x:=by decide):QE X (.Subscript (.Name x p) (.Constant (.int n) k q) pos) (ky m5 (qh i)<|yC<|.int n):=I_ (qv i hN I hd hc) qg λ_ _=>rfl
def L_{t:xu}(I:X.mg "len"=none)(h:QE X e t)(s:starEach [e] X.env=[(false,eval e X.env)]:=by rfl)(J:Gl X "len" := by rfl):QE X (.Call (.Name "len" p) [e] [] pos) (oN xJ<|qp t jc):=x5 (Qe X.K X.prog X.w) J I Py (x6 h s) (hs:=s)
def wH{l:Wu}(h:decide l.Nodup=true:=by kernel_rfl):l.Nodup:=of_decide_eq_true h
abbrev RC(V:V_):=Q_ V 1 "places_there" ["knots"]
abbrev RE(V:V_):=Q_ V 1 "eithers_of" ["web"]
abbrev RF(V:V_):=i6 V.P V.w V.K V.mg V.base 2 "kept_parts" ["web","choices"]
abbrev RG(V:V_):=i6 V.P V.w V.K V.mg V.base 3 "edges_by" ["web","choices"]
abbrev Jj(V:V_):=Q_ V 1 "neighbours_by" ["edges"]
abbrev RH(V:V_):=Q_ V 2 "path_by" ["edges","start","goal"]
abbrev RI(V:V_):=i6 V.P V.w V.K V.mg V.base 4 "fault_by" ["web","choices"]
abbrev Jk(V:V_):=Q_ V 1 "_law_cell_at" ["_law_script","_law_k"]
abbrev Jl(V:V_):=Q_ V 125 "_law_same" ["_law_found","_law_due"]
abbrev Gm(V:V_):=Q_ V 1 "_law_mix" ["_law_cell","_law_k","_law_factor"]
abbrev Jm(V:V_):=Q_ V 1 "_law_name" ["_law_seed","_law_which"]
abbrev RJ(V:V_):=Q_ V 121 "_law_word" ["_law_knots","_law_p"]
abbrev RK(V:V_):=Q_ V 121 "_law_flip" ["_law_word_here"]
abbrev RL(V:V_):=Q_ V 121 "_law_weight" ["_law_word_here"]
abbrev RM(V:V_):=Q_ V 127 "_law_mirror" ["_law_knots","_law_word_here"]
abbrev Jo(V:V_):=Q_ V 1 "_law_join" ["_law_knots","_law_forest","_law_one","_law_two"]
abbrev Jp(V:V_):=Q_ V 1 "_law_fold" ["_law_knots","_law_tree_here","_law_one","_law_two"]
abbrev Jq(V:V_):=Q_ V 128 "_law_cut" ["_law_knots","_law_forest","_law_one","_law_two"]
abbrev Jr(V:V_):=Q_ V 129 "_law_tree" ["_law_cells","_law_seed","_law_room"]
abbrev Js(V:V_):=Q_ V 1 "_law_told" ["_law_rule"]
abbrev Jt(V:V_):=Q_ V 1 "_law_crossed" ["_law_knots","_law_links","_law_one","_law_two"]
abbrev RN(V:V_):=Q_ V 1 "_law_beneath" ["_law_knots","_law_cuts"]
abbrev Ju(V:V_):=Q_ V 2 "_law_recast" ["_law_knots","_law_cuts","_law_seed","_law_most"]
abbrev RP(V:V_):=Q_ V 2 "_law_order" ["_law_knots","_law_seed"]
abbrev Jv(V:V_):=Q_ V 3 "_law_gapped" ["_law_knots","_law_links","_law_cuts","_law_seed","_law_gaps"]
abbrev RQ(V:V_):=Q_ V 130 "_law_web" ["_law_script","_law_seed","_law_room","_law_most"]
abbrev RS(V:V_):=Q_ V 1 "_law_copy" ["_law_web_here"]
abbrev RT(V:V_):=Q_ V 1 "_law_whole" ["_law_found"]
abbrev RU(V:V_):=Q_ V 1 "_law_count" ["_law_web_here","_law_kind"]
abbrev RW(V:V_):=Q_ V 1 "_law_places" ["_law_web_here"]
abbrev RX(V:V_):=Q_ V 2 "_law_choices" ["_law_script","_law_count_here","_law_turn"]
abbrev RY(V:V_):=Q_ V 1 "_law_edges" ["_law_web_here","_law_choices_here"]
abbrev Jw(V:V_):=Q_ V 1 "_law_labels" ["_law_places_here","_law_edges_here"]
abbrev Jx(V:V_):=Q_ V 2 "_law_ring" ["_law_edges_here","_law_numbers"]
abbrev RZ(V:V_):=Q_ V 126 "_law_fault_fits" ["_law_places_here","_law_edges_here","_law_told_here"]
abbrev R4(V:V_):=Q_ V 5 "_law_refused" ["_law_web_here","_law_choices_here"]
abbrev FU(V:V_)(k:Nat)(N:Wu)(x:Str)(st:Stmt)(f:Addr)(t:ai):Prop:=∀(eW:WC) (A:Around) (outer:List Env) (s:WD) (H:Hp) (E:XK),ki k (A.deeper<|PyProof.Rows.envOfC x (qw st) ↥s f eW)->N.Nodup->(A.deeper<|PyProof.Rows.envOfC x (qw st) ↥s f eW).units+128<cLine->rO (fP XU V.P V.w V.K V.mg V.base N x (qw st) f eW A outer s H E).YH (jr st) t
abbrev Gn(x:Str)(st:Stmt)(ps:Wu):Prop:=∀(kV fy pm:WC) (an:Option Addr) (eW ct:WC) (us:Wr),us.length=ps.length->bindArgs (PySem.W.fnOf x x (vj st) (jr st) (qw st) .none kV fy pm an eW ct) ⟨us,[]⟩=pure (ps.zip us)
abbrev RD(x:Str)(st:Stmt)(k:Nat)(N:Wu)(h:V_->Prop):=PSigma λt:ai=>∀V:V_,B0_ V->h V->∀f:Addr,FU V k N x st f t
abbrev RR(x:Str)(st:Stmt)(k:Nat)(ps N:Wu)(p:km)(h:V_->Prop):=PSigma λt:ai=>∀V:V_,B0_ V->h V->∀(n:Nat) (f:Addr),Q_ V (n+k) x ps p->FU V (n+k) N x st f t
def pV(i:Nat)(hi:X.N.length=i:=by rfl)(hN:(X.N++[x]).Nodup:=by exact wH)(J:∀C fp s₀ H₀,yu (X.comp scope [x] C fp s₀ H₀).env.scope x:=by exactλ_ _ _ _=>Or.inl rfl)(I:∀C fp s₀ H₀,(X.comp scope [x] C fp s₀ H₀).env.scope.names.lookup x=some .local:=by exactλ_ _ _ _=>rfl):Fj X scope [x] (.Name x p) (qk i):=hi▸bu hN J I
def Jy{y:Str}{I pt:Pos}(i:Nat)(hi:X.N.length=i:=by rfl)(hc:X.calm=true:=by rfl)(hN:(X.N++[x,y]).Nodup:=by exact wH)(U:∀C fp s₀ H₀,(X.comp scope [x,y] C fp s₀ H₀).env.scope.names.lookup x=some .local:=by exactλ_ _ _ _=>rfl)(J:∀C fp s₀ H₀,(X.comp scope [x,y] C fp s₀ H₀).env.scope.names.lookup y=some .local:=by exactλ_ _ _ _=>rfl)(h1:∀env,(assignEach [.Name x p,.Name y I] env).length=2:=by intro _;rfl)(h2:∀env,(assignEach [.Name x p,.Name y I] env).findIdx? (·.1)=none:=by intro _;rfl)(h3:∀env,(assignEach [.Name x p,.Name y I] env).map (·.2)=assign (.Name x p) env::(assignEach [.Name y I] env).map (·.2):=by intro _;rfl)(g:∀env,(assignEach [.Name y I] env).map (·.2)=assign (.Name y I) env::(assignEach [] env).map (·.2):=by intro _;rfl):Fj X scope [x,y] (.Tuple [.Name x p,.Name y I] kt pt) (dC 2<|jt (qk i)<|jt (qk<|i+1) bT):=hi▸sF hc hN U J h1 h2 h3 g
section
variable {te:TE}
end
section
variable {a T:Addr}{tr:Option Addr}
end
section
variable {T:Wu}{iter:Expr}{g:TG}{tc:TT}{te:TE}
end
section
variable {a b T:Addr}{tr:Option Addr}{E1:X1}
end
section
variable {k:Nat}{sp:Sp}{E1:X1}{t:TA}
end
section
variable {T:Wu}{iter:Expr}{wi:n_}{tr:eX}{E3:X3}{Ea:Addr->qj->Prop}
end
section
variable {w:WF}
theorem uF{it t:Addr}{eA:Ws}(I:t≠it):∀(n i:Nat) (s:WD) (Q:Wr->WD->Prop),s.heap.IsListIter it t i->s.heap.IsList t eA->i+n<=eA.size->
 (∀h',h'.IsListIter it t (i+n)->Heap.SameBut it s.heap h'->Q ((eA.toList.drop i).take n) {s with heap:=h'})->wpAny (model prog w) A (draw (.ref it) n) Q E s
 |0,i,s,Q,hit,_,_,g=>by exact Ak (by simpa using g s.heap hit (Heap.SameBut.refl ..))
 |n+1,i,s,Q,hit,p,r,g=>by
  have J:i<eA.size:=by omega
  refine Aa<|wpAny_pyNext_list_item hit p (x:=eA[i]) (by simp[J]) λg1 j U=>?_;refine Aa<|Bc<|uF I n (i+1) _ _ j (p.extBut U.extBut I) (by lia) λg2 l o=>Ak ?_;have e:eA.toList.drop i=eA[i]::eA.toList.drop (i+1):=by simp[BO,J]
  have q:=g g2 (by rw[show i+(n+1)=i+1+n by simp +arith only];exact l)
   (U.trans o)
  rw[e,List.take_succ_cons] at q;exact q
def R5{t:Addr}{eA:Ws}{Q:Wn}(T:A.handled=none)(I:s.heap.IsList t eA)(hn:(assignEach ml env).length=eA.size)(j:(assignEach ml env).findIdx? (·.1)=none)
 (h:∀g,Heap.ExtBut ↥s s.heap g->wpAny (model prog w) A (assignInOrder ((assignEach ml env).map (·.2)) eA.toList) Q E {s with heap:=g}):wpAny (model prog w) A (assign (.Tuple ml x1 pos) env<|.ref t) Q E s:=by
 have J:t≠↥s:=by obtain⟨o,ho,_⟩:=I;exact A3<|u3 ho
 rw[arm_assign_Tuple];refine Aa<|wpAny_standAt ?_;unfold unpack;rw[hn,j];refine Aa<|Bc ?_;refine Aa<|Aa<|wpAny_specialOf I.typeIs slot_list_iter.lookup ?_;refine Ak ?_;rw[Ap (by simp)];refine Aa<|Bc<|wpAny_pyIter_list I ?_;refine Aa<|Bc<|uF J eA.size 0 _ _ {_,vb _ rfl,rfl,rfl} (I.push _) (by simp +arith only) λg1 l U=>?_;have all:List.take eA.size (List.drop 0 eA.toList)=eA.toList:=by rw[DS];exact A8 (by simp)
 rw[all,Ap (by simp)];have p:=(I.push _).extBut U.extBut J;refine Aa<|Bc<|wpAny_pyNext_list_end T l p (by simp) λg2 r=>?_;rw[Ap (by simp)];exact Ak<|h g2 λb o C e=>r b o C<|U.extBut b o C<|sy _ e
end
def R6(K:Ag)(n:Nat)(t:e_):TG:=λv σ H Q=>∃a xs,v=.ref a/\ag K H a xs/\xs.length=n/\t xs σ H Q
def R7{k:Nat}{t:e_}(hc:X.calm=true)(h:Yd X es t)
 (j:(assignEach es X.env).length=n:=by rfl) (U:(assignEach es X.env).findIdx? (·.1)=none:=by rfl):PG X (.Tuple es k pos) (R6 X.K n t):=by
 rintro J s l H v u Q I r⟨a,p,C,T,hl,hw⟩;subst C;cases r;obtain⟨a1,g,pl,hz⟩:=I.list T;have ht:=xt pl;refine R5 (I.ok.hd hc) ht (by simp[j,<-hl,g.length]) U λh' hx=>?_;have I1:=I.kept (t':=s.toks) λb o e=>hx b o (A3<|u3 e) e;exact h J _ l H p _ Q I1 (by simpa using g) hw
def R8(l:Addr)(eA:Ws)(n:Nat)(x:WC)(b:Nat->Bool)(j:Nat)(C:j<eA.size)(hit:b j=true)(hz:eA.size<=sizeLine):∀(k i:Nat),j-i=k->i<=j->(∀m,i<=m->m<j->b m=false)->
 Meets (Builtin.«list.remove.loop» ⟨[.ref l,x,rawInt i],[]⟩) (λA R s=>s.heap.get? l=some {cls:=.type "list",dict:=none,data:=.seq eA n,slots:=#[]}/\(∀m (hm:m<eA.size),SeqAt.EqAt A.in1 s eA[m] x<|b m)/\R (.ok<|.ret .none) {s with heap:=s.heap.update l (Obj.mapSeq λxs=>xs.eraseIdxIfInBounds j)}):=by
 intro k
 induction k with
 |zero=>
  intro i T p J I w A R s h;obtain⟨hp,g,d,tk,os⟩:=s;obtain⟨U,eq,h⟩:=h;have e:i=j:=by lia
  subst e
  (wp_walk using wpAny_loadPart' U)
  have r:eA[((i:Nat):Int).toNat]?=some eA[i]:=by simp[C]
  rw[r];refine Aa<|eq i C I w _ _ ?_;rw[hit];have t:(eA.eraseIdxIfInBounds i).size<=sizeLine+1:=AK (MeetsSeq.size_erased eA _)<|Dt hz
  (wp_walk using (wpAny_updateSeq U rfl (hz:=hz) (_hz':=t)),wpAny_loadPart' U)
  simpa using h
 |succ k ih=>
  intro i T p J I w A R s h;obtain⟨hp,g,d,tk,os⟩:=s;obtain⟨U,eq,h⟩:=h;have o:i<eA.size:=pO
  (wp_walk using wpAny_loadPart' U)
  have r:eA[((i:Nat):Int).toNat]?=some eA[i]:=by simp[o]
  have hc:((i:Int)+1)=((i+1:Nat):Int):=by rfl
  rw[r];refine Aa<|eq i o I w _ _ ?_;rw[J i (An _) (by omega)]
  wp_walk
  rw[hc];refine{plainId_quiet DT _,codeAny_builtin MeetsSeq.entry_remove_loop ?_};rw[Around.under_plainId DT _];exact ih (i+1) (by omega) (by omega) (λm h1 h2=>J m (iT) h2) I w A R _ {(U),eq,h}
def R9(l:Addr)(eA:Ws)(n:Nat)(x:WC)(b:Nat->Bool)(j:Nat)(o:j<eA.size)(hit:b j=true)(hz:eA.size<=sizeLine)(J:∀m,m<j->b m=false):
 Meets (Builtin.«list.remove» ⟨[.ref l,x],[]⟩) (λA R s=>s.heap.get? l=some {cls:=.type "list",dict:=none,data:=.seq eA n,slots:=#[]}/\(∀m (p:m<eA.size),SeqAt.EqAt A.in1 s eA[m] x<|b m)/\R (.ok<|.ret .none) {s with heap:=s.heap.update l (Obj.mapSeq λxs=>xs.eraseIdxIfInBounds j)}):=by
 intro I w A R s h;obtain⟨r,g,d,t,os⟩:=s;obtain⟨U,eq,h⟩:=h
 (wp_walk using wpAny_loadPart' U)
 refine{plainId_quiet DT _,codeAny_builtin MeetsSeq.entry_remove_loop ?_};rw[Around.under_plainId DT _];exact R8 l eA n x b j o hit hz _ 0 rfl (A5 _) (λm _ h2=>J m h2) I w A R _ {(U),eq,h}
theorem zk.Yq:∀{xs:WI} {us:Wr} (n:Nat),zk xs us->zk (xs.eraseIdx n) (us.eraseIdx n)
 |[],_,n,.nil=>by simp;exact .nil
 |_::_,_,0,.cons _ t=>t
 |_::_,_,n+1,.cons r t=>.cons r<|zk.Yq n t
def Sa(X:Cx):V->WI->Hp->VK->Prop:=λx vs H Q=>∃l xs y ds e,∃n m j:Nat,x=.ref l/\vs=[y]/\H l=⇑xs/\n<=126/\Paired (aa X.K H n) xs ds/\aa X.K H m y e/\j<ds.length/\(∃d,ds[j]?=some d/\Da.eq d e=true)/\
 (∀(k:Nat) d,k<j->ds[k]?=some d->Da.eq d e=false)/\Q .KB (upd H l<|.lst<|xs.eraseIdx j)
def Sb(hu:X.A.units+128<cLine):kF X "list.remove" (Sa X):=by
 rintro a5 s σ H x vs v us Q I rx rv⟨l,o,y,ds,e,n,m,j,rfl,rfl,hH,hn,pd,ry,hj,⟨dj,p,t⟩,C,q⟩;cases rx;obtain⟨u,rfl,ru⟩:=rv.one;obtain⟨z,J,nn,r,hl,T⟩:=I.XB hH;have l1:=pd.length;obtain⟨arr,U⟩:∃arr:Ws,arr=J.toArray:={_,rfl};have a1:arr.size=J.length:=by rw[U,Ax]
 have b:Nat->Bool:=λ_=>true;have a2:arr.size<=sizeLine:=by rw[a1];lia
 have M:=R9 l arr nn u (λk=>((ds[k]?).map λd=>Da.eq d e).getD false) j (by lia) (by rw[p];exact t) a2 (λk g=>by cases ek:ds[k]? with|none=>rfl|some d=>exact C k d g ek)
 rw[U] at M;refine call_meets F.slot_list_remove {_,T,rfl} F.entry_list_remove (F.args_list_remove_2 _ _) M {T,λk g=>?_,?_}
 .have ac:k<J.length:=by rw[Ax] at g;exact g
  obtain⟨d,ed,rd⟩:=Paired.Yp pd<|Ai (by lia:k<o.length);rw[ed];obtain⟨u',a3,a4⟩:=Paired.Yp r<|Ai (by lia:k<o.length);have eg:J.toArray[k]=u':=by have:=(AM.mp a3).2;simpa using this
  rw[eg];exact xZ I n (by lia) rd ry a4 ru
 .refine{.KB,_,I.Ym (its':=J.eraseIdx j) hH T ?_ (r.Yq j) ?_,rfl,q}
  .have:j<J.length:=by lia
   simp[Array.eraseIdxIfInBounds,this]
  .have:=Do o j;exact GR
def Jz(n:Nat)(t:uq)(y:Y)(τ:jd)(L:qj)(Q:jd->qj->Prop):Prop:=match y with
 |.ref a=>fA L a λys=>match ys.length==n with
  |true=>t ys τ L Q
  |false=>False
 |_=>False
def Sc{U:Nat}(hc:X.calm=true)(h:FP X es gs)(h1:(assignEach es X.env).length=n:=by rfl)(h2:(assignEach es X.env).findIdx? (·.1)=none:=by rfl):QG X (.Tuple es U pos) (Jz n gs):=
 PG.imp (R7 hc h h1 h2) λv σ H Q ⟨y,g,L,j,l,o,J,z,k⟩=>by
 cases y with
 |ref a=>
  cases (show v=.ref a from l);obtain⟨p,e,I⟩:=vo z;obtain⟨t,C,r⟩:=J a _ e;split at I
  .rename_i T;exact{a,t,rfl,FA C,by rw[<-r.length];exact beq_iff_eq.mp T,p,g,L,j,r,o,J,I,k}
  .exact I.elim
 |_=>exact z.elim
def mX(x:Y)(vs:Z0)(L:qj)(Q:YK):Prop:=match x,vs with
 |.ref a,[v]=>fA L a λys=>∃ds e,∃n m j:Nat,n<=126/\Paired (jo L n) ys ds/\jo L m v e/\j<ds.length/\(∃d,ds[j]?=some d/\Da.eq d e=true)/\(∀(k:Nat) d,k<j->ds[k]?=some d->Da.eq d e=false)/\Q .KB (qd L a<|.lst<|ys.eraseIdx j)
 |_,_=>False
def Sd(C:X.A.units+128<cLine):kF X "list.remove" (i_ X.g3 mX):=kF.SL (Sb C) λx I H Q y U L Q3 T r2 g z k=>by
 unfold mX at z;split at z
 .rename_i a v;obtain⟨zs,e,J,de,n,m,j,hn,pd,dv,hj,hit,l,z⟩:=vo z;obtain⟨us,o,r⟩:=g a _ e;obtain⟨v',rfl,rv⟩:=r2.inv1;have both:∀{U:Z0} {J:List Da} {I:WI},Paired (jo L n) U J->xo X.g3 H U I->Paired (aa X.K H n) I J:=by
   intro U J I p
   induction p generalizing I with
   |nil=>intro q;cases (show I=[] from q);exact .nil
   |cons h t ih=>
    rintro⟨x,a1,rfl,q1,q2⟩;exact .cons (jo.rep g h q1)<|ih q2
  exact{a,us,v',J,de,n,m,j,T,rfl,o,hn,both pd r,jo.rep g dv rv,hj,hit,l,k _ _ _ _ (E6 o) (g.X2 o<|r.eraseIdx j) (by rfl) z}
 .exact z.elim
def Se(I:X.A.units+128<cLine){tr:eX}(J:QE X o to)(U:QA X (e::es) tr)(g:s_ X o e es "remove" apos eK:=by exact{(rfl),rfl,rfl,rfl,rfl}):
 QE X (.Call (.Attribute o "remove" apos) (e::es) [] eK) (iI mX to tr):=tJ PySem.F.slot_list_remove PySem.F.type_list_remove (Sd I) J U g
def rB{xs:List<|j8×V}{k:j8}(p:Paired (λ(p:j8×Y) (q:j8×V)=>p.1=q.1/\RV G H p.2 q.2) kvs xs)(h:xj kvs k=none):am xs k=none:=by
 induction p with
 |nil=>rfl
 |@cons a b _ _ r t I=>
  obtain⟨e,_⟩:=r;unfold xj at h;rw[BK] at h;by_cases c:a.1=k
  .rw[Az c] at h;cases h
  .rw[Ao c] at h;rw[oR λz=>c<|e.trans z];exact I h
def xA(td ti tx:xu)(τ:jd)(L:qj)(Q:YK):Prop:=td τ L λx L1=>match x with
 |.ref a=>jG L1 a λ_=>ti τ L1 λy L2=>tx τ L2 λz L3=>match yA y with
  |some k=>jG L3 a λkvs=>Q ((xj kvs k).getD z) L3
  |none=>False
 |_=>False
def ud{f:Expr}{tx:xu}(hu:X.A.units+128<cLine)(ho:QE X o td)(hi:QE X e ti)(hf:QE X f tx)(m:M2 X o "get" apos e f eK:=by exact{(rfl),rfl,rfl,rfl}):QE X (.Call (.Attribute o "get" apos) [e,f] [] eK) (xA td ti tx):=EV (OD (by lia) ho hi hf m) λσ H Q l L Q3 p rl z k=>
 ⟨l,L,_,p,rl,z,λv H1 x L1 j U r g=>by
  split at g
  .rename_i a;obtain⟨a5,e0,g⟩:=kz g;obtain⟨t,C,_⟩:=U a _ e0;refine{a,r,.inl {t,.inl C},l,L1,_,p.ts j,U,g,λw H2 y L2 T a1 a2 z2=>{l,L2,_,p.ts<|j.trans T,a1,z2,λu H3 yz L3 t3 J a3 I=>?_}};split at I
   .rename_i kk ek;obtain⟨a4,e,I⟩:=kz I;obtain⟨xs,e2,pr⟩:=J a _ e;have rk:=dP ek a2;cases ev:xj a4 kk with
    |none=>
     rw[ev] at I;exact{none,.inl {xs,kk,.inl e2,rk,(rB pr ev).symm},k _ H3 _ L3 ((j.trans T).trans t3) J a3 I}
    |some yv=>
     rw[ev] at I;obtain⟨xv,ex,rx⟩:=a9 pr ev;exact{some xv,.inl {xs,kk,.inl e2,rk,ex.symm},k _ H3 _ L3 ((j.trans T).trans t3) J rx I}
   .exact I.elim
  .exact g.elim⟩
def Sf:WI->Hp->VK->Prop:=λxs H Q=>∃n:Int,xs=[.int n]/\∀p,H p=none->Q (.ref p) (upd H p<|.XE 0 n)
def Sg:je X (.type "range") Sf:=by rintro J s g H j l Q I r⟨n,rfl,q⟩;obtain⟨u,rfl,U⟩:=r.one;obtain⟨t,rfl⟩:=(show ∃t,u=Value.int n t from U);refine call_range_1 ?_;refine{.ref ↥s,_,I.laid (t':=s.toks+1+1) (o:=.XE 0 n) (λb ob q=>sy _ q) (An _) ?_,rfl,q _<|I.GT.fresh<|An _};exact{s.toks,t,s.toks+1,vb _ rfl}
def yU{I:Ws}(h:ItemsOf (λi v=>∃t,v=.int (0+(i:Int)*1) t) I n):zk ((List.range n).map λi:Nat=>V.int<|0+(i:Int)) I.toList:=by
 have len:I.toList.length=n:=by rw[AW];exact h.1
 have key:∀(l:Wr) (k:Nat),(∀(j:Nat) v,l[j]?=some v->∃t,v=Value.int (0+((k+j:Nat):Int)*1) t)->zk ((List.range' k l.length).map λi:Nat=>V.int<|0+(i:Int)) l:=by
  intro l
  induction l with
  |nil=>intro k _;exact .nil
  |cons v r g=>
   intro k U;rw[AD,Es,AQ];obtain⟨t,e⟩:=U 0 v rfl;refine .cons ?_<|g (k+1) λj o J=>?_
   .exact{t,by rw[e];simp}
   .have:=U (j+1) o J;rw[show k+1+j=k+(j+1) by simp +arith only];exact this
 have:=key I.toList 0 λj v J=>by rw[Cz];exact h.2 j v (by simpa using J)
 rw[len,<-List.range_eq_range'] at this;exact this
def Sh:WI->Hp->VK->Prop:=λxs H Q=>∃a,∃n:Nat,xs=[.ref a]/\H a=some (.XE 0 n)/\n<=100000/\∀p,H p=none->Q (.ref p) (upd H p<|.lst ((List.range n).map λi:Nat=>V.int<|0+(i:Int)))
theorem Si(hc:X.calm=true):je X (.type "list") Sh:=by
 rintro g s σ H xs us Q I r⟨a,n,rfl,j,l,q⟩;obtain⟨u,rfl,p⟩:=r.one;cases (show u=Value.ref a from p);obtain⟨t,u,v,e⟩:=I.GT a _ j;have hb:(100000:Nat)<=sizeLine:=by decide
 have C:Builtin.Range.rangeSize 0 (n:Int) 1=((n:Nat):Int):=by rw[rangeSize_one];split<;>lia
 refine ji I.tk<|call_list_range (I.ok.hd hc) (show IsRange s.heap a 0 (n:Int) 1 t u v from e) (small_one (by decide) (by decide) (A1 _) (by omega)) C (AK l (by decide)) λh' T U c hk hS J ht=>?_;refine{.ref ↥s,_,I.laid (t':=T) (o:=.lst ((List.range n).map λi:Nat=>V.int<|0+(i:Int))) hk (An _) ?_,rfl,q _<|I.GT.fresh<|An _};refine{by rw[Ae,Bh];exact GR,U.toList,c,yU J,?_};rw[hS]
def Sj:WI->Hp->VK->Prop:=λxs H Q=>∃b:Bool,xs=[.bl b]/\Q (.int<|if b=true then 1 else 0) H
def Sk:je X (.type "int") Sj:=by rintro J s g H j l Q I r⟨b,rfl,q⟩;obtain⟨u,rfl,U⟩:=r.one;cases (show u=Value.bool b from U);exact call_int_bool {.int _,_,I.tok<|s.toks+1,{_,rfl},q}
def Sl:bootBuiltins "range"=some (.type "range"):=by decide +kernel
def nN(te:xu)(τ:jd)(L:qj)(Q:YK):Prop:=te τ L λy L1=>match y with
 |.int n=>(0<=n/\n<=100000)/\∀p,L1 p=none->Q (.ref p) (qd L1 p<|.lst<|ak 0 n.toNat)
 |_=>False
def Sm(n:Nat):xo G H (ak 0 n) ((List.range n).map λi:Nat=>V.int<|0+(i:Int)):=by
 unfold ak;generalize List.range n=l
 induction l with|nil=>rfl|cons k r I=>exact{_,_,rfl,rfl,I}
theorem om{I:Pos}(hc:X.calm=true)(C:Gl X "list")(T:X.mg "list"=none)(j:Gl X "range")(l:X.mg "range"=none)(h:QE X e te)
 (h1:starEach [.Call (.Name "range" p2) [e] [] I] X.env=(false,eval (.Call (.Name "range" p2) [e] [] I) X.env)::starEach [] X.env:=by rfl) (h2:(backTo pos<|starEach [] X.env).any (·.1)=false:=by rfl)
 (h3:starEach [e] X.env=(false,eval e X.env)::starEach [] X.env:=by rfl) (h4:(backTo I<|starEach [] X.env).any (·.1)=false:=by rfl):
 QE X (.Call (.Name "list" p) [.Call (.Name "range" p2) [e] [] I] [] pos) (nN te):=
 EV (kM (Si hc) C T az (aP (kM Sg j l Sl (aP h fH h3) (by decide) (by decide) h3 h4) fH h1) (by decide) (by decide) h1 h2) λσ H Q τ L Q3 rs rl z k=>
 ⟨τ,L,_,rs,rl,z,λv H1 y L1 t1 J o U=>by
  cases y with
  |int n=>
   obtain⟨⟨h0,h5⟩,U⟩:=U;cases (show v=V.int n from o);obtain⟨m,rfl⟩:∃m:Nat,n=(m:Int):={n.toNat,by lia};refine{_,rfl,λq r=>{q,m,rfl,zf,by lia,λp g=>?_}};have t:H1 p=none:=by
    by_cases c:p=q
    .subst c;exact r
    .rw[qo c] at g;exact g
   exact k _ _ _ _ (t1.trans<|(EU r).trans<|EU g) ((J.skip r).Xa g<|Sm m) (by rfl) (U p<|J.none t)
  |_=>exact U.elim⟩
def Hc(xs:Z0)(L:qj)(Q:YK):Prop:=match xs with
 |[.bl b]=>Q (.int<|if b=true then 1 else 0) L
 |_=>False
theorem Sn :je X (.type "int") (b_ X.g3 Hc):=E9 Sk λg H Q j L l I J z k=>by
 unfold Hc at z;split at z
 .rename_i b;obtain⟨u,rfl,U⟩:=I.inv1;cases (show u=V.bl b from U);exact{b,rfl,k _ _ _ _ (ET _) J (by rfl) z}
 .exact z.elim
def oI(C:Addr)(m:Str)(sp:km)(to:xu)(t:eX)(τ:jd)(L:qj)(Q:YK):Prop:=to τ L λx L1=>match x with
 |.ref a=>yJ L1 a λI fs=>I=C/\fs.lookup m=none/\t τ L1 λys L2=>sp (.ref a::ys) L2 Q
 |_=>False
section
variable {tr:eX}{m:Str}{g:Addr}
theorem So{pl:Sem Bool}{k:Nat}(ho:QE X o to)(c:Xe X.K C)(hm:Fw X.K C m g)(F:Ye X.prog X.w X.K X.mg X.base k g fd ps sp)(hr:ki k X.A)(hb:aA X.K fd ps [])(ha:QA X (e::es) tr)
 (J:Fb e es X:=by rfl) (U:Fc pos es X:=by rfl)
 (ht:eval (.Call (.Attribute o m apos) (e::es) [] pos) X.env=(do
  let t <-eval o X.env
  standAt apos.atName
  let (f,first) <-holding [t] (getMethod t m pl)
  callWith pos f first (backTo pos<|starEach (e::es) X.env) (backToKw pos<|keywordEach [] X.env)):=by rfl):
 QE X (.Call (.Attribute o m apos) (e::es) [] pos) (oI C m sp to tr):=E8 (Oe (pl:=pl) ho c hm F hr hb .nil GQ ha J U ht) λσ H Q ⟨T,L,Q3,rs,rl,z,k⟩=>
 ⟨T,L,_,rs,rl,z,λv H1 y L1 t1 I j l=>by
  split at l
  .rename_i a;obtain⟨C',fs,e,ec,n,q⟩:=oM l;subst ec;obtain⟨dx,xs,e2,pr⟩:=I a _ e;cases (show v=V.ref a from j);exact{a,dx,xs,rfl,e2,Rx pr n,T,L1,_,rs.ts t1,I,q,λvs H2 ys L2 t2 p r z2=>{.ref a::ys,L2,Q3,{.ref a,vs++[],rfl,rfl,by rw[AB];exact r},p,z2,k.ts<|t1.trans t2}}
  .exact l.elim⟩
def FV{pl:Sem Bool}{k:Nat}(j:Y_ X.prog X.w X.K X.mg X.base k C m ps sp)(l:ki k X.A)(c:Xe X.K C)(p:QE X o to)(r:QA X (e::es) tr)
 (I:Fb e es X:=by rfl) (J:Fc pos es X:=by rfl)
 (t:eval (.Call (.Attribute o m apos) (e::es) [] pos) X.env=(do
  let U <-eval o X.env
  standAt apos.atName
  let (f,first) <-holding [U] (getMethod U m pl)
  callWith pos f first (backTo pos<|starEach (e::es) X.env) (backToKw pos<|keywordEach [] X.env)):=by rfl):
 QE X (.Call (.Attribute o m apos) (e::es) [] pos) (oI C m sp to tr):=by
 obtain⟨g,fd,M,F,b⟩:=j.ex;exact So (pl:=pl) p c M F l b r I J t
end
abbrev WR:=Array Keyed
abbrev WQ:=List Keyed
def Sr:Bool->Keyed->WR->Nat->Nat->Nat->StateT SortSt Sem (Option Nat):=sortPriv% PySem.Builtin.gallop
section
variable {w:WF}
structure Ord(prog:WE)(w:WF)(A:Around)(s:WD)(κ:SortKind)(Ok:Keyed->Prop)(f:Keyed->Int):Prop where
 lt:∀x y,Ok x->Ok y->∀{E:Wm} {Q:Bool->WD->Prop},Q (decide<|f x<f y) s->wpAny (model prog w) A (keyLt' κ x.1 y.1) Q E s
variable {κ:SortKind}{Ok:Keyed->Prop}{f:Keyed->Int}
def w_lt(O:Ord prog w A s κ Ok f){st:SortSt}{x y:Keyed}{Q:Option Bool->SortSt->Prop}(I:kindOf st=κ)(J:Ok x)(U:Ok y)(h:Q (some<|decide<|f x<f y) st):wpS (model prog w) A E s (lt' x y) Q st:=by rw[lt'_eq];refine Ac<|wpS_get ?_;rw[I];refine Ac<|wpS_lift<|wpAny_attempt<|O.lt x y J U {rfl,?_};exact Af h
def xw{arr:WR}{x:Keyed}{st:SortSt}{Q:Keyed->SortSt->Prop}(h:arr[i]?=some x)(q:Q x st):wpS (model prog w) A E s (elem' arr i) Q st:=by rw[elem'_eq,h];exact Af q
def JA(left:Bool)(key:Keyed)(arr:WR)(i:Nat):StateT SortSt Sem (Option Bool):=elem' arr i >>= λx=>if left=true then lt' x key else lt' key x >>= λr=>pure<|r.map λb=>!b
def Ss(O:Ord prog w A s κ Ok f){left:Bool}{key x:Keyed}{arr:WR}{st:SortSt}{Q:Option Bool->SortSt->Prop}(J:kindOf st=κ)(I:Ok key)(U:Ok x)(hi:arr[i]?=some x)
 (q:Q (some<|if left=true then decide (f x<f key) else !decide (f key<f x)) st):wpS (model prog w) A E s (JA left key arr i) Q st:=by
 refine Ac<|xw hi ?_;cases left with|true=>exact w_lt O J U I q|false=>exact Ac<|w_lt O J I U<|Af q
def cq(O:Ord prog w A s κ Ok f){left:Bool}{key:Keyed}{arr:WR}{base hint:Nat}{st:SortSt}{Q:Option Nat->SortSt->Prop}(hk:kindOf st=κ)(a3:Ok key)(hh:hint<n)
 (it:Nat->Keyed) (hit:∀i,i<n->arr[base+i]?=some (it i)/\Ok (it i)) (o:Nat->Bool) (a4:∀i,i<n->o i=if left=true then decide (f (it i)<f key) else !decide (f key<f (it i)))
 (mono:∀i j,i<=j->j<n->o j=true->o i=true)
 (q:∀k,k<=n->(∀i,i<k->o i=true)->(∀i,k<=i->i<n->o i=false)->Q (some k) st):wpS (model prog w) A E s (Sr left key arr base n hint) Q st:=by
 have go:∀i,i<n->∀Q':Option Bool->SortSt->Prop,Q' (some<|o i) st->wpS (model prog w) A E s (JA left key arr<|base+i) Q' st:=λi U Q' h=>Ss O hk a3 (hit i U).2 (hit i U).1 (by rw[<-a4 i U];exact h);refine Ac<|go hint hh _ ?_;dsimp only;cases hb:o hint with
 |true=>
  rw[Ar rfl];refine Ac (AV (AN (I:=λx c g=>g=st/\∃l J,c=(none,l,J)/\l<J/\l<n-hint/\o (hint+l)=true/\x+1<=J)
   (Q:=λc g=>g=st/\∃l J,c=(none,l,J)/\l<J/\l<n-hint/\o (hint+l)=true/\(n-hint<=J\/o (hint+J)=false)) ?_ ?_ ⟨rfl,0,1,rfl,Bi _,by omega,hb,Bi _⟩) ?_)
  .rintro x c g _ hx ⟨rfl,l,J,rfl,h1,h2,h3,r⟩;by_cases c:J>=n-hint
   .rw[Ar c];exact Af {rfl,l,J,rfl,h1,h2,h3,.inl c}
   .rw[Ap c];refine Ac<|go (hint+J) (by lia) _ ?_;dsimp only;cases t:o (hint+J) with
    |true=>
     rw[Ap (by simp)];exact Af {rfl,J,2*J+1,rfl,by simp +arith only,are,t,by lia}
    |false=>
     rw[Ar (by simp)];exact Af {rfl,l,J,rfl,h1,h2,h3,.inr t}
  .rintro c g ⟨rfl,l,J,rfl,h1,h2,h3,r⟩;exact{rfl,l,J,rfl,h1,h2,h3,.inl (by lia)}
  .rintro c g ⟨rfl,l,J,rfl,h1,h2,h3,r⟩;obtain⟨lo,a1⟩:∃lo,lo=hint+l+1:={_,rfl};obtain⟨U,a2⟩:∃U,U=hint+min J (n-hint):={_,rfl};rw[<-a1,<-a2];have g1:lo<=U:=by omega
   have g2:U<=n:=by lia
   have g3:∀i,i<lo->o i=true:=λi U=>mono i (hint+l) (by lia) (by lia) h3;have g4:∀i,U<=i->i<n->o i=false:=λi h5 h6=>by
    rcases r with r|r
    .omega
    .cases e:o i with
     |false=>rfl
     |true=>
      by_cases c:J<n-hint
      .rw[mono (hint+J) i (by omega) h6 e] at r;cases r
      .omega
   refine Ac (AV (AN (I:=λx c sx=>sx=g/\∃lo U,c=(none,lo,U)/\lo<=U/\U<=n/\(∀i,i<lo->o i=true)/\(∀i,U<=i->i<n->o i=false)/\U-lo+x<=n)
    (Q:=λc sx=>sx=g/\∃U,c=(none,U,U)/\U<=n/\(∀i,i<U->o i=true)/\(∀i,U<=i->i<n->o i=false)) ?_ ?_ ⟨rfl,lo,U,rfl,g1,g2,g3,g4,Iq⟩) ?_)
   .rintro x c p _ hx ⟨rfl,lo,U,rfl,k1,C,T,k4,k5⟩;by_cases c:lo>=U
    .rw[Ar c];have:lo=U:=by lia
     subst this;exact Af {(rfl),lo,rfl,C,T,k4}
    .rw[Ap c];refine Ac<|go (lo+(U-lo) / 2) (by lia) _ ?_;dsimp only;cases t:o (lo+(U-lo) / 2) with
     |true=>
      rw[Ar rfl];exact Af {rfl,lo+(U-lo) / 2+1,U,rfl,by lia,C,λi h5=>mono i _ (Ip) (by lia) t,k4,by lia}
     |false=>
      rw[Ap (by simp)];refine Af {rfl,lo,lo+(U-lo) / 2,rfl,Bf _ _,by lia,T,λi h5 h6=>?_,by omega};cases e:o i with|false=>rfl|true=>rw[mono _ i h5 h6 e] at t;cases t
   .rintro c p ⟨rfl,lo,U,rfl,k1,C,T,k4,k5⟩;have:lo=U:=by lia
    subst this;exact{(rfl),lo,rfl,C,T,k4}
   .rintro c p ⟨rfl,U,rfl,C,T,k4⟩;exact Af<|q U C T k4
 |false=>
  rw[Ap (by simp)];refine Ac (AV (AN (I:=λx c g=>g=st/\∃l J,c=(none,l,J)/\l<J/\l<hint+1/\o (hint-l)=false/\x+1<=J)
   (Q:=λc g=>g=st/\∃l J,c=(none,l,J)/\l<J/\l<hint+1/\o (hint-l)=false/\(hint+1<=J\/o (hint-J)=true)) ?_ ?_ ⟨rfl,0,1,rfl,by lia,Cv _,hb,by lia⟩) ?_)
  .rintro x c g _ hx ⟨rfl,l,J,rfl,h1,h2,h3,r⟩;by_cases c:J>=hint+1
   .rw[Ar c];exact Af {rfl,l,J,rfl,h1,h2,h3,.inl c}
   .rw[Ap c];refine Ac<|go (hint-J) (sm) _ ?_;dsimp only;cases t:o (hint-J) with
    |true=>
     rw[Ar rfl];exact Af {rfl,l,J,rfl,h1,h2,h3,.inr t}
    |false=>
     rw[Ap (by simp)];exact Af {rfl,J,2*J+1,rfl,by lia,are,t,by lia}
  .rintro c g ⟨rfl,l,J,rfl,h1,h2,h3,r⟩;exact{rfl,l,J,rfl,h1,h2,h3,.inl<|pS}
  .rintro c g ⟨rfl,l,J,rfl,h1,h2,h3,r⟩;obtain⟨lo,a1⟩:∃lo,lo=hint+1-min J (hint+1):={_,rfl};obtain⟨U,a2⟩:∃U,U=hint-l:={_,rfl};rw[<-a1,<-a2];have g1:lo<=U:=by omega
   have g2:U<=n:=by omega
   have g3:∀i,i<lo->o i=true:=λi h5=>by
    rcases r with r|r
    .omega
    .exact mono i (hint-J) (by omega) (sm) r
   have g4:∀i,U<=i->i<n->o i=false:=λi h5 h6=>by cases e:o i with|false=>rfl|true=>rw[mono (hint-l) i (by lia) h6 e] at h3;cases h3
   refine Ac (AV (AN (I:=λx c sx=>sx=g/\∃lo U,c=(none,lo,U)/\lo<=U/\U<=n/\(∀i,i<lo->o i=true)/\(∀i,U<=i->i<n->o i=false)/\U-lo+x<=n)
    (Q:=λc sx=>sx=g/\∃U,c=(none,U,U)/\U<=n/\(∀i,i<U->o i=true)/\(∀i,U<=i->i<n->o i=false)) ?_ ?_ ⟨rfl,lo,U,rfl,g1,g2,g3,g4,Iq⟩) ?_)
   .rintro x c p _ hx ⟨rfl,lo,U,rfl,k1,C,T,k4,k5⟩;by_cases c:lo>=U
    .rw[Ar c];have:lo=U:=by lia
     subst this;exact Af {(rfl),lo,rfl,C,T,k4}
    .rw[Ap c];refine Ac<|go (lo+(U-lo) / 2) (by lia) _ ?_;dsimp only;cases t:o (lo+(U-lo) / 2) with
     |true=>
      rw[Ar rfl];exact Af {rfl,lo+(U-lo) / 2+1,U,rfl,by lia,C,λi h5=>mono i _ (by lia) (by lia) t,k4,by lia}
     |false=>
      rw[Ap (by simp)];refine Af {rfl,lo,lo+(U-lo) / 2,rfl,by lia,by lia,T,λi h5 h6=>?_,by lia};cases e:o i with|false=>rfl|true=>rw[mono _ i h5 h6 e] at t;cases t
   .rintro c p ⟨rfl,lo,U,rfl,k1,C,T,k4,k5⟩;have:lo=U:=by lia
    subst this;exact{(rfl),lo,rfl,C,T,k4}
   .rintro c p ⟨rfl,U,rfl,C,T,k4⟩;exact Af<|q U C T k4
end
def Su:WR->WR->StateT SortSt Sem (WR):=sortPriv% PySem.Builtin.mergeLo
def Sv:WR->WR->StateT SortSt Sem (WR):=sortPriv% PySem.Builtin.mergeHi
structure MI(f:Keyed->Int)(la lb out ra rb:WQ):Prop where
 perm:(out++(ra++rb)).Perm (la++lb)
 so:out.Pairwise λx y=>f x<=f y
 sa:ra.Pairwise λx y=>f x<=f y
 sb:rb.Pairwise λx y=>f x<=f y
 oa:∀x∈out,∀y∈ra,f x<=f y
 ob:∀x∈out,∀y∈rb,f x<=f y
def MI.a{f:Keyed->Int}{g j out seg l U:WQ}(h:MI f g j out (seg++l) U)(hs:∀x∈seg,∀y∈U,f x<=f y):MI f g j (out++seg) l U:=by
 have sa:=AU.mp h.sa;refine{?_,AU.mpr {h.so,sa.1,λx I y J=>h.oa x I y<|Am _ J},sa.2.1,h.sb,λx I y J=>?_,λx I y J=>?_}
 .have:=h.perm;rw[Ay] at this ⊢;exact this
 .rcases Aj.mp I with I|I
  .exact h.oa x I y<|Ah _ J
  .exact sa.2.2 x I y J
 .rcases Aj.mp I with I|I
  .exact h.ob x I y J
  .exact hs x I y J
def MI.b{f:Keyed->Int}{l o out seg U g:WQ}(h:MI f l o out U<|seg++g)(hs:∀x∈seg,∀y∈U,f x<=f y):MI f l o (out++seg) U g:=by
 have j:=AU.mp h.sb;refine{?_,AU.mpr {h.so,j.1,λx I y J=>h.ob x I y<|Am _ J},h.sa,j.2.1,λx I y J=>?_,λx I y J=>?_}
 .refine List.Perm.trans ?_ h.perm;rw[Ay];exact(BD out).mpr (by rw[<-Ay,<-Ay];exact(BA g).mpr Bq)
 .rcases Aj.mp I with I|I
  .exact h.oa x I y J
  .exact hs x I y J
 .rcases Aj.mp I with I|I
  .exact h.ob x I y<|Ah _ J
  .exact j.2.2 x I y J
def we(f:Keyed->Int)(I J r:WQ):Prop:=r.Perm (I++J)/\r.Pairwise λx y=>f x<=f y
def MI.ea{f:Keyed->Int}{I J out U:WQ}(h:MI f I J out U []):we f I J (out++U):={by have:=h.perm;rwa[AB] at this,AU.mpr {(h.so),h.sa,h.oa}}
def MI.eb{f:Keyed->Int}{g j out J U:WQ}(h:MI f g j out J U)(hs:∀x∈U,∀y∈J,f x<=f y):we f g j (out++U++J):=by
 refine{List.Perm.trans ?_ h.perm,?_}
 .rw[Ay];exact(BD out).mpr Bq
 .rw[Ay];refine AU.mpr {h.so,AU.mpr {(h.sb),h.sa,hs},λx l y I=>?_};rcases Aj.mp I with I|I
  .exact h.ob x l y I
  .exact h.oa x l y I
structure MP(f:Keyed->Int)(a b out:WR)(ia ib:Nat):Prop where
 mi:MI f a.toList b.toList out.toList (a.toList.drop ia) (b.toList.drop ib)
 sz:out.size=ia+ib
 la:ia<=a.size
 lb:ib<=b.size
def JB(a:WR)(h:i<a.size):a.toList.drop i=a[i]::a.toList.drop (i+1):=by rw[BO (by simpa using h)];simp
def iy(a:WR)(i j:Nat):(a.extract i j).toList=(a.toList.drop i).take (j-i):=by rw[Array.toList_extract,List.extract_eq_drop_take]
def JC(l:WQ)(i k:Nat):(l.drop i).take k++l.drop (i+k)=l.drop i:=by rw[<-List.drop_drop,Bb]
def sh{a:WR}{k:Nat}{x:Keyed}(h:x∈(a.toList.drop i).take k):∃j,∃I:i+j<a.size,j<k/\a[i+j]=x:=by
 obtain⟨j,I,e⟩:=BH h;rw[AR,BL] at I;have h1:i+j<a.size:=by have:a.toList.length=a.size:=AW;omega
 refine{j,h1,by omega,?_};rw[<-e];simp
def jD{a:WR}{x:Keyed}(h:x∈a.toList.drop i):∃j,∃I:j<a.size,i<=j/\a[j]=x:=by
 obtain⟨j,I,e⟩:=BH h;rw[BL] at I;have h1:i+j<a.size:=by have:a.toList.length=a.size:=AW;omega
 refine{i+j,h1,Bf _ _,?_};rw[<-e];simp
def l_{f:Keyed->Int}{a:WR}(s:a.toList.Pairwise λx y=>f x<=f y)(I:i<=j)(J:j<a.size):f (a[i]'(pO))<=f a[j]:=by
 rcases DV I with h|h
 .have:=BP.mp s i j (by simpa using (pO:i<a.size)) (by simpa using J) h;simpa using this
 .subst h;exact Dp _
section
variable {f:Keyed->Int}{a b out:WR}{ia ib:Nat}
def MP.Y2(M:MP f a b out ia ib){k:Nat}(J:ia+k<=a.size)(h:∀i (hi:ia+i<a.size),i<k->∀j (I:j<b.size),ib<=j->f a[ia+i]<=f b[j]):MP f a b (out++a.extract ia (ia+k)) (ia+k) ib:=by
 refine{?_,?_,J,M.lb}
 .rw[Bd,iy,show ia+k-ia=k by omega];refine MI.a (by rw[JC];exact M.mi) λx U y g=>?_;obtain⟨i,hi,h1,rfl⟩:=sh U;obtain⟨j,I,h2,rfl⟩:=jD g;exact h i hi h1 j I h2
 .rw[B4,Dl,M.sz];lia
def MP.Y3(M:MP f a b out ia ib){k:Nat}(J:ib+k<=b.size)(h:∀i (hi:ib+i<b.size),i<k->∀j (I:j<a.size),ia<=j->f b[ib+i]<=f a[j]):MP f a b (out++b.extract ib (ib+k)) ia (ib+k):=by
 refine{?_,?_,M.la,J}
 .rw[Bd,iy,show ib+k-ib=k by lia];refine MI.b (by rw[JC];exact M.mi) λx U y g=>?_;obtain⟨i,hi,h1,rfl⟩:=sh U;obtain⟨j,I,h2,rfl⟩:=jD g;exact h i hi h1 j I h2
 .rw[B4,Dl,M.sz];lia
def MP.Yr(M:MP f a b out ia ib)(hi:ia<a.size)(h:∀j (I:j<b.size),ib<=j->f a[ia]<=f b[j]):MP f a b (out.push a[ia]) (ia+1) ib:=by refine{?_,by rw[Bw,M.sz];simp +arith only,hi,M.lb};rw[Du];refine MI.a (seg:=[a[ia]]) (by rw[DC,<-JB a hi];exact M.mi) λx J y U=>?_;obtain⟨j,I,h2,rfl⟩:=jD U;rw[Ad.mp J];exact h j I h2
def MP.Ys(M:MP f a b out ia ib)(hi:ib<b.size)(h:∀j (I:j<a.size),ia<=j->f b[ib]<=f a[j]):MP f a b (out.push b[ib]) ia (ib+1):=by refine{?_,by rw[Bw,M.sz];exact EM _ _ _,M.la,hi};rw[Du];refine MI.b (seg:=[b[ib]]) (by rw[DC,<-JB b hi];exact M.mi) λx J y U=>?_;obtain⟨j,I,h2,rfl⟩:=jD U;rw[Ad.mp J];exact h j I h2
def MP.done(M:MP f a b out ia ib)(h:ib=b.size):we f a.toList b.toList (out++a.extract ia++b.extract ib).toList:=by have e:b.toList.drop ib=[]:=Ey (by rw[AW];lia);have m:=M.mi;rw[e] at m;have:=m.ea;rw[Bd,Bd,iy,iy,e,List.take_nil,AB,A8 (by simp)];exact this
def MP.last(M:MP f a b out ia ib)(h:ia+1=a.size)(I:∀x∈b.toList,f x<f (a[a.size-1]'(by omega))):we f a.toList b.toList (out++b.extract ib++a.extract ia).toList:=by
 have:=M.mi.eb λx J y U=>by
  obtain⟨j,g,h2,rfl⟩:=jD U;have e:j=a.size-1:=by omega
  subst e;exact BM<|I x<|CY J
 rw[Bd,Bd,iy,iy,A8 (by simp),A8 (by simp)];exact this
end
section
variable {w:WF}{κ:SortKind}{Ok:Keyed->Prop}{f:Keyed->Int}
abbrev bR(st:SortSt)(g:Nat):SortSt:=SortSt.mk' (kindOf st) (arrOf st) (pendingOf st) g<|failedOf st
def um{c:Prop}{_:Decidable c}{K:β->StateT SortSt Sem α}{y:β}{Q:α->SortSt->Prop}{st:SortSt}(key:∀z,wpS (model prog w) A E s (K z) Q st):∀x,wpS (model prog w) A E s (if c then K x else K y) Q st:=λx=>by
 by_cases h:c
 .rw[Ar h];exact key x
 .rw[Ap h];exact key y
def mP{c:Prop}{_:Decidable c}{K T:β->γ->StateT SortSt Sem α}{P1 P2 P3 P4:β->γ->Prop}{x:β}{i:γ}{Q:α->SortSt->Prop}{st:SortSt}(key:∀o j,P1 o j->P2 o j->P3 o j->P4 o j->wpS (model prog w) A E s (K o j) Q st)(I:¬c->P1 x i/\P2 x i/\P3 x i/\P4 x i)
 (hp:c->(∀o j,P1 o j->P2 o j->P3 o j->P4 o j->wpS (model prog w) A E s (K o j) Q st)->wpS (model prog w) A E s (T x i) Q st):∀o,x=o->∀j,i=j->wpS (model prog w) A E s (if c then T o j else K o j) Q st:=by
 rintro _ rfl _ rfl;by_cases h:c
 .rw[Ar h];exact hp h key
 .rw[Ap h];obtain⟨a,b,d,e⟩:=I h;exact key x i a b d e
def xz{c:Prop} [Decidable c]{x y:StateT SortSt Sem α}{Q:α->SortSt->Prop}{st:SortSt}(h:c)(k:wpS M A E s x Q st):wpS M A E s (if c then x else y) Q st:=by rw[Ar h];exact k
def x8{c:Prop} [Decidable c]{x y:StateT SortSt Sem α}{Q:α->SortSt->Prop}{st:SortSt}(h:¬c)(k:wpS M A E s y Q st):wpS M A E s (if c then x else y) Q st:=by rw[Ap h];exact k
def gL{c:Prop} [Decidable c]{x y:StateT SortSt Sem α}{Q:α->SortSt->Prop}{st:SortSt}(h:c->wpS M A E s x Q st)(k:¬c->wpS M A E s y Q st):wpS M A E s (if c then x else y) Q st:=by
 by_cases d:c
 .rw[Ar d];exact h d
 .rw[Ap d];exact k d
def Go{a:WR}{P:Prop}(ok:∀x∈a.toList,Ok x)(sa:a.toList.Pairwise λx y=>f x<=f y)(d:Keyed)(k:∀t:Nat->Keyed,(∀i (hi:i<a.size),t i=a[i])->(∀i,i<a.size->a[i]?=some (t i))->(∀i,i<a.size->Ok (t i))->(∀{i j},i<=j->j<a.size->f (t i)<=f (t j))->P):P:=by
 have e:∀i (hi:i<a.size),(a[i]?).getD d=a[i]:=λi hi=>by simp[hi]
 exact k (λi=>(a[i]?).getD d) e (λi hi=>by simp[hi]) (λi hi=>by rw[e i hi];exact ok _ (by simp)) λ{i j} I J=>by rw[e i<|pO,e j J];exact l_ sa I J
section
variable {B C D R:Type}{F1 F2 F3 F4:B->C->D->Prop}{st s0:SortSt}{m:β->StateT SortSt Sem α}{m':Option R×γ->StateT SortSt Sem α}{Q:α->SortSt->Prop}{G:R->Prop}
def JD(h:∀g r d,G r->wpS (model prog w) A E s (m' (some r,d)) Q (bR st g)):∀c I,((∃g,I=bR st g)/\∃r,c.1=some r/\G r)->wpS (model prog w) A E s (m' c) Q I:=by rintro c I ⟨⟨g,rfl⟩,r,e,k⟩;obtain⟨_,d⟩:=c;cases e;exact h g r d k
def JE{J:B->C->D->Nat->β}(h:∀g x y z k,F1 x y z->F2 x y z->F3 x y z->F4 x y z->wpS (model prog w) A E s (m<|J x y z k) Q (bR st g)):∀c I,((∃g,I=bR st g)/\∃x y z k,c=J x y z k/\F1 x y z/\F2 x y z/\F3 x y z/\F4 x y z)->wpS (model prog w) A E s (m c) Q I:=by rintro c I ⟨⟨g,rfl⟩,x,y,z,k,rfl,a,b,d,e⟩;exact h g x y z k a b d e
def Gp{J:B->C->D->Nat->Nat->β}(h:∀x y z k n,F1 x y z->F2 x y z->F3 x y z->F4 x y z->wpS (model prog w) A E s (m<|J x y z k n) Q s0):∀c I,(I=s0/\∃x y z k n,c=J x y z k n/\F1 x y z/\F2 x y z/\F3 x y z/\F4 x y z)->wpS (model prog w) A E s (m c) Q I:=by rintro c I ⟨rfl,x,y,z,k,n,rfl,a,b,d,e⟩;exact h x y z k n a b d e
def JF{J:B->C->D->Nat->Nat->Option R×γ}(h:∀r d,G r->wpS (model prog w) A E s (m' (some r,d)) Q s0)(h':∀x y z k n,F1 x y z->F2 x y z->F3 x y z->F4 x y z->wpS (model prog w) A E s (m'<|J x y z k n) Q s0):∀c I,(I=s0/\((∃r,c.1=some r/\G r)\/∃x y z k n,c=J x y z k n/\F1 x y z/\F2 x y z/\F3 x y z/\F4 x y z))->wpS (model prog w) A E s (m' c) Q I:=by
 rintro c I ⟨rfl,⟨r,e,l⟩|⟨x,y,z,k,n,rfl,a,b,d,e⟩⟩
 .obtain⟨_,d⟩:=c;cases e;exact h r d l
 .exact h' x y z k n a b d e
def JG{J:B->C->D->Nat->Nat->Nat->β}(h:∀g x y z k n l,F1 x y z->F2 x y z->F3 x y z->F4 x y z->wpS (model prog w) A E s (m<|J x y z k n l) Q (bR st g)):∀c I,((∃g,I=bR st g)/\∃x y z k n l,c=J x y z k n l/\F1 x y z/\F2 x y z/\F3 x y z/\F4 x y z)->wpS (model prog w) A E s (m c) Q I:=by rintro c I ⟨⟨g,rfl⟩,x,y,z,k,n,l,rfl,a,b,d,e⟩;exact h g x y z k n l a b d e
def JH{J:B->C->D->Nat->Nat->Nat->Option R×γ}(h:∀g r d,G r->wpS (model prog w) A E s (m' (some r,d)) Q (bR st g))(h':∀g x y z k n l,F1 x y z->F2 x y z->F3 x y z->F4 x y z->wpS (model prog w) A E s (m'<|J x y z k n l) Q (bR st g)):∀c I,((∃g,I=bR st g)/\((∃r,c.1=some r/\G r)\/∃x y z k n l,c=J x y z k n l/\F1 x y z/\F2 x y z/\F3 x y z/\F4 x y z))->wpS (model prog w) A E s (m' c) Q I:=by
 rintro c I ⟨⟨g,rfl⟩,⟨r,e,l⟩|⟨x,y,z,k,n,l,rfl,a,b,d,e⟩⟩
 .obtain⟨_,d⟩:=c;cases e;exact h g r d l
 .exact h' g x y z k n l a b d e
end
theorem Sw(O:Ord prog w A s κ Ok f){a b:WR}{st:SortSt}{Q:WR->SortSt->Prop}(hk:kindOf st=κ)(bn:∀x∈a.toList,Ok x)(bp:∀x∈b.toList,Ok x)
 (sa:a.toList.Pairwise λx y=>f x<=f y) (sb:b.toList.Pairwise λx y=>f x<=f y) (ha:0<a.size) (hb:0<b.size) (h0:∀x∈a.toList,f b[0]<f x) (hl:∀x∈b.toList,f x<f a[a.size-1])
 (q:∀r g,we f a.toList b.toList r.toList->Q r (bR st g)):wpS (model prog w) A E s (Su a b) Q st:=by
 refine Ac<|wpS_lift<|Bv {rfl,?_};refine Ac<|xw (x:=b[0]) (by simp[hb]) ?_;have M0:MP f a b #[b[0]] 0 1:=by have M:MP f a b #[] 0 0:={{by simp,by simp,by simpa using sa,by simpa using sb,by simp,by simp},rfl,A5 _,A5 _};have:=M.Ys hb λj hj _=>BM<|h0 a[j] (by simp);simpa using this
 by_cases c1:(1==b.size)=true
 .refine xz c1 ?_;exact Af<|q _ (gallopOf st)<|M0.done (by simpa using c1)
 refine x8 c1 ?_;by_cases c2:(0+1==a.size)=true
 .refine xz c2 ?_;exact Af<|q _ (gallopOf st)<|M0.last (by simpa using c2) hl
 refine x8 c2 ?_;have c1:¬1=b.size:=by simpa using c1
 have c2:¬1=a.size:=by simpa using c2
 refine Ac<|wpS_get ?_;have bq:∀i (hi:i<a.size),Ok a[i]:=λi hi=>bn _ (by simp);have c0:∀i (hi:i<b.size),Ok b[i]:=λi hi=>bp _ (by simp);have al:∀i (hi:i<a.size),a[i]?=some a[i]:=λi hi=>by simp[hi]
 have av:∀i (hi:i<b.size),b[i]?=some b[i]:=λi hi=>by simp[hi]
 refine Go (f:=f) bn sa b[0] λtA bf c5 c6 c7=>Go (f:=f) bp sb b[0] λtB c3 c8 c9 ca=>?_;refine Ac (AV (AN (I:=λx c p=>(∃g,p=bR st g)/\∃a3 l U mg,c=(none,a3,l,U,mg)/\MP f a b a3 l U/\l+1<a.size/\U<b.size/\x+1<=a3.size)
  (Q:=λc p=>(∃g,p=bR st g)/\∃r,c.1=some r/\we f a.toList b.toList r.toList) ?_ ?_ ⟨⟨gallopOf st,rfl⟩,_,_,_,_,rfl,M0,z_,z_,by simp⟩) ?_)
 .intro x c p _ hx;revert c p;refine JE λg a3 l U mg M a1 t hs=>?_;refine Ac (AV (AN (I:=λy c p=>p=bR st g/\∃J l U ac bc,c=(none,J,l,U,ac,bc)/\MP f a b J l U/\l+1<a.size/\U<b.size/\a3.size+y<=J.size)
   (Q:=λc p=>p=bR st g/\((∃r,c.1=some r/\we f a.toList b.toList r.toList)\/∃J l U ac bc,c=(none,J,l,U,ac,bc)/\MP f a b J l U/\l+1<a.size/\U<b.size/\a3.size+1<=J.size)) ?_ ?_ ⟨rfl,_,_,_,_,_,rfl,M,a1,t,An _⟩) ?_)
  .intro y c p _ hy;revert c p;refine Gp λJ l U ac bc M a1 t c4=>?_;have aL:l<a.size:=iT;refine Ac<|xw (av U t) ?_;refine Ac<|xw (al l aL) ?_;refine Ac<|w_lt O hk (c0 U t) (bq l aL) ?_;by_cases c:f b[U]<f a[l]
   .refine xz (Az c) ?_;refine Ac<|xw (av U t) ?_;have M':=M.Ys t λj hj C=>BM<|Int.lt_of_lt_of_le c<|l_ sa C hj;have s2:(J.push b[U]).size=J.size+1:=Bw _;by_cases e1:(U+1==b.size)=true
    .refine xz e1 ?_;exact Af {rfl,.inl {_,rfl,M'.done (by simpa using e1)}}
    .refine x8 e1 ?_;have e1:¬U+1=b.size:=by simpa using e1
     refine gL (λ_=>?_) λ_=>?_
     .exact Af {rfl,.inr {_,_,_,_,_,rfl,M',a1,z_,by lia}}
     .exact Af {rfl,_,_,_,_,_,rfl,M',a1,by lia,by lia}
   .refine x8 (by rw[Ao c];decide) ?_;refine Ac<|xw (al l aL) ?_;have M':=M.Yr (by lia) λj hj C=>BV (by omega)<|l_ sb C hj;have s2:(J.push a[l]).size=J.size+1:=Bw _;by_cases e1:(l+1+1==a.size)=true
    .refine xz e1 ?_;exact Af {rfl,.inl {_,rfl,M'.last (by simpa using e1) hl}}
    .refine x8 e1 ?_;have e1:¬l+1+1=a.size:=by simpa using e1
     refine gL (λ_=>?_) λ_=>?_
     .exact Af {rfl,.inr {_,_,_,_,_,rfl,M',z_,t,by lia}}
     .exact Af {rfl,_,_,_,_,_,rfl,M',by lia,t,by lia}
  .rintro c p ⟨rfl,J,l,U,ac,bc,rfl,M,a1,t,c4⟩;have:=M.sz;omega
  .refine JF (λr d hr=>?_) λbb l U ac bc M a1 t c4=>?_
   .exact Af {{(g),rfl},r,rfl,hr}
   .dsimp only;refine Ac<|wpS_lift<|Bv {rfl,?_};refine Ac (AV (AN (I:=λy c p=>(∃g,p=bR st g)/\∃J l U mg ac bc,c=(none,J,l,U,mg,ac,bc)/\MP f a b J l U/\l+1<a.size/\U<b.size/\bb.size+y<=J.size)
     (Q:=λc p=>(∃g,p=bR st g)/\((∃r,c.1=some r/\we f a.toList b.toList r.toList)\/∃J l U mg ac bc,c=(none,J,l,U,mg,ac,bc)/\MP f a b J l U/\l+1<a.size/\U<b.size/\bb.size<=J.size)) ?_ ?_ ⟨⟨g,rfl⟩,_,_,_,_,_,_,rfl,M,a1,t,An _⟩) ?_)
    .intro y c p _ hy;revert c p;refine JG λg' J l U bg ac bc M a1 t bd=>?_;have aL:l<a.size:=iT;generalize bg-1=cb;revert cb;refine um (y:=bg) λcc=>?_
     all_goals
      refine Ac<|wpS_modify ?_;refine Ac<|xw (av U t) ?_;refine Ac<|cq O hk (c0 U t) (by lia) (λi=>tA<|l+i) (λi hi=>{c5 _ (by lia),c6 _ (by lia)}) (λi=>!decide (f b[U]<f (tA<|l+i))) (λi hi=>by rw[Ap (by simp)]) (λi j C hj h=>?_) λk cm ba bh=>?_
      .have:=c7 (i:=l+i) (j:=l+j) (by lia) (by lia);simp at h ⊢;lia
      have ba:∀i,i<k->f (tA<|l+i)<=f b[U]:=λi hi=>by have:=ba i hi;simpa using this
      have bh:∀i,k<=i->i<a.size-l->f b[U]<f (tA<|l+i):=λi hi hj=>by have:=bh i hi hj;simpa using this
      have kl:k<a.size-l:=by
       rcases DV cm with h|h
       .exact h
       .exfalso;have h1:=ba (a.size-1-l) (by lia);have h2:=hl b[U] (by simp);rw[show l+(a.size-1-l)=a.size-1 by lia,bf _<|y_] at h1;omega
      have M1:MP f a b (J++a.extract l (l+k)) (l+k) U:=M.Y2 (by lia) λi hi bi j hj C=>by have h1:=ba i bi;rw[bf _ hi] at h1;exact BV h1<|l_ sb C hj
      have pB:∀j (hj:j<a.size),l+k<=j->f b[U]<=f a[j]:=λj hj C=>by have h1:=bh (j-l) (by lia) (by lia);rw[show l+(j-l)=j by lia,bf _ hj] at h1;lia
      dsimp only;generalize cn:J=o0;generalize cv:l=j0;revert j0;revert o0;refine mP (P1:=λo j=>MP f a b o j U) (P2:=λo j=>J.size<=o.size) (P3:=λo j=>j+1<a.size) (P4:=λo j=>∀j' (hj:j'<a.size),j<=j'->f b[U]<=f a[j']) (x:=J) (i:=l) (λa2 T M1 h3 l3 pB=>?tail) (λck=>?hN) λck key=>?hY
      case hN=>
       obtain rfl:k=0:=by lia
       exact{M,An _,a1,λj hj C=>pB j hj (by lia)}
      case hY=>
       by_cases e1:(l+k+1==a.size)=true
       .refine xz e1 ?_;exact Af {{_,rfl},.inl {_,rfl,M1.last (by simpa using e1) hl}}
       .refine x8 e1 (x8 (show ¬(l+k==a.size)=true by simp;lia) ?_);have e1:¬l+k+1=a.size:=by simpa using e1
        exact key _ _ M1 (by rw[B4];exact Bf _ _) (by lia) pB
      have bj:T<a.size:=iT
      all_goals
       refine Ac<|xw (av U t) ?_;have M2:=M1.Ys t pB;have s2:(a2.push b[U]).size=a2.size+1:=Bw _;by_cases e2:(U+1==b.size)=true
       case' pos=>
        refine xz e2 ?_;exact Af {{_,rfl},.inl {_,rfl,M2.done (by simpa using e2)}}
       case' neg=>
        refine x8 e2 ?_;have e2:¬U+1=b.size:=by simpa using e2
        refine Ac<|xw (al T bj) ?_;refine Ac<|cq O hk (bq T bj) (by lia) (λi=>tB<|U+1+i) (λi hi=>{c8 _ (by omega),c9 _ (by lia)}) (λi=>decide<|f (tB<|U+1+i)<f a[T]) (λi hi=>by rw[Ar rfl]) (λi j C hj h=>?_) λk2 cy a4 a5=>?_
        .have:=ca (i:=U+1+i) (j:=U+1+j) (by lia) (by omega);simp at h ⊢;lia
        have a4:∀i,i<k2->f (tB<|U+1+i)<f a[T]:=λi hi=>by have:=a4 i hi;simpa using this
        have a5:∀i,k2<=i->i<b.size-(U+1)->f a[T]<=f (tB<|U+1+i):=λi hi hj=>by have:=a5 i hi hj;simpa using this
        have M3:MP f a b (a2.push b[U]++b.extract (U+1) (U+1+k2)) T (U+1+k2):=M2.Y3 (by omega) λi hi bi j hj C=>by have h1:=a4 i bi;rw[c3 _ hi] at h1;exact BV (BM h1)<|l_ sa C hj
        have pA:∀j (hj:j<b.size),U+1+k2<=j->f a[T]<=f b[j]:=λj hj C=>by have h1:=a5 (j-(U+1)) (by lia) (by omega);rw[show U+1+(j-(U+1))=j by lia,c3 _ hj] at h1;exact h1
        generalize cn:a2.push b[U]=o0;generalize cv:U+1=j0;revert j0;revert o0;refine mP (P1:=λo j=>MP f a b o T j) (P2:=λo j=>a2.size+1<=o.size) (P3:=λo j=>j<b.size) (P4:=λo j=>∀j' (hj:j'<b.size),j<=j'->f a[T]<=f b[j']) (x:=a2.push b[U]) (i:=U+1) (λbe cI M3 h4 l4 pA=>?tail2) (λck=>?hN) λck key=>?hY
        case hN=>
         obtain rfl:k2=0:=by lia
         exact{M2,Dr s2.symm,by lia,λj hj C=>pA j hj C}
        case hY=>
         by_cases e3:(U+1+k2==b.size)=true
         .refine xz e3 ?_;exact Af {{_,rfl},.inl {_,rfl,M3.done (by simpa using e3)}}
         .refine x8 e3 ?_;have e3:¬U+1+k2=b.size:=by simpa using e3
          exact key _ _ M3 (by rw[B4];lia) (by lia) pA
        all_goals
         refine Ac<|xw (al T bj) ?_;have M4:=M3.Yr (by lia) pA;have s4:(be.push a[T]).size=be.size+1:=Bw _;by_cases e4:(T+1+1==a.size)=true
         .refine xz e4 ?_;exact Af {{_,rfl},.inl {_,rfl,M4.last (by simpa using e4) hl}}
         .refine x8 e4 ?_;have e4:¬T+1+1=a.size:=by simpa using e4
          refine gL (λ_=>?_) λ_=>?_
          .exact Af {{_,rfl},.inr {_,_,_,_,_,_,rfl,M4,z_,l4,by lia}}
          .exact Af {{_,rfl},_,_,_,_,_,_,rfl,M4,by lia,l4,by lia}
    .rintro c p ⟨⟨g',rfl⟩,J,l,U,bg,ac,bc,rfl,M,a1,t,bd⟩;have:=M.sz;omega
    .refine JH (λg' r d hr=>?_) λg' cw l U cc ac bc M a1 t bd=>?_
     .exact Af {{(g'),rfl},r,rfl,hr}
     .dsimp only;refine Ac<|wpS_modify ?_;exact Af {{_,rfl},_,_,_,_,rfl,M,a1,t,by lia}
 .rintro c p ⟨⟨g,rfl⟩,a3,l,U,mg,rfl,M,a1,t,hs⟩;have:=M.sz;lia
 .exact JD λg r d hr=>Af<|q r g hr
end
structure MH(f:Keyed->Int)(la lb ra rb o:WQ):Prop where
 perm:(ra++rb++o).Perm (la++lb)
 so:o.Pairwise λx y=>f x<=f y
 sa:ra.Pairwise λx y=>f x<=f y
 sb:rb.Pairwise λx y=>f x<=f y
 oa:∀x∈ra,∀y∈o,f x<=f y
 ob:∀x∈rb,∀y∈o,f x<=f y
def MH.a{f:Keyed->Int}{j l o seg U g:WQ}(h:MH f j l (U++seg) g o)(hs:∀x∈g,∀y∈seg,f x<=f y):MH f j l U g (seg++o):=by
 have sa:=AU.mp h.sa;refine{List.Perm.trans ?_ h.perm,AU.mpr {sa.2.1,h.so,λx J y I=>h.oa x (Ah _ J) y I},sa.1,h.sb,λx J y I=>?_,λx J y I=>?_}
 .rw[<-Ay];refine(BA o).mpr ?_;rw[Ay,Ay];exact(BD U).mpr Bq
 .rcases Aj.mp I with I|I
  .exact sa.2.2 x J y I
  .exact h.oa x (Am _ J) y I
 .rcases Aj.mp I with I|I
  .exact hs x J y I
  .exact h.ob x J y I
def MH.b{f:Keyed->Int}{l p o seg U g:WQ}(h:MH f l p U (g++seg) o)(hs:∀x∈U,∀y∈seg,f x<=f y):MH f l p U g (seg++o):=by
 have j:=AU.mp h.sb;refine{?_,AU.mpr {j.2.1,h.so,λx J y I=>h.ob x (Ah _ J) y I},h.sa,j.1,λx J y I=>?_,λx J y I=>?_}
 .have:=h.perm;rw[<-Ay,Ay U g seg];exact this
 .rcases Aj.mp I with I|I
  .exact hs x J y I
  .exact h.oa x J y I
 .rcases Aj.mp I with I|I
  .exact j.2.2 x J y I
  .exact h.ob x (Am _ J) y I
def MH.ea{f:Keyed->Int}{I J o U:WQ}(h:MH f I J [] U o):we f I J (U++o):={by have:=h.perm;rwa[CP] at this,AU.mpr {(h.sb),h.so,h.ob}}
def MH.eb{f:Keyed->Int}{g j o J U:WQ}(h:MH f g j J U o)(hs:∀x∈U,∀y∈J,f x<=f y):we f g j (U++J++o):=by
 refine{List.Perm.trans ?_ h.perm,?_}
 .exact(BA o).mpr Bq
 .refine AU.mpr {AU.mpr {(h.sb),h.sa,hs},h.so,λx I y l=>?_};rcases Aj.mp I with I|I
  .exact h.ob x I y l
  .exact h.oa x I y l
structure HP(f:Keyed->Int)(a b out:WR)(na nb:Nat):Prop where
 mi:MH f a.toList b.toList (a.toList.take na) (b.toList.take nb) out.toList.reverse
 sz:out.size+na+nb=a.size+b.size
 la:na<=a.size
 lb:nb<=b.size
def JI(a:WR)(h:i<a.size):a.toList.take (i+1)=a.toList.take i++[a[i]]:=by rw[A4];simp[h]
def i0{a:WR}{x:Keyed}(h:x∈a.toList.take i):∃j,∃I:j<a.size,j<i/\a[j]=x:=by
 obtain⟨j,I,e⟩:=BH h;rw[AR] at I;have h1:j<a.size:=by have:a.toList.length=a.size:=AW;omega
 refine{j,h1,by omega,?_};rw[<-e];simp
def Gq(l:WQ){k:Nat}(h:i<=k):l.take i++(l.drop i).take (k-i)=l.take k:=by have:=List.take_add (l:=l) (i:=i) (j:=k-i);rw[show i+(k-i)=k by omega] at this;exact this.symm
section
variable {f:Keyed->Int}{a b out:WR}{nb:Nat}
def HP.Y2(M:HP f a b out na nb){k:Nat}(J:k<=na)(h:∀i (hi:i<a.size),k<=i->i<na->∀j (I:j<b.size),j<nb->f b[j]<=f a[i]):HP f a b (out++(a.extract k na).reverse) k nb:=by
 have l:=M.la;refine{?_,?_,GR,M.lb}
 .rw[Bd,C9,CZ,List.reverse_reverse,iy];refine MH.a (by rw[Gq _ J];exact M.mi) λx U y g=>?_;obtain⟨j,I,h2,rfl⟩:=i0 U;obtain⟨i,hi,h1,rfl⟩:=sh g;exact h (k+i) hi (Bf _ _) (by lia) j I h2
 .have:=M.sz;rw[B4,Array.size_reverse,Dl];lia
def HP.Y3(M:HP f a b out na nb){k:Nat}(J:k<=nb)(h:∀i (hi:i<b.size),k<=i->i<nb->∀j (I:j<a.size),j<na->f a[j]<=f b[i]):HP f a b (out++(b.extract k nb).reverse) na k:=by
 have l:=M.lb;refine{?_,?_,M.la,by lia}
 .rw[Bd,C9,CZ,List.reverse_reverse,iy];refine MH.b (by rw[Gq _ J];exact M.mi) λx U y g=>?_;obtain⟨j,I,h2,rfl⟩:=i0 U;obtain⟨i,hi,h1,rfl⟩:=sh g;exact h (k+i) hi (by lia) (by lia) j I h2
 .have:=M.sz;rw[B4,Array.size_reverse,Dl];lia
def HP.Yr(M:HP f a b out (na+1) nb)(hi:na<a.size)(h:∀j (I:j<b.size),j<nb->f b[j]<=f a[na]):HP f a b (out.push a[na]) na nb:=by refine{?_,by have:=M.sz;rw[Bw];lia,iT,M.lb};rw[Du,C9];refine MH.a (seg:=[a[na]]) (by rw[<-JI a hi];exact M.mi) λx J y U=>?_;obtain⟨j,I,h2,rfl⟩:=i0 J;rw[Ad.mp U];exact h j I h2
def HP.Ys(M:HP f a b out na<|nb+1)(hi:nb<b.size)(h:∀j (I:j<a.size),j<na->f a[j]<=f b[nb]):HP f a b (out.push b[nb]) na nb:=by refine{?_,by have:=M.sz;rw[Bw];lia,M.la,by lia};rw[Du,C9];refine MH.b (seg:=[b[nb]]) (by rw[<-JI b hi];exact M.mi) λx J y U=>?_;obtain⟨j,I,h2,rfl⟩:=i0 J;rw[Ad.mp U];exact h j I h2
def HP.done(M:HP f a b out na nb)(h:na=0):we f a.toList b.toList (a.extract 0 na++b.extract 0 nb++out.reverse).toList:=by subst h;have:=M.mi;rw[List.take_zero] at this;have:=this.ea;rw[Bd,Bd,iy,iy,CZ];simpa using this
def HP.last(M:HP f a b out na nb)(h:nb=1)(U:0<b.size)(h0:∀x∈a.toList,f b[0]<f x):we f a.toList b.toList (b.extract 0 nb++a.extract 0 na++out.reverse).toList:=by
 have:=M.mi.eb λx I y J=>by
  obtain⟨j,g,h2,rfl⟩:=i0 I;have e:j=0:=by lia
  subst e;exact BM<|h0 y<|Bz J
 rw[Bd,Bd,iy,iy,CZ];simpa using this
end
def HP.Zk{f:Keyed->Int}{a b out:WR}{nb:Nat}(M:HP f a b out na nb)(h0:0<na)(h:∀j (I:j<b.size),j<nb->f b[j]<=f (a[na-1]'(by have:=M.la;omega))):HP f a b (out.push (a[na-1]'(by have:=M.la;omega))) (na-1) nb:=by obtain⟨n,rfl⟩:∃n,na=n+1:={na-1,by lia};have J:=M.la;exact HP.Yr M (by assumption) h
def HP.Zl{f:Keyed->Int}{a b out:WR}{nb:Nat}(M:HP f a b out na nb)(h0:0<nb)(h:∀j (I:j<a.size),j<na->f a[j]<=f (b[nb-1]'(by have:=M.lb;omega))):HP f a b (out.push (b[nb-1]'(by have:=M.lb;lia))) na (nb-1):=by obtain⟨n,rfl⟩:∃n,nb=n+1:={nb-1,by lia};have J:=M.lb;exact HP.Ys M (by lia) h
section
variable {w:WF}{κ:SortKind}{Ok:Keyed->Prop}{f:Keyed->Int}
theorem Sx(O:Ord prog w A s κ Ok f){a b:WR}{st:SortSt}{Q:WR->SortSt->Prop}(hk:kindOf st=κ)(bp:∀x∈a.toList,Ok x)(bq:∀x∈b.toList,Ok x)
 (sa:a.toList.Pairwise λx y=>f x<=f y) (sb:b.toList.Pairwise λx y=>f x<=f y) (ha:0<a.size) (hb:0<b.size) (h0:∀x∈a.toList,f b[0]<f x) (hl:∀x∈b.toList,f x<f a[a.size-1])
 (q:∀r g,we f a.toList b.toList r.toList->Q r (bR st g)):wpS (model prog w) A E s (Sv a b) Q st:=by
 have c0:∀i (p:i<a.size),Ok a[i]:=λi p=>bp _ (by simp);have c3:∀i (p:i<b.size),Ok b[i]:=λi p=>bq _ (by simp);have a5:∀i (p:i<a.size),a[i]?=some a[i]:=λi p=>by simp[p]
 have aL:∀i (p:i<b.size),b[i]?=some b[i]:=λi p=>by simp[p]
 refine Go (f:=f) bp sa b[0] λtA c4 bf c6 c7=>Go (f:=f) bq sb b[0] λtB bg bh c8 c9=>?_;have bf:∀i,i<a.size->a[0+i]?=some (tA i):=λi p=>by rw[Cz];exact bf i p
 have bh:∀i,i<b.size->b[0+i]?=some (tB i):=λi p=>by rw[Cz];exact bh i p
 refine Ac<|wpS_lift<|Bv {rfl,?_};refine Ac<|xw (x:=a[a.size-1]) (a5 _<|y_) ?_;have M0:HP f a b #[a[a.size-1]] (a.size-1) b.size:=by
  have M:HP f a b #[] (a.size-1+1) b.size:=by
   refine{{?_,by simp,?_,?_,by simp,by simp},by simp;lia,y_,An _}
   .rw[A8 (by simp;lia),A8 (by simp)];simp
   .rw[A8 (by simp;lia)];exact sa
   .rw[A8 (by simp)];exact sb
  have:=M.Yr (by lia) λj hj _=>BM<|hl b[j] (by simp);simpa using this
 by_cases c1:(a.size-1==0)=true
 .refine xz c1 ?_;exact Af<|q _ (gallopOf st)<|M0.done (by simpa using c1)
 refine x8 c1 ?_;by_cases c2:(b.size==1)=true
 .refine xz c2 ?_;exact Af<|q _ (gallopOf st)<|M0.last (by simpa using c2) hb h0
 refine x8 c2 ?_;have c1:¬a.size-1=0:=by simpa using c1
 have c2:¬b.size=1:=by simpa using c2
 refine Ac<|wpS_get ?_;refine Ac (AV (AN (I:=λx c U=>(∃g,U=bR st g)/\∃na nb a3 mg,c=(none,na,nb,a3,mg)/\HP f a b a3 na nb/\0<na/\1<nb/\x+1<=a3.size)
  (Q:=λc U=>(∃g,U=bR st g)/\∃r,c.1=some r/\we f a.toList b.toList r.toList) ?_ ?_ ⟨⟨gallopOf st,rfl⟩,_,_,_,_,rfl,M0,FD,by lia,by simp⟩) ?_)
 .intro x c U _ hx;revert c U;refine JE λg na nb a3 mg M t T hs=>?_;refine Ac (AV (AN (I:=λy c U=>U=bR st g/\∃na nb J ac bc,c=(none,na,nb,J,ac,bc)/\HP f a b J na nb/\0<na/\1<nb/\a3.size+y<=J.size)
   (Q:=λc U=>U=bR st g/\((∃r,c.1=some r/\we f a.toList b.toList r.toList)\/∃na nb J ac bc,c=(none,na,nb,J,ac,bc)/\HP f a b J na nb/\0<na/\1<nb/\a3.size+1<=J.size)) ?_ ?_ ⟨rfl,_,_,_,_,_,rfl,M,t,T,An _⟩) ?_)
  .intro y c U _ hy;revert c U;refine Gp λna nb J ac bc M t T c5=>?_;have ca:=M.la;have cb:=M.lb;have a1:nb-1<b.size:=by omega
   have al:na-1<a.size:=by lia
   refine Ac<|xw (aL (nb-1) a1) ?_;refine Ac<|xw (a5 (na-1) al) ?_;refine Ac<|w_lt O hk (c3 (nb-1) a1) (c0 (na-1) al) ?_;by_cases c:f b[nb-1]<f a[na-1]
   .refine xz (Az c) ?_;refine Ac<|xw (a5 (na-1) al) ?_;have M':=M.Zk t λj hj C=>BM<|Int.lt_of_le_of_lt (l_ sb (i:=j) (j:=nb-1) (C0 C) a1) c;have s2:(J.push a[na-1]).size=J.size+1:=Bw _;by_cases e1:(na-1==0)=true
    .refine xz e1 ?_;exact Af {rfl,.inl {_,rfl,M'.done (by simpa using e1)}}
    .refine x8 e1 ?_;have e1:¬na-1=0:=by simpa using e1
     refine gL (λ_=>?_) λ_=>?_
     .exact Af {rfl,.inr {_,_,_,_,_,rfl,M',FD,T,by lia}}
     .exact Af {rfl,_,_,_,_,_,rfl,M',by lia,T,by lia}
   .refine x8 (by rw[Ao c];decide) ?_;refine Ac<|xw (aL (nb-1) a1) ?_;have M':=M.Zl (iT) λj hj C=>BV (l_ sa (i:=j) (j:=na-1) (C0 C) al) (by omega);have s2:(J.push b[nb-1]).size=J.size+1:=Bw _;by_cases e1:(nb-1==1)=true
    .refine xz e1 ?_;exact Af {rfl,.inl {_,rfl,M'.last (by simpa using e1) hb h0}}
    .refine x8 e1 ?_;have e1:¬nb-1=1:=by simpa using e1
     refine gL (λ_=>?_) λ_=>?_
     .exact Af {rfl,.inr {_,_,_,_,_,rfl,M',t,by lia,by lia}}
     .exact Af {rfl,_,_,_,_,_,rfl,M',t,by lia,by lia}
  .rintro c U ⟨rfl,na,nb,J,ac,bc,rfl,M,t,T,c5⟩;have:=M.sz;omega
  .refine JF (λr d hr=>?_) λna nb bb ac bc M t T c5=>?_
   .exact Af {{(g),rfl},r,rfl,hr}
   .dsimp only;refine Ac<|wpS_lift<|Bv {rfl,?_};refine Ac (AV (AN (I:=λy c U=>(∃g,U=bR st g)/\∃na nb J mg ac bc,c=(none,na,nb,J,mg,ac,bc)/\HP f a b J na nb/\0<na/\1<nb/\bb.size+y<=J.size)
     (Q:=λc U=>(∃g,U=bR st g)/\((∃r,c.1=some r/\we f a.toList b.toList r.toList)\/∃na nb J mg ac bc,c=(none,na,nb,J,mg,ac,bc)/\HP f a b J na nb/\0<na/\1<nb/\bb.size<=J.size)) ?_ ?_ ⟨⟨g,rfl⟩,_,_,_,_,_,_,rfl,M,t,T,An _⟩) ?_)
    .intro y c U _ hy;revert c U;refine JG λg' na nb J bi ac bc M t T bd=>?_;have ca:=M.la;have cb:=M.lb;have a1:nb-1<b.size:=by omega
     have al:na-1<a.size:=by lia
     generalize bi-1=cc;revert cc;refine um (y:=bi) λcm=>?_
     all_goals
      refine Ac<|wpS_modify ?_;refine Ac<|xw (aL (nb-1) a1) ?_;refine Ac<|cq O hk (c3 (nb-1) a1) (y_) tA (λi p=>{bf _<|Fy,c6 _ (by lia)}) (λi=>!decide (f b[nb-1]<f (tA i))) (λi p=>by rw[Ap (by simp)]) (λi j C hj h=>?_) λk cv bj bn=>?_
      .have:=c7 (i:=i) (j:=j) (by lia)<|Fy;simp at h ⊢;lia
      have bj:∀i,i<k->f (tA i)<=f b[nb-1]:=λi p=>by have:=bj i p;simpa using this
      have bn:∀i,k<=i->i<na->f b[nb-1]<f (tA i):=λi p hj=>by have:=bn i p hj;simpa using this
      have M1:=M.Y2 cv λi p h1 h2 j hj C=>by have h3:=bn i h1 h2;rw[c4 _ p] at h3;exact BV (l_ sb (i:=j) (j:=nb-1) (C0 C) a1)<|BM h3
      have pB:∀j (hj:j<a.size),j<k->f a[j]<=f b[nb-1]:=λj hj C=>by have h1:=bj j C;rw[c4 _ hj] at h1;exact h1
      dsimp only;generalize da:na-k=cn;generalize cw:J=o0;generalize cy:na=j0;revert j0;revert o0;refine mP (P1:=λo j=>HP f a b o j nb) (P2:=λo j=>J.size<=o.size) (P3:=λo j=>0<j) (P4:=λo j=>∀j' (hj:j'<a.size),j'<j->f a[j']<=f b[nb-1]) (x:=J) (i:=na) (λa2 l M1 h3 l3 pB=>?tail) (λck=>?hN) λck key=>?hY
      case hN=>
       obtain rfl:k=na:=by lia
       exact{M,An _,by lia,pB}
      case hY=>
       by_cases e1:(k==0)=true
       .refine xz e1 ?_;exact Af {{_,rfl},.inl {_,rfl,M1.done (by simpa using e1)}}
       .refine x8 e1 ?_;have e1:¬k=0:=by simpa using e1
        exact key _ _ M1 (by rw[B4];exact Bf _ _) (FD) pB
      all_goals
       have cP:=M1.la;have ba:l-1<a.size:=by lia
       refine Ac<|xw (aL (nb-1) a1) ?_;have M2:=M1.Zl (iT) pB;have s2:(a2.push b[nb-1]).size=a2.size+1:=Bw _;by_cases e2:(nb-1==1)=true
       case' pos=>
        refine xz e2 ?_;exact Af {{_,rfl},.inl {_,rfl,M2.last (by simpa using e2) hb h0}}
       case' neg=>
        refine x8 e2 ?_;have e2:¬nb-1=1:=by simpa using e2
        refine Ac<|xw (a5 (l-1) ba) ?_;refine Ac<|cq O hk (c0 (l-1) ba) (by lia) tB (λi p=>{bh _<|pS,c8 _ (by lia)}) (λi=>decide<|f (tB i)<f a[l-1]) (λi p=>by rw[Ar rfl]) (λi j C hj h=>?_) λk2 cI av a4=>?_
        .have:=c9 (i:=i) (j:=j) (by lia)<|pS;simp at h ⊢;lia
        have av:∀i,i<k2->f (tB i)<f a[l-1]:=λi p=>by have:=av i p;simpa using this
        have a4:∀i,k2<=i->i<nb-1->f a[l-1]<=f (tB i):=λi p hj=>by have:=a4 i p hj;simpa using this
        have k1:0<k2:=by
         rcases Nat.eq_zero_or_pos k2 with h|h
         .exfalso;have h5:=a4 0 (uY) (by lia);rw[bg _ hb] at h5;have h6:=h0 a[l-1] (by simp);lia
         .exact h
        have M3:=M2.Y3 cI λi p h1 h2 j hj C=>by have h5:=a4 i h1 h2;rw[bg _ p] at h5;exact BV (l_ sa (i:=j) (j:=l-1) (C0 C) ba) h5
        have pA:∀j (hj:j<b.size),j<k2->f b[j]<=f a[l-1]:=λj hj C=>by have h5:=av j C;rw[bg _ hj] at h5;exact BM h5
        dsimp only;generalize dc:nb-1-k2=de;generalize cw:a2.push b[nb-1]=o0;generalize cy:nb-1=j0;revert j0;revert o0;refine mP (P1:=λo j=>HP f a b o l j) (P2:=λo j=>a2.size+1<=o.size) (P3:=λo j=>1<j) (P4:=λo j=>∀j' (hj:j'<b.size),j'<j->f b[j']<=f a[l-1]) (x:=a2.push b[nb-1]) (i:=nb-1) (λbe dg M3 h4 l4 pA=>?tail2) (λck=>?hN) λck key=>?hY
        case hN=>
         obtain rfl:k2=nb-1:=by lia
         exact{M2,Dr s2.symm,by lia,pA}
        case hY=>
         by_cases e3:(k2==1)=true
         .refine xz e3 ?_;exact Af {{_,rfl},.inl {_,rfl,M3.last (by simpa using e3) hb h0}}
         .refine x8 e3 (x8 (show ¬(k2==0)=true by simp;exact Im) ?_);have e3:¬k2=1:=by simpa using e3
          exact key _ _ M3 (by rw[B4];lia) (by lia) pA
        all_goals
         refine Ac<|xw (a5 (l-1) ba) ?_;have M4:=M3.Zk l3 pA;have s4:(be.push a[l-1]).size=be.size+1:=Bw _;by_cases e4:(l-1==0)=true
         .refine xz e4 ?_;exact Af {{_,rfl},.inl {_,rfl,M4.done (by simpa using e4)}}
         .refine x8 e4 ?_;have e4:¬l-1=0:=by simpa using e4
          refine gL (λ_=>?_) λ_=>?_
          .exact Af {{_,rfl},.inr {_,_,_,_,_,_,rfl,M4,FD,l4,by lia}}
          .exact Af {{_,rfl},_,_,_,_,_,_,rfl,M4,by lia,l4,by lia}
    .rintro c U ⟨⟨g',rfl⟩,na,nb,J,bi,ac,bc,rfl,M,t,T,bd⟩;have:=M.sz;omega
    .refine JH (λg' r d hr=>?_) λg' na nb d0 cm ac bc M t T bd=>?_
     .exact Af {{(g'),rfl},r,rfl,hr}
     .dsimp only;refine Ac<|wpS_modify ?_;exact Af {{_,rfl},_,_,_,_,rfl,M,t,T,by lia}
 .rintro c U ⟨⟨g,rfl⟩,na,nb,a3,mg,rfl,M,t,T,hs⟩;have:=M.sz;lia
 .exact JD λg r d hr=>Af<|q r g hr
end
def Sy{σ:Type}{st I:σ}{Q:PUnit->σ->Prop}(h:Q ⟨⟩ I):wpS M A E s (set I:StateT σ Sem PUnit) Q st:=by unfold wpS;rw[StateT.run_set];exact Ak {(rfl),h}
theorem o7{α:Type}:∀(m:List α) (arr:Array α) (i k:Nat),i+k+m.length<=arr.size->((m.zipIdx k).foldl (λ(a:Array α) (I:α×Nat)=>a.setIfInBounds (i+I.2) I.1) arr).toList=arr.toList.take (i+k)++(m++arr.toList.drop (i+k+m.length))
 |[],arr,i,k,h=>by simp
 |x::m,arr,i,k,h=>by
  rw[Er,List.foldl_cons];simp only[AD] at h;rw[o7 m _ i (k+1) (by simp;lia)];have e:(arr.setIfInBounds (i+k) x).toList=arr.toList.set (i+k) x:=by simp
  have l:arr.toList.length=arr.size:=AW;rw[e,List.drop_set,Ar (by exact Bf _ _),<-EM,A4,Cf (by lia),List.take_set_of_le (by simp +arith only),AD];simp;congr 1;simp +arith only
section
variable {w:WF}{κ:SortKind}{Ok:Keyed->Prop}{f:Keyed->Int}
def vA{l:WQ}(s:l.Pairwise λx y=>f x<=f y)(I:i<=j)(J:j<l.length):f (l[i]'(pO))<=f l[j]:=by
 rcases DV I with h|h
 .exact BP.mp s i j (pO) J h
 .subst h;exact Dp _
def Hd{l:WQ}{x:Keyed}(h:x∈l):∃i,∃hi:i<l.length,l[i]=x:=BH h
def He{l:WQ}{x:Keyed}(h:x∈l.take m):∃i,∃hi:i<l.length,i<m/\l[i]=x:=by obtain⟨i,hi,rfl⟩:=BH h;rw[AR] at hi;exact{i,by lia,by lia,BI.symm}
def Gr{l:WQ}{x:Keyed}{k:Nat}(h:x∈l.drop k):∃i,∃hi:i<l.length,k<=i/\l[i]=x:=by obtain⟨i,hi,rfl⟩:=BH h;rw[BL] at hi;exact{k+i,by lia,Bf _ _,Eb.symm}
theorem Sz(O:Ord prog w A s κ Ok f){st:SortSt}{X Y:WQ}{w1 w2:Nat}{Q:Bool->SortSt->Prop}(hk:kindOf st=κ)(hf:failedOf st=none)(hp:pendingOf st=#[(0,X.length,w1),(X.length,Y.length,w2)])(ea:(arrOf st).toList=X++Y)(ok:∀x∈X++Y,Ok x)
 (lX:0<X.length) (lY:0<Y.length) (sX:X.Pairwise λx y=>f x<=f y) (sY:Y.Pairwise λx y=>f x<=f y) (q:∀T,failedOf T=none->(pendingOf T).size=1->(arrOf T).toList.Perm (X++Y)->((arrOf T).toList.Pairwise λx y=>f x<=f y)->Q true T):wpS (model prog w) A E s (mergeAt' 0) Q st:=by
 have a1:(pendingOf st)[0]?=some (0,X.length,w1):=by rw[hp];rfl
 have a2:(pendingOf st)[0+1]?=some (X.length,Y.length,w2):=by rw[hp];rfl
 have a3:(((pendingOf st).setIfInBounds 0 (0,X.length+Y.length,w1)).eraseIdxIfInBounds<|0+1).size=1:=by simp[hp]
 refine Ac<|wpS_get ?_;rw[show(sortPriv% PySem.Builtin.SortState.pending) st=pendingOf st from rfl,a1,a2];refine Ac<|Sy ?_;generalize ((pendingOf st).setIfInBounds 0 (0,X.length+Y.length,w1)).eraseIdxIfInBounds (0+1)=pn at a3 ⊢;have ba:∀i (I:i<X.length),(arrOf st)[i]?=some X[i]:=λi I=>by rw[<-A6,ea,Av I];simp
 have bb:∀i (I:i<Y.length),(arrOf st)[X.length+i]?=some Y[i]:=λi I=>by rw[<-A6,ea,AH<|Bf _ _,Bs];simp
 have al:∀x∈X,Ok x:=λx l=>ok x<|Am _ l;have av:∀x∈Y,Ok x:=λx l=>ok x<|Ah _ l;obtain⟨tX,bc⟩:∃t:Nat->Keyed,t=λi=>(X[i]?).getD X[0]:={_,rfl};have p:∀i (I:i<X.length),tX i=X[i]:=λi I=>by rw[bc];simp[I]
 obtain⟨tY,bd⟩:∃t:Nat->Keyed,t=λi=>(Y[i]?).getD X[0]:={_,rfl};have C:∀i (I:i<Y.length),tY i=Y[i]:=λi I=>by rw[bd];simp[I]
 refine Ac<|xw (x:=Y[0]) (bb 0 lY) ?_;refine Ac (cq O hk (av _<|BN _) lX tX (λi I=>{by rw[p i I,Cz];exact ba i I,by rw[p i I];exact al _<|BN _}) (λi=>!decide (f Y[0]<f (tX i))) (λi I=>by rw[Ap (by simp)]) (λi j aL J h=>?_) λk be a5 ac=>?_)
 .have:=vA sX aL J;rw[p j J] at h;rw[p i<|pO];simp at h ⊢;omega
 have a5:∀i (I:i<k),f (X[i]'(Fy))<=f Y[0]:=λi I=>by have:=a5 i I;rw[p i (by lia)] at this;simpa using this
 have ac:∀i (J:i<X.length),k<=i->f Y[0]<f X[i]:=λi J I=>by have:=ac i I J;rw[p i J] at this;simpa using this
 dsimp only;rw[Cz];by_cases c:(X.length-k==0)=true
 .rw[Ar c];have c:X.length-k=0:=by simpa using c
  refine Af (q _ hf a3 (by rw[ea]) (by rw[ea];refine AU.mpr {sX,sY,λx l y hy=>?_};obtain⟨i,I,rfl⟩:=Hd l;obtain⟨j,J,rfl⟩:=Hd hy;exact BV (a5 i (by lia))<|vA sY (A5 _) J))
 rw[Ap c];have c:k<X.length:=by lia
 refine Ac (xw (x:=X[X.length-1]) (by rw[show k+(X.length-k)-1=X.length-1 by lia];exact ba _ (by lia)) ?_);refine Ac (cq O hk (al _<|BN _) (by lia) tY (λi I=>{by rw[C i I];exact bb i I,by rw[C i I];exact av _<|BN _}) (λi=>decide<|f (tY i)<f X[X.length-1]) (λi I=>by rw[Ar rfl]) (λi j aL J h=>?_) λm bf a4 o=>?_)
 .have:=vA sY aL J;rw[C j J] at h;rw[C i<|pO];simp at h ⊢;omega
 have a4:∀i (I:i<m),f (Y[i]'(Fy))<f X[X.length-1]:=λi I=>by have:=a4 i I;rw[C i (by lia)] at this;simpa using this
 have o:∀i (J:i<Y.length),m<=i->f X[X.length-1]<=f Y[i]:=λi J I=>by have:=o i I J;rw[C i J] at this;simpa using this
 have m0:0<m:=Nat.pos_of_ne_zero λh=>by have h5:=o 0 lY (by lia);have h6:=ac (X.length-1) (by lia) (by lia);omega
 dsimp only;rw[Ap (show ¬(m==0)=true by simp;lia)];have ex:((arrOf st).extract k X.length).toList=X.drop k:=by rw[iy,ea,List.drop_append_of_le_length (by lia),DG (by simp),A8 (by simp)]
 have ey:((arrOf st).extract X.length<|X.length+m).toList=Y.take m:=by rw[iy,ea,List.drop_left,Bs]
 have k8:∀(r:WR) (g:Nat),we f (X.drop k) (Y.take m) r.toList->Q (failedOf st).isNone (SortSt.mk' (kindOf st) (r.toList.zipIdx.foldl (λa x=>a.setIfInBounds (k+x.2) x.1)<|arrOf st) pn g<|failedOf st):=by
  rintro r g ⟨hm,hs⟩;have lr:r.toList.length=X.length-k+m:=by rw[hm.length_eq];simp;lia
  have pt:=o7 r.toList (arrOf st) k 0 (by rw[lr,<-AW,ea,Ab];lia);rw[ea,lr,Ez,show k+(X.length-k+m)=X.length+m by lia,DG (by lia),List.drop_length_add_append] at pt;rw[hf];refine q _ rfl a3 ((EF pt).trans ?_)<|Eq.subst (motive:=List.Pairwise λx y=>f x<=f y) pt.symm ?_
  .have h1:=(BD<|X.take k).mpr<|(BA<|Y.drop m).mpr hm;rwa[Ay<|X.drop k,Bb,<-Ay (X.take k) (X.drop k),Bb] at h1
  .refine AU.mpr {sX.sublist<|Ds _ _,AU.mpr {hs,sY.sublist<|Ec _ _,λx l y hy=>?_},λx l y hy=>?_}
   .obtain⟨j,J,h2,rfl⟩:=Gr hy;rcases Aj.mp (hm.mem_iff.mp l) with h|h
    .obtain⟨i,I,_,rfl⟩:=Gr h;exact BV (vA sX (by lia) (by lia))<|o j J h2
    .obtain⟨i,I,h1,rfl⟩:=He h;exact vA sY (by lia) J
   .obtain⟨i,I,h1,rfl⟩:=He l;have low:∀z∈Y,f X[i]<=f z:=λz hz=>by obtain⟨j,J,rfl⟩:=Hd hz;exact BV (a5 i h1) (vA sY (A5 _) J)
    rcases Aj.mp hy with h|h
    .rcases Aj.mp (hm.mem_iff.mp h) with h|h
     .obtain⟨j,J,h2,rfl⟩:=Gr h;exact vA sX (by lia) J
     .exact low y<|Bz h
    .exact low y<|CY h
 generalize (arrOf st).extract k X.length=U at ex ⊢;generalize (arrOf st).extract X.length (X.length+m)=V at ey ⊢;have zU:U.size=X.length-k:=by rw[<-AW,ex];simp
 have zV:V.size=m:=by rw[<-AW,ey];simp;lia
 have q5:0<U.size:=by lia
 have q6:0<V.size:=by lia
 have v0:V[0]=Y[0]:=by
  have:V.toList[0]?=(Y.take m)[0]?:=by rw[ey]
  rw[A6,DW,Ar m0] at this;simpa[q6,lY] using this
 have ul:U[U.size-1]=X[X.length-1]:=by
  have:U.toList[U.size-1]?=(X.drop k)[U.size-1]?:=by rw[ex]
  rw[A6,List.getElem?_drop,show k+(U.size-1)=X.length-1 by lia] at this;rw[Array.getElem?_eq_getElem (by lia),Ai (by lia)] at this;exact AJ this
 have q1:∀x∈U.toList,Ok x:=λx l=>al x (CY (by rw[ex] at l;exact l));have q2:∀x∈V.toList,Ok x:=λx l=>av x (Bz (by rw[ey] at l;exact l));have q3:U.toList.Pairwise λx y=>f x<=f y:=by rw[ex];exact sX.sublist<|Ec _ _
 have q4:V.toList.Pairwise λx y=>f x<=f y:=by rw[ey];exact sY.sublist<|Ds _ _
 have q7:∀x∈U.toList,f V[0]<f x:=λx l=>by rw[v0];rw[ex] at l;obtain⟨i,I,h1,rfl⟩:=Gr l;exact ac i I h1
 have q8:∀x∈V.toList,f x<f U[U.size-1]:=λx l=>by rw[ul];rw[ey] at l;obtain⟨i,I,h1,rfl⟩:=He l;exact a4 i h1
 rw[<-ex,<-ey] at k8;split
 .exact Ac<|Sw O hk q1 q2 q3 q4 q5 q6 q7 q8 λr g h=>Ac<|wpS_modify<|Ac<|wpS_get<|Af<|k8 r g h
 .exact Ac<|Sx O hk q1 q2 q3 q4 q5 q6 q7 q8 λr g h=>Ac<|wpS_modify<|Ac<|wpS_get<|Af<|k8 r g h
end
def lL{arr:Array α}{P R:List α}(h:arr.toList=P++R)(J:n<=R.length):(mirror arr P.length (P.length+n)<|(P.length+n-P.length) / 2).toList=P++((R.take n).reverse++R.drop n):=by
 have U:P.length+n<=arr.size:=by rw[<-AW,h,Ab];exact Nat.add_le_add_left J _
 have ap:∀(B:List α) (t:Nat),(P++B)[P.length+t]?=B[t]?:=λB t=>by rw[AH<|Bf ..,Bs]
 have I:=Dv J;refine Ed λk=>?_;rw[A6,getElem?_mirror_all U,<-A6,<-A6,h];rcases CA k P.length with c|c
 .rw[Ap λz=>ER.mpr z.1 c,Av c,Av c]
 obtain⟨j,rfl⟩:=Cc c;rw[ap ((R.take n).reverse++R.drop n) j];rcases CA j n with d|d
 .rw[Ar {c,Nat.add_lt_add_left d _},show P.length+(P.length+n)-1-(P.length+j)=P.length+(n-1-j) by lia,ap,Av (by rw[DN,I];exact d),List.getElem?_reverse (by rw[I];exact d),I,DW,Ar (by lia)]
 .obtain⟨t,rfl⟩:=Cc d;rw[Ap λz=>ER.mpr (Bf n t)<|Nat.lt_of_add_lt_add_left z.2,ap,AH (by rw[DN,I];exact d),DN,I,Bs,List.getElem?_drop]
def SA{arr:Array α}{A Y Z:List α}{r:α}(h:arr.toList=A++(Y++r::Z)):(bubble arr (A.length+Y.length) Y.length).toList=A++r::(Y++Z):=by
 have J:A.length+Y.length<arr.size:=by rw[<-AW,h,Ab,Ab];exact Nat.add_lt_add_left (Dq<|Cv _) _
 refine Ed λi=>?_;rw[A6,getElem?_bubble J _<|DJ ..,Nat.add_sub_cancel,<-A6,<-A6,<-A6,h];rcases CA i A.length with c|c
 .rw[Ap<|A3 c,Ap λz=>Nat.lt_asymm z.1 c,Av c,Av c]
 obtain⟨j,rfl⟩:=Cc c;have ap:∀(B:List α) (t:Nat),(A++B)[A.length+t]?=B[t]?:=λB t=>by rw[AH<|Bf ..,Bs]
 have I:∀(B:List α) (t:Nat),(Y++B)[Y.length+t]?=B[t]?:=λB t=>by rw[AH<|Bf ..,Bs]
 rw[ap (r::(Y++Z)) j];cases j with
 |zero=>rw[Ar<|Ez _,ap,List.getElem?_cons_zero];exact I _ 0
 |succ j=>
  rw[Ap<|C3<|Dq<|Cv _,Dn,show A.length+(j+1)-1=A.length+j from rfl,ap _ j,ap _<|j+1];rcases CA j Y.length with d|d
  .rw[Ar {Dq<|Cv _,Nat.add_le_add_left d _},Av d,Av d]
  .obtain⟨t,rfl⟩:=Cc d;rw[Ap λz=>ER.mpr d<|Nat.le_of_add_le_add_left z.2,I,show Y.length+t+1=Y.length+(t+1) from rfl,I,Dn]
def uM{arr:Array α}{P R:List α}{k l:Nat}(h:arr.toList=P++R)(I:k<R.length)(J:l<=k):(bubble arr (P.length+k)<|P.length+k-(P.length+l)).toList=P++(R.take l++R[k]::((R.drop l).take (k-l)++R.drop (k+1))):=by
 obtain⟨d,rfl⟩:=Cc J;have U:R.take l++((R.drop l).take d++R[l+d]::R.drop (l+d+1))=R:=by rw[<-BO I,<-List.drop_drop,Bb,Bb]
 have g:=Dv<|AK J<|Bo I;have j:((R.drop l).take d).length=d:=Dv (by rw[BL];lia);have b:=SA (arr:=arr) (A:=P++R.take l) (Y:=(R.drop l).take d) (Z:=R.drop<|l+d+1) (r:=R[l+d]) (by rw[Ay,U];exact h);rw[Ab,g,j,Ay] at b;rw[Bs,show P.length+(l+d)=P.length+l+d from(EM _ _ _).symm,Bs];exact b
section
variable {w:WF}{κ:SortKind}{Ok:Keyed->Prop}{f:Keyed->Int}
structure Tl(κ:SortKind)(Ok:Keyed->Prop)(st:SortSt)(P R:WQ):Prop where
 kind:kindOf st=κ
 arr:(arrOf st).toList=P++R
 ok:∀x∈R,Ok x
def kD(O:Ord prog w A s κ Ok f){st:SortSt}{P R:WQ}(T:Tl κ Ok st P R)(hi:i<R.length)(J:j<R.length){a b:Nat}(ea:a=P.length+i)(eb:b=P.length+j){Q:Option Bool->SortSt->Prop}(q:Q (some<|decide<|f R[i]<f R[j]) st):wpS (model prog w) A E s (ltAt' a b) Q st:=by
 have I:∀i (hi:i<R.length),(arrOf st)[P.length+i]?=some R[i]:=λi hi=>by rw[<-A6,T.arr,AH<|Bf _ _,Bs];simp
 subst ea eb;rw[ltAt'_eq];refine Ac<|wpS_get ?_;refine Ac<|xw (I i hi)<|Ac<|xw (I j J) ?_;exact w_lt O T.kind (T.ok _<|BN _) (T.ok _<|BN _) q
def Up(f:Keyed->Int)(R:WQ)(n:Nat):Prop:=∀i j (_:i<=j) (_:j<R.length),j<n->f (R[i]'(by exact pO))<=f R[j]
def Up.snoc{R:WQ}(h:Up f R n)(h1:1<=n)(l:n<R.length)(hs:f (R[n-1]'(sm))<=f R[n]):Up f R (n+1):=λi j I J U=>by
 rcases CA j n with c|c
 .exact h i j I J c
 .have e:j=n:=by lia
  subst e;rcases CA i j with g|g
  .exact BV (h i (j-1) (by omega) (sm)<|y_) hs
  .have e:i=j:=by lia
   subst e;exact Dp _
def Up.pair{R:WQ}(h:Up f R n)(g:n<=R.length):(R.take n).Pairwise λx y=>f x<=f y:=by rw[BP];intro i j I J U;rw[AR] at I J;rw[BI,BI];exact h i j (iT) (by lia) (by lia)
end
section
variable {w:WF}{κ:SortKind}{Ok:Keyed->Prop}{f:Keyed->Int}
def Tl.same{st:SortSt}{P R R':WQ}(T:Tl κ Ok st P R)(p:R'.Perm R){arr:WR}(h:arr.toList=P++R'):Tl κ Ok (setArr st arr) P R':={T.kind,h,λx I=>T.ok x<|p.mem_iff.mp I}
def Up.one{R:WQ}:Up f R 1:=λi j I J h=>by
 have:i=j:=by lia
 subst this;exact Dp _
def kQ{c:Prop}{_:Decidable c}{K T:StateT SortSt Sem α}{P:SortSt->Prop}{Q:α->SortSt->Prop}{st:SortSt}(J:¬c->P st)(key:∀I,P I->wpS (model prog w) A E s K Q I)
 (hp:c->(∀I,P I->wpS (model prog w) A E s K Q I)->wpS (model prog w) A E s T Q st):wpS (model prog w) A E s (if c then T else K) Q st:=by
 by_cases h:c
 .rw[Ar h];exact hp h key
 .rw[Ap h];exact key st<|J h
def iE(f:Keyed->Int)(R:WQ)(n:Nat):Prop:=∀i j (_:i<=j) (_:j<R.length),j<n->f R[j]<=f (R[i]'(by exact pO))
def JJ{R R':WQ}(e:R'.map f=R.map f)(h1:i<R'.length)(h2:i<R.length):f R'[i]=f R[i]:=by
 have:(R'.map f)[i]?=(R.map f)[i]?:=by rw[e]
 rw[Aq,Aq,Ai h1,Ai h2] at this;exact AJ this
def iE.same{R R':WQ}(D:iE f R n)(e:R'.map f=R.map f):iE f R' n:=λi j I U J=>by
 have l:R'.length=R.length:=by have:=Bt List.length e;rwa[Ae,Ae] at this
 rw[JJ e U (by lia),JJ e (by lia) (by lia)];exact D i j I (by lia) J
def iE.snoc{R:WQ}(h:iE f R n)(h1:1<=n)(l:n<R.length)(hs:f R[n]<=f (R[n-1]'(sm))):iE f R (n+1):=λi j I J U=>by
 rcases CA j n with c|c
 .exact h i j I J c
 .have e:j=n:=by lia
  subst e;rcases CA i j with g|g
  .exact BV hs<|h i (j-1) (by omega) (sm)<|y_
  .have e:i=j:=by lia
   subst e;exact Dp _
def oS{arr:WR}{P R:WQ}{a b:Nat}{v:Int}(h:arr.toList=P++R)(U:a<=b)(l:b<=R.length)(g:∀i (_:i<R.length),a<=i->i<b->f R[i]=v):
 ∃R',(mirror arr (P.length+a) (P.length+b)<|(P.length+b-(P.length+a)) / 2).toList=P++R'/\R'.Perm R/\R'.map f=R.map f:=by
 have j:(P++R.take a).length=P.length+a:=by simp;lia
 have I:R=R.take a++((R.drop a).take (b-a)++(R.drop a).drop (b-a)):=by rw[Bb,Bb]
 have m:=lL (P:=P++R.take a) (R:=R.drop a) (n:=b-a) (by rw[h,Ay,Bb]) (by simp;lia);rw[j,show P.length+a+(b-a)=P.length+b by lia,Ay] at m;refine{_,m,?_,?_}
 .refine List.Perm.trans ?_<|EF I.symm;exact(BD _).mpr ((BA _).mpr<|Ee _)
 .have r:((R.drop a).take<|b-a).map f=List.replicate (b-a) v:=by refine List.ext_getElem (by simp;lia) λi h1 h2=>?_;rw[List.getElem_map,BI,Eb,List.getElem_replicate];rw[BS] at h2;exact g _ _ (by lia) (by lia)
  have J:=Bt (List.map f) I;rw[AC,AC,r] at J;rw[AC,AC,List.map_reverse,r,List.reverse_replicate,J]
theorem SD(O:Ord prog w A s κ Ok f){st:SortSt}{P R:WQ}(T:Tl κ Ok st P R)(h1:1<=R.length){Q:Option Nat->SortSt->Prop}
 (q:∀n R' arr,1<=n->n<=R.length->R'.Perm R->arr.toList=P++R'->Up f R' n->Q (some n) (setArr st arr)):wpS (model prog w) A E s (countRun' P.length R.length) Q st:=by
 refine Ac (AV (AN (I:=λx c g=>g=st/\c=(none,x)/\Up f R x)
  (Q:=λc g=>g=st/\∃n,c=(none,n)/\1<=n/\n<=R.length/\Up f R n/\(n=R.length\/∃h:n<R.length,f R[n]<f (R[n-1]'(sm)))) ?_ ?_ ⟨rfl,rfl,Up.one⟩) ?_)
 .rintro x c g t hx ⟨rfl,rfl,U⟩;refine Ac<|kD O T (i:=x) (j:=x-1) hx (sm) rfl (by lia) ?_;dsimp only;by_cases c:f R[x]<f (R[x-1]'(by omega))
  .rw[Az c,Ar rfl];exact Af {rfl,x,rfl,t,iT,U,.inr {(hx),c}}
  .rw[Ao c,Ap (by simp)];exact Af {rfl,rfl,U.snoc t hx (by omega)}
 .rintro c g ⟨rfl,rfl,U⟩;exact{rfl,_,rfl,by lia,by lia,by rw[C5 h1] at *;exact U,.inl (by lia)}
 .rintro c g ⟨rfl,n,rfl,a3,a4,U,ac⟩;dsimp only;by_cases c1:(n==R.length)=true
  .rw[Ar c1];exact Af<|q n R (arrOf g) a3 a4 (Dw _) T.arr U
  rw[Ap c1];have c1:¬n=R.length:=by simpa using c1
  have av:n<R.length:=z_;have hd:f R[n]<f (R[n-1]'(by omega)):=by
   rcases ac with h|⟨h,h'⟩
   .exact absurd h c1
   .exact h'
  refine kQ (P:=λl=>∃arr R',l=setArr g arr/\arr.toList=P++R'/\R'.Perm R/\iE f R' (n+1)) (λc2=>{arrOf g,R,rfl,T.arr,Dw _,?_}) ?_ λc2 key=>?_
  .obtain rfl:n=1:=by lia
   exact iE.snoc (λi j aL hj a5=>by (have e:i=j:=by lia);(subst e;exact Dp _)) (An _) av<|BM hd
  rotate_left
  .refine Ac<|kD O T (i:=0) (j:=n-1) (by assumption) (sm) rfl (by omega) ?_;dsimp only;by_cases c3:f R[0]<f (R[n-1]'(by omega))
   .rw[Az c3,Ar rfl];exact Af<|q n R (arrOf g) a3 a4 (Dw _) T.arr U
   rw[Ao c3,Ap (by simp)];have al:∀i (_:i<R.length),0<=i->i<n->f R[i]=f R[0]:=λi hi _ bc=>by have a1:=U 0 i (A5 _) hi bc;have a2:=U i (n-1) (by lia) (by lia) (by lia);lia
   obtain⟨R',m1,m2,m3⟩:=oS (f:=f) T.arr (A5 n) a4 al;refine Ac<|wpS_modify<|key _ {_,R',rfl,m1,m2,iE.same (iE.snoc (λi j aL hj a5=>?_) a3 av<|BM hd) m3};rw[al j hj (A5 _) a5,al i (by lia) (A5 _) (by lia)];exact Dp _
  rintro _ ⟨arr,R0,rfl,p,ba,D0⟩;refine Ac<|wpS_lift<|Bv {rfl,?_};have l0:=ba.length_eq;refine Ac (AV (AN (I:=λx c l=>∃J arr R',c=(none,x,J)/\l=setArr g arr/\arr.toList=P++R'/\R'.Perm R/\iE f R' x/\J+1<=x/\∃v,∀i (_:i<R'.length),x-(J+1)<=i->i<x->f R'[i]=v)
   (Q:=λc l=>∃n J arr R',c=(none,n,J)/\l=setArr g arr/\arr.toList=P++R'/\R'.Perm R/\iE f R' n/\J+1<=n/\n<=R.length/\∃v,∀i (_:i<R'.length),n-(J+1)<=i->i<n->f R'[i]=v) ?_ ?_ ⟨0,arr,R0,rfl,rfl,p,ba,D0,by lia,f<|R0[n]'(by lia),λi hi h2 h3=>by (have e:i=n:=by lia);(subst e;rfl)⟩) ?_)
  .rintro x c l t hx ⟨J,arr,r,rfl,rfl,p,o,D,hq,v,C⟩;have l1:=o.length_eq;have T1:=T.same o p;refine Ac<|kD O T1 (i:=x) (j:=x-1) (by lia) (by lia) rfl (by lia) ?_;dsimp only;by_cases c:f (r[x]'(by lia))<f (r[x-1]'(by omega))
   .rw[Az c,Ar rfl];refine kQ (P:=λl=>∃arr R',l=setArr g arr/\arr.toList=P++R'/\R'.Perm R/\iE f R' (x+1)) (λ_=>{arr,r,rfl,p,o,D.snoc (by lia) (by lia)<|BM c}) ?_ λc2 key=>?_
    .rintro _ ⟨arr,R',rfl,p,o,D⟩;exact Af {0,arr,R',rfl,rfl,p,o,D,by lia,f (R'[x]'(by have:=o.length_eq;lia)),λi hi h2 h3=>by (have e:i=x:=by lia);(subst e;rfl)}
    .obtain⟨R',m1,m2,m3⟩:=oS (f:=f) (a:=x-(J+1)) (b:=x) p (by lia) (by lia) C;refine Ac<|wpS_modify<|key _ {_,R',rfl,?_,m2.trans o,iE.same (D.snoc (by lia) (by lia)<|BM c) m3};rw[<-m1];show(mirror arr (P.length+x-(J+1)) (P.length+x)<|(P.length+x-(P.length+x-(J+1))) / 2).toList=_;rw[show P.length+x-(J+1)=P.length+(x-(J+1)) by lia]
   .rw[Ao c,Ap (by simp)];refine Ac<|kD O T1 (i:=x-1) (j:=x) (by omega) (by lia) (by lia) rfl ?_;dsimp only;by_cases c3:f (r[x-1]'(by omega))<f (r[x]'(by lia))
    .rw[Az c3,Ar rfl];exact Af {x,J,arr,r,rfl,rfl,p,o,D,hq,by lia,v,C}
    .rw[Ao c3,Ap (by simp)];refine Af {J+1,arr,r,rfl,rfl,p,o,D.snoc (by lia) (by lia) (by lia),by lia,v,λi hi h2 h3=>?_};rcases CA i x with h|h
     .exact C i hi (by lia) h
     .have:i=x:=by lia
      subst this;rw[<-C (i-1) (by lia) (by lia) (by lia)];lia
  .rintro c l ⟨J,arr,r,rfl,rfl,p,o,D,hq,v,C⟩;exact{_,J,arr,r,rfl,rfl,p,o,D,hq,by lia,v,C}
  .rintro c l ⟨n,J,arr,r,rfl,rfl,p,o,D,hq,g2,v,C⟩;have l1:=o.length_eq;dsimp only;refine kQ (P:=λl=>∃arr R',l=setArr g arr/\arr.toList=P++R'/\R'.Perm R/\iE f R' n) (λ_=>{(arr),r,rfl,p,o,D}) ?_ (λc2 key=>?_)
   rotate_left
   .obtain⟨R',m1,m2,m3⟩:=oS (f:=f) (a:=n-(J+1)) (b:=n) p (by lia) (by lia) C;refine Ac<|wpS_modify<|key _ {_,R',rfl,?_,m2.trans o,D.same m3};rw[<-m1];show(mirror arr (P.length+n-(J+1)) (P.length+n)<|(P.length+n-(P.length+n-(J+1))) / 2).toList=_;rw[show P.length+n-(J+1)=P.length+(n-(J+1)) by lia]
   rintro _ ⟨arr,r,rfl,p,o,D⟩;have l1:=o.length_eq;have T1:=T.same o p;have T':=T1.same (R':=(r.take n).reverse++r.drop n) (((BA _).mpr<|Ee _).trans (by rw[Bb]))<|lL p (by lia);obtain⟨R',eR⟩:∃R',R'=(r.take n).reverse++r.drop n:={_,rfl};have bb:R'.Perm R:=by rw[eR];exact(((BA _).mpr<|Ee _).trans (by rw[Bb])).trans o
   have lR:=bb.length_eq;have U':Up f R' n:=λi j aL hj a5=>by
    subst eR;rw[Ek (by simp;lia),Ek (by simp;lia),List.getElem_reverse,List.getElem_reverse,BI,BI];refine D _ _ ?_ (by simp;omega) ?_
    .simp;omega
    .simp;omega
   rw[<-eR] at T';refine Ac<|wpS_modify ?_;refine Ac (AV (AN (I:=λx c l=>l=setArr g (mirror arr P.length (P.length+n)<|(P.length+n-P.length) / 2)/\c=(none,x)/\Up f R' x)
    (Q:=λc l=>l=setArr g (mirror arr P.length (P.length+n)<|(P.length+n-P.length) / 2)/\∃n,c=(none,n)/\1<=n/\n<=R.length/\Up f R' n) ?_ ?_ ⟨rfl,rfl,U'⟩) ?_)
   .rintro x c l t hx ⟨rfl,rfl,U⟩;refine Ac<|kD O T' (i:=x) (j:=x-1) (by lia) (by omega) rfl (by lia) ?_;dsimp only;by_cases c:f (R'[x]'(by omega))<f (R'[x-1]'(by omega))
    .rw[Az c,Ar rfl];exact Af {rfl,x,rfl,by lia,iT,U}
    .rw[Ao c,Ap (by simp)];exact Af {rfl,rfl,U.snoc (by omega) (by lia) (by omega)}
   .rintro c l ⟨rfl,rfl,U⟩;exact{rfl,_,rfl,by lia,by lia,U}
   .rintro c l ⟨rfl,n,rfl,k1,k2,U⟩;exact Af<|q n R' _ k1 k2 bb T'.arr U
end
section
variable {w:WF}{κ:SortKind}{Ok:Keyed->Prop}{f:Keyed->Int}
def Up.of{R:WQ}(h:(R.take n).Pairwise λx y=>f x<=f y):Up f R n:=λi j I U J=>by have:=vA h (i:=i) (j:=j) I (by simp;lia);rw[BI,BI] at this;exact this
def SE{R:WQ}{k l:Nat}(I:k<R.length)(J:l<=k):(R.take l++R[k]::((R.drop l).take (k-l)++R.drop (k+1))).Perm R:=by
 have e:R=R.take l++((R.drop l).take (k-l)++(R[k]::R.drop (k+1))):=by rw[<-Ay,Gq _ J,<-BO I,Bb]
 refine List.Perm.trans ?_<|EF e.symm;exact(BD _).mpr Cm.symm
def SF{R:WQ}{k l:Nat}(p:k<R.length)(r:l<=k)(U:Up f R k)(lo:∀i (_:i<l),f (R[i]'(by lia))<=f R[k])(hi:∀i (_:i<k),l<=i->f R[k]<=f (R[i]'(pS))):
 Up f (R.take l++R[k]::((R.drop l).take (k-l)++R.drop (k+1))) (k+1):=by
 apply Up.of;have e:R.take l++R[k]::((R.drop l).take (k-l)++R.drop (k+1))=(R.take l++R[k]::(R.drop l).take (k-l))++R.drop (k+1):=by simp
 rw[e,List.take_left' (by simp;lia)];have I:=U.pair<|Bo p;rw[<-Gq R r] at I;have I:=AU.mp I;have t:∀y∈(R.drop l).take (k-l),f R[k]<=f y:=λy J=>by obtain⟨j,o,rfl⟩:=BH J;rw[AR,BL] at o;rw[BI,Eb];exact hi (l+j) (by lia)<|Bf _ _
 have C:∀x∈R.take l,f x<=f R[k]:=λx g=>by obtain⟨j,o,rfl⟩:=BH g;rw[AR] at o;rw[BI];exact lo j (by lia)
 refine AU.mpr {I.1,Dm.mpr {(t),I.2.1},λx g y J=>?_};rcases Aw.mp J with rfl|J
 .exact C x g
 .exact I.2.2 x g y J
def SG(O:Ord prog w A s κ Ok f){st:SortSt}{P R:WQ}(T:Tl κ Ok st P R){ok:Nat}(hn:n<=R.length)(h1:1<=ok)(ho:ok<=n)(U:Up f R ok){Q:Bool->SortSt->Prop}
 (q:∀R' arr,R'.Perm R->arr.toList=P++R'->Up f R' n->Q true (setArr st arr)):wpS (model prog w) A E s (binarySort' P.length n ok) Q st:=by
 refine Ac (AV (AN (I:=λx c J=>c=(none,())/\∃R' arr,J=setArr st arr/\R'.Perm R/\arr.toList=P++R'/\Up f R' x)
  (Q:=λc J=>c=(none,())/\∃R' arr,J=setArr st arr/\R'.Perm R/\arr.toList=P++R'/\Up f R' n) ?_ ?_ ⟨rfl,R,arrOf st,rfl,Dw _,T.arr,by rw[Dj h1];exact U⟩) ?_)
 .rintro x c J a1 hx ⟨rfl,R',arr,rfl,p,t,o⟩;have T':=T.same p t;have lR:=p.length_eq;have g:x<R'.length:=by lia
  refine Ac (AV (AN (I:=λy c J=>J=setArr st arr/\∃l r,c=(none,l,r)/\l<=r/\r<=x/\r-l+y<=x/\(∀i (_:i<l) (_:i<R'.length),f R'[i]<=f R'[x])/\(∀i (_:i<x),r<=i->f R'[x]<=f (R'[i]'(pS))))
   (Q:=λc J=>J=setArr st arr/\∃l,c=(none,l,l)/\l<=x/\(∀i (_:i<l) (_:i<R'.length),f R'[i]<=f R'[x])/\(∀i (_:i<x),l<=i->f R'[x]<=f (R'[i]'(by lia)))) ?_ ?_ ⟨rfl,0,x,rfl,A5 _,An _,EO _ _,λi h=>by lia,λi h h'=>by omega⟩) ?_)
  .rintro y c J _ hy ⟨rfl,l,r,rfl,g1,g2,g3,C,g5⟩;by_cases c:l>=r
   .rw[Ar c];obtain rfl:l=r:=by lia
    exact Af {(rfl),l,rfl,g2,C,g5}
   .rw[Ap c];refine Ac<|kD O T' (i:=x) (j:=(l+r) / 2) g (by lia) rfl rfl ?_;dsimp only;by_cases e:f R'[x]<f (R'[(l+r) / 2]'(by lia))
    .rw[Az e,Ar rfl];refine Af {rfl,l,(l+r) / 2,rfl,by lia,by lia,by omega,C,λi h h'=>?_};exact BV (BM e)<|o _ _ h' (pS) h
    .rw[Ao e,Ap (by simp)];refine Af {rfl,(l+r) / 2+1,r,rfl,by lia,g2,by omega,λi h h'=>?_,g5};exact BV (o i ((l+r) / 2) (Ip) (by lia) (by lia)) (by omega)
  .rintro c J ⟨rfl,l,r,rfl,g1,g2,g3,C,g5⟩;obtain rfl:l=r:=by lia
   exact{(rfl),l,rfl,g2,C,g5}
  .rintro c J ⟨rfl,l,rfl,g2,C,g5⟩;refine Ac<|wpS_modify ?_;exact Af {rfl,_,_,rfl,(SE g g2).trans p,uM t g g2,SF g g2 o (λi h=>C i h (by lia)) g5}
 .rintro c J ⟨rfl,R',arr,rfl,p,t,o⟩;exact{rfl,R',arr,rfl,p,t,by rw[Dj h1,C5 ho] at o;exact o}
 .rintro c J ⟨rfl,R',arr,rfl,p,t,o⟩;exact Af<|q R' arr p t o
end
section
variable {w:WF}{κ:SortKind}{Ok:Keyed->Prop}{f:Keyed->Int}
def SH{N:Nat}(h:N<128):N<=2*(sortPriv% PySem.Builtin.minRun) N N 0:=by
 show N<=2*minRun' N N 0;cases N with
 |zero=>exact A5 _
 |succ r=>
  rw[minRun'_succ];split
  .lia
  .cases r with|zero=>lia|succ r=>rw[minRun'_succ,Ar (by lia)];lia
def Hf(f:Keyed->Int)(I:Nat)(pn:Array<|Nat×Nat×Nat)(X Y R:WQ):Prop:=
 (pn=#[]/\X=[]/\Y=[])\/(∃w,pn=#[(0,X.length,w)]/\Y=[]/\(I<=X.length\/R=[])/\X.Pairwise λx y=>f x<=f y)\/
  ∃w v,pn=#[(0,X.length,w),(X.length,Y.length,v)]/\0<X.length/\0<Y.length/\R=[]/\(X.Pairwise λx y=>f x<=f y)/\Y.Pairwise λx y=>f x<=f y
theorem JK(O:Ord prog w A s κ Ok f){st:SortSt}{Q:Unit->SortSt->Prop}(a3:(arrOf st).size<128)(hk:kindOf st=κ)(hp:pendingOf st=#[])(hf:failedOf st=none)(ok:∀x∈(arrOf st).toList,Ok x)
 (q:∀g,failedOf g=none->(arrOf g).toList.Perm (arrOf st).toList->((arrOf g).toList.Pairwise λx y=>f x<=f y)->Q () g):wpS (model prog w) A E s sortRuns' Q st:=by
 refine Ac<|wpS_get ?_;dsimp only;have lN:(arrOf st).toList.length=(arrOf st).size:=AW;obtain⟨N,eN⟩:∃N,N=(arrOf st).size:={_,rfl};rw[<-eN] at a3 lN ⊢;obtain⟨Z,eZ⟩:∃Z,Z=(arrOf st).toList:={_,rfl};rw[<-eZ] at lN ok q;have av:=SH a3;generalize (sortPriv% PySem.Builtin.minRun) N N 0=mr at av ⊢;refine Ac (AV (AN (I:=λx c g=>∃X Y R lo,c=(none,lo)/\kindOf g=κ/\failedOf g=none/\(arrOf g).toList=X++Y++R/\(X++Y++R).Perm Z/\lo=(X++Y).length/\Hf f mr (pendingOf g) X Y R/\x<=lo)
  (Q:=λc g=>∃X Y lo,c=(none,lo)/\kindOf g=κ/\failedOf g=none/\(arrOf g).toList=X++Y/\(X++Y).Perm Z/\Hf f mr (pendingOf g) X Y []) ?_ ?_ ⟨[],[],Z,0,rfl,hk,hf,eZ.symm,.refl _,rfl,.inl ⟨hp,rfl,rfl⟩,An _⟩) ?_)
 .rintro x c g _ hx ⟨X,Y,R,lo,rfl,k1,k2,t,r,rfl,k6,k7⟩;have lt:=r.length_eq;rw[Ab,lN] at lt;by_cases c:(X++Y).length>=N
  .rw[Ar c];cases BQ (show R.length=0 by lia);rw[AB] at t r;exact Af {X,Y,_,rfl,k1,k2,t,r,k6}
  rw[Ap c,show N-(X++Y).length=R.length by lia];have T:Tl κ Ok g (X++Y) R:={k1,t,λx hx=>ok x<|r.mem_iff.mp<|Ah _ hx};refine Ac<|SD O T (by lia) λn R1 a4 g1 g2 a1 ac U1=>?_;dsimp only;have l1:=a1.length_eq;have k8:∀{J:SortSt} {R2:WQ} {j:Nat} {pn:Array<|Nat×Nat×Nat},kindOf J=κ->failedOf J=none->(arrOf J).toList=X++Y++R2->pendingOf J=pn.push ((X++Y).length,j,0)->((pendingOf g=#[]/\pn=#[])\/∃v,pn=(pendingOf g).modify ((pendingOf g).size-1) λp=>(p.1,p.2.1,v))->R2.Perm R->1<=j->j<=R.length->(mr<=j\/j=R.length)->Up f R2 j->
   ∃X' Y' R' lo,((none,(X++Y).length+j):Option Unit×Nat)=(none,lo)/\kindOf J=κ/\failedOf J=none/\(arrOf J).toList=X'++Y'++R'/\(X'++Y'++R').Perm Z/\lo=(X'++Y').length/\Hf f mr (pendingOf J) X' Y' R'/\x+1<=lo:=λ{J R2 j pn} h1 h2 h3 h4 hn p2 h5 h6 h7 U=>by
   have l2:=p2.length_eq;have aL:(R2.take j).length=j:=by rw[AR];lia
   have U':=U.pair (by lia);have pz:=((BD _).mpr p2).trans r;rcases k6 with⟨o,rfl,rfl⟩|⟨w,o,rfl,h8,h9⟩|⟨w,v',o,_,_,rfl,_⟩
   .have e2:pn=#[]:=by
     rcases hn with⟨_,h⟩|⟨v,h⟩
     .exact h
     .rw[h,o];rfl
    refine{R2.take j,[],R2.drop j,_,rfl,h1,h2,by rw[h3];simp,by simpa using pz,by simp;lia,.inr (.inl {0,by rw[h4,e2,aL];rfl,rfl,?_,U'}),by lia};rcases h7 with h|h
    .exact .inl (by lia)
    .exact .inr<|Ey (by lia)
   .have e2:∃v,pn=#[(0,X.length,v)]:=by
     rcases hn with⟨h,_⟩|⟨v,h⟩
     .rw[o] at h;cases h
     .exact{v,by rw[h,o];rfl}
    obtain⟨v,e2⟩:=e2;have r0:R≠[]:=λe=>by rw[e] at h6;exact absurd h6 (by simp;lia)
    have h8:=h8.resolve_right r0;rw[AB] at h3 h4 pz lt c ⊢;have en:j=R2.length:=by rcases h7 with h'|h'<;>lia
    rw[A8 (by lia)] at U';exact{X,R2,[],_,rfl,h1,h2,by rw[h3];simp,by simpa using pz,by rw[Ab,en],.inr (.inr {v,0,by rw[h4,e2,en];rfl,by lia,by lia,rfl,h9,U'}),by lia}
   .exact absurd h6 (by simp;lia)
  have sz:(pendingOf g).size<=1:=by
   rcases k6 with⟨o,_⟩|⟨w,o,_⟩|⟨w,v',o,_,_,rfl,_⟩
   .rw[o];exact A5 _
   .rw[o];exact An _
   .exact absurd lt (by simp at c ⊢;lia)
  by_cases cm:n<mr
  case' pos=>
   rw[Ar cm];refine Ac<|wpS_lift<|Bv {rfl,?_};refine Ac<|SG O (T.same a1 ac) (by lia) g1 (by lia) U1 λR2 al ba bb U2=>?_;rw[Ap (by simp)];obtain⟨j,a2⟩:∃j,j=min R.length mr:={_,rfl};rw[<-a2] at U2 ⊢;have p2:=ba.trans a1;have h7:mr<=j\/j=R.length:=by lia
   obtain⟨l,C⟩:∃l,l=setArr (setArr g a4) al:={_,rfl}
  case' neg=>
   rw[Ap cm];obtain⟨j,a2⟩:∃j,j=n:={_,rfl};obtain⟨R2,a5⟩:∃R2,R2=R1:={_,rfl};rw[<-a2,<-a5] at U1;rw[<-a2];have U2:=U1;have p2:R2.Perm R:=by rw[a5];exact a1
   have h7:mr<=j\/j=R.length:=by lia
   obtain⟨l,C⟩:∃l,l=setArr g a4:={_,rfl}
  all_goals
   have n1:1<=j:=by lia
   have n3:j<=R.length:=by lia
   have o:kindOf l=κ:=by rw[C];exact k1
   have e2:failedOf l=none:=by rw[C];exact k2
   have e3:(arrOf l).toList=X++Y++R2:=by rw[C];first|exact bb|(rw[a5];exact ac)
   have e4:pendingOf l=pendingOf g:=by rw[C]
   rw[<-C];refine Ac<|wpS_get ?_;split
   .refine Ac<|AV (AN (I:=λy c J=>c=(none,())/\J=l) (Q:=λc J=>c=(none,())/\J=l) ?_ ?_ {(rfl),rfl}) ?_
    .rintro y c J _ hy ⟨rfl,rfl⟩;refine Ac<|wpS_get ?_;rw[Ap (show ¬(pendingOf J).size > 1 by rw[e4];lia)];exact Af {(rfl),rfl}
    .exactλc J h=>h
    .rintro c J ⟨rfl,rfl⟩;refine Ac<|wpS_modify<|Ac<|wpS_modify<|Af ?_;exact k8 o e2 e3 rfl (.inr {_,by rw[<-e4]}) p2 n1 n3 h7 U2
   .rename_i hb;have hb:(pendingOf l).back?=none:=Option.eq_none_iff_forall_ne_some.mpr λp=>hb p.1 p.2.1 p.2.2;rw[e4,Array.back?_eq_none_iff] at hb;exact Ac<|wpS_modify<|Af<|k8 o e2 e3 rfl (.inl {hb,e4.trans hb}) p2 n1 n3 h7 U2
 .rintro c g ⟨X,Y,R,lo,rfl,k1,k2,t,r,rfl,k6,k7⟩;have lt:=r.length_eq;rw[Ab,lN] at lt;cases BQ (show R.length=0 by lia);rw[AB] at t r;exact{X,Y,_,rfl,k1,k2,t,r,k6}
 .rintro c g ⟨X,Y,lo,rfl,k1,k2,t,r,k6⟩;have lt:=r.length_eq;rw[lN] at lt;refine Ac (AV (AN (I:=λy c J=>c=(none,())/\((y=0/\J=g)\/(failedOf J=none/\(pendingOf J).size<=1/\(arrOf J).toList.Perm Z/\(arrOf J).toList.Pairwise λx y=>f x<=f y)))
   (Q:=λc J=>c=(none,())/\failedOf J=none/\(arrOf J).toList.Perm Z/\(arrOf J).toList.Pairwise λx y=>f x<=f y) ?_ ?_ ⟨rfl,.inl ⟨rfl,rfl⟩⟩) ?_)
  .rintro y c J _ hy ⟨rfl,h⟩;refine Ac<|wpS_get ?_;rcases h with⟨rfl,rfl⟩|⟨h1,h2,h3⟩
   .rcases k6 with⟨o,rfl,rfl⟩|⟨w,o,rfl,_,h9⟩|⟨w,v,o,lX,lY,_,sX,sY⟩
    .rw[Ar (show(pendingOf J).size<=1 by rw[o];exact A5 _)];exact Af {rfl,k2,by rw[t];exact r,by rw[t];exact .nil}
    .rw[Ar (show(pendingOf J).size<=1 by rw[o];exact An _)];exact Af {rfl,k2,by rw[t];exact r,by rw[t,AB];exact h9}
    .rw[Ap (show ¬(pendingOf J).size<=1 by rw[o];exact Nat.not_succ_le_self 1)];have gen:∀b:Bool,(if b=true then(pendingOf J).size-2-1 else(pendingOf J).size-2)=0:=λb=>by cases b<;>rw[o]<;>rfl
     refine Ac ?_;rw[gen];refine Sz O k1 k2 o t (λx hx=>ok x<|r.mem_iff.mp hx) lX lY sX sY λbc b1 b2 b3 b4=>?_;rw[Ap (by simp)];exact Af {rfl,.inr {b1,by rw[b2];exact An _,b3.trans r,b4}}
   .rw[Ar h2];exact Af {(rfl),h1,h3}
  .rintro c J ⟨rfl,h⟩;rcases h with⟨h0,rfl⟩|⟨h1,_,h3⟩
   .have e:X++Y=[]:=BQ (by lia);rw[e] at t r;exact{rfl,k2,by rw[t];exact r,by rw[t];exact .nil}
   .exact{(rfl),h1,h3}
  .rintro c J ⟨rfl,h1,h2,h3⟩;exact Af<|q J h1 h2 h3
end
section
open PySem.W
def JL(h:WG)(B:Int)(x:Keyed):Prop:=∃a o n r p t u,x.1=.ref a/\h.get? a=some o/\o.data=.seq #[.int r t,.int p u] n/\0<=p/\p<B
noncomputable def num(h:WG)(B:Int)(x:Keyed):Int:=match x.1 with
 |.ref a=>match h.get? a with
  |some o=>match o.data with
   |.seq xs _=>match xs.toList with
    |[.int r _,.int p _]=>r*B+p
    |_=>0
   |_=>0
  |none=>0
 |_=>0
def W8{B:Int}{x:Keyed}{a:Addr}{o:Obj}{r p:Int}{t u:Tok}(I:x.1=.ref a)(J:h.get? a=some o)(U:o.data=.seq #[.int r t,.int p u] n):num h B x=r*B+p:=by unfold num;simp[I,J,U]
def uu{w:WF}{B:Int}:Ord prog w A s (tuples' true) (JL s.heap B) (num s.heap B):=by
 constructor;rintro x y ⟨r,t,C,I,J,T,u1,l,g1,d1,b1,c1⟩ ⟨a2,o2,n2,U,g,t2,u2,o,g2,d2,b2,c2⟩ E Q h;rw[W8 l g1 d1,W8 o g2 d2] at h;rw[l,o];refine kat_lt g1 d1 g2 d2 ?_;refine kat_cons<|wpAny_eqBool_int ?_;by_cases c:I=U
 .subst c;rw[beq_self_eq_true];refine kat_yes<|kat_cons<|wpAny_eqBool_int ?_;by_cases p:J=g
  .subst p;rw[beq_self_eq_true];refine kat_yes<|kat_nil ?_;have e:decide (I*B+J<I*B+J)=false:=Ao (by lia);rw[e] at h;exact h
  .rw[EG p];refine kat_no<|kat_one _ _<|PyProof.Rows.lt_int ?_;have e:decide (I*B+J<I*B+g)=decide (J<g):=by
    by_cases z:J<g
    .rw[Az z];exact Az (by lia)
    .rw[Ao z];exact Ao (by lia)
   rw[e] at h;exact h
 .rw[EG c];refine kat_no<|oneLt_int ?_;have e:decide (I*B+J<U*B+g)=decide (I<U):=by
   by_cases z:I<U
   .rw[Az z];have j:(I+1)*B<=U*B:=CH (by assumption) (by lia);rw[Int.add_mul,Int.one_mul] at j;exact Az (by omega)
   .rw[Ao z];have j:(U+1)*B<=I*B:=CH (by lia) (by lia);rw[Int.add_mul,Int.one_mul] at j;exact Ao (by lia)
  rw[e] at h;exact h
section
variable {w:WF}
def pN(h:WG)(B:Int)(v:WC):Prop:=∃a o n r p t u,v=.ref a/\h.get? a=some o/\o.cls=.type "tuple" /\ o.data=.seq #[.int r t,.int p u] n/\0<=p/\p<B
def pN.pair{B:Int}{x:Keyed}(k:pN h B x.1):JL h B x:=by obtain⟨a,o,n,r,p,t,u,I,J,_,U,g,j⟩:=k;exact{(a),o,n,r,p,t,u,I,J,U,g,j}
theorem WY{h:WG}{B:Int}:∀{ks:Wr},(∀v∈ks,pN h B v)->∃fs,KatTups h ks fs/\fs.length=ks.length/\∀v∈fs,∃r t,v=Value.int r t
 |[],_=>{[],trivial,rfl,λv I=>by simp at I}
 |k::ks,J=>by
  obtain⟨fs,h1,h2,h3⟩:=WY (ks:=ks) λv I=>J v<|Al _ I;obtain⟨a,o,n,r,p,t,u,rfl,U,g,j,_,_⟩:=J k<|As ..;refine{.int r t::fs,KatTups.cons U g j rfl h1,by simp[h2],λv I=>?_};rcases Aw.mp I with rfl|I
  .exact{(r),t,rfl}
  .exact h3 v I
def JM{B:Int}{ks:Wr}{Q:SortKind->WD->Prop}(I:∀v∈ks,pN s.heap B v)(h0:0<ks.length)(q:Q (tuples' true) s):wpAny (model prog w) A (keyKind' ks.toArray) Q E s:=by
 obtain⟨fs,h1,h2,h3⟩:=WY I;refine kat_kind (T:=.type "int") h1 (by lia) (λv J=>?_) (by decide) ?_
 .obtain⟨r,t,rfl⟩:=h3 v J;exact .now
 .exact q
theorem wE{R:α->α->Prop}:∀{l:List α},l.length<2->l.Pairwise R
 |[],_=>List.Pairwise.nil
 |[_],_=>List.pairwise_singleton _ _
 |_::_::_,h=>absurd h (by simp)
def SI{a kS:Addr}{ks:Wr}{e o:Nat}{B:Int}{P:PySem.Fin->WD->Prop}(p:s.heap.get? kS=some (seqObj "list" ks.toArray e))(ha:s.heap.get? a=some (seqObj "list" #[] o))(r:kS≠a)(hl:ks.length=vs.length)(U:vs.length<=127)
 (hk:∀v∈ks,pN s.heap B v)
 (h:∀h' tk (xs:WQ) c,(∀b,b≠kS->b≠a->h'.get? b=s.heap.get? b)->h'.get? a=some (seqObj "list" (List.toArray (xs.map (·.2))) c)->xs.Perm (ks.zip vs)->(xs.Pairwise λx y=>num s.heap B x<=num s.heap B y)->P (.done<|.ret .none) {s with heap:=h',toks:=tk}):
 wpAny (model prog w) A (ksk_end a false vs.toArray o (.ref kS) ks.toArray) P E s:=by
 have hz:vs.length<=sizeLine:=AK U (by decide);have j:(ks.toArray.zip vs.toArray).toList=ks.zip vs:=by simp
 have tail:∀st:SortSt,failedOf st=none->(arrOf st).toList.Perm (ks.zip vs)->((arrOf st).toList.Pairwise λx y=>num s.heap B x<=num s.heap B y)->wpAny (model prog w) A (ksk_tail a false o (.ref kS) st) P E s:=by
  intro st hf hp hs;have s1:=ya s.heap kS<|Obj.mapSeq λ_=>(#[]:Ws);have J:=(s1.2 a r.symm).trans ha;have s2:=ya (s.heap.update kS<|Obj.mapSeq λ_=>(#[]:Ws)) a (Obj.mapSeq λ_=>(arrOf st).map (·.2));have len:((arrOf st).map (·.2)).size<=sizeLine:=by have:=hp.length_eq;rw[DK,AW] at this;rw[Array.size_map];lia
  try dsimp only
  refine Aa (listUpdate_at p rfl ?_ (by rw[Ax];lia)<|A5 _);refine Aa<|wpAny_letGo ?_;refine Aa<|seqEpoch_at J rfl ?_;refine Aa (listUpdate_at J rfl ?_ (A5 _) (by simp only[Cn,if_false];exact Dt len));rw[hf];simp only[bne_self_eq_false,Cn,if_false];obtain⟨t,g⟩:∃t,((s.heap.update kS<|Obj.mapSeq λ_=>(#[]:Ws)).update a (Obj.mapSeq λ_=>(arrOf st).map (·.2))).get? a=some (seqObj "list" ((arrOf st).map (·.2)) t):={_,get?_update_seq J λ_=>(arrOf st).map (·.2)};refine Ak<|h _ _ (arrOf st).toList t (λb C T=>?_) ?_ hp hs
  .exact(s2.2 b T).trans (s1.2 b C)
  .have em:(arrOf st).map (·.2)=List.toArray ((arrOf st).toList.map (·.2)):=by apply Array.toList_inj.mp;rw[Array.toList_map]
   rw[em] at g ⊢;exact g
 unfold ksk_end;simp only[Cn,if_false];by_cases h2:vs.toArray.size<2
 .rw[Ar h2,Ar h2];refine Aa<|Ak ?_;rw[StateT.run_pure];refine Aa<|Ak ?_;refine tail _ rfl (by rw[j]) ?_;rw[j];rw[Ax] at h2;have:(ks.zip vs).length<2:=by rw[DK];lia
  exact wE this
 .rw[Ap h2,Ap h2];rw[Ax] at h2;refine Aa<|JM hk (by omega) ?_;refine Aa (AX (JK (E:=E) (uu (B:=B)) (st:=SortSt.mk' (tuples' true) (ks.toArray.zip vs.toArray) #[] 7 none)
   (Q:=λ_ I=>failedOf I=none/\(arrOf I).toList.Perm (ks.zip vs)/\((arrOf I).toList.Pairwise λx y=>num s.heap B x<=num s.heap B y)) (by show(ks.toArray.zip vs.toArray).size<128;simp;lia) rfl rfl rfl (λx l=>?_) λI b1 b2 b3=>{b1,?_,b3}) ?_ λ_ _ e=>e)
  .have l:=l;rw[j] at l;exact pN.pair<|hk _ (DH (a:=x.1) (b:=x.2) l).1
  .have b2:=b2;rw[j] at b2;exact b2
  .rintro⟨⟨⟩,I⟩ s' ⟨rfl,b1,b2,b3⟩;exact tail I b1 b2 b3
end
def Xx(f:α->β):∀{l m:List β},l.Perm m->∀{T:List α},T.map f=m->∃U:List α,U.Perm T/\U.map f=l:=by
 intro l m p
 induction p with
 |nil=>intro T e;exact{T,Dw _,e}
 |cons x _ o=>
  intro T e;cases T with
  |nil=>cases e
  |cons t r=>
   rw[AQ] at e;obtain⟨I,J⟩:=EN e;obtain⟨U,C,e'⟩:=o J;exact{t::U,C.cons t,by rw[AQ,e',I]}
 |swap x y l=>
  intro T e
  match T,e with
  |t::u::r,e=>
   rw[AQ,AQ] at e;obtain⟨I,J⟩:=EN e;obtain⟨e3,e4⟩:=EN J;exact{u::t::r,List.Perm.swap t u r,by rw[AQ,AQ,I,e3,e4]}
 |trans _ _ g j=>
  intro T e;obtain⟨T1,p1,I⟩:=j e;obtain⟨T2,p2,J⟩:=g I;exact{T2,p2.trans p1,J}
section
variable {w:WF}
def HT{x:Keyed}(h:x∈vs.zip vs):x.1∈vs/\x.1=x.2:=by
 induction vs with
 |nil=>simp at h
 |cons v r I=>
  rw[DX] at h;rcases Aw.mp h with rfl|h
  .exact{As ..,rfl}
  .exact{Al _ (I h).1,(I h).2}
def Hg(prog:WE)(w:WF)(s:WD)(keep:WG->Prop)(κ:SortKind)(vs:Wr)(nm:Keyed->Int):Prop:=∀(A:Around) (E:Wm) (g:WG),keep g->
 Ord prog w A {s with heap:=g} κ (λx=>x∈vs.zip vs) nm/\(¬vs.length<2->∀Q:SortKind->WD->Prop,Q κ {s with heap:=g}->wpAny (model prog w) A (keyKind' vs.toArray) Q E {s with heap:=g})
def vY{a:Addr}{κ:SortKind}{nm:Keyed->Int}{P:PySem.Fin->WD->Prop}(T:s.heap.get? a=some (seqObj "list" vs.toArray n))(hz:vs.length<=127)(ok:Hg prog w s (λg=>∀b o,b≠a->s.heap.get? b=some o->g.get? b=some o) κ vs nm)
 (h:∀h' tk (xs:WQ) c,(∀b o,b≠a->s.heap.get? b=some o->h'.get? b=some o)->h'.get? a=some (seqObj "list" (List.toArray (xs.map (·.2))) c)->xs.Perm (vs.zip vs)->(xs.Pairwise λx y=>nm x<=nm y)->P (.done<|.ret .none) {s with heap:=h',toks:=tk}):
 wpAny (model prog w) A (Builtin.«list.sort» ⟨[.ref a],[]⟩) P E s:=by
 have big:(100000:Nat)+1<=sizeLine:=by rw[sizeLine_eq];exact DJ _ _
 have r:(vs.toArray.zip vs.toArray).toList=vs.zip vs:=by simp
 have s1:=ya s.heap a<|Obj.mapSeq λ_=>(#[]:Ws);obtain⟨e1,l⟩:∃e1,(s.heap.update a<|Obj.mapSeq λ_=>(#[]:Ws)).get? a=some (seqObj "list" #[] e1):={_,get?_update_seq T λ_=>#[]};obtain⟨I,U⟩:∃g,g=((s.heap.update a<|Obj.mapSeq λ_=>(#[]:Ws)).push<|seqObj "tuple" vs.toArray 0).push (seqObj "list" #[] 0):={_,rfl};have k3:∀b o,b≠a->s.heap.get? b=some o->I.get? b=some o:=λb o t e=>by rw[U];exact sy _<|sy _<|(s1.2 b t).trans e
 have j:I.get? a=some (seqObj "list" #[] e1):=by rw[U];exact sy _<|sy _ l
 have tail:∀st:SortSt,(arrOf st).toList.Perm (vs.zip vs)->((arrOf st).toList.Pairwise λx y=>nm x<=nm y)->
  ∀tk,P (.done<|.ret .none) {s with heap:=I.update a (Obj.mapSeq λ_=>(arrOf st).map (·.2)),toks:=tk}:=by
  intro st hp hs tk;have s2:=ya I a (Obj.mapSeq λ_=>(arrOf st).map (·.2));obtain⟨c2,p⟩:∃c2,(I.update a (Obj.mapSeq λ_=>(arrOf st).map (·.2))).get? a=some (seqObj "list" ((arrOf st).map (·.2)) c2):={_,get?_update_seq j λ_=>(arrOf st).map (·.2)};have em:(arrOf st).map (·.2)=List.toArray ((arrOf st).toList.map (·.2)):=by apply Array.toList_inj.mp;rw[Array.toList_map]
  refine h _ tk (arrOf st).toList c2 (λb o t e=>(s2.2 b t).trans<|k3 b o t e) ?_ hp hs;rw[em] at p ⊢;exact p
 have len:∀st:SortSt,(arrOf st).toList.Perm (vs.zip vs)->((arrOf st).map (·.2)).size<=sizeLine+1:=λst hp=>by have:=hp.length_eq;rw[DK,AW] at this;rw[Array.size_map];lia
 rw[list_sort_plain];refine Aa<|listItems_at T rfl ?_;refine Aa (listUpdate_at T rfl ?_ (by rw[Ax];exact fu)<|A5 _);refine Aa<|seqEpoch_at l rfl ?_;refine Aa<|wpAny_newTuple ?_ (by lia);refine Aa<|wpAny_newList ?_<|A5 _;refine Bc ?_;rw[<-U];dsimp only;by_cases h2:vs.toArray.size<2
 .rw[Ar h2,Ar h2];refine Aa<|Ak ?_;rw[StateT.run_pure];refine Aa<|Ak ?_;refine Aa<|seqEpoch_at j rfl ?_;have pz:(arrOf<|SortSt.mk' κ (vs.toArray.zip vs.toArray) #[] 7 none).toList.Perm (vs.zip vs):=by rw[r]
  refine Aa<|listUpdate_at j rfl ?_ (A5 _)<|len _ pz;simp only[bne_self_eq_false,Cn,if_false];refine Ak<|tail (SortSt.mk' κ (vs.toArray.zip vs.toArray) #[] 7 none) pz ?_ _;rw[r];rw[Ax] at h2;have:(vs.zip vs).length<2:=by rw[DK];lia
  exact wE this
 .rw[Ap h2,Ap h2];rw[Ax] at h2;refine Aa<|(ok _ _ I k3).2 h2 _ ?_;refine Aa (AX (JK (E:=E) (ok _ E I k3).1 (st:=SortSt.mk' κ (vs.toArray.zip vs.toArray) #[] 7 none)
   (Q:=λ_ J=>failedOf J=none/\(arrOf J).toList.Perm (vs.zip vs)/\((arrOf J).toList.Pairwise λx y=>nm x<=nm y)) (by show(vs.toArray.zip vs.toArray).size<128;simp;lia) rfl rfl rfl (λx C=>?_) λJ b1 b2 b3=>{b1,?_,b3}) ?_ λ_ _ e=>e)
  .have C:=C;rw[r] at C;exact C
  .have b2:=b2;rw[r] at b2;exact b2
  .rintro⟨⟨⟩,J⟩ s' ⟨rfl,b1,b2,b3⟩;refine Aa<|seqEpoch_at j rfl ?_;refine Aa<|listUpdate_at j rfl ?_ (A5 _)<|len _ b2;rw[b1];simp only[bne_self_eq_false,Cn,if_false];exact Ak<|tail J b2 b3 _
def qI{κ:SortKind}{nm:Keyed->Int}(r:s.heap.IsList l vs.toArray)(hz:vs.length<=127)(ok:Hg prog w s (λg=>∀b o,s.heap.get? b=some o->g.get? b=some o) κ vs nm)
 (h:∀h' tk (xs:WQ) D c,↥s<=D->(∀b o,s.heap.get? b=some o->h'.get? b=some o)->h'.get? D=some (seqObj "list" (List.toArray (xs.map (·.2))) c)->xs.Perm (vs.zip vs)->(xs.Pairwise λx y=>nm x<=nm y)->Q (.ref D) {s with heap:=h',toks:=tk}):
 wpAny (model prog w) A (call (.builtin "sorted") [.ref l]) Q E s:=by
 have big:(100000:Nat)+1<=sizeLine:=by rw[sizeLine_eq];lia
 refine Calls.call_function_entry kind_sorted plain_sorted entry_sorted (args_sorted1 _) ?_;refine Aa (m:=checkCount "sorted" 1 1 _)<|Ak ?_;refine Aa<|collect_list r ?_ (by lia);refine Aa<|wpAny_newList ?_ (by lia);obtain⟨g,j⟩:∃g,g=(s.heap.push<|seqObj "list" #[] 0).update ↥s (Obj.mapSeq (· ++ vs.toArray)):={_,rfl};have p:g.objs.size=↥s+1:=by rw[j,Heap.size_update,size_push']
 have t:∀b o,s.heap.get? b=some o->g.get? b=some o:=λb o q=>by have I:=u3 q;rw[j,Heap.get?_update_ne _ _ _ _<|A3 I];exact sy _ q
 rw[<-j];have U:(g.push<|seqObj "list" vs.toArray 0).get? g.objs.size=some (seqObj "list" vs.toArray 0):=vb _ rfl;have keep:∀J:WG,(∀b o,b≠g.objs.size->(g.push<|seqObj "list" vs.toArray 0).get? b=some o->J.get? b=some o)->∀b o,s.heap.get? b=some o->J.get? b=some o:=λJ k b o q=>k b o (λz=>by have I:=u3 q;rw[z,p] at I;exact Nat.not_succ_lt_self I)<|sy _<|t b o q
 refine Aa<|Bc<|wpAny_call_entry slot_list_sort {_,U,rfl} entry_list_sort ?body<|args_list_sort _
 case body=>
  refine vY (s:={s with heap:=g.push (seqObj "list" vs.toArray 0)}) U hz (λA E J k=>ok A E J<|keep J k) λh' tk xs c C T pm pw=>?_;exact{_,rfl,Ak {_,rfl,h h' tk xs g.objs.size c (by rw[p];exact Cy _) (keep h' C) T pm pw}}
def Yg{B:Int}(hl:s.heap.IsList l vs.toArray)(hz:vs.length<=127)(C:∀v∈vs,pN s.heap B v)
 (h:∀h' tk (xs:WQ) D c,↥s<=D->(∀b o,s.heap.get? b=some o->h'.get? b=some o)->h'.get? D=some (seqObj "list" (List.toArray (xs.map (·.2))) c)->xs.Perm (vs.zip vs)->(xs.Pairwise λx y=>num s.heap B x<=num s.heap B y)->Q (.ref D) {s with heap:=h',toks:=tk}):
 wpAny (model prog w) A (call (.builtin "sorted") [.ref l]) Q E s:=by
 refine qI (κ:=tuples' true) hl hz (λA E g k=>?_) h;have j:∀v∈vs,pN g B v:=λv hv=>by obtain⟨a,o,m,r,p,t,u,I,J,r'⟩:=C v hv;exact{a,o,m,r,p,t,u,I,k _ _ J,r'}
 have nk:∀x∈vs.zip vs,num g B x=num s.heap B x:=λx U=>by obtain⟨a,o,m,r,p,t,u,I,J,e3,T,_⟩:=C _ (HT U).1;rw[W8 I J T,W8 I (k _ _ J) T]
 refine{{λx y U hy {E Q} q=>?_},λh2 Q q=>JM (s:={s with heap:=g}) j (by lia) q};rw[<-nk x U,<-nk y hy] at q;exact(uu (s:={s with heap:=g})).lt x y (pN.pair<|j _ (HT U).1) (pN.pair<|j _ (HT hy).1) q
end
end
def gQ(f:α->β){l m:List β}(p:l.Perm m){T:List α}(e:T.map f=m):∃I:List α,I.Perm T/\I.map f=l:=Xx f p e
theorem iC{α β γ:Type}{R:β->γ->Prop}{g:α->β}{h:α->γ}:∀{T:List α},(∀t∈T,R (g t)<|h t)->Paired R (T.map g) (T.map h)
 |[],_=>.nil
 |t::_,k=>.cons (k t<|As ..)<|iC λu I=>k u<|Al _ I
def s9{R:α->β->Prop}{S:α->γ->Prop}:∀{xs:List α} {ys:List β} {zs:List γ},Paired R xs ys->Paired S xs zs->∃T:List (α×β×γ),T.map (·.1)=xs/\T.map (λt=>t.2.1)=ys/\T.map (λt=>t.2.2)=zs/\∀t∈T,R t.1 t.2.1/\S t.1 t.2.2
 := by
 intro xs ys zs p q
 induction p generalizing zs with
 |nil=>cases q;exact{[],rfl,rfl,rfl,λt I=>by cases I}
 |cons r p j=>
  cases q with
  |cons q l=>
   rename_i x y J U z g;obtain⟨T,o,C,e3,k⟩:=j l;refine{(x,y,z)::T,by rw[AQ,o],by rw[AQ,C],by rw[AQ,e3],λt I=>?_};rcases Aw.mp I with rfl|I
   .exact{(r),q}
   .exact k t I
theorem fJ{α β:Type}{f:α->β}:∀{l:List α},(∀x∈l,∀y∈l,f x=f y->x=y)->l.Nodup->(l.map f).Nodup
 |[],_,_=>BU
 |a::r,h,n=>by obtain⟨J,U⟩:=AG.mp n;rw[AQ];refine AG.mpr {λz=>?_,fJ (λx g y I=>h x (Al _ g) y<|Al _ I) U};obtain⟨y,I,e⟩:=Ba.mp z;have:=h y (Al _ I) a (As ..) e;exact J<|this▸I
def Hh(p q:Int×Int):Prop:=p.1<q.1\/(p.1=q.1/\p.2<=q.2)
abbrev Gs(K:Ag)(H:Hp)(v:V)(p:Int×Int):Prop:=∃a,v=.ref a/\fB K H a [.int p.1,.int p.2]
def SJ{B:Int}{p q:Int×Int}(hp:0<=p.2/\p.2<B)(J:0<=q.2/\q.2<B)(h:p.1*B+p.2<=q.1*B+q.2):Hh p q:=by
 by_cases c:p.1<q.1
 .exact .inl c
 .right;by_cases d:q.1<p.1
  .have I:(q.1+1)*B<=p.1*B:=CH (by assumption) (by lia);rw[Int.add_mul,Int.one_mul] at I;omega
  .have e:p.1=q.1:=by lia
   rw[e] at h;exact{e,by lia}
def SK(X:Cx):WI->Hp->VK->Prop:=λxs H Q=>∃l ys ps,xs=[.ref l]/\ag X.K H l ys/\Paired (Gs X.K H) ys ps/\(∀p∈ps,0<=p.2/\p.2<1000000)/\ps.Nodup/\ys.length<=127/\
 ∀D zs qs,H D=none->Paired (Gs X.K H) zs qs->qs.Perm ps->qs.Pairwise Hh->Q (.ref D) (upd H D<|.lst zs)
def wN:je X (.builtin "sorted") (SK X):=by
 rintro a4 s σ H xs us Q I r⟨l,ys,ps,rfl,hl,pr,hb,WU,C,q⟩;obtain⟨u,rfl,ru⟩:=r.one;cases (show u=Value.ref l from ru);obtain⟨a1,rv,pl,hz⟩:=I.list hl;have l1:=rv.length;obtain⟨T,e1,e2,e3,kT⟩:=s9 rv pr;have U:∀t∈T,(∃a o n g j,t.2.1=Value.ref a/\s.heap.get? a=some o/\o.cls=.type "tuple" /\ o.data=.seq #[.int t.2.2.1 g,.int t.2.2.2 j] n)/\0<=t.2.2.2/\t.2.2.2<1000000:=λt J=>by obtain⟨r1,a,ea,hs⟩:=kT t J;obtain⟨a5,a2,⟨o,g1,g2,n,g3⟩,_⟩:=I.tuple hs;obtain⟨w1,w2,rfl,x1,x2⟩:=a2.two;obtain⟨g,rfl⟩:=(show ∃g,w1=Value.int t.2.2.1 g from x1);obtain⟨j,rfl⟩:=(show ∃j,w2=Value.int t.2.2.2 j from x2);rw[ea] at r1;refine{{(a),o,n,g,j,r1,g1,g2,g3},?_};exact hb _ (by rw[<-e3];exact De (f:=λt:V×WC×(Int×Int)=>t.2.2) J)
 have nT:∀t∈T,num s.heap 1000000 (t.2.1,t.2.1)=t.2.2.1*1000000+t.2.2.2:=λt J=>by obtain⟨⟨a,o,n,g,j,g0,g1,g2,g3⟩,_⟩:=U t J;exact W8 g0 g1 g3
 have ez:a1.zip a1=T.map λt=>(t.2.1,t.2.1):=by rw[<-e2,List.zip_map']
 refine ji I.tk (Yg (B:=1000000) pl.isList (by rw[<-l1];exact C) (λv hv=>?_) λh' tk ks D c hD hk hg pm pw J=>?_)
 .rw[<-e2] at hv;obtain⟨t,J,rfl⟩:=Ba.mp hv;obtain⟨⟨a,o,n,g,j,g0,g1,g2,g3⟩,b1,b2⟩:=U t J;exact{a,o,n,_,_,g,j,g0,g1,g2,g3,b1,b2}
 .rw[ez] at pm;obtain⟨T',pT,eT⟩:=gQ _ pm rfl;subst eT;have p:∀t,t∈T'->t∈T:=λt=>pT.mem_iff.mp;have a3:=BR.mp pw;refine{.ref D,_,I.laid (t':=tk) (o:=.lst (T'.map (·.1))) hk hD ?_,rfl,q D (T'.map (·.1)) (T'.map λt=>t.2.2) (I.GT.fresh hD) (iC λt J=>(kT t<|p t J).2) ?_ ?_}
  .refine{?_,T'.map λt=>t.2.1,c,iC λt J=>(kT t<|p t J).1,?_}
   .rw[Ae,pT.length_eq];have:T.length=ys.length:=by rw[<-e1,Ae]
    rw[this];exact hz
   .rw[hg,BW];rfl
  .rw[<-e3];exact pT.map _
  .refine BR.mpr<|El (λ{x y} hx hy z=>?_) a3;rw[nT x<|p x hx,nT y<|p y hy] at z;exact SJ (U x<|p x hx).2 (U y<|p y hy).2 z
def FW(p:Int×Int):Y:=.tup [.int p.1,.int p.2]
theorem u8{G:G3}{H:Hp}:∀{ps:List<|Int×Int} {xs:WI},xo G H (ps.map FW) xs->Paired (Gs G.K H) xs ps
 |[],_,h=>by cases (show _=[] from h);exact .nil
 |p::r,_,⟨x,U,e,⟨a,zs,ea,g,j,l,o,I,t,C,T,J,e3⟩,s⟩=>by subst e ea o T e3;cases (show j=V.int p.1 from I);cases (show t=V.int p.2 from J);exact .cons {(a),rfl,g}<|u8 s
def SM :∀{ps:List<|Int×Int} {xs:WI},Paired (Gs G.K H) xs ps->xo G H (ps.map FW) xs:=by
 intro ps xs h
 induction h with
 |nil=>exact rfl
 |cons z t I=>
  obtain⟨a,ea,J⟩:=z;subst ea;exact{_,_,rfl,{a,_,rfl,J,_,_,rfl,rfl,_,_,rfl,rfl,rfl},I}
def hZ(xs:Z0)(L:qj)(Q:YK):Prop:=match xs with
 |[.ref a]=>fA L a λys=>∃ps:List (Int×Int),ys=ps.map FW/\(∀p∈ps,0<=p.2/\p.2<1000000)/\ps.Nodup/\ps.length<=127/\∀(D:Addr) (qs:List<|Int×Int),L D=none->qs.Perm ps->qs.Pairwise Hh->Q (.ref D) (qd L D<|.lst<|qs.map FW)
 |_=>False
def aX:bootBuiltins "sorted"=some (.builtin "sorted"):=by decide +kernel
theorem iW :je X (.builtin "sorted") (b_ X.g3 hZ):=E9 wN λxs H Q ys L Q3 g J z k=>by
 unfold hZ at z;split at z
 .rename_i a;obtain⟨j,e,l,rfl,o,WU,I,z⟩:=vo z;obtain⟨p,t,r⟩:=J a _ e;obtain⟨u,rfl,C⟩:=g.inv1;cases (show u=V.ref a from C);have T:=u8 r;exact{a,p,l,rfl,FA t,T,o,WU,by rw[<-r.length,Ae];exact I,λD j qs U pz pm pw=>k _ _ _ _ (EU U) (J.Xa U<|SM pz) (by rfl)<|z D qs (J.none U) pm pw}
 .exact z.elim
def dH:Wd->Y
 |.leaf t n=>.tup [.str<|kL t,.str n]
 |.node e l r=>.tup [.str<|kN e,dH l,dH r]
def ql{Q:α->qj->Prop}{o:Option α}{v:α}(e:o=some v)(h:Q v L):zX L Q o:=by rw[e];exact h
def SN(t:Bool):List.lookup (kL t) [(("plain" : Str),("turned" : Str)),("turned","plain"),("both","either"),("either","both")]=some (kL<|!t):=by cases t<;>decide +kernel
def acl(t:Bool):List.lookup (kN t) [(("plain" : Str),("turned" : Str)),("turned","plain"),("both","either"),("either","both")]=some (kN<|!t):=by cases t<;>decide +kernel
def jo.str(x:Str):jo L n (.str x) (.s<|.str x):=by cases n with|zero=>exact{(rfl),rfl}|succ n=>exact .inl {(rfl),rfl}
abbrev FC:=@jo.str
def jo.int(x:Int):jo L n (.int x) (.s<|.int x):=by cases n with|zero=>exact{(rfl),rfl}|succ n=>exact .inl {(rfl),rfl}
abbrev E4:=@jo.int
theorem iJ{L:qj}:∀{wd:Wd} {n:Nat},wd.depth<=n->jo L n (dH wd) (iG wd)
 |.leaf t nm,n+1,_=>.inr<|.inl {_,_,rfl,rfl,.cons (FC _)<|.cons (FC _) .nil}
 |.node e l r,n+1,h=>by have I:max l.depth r.depth+1<=n+1:=h;exact .inr<|.inl {_,_,rfl,rfl,.cons (FC _)<|.cons (iJ (by lia))<|.cons (iJ (by lia)) .nil}
def bG{a:Addr}(e:L a=⇑ys)(p:Paired (jo L n) ys ds):jo L (n+1) (.ref a) (.lst ds):=.inr<|.inr {ys,ds,rfl,rfl,aY e,p}
def dS(p:Paired (jo L n) ys ds):jo L (n+1) (.tup ys) (.tup ds):=.inr<|.inl {(ys),ds,rfl,rfl,p}
def SO{neg:Bool}{u v:Wd}{Q:YK}(J:u.depth<=128)(q:Q (.bl<|nb neg<|Da.eq (iG u)<|iG v) L):c_ neg (dH u) (dH v) L Q:=by
 have I:∀w:Wd,A' (dH w)=true:=λw=>by cases w<;>rfl
 have:A' (dH u)=true/\A' (dH v)=true/\∃n m d e,n<=128/\jo L n (dH u) d/\jo L m (dH v) e/\Q (.bl<|nb neg<|Da.eq d e) L:=
  ⟨I u,I v,u.depth,v.depth,iG u,iG v,J,iJ<|An _,iJ<|An _,q⟩
 cases u<;>cases v<;>exact this
def wq{neg:Bool}{a b:Addr}{zs:Z0}{es:List Da}{Q:YK}(I:n<128)(ea:L a=⇑ys)(eb:L b=⇑zs)(pa:Paired (jo L n) ys ds)(pb:Paired (jo L m) zs es)(q:Q (.bl<|nb neg<|Da.eqs ds es) L):
 c_ neg (.ref a) (.ref b) L Q:={rfl,rfl,n+1,m+1,_,_,I,bG ea pa,bG eb pb,q}
abbrev ax(i:Int):xu:=yC<|.int i
abbrev uC(x:Str):xu:=yC<|.str x
abbrev ah(i:Nat)(n:Int):xu:=ky m5 (qh i)<|yC<|.int n
abbrev tR(i:Nat):xu:=oN xJ<|qp (qh i) jc
abbrev tf(a b:xu):hV:=yB<|ky (c_ false) a b
abbrev u_(a b:xu):hV:=yB<|ky (c_ true) a b
abbrev p_(a b:xu):xu:=bC<|qp a<|qp b jc
abbrev eB(a:xu):eX:=qp a jc
abbrev eY(a b:xu):eX:=qp a<|qp b jc
def pM(K:Ag):ai:=(Ji K "heads" (qh 0)<|nN<|qh 1)
def lC(K:Ag):ai:=(zv (jw (qh 1)<|qk 2)
 (zv (yE (u_ (ky m5 (xE K "heads"<|qh 0)<|qh 2)<|qh 2) (zv (Ha (xE K "heads"<|qh 0) (qh 2)<|ky m5 (xE K "heads"<|qh 0)<|ky m5 (xE K "heads"<|qh 0)<|qh 2)
 (jw (ky m5 (xE K "heads"<|qh 0)<|qh 2)<|qk 2)))
 (bP<|qh 2)))
def nW(K:Ag)(I:Addr)(J:km):ai:=(zv (jw (oI I "head_of" J (qh 0)<|eB<|qh 1)<|qk 3)
 (zv (jw (oI I "head_of" J (qh 0)<|eB<|qh 2)<|qk 4)
 (zv (Ha (xE K "heads"<|qh 0) (qh 3)<|qh 4)
 (bP<|ky (c_ true) (qh 3)<|qh 4))))
structure YO(K:Ag)(C:Addr):Prop where
 cl:Xe K C
 na:Pi K C "heads"
def nY(hs:Wt):Z0:=hs.map λn:Nat=>.int (n:Int)
def sv(hp:Addr):List (Str×Y):=[("heads",.ref hp)]
def cz :(sv hp).lookup ("heads" : Str)=some (.ref hp):=by unfold sv;rw[Bk,show((("heads" : Str)==("heads" : Str)))=true by decide +kernel]
def gK :(sv hp).lookup ("head_of" : Str)=none:=by unfold sv;rw[Bk,show((("head_of" : Str)==("heads" : Str)))=false by decide +kernel];rfl
def wW :(sv hp).lookup ("unite" : Str)=none:=by unfold sv;rw[Bk,show((("unite" : Str)==("heads" : Str)))=false by decide +kernel];rfl
def SQ(n:Nat):ak 0 n=nY (List.range n):=by unfold ak nY;exact List.map_congr_left λk _=>by rw[EC]
def jx(hs:Wt):(nY hs).length=hs.length:=by unfold nY;rw[Ae]
def rF{h:Nat}(e:hs[i]?=some h):iV (nY hs) (i:Int)=some (.int (h:Int)):=w5 (by unfold nY;rw[Aq,e];rfl)
def JN(hs:Wt)(i g:Nat):(nY hs).set i (.int (g:Int))=nY (hs.set i g):=by unfold nY;rw[List.map_set]
def zL(h:j<n):f_ n (j:Int)=some j:=by unfold f_;rw[Ar<|A1 _,Ar (by omega)];rfl
def ke{a p:Addr}{o:LO}(h:qd L a o p=none):L p=none:=by
 by_cases c:p=a
 .subst c;rw[q9] at h;cases h
 .rw[qb c] at h;exact h
def qN{a:Addr}{o:LO}(h:L a=some o):qd L a o=L:=by
 funext b;unfold qd;split
 .rename_i e;rw[e,h]
 .rfl
def nS(rk:WA)(hs:Wt):Prop:=∀i h,hs[i]?=some h->h<hs.length/\(h≠i->rk h<rk i)
inductive bD(hs:Wt):Nat->Nat->Prop
 |root {r:Nat}:hs[r]?=some r->bD hs r r
 |step {i h r:Nat}:hs[i]?=some h->h≠i->bD hs h r->bD hs i r
def bD.top{r:Nat}(h:bD hs i r):hs[r]?=some r:=by induction h with|root e=>exact e|step _ _ _ I=>exact I
def bD.uniq{r s:Nat}(h:bD hs i r)(k:bD hs i s):r=s:=by
 induction h generalizing s with
 |root e=>
  cases k with|root _=>rfl|step I ne _=>rw[e] at I;exact absurd (AJ I).symm ne
 |step e ne t J=>
  cases k with|root I=>rw[e] at I;exact absurd (AJ I) ne|step I _ U=>rw[e] at I;cases I;exact J U
def bD.Yt{r:Nat}(h:bD hs i r)(e:hs[i]?=some i):r=i:=h.uniq<|.root e
theorem nS.rep{rk:WA}{hs:Wt}(I:nS rk hs):∀(n i:Nat),rk i<n->i<hs.length->∃r,bD hs i r
 |0,_,h,_=>absurd h<|B7 _
 |n+1,i,h,J=>by
  have e:=Ai J;by_cases c:hs[i]=i
  .exact{i,.root (by rw[e,c])}
  .obtain⟨h1,h2⟩:=I i _ e;obtain⟨r,t⟩:=nS.rep I n hs[i] (by have:=h2 c;omega) h1;exact{r,.step e c t}
def nS.X4(I:nS rk hs)(hi:i<hs.length):∃r,bD hs i r:=I.rep (rk i+1) i (Bi _) hi
def zd{l:List α}{x:α}(h:l[i]?=some x):i<l.length:=(AM.mp h).1
def wb{l:List α}{x:α}(h:i<l.length):(l.set i x)[i]?=some x:=by rw[List.getElem?_set];simp[h]
def kg{l:List α}{x:α}(h:i≠j):(l.set i x)[j]?=l[j]?:=by rw[List.getElem?_set,Ap h]
def nS.Yu(I:nS rk hs){h g:Nat}(ei:hs[i]?=some h)(ne:h≠i)(J:hs[h]?=some g):nS rk (hs.set i g)/\rk g<rk i:=by
 have U:rk g<rk i:=by
  have h1:=(I i h ei).2 ne;by_cases c:g=h
  .rw[c];exact h1
  .have:=(I h g J).2 c;exact pS
 refine{λj x e=>?_,U};rw[Bm];by_cases c:i=j
 .subst c;rw[wb<|zd ei] at e;cases e;exact{(I h _ J).1,λ_=>U}
 .rw[kg c] at e;exact I j x e
theorem lB{rk:WA}{hs:Wt}(l:nS rk hs){i h g:Nat}(ei:hs[i]?=some h)(ne:h≠i)(U:hs[h]?=some g):∀(n j r:Nat),rk j<n->bD hs j r->bD (hs.set i g) j r
 |0,_,_,h,_=>absurd h<|B7 _
 |n+1,j,r,hn,t=>by
  have o:=lB l ei ne U n;have p:=(l.Yu ei ne U).2;cases t with
  |root e=>
   have c:i≠j:=λc=>by subst c;rw[ei] at e;exact ne<|AJ e
   exact .root (by rw[kg c];exact e)
  |step e I t=>
   rename_i C;have lt:=(l j C e).2 I;by_cases c:i=j
   .subst c;rw[ei] at e;cases e;by_cases d:g=h
    .subst d;exact .step (wb<|zd ei) I<|o _ r (by lia) t
    .cases t with
     |root J=>rw[U] at J;exact absurd (AJ J) d
     |step J T t2=>
      rw[U] at J;cases J;refine .step (wb<|zd ei) (λz=>?_)<|o _ r (by lia) t2;rw[z] at p;exact Cj _ p
   .exact .step (by rw[kg c];exact e) I<|o _ r (by lia) t
def yq(hs:Wt):Nat:=(List.range hs.length).countP λi=>decide<|hs[i]?=some i
def SS(J:nS rk hs){h g:Nat}(ei:hs[i]?=some h)(ne:h≠i)(U:hs[h]?=some g):yq (hs.set i g)=yq hs:=by
 unfold yq;rw[Bm];refine Ef λj l=>?_;have I:=(J.Yu ei ne U).2;by_cases c:i=j
 .subst c;rw[wb<|zd ei,ei];have d:g≠i:=λz=>by rw[z] at I;exact Cj _ I
  simp[d,ne]
 .rw[kg c]
theorem oE{p:Nat->Bool}{a:Nat}(I:p a=true):∀{l:Wt},l.Nodup->a∈l->l.countP (λj=>p j&&!decide (j=a))+1=l.countP p
 |[],_,h=>by cases h
 |x::r,J,h=>by
  obtain⟨U,g⟩:=AG.mp J;rw[C6,C6];by_cases c:x=a
  .subst c;have e:r.countP (λj=>p j&&!decide (j=x))=r.countP p:=by refine Ef λj o=>?_;have:j≠x:=λz=>U<|z▸o;simp[this]
   rw[e];simp[I]
  .have t:a∈r:=by
    rcases Aw.mp h with z|z
    .exact absurd z.symm c
    .exact z
   have C:=oE I g t;simp only[Ao c,Bool.not_false,EL];lia
def nS.join(I:nS rk hs){a b:Nat}(ea:hs[a]?=some a)(eb:hs[b]?=some b):∃J,nS J (hs.set a b):=by
 by_cases c:a=b
 .subst c;refine{rk,λi h e=>?_};rw[Bm];by_cases d:a=i
  .subst d;rw[wb<|zd ea] at e;cases e;exact I _ _ ea
  .rw[kg d] at e;exact I i h e
 .refine{λx=>if x=b then 0 else rk x+1,λi h e=>?_};rw[Bm];by_cases d:a=i
  .subst d;rw[wb<|zd ea] at e;cases e;refine{zd eb,λ_=>?_};show(if b=b then 0 else rk b+1)<if a=b then 0 else rk a+1
   rw[Ar rfl,Ap c];exact Cv _
  .rw[kg d] at e;refine{(I i h e).1,λne=>?_};have nb:i≠b:=λz=>by subst z;rw[eb] at e;exact ne (AJ e).symm
   show(if h=b then 0 else rk h+1)<if i=b then 0 else rk i+1
   rw[Ap nb];have:=(I i h e).2 ne;split<;>lia
def SU{a b:Nat}(ea:hs[a]?=some a)(eb:hs[b]?=some b){r:Nat}(t:bD hs i r):bD (hs.set a b) i (if r=a then b else r):=by
 induction t with
 |root e=>
  rename_i r;by_cases c:r=a
  .subst c;rw[Ar rfl];by_cases d:r=b
   .subst d;exact .root<|wb<|zd ea
   .exact .step (wb<|zd ea) (λz=>d z.symm) (.root (by rw[kg d];exact eb))
  .rw[Ap c];exact .root (by rw[kg λz=>c z.symm];exact e)
 |step e ne t I=>
  rename_i i h r;have c:a≠i:=λz=>by subst z;rw[ea] at e;exact ne (AJ e).symm
  exact .step (by rw[kg c];exact e) ne I
def SV{a b:Nat}(ea:hs[a]?=some a)(eb:hs[b]?=some b)(ne:a≠b):yq (hs.set a b)+1=yq hs:=by
 unfold yq;rw[Bm];have e:=oE (p:=λi=>decide<|hs[i]?=some i) (a:=a) (Az ea) (l:=List.range hs.length) CI<|A9.mpr<|zd ea;rw[<-e];congr 1;refine Ef λj I=>?_;by_cases c:a=j
 .subst c;rw[wb<|zd ea];simp[AE ne]
 .rw[kg c];simp[AE c]
inductive f9(C:Addr)(ys:Z0)(L:qj)(Q:YK):Prop
 |mk:∀o,∀n:Nat,∀ni:Int,(ys=[.ref o,.int ni])->(ni=(n:Int))->(L o=some (.ins C []))->(n<=1000)->(∀hp,L hp=none->Q .KB (qd (qd L hp<|.lst<|nY<|List.range n) o<|.ins C<|sv hp))->f9 C ys L Q
def SW{K:Ag}(xf:YO K C):ZY (f9 C) (pM K) 2:=by rintro ys L Q ⟨o,n,g,rfl,rfl,J,j,q⟩;refine{{A1 _,by lia},λU I=>?_};refine aC ((qb<|vh J I).trans J) {xf.cl,xf.na,by decide,?_};rw[show((n:Nat):Int).toNat=n from rfl,SQ];exact k8<|q U I
inductive gN(C:Addr)(ys:Z0)(L:qj)(Q:YK):Prop
 |mk:∀o hp,∀hs:Wt,∀p:Nat,∀pi:Int,∀rk,(ys=[.ref o,.int pi])->(pi=(p:Int))->(L o=some (.ins C<|sv hp))->(L hp=⇑(nY hs))->(nS rk hs)->(p<hs.length)->(∀(r:Nat) ir,ir.length=hs.length->nS rk ir->bD hs p r->(∀i s,bD hs i s->bD ir i s)->yq ir=yq hs->Q (.int (r:Int)) (qd L hp<|.lst<|nY ir))->gN C ys L Q
def SX{K:Ag}(xf:YO K C):ZY (gN C) (lC K) 3:=by
 rintro ys L Q ⟨o,hp,hs,p,pi,rk,rfl,rfl,ho,a1,hr,a2,q⟩;obtain⟨r0,t0⟩:=hr.X4 a2;have a4:=FH ho a1 (λe=>by cases e);refine{λm τ L'=>∃(J:Wt) (I:Nat),τ=[some<|.ref o,some<|.int (p:Int),some<|.int (I:Int)]/\L'=qd L hp (.lst<|nY J)/\J.length=hs.length/\nS rk J/\I<hs.length/\bD J I r0/\(∀i s,bD hs i s->bD J i s)/\yq J=yq hs/\m=rk I,{_,hs,p,rfl,(qN a1).symm,rfl,hr,a2,t0,λ_ _ h=>h,rfl,rfl},?_};rintro m τ L' ⟨J,I,rfl,rfl,hl,U,hh,t,l,a3,rfl⟩;have j:∀z,(qd L hp<|.lst z) o=some (.ins C<|sv hp):=λz=>(qb a4).trans ho;obtain⟨h,r⟩:∃h,J[I]?=some h:={_,Ai (by lia)};refine aC (j _) {xf.cl,xf.na,ql cz<|qc q9<|ql (rF r) ?_};by_cases c:h=I
 .subst c;refine jv (by rw[Az rfl];rfl) ?_;have e:=t.Yt r;subst e;exact k8<|q _ J hl U t0 l a3
 .refine xq (by rw[Ao (by lia)];rfl) ?_;refine{_,λ_ _ h=>h,?_};obtain⟨g,T⟩:∃g,J[h]?=some g:={_,Ai (U I h r).1};refine aC (j _) {xf.cl,xf.na,ql cz<|aC (j _) {xf.cl,xf.na,ql cz<|qc q9<|ql (rF r)<|qc q9<|ql (rF T) ?_}};refine aC (j _) {xf.cl,xf.na,ql cz<|qm q9<|ql (v:=I) ?_ ?_}
  .exact zL (by rw[jx];lia)
  rw[jz,JN];have es:(J.set I g)[I]?=some g:=wb (by lia);refine aC (j _) {xf.cl,xf.na,ql cz<|qc q9<|ql (rF es) ?_};obtain⟨a5,ac⟩:=U.Yu r c T;refine{_,ES _,rk g,ac,J.set I g,g,rfl,rfl,by rw[Bm];exact hl,a5,?_,?_,λi s z=>lB U r c T (rk i+1) i s (Bi _)<|l i s z,by rw[SS U r c T];exact a3,rfl}
  .rw[<-hl];exact(U h g T).1
  .have t2:=lB U r c T (rk I+1) I r0 (Bi _) t;cases t2 with|root e2=>rw[es] at e2;cases e2;exact .root es|step e2 al t3=>rw[es] at e2;cases e2;exact t3
inductive fQ(C:Addr)(ys:Z0)(L:qj)(Q:YK):Prop
 |mk:∀o hp,∀hs:Wt,∀p q a b:Nat,∀pi qi:Int,(ys=[.ref o,.int pi,.int qi])->(pi=(p:Int))->(qi=(q:Int))->(L o=some (.ins C<|sv hp))->(L hp=⇑(nY hs))->((∃rk,nS rk hs))->(bD hs p a)->(bD hs q b)->(p<hs.length)->(q<hs.length)->(∀ir,ir.length=hs.length->(∃rk,nS rk ir)->(∀i s,bD hs i s->bD ir i (if s=a then b else s))->(a=b->yq ir=yq hs)->(a≠b->yq ir+1=yq hs)->Q (.bl<|!decide (a=b)) (qd L hp<|.lst<|nY ir))->fQ C ys L Q
def SY{K:Ag}(xf:YO K C):ZY (fQ C) (nW K C<|gN C) 5:=by
 rintro ys L Q ⟨o,g,hs,p,q,a,b,pi,qi,rfl,rfl,rfl,l,U,⟨rk,hr⟩,ta,tb,t,a4,k⟩;have T:=FH l U (λe=>by cases e);have I:∀z,(qd L g<|.lst z) o=some (.ins C<|sv g):=λz=>(qb T).trans l;refine aC l {rfl,gK,o,g,hs,p,_,rk,rfl,rfl,l,U,hr,t,λr1 a3 l1 k1 t1 r n1=>?_};cases t1.uniq ta;refine aC (I _) {rfl,gK,o,g,a3,q,_,rk,rfl,rfl,I _,q9,k1,by lia,λr2 J l2 k2 t2 a2 n2=>?_};cases t2.uniq (r _ _ tb);rw[jz];have ea:=(a2 _ _<|r _ _ ta).top;have eb:=(a2 _ _<|r _ _ tb).top;refine aC (I _) {xf.cl,xf.na,ql cz (qm q9 (ql (v:=a) (zL (by rw[jx];exact zd ea)) ?_))};rw[jz,JN];have e0:(decide<|(a:Int)=(b:Int))=decide (a=b):=by
  by_cases c:a=b
  .rw[Az c];exact Az (by lia)
  .rw[Ao c];exact Ao (by lia)
 show gW Q (.bl<|!decide ((a:Int)=(b:Int))) _;rw[e0];refine k8 (k (J.set a b) (by rw[Bm];lia) (k2.join ea eb) (λi s z=>SU ea eb<|a2 _ _<|r _ _ z) (λe=>?_) λne=>?_)
 .subst e;have:J.set a a=J:=by
   apply Ed;intro j;by_cases c:a=j
   .subst c;rw[wb<|zd ea,ea]
   .rw[kg c]
  rw[this,n2,n1]
 .have:=SV ea eb ne;lia
def fV:RD "_law_cell_at" fK 0 ["_law_script","_law_k"] (λ_=>True):={_,λV B c _ _ _ _ _ _ _ I hN J=>(qa (zy (js sN (qv 1) (L_ B.ba<|qv 0)<|xc _) (qe<|za<|I_ (qv 0)<|qv 1) zb)<|qe<|za qg)}
def oq:RD "_law_mix" pC 0 ["_law_cell","_law_k","_law_factor"] (λ_=>True):={_,λV B c _ _ _ _ _ _ _ I hN J=>(qe<|za<|qr wx (qr x9 (qr uD (qr jm (qr jm (qr uD (qr x9 (qv 0) qg) qg)<|qr uD (qv 1)<|qv 1) qg)<|qv 2) qg) qg)}
def gv(J:km):RR "_law_weight" gj 1 ["_law_word_here"] ["_law_word_here"] J (λ_=>True):={_,λV B c _ _ I _ _ _ _ _ _ U hN g=>(qa (zy (E_ g (L_ B.ba<|qv 0) qg) (qe<|za qg) zb)<|qe<|za<|qr jm (qr jm qg<|C_ I U<|x6<|J_ 0)<|C_ I U<|x6<|J_ 0)}
def lK(I:km):RR "_law_same" lZ 1 ["_law_found","_law_due"] ["_law_found","_law_due","_law_one","_law_other"] I (λ_=>True):={_,λV B c _ _ J _ _ _ _ _ _ g hN U=>(qa (zy (kj<|fg (ko<|vt .bool rfl B.b_isinstance rfl B.b_bool io<|qv 0)<|dk<|ko<|vt .bool rfl B.b_isinstance rfl B.b_bool io<|qv 1) (qe<|za<|jV (vt .bool rfl B.b_isinstance rfl B.b_bool io<|qv 0)<|jV (vt .bool rfl B.b_isinstance rfl B.b_bool io<|qv 1)<|oP<|dq (qU _ _ _ U) (qv 0) (qv 1)<|xc _) zb)<|qa (zy (ko<|wL .list .tuple rfl B.b_isinstance rfl B.bb az rfl B.b_tuple fS<|qv 1) (qa (zy (kj<|fg (N_ U (vt .list rfl B.b_isinstance rfl B.bb az<|qv 0)<|vt .list rfl B.b_isinstance rfl B.bb az<|qv 1)<|dk<|N_ U (vt .tuple rfl B.b_isinstance rfl B.b_tuple fS<|qv 0)<|vt .tuple rfl B.b_isinstance rfl B.b_tuple fS<|qv 1) (qe<|za cT) zb)<|qa (zy (N_ U (L_ B.ba<|qv 0)<|L_ B.ba<|qv 1) (qe<|za cT) zb)<|qa (vf wh rfl (Jb rfl B.bp<|ve (qv 0)<|qv 1) (kn (n:=2) rfl<|z0 (G_ 2 hN)<|z0 (G_ 3 hN) xb)<|qe<|zy (bU<|ko<|C_ J g<|ve (qv 2)<|qv 3) (qe<|za cT) zb)<|qe<|za cT) zb)<|qa (zy (ko<|vt .int rfl B.b_isinstance rfl B.bi rh<|qv 1) (qe<|za<|jV (vt .int rfl B.b_isinstance rfl B.bi rh<|qv 0)<|oP<|dq (qU _ _ _ U) (qv 0) (qv 1)<|xc _) zb)<|qa (zy (ko<|vt .str rfl B.b_isinstance rfl B.b_str Iv<|qv 1) (qe<|za<|jV (vt .str rfl B.b_isinstance rfl B.b_str Iv<|qv 0)<|oP<|dq (qU _ _ _ U) (qv 0) (qv 1)<|xc _) zb)<|qe<|za<|IR<|qv 0)}
def lv(J:km):RR "_law_word" lu 1 ["_law_knots","_law_p"] ["_law_knots","_law_p","_law_knot"] J (λ_=>True):={_,λV B c _ _ I _ _ _ _ _ _ U hN g=>(qa (S_ 2 hN<|I_ (qv 0)<|qv 1)<|qa (zy (E_ g (L_ B.ba<|qv 2) qg) (qe<|za<|qv 2) zb)<|qe<|za<|zg<|cG (J_ 2) (C_ I U<|ve (qv 0)<|J_ 2)<|C_ I U<|ve (qv 0)<|J_ 2)}
inductive bS(ys:Z0)(L:qj)(Q:YK):Prop
 |mk:∀ns:Wx,∀k:Int,(ys=[.sq<|ns.map Y.int,.int k])->(0<=k)->(∀v,Q (.int v) L)->bS ys L Q
def wS:ZY bS fV.1 2:=by rintro ys L Q ⟨I,k,rfl,h0,q⟩;refine zu (λc=>?_) λc=>k8<|q 0;have J:=c;rw[Ae] at J;obtain⟨j,rfl⟩:∃j:Nat,k=(j:Int):={k.toNat,by lia};have e:iV (I.map Y.int) (j:Int)=some (Y.int<|I[j]'(by omega)):=ww<|Ai _;walk_at "w";rw[e];exact k8<|q _
inductive cY(ys:Z0)(L:qj)(Q:YK):Prop
 |mk:∀c k f:Int,(ys=[.int c,.int k,.int f])->(0<=k)->(k<1000000)->(0<f)->(f<1000000)->(∀v,0<=v->v<134217728->Q (.int v) L)->cY ys L Q
def S4:ZY cY oq.1 3:=by
 rintro ys L Q ⟨c,k,f,rfl,h0,h1,h2,h3,q⟩;refine{(by decide:(0:Int)<1000003),.inr {by decide,by decide},.inl {by lia,by lia},.inr {by lia,by lia},(by decide:(0:Int)<2147483647),{by decide,by decide},k8<|q _ ?_ ?_}
 all_goals
  generalize ((c % 1000003*7+k*k+1)*f)=z;lia
def S5(cs:Wt):(Txt.join ""<|cs.map λc=>({#[c]}:Str)).cps.toList=cs:=by
 rw[sP]
 induction cs with|nil=>rfl|cons c r I=>rw[AQ,Be,I];rfl
inductive bL(n:Nat)(ys:Z0)(L:qj)(Q:YK):Prop
 |mk:∀wd,(ys=[dH wd])->(wd.depth<=n)->(Q (.int wd.size) L)->bL n ys L Q
def nZ:∀ys L Q,¬bL 0 ys L Q:=by rintro ys L Q ⟨I,_,hd,_⟩;cases I<;>simp[Wd.depth] at hd
def S6(n:Nat):ZY (bL (n+1)) (gv<|bL n).1 1:=by
 rintro ys L Q ⟨I,rfl,hd,q⟩;cases I with
 |leaf t n=>exact k8 q
 |node e l r=>
  have J:max l.depth r.depth+1<=n+1:=hd;refine{l,rfl,by lia,r,rfl,by lia,k8 ?_};have e:(1+(l.size:Int)+(r.size:Int))=(((Wd.node e l r).size:Nat):Int):=by rfl
  rw[e];exact q
def dO(L:qj):Nat->Y->Y->Prop
 |0,_,_=>False
 |n+1,x,y=>(gl x=true/\y=x)\/(∃xs ys,x=.tup xs/\y=.tup ys/\Paired (dO L n) xs ys)\/(∃a b xs ys,x=.ref a/\y=.ref b/\L a=⇑xs/\L b=⇑ys/\Paired (dO L n) xs ys)
def dO.flat{x:Y}(h:gl x=true):dO L (n+1) x x:=.inl {(h),rfl}
inductive eE(n:Nat)(ys:Z0)(L:qj)(Q:YK):Prop
 |mk:∀x y,(ys=[x,y])->(dO L n x y)->(Q (.bl true) L)->eE n ys L Q
def sK:∀ys L Q,¬eE 0 ys L Q:=λys L Q ⟨x,y,_,h,_⟩=>h
def tK{xs:Z0}{keep:qj->Prop}{tb:ai}{D:vd}(W:Nat->jd->qj->Prop)(h0:W 0 τ L)(J:∀i τ L',W i τ L'->keep L')
 (hs:∀i x y τ L,xs[i]?=some x->ys[i]?=some y->W i τ L->g (.tup [x,y]) τ L λI L2=>tb {D with nx:=jP<|W<|i+1,ct:=jP<|W<|i+1,bk:=D.nx} I L2) (hd:∀τ L,W (min xs.length ys.length) τ L->D.nx τ L):
 rq (xW xs ys) keep g tb D τ L:=xm {W,h0,J,λi y τ L e w=>by obtain⟨a,b,ea,eb,rfl⟩:=I9 e;exact hs i a b τ L ea eb w,λτ L w=>hd τ L (by rw[nU] at w;exact w)}
def S7(n:Nat):ZY (eE (n+1)) (lK<|eE n).1 4:=by
 rintro ys L Q ⟨x,y,rfl,h,q⟩;rcases h with⟨f,rfl⟩|⟨U,ys,rfl,rfl,p⟩|⟨a,b,U,ys,rfl,rfl,h1,h2,p⟩
 .cases y with
  |KB=>exact k8 q
  |bl b=>
   refine k8 ?_;rw[Az rfl];exact q
  |int i=>
   refine k8 ?_;rw[Az rfl];exact q
  |str i=>
   refine k8 ?_;rw[Az rfl];exact q
  |_=>cases f
 .have g:=p.length;walk_at "w";refine jv (b:=nb true<|decide<|(U.length:Int)=ys.length) (by rw[g,Az rfl];rfl) ?_;refine tK (λi I J=>J=L/\∃c d,I=[some<|.tup U,some<|.tup ys,c,d]) {rfl,_,_,rfl} (λi I J w=>{(trivial),trivial}) ?_ ?_
  .rintro i u v I J j ev ⟨rfl,c,d,rfl⟩;exact{u,v,rfl,EZ p j ev,_,ES _,rfl,_,_,rfl}
  .rintro I J ⟨rfl,c,d,rfl⟩;exact k8 q
 .have g:=p.length;refine cO h1<|cO h2 ?_;walk_at "w";refine cO h2 ?_;walk_at "w";refine cO h1<|cO h2 ?_;walk_at "w";refine cO h1<|cO h2 ?_;walk_at "w";refine qc h1 (qc h2 (jv (by rw[g,Az rfl];rfl) ?_));walk_at "w";refine qm h1<|qm h2 ?_;refine tK (λi I J=>J=L/\∃c d,I=[some<|.ref a,some<|.ref b,c,d]) {rfl,_,_,rfl} (λi I J ⟨e,_⟩=>by subst e;exact{(rfl),rfl}) ?_ ?_
  .rintro i u v I J j ev ⟨rfl,c,d,rfl⟩;exact{u,v,rfl,EZ p j ev,_,ES _,rfl,_,_,rfl}
  .rintro I J ⟨rfl,c,d,rfl⟩;exact k8 q
def KW(ks:Z0):Nat->Wd->Prop
 |p,.leaf t n=>ks[p]?=some (.tup [.str<|kL t,.str n])
 |p,.node e l r=>∃i j:Nat,ks[p]?=some (.tup [.str<|kN e,.int i,.int j])/\KW ks i l/\KW ks j r
theorem KW.more{ks:Z0}(ms:Z0):∀{wd:Wd} {p:Nat},KW ks p wd->KW (ks++ms) p wd
 |.leaf _ _,p,h=>by have I:=h;show(ks++ms)[p]?=some _;rw[Av (AM.mp I).1];exact I
 |.node _ _ _,p,⟨i,j,h,a,b⟩=>{i,j,by rw[Av (AM.mp h).1];exact h,KW.more ms a,KW.more ms b}
inductive aH(n:Nat)(ys:Z0)(L:qj)(Q:YK):Prop
 |mk:∀k ks p wd,(ys=[.ref k,.int ((p:Nat):Int)])->(L k=⇑ks)->(KW ks p wd)->(wd.depth<=n)->(Q (dH wd) L)->aH n ys L Q
def xU:∀ys L Q,¬aH 0 ys L Q:=by rintro ys L Q ⟨k,J,p,I,_,_,_,hd,_⟩;cases I<;>simp[Wd.depth] at hd
def tM:∀ys L Q,¬aH 0 ys L Q:=xU
def tw(n:Nat):ZY (aH (n+1)) (lv<|aH n).1 3:=by
 rintro ys L Q ⟨k,J,p,U,rfl,I,h,hd,q⟩;cases U with
 |leaf t nm=>exact qc I<|ql (w5 h)<|k8 q
 |node e l r=>
  obtain⟨i,j,h,g,o⟩:=h;have C:max l.depth r.depth+1<=n+1:=hd;exact qc I<|ql (w5 h) {k,J,i,l,rfl,I,g,by lia,k,J,j,r,rfl,I,o,by lia,k8 q}
def m_(l:Wt):Str:={(l.toArray)}
def zP(x:Str):m_ x.cps.toList=x:=by cases x;rfl
def yr(J:km):RR "_law_flip" lM 1 ["_law_word_here"] ["_law_word_here","_law_sides"] J (λ_=>True):={_,λV B c _ _ I _ _ _ _ _ _ U hN g=>(qa (S_ 1 hN<|QH [ ("plain" ,"turned") ,("turned" ,"plain") ,("both" ,"either") ,("either" ,"both") ] (iK eJ eJ<|iK eJ eJ<|iK eJ eJ<|iK eJ eJ Oy) rfl rfl (List.cons_ne_nil _ _)<|Ct rfl)<|qa (zy (E_ g (L_ B.ba<|qv 0) qg) (qe<|za<|zg<|ve (I_ (qv 1)<|J_ 0)<|J_ 0) zb)<|qe<|za<|zg<|cG (I_ (qv 1)<|J_ 0) (C_ I U<|x6<|J_ 0)<|C_ I U<|x6<|J_ 0)}
def S8(I:km)(p1:km):ai:=(zv (bN (tf (tR 1)<|ax 2) (zv (wo<|iI x0 (qh 0)<|qp (xa I<|eB<|qh 1) jc)
 (zv (wo<|iI x0 (qh 0)<|eB<|qh 1)
 (bP<|cV<|qp (bC<|qp (uC "link")<|qp (ky yX (tR 0)<|ax 2)<|qp (ky yX (tR 0)<|ax 1) jc)<|qp (ky yX (tR 0)<|ax 2)<|qp (ky yX (tR 0)<|ax 1) jc))) aW)
 (zv (jw (xa p1<|eY (qh 0)<|ah 1 1)<|qk 2)
 (zv (jw (xa p1<|eY (qh 0)<|ah 1 2)<|qk 3)
 (zv (wo<|iI x0 (qh 0)<|qp (bC<|qp (ky m5 (xa I<|eB<|qh 1)<|ax 0)<|eY (ah 2 1)<|ah 3 1) jc)
 (zv (wo<|iI x0 (qh 0)<|qp (bC<|qp (ah 1 0)<|eY (ah 2 2)<|ah 3 2) jc)
 (zv (IE 4 5<|qp (ky yX (tR 0)<|ax 2)<|qp (ky yX (tR 0)<|ax 1) jc)
 (zv (jw (FM (tf (ah 1 0)<|uC "either") (qh 4)<|qh 5)<|qk 6)
 (zv (jw (FM (tf (ah 1 0)<|uC "either") (qh 5)<|qh 4)<|qk 7)
 (bP<|cV<|qp (bC<|qp (uC "either")<|qp (qh 7)<|qp (bC<|qp (uC "both")<|qp (qh 6)<|eY (ah 2 0)<|ah 3 0) jc)<|eY (qh 4)<|qh 5)))))))))
set_option genInjectivity true in
inductive Kn where
 |lf (t:Bool) (n:Str)|nd (e:Bool) (i j:Nat)
abbrev WO:=Option Kn
abbrev WN:=List Kn
def uR:Kn->Y
 |.lf t n=>.tup [.str<|kL t,.str n]
 |.nd e i j=>.tup [.str<|kN e,.int ((i:Nat):Int),.int ((j:Nat):Int)]
inductive Ru where
 |link (p q:Nat)|ei (r:Nat) (A:Ru)|bo (r:Nat) (A B:Ru)|cu (p q:Nat) (A B:Ru)
def jp:Ru->Y
 |.link p q=>.tup [.str "link",.int ((p:Nat):Int),.int ((q:Nat):Int)]
 |.ei r A=>.tup [.str "either",.int ((r:Nat):Int),jp A]
 |.bo r A B=>.tup [.str "both",.int ((r:Nat):Int),jp A,jp B]
 |.cu p q A B=>.tup [.str "cut",.int ((p:Nat):Int),.int ((q:Nat):Int),jp A,jp B]
def zq:Ru->Wt
 |.link p q=>[p,q]
 |.ei r A=>r::zq A
 |.bo r A B=>r::(zq A++zq B)
 |.cu _ _ A B=>zq A++zq B
abbrev vz(ks:WN):Z0:=ks.map uR
def fC(ks:WN)(p:Nat)(w:Wd):Prop:=KW (vz ks) p w
theorem fC.more{ks:WN}{p:Nat}{w:Wd}(h:fC ks p w)(ms:WN):fC (ks++ms) p w:=by unfold fC vz;rw[AC];exact KW.more _ h
def bA(ks:WN):Prop:=∀(p:Nat) (k:Kn),ks[p]?=some k->match k with
 |.lf _ n=>fG n
 |.nd _ i j=>i<p/\j<p
def bA.snoc{ks:WN}{k:Kn}(h:bA ks)(I:match k with|.lf _ n=>fG n|.nd _ i j=>i<ks.length/\j<ks.length):bA (ks++[k]):=by
 intro p J e;by_cases c:p<ks.length
 .rw[Av c] at e;exact h p J e
 .rw[AH<|FE] at e;have U:p=ks.length:=by
   by_cases g:p-ks.length=0
   .omega
   .rw[Cs (by simp;exact FD)] at e;cases e
  subst U;rw[Ci] at e;cases e;exact I
def eF(l:List α)(x:α)(r:List α):(l++x::r)[l.length]?=some x:=by rw[AH<|An _,Ci];rfl
def lE{l r:List α}{p:Nat}{x:α}(h:l[p]?=some x):(l++r)[p]?=some x:=by rw[Av (AM.mp h).1];exact h
inductive SR(ks:WN):Ru->Wt->Prop
 |link {p q:Nat} {t:Bool} {n:Str} {E:Wt}:p<q->ks[p]?=some (.lf t n)->ks[q]?=some (.lf (!t) n)->(∀x,x∈E↔x=p\/x=q)->E.Nodup->SR ks (.link p q) E
 |ei {r i j:Nat} {A:Ru} {EA E:Wt}:ks[r]?=some (.nd true i j)->SR ks A EA->i∈EA->j∈EA->i≠j->(∀x,x∈E↔(x∈EA/\x≠i/\x≠j)\/x=r)->E.Nodup->SR ks (.ei r A) E
 |bo {r i j:Nat} {A B:Ru} {EA EB E:Wt}:ks[r]?=some (.nd false i j)->SR ks A EA->SR ks B EB->i∈EA->j∈EB->(∀x,x∈E↔(x∈EA/\x≠i)\/(x∈EB/\x≠j)\/x=r)->E.Nodup->SR ks (.bo r A B) E
 |cu {p q:Nat} {A B:Ru} {EA EB E:Wt} {w:Wd}:SR ks A EA->SR ks B EB->p∈EA->q∈EB->fC ks p w->fC ks q w.turn->(∀x,x∈E↔(x∈EA/\x≠p)\/(x∈EB/\x≠q))->E.Nodup->SR ks (.cu p q A B) E
theorem SR.more{ks:WN}{R:Ru}{E:Wt}(h:SR ks R E)(ms:WN):SR (ks++ms) R E:=by induction h with|link h1 h2 h3 I J=>exact .link h1 (lE h2) (lE h3) I J|ei h1 _ h3 I J j l o=>exact .ei (lE h1) o h3 I J j l|bo h1 _ _ I J j l U g=>exact .bo (lE h1) U g I J j l|cu _ _ h3 I J j l p U g=>exact .cu U g h3 I (J.more ms) (j.more ms) l p
def SR.sub{ks:WN}{R:Ru}{E:Wt}(h:SR ks R E):∀x∈E,x∈zq R:=by
 induction h with
 |link _ _ _ j _=>intro x I;rcases (j x).mp I with rfl|rfl<;>simp[zq]
 |ei _ _ _ _ _ g _ l=>intro x I;rcases (g x).mp I with⟨h,_⟩|rfl;exact Al _<|l x h;exact As ..
 |bo _ _ _ _ _ g _ J U=>
  intro x I;rcases (g x).mp I with⟨h,_⟩|⟨h,_⟩|rfl
  .exact Al _<|Am _<|J x h
  .exact Al _<|Ah _<|U x h
  .exact As ..
 |cu _ _ _ _ _ _ o _ J U=>
  intro x I;rcases (o x).mp I with⟨h,_⟩|⟨h,_⟩
  .exact Am _<|J x h
  .exact Ah _<|U x h
inductive aQ(n:Nat)(ys:Z0)(L:qj)(Q:YK):Prop
 |mk:∀wd,(ys=[dH wd])->(wd.depth<=n)->(Q (dH wd.turn) L)->aQ n ys L Q
def S9:∀ys L Q,¬aQ 0 ys L Q:=by rintro ys L Q ⟨I,_,hd,_⟩;cases I<;>simp[Wd.depth] at hd
def yD(t:Bool):xj ([(("plain" : Str),("turned" : Str)),("turned","plain"),("both","either"),("either","both")].map λp=>((Sum.inr p.1:j8),Y.str p.2)) (Sum.inr<|kL t)=some (.str<|kL<|!t):=lV<|SN t
def yW(t:Bool):xj ([(("plain" : Str),("turned" : Str)),("turned","plain"),("both","either"),("either","both")].map λp=>((Sum.inr p.1:j8),Y.str p.2)) (Sum.inr<|kN t)=some (.str<|kN<|!t):=lV<|acl t
def S'(n:Nat):ZY (aQ (n+1)) (yr<|aQ n).1 2:=by
 rintro ys L Q ⟨J,rfl,hd,q⟩;intro p I;cases J with
 |leaf t nm=>
  refine zj q9<|ql (yD t) ?_;exact jI (By I) q
 |node e l r=>
  have U:max l.depth r.depth+1<=n+1:=hd;refine zj q9<|ql (yW e) ?_;refine{l,rfl,by lia,r,rfl,by lia,?_};exact jI (By I) q
structure Fm(ks:WN)(w:Wd)(ms:WN)(R:Ru)(tp sp:Nat):Prop where
 len:ms.length=2*w.size
 sr:SR (ks++ms) R [tp,sp]
 wt:fC (ks++ms) tp w.turn
 ws:fC (ks++ms) sp w
 tm:∀x,x∈zq R↔ks.length<=x/\x<ks.length+ms.length
 nd:(zq R).Nodup
 ok:bA (ks++ms)
def fC.leaf{ks:WN}{p:Nat}{n:Str}(h:ks[p]?=some (.lf t n)):fC ks p (.leaf t n):=by show(vz ks)[p]?=_;rw[Aq,h];rfl
def fC.node{ks:WN}{p:Nat}{e:Bool}{l r:Wd}(h:ks[p]?=some (.nd e i j))(I:fC ks i l)(J:fC ks j r):fC ks p (.node e l r):=by refine{i,j,?_,I,J};rw[Aq,h];rfl
abbrev FB:=@fC.node
def ug{ks:WN}(g:bA ks){n:Str}(I:fG n):Fm ks (.leaf t n) [.lf (!t) n,.lf t n] (.link ks.length<|ks.length+1) ks.length (ks.length+1):=by
 have J:(ks++[Kn.lf (!t) n,.lf t n])[ks.length]?=some (.lf (!t) n):=eF _ _ _;have U:(ks++[Kn.lf (!t) n,.lf t n])[ks.length+1]?=some (.lf t n):=by have:=eF (ks++[Kn.lf (!t) n]) (Kn.lf t n) [];rw[Ab,Ay] at this;exact this
 refine{rfl,.link (t:=!t) (n:=n) (Bi _) J (by rw[Bool.not_not];exact U) (by simp) (by simp),fC.leaf J,fC.leaf U,λx=>?_,by simp[zq],?_}
 .show x∈[ks.length,ks.length+1]↔ks.length<=x/\x<ks.length+2;simp;lia
 .have:=(g.snoc (k:=.lf (!t) n) I).snoc (k:=.lf t n) I;rw[Ay] at this;exact this
def SR.Yv{ks:WN}{R:Ru}{E:Wt}(h:SR ks R E):E.Nodup:=by cases h<;>assumption
def Ta{x h lo a r N:Nat}(I:(h=N/\lo=N+1)\/(h=N+1/\lo=N))(hN:N=a+m+r):x=h\/x=lo\/(a<=x/\x<a+m)\/a+m<=x/\x<a+m+r↔a<=x/\x<N+2:=by subst hN;rcases I with⟨rfl,rfl⟩|⟨rfl,rfl⟩<;>lia
def Tb{x a b c N:Nat}(h:a≠b)(k:c≠d):x∈[b,d,N]↔(x∈[a,b]/\x≠a)\/(x∈[c,d]/\x≠c)\/x=N:=by simp only[Aw,AZ,or_false];lia
def Tc{x a b c N:Nat}(h:a≠b)(k:c≠d):x∈[a,c,N]↔(x∈[a,b]/\x≠b)\/(x∈[c,d]/\x≠d)\/x=N:=by simp only[Aw,AZ,or_false];lia
def Td{x a b N M:Nat}(h:a<N)(k:b<N):x∈[N,M]↔(x∈[a,b,N]/\x≠a/\x≠b)\/x=M:=by simp only[Aw,AZ,or_false];lia
def Te{x a b N M:Nat}(h:a<N)(k:b<N):x∈[M,N]↔(x∈[a,b,N]/\x≠a/\x≠b)\/x=M:=by simp only[Aw,AZ,or_false];lia
def JO{a b N:Nat}(h:a<N)(k:b<N)(d:a≠b):[a,b,N].Nodup:=by rw[AG,AG];simp;lia
def Tf{a r N t s u v:Nat}(I:a<=t/\t<a+m)(J:a<=s/\s<a+m)(b1:a+m<=u/\u<a+m+r)(b2:a+m<=v/\v<a+m+r)(hN:N=a+m+r):t<N/\s<N/\u<N/\v<N/\t≠u/\s≠v:=by lia
def JP{h lo a r N:Nat}(I:(h=N/\lo=N+1)\/(h=N+1/\lo=N))(hN:N=a+m+r):¬(h=lo\/(a<=h/\h<a+m)\/a+m<=h/\h<a+m+r)/\¬((a<=lo/\lo<a+m)\/a+m<=lo/\lo<a+m+r):=by lia
def Tg{x y a r:Nat}(h1:a<=x/\x<a+m)(h2:a+m<=y/\y<a+m+r)(e:x=y):False:=by lia
def Th{ks I g:WN}{e:Bool}{l r:Wd}{A B:Ru}{tl J tr U:Nat}(p:Fm ks l I A tl J)(o:Fm (ks++I) r g B tr U){N:Nat}(hN:N=ks.length+(I++g).length):
 Fm ks (.node e l r) (I++g++[.nd (!e) tl tr,.nd e J U]) (.ei (if e=true then N+1 else N)<|.bo (if e=true then N else N+1) A B) N (N+1):=by
 have hA:∀x∈[tl,J],ks.length<=x/\x<ks.length+I.length:=λx T=>(p.tm x).mp<|p.sr.sub x T;have hB:∀x∈[tr,U],ks.length+I.length<=x/\x<ks.length+I.length+g.length:=λx T=>by have:=(o.tm x).mp<|o.sr.sub x T;rw[Ab] at this;exact this
 have a1:=hA tl (by simp);have a2:=hA J (by simp);have b1:=hB tr (by simp);have b2:=hB U (by simp);have nA:tl≠J:=by have:=p.sr.Yv;simpa using this
 have nB:tr≠U:=by have:=o.sr.Yv;simpa using this
 have t:N=ks.length+I.length+g.length:=by rw[hN,Ab];simp +arith only
 obtain⟨d1,d2,d3,d4,d5,d6⟩:=Tf a1 a2 b1 b2 t;generalize j:ks++(I++g++[Kn.nd (!e) tl tr,.nd e J U])=K;have k1:K=(ks++I)++(g++[Kn.nd (!e) tl tr,.nd e J U]):=by rw[<-j];simp
 have k2:K=((ks++I)++g)++[Kn.nd (!e) tl tr,.nd e J U]:=by rw[<-j];simp
 have k3:K=(((ks++I)++g)++[Kn.nd (!e) tl tr])++[.nd e J U]:=by rw[<-j];simp
 have l2:((ks++I)++g).length=N:=by rw[Ab,Ab];lia
 have g1:K[N]?=some (.nd (!e) tl tr):=by rw[k2,<-l2];exact eF _ _ _
 have g2:K[N+1]?=some (.nd e J U):=by
  have l3:(((ks++I)++g)++[Kn.nd (!e) tl tr]).length=N+1:=by rw[Ab,l2];rfl
  rw[k3,<-l3];exact eF _ _ _
 have sA:SR K A [tl,J]:=by rw[k1];exact p.sr.more _
 have sB:SR K B [tr,U]:=by rw[k2];exact o.sr.more _
 have a3:bA K:=by have o1:=o.ok.snoc (k:=.nd (!e) tl tr) (by rw[l2];exact{(d1),d3});have o2:=o1.snoc (k:=.nd e J U) (by rw[Ab,l2];exact{B5 d2,B5 d4});rw[k3];exact o2
 have tA:=p.tm;have tB:=o.tm;rw[Ab] at tB;have wt:=FB g1 (by rw[k1];exact p.wt.more _) (by rw[k2];exact o.wt.more _);have a4:=FB g2 (by rw[k1];exact p.ws.more _) (by rw[k2];exact o.ws.more _);have C:(I++g++[Kn.nd (!e) tl tr,.nd e J U]).length=2*(Wd.node e l r).size:=by have h1:=p.len;have h2:=o.len;show _=2*(1+l.size+r.size);rw[Ab,Ab];simp;lia
 have lt:ks.length+(I++g++[Kn.nd (!e) tl tr,.nd e J U]).length=N+2:=by rw[Ab];simp[hN];rfl
 have tt:∀h lo:Nat,(h=N/\lo=N+1)\/(h=N+1/\lo=N)->(∀x,x∈zq (.ei h<|.bo lo A B)↔ks.length<=x/\x<ks.length+(I++g++[Kn.nd (!e) tl tr,.nd e J U]).length)/\(zq<|.ei h<|.bo lo A B).Nodup:=by
  intro h lo hh;constructor
  .intro x;rw[lt];show x∈h::lo::(zq A++zq B)↔_;rw[Aw,Aw,Aj,tA,tB];exact Ta hh t
  .show(h::lo::(zq A++zq B)).Nodup;rw[AG,AG,AL];refine{?_,?_,p.nd,o.nd,λx T y hy e=>?_}
   .rw[Aw,Aj,tA,tB];exact(JP hh t).1
   .rw[Aj,tA,tB];exact(JP hh t).2
   .exact Tg ((tA x).mp T) ((tB y).mp hy) e
 cases e with
 |true=>
  have s1:SR K (.bo N A B) [J,U,N]:=by exact .bo g1 sA sB (by simp) (by simp) (λx=>Tb nA nB)<|JO d2 d4 d6
  have s2:SR K (.ei (N+1)<|.bo N A B) [N,N+1]:=by exact .ei g2 s1 (by simp) (by simp) d6 (λx=>Td d2 d4) (by simp)
  obtain⟨t1,t2⟩:=tt (N+1) N<|.inr {(rfl),rfl};exact{C,by rw[j];exact s2,by rw[j];exact wt,by rw[j];exact a4,t1,t2,by rw[j];exact a3}
 |false=>
  have s1:SR K (.bo (N+1) A B) [tl,tr,N+1]:=by exact .bo g2 sA sB (by simp) (by simp) (λx=>Tc nA nB)<|JO (B5 d1) (B5 d3) d5
  have s2:SR K (.ei N<|.bo (N+1) A B) [N,N+1]:=by exact .ei g1 s1 (by simp) (by simp) d5 (λx=>Te (B5 d1)<|B5 d3) (by simp)
  obtain⟨t1,t2⟩:=tt N (N+1)<|.inl {(rfl),rfl};exact{C,by rw[j];exact s2,by rw[j];exact wt,by rw[j];exact a4,t1,t2,by rw[j];exact a3}
inductive aZ(n:Nat)(ys:Z0)(L:qj)(Q:YK):Prop
 |mk:∀a,∀ks:WN,∀w:Wd,(ys=[.ref a,dH w])->(L a=⇑(vz ks))->(w.depth<=n)->(n<=120)->(w.ok)->(bA ks)->(ks.length+2*w.size<=10000)->(∀ms R tp sp p,L p=none->Fm ks w ms R tp sp->Q (.ref p) (qd (qd L a<|.lst<|vz<|ks++ms) p<|.lst [jp R,.int ((tp:Nat):Int),.int ((sp:Nat):Int)]))->aZ n ys L Q
def Ti:∀ys L Q,¬aZ 0 ys L Q:=by rintro ys L Q ⟨a,J,I,_,_,hd,_⟩;cases I<;>simp[Wd.depth] at hd
def zE{a p:Addr}{o x y:LO}(I:L a=some o)(hp:L p=none):qd (qd L a x) p y a=some x/\qd (qd L a x) p y p=some y/\∀b u,b≠a->L b=some u->qd (qd L a x) p y b=some u:=
 ⟨(qb<|vh I hp).trans q9,q9,λ_ _ n e=>(qb<|vh e hp).trans<|(qb n).trans e⟩
def uX{a p:Addr}{o x:LO}(I:L a=some o)(hp:qd L a x p=none):L p=none:=by
 have:p≠a:=λe=>by rw[e,q9] at hp;cases hp
 rw[qb this] at hp;exact hp
def a_:∀m:Nat,m<=20000->m<sizeLine:=λm h=>Bj h (by decide)
def Tj{FS:km}(hF:∀ys L Q,aQ 120 ys L Q->FS ys L Q)(n:Nat):ZY (aZ (n+1)) (S8 FS<|aZ n) 8:=by
 rintro ys L Q ⟨a,I,w,rfl,ha,hd,hn,C,hk,hb,q⟩;have big:=a_;cases w with
 |leaf t nm=>
  have hb:=hb;refine qc ha (hF _ _ _ {.leaf t nm,rfl,Cv _,qm ha {big _ (by rw[Ae];lia),?_}});refine qc q9 (qm q9 {big _ (by rw[Ab,Ae];simp;lia),?_});rw[jz];obtain⟨W,T⟩:∃W,W=vz (I++[Kn.lf (!t) nm,.lf t nm]):={_,rfl};have e1:(vz I++[dH (Wd.leaf t nm).turn])++[dH<|.leaf t nm]=W:=by rw[T];unfold vz;rw[AC,Ay];rfl
  have e2:W.length=I.length+2:=by rw[T,Ae,Ab];rfl
  have i1:((W.length:Nat):Int)-2=((I.length:Nat):Int):=by rw[e2];lia
  have i2:((W.length:Nat):Int)-1=((I.length+1:Nat):Int):=by rw[e2];lia
  have av:=e1
  first|rw[e1]|rw[av]
  refine qc q9<|qc q9<|qc q9<|qc q9 λp J=>?_;have np:=uX ha J;have:=q _ _ _ _ p np<|ug hk C;rw[<-T] at this;show gW Q (.ref p) (qd _ p<|.lst [.tup [.str "link",.int<|((W.length:Nat):Int)-2,.int<|((W.length:Nat):Int)-1],.int<|((W.length:Nat):Int)-2,.int<|((W.length:Nat):Int)-1]);rw[i1,i2];exact k8 this
 |node e l r=>
  have ba:max l.depth r.depth+1<=n+1:=hd;have hb:I.length+2*(1+l.size+r.size)<=10000:=hb;refine{a,I,l,rfl,ha,by lia,iT,C.1,hk,by lia,λU A tl sl p1 a5 ML=>?_};obtain⟨g,g1,o1⟩:=zE (x:=.lst<|vz<|I++U) (y:=.lst [jp A,.int ((tl:Nat):Int),.int ((sl:Nat):Int)]) ha a5;have ac:=AE<|vh ha a5;have bb:=ML.len;generalize qd (qd L a<|.lst<|vz<|I++U) p1 _=L1 at g g1 o1 ⊢;refine{a,I++U,r,rfl,g,by lia,iT,C.2,ML.ok,by rw[Ab];lia,λj B tr sr p2 al MR=>?_};obtain⟨a1,h2,o2⟩:=zE (x:=.lst<|vz<|(I++U)++j) (y:=.lst [jp B,.int ((tr:Nat):Int),.int ((sr:Nat):Int)]) g al;have aL:=AE<|vh g al;have h1:=o2 _ _ ac g1;have bc:=MR.len;generalize qd (qd L1 a<|.lst<|vz<|(I++U)++j) p2 _=L2 at a1 h1 h2 o2 ⊢;have bd:(vz<|(I++U)++j).length=I.length+U.length+j.length:=by rw[Ae,Ab,Ab]
  refine qc a1<|hF _ _ _ {.node e l r,rfl,by exact Fy,qc h1<|qc h2<|qm a1 {big _ (by lia),?_}};have a2:=λo=>(qb (L:=L2) (o:=o) ac).trans h1;have a3:=λo=>(qb (L:=L2) (o:=o) aL).trans h2;refine qc q9 (qc (a2 _) (qc (a3 _) (qm q9 {big _ (by rw[Ab];simp;lia),?_})));rw[jz];obtain⟨N,hN⟩:∃N,N=I.length+(U++j).length:={_,rfl};have M:=Th (e:=e) ML MR hN;obtain⟨W,T⟩:∃W,W=vz (I++(U++j++[.nd (!e) tl tr,.nd e sl sr])):={_,rfl};have e1:(vz ((I++U)++j)++[.tup [.str<|kN<|!e,.int ((tl:Nat):Int),.int ((tr:Nat):Int)]])++[.tup [.str<|kN e,.int ((sl:Nat):Int),.int ((sr:Nat):Int)]]=W:=by rw[T];unfold vz;simp[uR]
  rw[e1];have lN:W.length=N+2:=by rw[T,Ae,Ab,Ab,hN];simp;rfl
  have i1:((W.length:Nat):Int)-2=((N:Nat):Int):=by rw[lN];lia
  have i2:((W.length:Nat):Int)-1=((N+1:Nat):Int):=by rw[lN];lia
  refine qc q9<|qc q9 ?_;have done:∀p,qd L2 a (.lst W) p=none->∀R,Fm I (.node e l r) (U++j++[Kn.nd (!e) tl tr,.nd e sl sr]) R N (N+1)->
   gW Q (.ref p) (qd (qd L2 a<|.lst W) p<|.lst [jp R,.int ((N:Nat):Int),.int ((N+1:Nat):Int)]):=λp J R MM=>by
   have a4:p≠a:=λz=>by rw[z,q9] at J;cases J
   rw[qb a4] at J;have np:L p=none:=by cases z:L p with|none=>rfl|some o=>rw[o2 p o a4<|o1 p o a4 z] at J;cases J
   refine jI ?_<|q _ _ _ _ p np MM;rw[<-T];intro b o z;by_cases c1:b=p
   .subst c1;rw[q9] at z ⊢;exact z
   .rw[qb c1] at z ⊢;by_cases c2:b=a
    .subst c2;rw[q9] at z ⊢;exact z
    .rw[qb c2] at z ⊢;exact o2 b o c2<|o1 b o c2 z
  cases e with
  |true=>
   walk_at "w";refine qc (a2 _)<|qc (a3 _) λp J=>?_;show gW Q (.ref p) (qd _ p<|.lst [.tup [.str "either",.int<|((W.length:Nat):Int)-1,.tup [.str "both",.int<|((W.length:Nat):Int)-2,jp A,jp B]],.int<|((W.length:Nat):Int)-2,.int<|((W.length:Nat):Int)-1]);rw[i1,i2];exact done p J _ M
  |false=>
   walk_at "w";refine qc (a2 _)<|qc (a3 _) λp J=>?_;show gW Q (.ref p) (qd _ p<|.lst [.tup [.str "either",.int<|((W.length:Nat):Int)-2,.tup [.str "both",.int<|((W.length:Nat):Int)-1,jp A,jp B]],.int<|((W.length:Nat):Int)-2,.int<|((W.length:Nat):Int)-1]);rw[i1,i2];exact done p J _ M
variable {R:Ru}{ks ms:List Kn}{out wd:List<|Option Kn}
def fq:RD "places_there" fU 0 ["knots"] (λ_=>True):={_,λV B c _ _ _ _ _ _ _ I hN J=>(qe<|za<|cQ ["place","knot" ] (EW (by rfl)) rfl (cN rfl B.bf<|qv 0) (Jy 1) (λ_ _ _ _=>a6<|cM<|qv 2) λ_ _ _ _=>(qv 1))}
def i4:RD "eithers_of" iX 0 ["web"] (λ_=>True):={_,λV B c _ _ _ _ _ _ _ J hN I=>(qe<|za<|cQ ["place","knot" ] (EW (by rfl)) rfl (cN rfl B.bf<|J_ 0) (Jy 1) (λ_ _ _ _=>a6<|kj<|w9 (cM<|qv 2)<|vq<|E_ I (J_ 2) j6) λ_ _ _ _=>(qv 1))}
def fj:WO->Y
 |none=>.KB
 |some k=>uR k
abbrev dY(ks:List<|WO):Z0:=ks.map fj
def eV(f:WO->Bool)(ks:List<|WO)(i:Nat):Wt:=(List.range i).filter λp=>match ks[p]? with
 |some k=>f k
 |none=>false
def wz{f:WO->Bool}{ks:List<|WO}{k:WO}(h:ks[i]?=some k):eV f ks (i+1)=eV f ks i++if f k=true then [i] else []:=by unfold eV;rw[EH,BE];congr 1;rw[List.filter_cons];simp only[h,BX]
def sW{f:WO->Bool}{ks:List<|WO}{p:Nat}(h:p∈eV f ks i):p<i/\∃k,ks[p]?=some k/\f k=true:=by
 obtain⟨h1,h2⟩:=Bu.mp h;refine{A9.mp h1,?_};split at h2
 .rename_i k e;exact{(k),e,h2}
 .cases h2
def JQ(f:WO->Bool)(ks:List<|WO)(i:Nat):(eV f ks i).length<=i:=by exact AK (Cu _ _) (by rw[Bh];simp +arith only)
def fN:WO->Bool
 |some _=>true
 |none=>false
def xi(e:Bool):WO->Bool
 |some (.nd I _ _)=>decide<|I=e
 |_=>false
abbrev qu(ks:List<|WO):Wt:=eV fN ks ks.length
abbrev cD(e:Bool)(ks:List<|WO):Wt:=eV (xi e) ks ks.length
def aT(a b:Wt):nY (a++b)=nY a++nY b:=by unfold nY;rw[AC]
def cX(h:(nY hs)[i]?=some y):∃n,hs[i]?=some n/\y=.int (n:Int):=by unfold nY at h;rw[Aq] at h;obtain⟨n,I,J⟩:=AA.mp h;exact{(n),I,J.symm}
def u4{f:WO->Bool}{ks:List<|WO}{keep:qj->Prop}{Q:YK}(hz:ks.length<=1000)(j:keep L)
 (turn:∀(i:Nat) (k:WO) (R:Z0->qj->Prop) zs,ks[i]?=some k->(f k=true->R (zs++[.int (i:Int)]) L)->(f k=false->R zs L)->g (.tup [.int (i:Nat),fj k]) (τ++List.replicate 2 none) L λI L2=>tc I L2 λb L3=>ao b (te I L3 λz l=>R (zs++[z]) l)<|R zs L3)
 (o:∀p,L p=none->Q (.ref p) (qd L p<|.lst<|nY<|eV f ks ks.length)):y8 (l5<|dY ks) keep 2 g tc te τ L Q:=by
 refine bQ (λi zs=>zs=nY (eV f ks i)) (by rw[ae,Ae];exact Bj hz (by decide)) j rfl ?_ ?_
 .rintro i y zs r rfl;obtain⟨z,U,rfl⟩:=bY r;rw[Aq] at U;obtain⟨k,J,rfl⟩:=AA.mp U;refine turn i k _ _ J (λh=>{L,ES _,rfl,?_}) λh=>{L,ES _,rfl,?_}
  .rw[wz J,Ar h,aT];rfl
  .rw[wz J,Ap (by rw[h];exact AI),AB]
 .rintro zs rfl;rw[ae,Ae];exact o
inductive bM(ys:Z0)(L:qj)(Q:YK):Prop
 |mk:∀a,∀ks:List (WO),(ys=[.ref a])->(L a=⇑(dY ks))->(ks.length<=1000)->(∀p,L p=none->Q (.ref p) (qd L p<|.lst<|nY<|qu ks))->bM ys L Q
def Tk:ZY bM fq.1 1:=by
 rintro ys L Q ⟨a,j,rfl,I,J,q⟩;refine j7 I λkeep U=>u4 (f:=fN) J (U L rfl) (λi k R l o h1 h2=>?_) λp g=>k8<|q p g;cases k with
 |none=>exact h2 rfl
 |some k=>cases k<;>exact h1 rfl
abbrev e9(a l c:Addr):Y:=.tup [.ref a,.ref l,.ref c]
inductive fw(ys:Z0)(L:qj)(Q:YK):Prop
 |mk:∀a l c,∀ks:List (WO),(ys=[e9 a l c])->(L a=⇑(dY ks))->(ks.length<=1000)->(∀p,L p=none->Q (.ref p) (qd L p<|.lst<|nY<|cD true ks))->fw ys L Q
def To:ZY fw i4.1 1:=by
 rintro ys L Q ⟨a,l,c,o,rfl,I,J,q⟩;refine j7 I λkeep U=>u4 (f:=xi true) J (U L rfl) (λi k R r C h1 h2=>?_) λp g=>k8<|q p g;cases k with
 |none=>exact h2 rfl
 |some k=>
  cases k with
  |lf t n=>cases t<;>exact h2 rfl
  |nd e i j=>
   cases e with|true=>exact h1 rfl|false=>exact h2 rfl
def Tp(a b:Nat):min (a:Int) (b:Int)=((min a b:Nat):Int):=by omega
def Tq(a b:Nat):max (a:Int) (b:Int)=((max a b:Nat):Int):=by omega
def jM(p:WB):Y:=.tup [.int ((p.1:Nat):Int),.int ((p.2:Nat):Int)]
abbrev qt(l:Wp):Z0:=l.map jM
section
open PySem.W PySem.Calls
section
variable {w:WF}
abbrev Os(kx px:Str)(p1 p2 p3 p4 p5:Pos)(n:Nat):Expr:=.Tuple [.Subscript (.Name kx p1) (.Name px p2) p3,.Name px p4] n p5
structure og(h:WG)(f:Addr)(kx px:Str)(scope:Scope)(kvs:Wr):Prop where
 ex:∃(name eh:Str) (params:Arguments) (p1 p2 p3 p4 p5:Pos) (n:Nat) (pm ctv:WC) (c' cell k:Addr),h.get? f=some (kla_obj name eh params (Os kx px p1 p2 p3 p4 p5 n) scope [(kx,cell)] pm c' ctv)/\h.CodeRec (.ref c') eh/\
  h.IsCell cell (some<|.ref k)/\h.IsList k kvs.toArray/\∀v:WC,bindArgs (kla_fn name eh params (Os kx px p1 p2 p3 p4 p5 n) scope [(kx,cell)] pm (.ref c') ctv) ⟨[v],[]⟩=pure [(px,v)]
 lim:h.NoLimit
structure Xd(scope:Scope)(kx px:Str):Prop where
 kind:scope.kind=.function
 co:scope.isCoroutine=false
 gen:scope.isGenerator=false
 nc:∀x∈scope.names,x.2≠.cell
 lp:scope.names.lookup px=some .local
 lk:scope.names.lookup kx=some .free
 d1:(kx==("__debug__" : Str))=false
 d2:(px==("__debug__" : Str))=false
 d3:(kx==("__classdict__" : Str))=false
theorem og.keeps{kvs:Wr}(k:og h f kx px scope kvs)(J:∀b o,h.get? b=some o->h'.get? b=some o):og h' f kx px scope kvs:=by
 obtain⟨name,U,I,p,r,t,C,T,n,pm,l,c',cell,kk,g1,g2,g3,g4,g5⟩:=k.ex;refine{{name,U,I,p,r,t,C,T,n,pm,l,c',cell,kk,J _ _ g1,?_,?_,?_,g5},k.lim.keeps J}
 .obtain⟨c,oc,vs,tq,g,j,e3⟩:=g2;exact{c,oc,vs,tq,g,J _ _ j,e3}
 .obtain⟨o,g,j⟩:=g3;exact{o,J _ _ g,j}
 .obtain⟨o,g,j⟩:=g4;exact{o,J _ _ g,j}
def Ts{kvs:Wr}{u t:Tok}{r:Int}(K:og s.heap f kx px scope kvs)(S:Xd scope kx px)(J:A.depth<recursionLimit)(hi:kvs[i]?=some (.int r t))(a1:i<2 ^ 40)
 (h:∀h' tk a,(∀b o,s.heap.get? b=some o->h'.get? b=some o)->h'.get? a=some {cls:=.type "tuple",data:=.seq #[.int r t,.int (i:Int) u]}->Q (.ref a) {s with heap:=h',toks:=tk}):
 wpAny (model prog w) A (call (.ref f) [.int (i:Int) u]) Q E s:=by
 obtain⟨name,U,l,p1,p2,p3,p4,p5,n,pm,a2,c',cell,kk,g1,g2,g3,g4,g5⟩:=K.ex;refine wpAny_call<|kla_callFunE J g1 rfl S.co S.gen rfl g2 ?_;rw[g5];refine Ak (wpAny_newFunctionEnv S.nc (λx hx=>by rw[Ad.mp hx];exact S.lp) (λI g j=>{K.lim.fresh _ j,?_}) S.kind);have p:∀b o,s.heap.get? b=some o->I.get? b=some o:=λb o e=>j.extBut b o (A3<|u3 e)<|sy _ e;refine kla_codeExpr ?_;have look:(([(px,Value.int (i:Int) u)]:List<|Str×WC).reverse.lookup px)=some (.int (i:Int) u):=by simp
 have kf:=S.lk;have kp:=S.lp;have cl:(envX U scope ↥s f (.ref c') [(kx,cell)]).cells.lookup kx=some cell:=by simp
 have ic:I.IsCell cell (some<|.ref kk):=by obtain⟨o,C,T⟩:=g3;exact{o,p _ _ C,T}
 have il:I.IsList kk kvs.toArray:=by obtain⟨o,C,T⟩:=g4;exact{o,p _ _ C,T}
 refine wpAny_Tuple_spliced<|yp<|Subscript_<|wpAny_Name (wpAny_loadName_free S.kind kf cl ic (wpAny_Name (wpAny_loadName_local S.kind kp g look ?_) S.d2) S.d3) S.d1;refine item_listL il (A1 _) (by omega) (by rw[show((i:Nat):Int).toNat=i from rfl];exact hi) ?_;refine yp<|wpAny_Name (wpAny_loadName_local S.kind kp g look ?_) S.d2;refine Fg {by show 2<=sizeLine;decide,?_};exact h _ _ _ (λb o e=>sy _<|p b o e)<|vb _ rfl
end
def Xm(x:Nat×Tok):WC:=.int (x.1:Int) x.2
def Hi(h:WG)(kS:Addr)(rk:Nat->Int)(k:WC)(x:Nat×Tok):Prop:=∃a t u,k=.ref a/\a≠kS/\h.get? a=some {cls:=.type "tuple",data:=.seq #[.int (rk x.1) t,.int (x.1:Int) u]}
def lW(h:WG)(kS:Addr)(rk:Nat->Int):Wr->List (Nat×Tok)->Prop
 |[],[]=>True
 |k::ks,x::xs=>Hi h kS rk k x/\lW h kS rk ks xs
 |_,_=>False
theorem lW.len{h:WG}{kS:Addr}{rk:Nat->Int}:∀{ks:Wr} {xs:List<|Nat×Tok},lW h kS rk ks xs->ks.length=xs.length
 |[],[],_=>rfl
 |_::_,_::_,⟨_,b⟩=>by rw[AD,AD,lW.len b]
 |[],_::_,z=>z.elim
 |_::_,[],z=>z.elim
theorem lW.mem{h:WG}{kS:Addr}{rk:Nat->Int}:∀{ks:Wr} {xs:List<|Nat×Tok},lW h kS rk ks xs->∀t∈ks.zip xs,Hi h kS rk t.1 t.2
 |[],[],_,t,I=>by cases I
 |_::_,_::_,⟨a,b⟩,t,I=>by
  rw[DX] at I;rcases Aw.mp I with rfl|I
  .exact a
  .exact lW.mem b t I
 |[],_::_,z,_,_=>z.elim
 |_::_,[],z,_,_=>z.elim
section
variable {w:WF}
theorem JR{g:WG}{f:Addr}{kx px:Str}{scope:Scope}{kvs:Wr}{kS:Addr}{rk:Nat->Int}{body:WC->PUnit->Sem (ForInStep PUnit)}(K:og g f kx px scope kvs)(S:Xd scope kx px)(I:A.depth<recursionLimit)(hn:g.get? kS=none)
 (hb:∀(x:WC) (s:WD) (Q':ForInStep PUnit->WD->Prop),wpAny (model prog w) A (call (.ref f) [x]) (λk s'=>wpAny (model prog w) A (Builtin.List.listUpdate (.ref kS) (·.push k)) (λ_ C=>Q' (.yield ⟨⟩) C) E s') (λ_ _=>False) s->wpAny (model prog w) A (body x ⟨⟩) Q' E s):
 ∀(ps:List<|Nat×Tok) (ks:Wr) (e:Nat) (s:WD) (Q:PUnit->WD->Prop),(∀b o,g.get? b=some o->s.heap.get? b=some o)->s.heap.get? kS=some (seqObj "list" ks.toArray e)->ks.length+ps.length<=100000->
  (∀x∈ps,x.1<2 ^ 40/\∃t,kvs[x.1]?=some (.int (rk x.1) t))->
  (∀h' tk j T,(∀b o,b≠kS->s.heap.get? b=some o->h'.get? b=some o)->h'.get? kS=some (seqObj "list" (ks++j).toArray T)->lW h' kS rk j ps->Q ⟨⟩ {s with heap:=h',toks:=tk})->
  wpAny (model prog w) A (forIn (ps.map Xm) PUnit.unit body) Q E s
 |[],ks,e,s,Q,hg,hk,hz,hp,q=>by rw[DO,EK];exact Ak (q s.heap s.toks [] e (λ_ _ _ h=>h) (by rw[AB];exact hk) trivial)
 |x::r,ks,e,s,Q,hg,hk,hz,hp,q=>by
  rw[AQ,Dh];rw[AD] at hz;obtain⟨a1,t,ht⟩:=hp x<|As ..;have big:(100000:Nat)+1<=sizeLine:=by rw[sizeLine_eq];exact DJ _ _
  refine Aa<|hb (Xm x) s _<|Ts (K.keeps hg) S I ht a1 λh1 l a k1 ha=>?_;have J:=k1 _ _ hk;have s1:=ya h1 kS (Obj.mapSeq (·.push (.ref a)));have ea:ks.toArray.push (.ref a)=List.toArray (ks++[.ref a]):=by simp
  obtain⟨c2,a2⟩:∃c2,(h1.update kS (Obj.mapSeq (·.push (.ref a)))).get? kS=some (seqObj "list" (List.toArray<|ks++[.ref a]) c2):={_,by rw[<-ea];exact get?_update_seq J (·.push (.ref a))};have p:a≠kS:=λz=>by
   rw[z,J] at ha;have:=Bt (λo:Option Obj=>o.map (·.cls)) ha;have z2:=this;injection z2 with z3
   injection z3 with z4
   exact absurd z4 (by decide)
  refine listUpdate_at (s:={s with heap:=h1,toks:=l}) J rfl ?_ (by rw[Ax];lia) (AK (Dr<|Bw ..) (by rw[Ax];lia));refine JR K S I hn hb r (ks++[.ref a]) c2 {s with heap:=h1.update kS (Obj.mapSeq (·.push (.ref a))),toks:=l} Q (λb o e=>?_) a2 (by rw[Ab,AF];lia) (λy hy=>hp y<|Al _ hy) λh' tk j T kk a3 vs=>?_
  .have nb:b≠kS:=λz=>by rw[z,hn] at e;cases e
   exact(s1.2 b nb).trans (k1 b o<|hg b o e)
  .have U:∀b o,b≠kS->h1.get? b=some o->h'.get? b=some o:=λb o nb e=>kk b o nb<|(s1.2 b nb).trans e;refine q h' tk (.ref a::j) T (λb o nb e=>U b o nb<|k1 b o e) (by rw[a3,Ay];rfl) {{a,t,x.2,rfl,p,U a _ p ha},vs}
end
section
variable {w:WF}
def Tt{g:WG}{kvs:Wr}{kS a:Addr}{rk:Nat->Int}{ps:List<|Nat×Tok}{e1 e0:Nat}{B:Int}{P:PySem.Fin->WD->Prop}(K:og g f kx px scope kvs)(S:Xd scope kx px)(I:A.depth<recursionLimit)(hn:g.get? kS=none)
 (hg:∀b o,g.get? b=some o->s.heap.get? b=some o) (hk:s.heap.get? kS=some (seqObj "list" #[] e0)) (ha:s.heap.get? a=some (seqObj "list" #[] e1)) (l:kS≠a) (hz:ps.length<=127)
 (hp:∀x∈ps,x.1<2 ^ 40/\∃t,kvs[x.1]?=some (.int (rk x.1) t)) (hB:∀x∈ps,((x.1:Nat):Int)<B) (nd:(ps.map (·.1)).Nodup)
 (h:∀h' tk (qs:List<|Nat×Tok) c,(∀b o,b≠kS->b≠a->s.heap.get? b=some o->h'.get? b=some o)->h'.get? a=some (seqObj "list" (qs.map Xm).toArray c)->qs.Perm ps->(qs.Pairwise λx y=>rk x.1*B+(x.1:Int)<=rk y.1*B+(y.1:Int))->P (.done<|.ret .none) {s with heap:=h',toks:=tk}):
 wpAny (model prog w) A (ksk_rest a (.ref f) false (ps.map Xm).toArray e1<|.ref kS) P E s:=by
 refine Aa<|Bv ?_;rw[List.forIn_toArray];refine Aa (JR (rk:=rk) K S I hn (λx s' Q' hx=>?_) ps [] e0 s _ hg hk (by simp;lia) hp λh' tk ks e' keep J kv=>?_)
 .refine Aa (wpAny_attempt<|AX hx (λk a5 hk=>?_) λ_ _ hF=>hF.elim)
  try dsimp only
  exact Aa<|AX hk (λ_ s3 q=>Ak q) λ_ _ e=>e
 .try dsimp only
  rw[CP] at J;refine Aa<|listItems_at (s:={s with heap:=h',toks:=tk}) J rfl ?_;have a1:=keep _ _ (AE l) ha;have len:=kv.len;obtain⟨T,C⟩:∃T,T=ks.zip ps:={_,rfl};have kT:∀t∈T,Hi h' kS rk t.1 t.2:=λt p=>kv.mem t<|C▸p;have e2:T.map (·.2)=ps:=by rw[C];exact List.map_snd_zip (by lia)
  have ez:ks.zip (ps.map Xm)=T.map λt=>(t.1,Xm t.2):=by rw[C,List.zip_map_right];rfl
  have mp:∀t∈T,t.2∈ps:=λt p=>by rw[<-e2];exact De p
  have nT:∀t∈T,num h' B (t.1,Xm t.2)=rk t.2.1*B+(t.2.1:Int):=λt p=>by obtain⟨b,tt,u,r,x2,x3⟩:=kT t p;exact W8 r x3 rfl
  refine SI (s:={s with heap:=h',toks:=tk}) (vs:=ps.map Xm) (ks:=ks) (B:=B) J a1 l (by rw[Ae];exact len) (by rw[Ae];exact hz) (λv hv=>?_) λh2 a2 xs c U hc pm pw=>?_
  .obtain⟨j,hj⟩:=BZ hv;have a3:j<ps.length:=by rw[<-len];exact(AM.mp hj).1
   have hm:(v,ps[j])∈T:=by rw[C];refine List.mem_iff_getElem?.mpr {j,?_};rw[List.getElem?_zip_eq_some];exact{hj,Ai a3}
   obtain⟨b,tt,u,r,x2,x3⟩:=kT _ hm;have r:=r;exact{b,_,_,_,_,tt,u,r,x3,rfl,rfl,A1 _,hB _<|mp _ hm}
  .rw[ez] at pm;obtain⟨T',pT,a4⟩:=Xx _ pm rfl;subst a4;have mT:∀t,t∈T'->t∈T:=λt=>pT.mem_iff.mp;refine h h2 a2 (T'.map (·.2)) c (λb o n1 n2 e=>?_) ?_ ?_ ?_
   .rw[U b n1 n2];exact keep b o n1 e
   .rw[hc,BW,BW];rfl
   .rw[<-e2];exact pT.map _
   .refine BR.mpr<|El (λ{x y} hx hy z=>?_)<|BR.mp pw;rw[nT x<|mT x hx,nT y<|mT y hy] at z;exact z
def XS{kvs:Wr}{rk:Nat->Int}{ps:List<|Nat×Tok}{B:Int}(K:og s.heap f kx px scope kvs)(S:Xd scope kx px)(j:A.in1.in1.depth<recursionLimit)
 (hl:s.heap.IsList l (ps.map Xm).toArray) (hz:ps.length<=127)
 (hp:∀x∈ps,x.1<2 ^ 40/\∃t,kvs[x.1]?=some (.int (rk x.1) t)) (hB:∀x∈ps,((x.1:Nat):Int)<B) (nd:(ps.map (·.1)).Nodup)
 (h:∀h' tk (qs:List<|Nat×Tok) D c,↥s<=D->(∀b o,s.heap.get? b=some o->h'.get? b=some o)->h'.get? D=some (seqObj "list" (qs.map Xm).toArray c)->qs.Perm ps->(qs.Pairwise λx y=>rk x.1*B+(x.1:Int)<=rk y.1*B+(y.1:Int))->Q (.ref D) {s with heap:=h',toks:=tk}):
 wpAny (model prog w) A (call (.builtin "sorted") [.ref l] [(Str.ofString "key",.ref f)]) Q E s:=by
 have big:(100000:Nat)+1<=sizeLine:=by rw[sizeLine_eq];lia
 have a2:(ps.map Xm).length<=100000:=by rw[Ae];lia
 refine call_function_entry_kw kind_sorted plain_sorted entry_sorted (ksk_s1 _ _) ?_;refine Aa (m:=checkCount "sorted" 1 1 _)<|Ak ?_;refine Aa<|collect_list hl ?_<|fu;refine Aa<|wpAny_newList ?_ (by lia);obtain⟨g1,C⟩:∃g1,g1=(s.heap.push<|seqObj "list" #[] 0).update ↥s (Obj.mapSeq (· ++ (ps.map Xm).toArray)):={_,rfl};have T:g1.objs.size=↥s+1:=by rw[C,Heap.size_update,size_push']
 have gk:∀b o,s.heap.get? b=some o->g1.get? b=some o:=λb o q=>by have J:=u3 q;rw[C,Heap.get?_update_ne _ _ _ _<|A3 J];exact sy _ q
 rw[<-C];have I:(g1.push<|seqObj "list" (ps.map Xm).toArray 0).get? g1.objs.size=some (seqObj "list" (ps.map Xm).toArray 0):=vb _ rfl;have keep:∀b o,s.heap.get? b=some o->(g1.push<|seqObj "list" (ps.map Xm).toArray 0).get? b=some o:=λb o q=>sy _<|gk b o q;refine Aa<|Bc<|wpAny_call_entry_kw slot_list_sort {_,I,rfl} entry_list_sort ?body<|ksk_l1 _ _
 case body=>
  obtain⟨D,eD⟩:∃D,D=g1.objs.size:={_,rfl};rw[<-eD] at I ⊢;rw[ksk_t1];obtain⟨g2,p⟩:∃g2,g2=g1.push (seqObj "list" (ps.map Xm).toArray 0):={_,rfl};rw[<-p] at I keep ⊢;have s1:=ya g2 D<|Obj.mapSeq λ_=>(#[]:Ws);obtain⟨e1,r⟩:∃e1,(g2.update D<|Obj.mapSeq λ_=>(#[]:Ws)).get? D=some (seqObj "list" #[] e1):={_,get?_update_seq I λ_=>#[]};have nD:∀b o,s.heap.get? b=some o->b≠D:=λb o q z=>by have J:=u3 q;rw[z,eD,T] at J;exact Nat.not_succ_lt_self J
  refine Aa<|listItems_at (s:={s with heap:=g2}) I rfl ?_;refine Aa (listUpdate_at (s:={s with heap:=g2}) I rfl ?_ (by rw[Ax];exact fu)<|A5 _);refine Aa<|seqEpoch_at r rfl ?_;refine Aa<|wpAny_newTuple ?_ (by lia);refine Aa<|wpAny_newList ?_<|A5 _;refine Bc ?_;obtain⟨g3,U⟩:∃g3,g3=(g2.update D<|Obj.mapSeq λ_=>(#[]:Ws)).push (seqObj "tuple" (ps.map Xm).toArray 0):={_,rfl};have k3:∀b o,s.heap.get? b=some o->g3.get? b=some o:=λb o q=>by rw[U];exact sy _<|(s1.2 b<|nD b o q).trans<|keep b o q
  have d3:g3.get? D=some (seqObj "list" #[] e1):=by rw[U];exact sy _ r
  rw[<-U];have a1:(g3.push<|seqObj "list" #[] 0).get? g3.objs.size=some (seqObj "list" #[] 0):=vb _ rfl;refine Tt (s:={s with heap:=g3.push (seqObj "list" #[] 0)}) (g:=s.heap) (kS:=g3.objs.size) (a:=D) (rk:=rk) (B:=B) K S j (Heap.get?_none_of_le ?_) (λb o q=>sy _<|k3 b o q) a1 (sy _ d3) ?_ hz hp hB nd λh' tk qs c kp hD pm pw=>?_
  .have l1:g3.objs.size=g1.objs.size+2:=by rw[U,size_push',Heap.size_update,p,size_push']
   rw[l1,T];exact AK (Cy _)<|Bf _ 2
  .exact(A3<|u3 d3).symm
  .refine{_,rfl,Ak {_,rfl,h h' tk qs D c (by rw[eD,T];exact Cy _) (λb o q=>?_) hD pm pw}};exact kp b o (A3<|u3<|k3 b o q) (nD b o q)<|sy _<|k3 b o q
end
end
def tH{i j:Int}{t u:Tok}{c:WC}(l:Wr)(h:TriplesOk l):TriplesOk (l++[.int i t,.int j u,c]):=by
 fun_induction TriplesOk l with
 |case1=>trivial
 |case2 _ _ _ _ _ rest I=>exact I h
 |case3=>exact h.elim
def wI{i j:Int}{t u:Tok}{c I:WC}(l:Wr)(h:TriplesOk l)(e:codeAmong pos (l++[.int i t,.int j u,c])=some I):codeAmong pos l=some I\/I=c:=by
 fun_induction TriplesOk l with
 |case1=>
  right;have e:(if i==pos.line&&j==pos.col then some c else none)=some I:=e;split at e
  .cases e;rfl
  .cases e
 |case2 a _ b _ d rest J=>
  have e:(if a==pos.line&&b==pos.col then some d else codeAmong pos (rest++[.int i t,.int j u,c]))=some I:=e;show(if a==pos.line&&b==pos.col then some d else codeAmong pos rest)=some I\/I=c;split at e
  .rename_i z;rw[Ar z];exact .inl e
  .rename_i z;rw[Ap z];exact J h e
 |case3=>exact h.elim
structure Fo(K:Ag)(eW:WC)(P:Addr):Prop where
 ex:∃c oc,eW=.ref c/\K.lookup c=some oc/\∀h:WG,h.get? c=some oc->PySem.W.CodeHd h c P
 bm:∃bm ob,PySem.W.nsIn K mainGlobals "__builtins__"=some (some<|.ref bm)/\bm≠builtinsNs/\bm≠mainGlobals/\K.lookup bm=some ob/\ob.cls=.type "module" /\ ob.dict=some builtinsNs/\ob.data=.plain
theorem uG:∀{l:Wt} {us:Wr},zk (l.map λi:Nat=>V.int<|0+(i:Int)) us->∃ps:List (Nat×Tok),us=ps.map Xm/\ps.map (·.1)=l
 |[],_,.nil=>{[],rfl,rfl}
 |i::r,_,.cons (b:=u) h t=>by obtain⟨ps,J,U⟩:=uG (l:=r) t;obtain⟨I,g⟩:=(show ∃I,u=Value.int (0+(i:Int)) I from h);refine{(i,I)::ps,?_,by rw[AQ,U]};rw[AQ,J,g];show _=Value.int (i:Int) I::_;rw[EC]
theorem wF:∀ps:List (Nat×Tok),zk (ps.map λx=>V.int ((x.1:Nat):Int))<|ps.map Xm
 |[]=>.nil
 |x::r=>.cons {(x.2),rfl}<|wF r
def Tu(P:Addr)(q:Str)(J:Nat)(te:TE):TE:=λσ H Q=>te σ H λv H1=>∃l I,∃n:Nat,∃rks:Wx,v=.ref l/\H1 l=⇑(((List.range n).map λi:Nat=>V.int<|0+(i:Int)))/\σ[J]?=some (some<|.ref I)/\H1 I=⇑(rks.map V.int)/\rks.length=n/\n<=127/\vT H1 P q/\
 ∀H2 D (qs:Wt),(∀b u,b≠P->H1 b=some u->H2 b=some u)->vT H2 P q->H1 D=none->D≠P->H2 D=⇑((qs.map λi:Nat=>V.int (i:Int)))->qs.Perm (List.range n)->(qs.Pairwise λi j=>rks.getD i 0*1000000+(i:Int)<=rks.getD j 0*1000000+(j:Int))->Q (.ref D) H2
def Tv{kk cell c':Addr}{J:Arguments}{g:WC}{Q:VK}(I:qx X pins σ H s)(S:Xd fm kx px)(hr:X.A.depth+3<recursionLimit)
 (hf:s.heap.get? f=some (PySem.W.kla_obj name eh J (Os kx px p1 p2 p3 p4 p5 x1) fm [(kx,cell)] pm c' g)) (a1:s.heap.CodeRec (.ref c') eh) (p:s.heap.IsCell cell<|some<|.ref kk)
 (hb:∀v:WC,bindArgs (PySem.W.kla_fn name eh J (Os kx px p1 p2 p3 p4 p5 x1) fm [(kx,cell)] pm (.ref c') g) ⟨[v],[]⟩=pure [(px,v)])
 (hl:H l=⇑(((List.range n).map λi:Nat=>V.int<|0+(i:Int)))) (hk:H kk=⇑(rks.map V.int)) (hn:rks.length=n) (hz:n<=127)
 (q:∀D (qs:Wt),H D=none->qs.Perm (List.range n)->(qs.Pairwise λi j=>rks.getD i 0*1000000+(i:Int)<=rks.getD j 0*1000000+(j:Int))->Q (.ref D) (upd H D<|.lst (qs.map λi:Nat=>V.int (i:Int)))):
 ZZ X (call (.builtin "sorted") [.ref l] [(Str.ofString "key",.ref f)]) (EP X pins σ Q) X.xe s:=by
 obtain⟨a4,rv,pl,_⟩:=I.list<|FA hl;obtain⟨C,rk,pk,_⟩:=I.list<|FA hk;obtain⟨ps,rfl,U⟩:=uG rv;have lp:ps.length=n:=by have:=Bt List.length U;rwa[Ae,Bh] at this
 have big:(100000:Nat)<=sizeLine:=by decide
 refine ji I.tk<|XS (rk:=λi=>rks.getD i 0) (B:=1000000) (kvs:=C) {{(name),eh,J,p1,p2,p3,p4,p5,x1,pm,g,c',cell,kk,hf,a1,p,pk.isList,hb},I.nolimit} S ?_ pl.isList (by lia) (λx hx=>?_) (λx hx=>?_) ?_ λh' tk qs D c hD keep hg T pw ht=>?_
 .show X.A.depth<recursionLimit;lia
 .have r:x.1∈List.range n:=by rw[<-U];exact De hx
  have a2:=A9.mp r;refine{by lia,?_};have e1:(rks.map V.int)[x.1]?=some (V.int<|rks.getD x.1 0):=by rw[Aq,Ai (by lia),A2,Ai (by lia)];rfl
  obtain⟨u,e2,r2⟩:=Paired.Yp rk e1;obtain⟨t,rfl⟩:=(show ∃t,u=Value.int (rks.getD x.1 0) t from r2);exact{(t),e2}
 .have r:x.1∈List.range n:=by rw[<-U];exact De hx
  have a2:=A9.mp r;omega
 .rw[U];exact CI
 .have a3:=I.GT.fresh hD;refine{.ref D,_,I.laid (t':=tk) (o:=.lst ((qs.map (·.1)).map λi:Nat=>V.int (i:Int))) keep hD ?_,rfl,q D (qs.map (·.1)) a3 ?_ ?_}
  .refine{?_,qs.map Xm,c,?_,hg}
   .rw[Ae,Ae,T.length_eq];lia
   .rw[BW];exact wF qs
  .rw[<-U];exact T.map _
  .exact BR.mpr pw
def qx.Y4{P U:Addr}{ps more:Ws}{oc fo:Obj}{tk:Nat}(I:qx X pins σ H s)(T:H P=some (.Xn ps))(hx:Heap.ExtBut P s.heap h')(g:h'.get? P=some (PySem.W.tabObj<|ps++more))
 (hc:↥s<=U) (j:h'.get? U=some oc) (ht:0<tk):qx X pins σ (upd (upd H P<|.Xn<|ps++more) U<|.Pv oc<|.own 0) {s with heap:=h'.push fo,toks:=tk}:=by
 have nc:=I.GT.fresh hc;have t:∀b,H b=none->b≠P:=λb e z=>by rw[z,T] at e;cases e
 have l:∀b u,H b=some u->b≠U:=λb u e z=>by rw[z,nc] at e;cases e
 have p:∀b o,s.heap.get? b=some o->b≠U:=λb o e=>A3<|AS (u3 e) hc;have C:∀b o,b≠P->s.heap.get? b=some o->(h'.push fo).get? b=some o:=λb o n e=>sy _<|hx b o n e;have J:∀b u,H b=some u->(∀ps,u≠.Xn ps)->b≠P:=λb u e d z=>by rw[z,T] at e;cases e;exact d _ rfl
 refine I.step (ch:=[]) (g':=s.gens) (d':=s.drawn) (t':=tk) (λ_ z=>nomatch z) (λb o _ _ _ e n=>C b o (t b n) e) (λb o _ _ _ e n=>{o.slots,C b o (t b n) e}) (λb o _ e n=>?_) (λb o _ e=>?_) (λb xs e=>?_) (λb o u e=>?_) (λb qs e=>?_) (λm hm=>?_) (λb u e=>?_) I.bare ht
 .rw[qo<|p b o e,qo<|t b n];exact n
 .by_cases c:b=P
  .subst c;exact{_,sy _ g}
  .exact{o,C b o c e}
 .rw[qo<|l b _ e,qo (J b _ e λ_ z=>by cases z)];exact e
 .rw[qo<|l b _ e,qo (J b _ e λ_ z=>by cases z)];exact e
 .rw[qo<|l b _ e];by_cases c:b=P
  .subst c;rw[T] at e;cases e;exact{(more),zf}
  .rw[qo c];exact{#[],by rw[e];simp}
 .exact(hm.extBut hx<|t _ I.free).push _
 .by_cases c:b=U
  .subst c;rw[zf] at e;cases e;exact{sy _ j,_,sy _ j}
  .rw[qo c] at e;by_cases d:b=P
   .subst d;rw[zf] at e;cases e;exact sy _ g
   .rw[qo d] at e;refine(I.GT b u e).SZ (λa v ha r=>C a v ?_ r) (λa r=>?_) (λa xs r=>?_)
    .rcases ha with rfl|ha
     .exact d
     .exact J a _ ha λ_ z=>by cases z
    .rw[qo<|l a _ r,qo (J a _ r λ_ z=>by cases z)];exact r
    .rw[qo<|l a _ r,qo (J a _ r λ_ z=>by cases z)];exact r
def Tw{te:TE}{J:Arguments}{U:Pos}{ik:Nat}{P:Addr}(hg:Gl X "sorted")(hm:X.mg "sorted"=none)(he:PE X e te)(S:Xd fm kx px)(C:Fo X.K X.env.code P)(hr:X.A.depth+3<recursionLimit)
 (hq:X.env.qual ++ "<lambda>" = q) (bq:X.N[ik]?=some kx) (ba:X.env.scope.names.lookup kx=some .cell) (bb:∃cell,X.env.cells.lookup kx=some cell/\closureFor fm X.env=pure [(kx,cell)])
 (bc:defaultsOf J X.env=([],[])) (hb:∀(name eh:Str) (cl:List<|Str×Addr) (pm cd ct v:WC),bindArgs (PySem.W.kla_fn name eh J (Os kx px p1 p2 p3 p4 p5 x1) fm cl pm cd ct) ⟨[v],[]⟩=pure [(px,v)])
 (h1:starEach [e] X.env=(false,eval e X.env)::starEach [] X.env:=by rfl) (h2:(backTo pos<|starEach [e] X.env).any (·.1)=false:=by rfl)
 (h3:backTo pos (starEach [e] X.env)=(false,eval e X.env)::backTo pos (starEach [] X.env):=by rfl):
 PE X (.Call (.Name "sorted" p) [e] [{some "key",.Lambda J (Os kx px p1 p2 p3 p4 p5 x1) fm U,pj}] pos) (Tu P q ik te):=by
 intro a1 s σ H Q I h;refine wpAny_Call_Name_kw<|hU I hg hm (by decide +kernel:bootBuiltins "sorted"=some (.builtin "sorted")) ?_ (by decide) (by decide);refine PyProof.Rows.callWith_kw ?_ h3 h2;rw[h3];refine yp<|aD (he a1 s σ H _ I h) λv s1 ⟨x,H1,g,rx,l,kk,n,rks,ev,hl,hs,hk,hn,hz,T,qq⟩=>?_;refine Fg ?_;subst ev;cases (show v=Value.ref l from rx);show wpAny _ _ (evalAll ((do let v <-eval (.Lambda J (Os kx px p1 p2 p3 p4 p5 x1) fm U) X.env;standAt pos;pure v)::[])) _ _ s1;refine wpAny_evalAll_cons<|Aa ?_;obtain⟨cell,a3,al⟩:=bb;obtain⟨c,c0,bd,lc,hC⟩:=C.ex;obtain⟨bm,ob,b1,b2,b3,b4,b5,b6,b7⟩:=C.bm;obtain⟨aL,tP,tok,a4⟩:=T;have be:=g.ok.mod.glob.keeps g.bk;have bf:=g.GT P _ tP;have bg:=hC _<|g.SC c c0 lc;have a2:∀b o,X.base.get? b=some o->b≠P:=λb o e z=>by have:=(g.bs b o e).2;rw[z,tP] at this;cases this
 have av:=g.ok.mod.YF bm ob b4;have hB:s1.heap.BuiltinsAt X.mg P:={bm,ob,Dg g.ok.mod.YF g.ok.mod.glob b1,b2,b3,a2 _ _ av,(g.bs _ _ av).1,b5,b6,b7};have c1:mainGlobals≠P:=by obtain⟨o,es,ep,e,hd,_⟩:=g.ok.mod.glob;exact a2 _ _ e
 have a5:s1.heap.IsCell cell (some<|.ref kk):=by
  obtain⟨m,_,c3⟩:=g.loc;obtain⟨u,ru,lk⟩:=c3 ik kx _ bq hs<|.inr<|.inl ba;cases (show u=Value.ref kk from ru);rcases lk with⟨k1,_⟩|⟨_,c2,e2,c4⟩
  .have k1:X.env.scope.names.lookup kx=some .local:=k1;rw[ba] at k1;cases k1
  .rw[a3] at e2;cases e2;exact c4
 refine PySem.W.kla_eval bc ?_;rw[hq];have k8:∀(s2:WD) (H2:Hp) (f r:Addr) (j pm:WC),qx X a1 σ H2 s2->s2.heap.get? f=some (PySem.W.kla_obj "<lambda>" q J (Os kx px p1 p2 p3 p4 p5 x1) fm [(kx,cell)] pm r j)->s2.heap.CodeRec (.ref r) q->s2.heap.IsCell cell (some<|.ref kk)->
  (∀b u,b≠P->H1 b=some u->H2 b=some u)->vT H2 P q->(∀b,H2 b=none->H1 b=none)->
  ZZ X (do standAt pos;pure (Value.ref f)) (λv s'=>ZZ X (evalAll []) (λvs c5=>ZZ X (call (.builtin "sorted") [.ref l]<|[Str.ofString "key"].zip<|v::vs) (EP X a1 σ Q) X.xe c5) X.xe s') X.xe s2:=by
  intro s2 H2 f r j pm I2 g1 g2 g3 g4 g5 g6;refine Aa<|wpAny_standAt<|Ak<|wpAny_evalAll_nil ?_;have lP:l≠P:=λz=>by rw[z,tP] at hl;cases hl
  have kP:kk≠P:=λz=>by rw[z,tP] at hk;cases hk
  refine Tv (n:=n) (rks:=rks) I2 S hr g1 g2 g3 (λv=>hb _ _ _ _ _ _ v) (g4 _ _ lP hl) (g4 _ _ kP hk) hn hz λD qs hD c6 pw=>?_;have bh:D≠P:=λz=>by obtain⟨ca,e2,_⟩:=g5;rw[z,e2] at hD;cases hD
  refine qq _ D qs (λb u n e=>?_) ?_ (g6 D hD) bh zf c6 pw
  .rw[qo<|ja (g4 b u n e) hD];exact g4 b u n e
  .exact g5.keep (qo<|AE bh) λb o u e=>by rw[qo<|ja e hD];exact e
 cases hf:codeAmong U aL.toList with
 |some cv=>
  obtain⟨r,oc,vs,t,c7,f1,f2,f3⟩:=a4 U cv hf;subst c7;refine ji g.tk<|PySem.W.kla_makeFunctionHit (mg:=X.mg) al g.ok.glob be bd bg bf tok hf hB λj h' tk bi cb ht=>?_;have I2:qx X a1 σ H1 {s1 with heap:=h'.push {cls:=.type "function",data:=.func (PySem.W.kla_fn "<lambda>" q J (Os kx px p1 p2 p3 p4 p5 x1) fm [(kx,cell)] ((X.mg "__name__").getD .none) (.ref r) j)},toks:=tk}:=g.kept (t':=tk) λb o e=>sy _<|bi b o e;obtain⟨ac,_⟩:=I2.GT r _ f1;refine k8 _ H1 _ r j _ I2 (vb _ rfl) {(r),oc,vs,t,rfl,ac,f2,f3} ?_ (λb u _ e=>e) {(aL),tP,tok,a4} λb e=>e;obtain⟨o,e1,e2⟩:=a5;exact{o,sy _<|bi _ _ e1,e2}
 |none=>
  refine ji g.tk<|PySem.W.kla_makeFunction (mg:=X.mg) al g.ok.glob be bd bg bf tok hf c1 hB λr j h' tk hx bj cc bn c8 ht=>?_;obtain⟨c2,oc,vs,t,e2,ac,f2,f3⟩:=bn;cases e2;have I2:=g.Y4 (fo:=PySem.W.kla_obj "<lambda>" q J (Os kx px p1 p2 p3 p4 p5 x1) fm [(kx,cell)] ((X.mg "__name__").getD .none) r j) tP hx c8 bj ac ht;have nc:=g.GT.fresh bj;have cP:r≠P:=λz=>by rw[z,tP] at nc;cases nc
  refine k8 _ _ _ r j _ I2 (vb _ rfl) {r,oc,vs,t,rfl,sy _ ac,f2,f3} ?_ (λb u n e=>?_) ?_ λb e=>?_
  .obtain⟨o,e1,e2⟩:=a5;have nP:cell≠P:=λz=>by have:=g.On kx cell a3;rw[z,tP] at this;cases this
   exact{o,sy _<|hx _ _ nP e1,e2}
  .rw[qo<|ja e nc,qo n];exact e
  .refine{aL++#[rawInt U.line,rawInt U.col,.ref r],by rw[qo<|AE cP,zf],?_,λbp cv z=>?_}
   .rw[Bd];exact tH _ tok
   .rw[Bd] at z;rcases wI _ tok z with z|z
    .obtain⟨d',od,c9,t',k1,k2,k3⟩:=a4 bp cv z;have nP:d'≠P:=λz=>by rw[z,tP] at k2;cases k2
     exact{d',od,c9,t',k1,by rw[qo<|ja k2 nc,qo nP];exact k2,k3}
    .exact{(r),oc,vs,t,z,zf,f2,f3}
  .by_cases d:b=r
   .subst d;exact nc
   .rw[qo d] at e;by_cases d2:b=P
    .subst d2;rw[zf] at e;cases e
    .rw[qo d2] at e;exact e
def JS(Pt:Addr)(q:Str)(J:Nat)(te:xu)(τ:jd)(L:qj)(Q:YK):Prop:=te τ L λy L1=>match y with
 |.ref l=>fA L1 l λys=>∃(n:Nat) (rks:Wx) (I:Addr),ys=ak 0 n/\qC τ J=some (.ref I)/\L1 I=⇑(rks.map Y.int)/\rks.length=n/\n<=127/\L1 Pt=some (.tb q)/\
  ∀(D:Addr) (qs:Wt),L1 D=none->qs.Perm (List.range n)->(qs.Pairwise λi j=>rks.getD i 0*1000000+(i:Int)<=rks.getD j 0*1000000+(j:Int))->Q (.ref D) (qd L1 D<|.lst (qs.map λi:Nat=>Y.int (i:Int)))
 |_=>False
theorem qP{G:G3}{H:Hp}:∀{l:Wt} {xs:WI},xo G H (l.map λi:Nat=>Y.int<|0+(i:Int)) xs->xs=l.map λi:Nat=>V.int<|0+(i:Int)
 |[],_,h=>h
 |_::_,_,⟨x,I,e,r,s⟩=>by subst e;cases r;rw[qP s];rfl
theorem iO{G:G3}{H:Hp}:∀{l:Wx} {xs:WI},xo G H (l.map Y.int) xs->xs=l.map V.int
 |[],_,h=>h
 |_::_,_,⟨x,I,e,r,s⟩=>by subst e;cases r;rw[iO s];rfl
theorem uv{G:G3}{H:Hp}:∀qs:Wt,xo G H (qs.map λi:Nat=>Y.int (i:Int)) (qs.map λi:Nat=>V.int (i:Int))
 |[]=>rfl
 |_::r=>{_,_,rfl,rfl,uv r}
def Tx{I:Arguments}{U:Pos}{r:Nat}(hg:Gl X "sorted")(hm:X.mg "sorted"=none)(he:QE X e te)(S:Xd fm kx px)(C:Fo X.K X.env.code Pt)(hr:X.A.depth+3<recursionLimit)
 (hq:X.env.qual ++ "<lambda>" = q) (t:X.N[r]?=some kx) (a1:X.env.scope.names.lookup kx=some .cell) (g:∃cell,X.env.cells.lookup kx=some cell/\closureFor fm X.env=pure [(kx,cell)])
 (j:defaultsOf I X.env=([],[])) (hb:∀(name eh:Str) (cl:List<|Str×Addr) (pm cd ct v:WC),bindArgs (PySem.W.kla_fn name eh I (Os kx px p1 p2 p3 p4 p5 x1) fm cl pm cd ct) ⟨[v],[]⟩=pure [(px,v)])
 (h1:starEach [e] X.env=(false,eval e X.env)::starEach [] X.env:=by rfl) (h2:(backTo pos<|starEach [e] X.env).any (·.1)=false:=by rfl)
 (h3:backTo pos (starEach [e] X.env)=(false,eval e X.env)::backTo pos (starEach [] X.env):=by rfl):
 QE X (.Call (.Name "sorted" p) [e] [{some "key",.Lambda I (Os kx px p1 p2 p3 p4 p5 x1) fm U,pj}] pos) (JS Pt q r te):=
 EV (Tw hg hm he S C hr hq t a1 g j hb h1 h2 h3) λσ H Q τ L Q3 rs rl z k=>by
  refine{τ,L,_,rs,rl,z,λv H1 y L1 t1 J rv z=>?_};cases y with
  |ref l=>
   obtain⟨ys,e1,n,a2,kk,rfl,e2,e3,hn,hz,eP,qq⟩:=vo z;cases rv;obtain⟨xs,h1,r1⟩:=J l _ e1;obtain⟨xk,h2,r2⟩:=J kk _ e3;have T:=J Pt _ eP;cases qP r1;cases iO r2;obtain⟨v,hv,rv⟩:=rs.get r _<|gG _ _ e2;cases rv;refine{l,kk,n,a2,rfl,h1,hv,h2,hn,hz,T,λH2 D qs kp T2 hD a4 a3 pm pw=>?_};have tb:∃o,H1 Pt=some (.Xn o):=let ⟨o,e,_⟩:=T;⟨o,e⟩;have t2:j5 H1 H2:=λa u i h=>kp a u (λc=>by obtain⟨o,e⟩:=tb;rw[c,e] at h;cases h;cases i) h
   refine k _ _ _ _ (t1.trans t2) (λa u e=>?_) (by rfl)<|qq D qs (J.none hD) pm pw;by_cases c:a=D
   .subst c;rw[q9] at e;cases e;exact{_,a3,uv qs}
   .rw[qb c] at e;by_cases d:a=Pt
    .subst d;rw[eP] at e;cases e;exact T2
    .obtain⟨x,hx⟩:=(J a u e).ex;exact(J a u e).keep t2 (by rw[hx];exact kp a x d hx)
  |_=>exact z.elim
structure Hj(K:Ag)(x eh:Str)(st:Stmt)(f:Addr)(fd:FuncData)(Pt:Addr):Prop where
 ex:∃(oc:WC) (od:Option Addr) (kV fy pm:WC) (an:Option Addr) (eW ct:WC) (oi:Array<|Wy),
  fd=PySem.W.fnOf x eh (vj st) (jr st) (qw st) .none kV fy pm an eW ct/\K.lookup f=some ⟨oc,od,.func fd,oi⟩/\PySem.W.codeIn K eW eh=true/\Fo K eW Pt
 kp:PySem.W.keepIn K (.ref f)=true
def Tz{P:WE}{w:WF}{K:Ag}{N:Wu}{k:Nat}(F:Hj K x eh st f fd Pt)(S:aR N ps<|qw st)(len:∀ys L Q,sp ys L Q->ys.length=ps.length)
 (I:∀(eW:WC) (A:Around) (outer:List Env) (s:WD) (H:Hp) (E:XK),Fo K eW Pt->ki k (A.deeper<|PyProof.Rows.envOfC eh (qw st) ↥s f eW)->
  ∃t,rO (fP XU P w K mg base N eh (qw st) f eW A outer s H E).YH (jr st) t/\∀ys L Q,sp ys L Q->t {nx:=λ_ L'=>gW Q .KB L',rt:=gW Q} (ff N ys) L):Ye P w K mg base (k+1) f fd ps sp:=by
 obtain⟨oc,od,kV,a1,pm,an,eW,ct,a2,rfl,lk,U,C⟩:=F.ex;refine GL lk U S (λvs H Q E ⟨ys,L,g,j,rl,z,_⟩=>by rw[<-j.length];exact len ys L g z) λA outer s H vs Q E hr ⟨ys,L,g,j,rl,z,k⟩=>?_;obtain⟨t,ht,q⟩:=I eW A outer s H E C hr;refine{_,hJ.YH ht,ff N ys,L,_,jW j,rl,q ys L g z,?_};exact{λσ l τ L' o a3 J ⟨L2,p,r⟩=>k .KB l .KB L2 o (J.sub p) (by rfl) r,λv l y L' o J T ⟨L2,p,r⟩=>k v l y L2 o (J.sub p) T r,λ_ _ _ _ _ _ _ z=>z.elim,λ_ _ _ _ _ _ _ z=>z.elim}
inductive mO(Pt:Addr)(q:Str)(ys:Z0)(L:qj)(Q:YK):Prop
 |mk:∀ns:Wx,(ys=[.sq<|ns.map Y.int])->(ns.length<=63)->(L=qd (λ_=>none) Pt (.tb q))->(∀L',Q (.bl true) L')->mO Pt q ys L Q
def Xr(q:Str)(K:Ag)(Pt:Addr):Sp:=λvs H Q _=>∃(a:Addr) (ns:Wx),vs=[.ref a]/\YV K H a (ns.map V.int)/\ns.length<=63/\H Pt=some (.Xn #[])/\∀H',Q (.bl true) H'
def TB{vs:WI}{Q:VK}{E:XK}(h:Xr q G.K Pt vs H Q E):dn G (mO Pt q) vs H Q E:=by
 obtain⟨a,I,rfl,J,U,g,z⟩:=h;refine{[.sq<|I.map Y.int],qd (λ_=>none) Pt<|.tb q,λy _=>y=.bl true,xo.one {a,_,rfl,J,uJ I},(λb u e=>?_),{I,rfl,U,rfl,λ_=>rfl},?_}
 .by_cases c:b=Pt
  .subst c;rw[q9] at e;cases e;exact{#[],g,trivial,λpos o z=>by cases z}
  .rw[qb c] at e;cases e
 .rintro v j y p _ _ l rfl;cases l;exact z j
def GM(Pt:Addr):Ag->Ag
 |[]=>[]
 |(a,o)::r=>if a==Pt then GM Pt r else(a,o)::GM Pt r
theorem jy{Pt a:Addr}(h:a≠Pt):∀K:Ag,(GM Pt K).lookup a=K.lookup a
 |[]=>rfl
 |(b,o)::r=>by
  unfold GM;by_cases c:(b==Pt)=true
  .rw[Ar c,jy h r,Bk];have:(a==b)=false:=by have I:=eq_of_beq c;subst I;exact EG h
   rw[this]
  .rw[Ap c,Bk,Bk,jy h r]
theorem ku{Pt:Addr}:∀K:Ag,(GM Pt K).lookup Pt=none
 |[]=>rfl
 |(b,o)::r=>by
  unfold GM;by_cases c:(b==Pt)=true
  .rw[Ar c];exact ku r
  .rw[Ap c,Bk];have:(Pt==b)=false:=by cases d:Pt==b with|false=>rfl|true=>exact absurd (beq_iff_eq.mpr (eq_of_beq d).symm) c
   rw[this];exact ku r
def pI{a:Addr}{K:Ag}{o:Obj}(e:(GM Pt K).lookup a=some o):a≠Pt/\K.lookup a=some o:=by
 by_cases c:a=Pt
 .subst c;rw[ku] at e;cases e
 .rw[jy c] at e;exact{(c),e}
def Yh{K:Ag}(X:K.In h):(GM Pt K).In h:=λa o e=>X a o (pI e).2
structure JT(K:Ag)(Pt:Addr):Prop where
 tab:K.lookup Pt=some (PySem.W.tabObj #[])
 hd:∃c,∀h:WG,K.In h->PySem.W.CodeHd h c Pt
 st:Pt≠cStatics
section
variable {K:Ag}(T:K.lookup Pt=some (PySem.W.tabObj #[]))
include T
def W6{a:Addr}{r:Option<|Wy}(e:PySem.W.nsIn K a x=r):PySem.W.nsIn (GM Pt K) a x=r:=by
 rw[<-e];unfold PySem.W.nsIn;by_cases c:a=Pt
 .subst c;rw[ku,T]
 .rw[jy c]
def Xy{a:Addr}{o:Obj}(e:K.lookup a=some o)(n:o.cls≠.none):(GM Pt K).lookup a=some o:=by
 rw[jy ?_]
 .exact e
 .rintro rfl;rw[T] at e;cases e;exact n rfl
def Xq(e:PySem.W.codeIn K cd q=true):PySem.W.codeIn (GM Pt K) cd q=true:=by
 unfold PySem.W.codeIn at e ⊢;split at e
 .rename_i c;by_cases d:c=Pt
  .subst d;rw[T] at e;simp at e
  .rw[jy d];exact e
 .cases e
def TC{v:WC}:PySem.W.ownIn (GM Pt K) x v=PySem.W.ownIn K x v:=by
 unfold PySem.W.ownIn;split
 .rfl
 .rename_i a;by_cases d:a=Pt
  .subst d;rw[ku,T]
  .rw[jy d];split
   .exact W6 T rfl
   .rfl
 .rfl
theorem uK{x:Str}:∀l:Wr,PySem.W.alongIn (GM Pt K) x l=PySem.W.alongIn K x l
 |[]=>rfl
 |c::r=>by unfold PySem.W.alongIn;rw[TC T,uK r]
def WV{v:WC}:PySem.W.findIn (GM Pt K) v x=PySem.W.findIn K v x:=by
 unfold PySem.W.findIn;split
 .rfl
 .rename_i a;by_cases d:a=Pt
  .subst d;rw[ku,T]
  .rw[jy d];split
   .exact uK T _
   .rfl
 .rfl
def oQ{a:Addr}(n:a≠Pt):PySem.W.specialIn (GM Pt K) (.ref a) x=PySem.W.specialIn K (.ref a) x:=by unfold PySem.W.specialIn PySem.W.typeIn;dsimp only;rw[jy n];congr 1;funext t;exact WV T
def Xb{f:WC}(e:PySem.W.keepIn K f=true):PySem.W.keepIn (GM Pt K) f=true:=by
 unfold PySem.W.keepIn at e ⊢;split at e
 .rename_i a;by_cases d:a=Pt
  .subst d;rw[T] at e;simp at e
  .rw[jy d,oQ T d];exact e
 .cases e
end
def TD{P:WE}{w:WF}{K:Ag}{mb:Wo}{CX:y9}{k:Nat}{a:Addr}{sp:Sp}{I:WD}{ns:Wx}
 (KX:K.In I.heap) (TI:JT K Pt) (t:I.heap.Ns mainGlobals mg) (hb:I.heap.Ns builtinsNs mb) (a5:∀x:Str,x ≠ "__name__" -> mb x=bootBuiltins x) (C:I.heap.NoLimit) (hg:I.gens=#[]) (ac:0<I.toks)
 (p:I.heap.get? a=some {cls:=.type "list",data:=.seq vs.toArray}) (hi:IntsAre vs ns) (hl:ns.length<=sizeLine) (hr:ki k callerA)
 (F:∀base:WG,(GM Pt K).In base->base.Ns mainGlobals mg->au P w (GM Pt K) mg base CX k fa fd [x] sp) (l:∀(s:WD) (u:WC),BindsTo s fd ⟨[u],[]⟩ [(x,u)])
 (al:∀H:Hp,H Pt=some (.Xn #[])->(H a=none\/∃o xs,H a=some (.Pv o<|.lst xs))->ag (GM Pt K) H a (ns.map V.int)->sp [.ref a] H (λv _=>v=.bl true) λ_ _ _=>False)
 (av:∀H e s',CX [] H I (λ_ _ _=>False) e s'->False):
 codeAny (model P w) callerA (.call (.ref fa) ⟨[.ref a],[]⟩) (λr s'=>r=.ok (.ret<|.bool true)/\OldK I.heap s'.heap/\s'.os=I.os/\AllBare s'.gens) I:=by
 have rv:=qR hi;have T:=hi.length;have hP:=KX Pt _ TI.tab;have U:a≠Pt:=λz=>by rw[z,hP] at p;cases p
 have core:∀H:Hp,H Pt=some (.Xn #[])->(∀b,b≠a->b≠Pt->H b=none)->(H a=none\/∃o xs,H a=some (.Pv o<|.lst xs))->ag (GM Pt K) H a (ns.map V.int)->(∀u,H a=some u->xh P w H I.heap a u)->(H a≠none->K.lookup a=none)->
  codeAny (model P w) callerA (.call (.ref fa) ⟨[.ref a],[]⟩) (λr s'=>r=.ok (.ret<|.bool true)/\OldK I.heap s'.heap/\s'.os=I.os/\AllBare s'.gens) I:=by
  intro H HP Hn HO HS a1 aL;have a2:fD P w H I.heap:=λb u e=>by
   by_cases c:b=a
   .subst c;exact a1 u e
   .by_cases d:b=Pt
    .subst d;rw[HP] at e;cases e;exact hP
    .rw[Hn b c d] at e;cases e
  have J:∀{b:Addr} {o:Obj},I.heap.get? b=some o->H b=none->(tI I.heap H).get? b=some o:=λe n=>Mo e n;have ba:∀{b:Addr} {o:Obj} {es:Array DictEntry} {ep:Nat},I.heap.get? b=some o->o.data=.dict es ep->H b=none:=λ{b o es ep} e d=>by
   refine Hn b (λz=>?_) λz=>?_
   .subst z;rw[p] at e;cases e;have d':=d;cases d'
   .subst z;rw[hP] at e;cases e;have d':=d;cases d'
  have g:∀{b:Addr} {m:Wo},I.heap.Ns b m->(tI I.heap H).Ns b m:=λ{b m} ⟨o,es,ep,e,d,r⟩=>{o,es,ep,J e<|ba e d,d,r};have a3:(GM Pt K).In (tI I.heap H):=λb o e=>by
   obtain⟨n,e⟩:=pI e;refine J (KX b o e) ?_;by_cases c:b=a
   .subst c;cases q:H b with|none=>rfl|some u=>rw[aL (by rw[q];simp)] at e;cases e
   .exact Hn b c n
  have hM:Mod (GM Pt K) mg (tI I.heap H):={a3,g t,{mb,g hb,a5},let ⟨mc,h1,h2⟩:=C;⟨mc,g h1,h2⟩};have e0:xP P w (GM Pt K) mg (tI I.heap H) callerA [] I H:={rfl,hM,λb o e=>Mp e,Dr<|Mn _ _,trivial,λb hb=>absurd (show b∈([]:List Addr) from hb) (by simp),a2,.of_eq hg,ac};refine codeAny_mono ((F _ a3<|g t).run callerA [] I H {[.ref a],[]} [.ref a] [.ref a] _ _ hr e0 (l I<|.ref a) (.cons rfl .nil)<|al H HP HO HS) λr s' h=>?_;cases r with
  |error e=>exact(av H e s' h).elim
  |ok fl=>
   cases fl with
   |next=>exact False.elim h
   |brk=>exact False.elim h
   |cont=>exact False.elim h
   |ret u=>
    obtain⟨v,H',os,bare,un,j,r',q,_⟩:=h;have q':=q;subst q';obtain rfl:u=Value.bool true:=r';obtain⟨more,em⟩:=un.W9 Pt _ HP;have gP:=j Pt _ em;have kp:∀b o,b≠Pt->I.heap.get? b=some o->s'.heap.get? b=some o:=λb o n e=>by
     have a4:H b=none->s'.heap.get? b=some o:=λz=>un.keep b o e z (by intro z;exact absurd (show b∈([]:List Addr) from z) (by simp)) (by simp);by_cases c:b=a
     .subst c;rcases HO with z|⟨ob,xs,z⟩
      .exact a4 z
      .have z2:=un.W3 _ _ _ z;obtain⟨e1,_⟩:=a2 _ _ z;obtain⟨e2,_⟩:=j _ _ z2;rw[e] at e1;cases e1;exact e2
     .exact a4<|Hn b c n
    obtain⟨c,hc⟩:=TI.hd;refine{rfl,{λb o e=>?_,λb o e=>?_},os,bare}
    .by_cases n:b=Pt
     .subst n;rw[hP] at e;cases e;exact .inr<|.inl {((hc _ KX).tab hP).isCodeTable,rfl,#[],more,rfl,gP}
     .exact .inl<|kp b o n e
    .by_cases n:b=Pt
     .subst n;exact{_,gP}
     .exact{o,kp b o n e}
 cases hk:K.lookup a with
 |some o=>
  have e:=KX a o hk;rw[p] at e;cases e;refine core (λb=>if b=Pt then some (.Xn #[]) else none) (Ar rfl) (λb _ n=>Ap n) (.inl<|Ap U) (.inr {_,vs.toArray,_,(jy U K).trans hk,rfl,rfl,rfl,by rw[Ax,T];exact hl,by simpa using rv}) (λu z=>by have z':=(Ap U).symm.trans z;cases z') λz=>absurd (Ap U) z
 |none=>
  refine core (λb=>if b=a then some (.Pv {cls:=.type "list",data:=.seq vs.toArray}<|.lst<|ns.map V.int) else if b=Pt then some (.Xn #[]) else none) ((Ap<|AE U).trans<|Ar rfl) (λb n1 n2=>(Ap n1).trans<|Ap n2) (.inr {_,_,Ar rfl}) (.inl<|.inr {_,Ar rfl}) (λu z=>?_) λ_=>hk;have z':=(Ar rfl).symm.trans z;cases z';exact{p,by rw[Ae];exact hl,vs,_,rv,p}
def XW{l:PySem.W.OpenLaw}{k:Nat}{q:WE}{loose:Wu}{XP:(Wo)->WG->Prop}{YM:List Addr}{N t:Nat}{d:DefRec}{K:Params->Ag}{CX:y9}{sp:Ag->Addr->Sp}
 (hn:l.most=some n) (p:n<=sizeLine) (r:d.params.defaults=[]) (hr:ki k callerA) (ek:∀P,YM=(K P).map (·.1)) (C:0<t)
 (F:∀(w:WF) (mg:Wo) (fa:Addr) (h:WG),(K w.params).In h->h.Ns mainGlobals mg->mg d.name=some (.ref fa)->
  ∃Pt:Addr,JT (K w.params) Pt/\∃fd:FuncData,(∀(s:WD) (u:WC),BindsTo s fd ⟨[u],[]⟩ [(x,u)])/\
   ∀base:WG,(GM Pt<|K w.params).In base->base.Ns mainGlobals mg->au l.prog w (GM Pt<|K w.params) mg base CX k fa fd [x] (sp (GM Pt<|K w.params) Pt))
 (a1:∀(K:Ag) (Pt:Addr) (H:Hp) (a:Addr) (ns:Wx),ns.length<=n->H Pt=some (.Xn #[])->(H a=none\/∃o xs,H a=some (.Pv o<|.lst xs))->ag K H a (ns.map V.int)->sp K Pt [.ref a] H (λv _=>v=.bl true) λ_ _ _=>False)
 (a2:∀(H:Hp) (s:WD) (e:WC) (s':WD),CX [] H s (λ_ _ _=>False) e s'->False):
 PySem.W.WalkX q loose XP (PySem.W.X.obsZ YM) (PySem.W.X.valZ K N t) l.row.toRowW d [] (λf vs=>PySem.call f vs):=by
 refine Xp hn r ek C λw a4 U mg mb fa o pm cd a5 a vs ns G KX tk ho hd ac a3 j J I hg=>?_;obtain⟨Pt,TI,fd,hb,hF⟩:=F w mg fa _ KX G.T.g a3;exact TD KX TI G.T.g G.T.b G.T.builtins G.T.nolimit hg tk j J (AK I p) hr hF hb (λH hP hO hS=>a1 _ Pt H a ns I hP hO hS) λH e s'=>a2 H U e s'
def XF :∀(K:Ag) (Pt:Addr) (H:Hp) (a:Addr) (ns:Wx),ns.length<=63->H Pt=some (.Xn #[])->(H a=none\/∃o xs,H a=some (.Pv o<|.lst xs))->ag K H a (ns.map V.int)->Xr q K Pt [.ref a] H (λv _=>v=.bl true) λ_ _ _=>False:=by
 intro K Pt H a ns I J U g;refine{a,ns,rfl,?_,I,J,λ_=>rfl};rcases g with(h|⟨o,h⟩)|h
 .rcases U with z|⟨o,xs,z⟩<;>rw[h] at z<;>cases z
 .exact .inl {(o),h}
 .exact .inr h
structure WZ(K:Ag)(x:Str)(st:Stmt)(Pt:Addr):Prop where
 ex:∃(f:Addr) (kV fy pm:WC) (an:Option Addr) (eW ct:WC),PySem.W.nsIn K mainGlobals x=some (some<|.ref f)/\Hj K x x st f (PySem.W.fnOf x x (vj st) (jr st) (qw st) .none kV fy pm an eW ct) Pt
def WZ.use{K:Ag}(D:WZ K x st Pt)(X:K.In h)(G:h.Ns mainGlobals mg)
 (I:∀(kV fy pm:WC) (an:Option Addr) (eW ct:WC) (us:Wr),us.length=ps.length->bindArgs (PySem.W.fnOf x x (vj st) (jr st) (qw st) .none kV fy pm an eW ct) ⟨us,[]⟩=pure (ps.zip us)):
 ∃f fd,Hj K x x st f fd Pt/\aA K fd ps []/\mg x=some (.ref f):=by
 obtain⟨f,kV,fy,pm,an,eW,ct,a,F⟩:=D.ex;exact{f,_,F,.all<|I kV fy pm an eW ct,Dg X G a}
section
variable {hQ:St}
def qx.Y5(M:Wu)(I:qx X pins σ H s)(J:M.length=X.N.length)(hs:hQ.length=σ.length)(h:∀(j:Nat) v,hQ[j]?=some (some v)->σ[j]?=some (some v)/\X.N[j]?=M[j]?):qx {X with N:=M} pins hQ H s:=by obtain⟨m,U,l⟩:=I.loc;have o:=I.ok;exact {ok:={(o.mod),o.kind,o.glob,o.blt,o.above,o.inj,o.has,o.YA,o.hd,o.frames,o.YG,o.YQ,o.bs,o.XY,o.Xi,o.Xj,o.WK,o.X9},os:=I.os,bare:=I.bare,base:=I.base,cell:=I.cell,free:=I.free,On:=I.On,pin:=I.pin,GT:=I.GT,tk:=I.tk,len:=(by rw[hs,I.len];exact J.symm),loc:={m,U,λi x v g p r=>by obtain⟨a,b⟩:=h i v p;exact l i x v (b.trans g) a r}}
def i7(h:(σ.set i none)[j]?=some (some v)):j≠i/\σ[j]?=some (some v):=by
 by_cases c:i=j
 .subst c;rw[Et] at h;cases e:σ[i]? with|none=>rw[e] at h;cases h|some o=>rw[e] at h;cases h
 .rw[Bp c] at h;exact{AE c,h}
def TF(i:Nat)(t:TS):TS:=λD σ H=>t {nx:=λhQ H'=>D.nx (hQ.set i none) H',rt:=D.rt,bk:=λhQ H'=>D.bk (hQ.set i none) H',ct:=λhQ H'=>D.ct (hQ.set i none) H'} (σ.set i none) H
def TH{t:TS}(h:PS {X with N:=X.N.set i x} st t):PS X st (TF i t):=by
 intro g s p H D I z;have C:qx {X with N:=X.N.set i x} g (p.set i none) H s:=I.Y5 _ (by rw[Bm]) (by rw[Bm]) λj v e=>by obtain⟨a,b⟩:=i7 e;exact{b,by rw[Bp<|AE a]}
 refine aD (h g s _ H _ C z) λf o q=>?_;have back:∀{U:St} {l:Hp},qx {X with N:=X.N.set i x} g U l o->qx X g (U.set i none) l o:=λ{U l} J=>
  qx.Y5 (X:={X with N:=X.N.set i x}) X.N J (by rw[Bm]) (by rw[Bm]) λj v e=>by obtain⟨a,b⟩:=i7 e;exact{b,by rw[Bp<|AE a]}
 cases f with
 |next=>obtain⟨U,l,J,q⟩:=q;exact{_,l,back J,q}
 |brk=>obtain⟨U,l,J,q⟩:=q;exact{_,l,back J,q}
 |cont=>obtain⟨U,l,J,q⟩:=q;exact{_,l,back J,q}
 |ret u=>obtain⟨v,U,l,J,r,q⟩:=q;exact{v,_,l,back J,r,q}
def TJ(i j k:Nat)(ta:TA):TS:=λD σ H=>ta σ H λvs H1=>∃u v w,vs=[u,v,w]/\D.nx (((σ.set i<|some u).set j<|some v).set k<|some w) H1
def TK{k:Nat}{y z:Str}{a b:Expr}{ta:TA}{px C pt:Pos}{kt k2 U}(hc:X.calm=true)(hN:X.N.Nodup)(hi:X.N[i]?=some x)(hj:X.N[j]?=some y)(hk:X.N[k]?=some z)(T:i≠j)(a1:i≠k)(a2:j≠k)
 (hx:X.env.scope.names.lookup x=some .local) (hy:X.env.scope.names.lookup y=some .local) (hz:X.env.scope.names.lookup z=some .local) (ha:PA X [a,b,c] ta)
 (hw:swappedStores [.Tuple [.Name x px,.Name y py,.Name z C] kt pt] (.Tuple [a,b,c] k2 U) X.env=pure (some [x,y,z]))
 (hs:swapsWithSole [.Tuple [.Name x px,.Name y py,.Name z C] kt pt] (.Tuple [a,b,c] k2 U) pos.line X.env=pure false:=by rfl):
 PS X (.Assign [.Tuple [.Name x px,.Name y py,.Name z C] kt pt] (.Tuple [a,b,c] k2 U) pos) (TJ i j k ta):=by
 intro J s σ H D I h;rw[exec_Assign_arm];refine Aa<|wpAny_standAt ?_;rw[hs];refine Aa<|Ak ?_;rw[Ap (by decide)];refine Aa<|Tuple_<|aD (ha _ J s σ H _ I h) λus g ⟨vs,H1,I1,r1,q1⟩=>?_;obtain⟨v,w,v3,e1,q1⟩:=q1;subst e1;obtain⟨l,r,t,rfl,rv,a3,r3⟩:∃l r t,us=[l,r,t]/\zo v l/\zo w r/\zo v3 t:=by
  cases r1 with
  |cons p q=>
   cases q with
   |cons p' q'=>
    cases q' with
    |cons a4 a5=>
     cases a5;exact{_,_,_,rfl,p,p',a4}
 refine Br ?_ (by show 3<=sizeLine;decide);have I2:qx X J σ H1 {g with heap:=g.heap.push {cls:=.type "tuple",data:=.seq [l,r,t].toArray}}:=I1.kept (t':=g.toks) λb o e=>sy _ e;rw[hw];refine Aa<|Ak ?_;show ZZ X (do rule "assign.swapped-stores";let items <-unpackItems (.ref ↥g) 3 none;assignInOrder [λv=>bindName X.env z v,λv=>bindName X.env y v,λv=>bindName X.env x v] items.reverse;pure Flow.next) _ _ _;refine Aa<|Bv<|Aa<|unpackItems_tuple (items:=#[l,r,t]) (I.ok.hd hc) (IsTup.new g.heap _) λh' ac=>?_;have I3:=I2.kept (h':=h') (t':=g.toks) λb o e=>ac b o (A3<|u3 e) e;refine Aa<|assignInOrder_cons<|wpAny_bindName<|br I3 hN hk (.inl hz) r3 (λs2 I4=>?_)<|.inr hz;refine assignInOrder_cons<|wpAny_bindName<|br I4 hN hj (.inl hy) a3 (λs3 I5=>?_)<|.inr hy;refine assignInOrder_cons<|wpAny_bindName<|br I5 hN hi (.inl hx) rv (λs4 I6=>assignInOrder_nil<|Ak ?_)<|.inr hx;rw[Eh _ _<|AE T,Eh _ _<|AE a1,Eh _ _<|AE a2] at I6;exact{_,H1,I6,q1}
end
def cZ:jd->Nat->jd
 |[],_=>[]
 |_::r,0=>none::r
 |o::r,i+1=>o::cZ r i
theorem vE:∀(τ:jd) (i:Nat),cZ τ i=τ.set i none
 |[],_=>rfl
 |_::_,0=>rfl
 |o::r,i+1=>by unfold cZ;rw[vE r i];rfl
def qQ(i:Nat)(t:ai)(D:vd)(τ:jd)(L:qj):Prop:=t {nx:=λI L'=>D.nx (cZ I i) L',rt:=D.rt,bk:=λI L'=>D.bk (cZ I i) L',ct:=λI L'=>D.ct (cZ I i) L'} (cZ τ i) L
def va.forget(h:va G H σ τ)(i:Nat):va G H (σ.set i none) (cZ τ i):=by
 rw[vE];refine{by rw[Bm,Bm];exact h.len,λj y e=>?_};by_cases c:i=j
 .subst c;rw[Et] at e;cases I:τ[i]? with|none=>rw[I] at e;cases e|some o=>rw[I] at e;cases e
 .rw[Bp c] at e ⊢;exact h.get j y e
def jH(x:Str){t:ai}(h:QS {X with N:=X.N.set i x} st t):QS X st (qQ i t):=
 EX (TH h) λD T H p L D3 r C z k=>{cZ p i,L,_,r.forget i,C,z,
  ⟨λU g j l o I J q=>k.nx _ g _ l o (I.forget i) J q,k.rt,λU g j l o I J q=>k.bk _ g _ l o (I.forget i) J q,λU g j l o I J q=>k.ct _ g _ l o (I.forget i) J q⟩}
def TL(i j k:Nat)(ta:eX)(D:vd)(τ:jd)(L:qj):Prop:=ta τ L λys L'=>match ys with
 |[u,v,w]=>D.nx (cg (cg (cg τ i u) j v) k w) L'
 |_=>False
def TM{k:Nat}{y z:Str}{a b:Expr}{tr:eX}{px J pt:Pos}{k2:Nat}{I:Pos}(hc:X.calm=true)(hN:X.N.Nodup)(hi:X.N[i]?=some x)(hj:X.N[j]?=some y)(hk:X.N[k]?=some z)(U:i≠j)(g:i≠k)(l:j≠k)
 (lx:X.env.scope.names.lookup x=some .local) (ly:X.env.scope.names.lookup y=some .local) (lz:X.env.scope.names.lookup z=some .local) (h:QA X [a,b,c] tr)
 (h1:swappedStores [.Tuple [.Name x px,.Name y py,.Name z J] kt pt] (.Tuple [a,b,c] k2 I) X.env=pure (some [x,y,z])) (h2:swapsWithSole [.Tuple [.Name x px,.Name y py,.Name z J] kt pt] (.Tuple [a,b,c] k2 I) pos.line X.env=pure false:=by rfl):
 QS X (.Assign [.Tuple [.Name x px,.Name y py,.Name z J] kt pt] (.Tuple [a,b,c] k2 I) pos) (TL i j k tr):=EX (TK hc hN hi hj hk U g l lx ly lz h h1 h2) λD σ H C L D3 T rl z kk=>
 ⟨C,L,_,T,rl,z,λvs H1 ys L1 t1 o p r=>by
  split at r
  .rename_i u v w;obtain⟨x1,a1,rfl,r1,x2,a2,rfl,r2,x3,t,rfl,r3,e3⟩:=p;cases (show t=[] from e3);exact{x1,x2,x3,rfl,kk.nx _ H1 _ L1 t1 (show va _ _ _ (cg (cg (cg C i u) j v) k w) by rw[aB,aB,aB];exact(((T.ts t1).set r1).set r2).set r3) o r}
  .exact r.elim⟩
def rL:bootBuiltins "min"=some (.builtin "min"):=by decide +kernel
def TN(x:Y)(lo hi:Wz)(L:qj)(Q:YK):Prop:=match x with
 |.tup ys=>¬(KM ys.length 0 lo=0/\KM ys.length ys.length hi=ys.length)/\Q (.tup<|jO ys lo hi) L
 |_=>False
def TQ(K:Ag)(P:WE)(w:WF)(U:X.K=K:=by rfl)(g:X.prog=P:=by rfl)(hw:X.w=w:=by rfl):tZ X (Gd ⟨K,P,w⟩ TN):=by
 subst U g hw;refine tZ.imp OM λx lo J H Q ⟨y,L,Q3,j,l,z,k⟩=>?_;cases y with
 |tup o=>
  obtain⟨a,t,e,sq,r⟩:=j;obtain⟨C,T⟩:=z;exact{a,t,e,sq,by rw[<-r.length];exact C,λp I=>k _ _ (.tup<|jO o lo J) L (EU I) (l.skip I) {p,_,rfl,.inl<|.inl zf,(rY r lo J).ts<|EU I} T}
 |_=>exact z.elim
def xB{a:Addr}{keep:qj->Prop}(h:∀H L,j5 H₀ H->zw G H L->keep L->∃xs,fB G.K H a xs/\xo G H ys xs):gx G H₀ (GH G.K a) ys keep where
 go:=λi H L t I J U=>by
  obtain⟨xs,sq,r⟩:=h H L t I J;have:i<xs.length:=by rw[<-r.length];exact U
  exact{xs,xs[i],sq,Ai this}
 X0:=λi H L x o y t I J g ⟨e,f⟩=>by subst e;obtain⟨xs,sq,r⟩:=h _ L t I J;obtain⟨p,j,l⟩:=r.get g;have:=f xs sq;rw[j] at this;cases this;exact{ET _,I,l}
 stop:=λH L t I J=>by obtain⟨xs,sq,r⟩:=h H L t I J;exact{xs,sq,by rw[r.length];exact An _}
def TR(h:QE X e te):QI X tg e (P9 te):=PI.SL (Nl h) λσ H R j L R3 l o z k=>by
 refine{j,L,_,l,o,z,λv p y C T I J U=>?_};cases y with
 |tup ys=>
  obtain⟨a,g,e,sq,r⟩:=J;exact{a,e,{(g),sq},k _ p ys (λ_=>True) C T I (xB λH L t _ _=>{g,fB.ts sq t,r.ts t}) U}
 |_=>exact U.elim
def TU{k:Nat}(I:ki k A):A.depth+3<recursionLimit:=by have:=I.dp;omega
abbrev Xh:Str:="_law_order.<locals>.<lambda>"
def tD(Pt:Addr)(I:km):ai:=(zv (jw (cV jc)<|qk 2)
 (zv (kC (rV<|qh 0) (dC 2<|jt (qk 3)<|jt (qk 4) bT) (zv (jw (ky tS (xa I<|qp (qh 1)<|eY (qh 3)<|ax 39373)<|ax 40)<|qk 5)
 (oF (bN (mJ (yB<|pW true<|qh 4)<|tf (tR 4)<|ax 3) (jw (ky gU (ky gU (qh 5)<|ax 1)<|oN A_<|qp (ky m5 (qh 2)<|ah 4 1)<|qp (ky m5 (qh 2)<|ah 4 2) jc)<|qk 5) aW)
 (wo<|iI x0 (qh 2)<|eB<|qh 5))))
 (bP<|JS Pt Xh 2<|nN<|tR 0)))
def X6(ks:List<|WO):Prop:=∀(p:Nat) (e:Bool) (i j:Nat),ks[p]?=some (some<|.nd e i j)->i<p/\j<p
def Y9(ks:List<|WO)(rks:Wx):Prop:=∀(p:Nat) (e:Bool) (i j:Nat),p<rks.length->ks[p]?=some (some<|.nd e i j)->rks.getD i 0<rks.getD p 0/\rks.getD j 0<rks.getD p 0
def oZ{r:Int}(h:i<rks.length):(rks++[r]).getD i 0=rks.getD i 0:=by rw[A2,A2,Av h]
def TX{r:Int}:(rks++[r]).getD rks.length 0=r:=by rw[A2,AH<|An _,Ci];rfl
def Y9.snoc{ks:List<|WO}{r:Int}{k:WO}(ok:X6 ks)(h:Y9 ks rks)(U:ks[rks.length]?=some k)(g:∀e i j,k=some (.nd e i j)->rks.getD i 0<r/\rks.getD j 0<r):Y9 ks (rks++[r]):=by
 intro p e i j I J;obtain⟨l,o⟩:=ok p e i j J;rw[Ab] at I;have I:p<rks.length+1:=I;rw[oZ (show i<rks.length by lia),oZ (show j<rks.length by lia)];by_cases c:p<rks.length
 .rw[oZ c];exact h p e i j c J
 .have:p=rks.length:=by lia
  subst this;rw[TX];exact g e i j<|AJ<|U.symm.trans J
def iB(ks:List<|WO)(qs:Wt):Prop:=qs.Pairwise λx y=>∀e i j,ks[x]?=some (some<|.nd e i j)->y≠i/\y≠j
def TY{ks:List<|WO}(ok:X6 ks)(h:Y9 ks rks)(I:rks.length=ks.length)(hw:qs.Pairwise λi j=>rks.getD i 0*1000000+(i:Int)<=rks.getD j 0*1000000+(j:Int)):iB ks qs:=by refine hw.imp λ{x y} z e i j ex=>?_;obtain⟨J,U⟩:=ok x e i j ex;obtain⟨g,l⟩:=h x e i j (by rw[I];exact zd ex) ex;exact{λc=>by subst c;lia,λc=>by subst c;lia}
inductive iZ(Pt:Addr)(ys:Z0)(L:qj)(Q:YK):Prop
 |mk:∀a,∀ks:List (WO),∀s:Int,(ys=[.ref a,.int s])->(L a=⇑(dY ks))->(X6 ks)->(ks.length<=127)->(L Pt=some (.tb Xh))->(∀D qs,L D=none->qs.Perm (List.range ks.length)->iB ks qs->Q (.ref D) (qd L D<|.lst<|nY qs))->iZ Pt ys L Q
def uH(h:i<rks.length):(rks.map Y.int)[i]?=some (.int<|rks.getD i 0):=by rw[Aq,A2,Ai h];rfl
def TZ :ZY (iZ Pt) (tD Pt cY) 6:=by
 rintro ys L Q ⟨a,ks,s,rfl,ha,ok,hz,hP,q⟩;have big:=a_;intro J I;have s0:qf L (qd L J<|.lst []):=By I;have C:=vh ha I;refine j7 (s0 _ _ ha) λkeep kp=>xm {λi τ U=>∃rks:Wx,∃c3 c4 c5,τ=[some<|Y.ref a,some<|.int s,some<|Y.ref J,c3,c4,c5]/\U=qd L J (.lst<|rks.map Y.int)/\rks.length=i/\Y9 ks rks,{[],_,_,_,rfl,rfl,rfl,λp _ _ _ T=>by cases T},?_,?_,?_}
 .rintro i τ U ⟨rks,c3,c4,c5,rfl,rfl,_⟩;exact kp _ (by rw[qb C,qb C])
 .rintro i y τ U hy ⟨rks,c3,c4,c5,rfl,rfl,g,l⟩;obtain⟨z,ez,rfl⟩:=bY hy;rw[Aq] at ez;obtain⟨k,ek,rfl⟩:=AA.mp ez;have hi:=zd ek;refine{s,i,39373,rfl,A1 _,by omega,by decide,by decide,λv h0 h1=>?_};have Yx:(rks.map Y.int).length=i:=by rw[Ae];exact g
  refine{show(0:Int)<40 by decide,λa1 U=>∃r:Int,a1=[some<|Y.ref a,some<|.int s,some<|Y.ref J,some<|.int (i:Nat),some<|fj k,some<|.int r]/\U=qd L J (.lst<|rks.map Y.int)/\∀e i j,k=some (.nd e i j)->rks.getD i 0<r/\rks.getD j 0<r,?_,?_}
  .cases k with
   |none=>exact{v % 40,rfl,rfl,λe i j z=>by cases z}
   |some k=>
    cases k with
    |lf t n=>exact{v % 40,rfl,rfl,λe i j z=>by cases z}
    |nd e p1 p2=>
     obtain⟨l1,l2⟩:=ok _ _ _ _ ek;have g1:=w5<|uH (rks:=rks) (i:=p1) (by lia);have g2:=w5<|uH (rks:=rks) (i:=p2) (by lia);refine qc q9<|ql g1 ?_;refine qc q9<|ql g2 ?_;refine{v % 40+1+max (rks.getD p1 0) (rks.getD p2 0),rfl,rfl,λe' i' j' z=>?_};cases z;constructor<;>lia
  .rintro a1 U ⟨r,rfl,rfl,hr⟩;refine qc q9 (qm q9 {by rw[Yx];exact big _ (by lia),?_});refine{_,ES _,rks++[r],_,_,_,rfl,?_,by rw[Ab,g];rfl,Y9.snoc ok l (by rw[g];exact ek) hr};rw[jz,AC];rfl
 .rintro τ U ⟨rks,c3,c4,c5,rfl,rfl,g,l⟩;rw[ae,Ae] at g;have s1:qf L (qd L J<|.lst<|rks.map Y.int):=By I;refine qc (s1 _ _ ha) ?_;have lo:(dY ks).length=ks.length:=Ae ..;refine{{A1 _,by rw[lo];lia},λp T=>qm q9 ?_};have a2:=vh q9 T;have a3:=vh (s1 _ _ hP) T;have a4:=vh hP I;refine{ks.length,rks,J,by rw[B9,lo],rfl,(qb a2).trans q9,g,hz,(qb a3).trans<|(qb a4).trans hP,λD qs hD pm pw=>?_};have a5:=ke hD;have ac:=ke a5;refine{qd L D<|.lst<|nY qs,λb o e=>?_,q D qs ac pm<|TY ok l g pw};by_cases c:b=D
  .subst c;rw[q9] at e ⊢;exact e
  .rw[qb c] at e ⊢;rw[qb (λz=>by subst z;rw[ke T] at e;cases e),qb (λz=>by subst z;rw[I] at e;cases e)];exact e
def u7:RD "_law_name" lT 0 ["_law_seed","_law_which","_law_letters","_law_size","_law_place","_law_base","_law_sign"] (λ_=>True):={_,λV B c _ _ _ _ _ _ _ J hN I=>(qa (wf (i:=2) hN rfl (Or.inr rfl) j6)<|qa (S_ 3 hN<|qr jm qg<|qr x9 (qv 0) qg)<|qa (S_ 4 hN<|qr x9 (qr wx (qv 0) qg)<|qv 3)<|qa (S_ 5 hN<|Ra j6<|x6<|cQ ["_law_k"] (EW (by rfl)) rfl (af rfl B.be<|x6 qg) (pV 7) (λ_ _ _ _=>gy) λ_ _ _ _=>(I_ (qv 2)<|qr x9 (qr jm (qr wx (qv 0) qg)<|qr uD qg<|qv 7) qg))<|qa (zy (E_ I (qr x9 (qr wx (qv 0) qg) qg) qg) (qe<|za<|bZ (qW _ _ _) (qv 5) gH<|cU<|qr jm qg<|qr x9 (qr jm (qv 1)<|qv 0) qg) zb)<|qa (S_ 6 hN<|I_ (qv 2)<|qr x9 (qr jm (qr jm (qr wx (qv 0) qg)<|qr uD qg<|qv 4)<|qv 1) qg)<|qe<|za<|qr jm (qr jm (bZ (qW _ _ _) (qv 5) gH<|cU<|qv 4)<|qv 6)<|bZ (qW _ _ _) (qv 5) (cU<|qr jm (qv 4) qg)<|cU<|qv 3)}
def fI(i:Int):Nat:=97+(i % 26).toNat
def JU(i:Int):iV ("abcdefghijklmnopqrstuvwxyz" : Str).cps.toList (i % 26)=some (fI i):=by
 obtain⟨n,I⟩:∃n:Nat,i % 26=n:={(i % 26).toNat,by lia};have h:n<26:=by lia
 unfold fI;rw[I];have key:∀n,n<26->("abcdefghijklmnopqrstuvwxyz" : Str).cps.toList[n]?=some (97+n):=by decide +kernel
 exact w5<|key n h
def JV(i:Int):97<=fI i/\fI i<=122:=by unfold fI;lia
def eS(s:Int):Wt:=(List.range 8).map λk:Nat=>fI<|s / 64+3*(k:Int)
def oY(s:Int):(eS s).length=8:=by unfold eS;simp
def nJ(s:Int):∀c∈eS s,97<=c/\c<=122:=λc I=>by obtain⟨k,_,rfl⟩:=Ba.mp I;exact JV _
def rA(s:Int):Nat:=(s / 8 % (1+s % 8)).toNat
def YP(s:Int):Nat:=(1+s % 8).toNat
def JW(s:Int):rA s<YP s/\YP s<=8/\s / 8 % (1+s % 8)=(rA s:Int)/\1+s % 8=(YP s:Int):=by
 have h0:0<1+s % 8:=by lia
 have h1:0<=s / 8 % (1+s % 8):=EI _ (by lia);have h2:s / 8 % (1+s % 8)<1+s % 8:=Int.emod_lt_of_pos _ h0;unfold rA YP;lia
def aj(s w:Int):Wt:=
 if s / 64 % 3=1 then(eS s).take (1+(w+s) % 3).toNat
 else((eS s).take (rA s)++[fI<|s / 64+3*(rA s:Int)+w])++((eS s).drop<|rA s+1).take (YP s-(rA s+1))
def uB(s w:Int):fG (m_<|aj s w):=by
 have I:(m_<|aj s w).length=(aj s w).length:=by rw[<-len_list];show(aj s w).toArray.toList.length=_;simp
 have J:(m_<|aj s w).cps.toList=aj s w:=by show(aj s w).toArray.toList=_;simp
 have U:=oY s;obtain⟨g,j,_,_⟩:=JW s;refine{?_,?_,?_}
 .rw[I];unfold aj;split
  .rw[AR];omega
  .rw[Ab,Ab];simp;simp +arith only
 .rw[I];unfold aj;split
  .rw[AR];omega
  .rw[Ab,Ab,AR,AR,BL];simp;lia
 .rw[J];intro c h;unfold aj at h;split at h
  .exact nJ s c<|Bz h
  .rcases Aj.mp h with h|h
   .rcases Aj.mp h with h|h
    .exact nJ s c<|Bz h
    .rw[Ad.mp h];exact JV _
   .exact nJ s c<|CY<|Bz h
inductive iY(ys:Z0)(L:qj)(Q:YK):Prop
 |mk:∀s w:Int,(ys=[.int s,.int w])->(Q (.str<|m_<|aj s w) L)->iY ys L Q
def T3(h:m<=n)(h2:n<=x.length):(Txt.slice x (some (m:Int))<|some (n:Int)).cps.toList=(x.cps.toList.drop m).take (n-m):=by have e:=qO x (some (m:Int))<|some (n:Int);rw[W7,W7,B6 h2,B6<|AK h h2] at e;exact e
def qM(h:n<=x.length):(Txt.slice x none<|some (n:Int)).cps.toList=x.cps.toList.take n:=by have e:=qO x none<|some (n:Int);rw[W7,Xc,DS,Nat.sub_zero,B6 h] at e;exact e
def T4:ZY iY u7.1 7:=by
 rintro ys L Q ⟨s,w,rfl,q⟩;have j:0<1+s % 8:=by lia
 refine{(by decide:(0:Int)<8),{by decide,by decide},j,{by decide,by decide},?_};refine rS (m:=8) (λi zs=>zs=((List.range i).map λk:Nat=>Y.str {#[fI<|s / 64+3*(k:Int)]})) (by decide) rfl ?_ ?_
 .rintro i _ hi rfl;have I:=JU<|s / 64+3*(0+(i:Int));refine{{by decide,by decide},.inl {by decide,by decide},(by decide:(0:Int)<26),by decide +kernel,?_};walk_at "w";rw[I];refine{_,ES _,rfl,?_};rw[EH,AC,show(0:Int)+(i:Int)=(i:Int) by simp +arith only];rfl
 .rintro _ rfl p t;have e0:((List.range 8).map λk:Nat=>Y.str {#[fI<|s / 64+3*(k:Int)]})=((eS s).map λc=>({#[c]}:Str)).map Y.str:=by unfold eS;rw[BW,BW];rfl
  rw[e0];refine qm q9 {(eS s).map λc=>({#[c]}:Str),rfl,?_,?_}
  .have J:∀U:Wt,((U.map λc=>({#[c]}:Str)).map (·.length)).sum=U.length:=λU=>by induction U with|nil=>rfl|cons c r ih=>rw[AQ,AQ,DF,ih,AD];exact Nat.add_comm _ _
   rw[J,oY];show 8+_*0<=_;rw[Nat.mul_zero];decide
  .have g:=S5<|eS s;have l:(Txt.join ""<|(eS s).map λc=>({#[c]}:Str)).length=8:=by rw[<-len_list,g,oY]
   generalize Txt.join "" ((eS s).map λc=>({#[c]}:Str))=base at l g;obtain⟨p1,p2,o,C⟩:=JW s;refine{{by decide,by decide},(by decide:(0:Int)<3),?_};refine zu (λc=>?_) λc=>?_
   .have e:1+(w+s) % 3=((1+(w+s) % 3).toNat:Int):=by lia
    refine{(by decide:(0:Int)<3),gD (by lia),jI (By t) ?_};have es:=qM (x:=base) (n:=(1+(w+s) % 3).toNat) (by lia);have eq:Txt.slice base none (some<|1+(w+s) % 3)=m_ (aj s w):=by rw[e];refine(zP _).symm.trans ?_;rw[es,g];unfold aj;rw[Ar c]
    rw[<-eq] at q;exact q
   .have I:=JU<|s / 64+3*(s / 8 % (1+s % 8))+w;refine{{by decide,by decide},.inl {by decide,by decide},(by decide:(0:Int)<26),by decide +kernel,?_};walk_at "w";rw[I];have T:=qM (x:=base) (n:=rA s) (by lia);have s2:=T3 (x:=base) (m:=rA s+1) (n:=YP s) (by assumption) (by lia);have l1:(Txt.slice base none<|some (rA s:Int)).length=rA s:=by rw[<-len_list,T,AR,len_list];lia
    have l2:(Txt.slice base (some ((rA s+1:Nat):Int))<|some (YP s:Int)).length<=8:=by rw[<-len_list,s2,AR];lia
    refine{gD (by lia),?_};refine{gD (by rw[o,l1];show rA s+1<=1000;lia),?_};refine{gD (by lia),?_};have J:((rA s:Int)+1)=((rA s+1:Nat):Int):=by rfl
    have l3:(Txt.slice base none (some (rA s:Int))++(⟨#[fI<|s / 64+3*(s / 8 % (1+s % 8))+w]⟩:Str)).length=rA s+1:=by rw[PySem.Str.length_append,l1];rfl
    refine{gD ?_,jI (By t) ?_}
    .rw[o] at l3 ⊢;rw[l3,J,C];lia
    .have eq:(Txt.slice base none (some (rA s:Int))++(⟨#[fI<|s / 64+3*(rA s:Int)+w]⟩:Str))++Txt.slice base (some ((rA s+1:Nat):Int)) (some (YP s:Int))=m_ (aj s w):=by
      refine(zP _).symm.trans ?_;have ca:∀a b:Str,(a++b).cps.toList=a.cps.toList++b.cps.toList:=λa b=>by show(a.cps++b.cps).toList=_;simp
      rw[ca,ca,T,s2,g];unfold aj;rw[Ap c]
     rw[o,J,C,eq];exact q
def T5(t t':Bool)(n I:Str):Da.eq (iG<|.leaf t n) (iG<|.leaf t' I)=(decide (t=t')&&decide (n=I)):=by
 by_cases h:n=I
 .subst h;cases t<;>cases t'<;>simp[iG,Da.eq,Da.eqs,mI,kL]<;>decide +kernel
 .cases t<;>cases t'<;>simp[iG,Da.eq,Da.eqs,mI,kL,h]<;>decide +kernel
theorem kA{α β:Type}(f:α->β):∀(l:List α) (n:Nat),(l.map f).eraseIdx n=(l.eraseIdx n).map f
 |[],n=>by simp
 |_::_,0=>rfl
 |x::r,n+1=>by rw[AQ,CG,CG,AQ,kA f r n]
def a8(a:j8)(b:Y)(r:List<|j8×Y)(k:j8):xj ((a,b)::r) k=if a=k then some b else xj r k:=by
 unfold xj;rw[BK];by_cases h:a=k
 .rw[Ar h,show decide ((a,b).1=k)=true from Az h];rfl
 .rw[Ap h,show decide ((a,b).1=k)=false from Ao h]
theorem uP(k I:j8)(y:Y):∀kvs:List (j8×Y),xj (kvs.map λJ=>if J.1=k then(J.1,y) else J) I=if I=k then(xj kvs I).map (λ_=>y) else xj kvs I
 |[]=>by rw[DO];split<;>rfl
 |(a,b)::r=>by
  have U:=uP k I y r;rw[AQ,a8];by_cases h:a=k
  .rw[Ar<|show(a,b).1=k from h,a8,U];by_cases h2:I=k
   .rw[Ar h2,Ar h2,Ar<|h.trans h2.symm,Ar<|h.trans h2.symm];rfl
   .rw[Ap h2,Ap h2,Ap λz=>h2<|z.symm.trans h,Ap λz=>h2<|z.symm.trans h]
  .rw[Ap<|show ¬(a,b).1=k from h,a8,U];by_cases h2:I=k
   .rw[Ar h2,Ar h2,Ap λz=>h<|z.trans h2,Ap λz=>h<|z.trans h2]
   .rw[Ap h2,Ap h2]
theorem ut(k I:j8)(y:Y):∀kvs:List (j8×Y),xj (kvs++[(k,y)]) I=(xj kvs I).or (if k=I then some y else none)
 |[]=>by rw[CP,a8];have:xj [] I=none:=rfl;rw[this];split<;>rfl
 |(a,b)::r=>by rw[List.cons_append,a8,a8,ut k I y r];split<;>rfl
theorem uE(k:j8):∀kvs:List (j8×Y),(kvs.any λI=>decide<|I.1=k)=(xj kvs k).isSome
 |[]=>rfl
 |(a,b)::r=>by
  rw[CB,a8,uE k r];by_cases h:a=k
  .rw[Ar h,show decide ((a,b).1=k)=true from Az h];rfl
  .rw[Ap h,show decide ((a,b).1=k)=false from Ao h];rfl
def aw(kvs:List<|j8×Y)(k I:j8)(y:Y):xj (wv kvs k y) I=if I=k then some y else xj kvs I:=by
 unfold wv;rw[uE];cases e:xj kvs k with
 |some v=>
  rw[Ar<|show(some v).isSome=true from rfl,uP];by_cases h:I=k
  .rw[Ar h,Ar h,h,e];rfl
  .rw[Ap h,Ap h]
 |none=>
  rw[Ap (by simp),ut];by_cases h:I=k
  .rw[Ar h,h,e,Ar rfl];rfl
  .rw[Ap h,Ap λz=>h z.symm];cases xj kvs I<;>rfl
def dX(kvs:List<|j8×Y)(k:j8)(y:Y):(wv kvs k y).length<=kvs.length+1:=by
 unfold wv;split
 .rw[Ae];omega
 .rw[Ab];simp
def pL(I:km)(p1:km):ai:=(zv (jw zH<|qk 5)
 (zv (jw (cV jc)<|qk 6)
 (zv (kC (aK<|xa I<|eY (qh 0)<|qh 3) (qk 7) (oF (bN (mJ (yB<|qh 4)<|tf (ky tS (xa p1<|qp (qh 3)<|eY (qh 7)<|ax 40692)<|ax 3)<|ax 0) (wo<|iI x0 (qh 6)<|eB<|yC .KB) aW)
 (zv (uc (qh 5) (qh 7)<|tR 6)
 (zv (jw (ky m5 (qh 0)<|qh 7)<|qk 8)
 (oF (bN (mJ (yB<|pW true<|qh 8)<|tf (tR 8)<|ax 3) (jw (bC<|qp (ah 8 0)<|qp (gt (qh 5)<|ah 8 1)<|qp (gt (qh 5)<|ah 8 2) jc)<|qk 8) aW)
 (wo<|iI x0 (qh 6)<|eB<|qh 8))))))
 (zv (qQ 7<|jw (oN hZ<|qp (d_ 2 (aK<|qh 1) (dC 2<|jt (qk 9)<|jt (qk 10) bT) D_<|bC<|qp (oN FK<|qp (gt (qh 5)<|qh 9)<|qp (gt (qh 5)<|qh 10) jc)<|qp (oN A_<|qp (gt (qh 5)<|qh 9)<|qp (gt (qh 5)<|qh 10) jc) jc) jc)<|qk 1)
 (zv (qQ 7<|jw (oN hZ<|qp (d_ 2 (aK<|qh 2) (dC 2<|jt (qk 9)<|jt (qk 10) bT) D_<|bC<|qp (gt (qh 5)<|qh 9)<|qp (gt (qh 5)<|qh 10) jc) jc)<|qk 2)
 (bP<|bC<|qp (ky gU (qh 6)<|d_ 1 (tG<|qp (oN Hc<|eB<|qh 4) jc) (qk 9) D_<|yC .KB)<|eY (qh 1)<|qh 2))))))
def qA(f:WA):WO->WO
 |some (.nd e i j)=>some<|.nd e (f i)<|f j
 |k=>k
theorem yM{f g:WA}:∀{k:WO},(∀e i j,k=some (.nd e i j)->f i=g i/\f j=g j)->qA f k=qA g k
 |none,_=>rfl
 |some (.lf _ _),_=>rfl
 |some (.nd e i j),h=>by obtain⟨a,b⟩:=h e i j rfl;show some (Kn.nd e (f i)<|f j)=some (Kn.nd e (g i)<|g j);rw[a,b]
structure t9(ks:List<|WO)(ps:Wt)(f:WA)(wd:List<|WO):Prop where
 at_:∀p∈ps,∀k,ks[p]?=some k->wd[f p]?=some (qA f k)
 inj:∀p∈ps,∀q∈ps,f p=f q->p=q
 only:∀x k,wd[x]?=some (some k)->∃p∈ps,x=f p
 ok:X6 wd
def t9.nil(ks:List<|WO)(f:WA):t9 ks [] f []:={λp I=>(AZ I).elim,λp I=>(AZ I).elim,λx k h=>(by simp at h),λp e i j h=>(by simp at h)}
def X6.gap(h:X6 wd):X6 (wd++[none]):=by
 intro p e i j I;by_cases c:p<wd.length
 .rw[Av c] at I;exact h p e i j I
 .rw[AH<|FE] at I;cases J:p-wd.length with|zero=>rw[J] at I;cases I|succ m=>rw[J] at I;cases I
theorem t9.gap{ks:List<|WO}{ps:Wt}{f:WA}(h:t9 ks ps f wd):t9 ks ps f (wd++[none]):=by
 refine{λp U k g=>lE<|h.at_ p U k g,h.inj,λx k I=>?_,h.ok.gap};by_cases c:x<wd.length
 .rw[Av c] at I;exact h.only x k I
 .rw[AH (by lia)] at I;cases J:x-wd.length with|zero=>rw[J] at I;cases I|succ m=>rw[J] at I;cases I
def t9.lt{ks:List<|WO}{ps:Wt}{f:WA}(h:t9 ks ps f wd){p:Nat}(hp:p∈ps)(I:p<ks.length):f p<wd.length:=zd<|h.at_ p hp _<|Ai I
def t9.step{ks:List<|WO}{ps:Wt}{f:WA}(h:t9 ks ps f wd)(r:∀p∈ps,p<ks.length){p:Nat}{k:WO}(hp:p∉ps)(C:ks[p]?=some k)(o:∀x∈ps,∀e i j,ks[x]?=some (some<|.nd e i j)->i∈ps/\j∈ps)(J:∀e i j,k=some (.nd e i j)->i∈ps/\j∈ps):
 t9 ks (ps++[p]) (λx=>if x=p then wd.length else f x) (wd++[qA f k]):=by
 have old:∀x∈ps,(if x=p then wd.length else f x)=f x:=λx I=>Ap λ(c:x=p)=>hp<|c▸I;have Y5:∀l,(∀e i j,l=some (.nd e i j)->i∈ps/\j∈ps)->qA (λx=>if x=p then wd.length else f x) l=qA f l:=λl U=>yM λe i j z=>by obtain⟨a,b⟩:=U e i j z;exact{old i a,old j b}
 refine{λx I l U=>?_,λx I y g e=>?_,λx l I=>?_,λx e i j I=>?_}
 .rcases Aj.mp I with I|I
  .show(wd++[qA f k])[if x=p then wd.length else f x]?=_;rw[old x I,Y5 l λe i j z=>o x I e i j (by rw[U,z])];exact lE<|h.at_ x I l U
  .have I:=Ad.mp I;subst I;rw[C] at U;cases U;rw[Ar rfl,Y5 k J];exact eF wd _ []
 .have e:=e;rcases Aj.mp I with I|I<;>rcases Aj.mp g with g|g
  .rw[old x I,old y g] at e;exact h.inj x I y g e
  .cases Ad.mp g;rw[old x I,Ar rfl] at e;have:=h.lt I<|r x I;lia
  .cases Ad.mp I;rw[old y g,Ar rfl] at e;have:=h.lt g<|r y g;lia
  .rw[Ad.mp I,Ad.mp g]
 .by_cases c:x<wd.length
  .rw[Av c] at I;obtain⟨q,t,e⟩:=h.only x l I;exact{q,Am _ t,by rw[e];exact(old q t).symm}
  .refine{p,Ah _<|Ad.mpr rfl,?_};have:=zd I;rw[Ab] at this;have:x<wd.length+1:=this;rw[Ar rfl];lia
 .by_cases c:x<wd.length
  .rw[Av c] at I;exact h.ok x e i j I
  .have:=zd I;rw[Ab] at this;have:x<wd.length+1:=this;have:x=wd.length:=by lia
   subst this;rw[AH<|An _,Ci] at I;have I:=AJ I;cases k with
   |none=>cases I
   |some k=>
    cases k with
    |lf=>cases I
    |nd T i' j'=>
     obtain⟨a,b⟩:=J T i' j' rfl;cases I;exact{h.lt a<|r _ a,h.lt b<|r _ b}
def ou{ks:List<|WO}(ok:X6 ks)(pm:qs.Perm<|List.range ks.length)(l:iB ks qs){p:Nat}(hp:qs[n]?=some p){e:Bool}(h:ks[p]?=some (some<|.nd e i j)):i∈qs.take n/\j∈qs.take n:=by
 obtain⟨C,T⟩:=ok p e i j h;have hl:=zd h;have o:=zd hp;have ind:∀x,x<ks.length->x≠p->(∀y∈qs.drop (n+1),y≠x)->x∈qs.take n:=λx t ne U=>by
  have I:=pm.mem_iff.mpr<|A9.mpr t;have g:qs=qs.take n++p::qs.drop (n+1):=by rw[Ai o] at hp;rw[<-AJ hp,Dx,Bb]
  rw[g] at I;rcases Aj.mp I with I|I
  .exact I
  .rcases Aw.mp I with I|I
   .exact absurd I ne
   .exact absurd rfl<|U x I
 have r:∀y∈qs.drop (n+1),y≠i/\y≠j:=λy J=>by
  have g:qs=qs.take n++p::qs.drop (n+1):=by rw[Ai o] at hp;rw[<-AJ hp,Dx,Bb]
  rw[g] at l;have:=(AU.mp l).2.1;exact(Dm.mp this).1 y J e i j h
 exact{ind i (pS) (Il) λy J=>(r y J).1,ind j (pS) (Il) λy J=>(r y J).2}
def JX:RD "_law_join" lg 0 ["_law_knots","_law_forest","_law_one","_law_two","_law_first","_law_second","_law_left","_law_right","_law_ends"] (λ_=>True):={_,λV B c _ _ _ _ _ _ _ I hN J=>(qa (S_ 4 hN<|dR (qv 1)<|x6<|qr x9 (qv 3)<|L_ B.ba<|qv 1)<|qa (S_ 5 hN<|dR (qv 1)<|x6<|qr x9 (qv 2)<|L_ B.ba<|qv 1)<|qa (wf (i:=6) hN rfl (Or.inr rfl)<|I_ (J_ 4)<|qr x9 (qr wx (qv 3) qg)<|L_ B.ba<|J_ 4)<|qa (wf (i:=7) hN rfl (Or.inr rfl)<|I_ (J_ 5)<|qr x9 (qr wx (qv 2) qg)<|L_ B.ba<|J_ 5)<|qa (z9<|qz (qv 0)<|x6<|zg<|cG j6 (qv 6)<|qv 7)<|qa (dE ["_law_p"] (i:=8) hN rfl (Or.inl rfl) (EW (by rfl)) rfl (jq<|qr jm (J_ 4)<|J_ 5) (pV 9) (λ_ _ _ _=>a6<|js (xY _ _ _) (qv 9) (zg<|ve (qv 6)<|qv 7) (by with_unfolding_all rfl)) λ_ _ _ _=>(qv 9))<|qe<|z9<|qz (qv 1)<|x6<|zh<|ve (zg<|xx j6<|cG (qr bz (L_ B.ba<|qv 0) qg) (J_ 4)<|J_ 5)<|qr jm (qv 8)<|zh<|x6<|qr bz (L_ B.ba<|qv 0) qg)}
def zK:RD "_law_fold" lO 0 ["_law_knots","_law_tree_here","_law_one","_law_two","_law_left","_law_right"] (λ_=>True):={_,λV B c _ _ _ _ _ _ _ I hN J=>(qa (zy (js sN (L_ B.ba<|J_ 1) qg<|xc _) (qe zO) zb)<|qa (S_ 4 hN<|dR (J_ 1)<|x6<|qr x9 (qv 3)<|L_ B.ba<|J_ 1)<|qa (S_ 5 hN<|dR (J_ 1)<|x6<|qr x9 (qv 2)<|L_ B.ba<|J_ 1)<|qa (z9<|qz (qv 0)<|x6<|zg<|cG j6 (qv 4)<|qv 5)<|qa (tU (qv 1) qg<|zg<|cG j6 (qr bz (L_ B.ba<|qv 0) qg)<|J_ 1)<|qe<|z9<|qz (J_ 1)<|x6<|qr bz (L_ B.ba<|qv 0) qg)}
theorem dJ{ks:WN}:∀{w v:Wd} {p:Nat},fC ks p w->fC ks p v->w=v
 |.leaf t n,.leaf g C,p,h,k=>by
  have h:=h;have k:(vz ks)[p]?=some (.tup [.str<|kL g,.str C]):=k;rw[h] at k;injection k with k;injection k with k;injection k with J I;injection I with I _
  injection J with J;injection I with I
  have:t=g:=by cases t<;>cases g<;>first|rfl|(exfalso;revert J;decide +kernel)
  rw[this,I]
 |.leaf t n,.node e l r,p,h,k=>by obtain⟨i,j,k,_⟩:=k;have h:=h;rw[h] at k;injection k with k;injection k with k;injection k with _ k;injection k with _ k;cases k
 |.node e l r,.leaf t n,p,h,k=>by obtain⟨i,j,h,_⟩:=h;have k:(vz ks)[p]?=some (.tup [.str<|kL t,.str n]):=k;rw[h] at k;injection k with k;injection k with k;injection k with _ k;injection k with _ k;cases k
 |.node e l r,.node o l' r',p,⟨i,j,h,T,hr⟩,⟨i',j',k,kl,kr⟩=>by
  rw[h] at k;injection k with k;injection k with k;injection k with J I;injection I with I U;injection U with U _
  injection J with J;injection I with I;injection U with U
  have e1:i=i':=by lia
  have e2:j=j':=by lia
  subst e1 e2;have:e=o:=by cases e<;>cases o<;>first|rfl|(exfalso;revert J;decide +kernel)
  rw[this,dJ (ks:=ks) T kl,dJ (ks:=ks) hr kr]
theorem o5{ks:WN}(I:bA ks):∀(m p:Nat),p<m->p<ks.length->∃w,fC ks p w/\w.depth<=p+1/\w.ok
 |0,p,h,_=>absurd h (by lia)
 |m+1,p,h,g=>by
  obtain⟨k,J⟩:∃k,ks[p]?=some k:={_,Ai g};have U:=I p k J;cases k with
  |lf t n=>exact{.leaf t n,fC.leaf J,by exact Cv _,U}
  |nd e i j=>
   have U:=U;obtain⟨l,o,T,C⟩:=o5 I m i (by lia) (by omega);obtain⟨r,b1,b2,b3⟩:=o5 I m j (by lia) (by lia);exact{.node e l r,FB J o b1,by show max l.depth r.depth+1<=p+1;lia,C,b3}
def TV(v:Str->Bool):Wd->Bool
 |.leaf t n=>if t=true then !v n else v n
 |.node e l r=>if e=true then TV v l||TV v r else TV v l&&TV v r
theorem mj(v:Str->Bool):∀w:Wd,TV v w.turn=!TV v w
 |.leaf t n=>by cases t<;>simp[Wd.turn,TV]
 |.node e l r=>by cases e<;>simp[Wd.turn,TV,mj v l,mj v r]
theorem SR.lt{E:Wt}(h:SR ks R E):∀x∈zq R,x<ks.length:=by
 have lt:∀{p:Nat} {k:Kn},ks[p]?=some k->p<ks.length:=λh=>(AM.mp h).1
 induction h with
 |link _ h2 h3 _ _=>intro x I;simp[zq] at I;rcases I with rfl|rfl;exact lt h2;exact lt h3
 |ei h1 _ _ _ _ _ _ g=>intro x I;rcases Aw.mp I with rfl|I;exact lt h1;exact g x I
 |bo h1 _ _ _ _ _ _ J U=>
  intro x I;rcases Aw.mp I with rfl|I
  .exact lt h1
  .rcases Aj.mp I with I|I
   .exact J x I
   .exact U x I
 |cu _ _ _ _ _ _ _ _ J U=>
  intro x I;rcases Aj.mp I with I|I
  .exact J x I
  .exact U x I
theorem SR.tv(hk:bA ks)(v:Str->Bool){E:Wt}(h:SR ks R E):∃x∈E,∃w,fC ks x w/\TV v w=true:=by
 have ex:∀{R':Ru} {E':Wt},SR ks R' E'->∀x∈E',∃w,fC ks x w:=λs x U=>by obtain⟨w,hw,_⟩:=o5 hk (x+1) x (Bi _)<|s.lt x<|s.sub x U;exact{(w),hw}
 induction h with
 |@link p q t n E _ h2 h3 h4 _=>
  cases ht:TV v (.leaf t n) with
  |true=>exact{p,(h4 p).mpr<|.inl rfl,_,fC.leaf h2,ht}
  |false=>
   refine{q,(h4 q).mpr<|.inr rfl,_,fC.leaf h3,?_};have:=mj v<|.leaf t n;rw[ht] at this;exact this
 |@ei r i j A EA E h1 hA hi hj _ g _ ih=>
  obtain⟨x,U,w,hw,tv⟩:=ih;obtain⟨wi,l⟩:=ex hA i hi;obtain⟨wj,o⟩:=ex hA j hj;by_cases I:x=i
  .subst I;rw[dJ hw l] at tv;exact{r,(g r).mpr<|.inr rfl,_,FB h1 l o,by simp[TV,tv]}
  .by_cases J:x=j
   .subst J;rw[dJ hw o] at tv;exact{r,(g r).mpr<|.inr rfl,_,FB h1 l o,by simp[TV,tv]}
   .exact{x,(g x).mpr<|.inl {(U),I,J},w,hw,tv}
 |@bo r i j A B EA EB E h1 hA hB hi hj g _ C T=>
  obtain⟨x,U,w,hw,tv⟩:=C;obtain⟨y,hy,u,hu,tu⟩:=T;by_cases I:x=i
  .by_cases J:y=j
   .subst I J;exact{r,(g r).mpr<|.inr<|.inr rfl,_,FB h1 hw hu,by simp[TV,tv,tu]}
   .exact{y,(g y).mpr<|.inr<|.inl {(hy),J},u,hu,tu}
  .exact{x,(g x).mpr<|.inl {(U),I},w,hw,tv}
 |@cu p q A B EA EB E w0 hA hB hp hq a1 a2 h7 _ C T=>
  obtain⟨x,U,w,hw,tv⟩:=C;obtain⟨y,hy,u,hu,tu⟩:=T;by_cases I:x=p
  .by_cases J:y=q
   .subst I J;rw[dJ hw a1] at tv;rw[dJ hu a2,mj,tv] at tu;cases tu
   .exact{y,(h7 y).mpr<|.inr {(hy),J},u,hu,tu}
  .exact{x,(h7 x).mpr<|.inl {(U),I},w,hw,tv}
def SR.ends(I:bA ks){E:Wt}(h:SR ks R E):0<E.length:=by obtain⟨x,J,_⟩:=h.tv I λ_=>true;exact CO J
structure Tr where
 a:Addr
 b:Addr
 R:Ru
 E:Wt
abbrev WP:=List Tr
abbrev jh(E:Wt):Z0:=E.map λn:Nat=>Y.int (n:Int)
def Tr.WX(t:Tr):List Addr:=[t.a,t.b]
structure cA(L0 L:qj)(ka fa:Addr)(ks:WN)(fo:WP):Prop where
 hk:L ka=⇑(vz ks)
 ht:∀t∈fo,L t.a=⇑[jp t.R,.ref t.b]/\L t.b=⇑(jh t.E)
 sr:∀t∈fo,SR ks t.R t.E
 nd:(fo.flatMap λt=>zq t.R).Nodup
 tm:∀x,x∈(fo.flatMap λt=>zq t.R)↔x<ks.length
 ad:(ka::fa::fo.flatMap Tr.WX).Nodup
 ok:bA ks
 sub:qf L0 L
 fr:∀x∈ka::fa::fo.flatMap Tr.WX,L0 x=none
def jb(fo:WP):Z0:=fo.map λt=>Y.ref t.a
structure tj(L0 L:qj)(ka fa:Addr)(ks:WN)(fo:WP):Prop where
 b:cA L0 L ka fa ks fo
 hf:L fa=⇑(jb fo)
def Fp:Ru->Prop
 |.link _ _=>True
 |.ei _ A=>Fp A
 |.bo _ A B=>Fp A/\Fp B
 |.cu _ _ _ _=>False
def JY(ks:WN)(fo:WP)(I:WN)(fo':WP):Prop:=(∃ms:WN,I=ks++ms/\∀k∈ms,∃e i j,k=.nd e i j)/\((∀t∈fo,Fp t.R)->∀t∈fo',Fp t.R)
def cA.perm{fo fo':WP}(h:cA L0 L ka fa ks fo)(p:fo.Perm fo'):cA L0 L ka fa ks fo':=by have J:(fo.flatMap λt=>zq t.R).Perm (fo'.flatMap λt=>zq t.R):=p.flatMap_right _;have U:(fo.flatMap Tr.WX).Perm (fo'.flatMap Tr.WX):=p.flatMap_right _;refine{h.hk,λt I=>h.ht t<|p.mem_iff.mpr I,λt I=>h.sr t<|p.mem_iff.mpr I,J.nodup_iff.mp h.nd,λx=>by rw[<-J.mem_iff];exact h.tm x,((U.cons _).cons _).nodup_iff.mp h.ad,h.ok,h.sub,λx g=>h.fr x<|((U.cons _).cons _).mem_iff.mpr g}
variable {fo rest:List Tr}
theorem xr{α:Type}:∀{l:List α} {j:Nat} {x:α},l[j]?=some x->l.Perm (x::l.eraseIdx j)
 |[],_,_,h=>by simp at h
 |y::r,0,x,h=>by
  have:y=x:=by simpa using h
  subst this;exact .refl _
 |y::r,j+1,x,h=>by have I:=xr (l:=r) (j:=j) (x:=x) (by simpa using h);rw[CG];exact(I.cons y).trans (.swap _ _ _)
def o4(fo:WP)(j:Nat):(jb fo).eraseIdx j=jb (fo.eraseIdx j):=kA _ fo j
theorem qf.none(s:qf L L'){p:Addr}(h:L' p=none):L p=none:=by cases z:L p with|none=>rfl|some o=>rw[s _ _ z] at h;cases h
def cA.Yb(h:cA L0 L ka fa ks fo):ka≠fa:=by have ad:=h.ad;rw[AG] at ad;exactλe=>ad.1<|e▸As ..
def cA.nk(h:cA L0 L ka fa ks fo):∀t∈fo,t.a≠fa/\t.b≠fa/\t.a≠ka/\t.b≠ka:=λt I=>by have ad:=h.ad;rw[AG,AG] at ad;have J:t.a∈fo.flatMap Tr.WX:=Bx.mpr {t,I,by simp[Tr.WX]};have U:t.b∈fo.flatMap Tr.WX:=Bx.mpr {t,I,by simp[Tr.WX]};exact{λe=>ad.2.1<|e▸J,λe=>ad.2.1<|e▸U,λe=>ad.1<|Al _<|e▸J,λe=>ad.1<|Al _<|e▸U}
def cA.XC(h:cA L0 L ka fa ks fo)(o:LO):cA L0 (qd L fa o) ka fa ks fo:=by
 refine{by rw[qb h.Yb];exact h.hk,λt I=>?_,h.sr,h.nd,h.tm,h.ad,h.ok,λb u e=>?_,h.fr}
 .obtain⟨J,U,_,_⟩:=h.nk t I;rw[qb J,qb U];exact h.ht t I
 .have:b≠fa:=λz=>by rw[z,h.fr fa (by simp)] at e;cases e
  rw[qb this];exact h.sub _ _ e
def cA.mono(h:cA L0 L ka fa ks fo)(s:qf L L'):cA L0 L' ka fa ks fo:=
 ⟨s _ _ h.hk,λt I=>{s _ _ (h.ht t I).1,s _ _ (h.ht t I).2},h.sr,h.nd,h.tm,h.ad,h.ok,h.sub.trans s,h.fr⟩
def cA.ZU(h:cA L0 L ka fa ks fo):∀z∈fo.flatMap Tr.WX,∃o,L z=some o:=λz I=>by
 obtain⟨t,J,I⟩:=Bx.mp I;obtain⟨h1,h2⟩:=h.ht t J;have I:z=t.a\/z=t.b:=by simpa[Tr.WX] using I
 rcases I with rfl|rfl
 .exact{_,h1}
 .exact{_,h2}
def T6{l:List Addr}(nd:l.Nodup)(ex:∀z∈l,∃o,L z=some o)(U:L pa=none)(g:L pb=none)(ne:pa≠pb):(l++[pa,pb]).Nodup:=by
 rw[AL];refine{nd,by simp[ne],λu j v J e=>?_};subst e;obtain⟨o,I⟩:=ex u j;simp at J;rcases J with rfl|rfl
 .rw[U] at I;cases I
 .rw[g] at I;cases I
def cA.step{old:WP}{t':Tr}(h:cA L0 L ka fa ks<|old++rest)(l:L' ka=⇑(vz<|ks++ms))(o:L' t'.a=⇑[jp t'.R,.ref t'.b]/\L' t'.b=⇑(jh t'.E))
 (keep:∀t∈rest,L' t.a=L t.a/\L' t.b=L t.b) (sub:qf L0 L') (ad:(ka::fa::(rest++[t']).flatMap Tr.WX).Nodup) (p:∀x∈t'.WX,L0 x=none) (ok:bA<|ks++ms) (r:SR (ks++ms) t'.R t'.E)
 (tp:(zq t'.R).Perm<|List.range' ks.length ms.length++old.flatMap λt=>zq t.R):cA L0 L' ka fa (ks++ms) (rest++[t']):=by
 have WU:=h.nd;have U:=h.tm;rw[AO] at WU;have j:((rest++[t']).flatMap λt=>zq t.R)=(rest.flatMap λt=>zq t.R)++zq t'.R:=by rw[AO];simp
 have mem:∀x,x∈zq t'.R↔(ks.length<=x/\x<ks.length+ms.length)\/x∈(old.flatMap λt=>zq t.R):=λx=>by rw[tp.mem_iff,Aj,Dy]
 refine{l,λt J=>?_,λt J=>?_,?_,λx=>?_,ad,ok,sub,λx I=>?_}
 .rcases Aj.mp J with J|J
  .obtain⟨C,T⟩:=keep t J;rw[C,T];exact h.ht t<|Ah _ J
  .rw[Ad.mp J];exact o
 .rcases Aj.mp J with J|J
  .exact(h.sr t<|Ah _ J).more _
  .rw[Ad.mp J];exact r
 .rw[j,AL];rw[AL] at WU;refine{WU.2.1,tp.nodup_iff.mpr ?_,λx I y g e=>?_}
  .rw[AL];refine{Eg,WU.1,λx I y g e=>?_};have I:=Dy.mp I;have g:=(U y).mp (by rw[AO];exact Am _ g);lia
  .subst e;rcases (mem x).mp g with g|g
   .have:=(U x).mp (by rw[AO];exact Ah _ I);lia
   .exact WU.2.2 x g x I rfl
 .rw[j,Aj,mem,Ab];have h1:=U x;rw[AO,Aj] at h1;constructor
  .rintro(h2|h2|h2)
   .have:=h1.mp<|.inr h2;exact GS
   .lia
   .have:=h1.mp<|.inl h2;lia
  .intro h2;by_cases c:x<ks.length
   .rcases h1.mpr c with h3|h3
    .exact .inr<|.inr h3
    .exact .inl h3
   .exact .inr<|.inl (by lia)
 .rcases Aw.mp I with rfl|I
  .exact h.fr _<|As ..
  .rcases Aw.mp I with rfl|I
   .exact h.fr _<|Al _<|As ..
   .rw[AO] at I;rcases Aj.mp I with I|I
    .exact h.fr _ (Al _ (Al _ (by rw[AO];exact Ah _ I)))
    .exact p x (by simpa using I)
def cA.put{M:qj}{old:WP}{E:Wt}{fs:LO}(h:cA L0 L ka fa ks<|old++rest)(U:∀z o,z≠ka->L z=some o->M z=some o)(g:M ka=⇑(vz<|ks++ms))(l:M fa=some fs)(na:M pa=none)(nb:M pb=none)(ne:pa≠pb)(s:qf M L')(p:L' pa=⇑[jp R,.ref pb])(r:L' pb=⇑(jh E))
 (ok:bA<|ks++ms) (C:SR (ks++ms) R E) (tp:(zq R).Perm<|List.range' ks.length ms.length++old.flatMap λt=>zq t.R):cA L0 L' ka fa (ks++ms) (rest++[{(pa),pb,R,E}]):=by
 have J:∀z o,L0 z=some o->M z=some o:=λz o e=>U _ _ (λw=>by rw[w,h.fr ka (by simp)] at e;cases e)<|h.sub _ _ e;have two:∀z,z∈(⟨pa,pb,R,E⟩:Tr).WX->M z=none:=λz I=>by
  have I:z=pa\/z=pb:=by simpa[Tr.WX] using I
  rcases I with rfl|rfl<;>assumption
 refine cA.step (old:=old) (t':={(pa),pb,R,E}) h (s _ _ g) {(p),r} (λt j=>?_) (λz o e=>s _ _<|J z o e) ?_ (λz I=>?_) ok C tp
 .obtain⟨_,_,T,n4⟩:=h.nk t<|Ah _ j;obtain⟨h1,h2⟩:=h.ht t<|Ah _ j;rw[h1,h2];exact{s _ _<|U _ _ T h1,s _ _<|U _ _ n4 h2}
 .have ad:=h.ad;rw[AO] at ad;have:=T6 (L:=M) ((((List.sublist_append_right ..).cons_cons _).cons_cons _).nodup ad) (λz I=>?_) na nb ne
  .rw[AO];simpa[Tr.WX] using this
  .rcases Aw.mp I with rfl|I
   .exact{_,g}
   rcases Aw.mp I with rfl|I
   .exact{_,l}
   obtain⟨o,e⟩:=h.ZU z (by rw[AO];exact Ah _ I);exact{o,U _ _ (λw=>(AG.mp ad).1 (by rw[<-w];exact Al _<|Ah _ I)) e}
 .cases e:L0 z with|none=>rfl|some o=>have w:=J z o e;rw[two z I] at w;cases w
inductive m9(ys:Z0)(L:qj)(Q:YK):Prop
 |mk:∀L0 ka fa ks fo,∀one two:Int,(ys=[.ref ka,.ref fa,.int one,.int two])->(tj L0 L ka fa ks fo)->(2<=fo.length)->(fo.length<=200)->(ks.length<=200)->(∀L' ks' fo',tj L0 L' ka fa ks' fo'->ks'.length=ks.length+1->fo'.length+1=fo.length->JY ks fo ks' fo'->Q .KB L')->m9 ys L Q
def kG{l:List α}(h:0<l.length)(k:Int):∃(j:Nat) (x:α),k % (l.length:Int)=(j:Int)/\j<l.length/\l[j]?=some x:=by have h0:0<=k % (l.length:Int):=EI _ (by lia);have h1:k % (l.length:Int)<(l.length:Int):=Int.emod_lt_of_pos _ (by omega);refine{(k % (l.length:Int)).toNat,l[(k % (l.length:Int)).toNat]'(by lia),by lia,by lia,Ai (by lia)}
theorem cJ:∀(n:Nat) (l:Wt),l.Nodup->(∀x∈l,x<n)->l.length<=n
 |0,l,_,h=>by cases l with|nil=>exact An _|cons x r=>exact absurd (h x<|As ..) (by lia)
 |n+1,l,nd,h=>by
  by_cases c:n∈l
  .have p:=List.perm_cons_erase c;have J:=cJ n (l.erase n) (nd.erase n) λx I=>by have:=(List.Nodup.mem_erase_iff nd).mp I;have:=h x this.2;lia
   rw[p.length_eq,AD];exact Fz
  .exact Dt (cJ n l nd λx I=>by have:=h x I;have:x≠n:=λe=>c<|e▸I;lia)
def bX(h:cA L0 L ka fa ks fo){t:Tr}(I:t∈fo):0<t.E.length/\t.E.length<=ks.length:=by have s:=h.sr t I;exact{s.ends h.ok,cJ _ _ s.Yv λx J=>s.lt x<|s.sub x J}
def T7(x l r:Nat):k_ (jX<|.int (x:Int)) (([.int (l:Int),.int (r:Int)]:Z0).map jX)=decide (x=l\/x=r):=by
 show(mI (.int (l:Int)) (.int (x:Int))||(mI (.int (r:Int)) (.int (x:Int))||false))=_;have e:∀a b:Nat,mI (.int (a:Int)) (.int (b:Int))=decide (b=a):=λa b=>by
  show decide ((a:Int)=(b:Int))=decide (b=a);by_cases c:b=a
  .subst c;simp
  .rw[Ao c];apply Ao;lia
 rw[e,e];by_cases h1:x=l<;>by_cases h2:x=r<;>simp[h1,h2]
def sJ{E:Wt}(h:0<E.length)(k:Int):∃x,x∈E/\iV (jh E) (k % ((jh E).length:Int))=some (.int ((x:Nat):Int)):=by obtain⟨j,x,I,J,ex⟩:=kG h k;refine{x,Au ex,?_};rw[Ae,I];exact w5 (by rw[Aq,ex];rfl)
def wu(E1 E2:Wt)(l r:Nat):Wt:=(E1++E2).filter λx=>!decide (x=l\/x=r)
def JZ{U:Addr}{E:Wt}{l r k:Nat}{Q:YK}(hp:L U=⇑(jh E))(I:E.length<=1000)
 (C:∀y (g:Bool->qj->Prop),uj true y (.tup [.int (l:Int),.int (r:Int)]) L (λx L'=>match x with|.bl c=>g c L'|_=>False)->tc (cg (τ++List.replicate 1 none) k y) L g)
 (T:∀y,qC (cg (τ++List.replicate 1 none) k y) k=some y)
 (hq:∀p,L p=none->Q (.ref p) (qd L p<|.lst<|jh<|E.filter λx=>!decide (x=l\/x=r))):
 uk L U λys keep L2=>y8 ys keep 1 (qk k) tc (qh k) τ L2 Q:=by
 refine j7 hp λkeep kp=>bQ (λj zs=>zs=jh ((E.take j).filter λx=>!decide (x=l\/x=r))) (by rw[Ae];exact qT I) (kp L rfl) rfl ?_ ?_
 .rintro j y _ o rfl;obtain⟨x,ex,rfl⟩:∃x:Nat,E[j]?=some x/\y=Y.int (x:Int):=by rw[Aq] at o;obtain⟨x,e1,e2⟩:=AA.mp o;exact{(x),e1,e2.symm}
  refine C _ _ {rfl,rfl,?_};rw[T7];have t:(E.take<|j+1).filter (λx=>!decide (x=l\/x=r))=(E.take j).filter (λx=>!decide (x=l\/x=r))++[x].filter (λx=>!decide (x=l\/x=r)):=by rw[A4,ex,BE];rfl
  by_cases c:x=l\/x=r
  .refine jv (by rw[Az c];rfl) ?_;refine IH {rfl,?_};rw[t,Cd (by simp[c]),BX,AB]
  .refine xq (by rw[Ao c];rfl) ?_;unfold qh;rw[T];refine IH {rfl,?_};rw[t,B3 (by simp[c]),BX];unfold jh;rw[AC];rfl
 .rintro _ rfl p J;rw[Ae,AY];exact hq p J
def xK{k:Int}(U:L fa=⇑(jb fo))(h:0<fo.length):∃(j:Nat) (t:Tr),fo[j]?=some t/\0<=k % ((jb fo).length:Int)/\k % ((jb fo).length:Int)<((jb fo).length:Int)/\
 (jb fo)[(k % ((jb fo).length:Int)).toNat]?=some (.ref t.a)/\qd L fa (.lst<|(jb fo).eraseIdx (k % ((jb fo).length:Int)).toNat) fa=⇑(jb<|fo.eraseIdx j):=by
 obtain⟨j,t,J,g,I⟩:=kG h k;have e:(jb fo).length=fo.length:=Ae ..;rw[e,J];refine{j,t,I,A1 _,by lia,?_,?_}
 .show(jb fo)[j]?=_;unfold jb;rw[Aq,I];rfl
 .rw[q9];show some (LO.lst<|(jb fo).eraseIdx j)=_;rw[o4]
def cA.two{t1 t2:Tr}(h:cA L0 L ka fa ks<|t1::t2::rest):∀x,x∈zq t1.R->x∈zq t2.R->False:=by intro x h1 h2;have nd:=h.nd;rw[Be,Be,AL] at nd;exact nd.2.2 x h1 x (Am _ h2) rfl
def zD{E1 E2:Wt}{l r:Nat}(I:l∉E2)(J:r∉E1)(x:Nat):x∈wu E1 E2 l r↔(x∈E1/\x≠l)\/(x∈E2/\x≠r):=by
 unfold wu;rw[Bu,Aj];constructor
 .rintro⟨h,c⟩;have c:¬(x=l\/x=r):=by simpa using c
  rcases h with h|h
  .exact .inl {h,λe=>c<|.inl e}
  .exact .inr {h,λe=>c<|.inr e}
 .rintro(⟨h,c⟩|⟨h,c⟩)
  .refine{.inl h,?_};have:x≠r:=λe=>J<|e▸h;simp[c,this]
  .refine{.inr h,?_};have:x≠l:=λe=>I<|e▸h;simp[c,this]
def zY{E1 E2:Wt}{l r:Nat}(h1:E1.Nodup)(h2:E2.Nodup)(d:∀x,x∈E1->x∈E2->False):(wu E1 E2 l r).Nodup:=by
 have h:(E1++E2).Nodup:=by rw[AL];exact{h1,h2,λx I y J e=>d x I<|e▸J}
 exact List.Pairwise.filter _ h
def kB(a b:Wt):jh (a++b)=jh a++jh b:=AC
def hG(a:WP)(t:Tr):jb (a++[t])=jb a++[.ref t.a]:=AC
theorem T9:ZY m9 JX.1 9:=by
 rintro ys L Q ⟨L0,ka,fa,g,fo,one,two,rfl,F,h2,c2,bh,q⟩;have big:=a_;have p:∀fo:WP,(jb fo).length=fo.length:=λfo=>Ae ..;have U:∀E:Wt,(jh E).length=E.length:=λE=>Ae ..;obtain⟨j1,I,bi,a1,a2,a3,j⟩:=xK (k:=two) F.hf<|iT;have p1:=xr bi;refine qc F.hf (qc F.hf {(by rw[p];lia),qm F.hf {a1,a2,ql a3 ?_}});have B:=(F.b.perm p1).XC<|.lst<|(jb fo).eraseIdx (two % ((jb fo).length:Int)).toNat;generalize qd L fa _=L1 at j B ⊢;have l1:=p1.length_eq;generalize fo.eraseIdx j1=a5 at l1 j B p1 ⊢;rw[AD] at l1;obtain⟨j2,J,bj,b1,b2,b3,ac⟩:=xK (k:=one) j (by lia);have p2:=xr bj;refine qc j (qc j {(by rw[p];lia),qm j {b1,b2,ql b3 ?_}});replace B:=(B.perm<|p2.cons _).XC<|.lst<|(jb a5).eraseIdx (one % ((jb a5).length:Int)).toNat;generalize qd L1 fa _=L2 at ac B ⊢;have l2:=p2.length_eq;have be:=p1.trans<|p2.cons _;generalize a5.eraseIdx j2=rest at l2 ac B be ⊢;rw[AD] at l2;have m1:I∈I::J::rest:=by simp
 have m2:J∈I::J::rest:=by simp
 obtain⟨C,al⟩:=B.ht I m1;obtain⟨T,av⟩:=B.ht J m2;obtain⟨_,_,n1,n2⟩:=B.nk I m1;obtain⟨_,_,n3,n4⟩:=B.nk J m2;have bn:=bX B m1;have bp:=bX B m2;obtain⟨x,hx,ex⟩:=sJ bn.1<|two / 64;obtain⟨y,hy,ey⟩:=sJ bp.1<|one / 64;refine qc C {{by decide,by decide},qc C (qc al {(by rw[U];omega),qc al<|ql ex ?_})};refine qc T {{by decide,by decide},qc T (qc av {(by rw[U];omega),qc av<|ql ey ?_})};refine qc B.hk (qm B.hk {big _ (by rw[Ae];exact fu),?_});have ek:vz g++[.tup [.str "both",.int ((x:Nat):Int),.int ((y:Nat):Int)]]=vz (g++[.nd false x y]):=by unfold vz;rw[AC];rfl
 rw[ek];have k3:∀z o,z≠ka->L2 z=some o->qd L2 ka (.lst<|vz<|g++[.nd false x y]) z=some o:=λz o n e=>(qb n).trans e;have bf:qd L2 ka (.lst<|vz<|g++[.nd false x y]) ka=⇑(vz<|g++[.nd false x y]):=q9;generalize qd L2 ka _=L3 at bf k3 ⊢;refine qc (k3 _ _ n1 C) (qc (k3 _ _ n3 T) {_,_,k3 _ _ n2 al,k3 _ _ n4 av,gD (by rw[U,U];lia),λpp bq=>?_});rw[<-kB];refine JZ (E:=I.E++J.E) (l:=x) (r:=y) (k:=9) q9 (by rw[Ab];lia) (λy' Q' h=>h) (λ_=>rfl) λpe c0=>?_;generalize hL:qd (qd L3 pp _) pe _=L4;have s4:qf L3 L4:=by rw[<-hL];exact(By bq).trans (By c0)
 have c1:L4 pe=⇑(jh<|wu I.E J.E x y):=by rw[<-hL];exact q9
 have k4:∀z o,z≠ka->L2 z=some o->L4 z=some o:=λz o n e=>s4 _ _<|k3 z o n e;have aL:=s4 _ _ bf;have ba:=k4 _ _ (AE B.Yb) ac;have nn:(((vz<|g++[.nd false x y]).length:Nat):Int)-1=((g.length:Nat):Int):=by rw[Ae,Ab];simp
 have lb:(wu I.E J.E x y).length<=(I.E++J.E).length:=Cu ..;rw[Ab] at lb;refine qc ba<|qc aL<|qc (k4 _ _ n1 C)<|qc (k4 _ _ n3 T)<|qc aL λpn a4=>?_;refine{_,_,By a4 _ _ c1,q9,gD (by rw[U];show _+1<=1000;lia),λpb bb pa bc=>?_};have bg:=vh q9 bc;have nb:=(By a4).none bb;have na:=((By a4).trans<|By bb).none bc;generalize hL:qd (qd (qd L4 pn _) pb _) pa _=L7;have s7:qf L4 L7:=by rw[<-hL];exact((By a4).trans<|By bb).trans (By bc)
 have ea:L7 pa=⇑[jp<|.bo g.length I.R J.R,.ref pb]:=by rw[<-hL,q9];dsimp only;rw[nn];rfl
 have eb:L7 pb=⇑(jh<|wu I.E J.E x y++[g.length]):=by rw[<-hL,qb bg,q9];dsimp only;rw[nn,kB];rfl
 refine qm (s7 _ _ ba) {big _ (by rw[p];lia),?_};have s1:=B.sr I m1;have s2:=B.sr J m2;have bd:∀z,z∈I.E->z∈J.E->False:=λz h1 h2=>B.two z (s1.sub z h1)<|s2.sub z h2;have bm:=zD (E1:=I.E) (E2:=J.E) (λh=>bd x hx h) λh=>bd y h hy;refine k8 (q _ (g++[.nd false x y]) (rest++[{pa,pb,.bo g.length I.R J.R,wu I.E J.E x y++[g.length]}]) {(cA.put (old:=[I,J]) B k4 aL ba na nb (AE bg) s7 ea eb (B.ok.snoc {s1.lt x<|s1.sub x hx,s2.lt y<|s2.sub y hy}) (.bo (eF _ _ _) (s1.more _) (s2.more _) hx hy (λz=>?_) ?_) ?_).XC _,by rw[q9,hG]} (by rw[Ab];rfl) (by rw[Ab];simp;lia) {{_,rfl,λk hk=>{_,_,_,Ad.mp hk}},λh t ht=>?_})
 .rw[Aj,bm,Ad,or_assoc]
 .rw[AL];refine{zY s1.Yv s2.Yv bd,by simp,λu hu v hv e=>?_};rw[Ad.mp hv] at e;rcases (bm u).mp hu with⟨h,_⟩|⟨h,_⟩
  .have:=s1.lt u<|s1.sub u h;lia
  .have:=s2.lt u<|s2.sub u h;lia
 .show(g.length::(zq I.R++zq J.R)).Perm (List.range' g.length 1++([I,J].flatMap λt=>zq t.R));simp[Es]
 .have h':∀u∈I::J::rest,Fp u.R:=λu hu=>h u<|be.mem_iff.mpr hu;rcases Aj.mp ht with ht|ht
  .exact h' t<|Al _<|Al _ ht
  .rw[Ad.mp ht];exact{h' I m1,h' J m2}
def uA{E:Wt}{k:Int}(h:0<E.length):∃(j x:Nat),E[j]?=some x/\0<=k % ((jh E).length:Int)/\k % ((jh E).length:Int)<((jh E).length:Int)/\
 (jh E)[(k % ((jh E).length:Int)).toNat]?=some (.int ((x:Nat):Int))/\(jh E).eraseIdx (k % ((jh E).length:Int)).toNat=jh (E.eraseIdx j):=by
 obtain⟨j,x,J,U,I⟩:=kG h k;have e:(jh E).length=E.length:=Ae ..;rw[e,J];refine{j,x,I,A1 _,by lia,?_,?_}
 .show(jh E)[j]?=_;rw[Aq,I];rfl
 .exact kA _ E j
def Hk{a:Addr}{o:LO}:∀z u,z≠a->L z=some u->qd L a o z=some u:=λz u n e=>(qb n).trans e
inductive im(ys:Z0)(L:qj)(Q:YK):Prop
 |mk:∀L0 ka fa ks,∀pre post:WP,∀t:Tr,∀one two:Int,(ys=[.ref ka,.ref t.a,.int one,.int two])->(tj L0 L ka fa ks<|pre++t::post)->(ks.length<=200)->(∀L' ks' fo',tj L0 L' ka fa ks' fo'->ks'.length<=ks.length+1->fo'.length=(pre++t::post).length->JY ks (pre++t::post) ks' fo'->Q .KB L')->im ys L Q
theorem Ua:ZY im zK.1 6:=by
 rintro ys L Q ⟨L0,C,fa,I,pre,post,t,one,two,rfl,F,be,q⟩;have big:=a_;have mt:t∈pre++t::post:=by simp
 have B:=F.b;obtain⟨ta,tb⟩:=B.ht t mt;have le:=bX B mt;have s:=B.sr t mt;have U:∀E:Wt,(jh E).length=E.length:=λE=>Ae ..;refine qc ta<|qc tb ?_;refine zu (λc=>?_) λc=>?_
 .exact k8<|q L I _ F (Cy _) rfl {{[],(AB _).symm,λk hk=>by cases hk},λh=>h}
 have c:=c;rw[U] at c;have ad:=B.ad;have Yb:=B.Yb;have nk:=B.nk;have r:t.a≠t.b:=by rw[AG,AG,AO,Be,AL,AL] at ad;have:=ad.2.2.2.1.1;simpa[Tr.WX] using this
 obtain⟨j1,x,e1,a1,a2,a3,a4⟩:=uA (k:=two) le.1;refine qc ta (qc tb (qc ta (qc tb {(by rw[U];omega),qm tb {a1,a2,ql a3 ?_}})));rw[a4];have bh:(t.E.eraseIdx j1).length+1=t.E.length:=by have:=(xr e1).length_eq;rw[AD] at this;lia
 have a5:qd L t.b (.lst<|jh<|t.E.eraseIdx j1) t.a=⇑[jp t.R,.ref t.b]:=by rw[qb r];exact ta
 obtain⟨j2,y,e2,b1,b2,b3,b4⟩:=uA (E:=t.E.eraseIdx j1) (k:=one) (by lia);refine qc a5 (qc q9 (qc a5 (qc q9 {(by rw[U];omega),qm q9 {b1,b2,ql b3 ?_}})));rw[b4,jz];have bf:((t.E.eraseIdx j1).eraseIdx j2).length+1=(t.E.eraseIdx j1).length:=by have:=(xr e2).length_eq;rw[AD] at this;lia
 have pE:=(xr e1).trans<|(xr e2).cons _;generalize (t.E.eraseIdx j1).eraseIdx j2=j at bf pE;have nt:=nk t mt;have k1:=Hk (L:=L) (a:=t.b) (o:=.lst<|jh j);have ac:qd L t.b (.lst<|jh j) t.b=⇑(jh j):=q9;generalize qd L t.b _=L1 at k1 ac ⊢;have al:=k1 _ _ (AE nt.2.2.2) B.hk;refine qc al (qm al {big _ (by rw[Ae];exact fu),?_});have ek:vz I++[.tup [.str "either",.int ((x:Nat):Int),.int ((y:Nat):Int)]]=vz (I++[.nd true x y]):=by unfold vz;rw[AC];rfl
 rw[ek];have nn:(((vz<|I++[.nd true x y]).length:Nat):Int)-1=((I.length:Nat):Int):=by rw[Ae,Ab];simp
 have k2:=Hk (L:=L1) (a:=C) (o:=.lst<|vz<|I++[.nd true x y]);have T:qd L1 C (.lst<|vz<|I++[.nd true x y]) C=⇑(vz<|I++[.nd true x y]):=q9;generalize qd L1 C _=L2 at k2 T ⊢;have av:=k2 _ _ nt.2.2.1<|k1 _ _ r ta;refine qc T<|qc av<|qm av<|ql (v:=0) rfl ?_;generalize hL:qd L2 t.a _=L3;have aL:L3 t.a=⇑[jp<|.ei I.length t.R,.ref t.b]:=by rw[<-hL,q9];dsimp only;rw[nn];rfl
 have k3:∀z o,z≠t.a->L2 z=some o->L3 z=some o:=by rw[<-hL];exact Hk
 have ba:=k3 _ _ (AE nt.2.2.1) T;have bb:=k3 _ _ (AE r)<|k2 _ _ nt.2.2.2 ac;have g:∀b u,b≠t.a->b≠t.b->b≠C->L b=some u->L3 b=some u:=λb u n1 n2 n3 e=>k3 _ _ n1<|k2 _ _ n3<|k1 _ _ n2 e;refine qc aL (qc bb (qc ba (qm bb {big _ (by rw[U];lia),?_})));have en:jh j++[.int<|(((vz<|I++[.nd true x y]).length:Nat):Int)-1]=jh (j++[I.length]):=by rw[nn];unfold jh;rw[AC];rfl
 have l:=pE.nodup_iff.mp s.Yv;rw[AG,AG] at l;have hx:x∈t.E:=pE.mem_iff.mpr (by simp);have hy:y∈t.E:=pE.mem_iff.mpr (by simp);have bg:∀u∈pre++post,u.a≠t.a/\u.a≠t.b/\u.b≠t.a/\u.b≠t.b:=λu J=>by have p:(pre++t::post).Perm (t::(pre++post)):=Cm;have bc:=(p.flatMap_right Tr.WX).nodup_iff.mp (by rw[AG,AG] at ad;exact ad.2.2);rw[Be,AL] at bc;have k:=bc.2.2;have ma:u.a∈(pre++post).flatMap Tr.WX:=Bx.mpr {u,J,by simp[Tr.WX]};have mb:u.b∈(pre++post).flatMap Tr.WX:=Bx.mpr {u,J,by simp[Tr.WX]};exact{λe=>k t.a (by simp[Tr.WX]) u.a ma e.symm,λe=>k t.b (by simp[Tr.WX]) u.a ma e.symm,λe=>k t.a (by simp[Tr.WX]) u.b mb e.symm,λe=>k t.b (by simp[Tr.WX]) u.b mb e.symm}
 refine k8 (q _ (I++[.nd true x y]) (pre++⟨t.a,t.b,.ei I.length t.R,j++[I.length]⟩::post) {?_,?_} (by rw[Ab];exact An _) (by simp) {{_,rfl,λk hk=>{_,_,_,Ad.mp hk}},λh u J=>?_})
 rotate_right
 .rcases Aj.mp J with J|J
  .exact h u<|Am _ J
  .rcases Aw.mp J with rfl|J
   .exact h t mt
   .exact h u<|Ah _<|Al _ J
 .have B':=B.perm (fo':=[t]++(pre++post)) Cm;have st:=cA.step (old:=[t]) (rest:=pre++post) (t':={t.a,t.b,.ei I.length t.R,j++[I.length]}) (ms:=[.nd true x y]) (L':=qd L3 t.b<|.lst<|jh j++[.int<|(((vz<|I++[.nd true x y]).length:Nat):Int)-1]) B' ?_ {?_,?_} (λu J=>?_) (λb o e=>?_) ?_ (λz hz=>?_) ?_ ?_ ?_
  .exact st.perm (by have p1:((pre++post)++[({t.a,t.b,.ei I.length t.R,j++[I.length]}:Tr)]).Perm ((⟨t.a,t.b,.ei I.length t.R,j++[I.length]⟩:Tr)::(pre++post)):=Co _ _;exact p1.trans Cm.symm)
  .rw[qb<|AE (nk t mt).2.2.2];exact ba
  .rw[qb r];exact aL
  .rw[q9,en]
  .have bd:u∈pre++t::post:=by rcases Aj.mp J with h|h;exact Am _ h;exact Ah _ (Al _ h)
   obtain⟨n1,n2,n3,n4⟩:=bg u J;obtain⟨k1,k2,k3,k4⟩:=nk u bd;obtain⟨h1,h2⟩:=B.ht u bd;rw[h1,h2,qb n2,qb n4];exact{g _ _ n1 n2 k3 h1,g _ _ n3 n4 k4 h2}
  .have fr:=B.fr;have n0:∀z,L0 z=none->b≠z:=λz hz w=>by rw[w,hz] at e;cases e
   have n1:=n0 C<|fr C (by simp);have n2:=n0 t.a<|fr t.a (by simp[Tr.WX]);have n3:=n0 t.b<|fr t.b (by simp[Tr.WX]);rw[qb n3];exact g _ _ n2 n3 n1<|B.sub _ _ e
  .have p:(pre++t::post).Perm ((pre++post)++[t]):=Cm.trans (Co _ _).symm;have e:((pre++post)++[({t.a,t.b,.ei I.length t.R,j++[I.length]}:Tr)]).flatMap Tr.WX=((pre++post)++[t]).flatMap Tr.WX:=by simp[AO,Tr.WX]
   rw[e];exact(((p.flatMap_right Tr.WX).cons _).cons _).nodup_iff.mp ad
  .have hz:z=t.a\/z=t.b:=by simpa[Tr.WX] using hz
   rcases hz with rfl|rfl
   .exact B.fr _ (by simp[Tr.WX])
   .exact B.fr _ (by simp[Tr.WX])
  .exact B.ok.snoc {s.lt x<|s.sub x hx,s.lt y<|s.sub y hy}
  .refine .ei (eF _ _ _) (s.more _) hx hy (λe=>l.1 (by rw[e];exact As ..)) (λz=>?_) ?_
   .rw[Aj,Ad];have hm:=pE.mem_iff (a:=z);rw[Aw,Aw] at hm;have h1:z∈j->z≠x/\z≠y:=λh=>{λe=>l.1 (by rw[<-e];exact Al _ h),λe=>l.2.1<|e▸h};constructor
    .rintro(h|h)
     .exact .inl {hm.mpr<|.inr<|.inr h,h1 h}
     .exact .inr h
    .rintro(⟨h,c1,c2⟩|h)
     .rcases hm.mp h with e|e|e
      .exact absurd e c1
      .exact absurd e c2
      .exact .inl e
     .exact .inr h
   .rw[AL];refine{l.2.2,by simp,λu J v hv e=>?_};rw[Ad.mp hv] at e;have:=pE.mem_iff.mpr<|Al _<|Al _ J;have:=s.lt u<|s.sub u this;lia
  .show(I.length::zq t.R).Perm (List.range' I.length 1++([t].flatMap λt=>zq t.R));simp[Es]
 .have nf:=nk t mt;rw[qb<|AE nf.2.1];have:=g fa _ (AE nf.1) (AE nf.2.1) (AE Yb) F.hf;rw[this];unfold jb;rw[AC,AC];rfl
def Ub(I:km)(p1:km)(p2:km)(p3:km):ai:=(zv (jw (iI sS (qh 1)<|qp (ky tS (qh 3)<|tR 1) jc)<|qk 4)
 (zv (jw (ky m5 (ah 4 1)<|ky tS (ky IX (qh 3)<|ax 64)<|oN xJ<|eB<|ah 4 1)<|qk 5)
 (zv (jw (xa I<|eY (qh 0)<|qh 5)<|qk 6)
 (zv (jw (p_ (yC .KB)<|yC .KB)<|dC 2<|jt (qk 7)<|jt (qk 8) bT)
 (zv (kC (tG<|eB<|tR 1) (qk 9)<|kC (aK<|ky m5 (ky m5 (qh 1)<|qh 9)<|ax 1) (qk 10)<|bN (mJ (yB<|pW false<|qh 7)<|tf (xa I<|eY (qh 0)<|qh 10)<|xa p1<|eB<|qh 6) (jw (bC<|qp (ky m5 (qh 1)<|qh 9)<|eB<|qh 10)<|dC 2<|jt (qk 7)<|jt (qk 8) bT) aW)
 (zv (bN (mJ (yB<|pW false<|qh 7)<|yB<|ky Qz (xa p2<|eB<|qh 6)<|ax 5) (zv (wo<|iI x0 (qh 1)<|eB<|qh 4)
 ID) aW)
 (oF (bN (yB<|pW false<|qh 7) (zv (jw (xa p3<|eY (qh 0)<|qh 6)<|Jz 3<|jt (qk 11)<|jt (qk 8)<|jt (qk 12) bT)
 (jw (cV<|qp (qh 11)<|qp (cV<|eY (qh 8)<|qh 12) jc)<|qk 7))<|wo<|iI mX (qh 1)<|eB<|qh 7)
 (zv (jw (d_ 1 (aK<|ky gU (ah 4 1)<|ah 7 1) (qk 14) (yB<|ky (uj true) (qh 14)<|p_ (qh 5)<|qh 8)<|qh 14)<|qk 13)
 (bN (tf (ky tS (qh 2)<|ax 2)<|ax 0) (wo<|iI x0 (qh 1)<|qp (cV<|qp (bC<|qp (uC "cut")<|qp (qh 5)<|qp (qh 8)<|eY (ah 4 0)<|ah 7 0)<|eB<|qh 13) jc)<|wo<|iI x0 (qh 1)<|qp (cV<|qp (bC<|qp (uC "cut")<|qp (qh 8)<|qp (qh 5)<|eY (ah 7 0)<|ah 4 0)<|eB<|qh 13) jc)))))))))
theorem rj:∀a b:List Da,Da.eqs a b=true->a.length=b.length
 |[],[],_=>rfl
 |[],_::_,h=>by cases h
 |_::_,[],h=>by cases h
 |x::r,y::q,h=>by have h:(Da.eq x y&&Da.eqs r q)=true:=h;rw[A7] at h;rw[AD,AD,rj r q h.2]
def Uc(u:Wd):∀v:Wd,Da.eq (iG u) (iG v)=true->u=v:=by
 induction u with
 |leaf t n=>
  intro v h;cases v with
  |leaf o p=>
   rw[T5,A7] at h;rw[of_decide_eq_true h.1,of_decide_eq_true h.2]
  |node e l r=>exact absurd (rj _ _ h) (by intro z;cases z)
 |node e l r g j=>
  intro v h;cases v with
  |leaf t n=>exact absurd (rj _ _ h) (by intro z;cases z)
  |node I J U=>
   have h:(mI (.str<|kN e) (.str<|kN I)&&(Da.eq (iG l) (iG J)&&(Da.eq (iG r) (iG U)&&true)))=true:=h;rw[A7,A7,A7] at h;obtain⟨h1,h2,h3,_⟩:=h;have:e=I:=by cases e<;>cases I<;>first|rfl|(exfalso;revert h1;decide +kernel)
   rw[this,g J h2,j U h3]
def aV:Ru->Nat
 |.link _ _=>1
 |.ei _ A=>aV A+1
 |.bo _ A B=>max (aV A) (aV B)+1
 |.cu _ _ A B=>max (aV A) (aV B)+1
theorem a7:∀R:Ru,aV R+1<=(zq R).length
 |.link _ _=>An _
 |.ei _ A=>by have:=a7 A;simp[aV,zq];lia
 |.bo _ A B=>by have:=a7 A;have:=a7 B;simp[aV,zq];lia
 |.cu _ _ A B=>by have:=a7 A;have:=a7 B;simp[aV,zq];lia
def eI:Ru->Da
 |.link p q=>.tup [.s<|.str "link",.s<|.int (p:Int),.s<|.int (q:Int)]
 |.ei r A=>.tup [.s<|.str "either",.s<|.int (r:Int),eI A]
 |.bo r A B=>.tup [.s<|.str "both",.s<|.int (r:Int),eI A,eI B]
 |.cu p q A B=>.tup [.s<|.str "cut",.s<|.int (p:Int),.s<|.int (q:Int),eI A,eI B]
theorem du{L:qj}:∀{R:Ru} {n:Nat},aV R<=n->jo L n (jp R) (eI R)
 |.link p q,n+1,_=>dS<|.cons (FC _)<|.cons (E4 _)<|.cons (E4 _) .nil
 |.ei r A,n+1,h=>dS (.cons (FC _) (.cons (E4 _) (.cons (du (by simp[aV] at h;lia)) .nil)))
 |.bo r A B,n+1,h=>dS (.cons (FC _) (.cons (E4 _) (.cons (du (by simp[aV] at h;lia)) (.cons (du (by simp[aV] at h;lia)) .nil))))
 |.cu p q A B,n+1,h=>dS (.cons (FC _) (.cons (E4 _) (.cons (E4 _) (.cons (du (by simp[aV] at h;lia)) (.cons (du (by simp[aV] at h;lia)) .nil)))))
 |.link _ _,0,h=>by simp[aV] at h
 |.ei _ _,0,h=>by simp[aV] at h
 |.bo _ _ _,0,h=>by simp[aV] at h
 |.cu _ _ _ _,0,h=>by simp[aV] at h
theorem bJ:∀R:Ru,Da.eq (eI R) (eI R)=true
 |.link p q=>by simp[eI,Da.eq,Da.eqs,mI]
 |.ei r A=>by simp[eI,Da.eq,Da.eqs,mI,bJ A]
 |.bo r A B=>by simp[eI,Da.eq,Da.eqs,mI,bJ A,bJ B]
 |.cu p q A B=>by simp[eI,Da.eq,Da.eqs,mI,bJ A,bJ B]
def eL(E:Wt):List Da:=E.map λn:Nat=>Da.s<|.int (n:Int)
theorem gF{L:qj}{n:Nat}:∀E:Wt,Paired (jo L n) (jh E)<|eL E
 |[]=>.nil
 |_::r=>.cons (E4 _)<|gF r
theorem ie:∀E I:Wt,Da.eqs (eL E) (eL I)=true↔E=I
 |[],[]=>by simp[eL,Da.eqs]
 |[],_::_=>by simp[eL,Da.eqs]
 |_::_,[]=>by simp[eL,Da.eqs]
 |x::r,y::J=>by
  have U:=ie r J;show(Da.eq (.s<|.int (x:Int)) (.s<|.int (y:Int))&&Da.eqs (eL r) (eL J))=true↔_;rw[A7,U];have:Da.eq (.s<|.int (x:Int)) (.s<|.int (y:Int))=true↔x=y:=by show decide ((x:Int)=(y:Int))=true↔_;rw[Cq];lia
  rw[this];constructor
  .rintro⟨rfl,rfl⟩;rfl
  .intro e;injection e with g j;exact{(g),j}
def gY(t:Tr):Da:=.lst [eI t.R,.lst<|eL t.E]
def rR{t:Tr}(I:L t.a=⇑[jp t.R,.ref t.b])(J:L t.b=⇑(jh t.E))(h:aV t.R<=n+1):jo L (n+2) (.ref t.a) (gY t):=
 bG I (.cons (du h)<|.cons (bG J<|gF _) .nil)
def Ud{t u:Tr}:Da.eq (gY t) (gY u)=true->t.E=u.E:=by intro h;have h:(Da.eq (eI t.R) (eI u.R)&&(Da.eqs (eL t.E) (eL u.E)&&true))=true:=h;rw[A7,A7] at h;exact(ie _ _).mp h.2.1
def Ue(t:Tr):Da.eq (gY t) (gY t)=true:=by show(Da.eq (eI t.R) (eI t.R)&&(Da.eqs (eL t.E) (eL t.E)&&true))=true;rw[bJ,(ie _ _).mpr rfl];rfl
def cA.rd(h:cA L0 L ka fa ks fo){t:Tr}(I:t∈fo):aV t.R<=ks.length:=by
 have h1:=a7 t.R;have nd:(zq t.R).Nodup:=by obtain⟨a,b,rfl⟩:=DY I;have:=h.nd;rw[AO,Be,AL,AL] at this;exact this.2.1.1
 have:=cJ _ _ nd λx J=>(h.sr t I).lt x J;exact Io
def cA.one(h:cA L0 L ka fa ks fo){t u:Tr}(hi:fo[i]?=some t)(I:fo[j]?=some u)(e:t.E=u.E):i=j:=by
 by_cases c:i=j
 .exact c
 .exfalso;have s:=h.sr t<|Au hi;have l:=s.ends h.ok;obtain⟨x,J⟩:∃x,x∈t.E:=by cases g:t.E with|nil=>rw[g] at l;simp at l|cons x r=>exact{x,As ..}
  have o:=h.sr u<|Au I;have p:=xr hi;have U:u∈fo.eraseIdx i:=by rw[List.mem_eraseIdx_iff_getElem?];exact{j,λz=>c z.symm,I}
  obtain⟨a,b,C⟩:=DY U;have nd:=(p.flatMap_right λt:Tr=>zq t.R).nodup_iff.mp h.nd;rw[Be,AL] at nd;exact nd.2.2 x (s.sub x J) x (Bx.mpr {u,U,o.sub x<|e▸J}) rfl
theorem nK:∀w:Wd,w.turn.turn=w
 |.leaf t n=>by simp[Wd.turn]
 |.node e l r=>by simp[Wd.turn,nK l,nK r]
theorem nX:∀w:Wd,w.turn.depth=w.depth
 |.leaf t n=>rfl
 |.node e l r=>by simp[Wd.turn,Wd.depth,nX l,nX r]
def Fd(ks:WN)(w:Wd)(rest:WP)(I J:Y):Prop:=(I=.KB/\J=.KB)\/∃(j:Nat) (u:Tr) (q:Nat),rest[j]?=some u/\q∈u.E/\fC ks q w.turn/\I=.ref u.a/\J=.int (q:Int)
def Uf{g j:qj}{t1 u:Tr}{x q:Nat}{w:Wd}(B:cA L0 g ka fa ks<|t1::u::rest){fs:LO}(hf:g fa=some fs)(hx:x∈t1.E)(hq:q∈u.E)(o:fC ks x w)(p:fC ks q w.turn){U:Addr}(s:qf g j)(a1:g U=none)
 (he:j U=⇑(jh<|wu t1.E u.E x q)) (I:j pa=none) (hR:R=.cu x q t1.R u.R\/R=.cu q x u.R t1.R):cA L0 (qd j pa<|.lst [jp R,.ref U]) ka fa ks (rest++[{pa,U,R,wu t1.E u.E x q}]):=by
 have t:=vh he I;have C:=B.sr t1 (by simp);have T:=B.sr u (by simp);have J:∀z,z∈t1.E->z∈u.E->False:=λz h1 h2=>B.two z (C.sub z h1)<|T.sub z h2;have bm:=zD (E1:=t1.E) (E2:=u.E) (λh=>J x hx h) λh=>J q h hq;have Yv:=zY (l:=x) (r:=q) C.Yv T.Yv J;have st:=cA.put (M:=g) (L':=qd j pa<|.lst [jp R,.ref U]) (old:=[t1,u]) (ms:=[]) (R:=R) (E:=wu t1.E u.E x q) (pa:=pa) (pb:=U) B (λ_ _ _ e=>e) (by rw[AB];exact B.hk) hf (s.none I) a1 (AE t) (s.trans<|By I) q9 (by rw[qb t];exact he) (by rw[AB];exact B.ok) ?_ ?_
 .rw[AB] at st;exact st
 .rw[AB];rcases hR with rfl|rfl
  .exact .cu C T hx hq o p bm Yv
  .exact .cu (w:=w.turn) T C hq hx p (by rw[nK];exact o) (λz=>by rw[bm];exact Or.comm) Yv
 .rcases hR with rfl|rfl
  .show(zq t1.R++zq u.R).Perm _;simp
  .show(zq u.R++zq t1.R).Perm _;simpa using Bq
def CJ(L0:qj)(ka fa:Addr)(ks:WN)(one two:Int)(t1:Tr)(x:Nat)(w:Wd)(n:Nat)(τ:jd)(L:qj):Prop:=∃ms u q rest g I J U,τ=[some<|.ref ka,some<|.ref fa,some<|.int one,some<|.int two,some<|.ref t1.a,some<|.int (x:Int),some<|dH w,some<|.ref u.a,some<|.int ((q:Nat):Int),g,I,J,U,none]/\
 cA L0 L ka fa (ks++ms) (t1::u::rest)/\L fa=⇑(jb rest)/\q∈u.E/\fC (ks++ms) q w.turn/\ms.length<=10/\rest.length<=n
inductive mS(ys:Z0)(L:qj)(Q:YK):Prop
 |mk:∀L0 ka fa ks fo,∀one two:Int,(ys=[.ref ka,.ref fa,.int one,.int two])->(tj L0 L ka fa ks fo)->(1<=fo.length)->(fo.length<=110)->(ks.length<=110)->(∀L' ks' fo',tj L0 L' ka fa ks' fo'->ks'.length<=ks.length+10->1<=fo'.length->fo'.length<=fo.length->Q .KB L')->mS ys L Q
theorem Ug{FS MS:km}(hF:∀ys L Q,aQ 120 ys L Q->FS ys L Q)(hM:∀ys L Q,aZ 5 ys L Q->MS ys L Q):ZY mS (Ub (aH 120) FS (bL 120) MS) 14:=by
 rintro ys L Q ⟨L0,ka,fa,ks,fo,one,two,rfl,F,h1,c4,bq,q⟩;have big:=a_;have C:∀fo:WP,(jb fo).length=fo.length:=λfo=>Ae ..;obtain⟨j1,U,be,a1,a2,a3,g⟩:=xK (k:=two) F.hf (by assumption);have l1:(fo.eraseIdx j1).length+1=fo.length:=by have:=(xr be).length_eq;rw[AD] at this;lia
 refine qc F.hf (qc F.hf {(by rw[C];lia),qm F.hf {a1,a2,ql a3 ?_}});have B:=(F.b.perm<|xr be).XC<|.lst<|(jb fo).eraseIdx (two % ((jb fo).length:Int)).toNat;generalize qd L fa _=L1 at g B ⊢;generalize fo.eraseIdx j1=rest at l1 g B;have m1:U∈U::rest:=by simp
 obtain⟨a4,ac⟩:=B.ht U m1;have al:=bX B m1;have s1:=B.sr U m1;obtain⟨x,hx,ex⟩:=sJ al.1<|two / 64;refine qc a4 {{by decide,by decide},qc a4 (qc ac {(by rw[Ae];omega),qc ac<|ql ex ?_})};obtain⟨w,hw,c6,bf⟩:=o5 B.ok (x+1) x (Bi _)<|s1.lt x<|s1.sub x hx;have c7:=s1.lt x<|s1.sub x hx;refine{ka,vz ks,x,w,rfl,B.hk,hw,by lia,?_};refine qc g {{by exact A1 _,by rw[C];omega},?_};refine r9 (λi τ L'=>∃v7 v8 c9 T,τ=[some<|.ref ka,some<|.ref fa,some<|.int one,some<|.int two,some<|.ref U.a,some<|.int (x:Int),some<|dH w,some v7,some v8,c9,T,none,none,none]/\L'=L1/\Fd ks w rest v7 v8) {_,_,_,_,rfl,rfl,.inl {(rfl),rfl}} ?_ ?_
 .rintro i τ L' hi ⟨v7,v8,c9,T,rfl,rfl,fd⟩;have hi:i<rest.length:=by have:=hi;rw[C] at this;assumption
  obtain⟨u,hu⟩:∃u,rest[i]?=some u:={_,Ai hi};have mu:u∈U::rest:=Al _<|Au hu;obtain⟨ua,ub⟩:=B.ht u mu;have ei:(jb rest)[i]?=some (.ref u.a):=by unfold jb;rw[Aq,hu];rfl
  have e0:(0:Int)+(i:Int)=((i:Nat):Int):=by simp +arith only
  rw[e0];have bg:=w5 ei;have le:=bX B mu;have su:=B.sr u mu;refine qc g<|ql bg<|qc ua ?_;refine QJ (ys:=jh u.E) (aY ub) (λk τ av=>∃v7 v8 T,τ=[some<|.ref ka,some<|.ref fa,some<|.int one,some<|.int two,some<|.ref U.a,some<|.int (x:Int),some<|dH w,some v7,some v8,some<|.int ((i:Nat):Int),T,none,none,none]/\av=L'/\Fd ks w rest v7 v8) {_,_,_,rfl,rfl,fd} ?_ ?_ ?_
  .rintro k τ _ ⟨_,_,_,_,rfl,_⟩;rfl
  .rintro k y τ av ey ⟨v7,v8,T,rfl,rfl,fd⟩;obtain⟨z,ez,rfl⟩:∃z:Nat,u.E[k]?=some z/\y=Y.int (z:Int):=by rw[Aq] at ey;obtain⟨z,e1,e2⟩:=AA.mp ey;exact{(z),e1,e2.symm}
   have hz:=Au ez;rcases fd with⟨rfl,rfl⟩|⟨j,t,q0,h1,h2,h3,rfl,rfl⟩
   .have c0:=su.lt z<|su.sub z hz;obtain⟨v,hv,c8,c5⟩:=o5 B.ok (z+1) z (Bi _) c0;refine{ka,vz ks,z,v,rfl,B.hk,hv,by lia,hF _ _ _ {w,rfl,by lia,?_}};refine SO (u:=v) (v:=w.turn) (by lia) ?_;refine PV (λc=>?_) λc=>?_
    .have hh:=Uc _ _ c;refine qc g<|ql bg ?_;refine{_,ES _,?_};exact{_,_,_,rfl,rfl,.inr {i,u,z,hu,hz,hh▸hv,rfl,rfl}}
    .refine{_,ES _,?_};exact{_,_,_,rfl,rfl,.inl {(rfl),rfl}}
   .refine{_,ES _,?_};exact{_,_,_,rfl,rfl,.inr {(j),t,q0,h1,h2,h3,rfl,rfl}}
  .rintro τ av ⟨v7,v8,T,rfl,rfl,fd⟩;refine{_,ES _,?_};exact{_,_,_,_,rfl,rfl,fd}
 .rintro τ L' ⟨v7,v8,c9,T,rfl,rfl,fd⟩;rcases fd with⟨rfl,rfl⟩|⟨j,u,q0,hj,aL,ba,rfl,rfl⟩
  case' inl=>
   refine{w,rfl,by lia,?_};refine zu (λc=>?_) λc=>?_
   case' refine_1=>
    refine qc g (qm g {big _ (by rw[C];lia),?_});rw[<-hG];exact k8 (q _ ks (rest++[U]) {(B.perm (Co _ _).symm).XC _,q9} (Bf _ _) (by simp) (by rw[Ab];simp;exact uY))
   case' refine_2=>
    refine{CJ L0 ka fa ks one two U x w rest.length,?_,?_}
    .refine hM _ _ _ {ka,ks,w,rfl,B.hk,(by have h1:=w.Xg;have h2:=w.size_eq;lia),(by decide),bf,B.ok,by lia,λms R tp sp p hp a5=>?_};refine qm q9 ?_;intro pb bb pa I;have bc:qd L' ka (.lst<|vz<|ks++ms) p=none:=by rw[qb<|AE<|vh B.hk hp];exact hp
     have bh:=vh q9 I;have nb:=(By bc).none bb;have na:=((By bc).trans<|By bb).none I;have bi:qd L' ka (.lst<|vz<|ks++ms) fa=⇑(jb rest):=by rw[qb<|AE B.Yb];exact g
     generalize hL:qd (qd (qd _ p _) pb _) pa _=LF;have sA:qf (qd L' ka<|.lst<|vz<|ks++ms) LF:=by rw[<-hL];exact((By bc).trans<|By bb).trans (By I)
     have ea:LF pa=⇑[jp R,.ref pb]:=by rw[<-hL];exact q9
     have eb:LF pb=⇑(jh [tp,sp]):=by rw[<-hL,qb bh];exact q9
     refine{ms,{pa,pb,R,[tp,sp]},tp,rest,_,_,_,_,rfl,?_,sA _ _ bi,As ..,a5.wt,by have:=a5.len;lia,An _};have st:=cA.put (old:=[]) B (λz o n e=>(qb n).trans e) q9 bi na nb (AE bh) sA ea eb a5.ok a5.sr (by rw[CK,AB];exact(Cr a5.nd Eg).mpr λz=>by rw[a5.tm,Dy]);exact st.perm<|(Co _ _).trans<|List.Perm.swap _ _ _
  case' inr=>
   refine{CJ L0 ka fa ks one two U x w rest.length,?_,?_}
   .refine qc g<|qm g {rest.map gY,gY u,120,120,j,by decide,?_,?_,?_,{gY u,?_,Ue u},λk d hk ek=>?_,?_}
    .have dd:∀l:WP,(∀t∈l,t∈U::rest)->Paired (jo L' 120) (jb l) (l.map gY):=λl=>by
      induction l with
      |nil=>intro _;exact .nil
      |cons t r ih=>
       intro h;have mt:=h t<|As ..;obtain⟨h1,h2⟩:=B.ht t mt;have:=B.rd mt;exact .cons (rR (n:=118) h1 h2 (by lia))<|ih λt ht=>h t<|Al _ ht
     exact dd rest λt ht=>Al _ ht
    .have mt:u∈U::rest:=Al _<|Au hj;obtain⟨h1,h2⟩:=B.ht u mt;have:=B.rd mt;exact rR (n:=118) h1 h2 (by omega)
    .rw[Ae];exact(AM.mp hj).1
    .rw[Aq,hj];rfl
    .rw[Aq] at ek;obtain⟨v,ev,rfl⟩:=AA.mp ek;cases c:Da.eq (gY v) (gY u) with
     |false=>rfl
     |true=>
      have:=B.one (i:=k+1) (j:=j+1) (by simpa using ev) (by simpa using hj)<|Ud c;lia
    .rw[o4];have B2:=(B.perm<|(xr hj).cons _).XC<|.lst<|jb<|rest.eraseIdx j;exact{[],u,q0,rest.eraseIdx j,_,_,_,_,rfl,(AB ks).symm▸B2,q9,aL,(AB ks).symm▸ba,A5 _,Do ..}
  all_goals
   rintro ca L' ⟨ms,u,q0,J,c9,T,cb,cc,rfl,B',hf,aL,ba,ck,cm⟩;have m1:U∈U::u::J:=by simp
   have m2:u∈U::u::J:=by simp
   obtain⟨a4,ac⟩:=B'.ht U m1;obtain⟨bd,c1⟩:=B'.ht u m2;have al:=bX B' m1;have c2:=bX B' m2;rw[Ab] at al c2;refine qc a4 (qc bd {_,_,ac,c1,gD (by rw[Ae,Ae];omega),λpp bj=>?_});rw[<-kB];refine JZ (E:=U.E++u.E) (l:=x) (r:=q0) (k:=14) q9 (by rw[Ab];omega) (λy' Q' h=>h) (λ_=>rfl) λpe bn=>?_;have bp:=(By bj).none bn;generalize hL:qd (qd L' pp _) pe _=L4;have s4:qf L' L4:=by rw[<-hL];exact(By bj).trans (By bn)
   have c3:L4 pe=⇑(jh<|wu U.E u.E x q0):=by rw[<-hL];exact q9
   have done:∀(R:Ru) pa,L4 pa=none->(R=.cu x q0 U.R u.R\/R=.cu q0 x u.R U.R)->Q .KB (qd (qd L4 pa<|.lst [jp R,.ref pe]) fa<|.lst<|jb J++[.ref pa]):=λR pa I hR=>by rw[<-hG J ⟨pa,pe,R,wu U.E u.E x q0⟩];exact q _ (ks++ms) (J++[{pa,pe,R,wu U.E u.E x q0}]) {(Uf B' hf hx aL (hw.more ms) ba s4 bp c3 I hR).XC _,q9} (by rw[Ab];omega) (by simp) (by rw[Ab];simp;omega)
   refine{(by show(0:Int)<2;decide),?_};refine zu (λc=>?_) λc=>?_
   .refine qc (s4 _ _ hf)<|qc (s4 _ _ a4)<|qc (s4 _ _ bd) λpa I=>?_;refine qm (By I _ _<|s4 _ _ hf) {big _ (by rw[C];omega),?_};exact k8<|done _ pa I<|.inl rfl
   .refine qc (s4 _ _ hf)<|qc (s4 _ _ bd)<|qc (s4 _ _ a4) λpa I=>?_;refine qm (By I _ _<|s4 _ _ hf) {big _ (by rw[C];omega),?_};exact k8<|done _ pa I<|.inr rfl
def J0(g:km)(I:km)(J:km)(U:km)(l:km):RD "_law_tree" lm 128 ["_law_cells","_law_seed","_law_room","_law_knots","_law_forest","_law_k","_law_cell","_law_one","_law_two","_law_deed","_law_at"] (λV=>Gm V g/\Jm V I/\Jp V J/\Jo V U/\Jq V l):={_,λV B c _ _ _ _ _ _ _ o hN p=>(qa (S_ 3 hN<|zh xd)<|qa (S_ 4 hN<|zh xd)<|qa (vf wh rfl (cN rfl B.bf<|qv 0) (kn (n:=2) rfl<|z0 (G_ 5 hN)<|z0 (G_ 6 hN) xb)<|qa (IU (i:=7) (j:=8) rfl hN rfl rfl (by decide) rfl rfl (ve (C_ c.1 o<|cG (qv 6) (qv 5) qg)<|C_ c.1 o<|cG (qv 6) (qv 5) qg) rfl)<|qa (zy (js Gb (qr jm (qr jm (L_ B.ba<|qv 3)<|L_ B.ba<|qv 4) qg) (qv 2)<|xc _) (qe wD) zb)<|qa (S_ 9 hN<|qr x9 (qv 7) qg)<|qa (S_ 7 hN<|qr wx (qv 7) qg)<|qe<|zy (kj<|fg (js sN (qv 9) qg<|xc _)<|dk<|E_ p (qv 4)<|zh xd) (qa (z9<|qz (qv 3)<|x6<|zg<|ve j6<|C_ c.2.1 o<|ve (qv 1)<|qr x9 (qv 8) qg)<|qa (z9<|qz (qv 3)<|x6<|zg<|ve j6<|C_ c.2.1 o<|ve (qv 1)<|qr x9 (qv 8) qg)<|vi (zy (E_ p (qr x9 (qv 7) qg) qg) (qe<|z9<|qz (qv 3)<|x6<|dR (qv 3)<|x6<|qr bz (L_ B.ba<|qv 3) qg) zb)<|qa (S_ 10 hN<|qr bz (L_ B.ba<|qv 3) qg)<|qe<|z9<|qz (qv 4)<|x6<|zh<|ve (zg<|cG j6 (qv 10)<|qr jm (qv 10) qg)<|zh<|ve (qv 10)<|qr jm (qv 10) qg)<|qe<|zy (js sN (qv 9) qg<|xc _) (qe<|z9<|C_ c.2.2.1 o<|xx (qv 3)<|cG (I_ (qv 4)<|qr x9 (qv 8)<|L_ B.ba<|qv 4) (qv 7)<|qr wx (qv 8) qg)<|qe<|zy (kj<|w9 (js sN (qv 9) qg<|xc _)<|vq<|js Gb (L_ B.ba<|qv 4) qg<|xc _) (qe<|z9<|C_ c.2.2.2.1 o<|xx (qv 3)<|cG (qv 4) (qv 7)<|qv 8)<|qe<|z9<|C_ c.2.2.2.2 o<|xx (qv 3)<|cG (qv 4) (qv 7)<|qv 8)<|vi (zy (E_ p (qv 4)<|zh xd) (qa (z9<|qz (qv 3)<|x6<|zg<|ve j6<|C_ c.2.1 o<|ve (qv 1) qg)<|qa (z9<|qz (qv 3)<|x6<|zg<|ve j6<|C_ c.2.1 o<|ve (qv 1) qg)<|qe<|z9<|qz (qv 4)<|x6<|zh<|ve (zg<|cG j6 qg qg)<|zh<|ve qg qg) zb)<|qa (cx wh (js Gb (L_ B.ba<|qv 4) qg<|xc _)<|qe<|z9<|C_ c.2.2.2.1 o<|xx (qv 3)<|cG (qv 4) (qr jm (qr wx (qv 1) qg)<|L_ B.ba<|qv 4)<|qr wx (qv 1) qg)<|qe<|za<|zg<|ve (qv 3)<|I_ (J_ 4) qg)}
theorem tj.mono(h:tj L0 L ka fa ks fo)(s:qf L L'):tj L0 L' ka fa ks fo:={h.b.mono s,s _ _ h.hf}
def cA.plus{I:qj}{t':Tr}{fs:LO}(B:cA L0 L ka fa ks rest)(j:L fa=some fs)(sA:qf (qd L ka<|.lst<|vz<|ks++ms) I)(ea:I t'.a=⇑[jp t'.R,.ref t'.b])(eb:I t'.b=⇑(jh t'.E))
 (J:qd L ka (.lst<|vz<|ks++ms) t'.a=none) (U:qd L ka (.lst<|vz<|ks++ms) t'.b=none) (g:t'.a≠t'.b) (ok:bA<|ks++ms) (l:SR (ks++ms) t'.R t'.E) (p:∀x,x∈zq t'.R↔ks.length<=x/\x<ks.length+ms.length) (nd:(zq t'.R).Nodup):
 cA L0 I ka fa (ks++ms) (rest++[t']):=by
 exact cA.put (old:=[]) B (λz o n e=>(qb n).trans e) q9 (by rw[qb<|AE B.Yb];exact j) J U g sA ea eb ok l (by rw[CK,AB];exact(Cr nd Eg).mpr λz=>by rw[p,Dy])
theorem tj.link(F:tj L0 L ka fa ks fo){nm:Str}(j:fG nm)(b:Bool)(J:qd L ka (.lst<|vz<|ks++[.lf b nm,.lf (!b) nm]) pb=none)
 (U:qd (qd L ka<|.lst<|vz<|ks++[.lf b nm,.lf (!b) nm]) pb (.lst<|jh [ks.length,ks.length+1]) pa=none) {fs:Z0} (g:fs=jb fo++[.ref pa]):
 tj L0 (qd (qd (qd (qd L ka<|.lst<|vz<|ks++[.lf b nm,.lf (!b) nm]) pb<|.lst<|jh [ks.length,ks.length+1]) pa<|.lst [jp<|.link ks.length<|ks.length+1,.ref pb]) fa<|.lst fs) ka fa (ks++[.lf b nm,.lf (!b) nm]) (fo++[{pa,pb,.link ks.length<|ks.length+1,[ks.length,ks.length+1]}]):=by
 have I:=vh q9 U;have M:=ug F.b.ok (t:=!b) j;rw[Bool.not_not] at M;refine{(cA.plus F.b F.hf ((By J).trans<|By U) q9 (by rw[qb I];exact q9) ((By J).none U) J (AE I) M.ok M.sr M.tm M.nd).XC _,?_};rw[q9,g];unfold jb;rw[AC];rfl
def cA.Zm(h:cA L0 L ka fa ks fo)(g:ks.length<=120):Paired (jo L 124) (jb fo) (fo.map gY):=by
 have J:∀l:WP,(∀t∈l,t∈fo)->Paired (jo L 124) (jb l) (l.map gY):=λl=>by
  induction l with
  |nil=>intro _;exact .nil
  |cons t r U=>
   intro k;have mt:=k t<|As ..;obtain⟨h1,h2⟩:=h.ht t mt;have:=h.rd mt;exact .cons (rR (n:=122) h1 h2 (by lia))<|U λt I=>k t<|Al _ I
 exact J fo λt I=>I
def zI(fo:WP):Da.eqs (fo.map gY) []=decide (fo=[]):=by cases fo<;>rfl
inductive jE(ys:Z0)(L:qj)(Q:YK):Prop
 |mk:∀cy,∀ns:Wx,∀s:Int,∀room:Nat,(ys=[cy,.int s,.int (room:Int)])->(cy=.sq (ns.map Y.int))->(ns.length<=1000)->(room<=120)->(∀ka ks R E,L ka=none->bA ks->SR ks R E->(zq R).Perm (List.range ks.length)->ks.length<=max room 2->Q (.tup [.ref ka,jp R]) (qd L ka<|.lst<|vz ks))->jE ys L Q
inductive TW(L0:qj)(ka fa:Addr)(s:Int)(room b:Nat)(k:Nat->Prop)(τ:jd)(L:qj):Prop
 |mk (c0 c5 c6 c7 c8 c9 c10:WM) (ks:WN) (fo:WP):τ=[c0,some<|.int s,some<|.int (room:Int),some<|.ref ka,some<|.ref fa,c5,c6,c7,c8,c9,c10]->tj L0 L ka fa ks fo->k fo.length->ks.length+fo.length<=b->TW L0 ka fa s room b k τ L
def TW.of{s:Int}{room:Nat}{J U g j l o I:WM}(F:tj L0 L ka fa ks fo)(h:ks.length+fo.length<=room):TW L0 ka fa s room room (λ_=>True) [J,some<|.int s,some<|.int (room:Int),some<|.ref ka,some<|.ref fa,U,g,j,l,o,I] L:={_,_,_,_,_,_,_,_,_,rfl,F,trivial,h}
def Uh:ZY jE (J0 cY iY im m9 mS).1 11:=by
 rintro ys L Q ⟨cy,ns,s,room,rfl,bc,bf,bd,q⟩;have big:=a_;have J:∀fo:WP,(jb fo).length=fo.length:=λfo=>Ae ..;have l:∀I:WN,(vz I).length=I.length:=λI=>Ae ..;intro U ac g av;have Yb:U≠g:=vh q9 av;have ba:L g=none:=(By ac).none av;have F0:tj L (qd (qd L U<|.lst []) g<|.lst []) U g [] []:=by
  refine{{by rw[qb Yb];exact q9,λt ht=>by simp at ht,λt ht=>by simp at ht,by simp,by simp,by simp[Yb],λp k e=>by simp at e,(By ac).trans<|By av,λx hx=>?_},q9};rcases Aw.mp hx with rfl|hx
  .exact ac
  .rw[Ad.mp hx];exact ba
 generalize qd (qd L U<|.lst []) g (.lst [])=L1 at F0;subst bc
 all_goals
  refine xm {λ_ τ L'=>TW L U g s room room (λ_=>True) τ L',?_,?_,?_,?_}
  .exact TW.of F0<|A5 _
  .rintro i τ L' ⟨c0,c5,c6,c7,c8,c9,al,I,fo,rfl,F,_,hb⟩;exact True.intro
  .rintro i y τ L' ey ⟨c0,c5,c6,c7,c8,c9,al,I,fo,rfl,F,_,hb⟩;obtain⟨z,ez,rfl⟩:=bY ey;obtain⟨cell,ec,rfl⟩:∃cell:Int,ns[i]?=some cell/\z=Y.int cell:=by rw[Aq] at ez;obtain⟨z,e1,e2⟩:=AA.mp ez;exact{(z),e1,e2.symm}
   have hi:=(AM.mp ec).1;refine{cell,((i:Nat):Int),48271,rfl,by exact A1 _,by omega,by decide,by decide,λone h1 bg=>{cell,((i:Nat):Int),69621,rfl,by exact A1 _,by omega,by decide,by decide,λtwo h2 bh=>?_}};refine qc F.b.hk<|qc F.hf ?_;refine zu (λc=>?_) λc=>?_
   .exact{_,ES _,TW.of F hb}
   have c:¬((((vz I).length:Nat):Int)+(((jb fo).length:Nat):Int)+12 > (room:Int)):=c;rw[l,J] at c;refine{(by decide:(0:Int)<9),{by decide,by decide},?_};refine zu (λc3=>?_) λc3=>?_
   case' refine_1=>
    obtain⟨L2,bb⟩:∃L2,L2=L':={_,rfl};rw[<-bb];have C:tj L L2 U g I fo:=by rw[bb];exact F
   case' refine_2=>
    intro p hp;refine wq (by decide) (By hp _ _ F.hf) q9 ((F.b.mono<|By hp).Zm (by lia)) (.nil:Paired (jo _ 0) _ []) ?_;show ao (Da.eqs (fo.map gY) []) _ _;rw[zI];have C:tj L (qd L' p<|.lst []) U g I fo:=F.mono<|By hp;generalize qd L' p (.lst [])=L2 at C;refine zu (λc0=>?_) λc0=>?_
   case' refine_2.refine_2=>
    have be:0<fo.length:=by cases fo with|nil=>exact absurd rfl c0|cons _ _=>simp
    have F:=C;refine zu (λc6=>?_) λc6=>?_
    .obtain⟨j,t,ej,lj,et⟩:=kG be two;refine qc F.hf {(by show(0:Int)<((jb fo).length:Int);rw[J];lia),qc F.hf (ql (v:=.ref t.a) (by show iV (jb fo) (two % ((jb fo).length:Int))=_;rw[J,ej];exact w5 (by unfold jb;rw[Aq,et];rfl)) ?_)};obtain⟨pre,post,ep⟩:=DY<|Au et;rw[ep] at F hb;refine{{by decide,by decide},L,U,g,I,pre,post,t,one / 9,two / 64,rfl,F,by lia,λL3 a1 T F3 h1 h2 _=>?_};refine{_,ES _,?_};exact TW.of F3 (by rw[ep] at c;lia)
    refine zu (λc8=>?_) λc8=>?_
    .refine qc F.hf ?_;refine zu (λc1=>?_) λc1=>?_
     .have c1:(((jb fo).length:Nat):Int) > 1:=c1;rw[J] at c1;refine{L,U,g,I,fo,one / 9,two,rfl,F,by lia,by lia,by lia,λL3 a1 T F3 h1 h2 _=>?_};refine{_,ES _,?_};exact TW.of F3 (by lia)
     .refine{L,U,g,I,fo,one / 9,two,rfl,F,by assumption,by lia,by lia,λL3 a1 T F3 h1 h2 h3=>?_};refine{_,ES _,?_};exact TW.of F3 (by lia)
    .refine{L,U,g,I,fo,one / 9,two,rfl,F,by lia,by lia,by lia,λL3 a1 T F3 h1 h2 h3=>?_};refine{_,ES _,?_};exact TW.of F3 (by lia)
   all_goals
    obtain⟨nm,a2⟩:∃nm,nm=m_ (aj s<|two % 3):={_,rfl};have aL:fG nm:=by rw[a2];exact uB _ _
    refine qc C.b.hk {(by decide:(0:Int)<3),s,two % 3,rfl,qm C.b.hk {big _ (by rw[l];omega),?_}};refine qc q9 {(by decide:(0:Int)<3),s,two % 3,rfl,qm q9 {big _ (by rw[Ab,l];simp;omega),?_}};rw[<-a2,jz];have e1:(vz I++[.tup [.str "plain",.str nm]])++[.tup [.str "turned",.str nm]]=vz (I++[.lf false nm,.lf true nm]):=by unfold vz;rw[AC,Ay];rfl
    rw[e1];refine{λτ L3=>∃(b:Bool) (d0 Zf:WM),τ=[d0,some<|.int s,some<|.int (room:Int),some<|.ref U,some<|.ref g,some<|.int ((i:Nat):Int),some<|.int cell,some<|.int<|one / 9,some<|.int two,some<|.int<|one % 9,Zf]/\L3=qd L2 U (.lst<|vz<|I++[.lf b nm,.lf (!b) nm]),?_,?_}
    .refine{(by decide:(0:Int)<2),?_};show ao (decide<|one / 9 % 2=1) _ _;refine zu (λc2=>?_) λc2=>?_
     .have l2:(vz<|I++[Kn.lf false nm,.lf true nm]).length=I.length+2:=by rw[l,Ab];rfl
      have t2:((((vz<|I++[Kn.lf false nm,.lf true nm]).length:Nat):Int)-2).toNat=I.length:=by rw[l2];omega
      refine qc q9<|qc q9<|qc q9<|qm q9 {?_,?_,ql (v:=uR<|.lf false nm) ?_ ?_}
      .show(0:Int)<=(((vz<|I++[Kn.lf false nm,.lf true nm]).length:Nat):Int)-2;rw[l2];omega
      .show(((vz<|I++[Kn.lf false nm,.lf true nm]).length:Nat):Int)-2<_;omega
      .show(vz<|I++[Kn.lf false nm,.lf true nm])[((((vz<|I++[Kn.lf false nm,.lf true nm]).length:Nat):Int)-2).toNat]?=_;rw[t2];unfold vz;rw[Aq,eF];rfl
      .rw[jz];refine qm q9 {big _ ?_,?_}
       .refine AK (Do ..) ?_;show(vz<|I++[Kn.lf false nm,.lf true nm]).length<=20000;rw[l2];omega
       .refine{true,_,_,rfl,?_};rw[jz];have e3:(vz<|I++[Kn.lf false nm,.lf true nm]).eraseIdx ((((vz<|I++[Kn.lf false nm,.lf true nm]).length:Nat):Int)-2).toNat++[uR<|.lf false nm]=vz (I++[.lf true nm,.lf false nm]):=by rw[t2];unfold vz;rw[AC,List.eraseIdx_append_of_length_le (by simp),Ae,Ci,AC,Ay];rfl
        rw[e3];rfl
     .exact{false,_,_,rfl,rfl}
    .rintro bi L3 ⟨b,d0,Zf,rfl,rfl⟩;have l2:(vz<|I++[Kn.lf b nm,.lf (!b) nm]).length=I.length+2:=by rw[l,Ab];rfl
     have nn:(((vz<|I++[Kn.lf b nm,.lf (!b) nm]).length:Nat):Int)-2=((I.length:Nat):Int):=by rw[l2];omega
     have a3:qd L2 U (.lst<|vz<|I++[.lf b nm,.lf (!b) nm]) g=⇑(jb fo):=by rw[qb<|AE Yb];exact C.hf
     have en:∀z:Int,z=((I.length:Nat):Int)->jh [I.length,I.length+1]=[.int z,.int<|z+1]:=λz e=>by rw[e];rfl
     have er:∀z:Int,z=((I.length:Nat):Int)->jp (.link I.length<|I.length+1)=.tup [.str "link",.int z,.int<|z+1]:=λz e=>by rw[e];rfl
     have en:=en _ nn;have er:=er _ nn;refine qc q9<|qc a3 λpb a4 pa a5=>?_;have H:=C.link aL b (pb:=pb) (pa:=pa) a4 (by rw[en];exact a5) rfl;refine qm (((By a4).trans<|By a5) _ _ a3) {big _ (by rw[J];omega),?_};rw[en,er] at H;refine{_,ES _,?_};exact TW.of H (by rw[Ab,Ab];simp;omega)
  .rintro τ L' ⟨c0,c5,c6,c7,c8,c9,al,I,fo,rfl,F,_,hb⟩;refine{TW L U g s room (max room 3) (1<=·),?_,?_}
   .intro p hp;refine wq (by decide) (By hp _ _ F.hf) q9 ((F.b.mono<|By hp).Zm (by lia)) (.nil:Paired (jo _ 0) _ []) ?_;show ao (Da.eqs (fo.map gY) []) _ _;rw[zI];have C:tj L (qd L' p<|.lst []) U g I fo:=F.mono<|By hp;generalize qd L' p (.lst [])=L2 at C;refine zu (λc0=>?_) λc0=>?_
    .subst c0;have k0:I=[]:=by cases I with|nil=>rfl|cons k r=>exact absurd ((F.b.tm 0).mpr (by simp)) (by simp)
     subst k0;obtain⟨nm,a2⟩:∃nm,nm=m_ (aj s 0):={_,rfl};have aL:fG nm:=by rw[a2];exact uB _ _
     refine qc C.b.hk {s,0,rfl,qm C.b.hk {big _ (by decide),?_}};refine qc q9 {s,0,rfl,qm q9 {big _ (by show 1<=20000;decide),?_}};rw[<-a2,jz];have a3:∀o,qd L2 U o g=⇑(jb []):=λo=>by rw[qb<|AE Yb];exact C.hf
     refine qc (a3 _) λpb a4 pa a5=>?_;have H:=C.link aL true (pb:=pb) (pa:=pa) a4 a5 rfl;refine qm (((By a4).trans<|By a5) _ _<|a3 _) {big _ (by show 0<=20000;decide),?_};exact{_,_,_,_,_,_,_,_,_,rfl,H,by simp,by simp;lia}
    .exact{_,_,_,_,_,_,_,I,fo,rfl,C,(by cases fo with|nil=>exact absurd rfl c0|cons _ _=>simp),by lia}
   .rintro τ L' ⟨c0,c5,c6,c7,c8,c9,al,I,fo,rfl,F,h1,hb⟩;refine{λm=>TW L U g s room (max room 3) λj=>1<=j/\j=m,{_,_,_,_,_,_,_,_,_,_,rfl,F,{(h1),rfl},hb},?_};rintro m τ L' ⟨c0,c5,c6,c7,c8,c9,al,I,fo,rfl,F,⟨h1,hm⟩,hb⟩;refine qc F.hf ?_;refine zu (λc1=>?_) λc1=>?_
    .have c1:(((jb fo).length:Nat):Int) > 1:=c1;rw[J] at c1;refine{λτ L3=>∃m',m'<m/\TW L U g s room (max room 3) (λj=>1<=j/\j=m') τ L3,λτ L3 h=>h,?_};refine{{by decide,by decide},qc F.hf {{by decide,by decide},L,U,g,I,fo,_,_,rfl,F,by lia,by lia,by lia,λL3 a1 T F3 g1 g2 _=>?_}};exact{_,ES _,T.length,by lia,_,_,_,_,_,_,_,a1,T,rfl,F3,{by lia,rfl},by lia}
    .have c1:¬((((jb fo).length:Nat):Int) > 1):=c1;rw[J] at c1;obtain⟨t,rfl⟩:∃t,fo=[t]:=by
      match fo,h1,c1 with
      |[t],_,_=>exact{(t),rfl}
      |t::u::r,_,c=>exact absurd (show(((t::u::r).length:Nat):Int) > 1 by simp;lia) c
     have ta:=(F.b.ht t<|As ..).1;refine qc F.hf<|qc ta ?_;refine jI (qf.put F.b.sub F.b.hk)<|q U I t.R t.E ac F.b.ok (F.b.sr t<|As ..) ?_ ?_
     .have nd:=F.b.nd;have tm:=F.b.tm;simp at nd tm;exact(Cr nd CI).mpr λx=>by rw[tm,A9]
     .simp at hb;lia
def oo(p q:WB):Prop:=p.1<q.1\/(p.1=q.1/\p.2<=q.2)
def uW(p:WB):Int×Int:=((p.1:Int),(p.2:Int))
def Ui{p q:WB}(h:uW p=uW q):p=q:=by obtain⟨a,b⟩:=p;obtain⟨c,d⟩:=q;have h1:(a:Int)=c:=Bt Prod.fst h;have h2:(b:Int)=d:=Bt Prod.snd h;rw[BB.mp h1,BB.mp h2]
def vW(ps:Wp):qt ps=(ps.map uW).map FW:=by rw[BW];rfl
def uT{a:Addr}{ps:Wp}{Q:YK}(U:L a=⇑(qt ps))(g:∀p∈ps,p.2<1000000)(nd:ps.Nodup)(j:ps.length<=127)
 (q:∀D qs,L D=none->qs.Perm ps->qs.Pairwise oo->Q (.ref D) (qd L D<|.lst<|qt qs)):hZ [.ref a] L Q:=by
 refine qm U {ps.map uW,vW ps,λp l=>?_,?_,by rw[Ae];exact j,λD qs o pm t=>?_}
 .obtain⟨r,C,rfl⟩:=Ba.mp l;have:=g r C;exact{A1 _,by show((r.2:Nat):Int)<1000000;omega}
 .exact fJ (λx _ y _ e=>Ui e) nd
 .obtain⟨T,pT,rfl⟩:=gQ uW pm rfl;rw[<-vW];refine q D T o pT<|(BR.mp t).imp λ{x y} z=>?_;rcases z with z|⟨I,J⟩
  .left;have z:((x.1:Nat):Int)<y.1:=z;lia
  .right;have I:((x.1:Nat):Int)=y.1:=I;have J:((x.2:Nat):Int)<=y.2:=J;exact{by lia,by lia}
def vF{m:WB->WB}{keep:qj->Prop}{Q:YK}(hz:lk.length<=127)(l:keep L)
 (turn:∀(i:Nat) (I:WB) (R:Z0->qj->Prop) zs,lk[i]?=some I->R (zs++[jM<|m I]) L->g (jM I) (τ++List.replicate 2 none) L λJ L2=>tc J L2 λb L3=>ao b (te J L3 λz o=>R (zs++[z]) o)<|R zs L3)
 (r:∀p,L p=none->Q (.ref p) (qd L p<|.lst<|qt<|lk.map m)):y8 (qt lk) keep 2 g tc te τ L Q:=by
 refine bQ (λi zs=>zs=qt ((lk.take i).map m)) (by rw[Ae];exact Bj hz (by decide)) l rfl ?_ ?_
 .rintro i y zs U rfl;rw[Aq] at U;obtain⟨I,j,rfl⟩:=AA.mp U;refine turn i I _ _ j {L,ES _,rfl,?_};rw[A4,j,AC];show _=(_++_:Wp).map jM;rw[AC];rfl
 .rintro zs rfl p t;rw[Ae,AY];exact r p t
structure xX(L0:qj)(ks:List<|WO)(qs:Wt)(d w D:Addr)(i ex:Nat)(f:WA)(wd:List<|WO)(kvs:List<|j8×Y)(L:qj):Prop where
 sub:qf L0 L
 hd:L d=some (.KF kvs)
 hw:L w=⇑(dY wd)
 hD:L D=⇑(nY qs)
 len:kvs.length<=i
 val:∀p:Nat,xj kvs (.inl (p:Int))=if p∈qs.take i then some (.int (f p:Int)) else none
 gap:t9 ks (qs.take i) f wd
 Yw:wd.length<=2*i+ex
def YS(f:WA)(p:WB):WB:=(min (f p.1)<|f p.2,max (f p.1)<|f p.2)
def Za(f:WA)(p:WB):WB:=(f p.1,f p.2)
structure Zg(f:WA)(ks wd:List<|WO):Prop where
 gap:t9 ks (List.range ks.length) f wd
 len:wd.length<=2*ks.length+1
inductive dW(Pt:Addr)(ys:Z0)(L:qj)(Q:YK):Prop
 |mk:∀a l c,∀ks:List (WO),∀lk ct:Wq,∀s:Int,∀b:Bool,(ys=[.ref a,.ref l,.ref c,.int s,.bl b])->(L a=⇑(dY ks))->(L l=⇑(qt lk))->(L c=⇑(qt ct))->(X6 ks)->(ks.length<=127)->(L Pt=some (.tb Xh))->(lk.Nodup)->((∀p∈lk,p.1<p.2/\p.2<ks.length))->(lk.length<=127)->(ct.Nodup)->((∀p∈ct,p.1<ks.length/\p.2<ks.length))->(ct.length<=127)->(∀f wd lk' ct' wa la ca L',Zg f ks wd->lk'.Perm (lk.map<|YS f)->lk'.Pairwise oo->ct'.Perm (ct.map<|Za f)->ct'.Pairwise oo->qf L L'->L wa=none->L la=none->L ca=none->wa≠la->wa≠ca->la≠ca->L' wa=⇑(dY wd)->L' la=⇑(qt lk')->L' ca=⇑(qt ct')->Q (e9 wa la ca) L')->dW Pt ys L Q
def iw(wd:List<|WO)(k:WO):dY wd++[fj k]=dY (wd++[k]):=by unfold dY;rw[AC];rfl
def aN(wd:List<|WO):(dY wd).length=wd.length:=Ae ..
def xX.wide{ks:List<|WO}{d w D:Addr}{ex ex':Nat}{f:WA}{wd':List<|WO}(G:xX L0 ks qs d w D i ex f wd kvs L)(h0:L0 w=none)(I:d≠w)(J:w≠D)(g:t9 ks (qs.take i) f wd')(h:wd'.length<=2*i+ex'):
 xX L0 ks qs d w D i ex' f wd' kvs (qd L w<|.lst<|dY wd'):=
 ⟨G.sub.upd h0,(qb I).trans G.hd,q9,(qb<|AE J).trans G.hD,G.len,G.val,g,h⟩
theorem t9.Zn{ks:List<|WO}{ps:Wt}{f:WA}(h:t9 ks ps f wd):∀n,t9 ks ps f<|wd++List.replicate n none
 |0=>by rw[List.replicate_zero,AB];exact h
 |n+1=>by rw[List.replicate_succ',<-Ay];exact(h.Zn n).gap
def Uj{a b c:Nat}(h1:min a b=min c d)(h2:max a b=max c d):(a=c/\b=d)\/(a=d/\b=c):=by lia
theorem Uk :ZY (dW Pt) (pL (iZ Pt) cY) 9:=by
 rintro ys L Q ⟨a,l,c,C,lk,ct,s,b,rfl,ha,hl,hc,ok,hz,hP,c6,a4,c9,ca,a5,cb,q⟩;have big:=a_;intro d hd w hw;have be:=ke hw;have a2:=vh q9 hw;have s0:qf L (qd (qd L d<|.KF []) w<|.lst []):=(By hd).trans<|By hw;refine{a,C,s,rfl,s0 _ _ ha,ok,fu,s0 _ _ hP,λD I hD pm pf=>?_};have ba:=vh q9 hD;have bf:=vh ((qb a2).trans q9) hD;have lq:I.length=C.length:=by rw[pm.length_eq,Bh]
 have cc:=pm.nodup_iff.mpr CI;have mq:∀p∈I,p<C.length:=λp j=>A9.mp<|pm.mem_iff.mp j;have G0:xX L C I d w D 0 0 (λ_=>0) [] [] (qd (qd (qd L d<|.KF []) w<|.lst []) D<|.lst<|nY I):=
  ⟨s0.trans<|By hD,(qb bf).trans<|(qb a2).trans q9,(qb ba).trans q9,q9,An _,λp=>rfl,t9.nil _ _,An _⟩
 refine j7 q9 λkeep kp=>xm {λi τ L'=>∃f T J c7 c8,τ=[some<|Y.ref a,some<|Y.ref l,some<|Y.ref c,some<|.int s,some<|.bl b,some<|Y.ref d,some<|Y.ref w,c7,c8]/\xX L C I d w D i 0 f T J L',{_,_,_,_,_,rfl,G0},?_,?_,?_}
 .rintro i τ L' ⟨f,T,J,c7,c8,rfl,G⟩;exact kp L' (by rw[G.hD,q9])
 .rintro i y τ L' hy ⟨f,T,J,c7,c8,rfl,G⟩;obtain⟨p,ep,rfl⟩:=cX hy;have hi:=zd ep;have j:=mq p<|Au ep;obtain⟨k,hk⟩:∃k,C[p]?=some k:={_,Ai j};have pn:p∉I.take i:=λhm=>by
   have e2:I=I.take i++p::I.drop (i+1):=by rw[Ai hi] at ep;rw[<-AJ ep,Dx,Bb]
   have nd:=cc;rw[e2] at nd;exact(AL.mp nd).2.2 p hm p (As ..) rfl
  have et:I.take (i+1)=I.take i++[p]:=by rw[A4,ep];rfl
  refine{λa3 L1=>∃wd',a3=[some<|Y.ref a,some<|Y.ref l,some<|Y.ref c,some<|.int s,some<|.bl b,some<|Y.ref d,some<|Y.ref w,some<|.int (p:Nat),c8]/\xX L C I d w D i 1 f wd' J L1,?_,?_}
  .have plain:xX L C I d w D i 1 f T J L':={G.sub,G.hd,G.hw,G.hD,G.len,G.val,G.gap,by have:=G.Yw;exact Ik};cases b with
   |false=>exact{(T),rfl,plain}
   |true=>
    refine{s,(p:Nat),40692,rfl,A1 _,by omega,by decide,by decide,λv h0 h1=>?_};refine{show(0:Int)<3 by decide,?_};refine zu (λg=>?_) λg=>{(T),rfl,plain};refine qc G.hw (qm G.hw {by rw[aN];have:=G.Yw;exact big _ (by lia),?_});refine{T++[none],rfl,?_};have:=G.wide (wd':=T++[none]) (ex':=1) be a2 ba G.gap.gap (by rw[Ab];have:=G.Yw;exact Fz);rw[<-iw] at this;exact this
  .rintro a3 L1 ⟨wd',rfl,G1⟩;have av:∀e i' j',k=some (.nd e i' j')->i'∈I.take i/\j'∈I.take i:=λe i' j' z=>ou ok pm pf ep (by rw[hk,z]);have bb:∀x∈I.take i,∀e i' j',C[x]?=some (some<|.nd e i' j')->i'∈I.take i/\j'∈I.take i:=λx hx e i' j' z=>by
    obtain⟨n,hn⟩:=BZ hx;have ck:=zd hn;rw[AR] at ck;rw[Ei (by lia)] at hn;obtain⟨h1,h2⟩:=ou ok pm pf hn z;have sb:∀y,y∈I.take n->y∈I.take i:=λy hy=>by
     have:I.take n=(I.take i).take n:=by rw[List.take_take,B6 (by lia)]
     rw[this] at hy;exact Bz hy
    exact{sb _ h1,sb _ h2}
   have vp:∀y:Nat,xj (wv J (.inl (p:Int))<|.int ((wd'.length:Nat):Int)) (.inl (y:Int))=if y∈I.take i++[p] then some (.int (((if y=p then wd'.length else f y):Nat):Int)) else none:=λy=>by
    rw[aw];by_cases e:y=p
    .subst e;rw[Ar rfl,Ar rfl,Ar<|Ah _<|Ad.mpr rfl]
    .rw[Ap λz=>e<|BB.mp<|Ev z,Ap e,G1.val];by_cases h:y∈I.take i
     .rw[Ar h,Ar<|Am _ h]
     .rw[Ap h,Ap λz=>(Aj.mp z).elim h λz=>e<|Ad.mp z]
   have wl:=G1.Yw;have kl:=G1.len;refine qc G1.hw ?_;rw[aN];refine zj G1.hd {big _ (by lia),?_};have cm:=vh ha hd;refine qc ((qb cm).trans<|G1.sub _ _ ha)<|ql (ww hk) ?_;refine{λa3 L2=>a3=[some<|Y.ref a,some<|Y.ref l,some<|Y.ref c,some<|.int s,some<|.bl b,some<|Y.ref d,some<|Y.ref w,some<|.int (p:Nat),some<|fj<|qA f k]/\L2=qd L1 d (.KF<|wv J (.inl (p:Int))<|.int ((wd'.length:Nat):Int)),?_,?_}
   .cases k with
    |none=>exact{(rfl),rfl}
    |some k=>
     cases k with
     |lf t n=>exact{(rfl),rfl}
     |nd e p1 p2=>
      obtain⟨m1,m2⟩:=av e p1 p2 rfl;have v1:=vp p1;have v2:=vp p2;rw[Ar<|Am _ m1,Ap λ(z:p1=p)=>pn<|z▸m1] at v1;rw[Ar<|Am _ m2,Ap λ(z:p2=p)=>pn<|z▸m2] at v2;refine zj q9<|ql v1 ?_;refine zj q9<|ql v2 ?_;exact{(rfl),rfl}
   .rintro a3 L2 ⟨rfl,rfl⟩;have bg:qd L1 d (.KF<|wv J (.inl (p:Int))<|.int ((wd'.length:Nat):Int)) w=⇑(dY wd'):=(qb<|AE a2).trans G1.hw;refine qc bg (qm bg {by rw[aN];exact big _ (by lia),?_});rw[iw];have hb:∀x∈I.take i,x<C.length:=λx hx=>mq x<|Bz hx;refine{_,ES _,λx=>if x=p then wd'.length else f x,wd'++[qA f k],_,_,_,rfl,(G1.sub.upd hd).upd be,(qb a2).trans q9,q9,(qb<|AE ba).trans<|(qb<|AE bf).trans G1.hD,?_,λy=>?_,?_,?_}
    .have:=dX J (.inl (p:Int))<|.int ((wd'.length:Nat):Int);lia
    .rw[et];exact vp y
    .rw[et];exact G1.gap.step hb pn hk bb av
    .rw[Ab];exact Fz
 .rintro τ L' ⟨f,T,J,c7,c8,rfl,G⟩;have eq:(nY I).length=I.length:=Ae ..;rw[eq] at G;have et:I.take I.length=I:=AY;have val:∀p,p<C.length->xj J (.inl (p:Int))=some (.int (f p:Int)):=λp j=>by rw[G.val,et,Ar<|pm.mem_iff.mpr<|A9.mpr j]
  have gap:t9 C (List.range C.length) f T:=by have g:=G.gap;rw[et] at g;exact{λp j=>g.at_ p<|pm.mem_iff.mpr j,λp j r hr=>g.inj p (pm.mem_iff.mpr j) r<|pm.mem_iff.mpr hr,λx k hx=>let ⟨r,hr,e⟩:=g.only x k hx;⟨r,pm.mem_iff.mp hr,e⟩,g.ok}
  have X8:∀p,p<C.length->f p<T.length:=λp j=>gap.lt (A9.mpr j) j;have inj:∀p r,p<C.length->r<C.length->f p=f r->p=r:=λp r j hr e=>gap.inj p (A9.mpr j) r (A9.mpr hr) e;have wl:T.length<=2*C.length:=by have:=G.Yw;rw[lq] at this;lia
  refine j7 (G.sub _ _ hl) λkeep kp=>vF (m:=YS f) c9 (kp _ rfl) (λi U R zs bc hR=>?_) λp1 cn=>?_
  .obtain⟨l1,l2⟩:=a4 U<|Au bc;have v1:=val U.1<|pS;have v2:=val U.2 l2;refine zj G.hd<|ql v1 ?_;refine zj G.hd<|ql v2 ?_;refine zj G.hd<|ql v1 ?_;refine zj G.hd<|ql v2 ?_;have e1:min ((f U.1:Nat):Int) ((f U.2:Nat):Int)=((min (f U.1) (f U.2):Nat):Int):=Tp _ _;have e2:max ((f U.1:Nat):Int) ((f U.2:Nat):Int)=((max (f U.1) (f U.2):Nat):Int):=Tq _ _;have cv:R (zs++[.tup [.int<|min ((f U.1:Nat):Int) ((f U.2:Nat):Int),.int<|max ((f U.1:Nat):Int) ((f U.2:Nat):Int)]]) L':=by rw[e1,e2];exact hR
   exact cv
  have b1:∀p∈lk.map (YS f),p.2<1000000:=λp j=>by obtain⟨r,hr,rfl⟩:=Ba.mp j;obtain⟨h1,h2⟩:=a4 r hr;have:=X8 r.1 (by lia);have:=X8 r.2 h2;exact Nat.max_lt.mpr {by lia,by lia}
  have n1:(lk.map<|YS f).Nodup:=fJ (λx hx y hy e=>by
   obtain⟨x1,x2⟩:=a4 x hx;obtain⟨y1,y2⟩:=a4 y hy;have m1:=Bt Prod.fst e;have m2:=Bt Prod.snd e;have a1:x.1=y.1/\x.2=y.2:=by
    rcases Uj m1 m2 with⟨c1,c2⟩|⟨c1,c2⟩
    .exact{inj x.1 y.1 (CM x1 x2) (CM y1 y2) c1,inj x.2 y.2 x2 y2 c2}
    .have e3:=inj x.1 y.2 (CM x1 x2) y2 c1;have e4:=inj x.2 y.1 x2 (CM y1 y2) c2;rw[e3,e4] at x1;exact absurd x1 (Nat.lt_asymm y1)
   exact Prod.ext a1.1 a1.2) c6
  dsimp only[jc];refine uT (ps:=lk.map<|YS f) q9 b1 n1 (by rw[Ae];exact fu) λD1 bh bi cw cy=>?_;have bj:=ke bi;have bn:=G.sub.none bj;have S1:qf L' (qd (qd L' p1<|.lst<|qt<|lk.map<|YS f) D1<|.lst<|qt bh):=(By cn).trans<|By bi;refine j7 (S1 _ _<|G.sub _ _ hc) λkeep kp=>vF (m:=Za f) cb (kp _ rfl) (λi U R zs bc hR=>?_) λp2 ac=>?_
  .obtain⟨l1,l2⟩:=a5 U<|Au bc;refine zj (S1 _ _ G.hd)<|ql (val U.1 l1) ?_;refine zj (S1 _ _ G.hd)<|ql (val U.2 l2) ?_;exact hR
  have b2:∀p∈ct.map (Za f),p.2<1000000:=λp j=>by obtain⟨r,hr,rfl⟩:=Ba.mp j;obtain⟨h1,h2⟩:=a5 r hr;have:=X8 r.2 h2;show f r.2<1000000;lia
  have n2:(ct.map<|Za f).Nodup:=fJ (λx hx y hy e=>by obtain⟨x1,x2⟩:=a5 x hx;obtain⟨y1,y2⟩:=a5 y hy;exact Prod.ext (inj _ _ x1 y1<|Bt Prod.fst e)<|inj _ _ x2 y2<|Bt Prod.snd e) ca
  dsimp only[jc];refine uT (ps:=ct.map<|Za f) q9 b2 n2 (by rw[Ae];exact fu) λD2 bp bq cI cP=>?_;have aL:=ke bq;have S2:=S1.trans<|(By ac).trans<|By (o:=.lst<|qt bp) bq;have c0:=G.sub.none<|S1.none aL;have al:=vh q9 aL;obtain⟨m,hm,de⟩:∃m:Nat,(if b=true then(1:Int) else 0)=(m:Int)/\m<=1:=by cases b;exact{0,rfl,A5 _};exact{1,rfl,Bi _}
  walk_at "w";rw[hm];refine{{A1 _,by omega},?_};rw[B9];refine rS (λi zs=>zs=dY (List.replicate i none)) (big _<|fu) rfl ?_ ?_
  .rintro i zs hi rfl;refine{_,ES _,rfl,?_};rw[List.replicate_succ'];exact iw _ none
  rintro zs rfl p3 bd;have S3:=S2.trans<|By (o:=.lst<|dY<|List.replicate m none) bd;refine{_,_,S3 _ _ G.hw,q9,?_,λp4 c3=>?_}
  .rw[aN,aN,BS];exact Bo<|big _ (by lia)
  have h4:=ke c3;have d0:=G.sub.none<|S2.none h4;have c4:=vh q9 h4;have c5:=vh ((qb al).trans<|(qb<|vh q9 ac).trans q9) h4;have da:=vh ((qb al).trans<|(qb<|vh q9 ac).trans q9) bd;have dc:=vh q9 bd;have eo:dY T++dY (List.replicate m none)=dY (T++List.replicate m none):=by unfold dY;rw[AC]
  rw[eo];refine k8<|q f (T++List.replicate m none) bh bp p4 D1 D2 _ {gap.Zn m,?_} cw cy cI cP ((G.sub.trans S3).trans<|By c3) d0 bn c0 (AE c5) (AE c4) al q9 ?_ ?_
  .rw[Ab,BS];exact Ph
  .rw[qb c5,qb da,qb al,qb<|vh q9 ac,q9]
  .rw[qb c4,qb dc,q9]
def lG:RD "_law_told" lU 0 ["_law_rule","_law_links","_law_cuts","_law_todo","_law_here"] (λ_=>True):={_,λV B c _ _ _ _ _ _ _ J hN I=>(qa (TM (i:=1) (j:=2) (k:=3) rfl hN rfl rfl rfl (by decide) (by decide) (by decide) rfl rfl rfl (cG (zh xd) (zh xd)<|zh<|x6<|qv 0) rfl)<|qa (cx wh (N_ I (qv 3)<|zh xd)<|qa (S_ 4 hN<|sw<|qv 3)<|vi (zy (E_ I (J_ 4) j6) (qe<|z9<|qz (qv 1)<|x6<|zg<|ve (J_ 4)<|J_ 4) zb)<|vi (zy (E_ I (J_ 4) j6) (qe<|z9<|qz (qv 2)<|x6<|zg<|ve (J_ 4)<|J_ 4) zb)<|qe<|z9<|bH (qv 3)<|x6<|cQ ["_law_arm"] (EW (by rfl)) rfl (TR<|bZ (TQ _ _ _) (qv 4) (cU qg) gH) (pV 5) (λ_ _ _ _=>a6<|ko<|vt .tuple rfl B.b_isinstance rfl B.b_tuple fS<|qv 5) λ_ _ _ _=>(qv 5))<|qe<|za<|zg<|ve (x5 iW rfl B.bg aX<|x6<|qv 1)<|x5 iW rfl B.bg aX<|x6<|qv 2)}
def zr:Ru->Wq
 |.link p q=>[(p,q)]
 |.ei _ A=>zr A
 |.bo _ A B=>zr A++zr B
 |.cu _ _ A B=>zr A++zr B
def jg:Ru->Wq
 |.link _ _=>[]
 |.ei _ A=>jg A
 |.bo _ A B=>jg A++jg B
 |.cu p q A B=>(p,q)::(jg A++jg B)
def mZ:Ru->Nat
 |.link _ _=>1
 |.ei _ A=>mZ A+1
 |.bo _ A B=>mZ A+mZ B+1
 |.cu _ _ A B=>mZ A+mZ B+1
def ar:Ru->List Ru
 |.link _ _=>[]
 |.ei _ A=>[A]
 |.bo _ A B=>[A,B]
 |.cu _ _ A B=>[A,B]
def pZ:Ru->Wq
 |.link p q=>[(p,q)]
 |_=>[]
def si:Ru->Wq
 |.cu p q _ _=>[(p,q)]
 |_=>[]
def xF(A:Ru):zr A=pZ A++(ar A).flatMap zr:=by cases A<;>simp[zr,pZ,ar]
def Ul(A:Ru):jg A=si A++(ar A).flatMap jg:=by cases A<;>simp[jg,si,ar]
def vZ(A:Ru):((ar A).map mZ).sum+1=mZ A:=by cases A<;>simp[mZ,ar]
def Um(A:Ru):0<mZ A:=by cases A<;>simp[mZ]
def Uo{A B:Ru}(h:B∈ar A):aV B<aV A:=by cases A<;>simp[ar] at h<;>(try rcases h with rfl|rfl)<;>(try subst h)<;>simp[aV]<;>omega
def oW:Ru->Z0
 |.link _ q=>[.int ((q:Nat):Int)]
 |.ei _ A=>[jp A]
 |.bo _ A B=>[jp A,jp B]
 |.cu _ q A B=>[.int ((q:Nat):Int),jp A,jp B]
def Gu:Y->WM
 |.tup ys=>some<|.tup ys
 |_=>none
def J1(A:Ru):Gu (jp A)=some (jp A):=by cases A<;>rfl
def zN(i:Int):Gu (.int i)=none:=rfl
def Uq(A:Ru):(oW A).filterMap Gu=(ar A).map jp:=by cases A<;>simp[oW,ar,CD,J1,zN]
def Ur{A:Ru}(h:y∈oW A):(∃q:Nat,y=.int (q:Int))\/∃B,y=jp B:=by
 cases A<;>simp[oW] at h
 .exact .inl {_,h}
 .exact .inr {_,h}
 .rcases h with h|h<;>exact .inr {_,h}
 .rcases h with h|h|h
  .exact .inl {_,h}
  .exact .inr {_,h}
  .exact .inr {_,h}
structure lH(R:Ru)(lk ct:Wp)(st:List Ru):Prop where
 pl:(lk++st.flatMap zr).Perm (zr R)
 pc:(ct++st.flatMap jg).Perm (jg R)
 sz:(st.map mZ).sum<=mZ R
 dp:∀A∈st,aV A<=aV R
def lH.start(R:Ru):lH R [] [] [R]:={by simp,by simp,by simp,λA I=>by simp at I;subst I;exact An _}
def lH.step{A:Ru}{st:List Ru}(h:lH R lk ct<|st++[A]):lH R (lk++pZ A) (ct++si A) (st++ar A):=by
 have pm:∀{X U V W:Wp},(X++U++(V++W)).Perm (X++(V++(U++W))):=λ{X U V W}=>by rw[Ay];refine DE X ?_;rw[<-Ay,<-Ay];exact Dz W Bq
 refine{?_,?_,?_,λB I=>?_}
 .refine List.Perm.trans ?_ h.pl;rw[AO,AO];have:[A].flatMap zr=pZ A++(ar A).flatMap zr:=by rw[<-xF];simp
  rw[this];exact pm
 .refine List.Perm.trans ?_ h.pc;rw[AO,AO];have:[A].flatMap jg=si A++(ar A).flatMap jg:=by rw[<-Ul];simp
  rw[this];exact pm
 .have:=h.sz;have:=vZ A;simp at *;lia
 .rcases Aj.mp I with I|I
  .exact h.dp B<|Am _ I
  .have:=Uo I;have:=h.dp A<|Ah _<|Ad.mpr rfl;exact Io
inductive iM(ys:Z0)(L:qj)(Q:YK):Prop
 |mk:∀R:Ru,(ys=[jp R])->(aV R<=120)->(mZ R<=1000)->((zr R).Nodup)->((jg R).Nodup)->((∀p∈zr R,p.2<1000000))->((∀p∈jg R,p.2<1000000))->((zr R).length<=127)->((jg R).length<=127)->(∀la ca lk ct,L la=none->L ca=none->la≠ca->lk.Perm (zr R)->lk.Pairwise oo->ct.Perm (jg R)->ct.Pairwise oo->Q (.tup [.ref la,.ref ca]) (qd (qd L la<|.lst<|qt lk) ca<|.lst<|qt ct))->iM ys L Q
def lA(l:Wp)(p:WB):qt l++[jM p]=qt (l++[p]):=by unfold qt;rw[AC];rfl
def Us(st:List Ru):Da.eqs (st.map eI) []=decide (st=[]):=by cases st<;>rfl
theorem oH{L:qj}{n:Nat}:∀{st:List Ru},(∀A∈st,aV A<=n)->Paired (jo L n) (st.map jp) (st.map eI)
 |[],_=>.nil
 |A::r,h=>.cons (du<|h A<|As ..)<|oH λB I=>h B<|Al _ I
def Ut:ZY iM lG.1 5:=by
 rintro ys L Q ⟨R,rfl,hd,hz,bd,be,b1,b2,z1,z2,q⟩;have big:=a_;intro t al C ac J a1;have a2:=vh q9 ac;have a3:=vh q9 a1;have a4:=vh ((qb a2).trans q9) a1;have av:=ke ac;have a5:=ke<|ke a1;have S0:qf L (qd (qd (qd L t<|.lst []) C<|.lst []) J<|.lst [jp R]):=((By al).trans<|By ac).trans<|By a1;refine{λm τ U=>∃lk g st c4,τ=[some<|jp R,some<|Y.ref t,some<|Y.ref C,some<|Y.ref J,c4]/\qf L U/\U t=⇑(qt lk)/\U C=⇑(qt g)/\U J=⇑(st.map jp)/\lH R lk g st/\m=(st.map mZ).sum,{_,[],[],[R],_,rfl,S0,(qb a4).trans<|(qb a2).trans q9,(qb a3).trans q9,q9,lH.start R,rfl},?_};rintro m τ U ⟨lk,g,st,c4,rfl,s,h1,h2,h3,T,rfl⟩;intro p hp;refine wq (n:=120) (m:=0) (by decide) (By hp _ _ h3) q9 (oH λA hA=>AK (T.dp A hA) hd) (.nil:Paired (jo _ 0) _ []) ?_;have bf:=vh h1 hp;have bg:=vh h2 hp;have bh:=vh h3 hp;have s2:qf L (qd U p<|.lst []):=s.trans<|By hp;replace h1:=(qb (o:=.lst []) bf).trans h1;replace h2:=(qb (o:=.lst []) bg).trans h2;replace h3:=(qb (o:=.lst []) bh).trans h3;generalize qd U p (.lst [])=L2 at s2 h1 h2 h3 ⊢;rw[Us];rcases CS st with rfl|⟨jR,A,rfl⟩
 .refine jv rfl ?_;have pl:lk.Perm (zr R):=by have:=T.pl;simpa using this
  have pc:g.Perm (jg R):=by have:=T.pc;simpa using this
  dsimp only[bP,bC,oN,qp,eB,eY,p_,qh,qC,jc];refine uT h1 (λx hx=>b1 x<|pl.mem_iff.mp hx) (pl.nodup_iff.mpr bd) (by rw[pl.length_eq];exact fu) λD1 bi aL bj bn=>?_;have n1:=vh h2 aL;refine uT ((qb n1).trans h2) (λx hx=>b2 x<|pc.mem_iff.mp hx) (pc.nodup_iff.mpr be) (by rw[pc.length_eq];exact fu) λD2 bp ba bq c0=>?_;have c3:=vh q9 ba;have bb:=s2.none aL;have bc:=s2.none<|ke ba;refine{_,λz o e=>?_,q D1 D2 bi bp bb bc c3 (bj.trans pl) bn (bq.trans pc) c0};by_cases c1:z=D2
  .subst c1;rw[q9] at e ⊢;exact e
  .rw[qb c1] at e ⊢;by_cases c2:z=D1
   .subst c2;rw[q9] at e ⊢;exact e
   .rw[qb c2] at e ⊢;exact s2 _ _ e
 .rw[CT] at *;have T1:=T.step;have ne:jR++[A]≠[]:=by simp
  rw[Ao ne];refine xq rfl {λI U=>∃m',m'<((jR++[A]).map mZ).sum/\∃lk g st c4,I=[some<|jp R,some<|Y.ref t,some<|Y.ref C,some<|Y.ref J,c4]/\qf L U/\U t=⇑(qt lk)/\U C=⇑(qt g)/\U J=⇑(st.map jp)/\lH R lk g st/\m'=(st.map mZ).sum,λI U h=>h,?_};rw[AC] at h3;refine tT h3 ?_;refine{λI L3=>I=[some<|jp R,some<|Y.ref t,some<|Y.ref C,some<|Y.ref J,some<|jp A]/\qf L L3/\L3 t=⇑(qt<|lk++pZ A)/\L3 C=⇑(qt g)/\L3 J=⇑(jR.map jp),?_,?_}
  .have j:qf L (qd L2 J<|.lst<|jR.map jp):=s2.upd a5;have g1:qd L2 J (.lst<|jR.map jp) t=⇑(qt lk):=(qb a4).trans h1;have g2:qd L2 J (.lst<|jR.map jp) C=⇑(qt g):=(qb a3).trans h2;have g3:qd L2 J (.lst<|jR.map jp) J=⇑(jR.map jp):=q9;generalize qd L2 J (.lst<|jR.map jp)=L3 at j g1 g2 g3 ⊢;cases A with
   |link p0 q0=>
    refine qc g1<|qm g1 {?_,?_}
    .have:=T.pl.length_eq;rw[Ab] at this;rw[Ae];exact big _ (by lia)
    .exact{rfl,j.upd al,by rw[q9];exact Bt (λl=>some<|LO.lst l)<|lA lk (p0,q0),(qb<|AE a2).trans g2,(qb<|AE a4).trans g3}
   |ei r0 A0=>exact{rfl,j,by rw[g1];simp[pZ],g2,g3}
   |bo r0 A0 B0=>exact{rfl,j,by rw[g1];simp[pZ],g2,g3}
   |cu p0 q0 A0 B0=>exact{rfl,j,by rw[g1];simp[pZ],g2,g3}
  .rintro I L3 ⟨rfl,j,g1,g2,g3⟩;refine{λI L3=>I=[some<|jp R,some<|Y.ref t,some<|Y.ref C,some<|Y.ref J,some<|jp A]/\qf L L3/\L3 t=⇑(qt<|lk++pZ A)/\L3 C=⇑(qt<|g++si A)/\L3 J=⇑(jR.map jp),?_,?_}
   .cases A with
    |cu p0 q0 A0 B0=>
     refine qc g2<|qm g2 {?_,?_}
     .have:=T.pc.length_eq;rw[Ab] at this;rw[Ae];exact big _ (by lia)
     .exact{rfl,j.upd av,(qb a2).trans g1,by rw[q9];exact Bt (λl=>some<|LO.lst l)<|lA g (p0,q0),(qb<|AE a3).trans g3}
    |ei r0 A0=>exact{rfl,j,g1,by rw[g2];simp[si],g3}
    |bo r0 A0 B0=>exact{rfl,j,g1,by rw[g2];simp[si],g3}
    |link p0 q0=>exact{rfl,j,g1,by rw[g2];simp[si],g3}
   .rintro I L3 ⟨rfl,j,g1,g2,g3⟩;obtain⟨ys,e,c5⟩:∃ys,jp A=.tup ys/\jO ys (some 2) none=oW A:=by cases A<;>exact{_,rfl,rfl}
    rw[e];have key:∀(zs:Z0) (keep:qj->Prop) (Q':YK),zs=oW A->keep L3->(∀p,L3 p=none->Q' (.ref p) (qd L3 p<|.lst<|(ar A).map jp))->y8 zs keep 1 (qk 5) (yB<|IB mB.tuple<|qh 5) (qh 5) [some<|jp R,some<|Y.ref t,some<|Y.ref C,some<|Y.ref J,some<|.tup ys] L3 Q':=by
     rintro zs keep Q' rfl hk hq;refine QL Gu ?_ hk (λi y W us ey hW=>?_) (by rw[Uq];exact hq)
     .cases A<;>exact big _ (by simp[oW])
     .rcases Ur (Au ey) with⟨n,rfl⟩|⟨B,rfl⟩
      .rw[zN] at hW;refine{_,ES _,?_};simpa using hW
      .rw[J1] at hW;cases B<;>exact{_,ES _,hW}
    refine qc g3 ?_;walk_at "w";refine{by cases A<;>(cases e;first|exactλh=>absurd (show KM 3 0 (some 2)=0 from h.1) (by decide)|exactλh=>absurd (show KM 4 0 (some 2)=0 from h.1) (by decide)|exactλh=>absurd (show KM 5 0 (some 2)=0 from h.1) (by decide)),?_};walk_at "w";refine key (jO ys (some 2) none) (λ_=>True) _ c5 trivial λp hp=>?_;have c6:=vh g3 hp;have c7:=vh g1 hp;have c8:=vh g2 hp;have c9:=vZ A;have cb:=T1.sz;have Yx:∀l:List Ru,l.length<=(l.map mZ).sum:=λl=>by induction l with|nil=>exact An _|cons B r ih=>have:=Um B;simp;lia
    have l1:=Yx<|jR++ar A;refine qm ((qb c6).trans g3)<|qm q9 {?_,?_}
    .rw[Ae,Ae];rw[Ab] at l1;exact Bo<|big _ (by lia)
    refine{_,ES _,((jR++ar A).map mZ).sum,?_,lk++pZ A,g++si A,jR++ar A,_,rfl,(j.trans<|By hp).upd a5,(qb a4).trans<|(qb c7).trans g1,(qb a3).trans<|(qb c8).trans g2,?_,T1,rfl}
    .simp;exact uY
    .rw[q9,AC]
def v_(hs:Wt)(a b:Nat):Prop:=∃r,bD hs a r/\bD hs b r
def Mon(hs ir:Wt):Prop:=∀a b,v_ hs a b->v_ ir a b
def Mon.trans{a b c:Wt}(h:Mon a b)(k:Mon b c):Mon a c:=λx y z=>k x y<|h x y z
def uO{a b:Nat}(h:∀i s,bD hs i s->bD ir i (if s=a then b else s)):Mon hs ir:=λ_ _ ⟨_,p,q⟩=>{_,h _ _ p,h _ _ q}
def Uu{a b p q:Nat}(h:∀i s,bD hs i s->bD ir i (if s=a then b else s))(ta:bD hs p a)(tb:bD hs q b):v_ ir p q:=by
 have h1:=h _ _ ta;have h2:=h _ _ tb;rw[Ar rfl] at h1;refine{b,h1,?_};by_cases c:b=a
 .rw[Ar c] at h2;exact h2
 .rw[Ap c] at h2;exact h2
structure tW(R:Nat->Nat->Prop):Prop where
 r:∀a,R a a
 s:∀{a b},R a b->R b a
 t:∀{a b c},R a b->R b c->R a c
def FX(R:Nat->Nat->Prop)(hs:Wt):Prop:=∀a b,v_ hs a b->R a b
def bD.lt{r:Nat}(h:bD hs i r):i<hs.length:=by cases h with|root e=>exact zd e|step e _ _=>exact zd e
def Uv{R:Nat->Nat->Prop}{a b p q:Nat}(j:nS rk hs)(T:ir.length=hs.length)(h:∀i s,bD hs i s->bD ir i (if s=a then b else s))(ta:bD hs p a)(tb:bD hs q b)(E:tW R)(I:R p q)(F:FX R hs):FX R ir:=λx y ⟨r,l,o⟩=>by
 obtain⟨U,J⟩:=j.X4 (i:=x) (by have:=l.lt;lia);obtain⟨g,ty⟩:=j.X4 (i:=y) (by have:=o.lt;lia);have e:=((h _ _ J).uniq l).trans ((h _ _ ty).uniq o).symm;have xp:U=a->R x p:=λz=>F x p {a,z▸J,ta};have C:g=a->R y p:=λz=>F y p {a,z▸ty,ta};by_cases c:U=a
 .by_cases d:g=a
  .exact E.t (xp c)<|E.s<|C d
  .rw[Ar c,Ap d] at e;exact E.t (E.t (xp c) I)<|F q y {b,tb,e▸ty}
 .by_cases d:g=a
  .rw[Ap c,Ar d] at e;exact E.t (F x q {b,e▸J,tb})<|E.s<|E.t (C d) I
  .rw[Ap c,Ap d] at e;exact F x y {U,J,e▸ty}
def pD{R:Nat->Nat->Prop}(E:tW R)(n:Nat):FX R (List.range n):=λx y ⟨r,p,q⟩=>by have h:∀{i r:Nat},bD (List.range n) i r->r=i:=λ{i r} t=>t.Yt (C8 (by have:=t.lt;rwa[Bh] at this));have I:=h p;have J:=h q;subst I;rw[J];exact E.r _
def Zt(hs ir:Wt)(ps:Wp):Prop:=Mon hs ir/\(∀x∈ps,v_ ir x.1 x.2)/\∀R,tW R->(∀x∈ps,R x.1 x.2)->FX R hs->FX R ir
def Zt.snoc{I:Wt}{ps:Wp}{a b p q:Nat}(j:Zt hs ir ps)(U:nS rk ir)(g:I.length=ir.length)(h:∀i s,bD ir i s->bD I i (if s=a then b else s))(ta:bD ir p a)(tb:bD ir q b):Zt hs I (ps++[(p,q)]):=by
 refine{j.1.trans<|uO h,λx J=>?_,λR E c F=>Uv U g h ta tb E (c (p,q)<|Ah _<|Ad.mpr rfl)<|j.2.2 R E (λx J=>c x<|Am _ J) F};rcases Aj.mp J with J|J
 .exact uO h _ _<|j.2.1 x J
 .rw[Ad.mp J];exact Uu h ta tb
def mM(a b:Nat):decide ((a:Int)=(b:Int))=decide (a=b):=by
 by_cases c:a=b
 .rw[Az c];exact Az (by lia)
 .rw[Ao c];exact Ao (by lia)
theorem aE:∀(l T:Wt),l.Nodup->(∀x∈l,x∈T)->l.length<=T.length
 |[],_,_,_=>A5 _
 |a::r,T,nd,h=>by obtain⟨U,g⟩:=AG.mp nd;have I:=h a<|As ..;have:=aE r (T.erase a) g λx J=>(BC (λe:x=a=>U<|e▸J)).mpr<|h x<|Al _ J;rw[List.length_erase_of_mem I] at this;have:=CO I;rw[AD];omega
open Classical in
def Uw(n:Nat):nS (λ_=>0) (List.range n):=λi h e=>by
 have I:i<n:=by have:=zd e;rwa[Bh] at this
 rw[C8 I] at e;cases e;exact{by rw[Bh];exact I,λz=>absurd rfl z}
def oV(ks:WN):Nat->Nat->Nat
 |0,_=>1
 |n+1,p=>match ks[p]? with
  |some (.nd _ i j)=>1+oV ks n i+oV ks n j
  |_=>1
def cL(ks:WN)(p:Nat):Nat:=oV ks (p+1) p
theorem Ux(ks:WN):∀n p,1<=oV ks n p
 |0,_=>An _
 |n+1,p=>by
  unfold oV;split
  .simp +arith only
  .exact An _
theorem jK{ks:WN}(ok:bA ks):∀(n m p:Nat),p<n->p<m->oV ks n p=oV ks m p
 |0,_,_,h,_=>absurd h<|B7 _
 |_+1,0,_,_,h=>absurd h<|B7 _
 |n+1,m+1,p,h1,h2=>by
  show(match ks[p]? with|some (.nd _ i j)=>1+oV ks n i+oV ks n j|_=>1)=match ks[p]? with|some (.nd _ i j)=>1+oV ks m i+oV ks m j|_=>1
  cases e:ks[p]? with
  |none=>rfl
  |some k=>
   cases k with
   |lf t n=>rfl
   |nd b i j=>
    have:=ok p _ e;show 1+oV ks n i+oV ks n j=1+oV ks m i+oV ks m j;rw[jK ok n m i (by lia) (by lia),jK ok n m j (by lia) (by lia)]
def Uy(ks:WN)(p:Nat):1<=cL ks p:=Ux ks _ _
def xC{p:Nat}{n:Str}(e:ks[p]?=some (.lf t n)):cL ks p=1:=by show(match ks[p]? with|some (.nd _ i j)=>1+oV ks p i+oV ks p j|_=>1)=1;rw[e]
def wO(ok:bA ks){p:Nat}{b:Bool}(e:ks[p]?=some (.nd b i j)):cL ks p=1+cL ks i+cL ks j:=by have h:=ok p _ e;show(match ks[p]? with|some (.nd _ i j)=>1+oV ks p i+oV ks p j|_=>1)=_;rw[e];show 1+oV ks p i+oV ks p j=1+oV ks (i+1) i+oV ks (j+1) j;rw[jK ok p (i+1) i (by omega)<|Bi _,jK ok p (j+1) j (by omega)<|Bi _]
def wy(f:WA)(l:Wt):Nat:=(l.map f).sum
def wr(f:WA)(x:Nat)(l:Wt):wy f (x::l)=f x+wy f l:=by unfold wy;rw[AQ,DF]
def wm(f:WA)(l m:Wt):wy f (l++m)=wy f l+wy f m:=by unfold wy;rw[AC,EJ]
def aI{f:WA}{l:Wt}{x:Nat}(h:x∈l):wy f l=f x+wy f (l.erase x):=by have:=((List.perm_cons_erase h).map f).sum_nat;unfold wy;rw[this,AQ,DF]
theorem fb{f:WA}:∀{E U:Wt},E.Nodup->(∀x∈E,x∈U)->wy f E<=wy f U
 |[],_,_,_=>A5 _
 |x::E,U,nd,h=>by obtain⟨J,g⟩:=AG.mp nd;rw[wr,aI<|h x<|As ..];have:=fb (f:=f) (E:=E) (U:=U.erase x) g λy I=>(BC λ(z:y=x)=>J<|z▸I).mpr<|h y<|Al _ I;lia
def cr(f:WA)(l:Wp):Nat:=(l.map λc=>f c.1+f c.2).sum
def l7(f:WA)(l m:Wp):cr f (l++m)=cr f l+cr f m:=by unfold cr;rw[AC,EJ]
def SR.weight(ok:bA ks){E:Wt}(h:SR ks R E):wy (cL ks) E+cr (cL ks) (jg R)<=(zq R).length:=by
 induction h with
 |@link p q t n E h1 h2 h3 I g=>
  have:=fb (f:=cL ks) (U:=[p,q]) g λx J=>by rcases (I x).mp J with rfl|rfl<;>simp
  have e:wy (cL ks) [p,q]=2:=by unfold wy;simp[xC h2,xC h3]
  show wy (cL ks) E+0<=2;lia
 |@ei r i j A l E h1 h2 h3 I g T o ih=>
  have hj:=(BC<|AE g).mpr I;have C:=fb (f:=cL ks) (U:=(l.erase i).erase j++[r]) o λx J=>by
   rcases (T x).mp J with⟨a,b,c⟩|rfl
   .exact Am _<|(BC c).mpr<|(BC b).mpr a
   .simp
  have s2:=aI (f:=cL ks) h3;have s3:=aI (f:=cL ks) hj;have s4:=wO ok h1;rw[wm,wr] at C;have e0:wy (cL ks) []=0:=rfl;show _+cr _ (jg A)<=(r::zq A).length;rw[AD];lia
 |@bo r i j A B l EB E h1 h2 h3 I g T o a1 a2=>
  have C:=fb (f:=cL ks) (U:=l.erase i++(EB.erase j++[r])) o λx J=>by
   rcases (T x).mp J with⟨a,b⟩|⟨a,b⟩|rfl
   .exact Am _<|(BC b).mpr a
   .exact Ah _<|Am _<|(BC b).mpr a
   .simp
  have s2:=aI (f:=cL ks) I;have s3:=aI (f:=cL ks) g;have s4:=wO ok h1;rw[wm,wm,wr] at C;have e0:wy (cL ks) []=0:=rfl;show _+cr _ (jg A++jg B)<=(r::(zq A++zq B)).length;rw[AD,Ab,l7];lia
 |@cu p q A B l EB E w h1 h2 h3 I g T o h8 a1 a2=>
  have C:=fb (f:=cL ks) (U:=l.erase p++EB.erase q) h8 λx J=>by
   rcases (o x).mp J with⟨a,b⟩|⟨a,b⟩
   .exact Am _<|(BC b).mpr a
   .exact Ah _<|(BC b).mpr a
  have s2:=aI (f:=cL ks) h3;have s3:=aI (f:=cL ks) I;rw[wm] at C;have e1:cr (cL ks) (jg<|.cu p q A B)=cL ks p+cL ks q+(cr (cL ks) (jg A)+cr (cL ks) (jg B)):=by show cr _ ((p,q)::(jg A++jg B))=_;rw[<-l7];unfold cr;rw[AQ,DF]
  show _<=(zq A++zq B).length;rw[Ab,e1];lia
def ju(lk:Wp):Wt:=lk.flatMap λx=>[x.1,x.2]
def kc(a b:Wp):ju (a++b)=ju a++ju b:=by unfold ju;rw[AO]
def bW(x:WB):ju [x]=[x.1,x.2]:=by simp[ju]
def wc(lk:Wp):(ju lk).length=2*lk.length:=by
 induction lk with
 |nil=>rfl
 |cons x r I=>
  have:=kc [x] r;rw[DC] at this;rw[this,Ab,I,bW,AD];simp;exact Nat.add_comm _ _
def yo(m:Nat)(l:Wt):k_ (jX<|.int (m:Int)) ((nY l).map jX)=decide (m∈l):=by
 induction l with
 |nil=>rfl
 |cons n r I=>
  have e:k_ (jX<|.int (m:Int)) ((nY<|n::r).map jX)=(mI (jX<|.int (n:Int)) (jX<|.int (m:Int))||k_ (jX<|.int (m:Int)) ((nY r).map jX)):=rfl;rw[e,I];have J:mI (jX<|.int (n:Int)) (jX<|.int (m:Int))=decide (n=m):=mM n m;rw[J];by_cases c:n=m
  .subst c;simp
  .by_cases d:m∈r
   .simp[d]
   .simp[c,d,AE c]
def zF(l:Wt):(nY l).all gl=true:=by rw[Ck];intro y I;obtain⟨n,_,rfl⟩:=Ba.mp I;rfl
def fO:RD "_law_beneath" fM 0 ["_law_knots","_law_cuts","_law_todo","_law_p","_law_q","_law_beneath_here"] (λ_=>True):={_,λV B c _ _ _ _ _ _ _ J hN I=>(qa (S_ 2 hN<|zh xd)<|qa (vf wh rfl (jq<|qv 1) (kn (n:=2) rfl<|z0 (G_ 3 hN)<|z0 (G_ 4 hN) xb)<|qe<|z9<|bH (qv 2)<|x6<|zh<|ve (qv 3)<|qv 4)<|qa (S_ 5 hN<|zh xd)<|qa (cx wh (N_ I (qv 2)<|zh xd)<|qa (S_ 3 hN<|sw<|qv 2)<|qa (z9<|qz (qv 5)<|x6<|qv 3)<|qe<|zy (E_ I (L_ B.ba<|I_ (qv 0)<|qv 3) qg) (qe<|z9<|bH (qv 2)<|x6<|zh<|ve (I_ (I_ (qv 0)<|qv 3) qg)<|I_ (I_ (qv 0)<|qv 3) qg) zb)<|qe<|za<|qv 5)}
structure pP(ks:WN)(ct:Wp)(qs st:Wt):Prop where
 cut:∀c∈ct,(c.1∈qs\/c.1∈st)/\(c.2∈qs\/c.2∈st)
 part:∀p∈qs,∀e i j,ks[p]?=some (.nd e i j)->(i∈qs\/i∈st)/\(j∈qs\/j∈st)
 lt:∀p∈st,p<ks.length
 sz:qs.length+wy (cL ks) st<=1000
theorem i5(ks:WN):∀l:Wt,l.length<=wy (cL ks) l
 |[]=>An _
 |x::r=>by have:=i5 ks r;have:=Uy ks x;rw[wr,AD];lia
theorem bF(f:WA):∀l:Wq,wy f (ju l)=cr f l
 |[]=>rfl
 |c::r=>by
  have e:ju (c::r)=[c.1,c.2]++ju r:=by rw[<-bW,<-kc];rfl
  rw[e,wm,bF f r,wr,wr];have I:wy f []=0:=rfl;unfold cr;rw[I,AQ,DF];rfl
def fc{c:WB}(h:c∈ct):c.1∈ju ct/\c.2∈ju ct:=by
 induction ct with
 |nil=>cases h
 |cons d r I=>
  have e:ju (d::r)=[d.1,d.2]++ju r:=by rw[<-bW,<-kc];rfl
  rw[e];rcases Aw.mp h with rfl|h
  .simp
  .obtain⟨a,b⟩:=I h;exact{Ah _ a,Ah _ b}
def vS{x:Nat}(h:x∈ju ct):∃c∈ct,x=c.1\/x=c.2:=by
 induction ct with
 |nil=>cases h
 |cons d r I=>
  have e:ju (d::r)=[d.1,d.2]++ju r:=by rw[<-bW,<-kc];rfl
  rw[e] at h;rcases Aj.mp h with h|h
  .exact{d,As ..,by simpa using h}
  .obtain⟨c,h1,h2⟩:=I h;exact{c,Al _ h1,h2}
def mD(ks:WN)(p:Nat):Wt:=match ks[p]? with
 |some (.nd _ i j)=>[i,j]
 |_=>[]
def pP.step(ok:bA ks){st:Wt}{p:Nat}(h:pP ks ct qs<|st++[p]):pP ks ct (qs++[p]) (st++mD ks p)/\wy (cL ks) (st++mD ks p)<wy (cL ks) (st++[p]):=by
 have J:∀x,(x∈qs\/x∈st++[p])->(x∈qs++[p]\/x∈st++mD ks p):=λx I=>by
  rcases I with I|I
  .exact .inl<|Am _ I
  .rcases Aj.mp I with I|I
   .exact .inr<|Am _ I
   .exact .inl<|Ah _ I
 have o:=h.sz;have r:wy (cL ks) (st++[p])=wy (cL ks) st+cL ks p:=by rw[wm,wr];rfl
 have C:wy (cL ks) (st++mD ks p)+1=wy (cL ks) st+cL ks p:=by
  rw[wm];unfold mD;cases e:ks[p]? with
  |none=>
   have:=h.lt p<|Ah _<|Ad.mpr rfl;rw[Ai this] at e;cases e
  |some k=>
   cases k with
   |lf t n=>
    have:=xC e;show wy _ st+0+1=_;lia
   |nd b i j=>
    have:=wO ok e;rw[wr,wr];have T:wy (cL ks) []=0:=rfl;lia
 refine{{λc g=>{J _ (h.cut c g).1,J _ (h.cut c g).2},λx I e i j U=>?_,λx I=>?_,?_},by lia}
 .rcases Aj.mp I with I|I
  .exact{J _ (h.part x I e i j U).1,J _ (h.part x I e i j U).2}
  .have I:=Ad.mp I;subst I;have:mD ks x=[i,j]:=by unfold mD;rw[U]
   rw[this];simp
 .rcases Aj.mp I with I|I
  .exact h.lt x<|Am _ I
  .unfold mD at I;split at I
   .rename_i b i j e;have:=zd e;have l:=ok p _ e;have:x=i\/x=j:=by simpa using I
    lia
   .cases I
 .rw[Ab,AF];lia
inductive db(ys:Z0)(L:qj)(Q:YK):Prop
 |mk:∀a c,∀ks:WN,∀ct:Wq,(ys=[.ref a,.ref c])->(L a=⇑(vz ks))->(L c=⇑(qt ct))->(bA ks)->((∀x∈ct,x.1<ks.length/\x.2<ks.length))->(cr (cL ks) ct<=1000)->(ks.length<=1000)->(∀D qs,L D=none->pP ks ct qs []->Q (.ref D) (qd L D<|.lst<|nY qs))->db ys L Q
def J2(l:Wt):Da.eqs (eL l) []=decide (l=[]):=by cases l<;>rfl
theorem xV:ZY db fO.1 6:=by
 rintro ys L Q ⟨a,c,l,r,rfl,ha,hc,ok,hb,hz,hn,q⟩;have big:=a_;have lp:=AK (i5 l _) (by rw[bF];exact hz);intro U C;have s0:qf L (qd L U<|.lst []):=By C;refine j7 (s0 _ _ hc) λkeep kp=>xm {λi τ J=>∃T c4 c5,τ=[some<|Y.ref a,some<|Y.ref c,some<|Y.ref U,T,c4,c5]/\qf L J/\J U=⇑(nY<|ju<|r.take i),{_,_,_,rfl,s0,q9},?_,?_,?_}
 .rintro i τ J ⟨T,c4,c5,rfl,s,h⟩;exact kp J (by rw[s _ _ hc,s0 _ _ hc])
 .rintro i y τ J hy ⟨T,c4,c5,rfl,s,h⟩;rw[Aq] at hy;obtain⟨pr,ep,rfl⟩:=AA.mp hy;have et:r.take (i+1)=r.take i++[pr]:=by rw[A4,ep];rfl
  refine qc h ?_;intro p hp;have al:=vh h hp;have ll:(ju<|r.take i).length<=(ju r).length:=by rw[wc,wc,AR];lia
  refine qm ((qb al).trans h)<|qm q9 {?_,?_}
  .rw[jx];exact Bo (big _ (by simp;lia))
  .refine{_,ES _,_,_,_,rfl,(s.trans<|By hp).upd C,?_};rw[q9,et,kc,bW,aT];rfl
 .rintro τ J ⟨T,c4,c5,rfl,s,h⟩;rw[Ae,AY] at h;intro g a4;have a1:=vh h a4;have a3:=s.none a4;have B0:pP l r [] (ju r):={λx hx=>{.inr (fc hx).1,.inr (fc hx).2},λx hx=>(AZ hx).elim,λx hx=>by obtain⟨d,hd,e⟩:=vS hx;have:=hb d hd;lia,by rw[bF];show 0+_<=1000;lia}
  refine{λm τ J=>∃I st T c4,τ=[some<|Y.ref a,some<|Y.ref c,some<|Y.ref U,T,c4,some<|Y.ref g]/\qf L J/\J U=⇑(nY st)/\J g=⇑(nY I)/\pP l r I st/\m=wy (cL l) st,{_,[],ju r,_,_,rfl,s.trans<|By a4,(qb a1).trans h,q9,B0,rfl},?_};rintro m τ L1 ⟨I,st,T,c4,rfl,s1,h1,h2,B,rfl⟩;intro p hp;refine wq (n:=0) (m:=0) (by decide) (By hp _ _ h1) q9 (gF st) (.nil:Paired (jo _ 0) _ []) ?_;have av:=vh h1 hp;have aL:=vh h2 hp;have s2:qf L (qd L1 p<|.lst []):=s1.trans<|By hp;replace h1:=(qb (o:=.lst []) av).trans h1;replace h2:=(qb (o:=.lst []) aL).trans h2;generalize qd L1 p (.lst [])=L2 at s2 h1 h2 ⊢;rw[J2];rcases CS st with rfl|⟨jR,x,rfl⟩
  .refine jv rfl ?_;refine{qd L g<|.lst<|nY I,λb o e=>?_,q g I a3 B};by_cases cc:b=g
   .subst cc;rw[q9] at e;rw[<-e];exact h2
   .rw[qb cc] at e;exact s2 _ _ e
  .rw[CT] at *;obtain⟨B1,a2⟩:=B.step ok;have ne:jR++[x]≠[]:=by simp
   rw[Ao ne];refine xq rfl {λac J=>∃m',m'<wy (cL l) (jR++[x])/\∃I st T c4,ac=[some<|Y.ref a,some<|Y.ref c,some<|Y.ref U,T,c4,some<|Y.ref g]/\qf L J/\J U=⇑(nY st)/\J g=⇑(nY I)/\pP l r I st/\m'=wy (cL l) st,λac J h=>h,?_};rw[aT] at h1;refine tT h1 ?_;have g1:qd L2 U (.lst<|nY jR) U=⇑(nY jR):=q9;have g2:qd L2 U (.lst<|nY jR) g=⇑(nY I):=(qb<|AE a1).trans h2;have s3:qf L (qd L2 U<|.lst<|nY jR):=s2.upd C;generalize qd L2 U (.lst<|nY jR)=L3 at g1 g2 s3 ⊢;have ba:=B.sz;refine qc g2 (qm g2 {by rw[jx];exact big _ (by lia),?_});have k1:qd L3 g (.lst<|nY I++[.int ((x:Nat):Int)]) U=⇑(nY jR):=(qb a1).trans g1;have k2:qd L3 g (.lst<|nY I++[.int ((x:Nat):Int)]) g=⇑(nY<|I++[x]):=by rw[q9,aT];rfl
   have s4:qf L (qd L3 g<|.lst<|nY I++[.int ((x:Nat):Int)]):=s3.upd a3;generalize qd L3 g (.lst<|nY I++[.int ((x:Nat):Int)])=L4 at k1 k2 s4 ⊢;have hx:=B.lt x<|Ah _<|Ad.mpr rfl;obtain⟨k,ek⟩:∃k,l[x]?=some k:={_,Ai hx};have ga:=s4 _ _ ha;refine qc ga<|ql (ww ek) ?_;cases k with
   |lf t n=>
    have e0:mD l x=[]:=by unfold mD;rw[ek]
    rw[e0,AB] at B1 a2;exact{_,ES _,_,a2,I++[x],jR,_,_,rfl,s4,k1,k2,B1,rfl}
   |nd b i j=>
    have e0:mD l x=[i,j]:=by unfold mD;rw[ek]
    rw[e0] at B1 a2;refine qc k1 ?_;refine qc ga<|ql (ww ek) ?_;refine qc ga<|ql (ww ek) ?_;intro p2 a5;have n1:=vh k1 a5;have n2:=vh k2 a5;have l1:=i5 l<|jR++[i,j];refine qm ((qb n1).trans k1)<|qm q9 {?_,?_}
    .rw[jx];rw[Ab] at l1;exact Bo (big _ (by simp at l1 ⊢;lia))
    .refine{_,ES _,_,a2,I++[x],jR++[i,j],_,_,rfl,(s4.trans<|By a5).upd C,?_,(qb<|AE a1).trans<|(qb n2).trans k2,B1,rfl};rw[q9,aT];rfl
def pU(I:km)(p1:km):ai:=(zv (jw (xa I<|eY (qh 0)<|qh 1)<|qk 4)
 (zv (jw (cV jc)<|qk 5)
 (zv (kC (aK<|qh 0) (qk 6)<|bN (tf (tR 6)<|ax 3) (wo<|iI mU (qh 5)<|qp (cV<|eY (ah 6 1)<|ah 6 2) jc) aW)
 (zv (qQ 6<|jw (oN xJ<|qp (d_ 1 (aK<|qh 0) (qk 11) (tf (ah 11 0)<|uC "either")<|qh 11) jc)<|qk 7)
 (zv (jw (cV jc)<|qk 8)
 (zv (kC (rV<|qh 0) (dC 2<|jt (qk 9)<|jt (qk 6) bT) (zv (jw (ky tS (xa p1<|qp (qh 2)<|eY (qh 9)<|ax 30269)<|ax 8)<|qk 10)
 (bN (r_ (tf (tR 6)<|ax 2)<|yB<|ky (uj false) (qh 9)<|qh 4) (wo<|iI x0 (qh 8)<|eB<|qh 6) (bN (tf (ky tS (ky IX (qh 2)<|ax 3)<|ax 2)<|ax 1) (wo<|iI x0 (qh 8)<|qp (FM (mJ (tf (ky tS (qh 10)<|ax 2)<|ax 0)<|yB<|ky (uj true) (qh 9)<|qh 5) (yC .KB)<|qh 6) jc) (bN (mJ (yB<|ky Ge (qh 10)<|ax 3)<|tf (ah 6 0)<|uC "either") (zv (wo<|iI x0 (qh 8)<|qp (bC<|qp (uC "both")<|eY (ah 6 1)<|ah 6 2) jc)
 (jw (ky yX (qh 7)<|ax 1)<|qk 7)) (bN (mJ (yB<|ky Ge (qh 10)<|ax 3)<|yB<|ky Ge (qh 7)<|qh 3) (zv (wo<|iI x0 (qh 8)<|qp (bC<|qp (uC "either")<|eY (ah 6 1)<|ah 6 2) jc)
 (jw (ky gU (qh 7)<|ax 1)<|qk 7))<|wo<|iI x0 (qh 8)<|eB<|qh 6))))))
 (bP<|qh 8)))))))
def w_:Kn->Wt
 |.nd _ i j=>[i,j]
 |.lf _ _=>[]
def aq(ks:WN):Wt:=ks.flatMap w_
def Uz{r:Nat}{e:Bool}(h:ks[r]?=some (.nd e i j)):i∈aq ks/\j∈aq ks:=
 ⟨Bx.mpr ⟨_,Au h,by simp[w_]⟩,Bx.mpr ⟨_,Au h,by simp[w_]⟩⟩
def UA(ks:WN):(aq ks).length<=2*ks.length:=by
 induction ks with
 |nil=>exact An _
 |cons k r I=>
  have e:aq (k::r)=w_ k++aq r:=Be ..;have:(w_ k).length<=2:=by cases k<;>simp[w_]
  rw[e,Ab,AD];lia
def qG(ks:WN)(k:Kn):aq (ks++[k])=aq ks++w_ k:=by unfold aq;rw[AO,Be,CK,AB]
structure fZ(ks:WN)(kept:Wt)(n:Nat)(out:List<|WO):Prop where
 len:out.length=n
 lf:∀p t m,p<n->ks[p]?=some (.lf t m)->out[p]?=some (some<|.lf t m)
 kp:∀p∈kept,p<n->∀k,ks[p]?=some k->out[p]?=some (some k)
 nd:∀p e i j,p<n->ks[p]?=some (.nd e i j)->(out[p]?=some none/\p∉aq ks)\/∃e',out[p]?=some (some<|.nd e' i j)
def fZ.nil(ks:WN)(kept:Wt):fZ ks kept 0 []:={rfl,λ_ _ _ h=>absurd h<|B7 _,λ_ _ h=>absurd h<|B7 _,λ_ _ _ _ h=>absurd h<|B7 _}
def fZ.snoc{kept:Wt}(T:fZ ks kept n out){k:Kn}{o:WO}(h:ks[n]?=some k)(U:∀t m,k=.lf t m->o=some k)(g:n∈kept->o=some k)
 (l:∀e i j,k=.nd e i j->(o=none/\n∉aq ks)\/∃J,o=some (.nd J i j)):fZ ks kept (n+1) (out++[o]):=by
 have old:∀p,p<n->(out++[o])[p]?=out[p]?:=λp I=>Av (by rw[T.len];exact I);have new:(out++[o])[n]?=some o:=by rw[<-T.len];exact eF out o []
 refine{by rw[Ab,T.len];rfl,λp t m I e=>?_,λp I r C e=>?_,λp b i j I e=>?_}
 .by_cases c:p<n
  .rw[old p c];exact T.lf p t m c e
  .have:p=n:=by lia
   subst this;rw[h] at e;cases e;rw[new,U t m rfl]
 .by_cases c:p<n
  .rw[old p c];exact T.kp p I c C e
  .have:p=n:=by lia
   subst this;rw[h] at e;cases e;rw[new,g I]
 .by_cases c:p<n
  .rw[old p c];exact T.nd p b i j c e
  .have:p=n:=by lia
   subst this;rw[h] at e;cases e;rw[new];rcases l b i j rfl with⟨a1,a2⟩|⟨J,a⟩
   .exact .inl {by rw[a1],a2}
   .exact .inr {J,by rw[a]}
def bE(o:WO):Nat:=if xi true o=true then 1 else 0
def cE(l:List<|WO):Nat:=(l.map bE).sum
def cK(l:WN):Nat:=cE<|l.map some
def J3(l:List<|WO)(o:WO):cE (l++[o])=cE l+bE o:=by unfold cE;rw[AC,EJ];simp
structure YU(ks:WN)(out:List<|WO)(i:Nat)(mn m:Int):Prop where
 a:(cE out:Int)+((cK (ks.drop i):Nat):Int)<=mn
 b:mn<=max (cK ks:Int) m
def YU.step{U m I:Int}{k:Kn}{o:WO}(M:YU ks out i U m)(J:ks[i]?=some k)(h:(bE o:Int)+U<=I+((bE (some k):Nat):Int))(j:I<=max (cK ks:Int) m):YU ks (out++[o]) (i+1) I m:=by
 have g:=zd J;have e:cK (ks.drop i)=bE (some k)+cK (ks.drop<|i+1):=by rw[BO g];rw[Ai g] at J;rw[AJ J];rfl
 have:=M.a;rw[e] at this;exact{by rw[J3];omega,j}
inductive cj(ys:Z0)(L:qj)(Q:YK):Prop
 |mk:∀a c,∀ks:WN,∀ct:Wq,∀s m:Int,(ys=[.ref a,.ref c,.int s,.int m])->(L a=⇑(vz ks))->(L c=⇑(qt ct))->(bA ks)->((∀x∈ct,x.1<ks.length/\x.2<ks.length))->(cr (cL ks) ct<=1000)->(ks.length<=1000)->(∀D qs out,L D=none->pP ks ct qs []->fZ ks qs ks.length out->(cE out:Int)<=max (cK ks:Int) m->Q (.ref D) (qd L D<|.lst<|dY out))->cj ys L Q
theorem UB:ZY cj (pU db cY) 11:=by
 rintro ys L Q ⟨a,c,U,ct,s,m,rfl,ha,hc,ok,hb,hz,hn,q⟩;have big:=a_;refine{a,c,U,ct,rfl,ha,hc,ok,hb,hz,hn,λD l hD B=>?_};have s1:qf L (qd L D<|.lst<|nY l):=By hD;have a3:qd L D (.lst<|nY l) D=⇑(nY l):=q9;generalize qd L D (.lst<|nY l)=L1 at s1 a3 ⊢;intro pa a4;have s2:qf L (qd L1 pa<|.lst []):=s1.trans<|By a4;have al:=s1.none a4;have av:=vh a3 a4;refine j7 (s2 _ _ ha) λkeep kp=>xm {λi τ J=>∃c6 c7 c8 c9 g,τ=[some<|Y.ref a,some<|Y.ref c,some<|.int s,some<|.int m,some<|Y.ref D,some<|Y.ref pa,c6,c7,c8,c9,g]/\qf L J/\J D=⇑(nY l)/\J pa=⇑(nY<|aq<|U.take i),{_,_,_,_,_,rfl,s2,(qb av).trans a3,q9},?_,?_,?_}
 .rintro i τ J ⟨c6,c7,c8,c9,g,rfl,r,_⟩;exact kp J (by rw[r _ _ ha,s2 _ _ ha])
 .rintro i y τ J hy ⟨c6,c7,c8,c9,g,rfl,r,g1,g2⟩;rw[Aq] at hy;obtain⟨k,C,rfl⟩:=AA.mp hy;have et:U.take (i+1)=U.take i++[k]:=by rw[A4,C];rfl
  have pl:=UA<|U.take i;rw[AR] at pl;cases k with
  |lf t n=>exact{_,ES _,_,_,_,_,_,rfl,r,g1,by rw[et,qG];show _=some (LO.lst<|nY<|aq (U.take i)++[]);rw[AB];exact g2}
  |nd e p1 p2=>
   refine qc g2 ?_;intro p hp;have n1:=vh g2 hp;have n2:=vh g1 hp;refine qm ((qb n1).trans g2)<|qm q9 {?_,?_}
   .rw[jx];exact Bo (big _ (by simp;lia))
   .refine{_,ES _,_,_,_,_,_,rfl,(r.trans<|By hp).upd al,(qb av).trans<|(qb n2).trans g1,?_};rw[q9,et,qG,aT];rfl
 .rintro τ J ⟨c6,c7,c8,c9,g,rfl,r,g1,g2⟩;rw[Ae,AY] at g2;refine j7 (r _ _ ha) λkeep kp=>bQ (λi zs=>zs.length=cK (U.take i)) (by rw[Ae];exact big _<|fu) (kp _ rfl) rfl ?_ ?_
  .rintro i y zs ey hl;rw[Aq] at ey;obtain⟨k,C,rfl⟩:=AA.mp ey;have et:cK (U.take<|i+1)=cK (U.take i)+bE (some k):=by rw[A4,C];show cE (((U.take i)++[k]).map some)=_;rw[AC];exact J3 _ _
   have no:bE (some k)=0->jP (λzs a5=>a5=J/\zs.length=cK (U.take<|i+1)) zs J:=λh=>{_,ES _,rfl,by rw[et,h];exact hl};have yes:∀z,bE (some k)=1->jP (λzs a5=>a5=J/\zs.length=cK (U.take<|i+1)) (zs++[z]) J:=λz h=>{_,ES _,rfl,by rw[Ab,AF,et,h,hl]};cases k with
   |lf t n=>cases t<;>exact no rfl
   |nd e p1 p2=>
    cases e with|true=>exact yes _ rfl|false=>exact no rfl
  rintro zs aL p hp;rw[Ae,AY] at aL;refine qm q9 ?_;rw[aL];have s3:qf L (qd J p<|.lst zs):=r.trans<|By hp;have k1:qd J p (.lst zs) D=⇑(nY l):=(qb<|vh g1 hp).trans g1;have k2:qd J p (.lst zs) pa=⇑(nY<|aq U):=(qb<|vh g2 hp).trans g2;generalize qd J p (.lst zs)=L2 at s3 k1 k2 ⊢;intro mk a1;have a2:=s3.none a1;have s4:qf L (qd L2 mk<|.lst []):=s3.trans<|By a1;have ba:=vh k1 a1;have bb:=vh k2 a1;refine j7 (s4 _ _ ha) λkeep kp=>xm {λi τ J=>∃c6,∃j:Int,∃c9 g I,τ=[some<|Y.ref a,some<|Y.ref c,some<|.int s,some<|.int m,some<|Y.ref D,some<|Y.ref pa,c6,some<|.int j,some<|Y.ref mk,c9,g]/\qf L J/\J D=⇑(nY l)/\J pa=⇑(nY<|aq U)/\J mk=⇑(dY I)/\fZ U l i I/\YU U I i j m,{_,_,_,_,[],rfl,s4,(qb ba).trans k1,(qb bb).trans k2,q9,fZ.nil _ _,{by show((0:Nat):Int)+(cK U:Int)<=_;omega,by omega}},?_,?_,?_}
  .rintro i τ J ⟨c6,j,c9,g,I,rfl,r,_⟩;exact kp J (by rw[r _ _ ha,s4 _ _ ha])
  .rintro i y τ J hy ⟨c6,j,c9,g,I,rfl,r,g1,g2,g3,T,M⟩;obtain⟨z,ez,rfl⟩:=bY hy;rw[Aq] at ez;obtain⟨k,C,rfl⟩:=AA.mp ez;have hi:=zd C;have ol:=T.len;refine{s,i,30269,rfl,A1 _,by omega,by decide,by decide,λv h0 h1=>?_};refine{show(0:Int)<8 by decide,?_};have add:∀(o:WO) (y:Y) (ac:Int),fj o=y->fZ U l (i+1) (I++[o])->YU U (I++[o]) (i+1) ac m->jP (λ(τ:jd) (J:qj)=>∃c6,∃j:Int,∃c9 g I,τ=[some<|Y.ref a,some<|Y.ref c,some<|.int s,some<|.int m,some<|Y.ref D,some<|Y.ref pa,c6,some<|.int j,some<|Y.ref mk,c9,g]/\qf L J/\J D=⇑(nY l)/\J pa=⇑(nY<|aq U)/\J mk=⇑(dY I)/\fZ U l (i+1) I/\YU U I (i+1) j m) [some<|Y.ref a,some<|Y.ref c,some<|.int s,some<|.int m,some<|Y.ref D,some<|Y.ref pa,some<|uR k,some<|.int ac,some<|Y.ref mk,some<|.int ((i:Nat):Int),some<|.int<|v % 8] (qd J mk<|.lst<|dY I++[y]):=λo y ac ey T' M'=>
    ⟨_,ES _,_,_,_,_,I++[o],rfl,r.upd a2,(qb ba).trans g1,(qb bb).trans g2,by rw[q9,<-ey,iw],T',M'⟩
   have len:(dY I).length<sizeLine:=by rw[aN,ol];exact big _ (by lia)
   have M0:YU U (I++[some k]) (i+1) j m:=M.step C (by omega) M.b;cases k with
   |lf t n=>
    have T':=T.snoc C (λ_ _ h=>by rw[h]) (λ_=>rfl) (λ_ _ _ h=>by cases h);exact qc g3<|qm g3 {len,add _ _ j rfl T' M0}
   |nd e p1 p2=>
    refine qc g1 {rfl,zF _,?_};rw[yo];by_cases ck:i∈l
    .have T':=T.snoc C (λ_ _ h=>by cases h) (λ_=>rfl) (λ_ _ _ h=>.inr {e,by cases h;rfl});refine xq (by rw[Az ck];rfl) ?_;exact qc g3<|qm g3 {len,add _ _ j rfl T' M0}
    refine jv (by rw[Ao ck];rfl) ?_;have T':∀e',fZ U l (i+1) (I++[some<|.nd e' p1 p2]):=λe'=>T.snoc C (λ_ _ h=>by cases h) (λh=>absurd h ck) (λ_ _ _ h=>.inr {e',by cases h;rfl});refine{{by decide,by decide},show(0:Int)<2 by decide,?_};refine zu (λh=>?_) λh=>?_
    .refine qc g3 ?_;refine{show(0:Int)<2 by decide,?_};refine zu (λh2=>?_) λh2=>?_
     .refine qc g2 {rfl,zF _,?_};rw[yo];by_cases cp:i∈aq U
      .refine jv (by rw[Az cp];rfl) ?_;exact qm g3 {len,add _ _ j rfl (T' e) M0}
      .refine xq (by rw[Ao cp];rfl) ?_;have T2:=T.snoc C (λ_ _ h=>by cases h) (λh=>absurd h ck) λ_ _ _ h=>.inl {(rfl),cp};exact qm g3 {len,add _ _ j rfl T2 (M.step C (by have:bE (none:WO)=0:=rfl;omega) M.b)}
     .exact qm g3 {len,add _ _ j rfl (T' e) M0}
    .have same:=add (some<|.nd e p1 p2) _ j rfl (T' e) M0;refine zu (λh2=>?_) λh2=>?_
     .cases e with
      |true=>exact qc g3 (qm g3 {len,add (some<|.nd false p1 p2) _ (j-1) rfl (T' false) (M.step C (by show((0:Nat):Int)+j<=j-1+((1:Nat):Int);omega) (by have:=M.b;omega))})
      |false=>
       refine zu (λh2=>?_) λh2=>?_
       .refine zu (λh3=>?_) λh3=>?_
        .exact qc g3 (qm g3 {len,add (some<|.nd true p1 p2) _ (j+1) rfl (T' true) (M.step C (by show((1:Nat):Int)+j<=j+1+((0:Nat):Int);omega) (by omega))})
        .exact qc g3<|qm g3 {(len),same}
       .exact qc g3<|qm g3 {(len),same}
     .refine zu (λh3=>absurd h3 h2) λh3=>?_;exact qc g3<|qm g3 {(len),same}
  .rintro τ J ⟨c6,j,c9,g,I,rfl,r,g1,g2,g3,T,M⟩;rw[ae,Ae] at T M;have mb:(cE I:Int)<=max (cK U:Int) m:=by have:=M.a;have:=M.b;omega
   refine{qd L mk<|.lst<|dY I,λb o e=>?_,q mk l I a2 B T mb};by_cases cc:b=mk
   .subst cc;rw[q9] at e;rw[<-e];exact g3
   .rw[qb cc] at e;exact r _ _ e
def ft:RD "_law_crossed" fF 0 ["_law_knots","_law_links","_law_one","_law_two","_law_first","_law_mates","_law_second","_law_a","_law_b","_law_c","_law_d","_law_rest"] (λ_=>True):={_,λV B c _ _ _ _ _ _ _ J hN I=>(qa (wf (i:=4) hN rfl (Or.inr rfl)<|I_ (qv 1)<|qr x9 (qv 2)<|L_ B.ba<|qv 1)<|qa (dE ["_law_x"] (i:=5) hN rfl (Or.inl rfl) (EW (by rfl)) rfl (jq<|qv 1) (pV 12) (λ_ _ _ _=>a6<|kj<|w9 (N_ I (qv 12)<|qv 4)<|vq<|E_ I (I_ (I_ (qv 0)<|J_ 12) qg)<|I_ (I_ (qv 0)<|J_ 4) qg) λ_ _ _ _=>(qv 12))<|qa (zy (E_ I (qv 5)<|zh xd) (qe<|za<|qv 1) zb)<|qa (wf (i:=6) hN rfl (Or.inr rfl)<|I_ (qv 5)<|qr x9 (qv 3)<|L_ B.ba<|qv 5)<|qa (fW (dN (E_ I (I_ (I_ (qv 0)<|J_ 4) qg) j6) (qv 4)<|zg<|ve (J_ 4)<|J_ 4)<|kn (n:=2) rfl<|z0 (G_ 7 hN)<|z0 (G_ 8 hN) xb)<|qa (fW (dN (E_ I (I_ (I_ (qv 0)<|J_ 6) qg) j6) (qv 6)<|zg<|ve (J_ 6)<|J_ 6)<|kn (n:=2) rfl<|z0 (G_ 9 hN)<|z0 (G_ 10 hN) xb)<|qa (dE ["_law_x"] (i:=11) hN rfl (Or.inl rfl) (EW (by rfl)) rfl (jq<|qv 1) (pV 12) (λ_ _ _ _=>a6<|kj<|w9 (N_ I (qv 12)<|qv 4)<|vq<|N_ I (qv 12)<|qv 6) λ_ _ _ _=>(qv 12))<|qe<|za<|x5 iW rfl B.bg aX<|x6<|qr jm (qv 11)<|zh<|ve (zg<|ve (x5 zS rfl B.bh rL<|ve (qv 7)<|qv 10)<|x5 Gc rfl B.bj rP<|ve (qv 7)<|qv 10)<|zg<|ve (x5 zS rfl B.bh rL<|ve (qv 9)<|qv 8)<|x5 Gc rfl B.bj rP<|ve (qv 9)<|qv 8)}
def mF(x:WB):Da:=.tup [.s<|.int (x.1:Int),.s<|.int (x.2:Int)]
def rQ(x y:WB):Da.eq (mF x) (mF y)=decide (x=y):=by show(decide ((x.1:Int)=(y.1:Int))&&(decide ((x.2:Int)=(y.2:Int))&&true))=_;rw[EL,<-Bool.decide_and];exact Eo.mpr {λ⟨h1,h2⟩=>Prod.ext (BB.mp h1)<|BB.mp h2,λh=>by subst h;exact{(rfl),rfl}}
def jU(x:WB):jo L 1 (jM x) (mF x):=dS<|.cons (E4 _)<|.cons (E4 _) .nil
theorem vI{L:qj}:∀l:Wq,Paired (jo L 1) (qt l)<|l.map mF
 |[]=>.nil
 |_::r=>.cons (dS<|.cons (E4 _)<|.cons (E4 _) .nil)<|vI r
def UC(l:Wp):Da.eqs (l.map mF) []=decide (l=[]):=by cases l<;>rfl
def yw{f:WB->Bool}{keep:qj->Prop}{Q:YK}(hz:lk.length<=1000)(o:keep L)
 (turn:∀(i:Nat) (I:WB) (R:Z0->qj->Prop) zs,lk[i]?=some I->(f I=true->R (zs++[jM I]) L)->(f I=false->R zs L)->g (jM I) (τ++List.replicate 1 none) L λJ L2=>tc J L2 λb L3=>ao b (te J L3 λz r=>R (zs++[z]) r)<|R zs L3)
 (t:∀p,L p=none->Q (.ref p) (qd L p<|.lst<|qt<|lk.filter f)):y8 (qt lk) keep 1 g tc te τ L Q:=by
 refine bQ (λi zs=>zs=qt ((lk.take i).filter f)) (by rw[Ae];exact Bj hz (by decide)) o rfl ?_ ?_
 .rintro i y zs U rfl;rw[Aq] at U;obtain⟨I,j,rfl⟩:=AA.mp U;have l:lk.take (i+1)=lk.take i++[I]:=by rw[A4,j];rfl
  refine turn i I _ _ j (λh=>{L,ES _,rfl,?_}) λh=>{L,ES _,rfl,?_}
  .rw[l,BE,B3 h,BX,<-lA]
  .rw[l,BE,Cd (by rw[h];simp),BX,AB]
 .rintro zs rfl p C;rw[Ae,AY];exact t p C
structure Yj(ks:WN)(lk:Wp):Prop where
 nd:(ju lk).Nodup
 lt:∀p∈lk,p.1<p.2
 at_:∀p∈lk,∃t n,ks[p.1]?=some (.lf t n)/\ks[p.2]?=some (.lf (!t) n)
def kh(c:WB)(r:Wp):ju (c::r)=c.1::c.2::ju r:=by
 have e:ju (c::r)=[c.1,c.2]++ju r:=by rw[<-bW,<-kc];rfl
 rw[e];rfl
def dQ{l m:Wp}(h:l.Perm m):(ju l).Perm (ju m):=by
 induction h with
 |nil=>exact .nil
 |cons x _ I=>rw[kh,kh];exact(I.cons _).cons _
 |swap x y l=>
  rw[kh,kh,kh,kh];exact(Bq (l₁:=[y.1,y.2]) (l₂:=[x.1,x.2])).append_right (ju l)
 |trans _ _ h1 h2=>exact h1.trans h2
theorem aJ:∀{l:Wp},(ju l).Nodup->l.Nodup
 |[],_=>BU
 |c::r,h=>by rw[kh] at h;have h1:=AG.mp h;have h2:=AG.mp h1.2;exact AG.mpr {λI=>h1.1<|Al _ (fc I).1,aJ h2.2}
def UD{l:Wp}(nd:l.Nodup){x y:WB}(U:x∈l)(g:y∈l)(ne:x≠y):l.Perm (x::y::l.filter λz=>decide (z≠x)&&decide (z≠y)):=by
 refine(Cr nd ?_).mpr λz=>?_
 .refine AG.mpr {λh=>?_,AG.mpr {λh=>?_,nd.filter _}}
  .rcases Aw.mp h with h|h
   .exact ne h
   .simp at h
  .simp at h
 .by_cases I:z=x
  .subst I;simp[U]
  .by_cases J:z=y
   .subst J;simp[g]
   .simp[I,J]
def eM(a b:Nat):WB:=(min a b,max a b)
def zT(a b:Nat)(r:Wt):(min a b::max a b::r).Perm (a::b::r):=by
 by_cases c:a<=b
 .rw[B6 c,C5 c]
 .rw[C4 (by lia),Dj (by lia)];exact List.Perm.swap ..
def jf(t:Bool)(p:WB):WB:=if t=true then(p.2,p.1) else p
def l8(t:Bool)(p:WB)(r:Wt):((jf t p).1::(jf t p).2::r).Perm (p.1::p.2::r):=by cases t with|true=>exact List.Perm.swap ..|false=>exact .refl _
def Yj.Zo(I:Yj ks lk){x y:WB}(C:x∈lk)(T:y∈lk)(ne:x≠y){u:Bool}{n:Str}(x1:ks[x.1]?=some (.lf t n))(g:ks[x.2]?=some (.lf (!t) n))(j:ks[y.1]?=some (.lf u n))(l:ks[y.2]?=some (.lf (!u) n)):
 (ju<|(lk.filter λz=>decide (z≠x)&&decide (z≠y))++[eM (jf t x).1 (jf u y).2,eM (jf u y).1 (jf t x).2]).Perm (ju lk)/\
 Yj ks ((lk.filter λz=>decide (z≠x)&&decide (z≠y))++[eM (jf t x).1 (jf u y).2,eM (jf u y).1 (jf t x).2]):=by
 have pm:=dQ<|UD (aJ I.nd) C T ne;rw[kh,kh] at pm;generalize o:(lk.filter λz=>decide (z≠x)&&decide (z≠y))=rest at pm;have r:(ju<|rest++[eM (jf t x).1 (jf u y).2,eM (jf u y).1 (jf t x).2]).Perm (ju lk):=by rw[kc,kh,bW];refine Bq.trans<|List.Perm.trans ?_ pm.symm;refine(zT (jf t x).1 (jf u y).2 _).trans ?_;refine(((zT (jf u y).1 (jf t x).2<|ju rest).cons _).cons _).trans ?_;refine List.Perm.trans ?_<|l8 t x _;refine List.Perm.cons _ ?_;refine List.Perm.trans ?_<|(l8 u y _).cons _;refine(Bq (l₁:=[(jf u y).2,(jf u y).1]) (l₂:=[(jf t x).2])).append_right (ju rest) |>.trans ?_;exact(List.Perm.swap ..).cons _
 have J:ks[(jf t x).1]?=some (.lf false n)/\ks[(jf t x).2]?=some (.lf true n):=by cases t;exact{(x1),g};exact{(g),x1}
 have U:ks[(jf u y).1]?=some (.lf false n)/\ks[(jf u y).2]?=some (.lf true n):=by cases u;exact{(j),l};exact{(l),j}
 have two:∀a b,ks[a]?=some (.lf false n)->ks[b]?=some (.lf true n)->(eM a b).1<(eM a b).2/\∃t n,ks[(eM a b).1]?=some (.lf t n)/\ks[(eM a b).2]?=some (.lf (!t) n):=λa b ea eb=>by
  have a1:a≠b:=λh=>by subst h;rw[ea] at eb;cases eb
  unfold eM;by_cases c:a<b
  .rw[B6<|iT,C5 (by lia)];exact{(c),false,n,ea,eb}
  .rw[C4<|FE,Dj (by lia)];exact{by lia,true,n,eb,ea}
 refine{r,r.nodup_iff.mpr I.nd,λp h=>?_,λp h=>?_}
 .rcases Aj.mp h with h|h
  .rw[<-o] at h;exact I.lt p (Bu.mp h).1
  .rcases Aw.mp h with rfl|h
   .exact(two _ _ J.1 U.2).1
   .rw[Ad.mp h];exact(two _ _ U.1 J.2).1
 .rcases Aj.mp h with h|h
  .rw[<-o] at h;exact I.at_ p (Bu.mp h).1
  .rcases Aw.mp h with rfl|h
   .exact(two _ _ J.1 U.2).2
   .rw[Ad.mp h];exact(two _ _ U.1 J.2).2
def Yj.perm{l m:Wp}(I:Yj ks l)(p:m.Perm l):Yj ks m:={(dQ p).nodup_iff.mpr I.nd,λx J=>I.lt x<|p.mem_iff.mp J,λx J=>I.at_ x<|p.mem_iff.mp J}
inductive bv(ys:Z0)(L:qj)(Q:YK):Prop
 |mk:∀a l,∀ks:WN,∀lk:Wq,∀one two:Int,(ys=[.ref a,.ref l,.int one,.int two])->(L a=⇑(vz ks))->(L l=⇑(qt lk))->(Yj ks lk)->(lk≠[])->(lk.length<=125)->(ks.length<=1000)->(Q (.ref l) L)->(∀D lk',L D=none->Yj ks lk'->lk'.length=lk.length->(ju lk').Perm (ju lk)->lk'.Pairwise oo->Q (.ref D) (qd L D<|.lst<|qt lk'))->bv ys L Q
def i3(ks:WN)(p:Nat):Str:=match ks[p]? with
 |some (.lf _ n)=>n
 |_ => ""
def mo{p:Nat}{n:Str}(e:ks[p]?=some (.lf t n)):i3 ks p=n:=by unfold i3;rw[e]
def J4{l:Wp}{x:WB}(h:l[i]?=some x):(qt l)[i]?=some (jM x):=by rw[Aq,h];rfl
def UE:ai:=(zv (jw (d_ 1 (aK<|qh 1) (qk 12) (mJ (u_ (qh 12)<|qh 4)<|u_ (qh 12)<|qh 6)<|qh 12)<|qk 11)
 (bP<|oN hZ<|qp (ky gU (qh 11)<|cV<|qp (bC<|qp (oN FK<|eY (qh 7)<|qh 10)<|qp (oN A_<|eY (qh 7)<|qh 10) jc)<|qp (bC<|qp (oN FK<|eY (qh 9)<|qh 8)<|qp (oN A_<|eY (qh 9)<|qh 8) jc) jc) jc))
def UF{I:Wp}{A B C D:Nat}{p:Addr}{Q:YK}(h:L p=⇑(qt I))(hz:I.length<=125)(nd:(I++[eM A D,eM C B]).Nodup)(r:∀p∈I++[eM A D,eM C B],p.2<1000000)
 (q:∀L' J qs,qf L L'->L' J=none->qs.Perm (I++[eM A D,eM C B])->qs.Pairwise oo->Q (.ref J) (qd L' J<|.lst<|qt qs)):
 ∀p2,L p2=none->gU (.ref p) (.ref p2) (qd L p2<|.lst [Y.tup [.int<|min (A:Int) (D:Int),.int<|max (A:Int) (D:Int)],Y.tup [.int<|min (C:Int) (B:Int),.int<|max (C:Int) (B:Int)]]) λy L'=>hZ [y] L' Q:=by
 have big:=a_;intro p2 g;have l:∀a b:Nat,(Y.tup [.int<|min (a:Int) (b:Int),.int<|max (a:Int) (b:Int)])=jM (eM a b):=λa b=>by
  have t:min (a:Int) (b:Int)=((min a b:Nat):Int):=by omega
  have T:max (a:Int) (b:Int)=((max a b:Nat):Int):=by omega
  unfold jM eM;rw[t,T]
 rw[l,l];have j:=By (o:=.lst [jM<|eM A D,jM<|eM C B]) g;refine{_,_,j _ _ h,q9,?_,λp3 U=>?_}
 .rw[Ae];exact Bo (big _ (by show _+2<=_;lia))
 generalize qd L p2 (.lst [jM<|eM A D,jM<|eM C B])=L1 at j U ⊢;rw[show qt I++[jM<|eM A D,jM<|eM C B]=qt (I++[eM A D,eM C B]) by unfold qt;rw[AC];rfl];exact uT (ps:=I++[eM A D,eM C B]) q9 r nd (by rw[Ab];show I.length+2<=_;lia) λJ qs hD pm pw=>q _ J qs (j.trans<|By U) hD pm pw
def eG{j:vd}{o J r t:WM}{x y:WB}{A B C D:Nat}(T:L l=⇑(qt lk))(hz:lk.length<=125)
 (nd:((lk.filter λz=>decide (z≠x)&&decide (z≠y))++[eM A D,eM C B]).Nodup) (hb:∀p∈(lk.filter λz=>decide (z≠x)&&decide (z≠y))++[eM A D,eM C B],p.2<1000000)
 (q:∀L' U qs,qf L L'->L' U=none->qs.Perm ((lk.filter λz=>decide (z≠x)&&decide (z≠y))++[eM A D,eM C B])->qs.Pairwise oo->j.rt (.ref U) (qd L' U<|.lst<|qt qs)):
 UE j [o,some<|.ref l,J,r,some<|jM x,t,some<|jM y,some<|.int (A:Int),some<|.int (B:Int),some<|.int (C:Int),some<|.int (D:Int),none] L:=by
 refine j7 T λkeep kp=>yw (f:=λz=>decide (z≠x)&&decide (z≠y)) (fu) (kp _ rfl) (λi I R zs ep hy g=>?_) λp hp=>?_
 .refine{rfl,rfl,1,1,mF I,mF x,by decide,jU I,jU x,?_};rw[rQ];by_cases c:I=x
  .refine jv (by rw[Az c];rfl) (g (by rw[Ao (by simpa using c)];rfl))
  .refine xq (by rw[Ao c];rfl) ?_;refine{rfl,rfl,1,1,mF I,mF y,by decide,jU I,jU y,?_};rw[rQ];by_cases J:I=y
   .refine jv (by rw[Az J];rfl)<|g (by rw[Ao (by simpa using J:¬I≠y),DR])
   .refine xq (by rw[Ao J];rfl) (hy (by rw[Az c,Az J];rfl))
 exact UF q9 (AK (Cu ..) hz) nd hb λL' U qs sl=>q L' U qs<|(By hp).trans sl
def xH:ZY bv ft.1 12:=by
 rintro ys L Q ⟨a,l,J,lk,one,two,rfl,ha,hl,I,ne,hz,hn,q0,q⟩;have a1:=Df.mpr ne;obtain⟨j1,x,e1,h1,ex⟩:=kG a1 one;have pl:(qt lk).length=lk.length:=Ae ..;have mx:=Au ex;obtain⟨t,n,x1,x2⟩:=I.at_ x mx;refine qc hl {by rw[pl];lia,qc hl (ql (by rw[pl,e1];exact w5 (J4 ex):iV (qt lk) (one % ((qt lk).length:Int))=some (jM x)) ?_)};refine j7 hl λkeep kp=>yw (f:=λz=>decide (z≠x)&&decide (i3 J z.1=i3 J x.1)) (fu) (kp _ rfl) (λi pr R zs ep hy a2=>?_) λp hp=>?_
 .obtain⟨t2,n2,p1,p2⟩:=I.at_ pr<|Au ep;refine{rfl,rfl,1,1,mF pr,mF x,by decide,jU pr,jU x,?_};rw[rQ];by_cases c:pr=x
  .refine jv (by rw[Az c];rfl) (a2 (by rw[Ao (by simpa using c)];rfl))
  .refine xq (by rw[Ao c];rfl) ?_;refine qc ha<|ql (ww p1) ?_;refine qc ha<|ql (ww x1) ?_;have en:(decide<|i3 J pr.1=i3 J x.1)=decide (n2=n):=by rw[mo p1,mo x1]
   refine zu (λh=>hy ?_) λh=>a2 ?_
   .rw[en,Az h,Az c];rfl
   .rw[en,Ao h,DR]
 have s1:qf L (qd L p<|.lst<|qt<|lk.filter λz=>decide (z≠x)&&decide (i3 J z.1=i3 J x.1)):=By hp;have g1:qd L p (.lst<|qt<|lk.filter λz=>decide (z≠x)&&decide (i3 J z.1=i3 J x.1)) p=⇑(qt<|lk.filter λz=>decide (z≠x)&&decide (i3 J z.1=i3 J x.1)):=q9;obtain⟨mt,a3⟩:∃mt,mt=lk.filter λz=>decide (z≠x)&&decide (i3 J z.1=i3 J x.1):={_,rfl};rw[<-a3] at s1 g1 ⊢;generalize qd L p (.lst<|qt mt)=L1 at s1 g1 ⊢;intro p2 r;refine wq (n:=1) (m:=0) (by decide) (By r _ _ g1) q9 (vI mt) (.nil:Paired (jo _ 0) _ []) ?_;have s2:qf L (qd L1 p2<|.lst []):=s1.trans<|By r;have g2:qd L1 p2 (.lst []) p=⇑(qt mt):=By r _ _ g1;generalize qd L1 p2 (.lst [])=L2 at s2 g2 ⊢;show ao (Da.eqs (mt.map mF) []) _ _;rw[UC];by_cases cm:mt=[]
 .refine xq (by rw[Az cm]) ?_;exact{(L),s2,q0}
 refine jv (by rw[Ao cm]) ?_;obtain⟨j2,y,e2,h2,ey⟩:=kG (Df.mpr cm) two;have pm:(qt mt).length=mt.length:=Ae ..;have my:=Au ey;rw[a3] at my;obtain⟨my,cy⟩:=Bu.mp my;rw[A7,Cq,Cq] at cy;obtain⟨u,n',y1,y2⟩:=I.at_ y my;have a4:n'=n:=by rw[<-mo y1,<-mo x1];exact cy.2
 subst a4;have U:=s2 _ _ hl;have C:=s2 _ _ ha;refine qc g2 {by rw[pm];have:=Df.mpr cm;lia,qc g2 (ql (by rw[pm,e2];exact w5 (J4 ey):iV (qt mt) (two % ((qt mt).length:Int))=some (jM y)) ?_)};obtain⟨cp,cI⟩:=I.Zo mx my (AE cy.1) x1 x2 y1 y2;have tail:∀L' T qs,qf L2 L'->L' T=none->qs.Perm ((lk.filter λz=>decide (z≠x)&&decide (z≠y))++[eM (jf t x).1 (jf u y).2,eM (jf u y).1 (jf t x).2])->qs.Pairwise oo->gW Q (.ref T) (qd L' T<|.lst<|qt qs):=λL' T qs sl hD pq pw=>by
  have a5:=s2.none<|sl.none hD;refine{qd L T<|.lst<|qt qs,λb o e=>?_,q T qs a5 (cI.perm pq) ?_ ((dQ pq).trans cp) pw}
  .by_cases c:b=T
   .subst c;rw[q9] at e ⊢;exact e
   .rw[qb c] at e ⊢;exact sl _ _<|s2 _ _ e
  .have l1:=cp.length_eq;rw[wc,wc] at l1;rw[pq.length_eq];lia
 have g:=aJ cI.nd;have j:∀p∈(lk.filter λz=>decide (z≠x)&&decide (z≠y))++[eM (jf t x).1 (jf u y).2,eM (jf u y).1 (jf t x).2],p.2<1000000:=λp hp=>by obtain⟨_,_,_,h⟩:=cI.at_ p hp;have:=zd h;lia
 refine qc C<|ql (ww x1) ?_;cases t with
 |false=>
  refine qc C<|ql (ww y1) ?_;cases u with|false=>exact eG U hz g j tail|true=>exact eG U hz g j tail
 |true=>
  refine qc C<|ql (ww y1) ?_;cases u with|false=>exact eG U hz g j tail|true=>exact eG U hz g j tail
def iA(l:km)(g:km)(j:km)(I:km)(J:km)(U:km):RD "_law_web" pJ 129 ["_law_script","_law_seed","_law_room","_law_most","_law_bits","_law_gaps","_law_knots","_law_rule","_law_links","_law_cuts","_law_k"] (λV=>Gm V l/\Jr V g/\Js V j/\Jt V I/\Ju V J/\Jv V U):={_,λV B c _ _ _ _ _ _ _ o hN p=>(qa (S_ 4 hN<|C_ c.1 o<|cG (qv 1) qg qg)<|qa (S_ 5 hN<|dq (qU _ _ _ p) (qr x9 (qv 4) qg) qg<|xc _)<|vi (zy (ko<|qv 5) (qe<|S_ 2 hN<|x5 zS rfl B.bh rL<|ve (qv 2) qg) zb)<|qa (fW (C_ c.2.1 o<|cG (qv 0) (qv 1)<|qv 2)<|kn (n:=2) rfl<|z0 (G_ 6 hN)<|z0 (G_ 7 hN) xb)<|qa (fW (C_ c.2.2.1 o<|x6<|qv 7)<|kn (n:=2) rfl<|z0 (G_ 8 hN)<|z0 (G_ 9 hN) xb)<|qa (vf wh rfl (af rfl B.be<|x6<|qr x9 (qr wx (qv 4) qg) qg) (G_ 10 hN)<|qe<|S_ 8 hN<|C_ c.2.2.2.1 o<|xx (qv 6)<|cG (qv 8) (C_ c.1 o<|cG (qv 1) (qr jm qg<|qv 10) qg)<|C_ c.1 o<|cG (qv 1) (qr jm qg<|qv 10) qg)<|vi (zy (E_ p (qr x9 (qr wx (qv 4) qg) qg) qg) (qe<|S_ 6 hN<|C_ c.2.2.2.2.1 o<|xx (qv 6)<|cG (qv 9) (qv 1)<|qv 3) zb)<|qe<|za<|C_ c.2.2.2.2.2 o<|xx (qv 6)<|xx (qv 8)<|cG (qv 9) (qv 1)<|qv 5)}
theorem dT:∀R:Ru,mZ R+1<=(zq R).length
 |.link _ _=>An _
 |.ei r A=>by have:=dT A;show mZ A+1+1<=(r::zq A).length;rw[AD];exact Fz
 |.bo r A B=>by have:=dT A;have:=dT B;show mZ A+mZ B+1+1<=(r::(zq A++zq B)).length;rw[AD,Ab];lia
 |.cu _ _ A B=>by have:=dT A;have:=dT B;show mZ A+mZ B+1+1<=(zq A++zq B).length;rw[Ab];lia
theorem wn:∀R:Ru,∃rest,(ju (zr R)++rest).Perm<|zq R
 |.link p q=>{[],.refl _}
 |.ei r A=>by obtain⟨u,h⟩:=wn A;exact{r::u,Cm.trans<|h.cons r}
 |.bo r A B=>by obtain⟨u,h⟩:=wn A;obtain⟨v,k⟩:=wn B;refine{r::(u++v),?_};show(ju (zr A++zr B)++r::(u++v)).Perm (r::(zq A++zq B));rw[kc];refine Cm.trans<|List.Perm.cons r ?_;refine List.Perm.trans ?_<|h.append k;rw[Ay,Ay];refine DE _ ?_;rw[<-Ay,<-Ay];exact Dz _ Bq
 |.cu p q A B=>by obtain⟨u,h⟩:=wn A;obtain⟨v,k⟩:=wn B;refine{u++v,?_};show(ju (zr A++zr B)++(u++v)).Perm (zq A++zq B);rw[kc];refine List.Perm.trans ?_<|h.append k;rw[Ay,Ay];refine DE _ ?_;rw[<-Ay,<-Ay];exact Dz _ Bq
def SR.links{E:Wt}(h:SR ks R E):∀p∈zr R,p.1<p.2/\∃t n,ks[p.1]?=some (.lf t n)/\ks[p.2]?=some (.lf (!t) n):=by induction h with|@link p q t n E h1 h2 h3 j l=>intro x U;rw[Ad.mp U];exact{(h1),t,n,h2,h3}|ei _ _ _ _ _ _ _ g=>exact g|bo _ _ _ _ _ _ _ I J=>intro x U;exact(Aj.mp U).elim (I x) (J x)|cu _ _ _ _ _ _ _ _ I J=>intro x U;exact(Aj.mp U).elim (I x) (J x)
def SR.ZV{E:Wt}(h:SR ks R E)(nd:(zq R).Nodup):Yj ks (zr R):=by obtain⟨u,J⟩:=wn R;exact{(AL.mp<|J.nodup_iff.mpr nd).1,λp I=>(h.links p I).1,λp I=>(h.links p I).2}
def SR.ZG{E:Wt}(h:SR ks R E):(zq R).Nodup->(ju<|jg R).Nodup/\(∀x∈ju (jg R),x∉E/\x∈zq R):=by
 induction h with
 |link _ _ _ _ _=>exactλ_=>{BU,λx I=>by cases I}
 |@ei r i j A EA E h1 h2 h3 h4 h5 t h7 ih=>
  intro nd;obtain⟨n1,n2⟩:=AG.mp<|show(r::zq A).Nodup from nd;obtain⟨a,b⟩:=ih n2;refine{a,λx I=>{λJ=>?_,Al _ (b x I).2}};rcases (t x).mp J with⟨z,_⟩|rfl
  .exact(b x I).1 z
  .exact n1 (b x I).2
 |@bo r i j A B EA EB E h1 h2 h3 h4 h5 t h7 l o=>
  intro nd;obtain⟨n1,n2⟩:=AG.mp<|show(r::(zq A++zq B)).Nodup from nd;obtain⟨m1,m2,U⟩:=AL.mp n2;obtain⟨a1,b1⟩:=l m1;obtain⟨a2,b2⟩:=o m2;have sA:=h2.sub;have C:=h3.sub;show(ju<|jg A++jg B).Nodup/\∀x∈ju (jg A++jg B),x∉E/\x∈r::(zq A++zq B);rw[kc];refine{AL.mpr {a1,a2,λx I y hy=>U x (b1 x I).2 y (b2 y hy).2},λx I=>?_};rcases Aj.mp I with I|I
  .refine{λJ=>?_,Al _<|Am _ (b1 x I).2};rcases (t x).mp J with⟨z,_⟩|⟨z,_⟩|rfl
   .exact(b1 x I).1 z
   .exact U x (b1 x I).2 x (C x z) rfl
   .exact n1<|Am _ (b1 _ I).2
  .refine{λJ=>?_,Al _<|Ah _ (b2 x I).2};rcases (t x).mp J with⟨z,_⟩|⟨z,_⟩|rfl
   .exact U x (sA x z) x (b2 x I).2 rfl
   .exact(b2 x I).1 z
   .exact n1<|Ah _ (b2 _ I).2
 |@cu p q A B EA EB E w h1 h2 h3 h4 h5 t h7 h8 l o=>
  intro nd;obtain⟨m1,m2,U⟩:=AL.mp<|show(zq A++zq B).Nodup from nd;obtain⟨a1,b1⟩:=l m1;obtain⟨a2,b2⟩:=o m2;have sA:=h1.sub;have C:=h2.sub;show(ju<|(p,q)::(jg A++jg B)).Nodup/\∀x∈ju ((p,q)::(jg A++jg B)),x∉E/\x∈zq A++zq B;rw[kh,kc];have tp:=sA p h3;have tq:=C q h4;have a3:p≠q:=λe=>U p tp q tq e;have T:∀x,x∈ju (jg A)++ju (jg B)->x≠p/\x≠q:=λx I=>by
   rcases Aj.mp I with I|I
   .exact{λe=>(b1 x I).1<|e▸h3,λe=>U x (b1 x I).2 q tq e}
   .exact{λe=>U p tp x (b2 x I).2 e.symm,λe=>(b2 x I).1<|e▸h4}
  refine{AG.mpr {λh=>?_,AG.mpr {λh=>(T q h).2 rfl,AL.mpr {a1,a2,λx I y hy=>U x (b1 x I).2 y (b2 y hy).2}}},λx I=>?_}
  .rcases Aw.mp h with h|h
   .exact a3 h
   .exact(T p h).1 rfl
  .have g:=(h7 x).mp;rcases Aw.mp I with rfl|I
   .exact{λJ=>(g J).elim (λz=>z.2 rfl) λz=>U x tp x (C x z.1) rfl,Am _ tp}
   .rcases Aw.mp I with rfl|I
    .exact{λJ=>(g J).elim (λz=>U x (sA x z.1) x tq rfl) λz=>z.2 rfl,Ah _ tq}
    .rcases Aj.mp I with I|I
     .exact{λJ=>(g J).elim (λz=>(b1 x I).1 z.1) λz=>U x (b1 x I).2 x (C x z.1) rfl,Am _ (b1 x I).2}
     .exact{λJ=>(g J).elim (λz=>U x (sA x z.1) x (b2 x I).2 rfl) λz=>(b2 x I).1 z.1,Ah _ (b2 x I).2}
structure Zb(wd:List<|WO)(lk' ct':Wp):Prop where
 ex:∃(ks:WN) (R:Ru) (E:Wt) (lk ct:Wp) (out:List<|WO) (f:WA),bA ks/\SR ks R E/\(zq R).Perm (List.range ks.length)/\ks.length<=120/\
  Yj ks lk/\(ju lk).Perm (ju<|zr R)/\ct.Perm (jg R)/\(out=ks.map some\/∃qs,pP ks ct qs []/\fZ ks qs ks.length out)/\Zg f out wd/\lk'.Perm (lk.map<|YS f)/\lk'.Pairwise oo/\ct'.Perm (ct.map<|Za f)/\ct'.Pairwise oo
def fZ.ZH(ok:bA ks)(T:fZ ks qs ks.length out):X6 out:=by
 intro p e i j h;have J:p<ks.length:=by have:=zd h;rw[T.len] at this;exact this
 cases I:ks[p]? with
 |none=>rw[Ai J] at I;cases I
 |some k=>
  cases k with
  |lf t n=>
   have:=T.lf p t n J I;rw[h] at this;cases this
  |nd U g l=>
   have lt:=ok p _ I;rcases T.nd p U g l J I with⟨z,_⟩|⟨o,z⟩
   .rw[h] at z;cases z
   .rw[h] at z;cases z;exact lt
def UG(ok:bA ks):X6 (ks.map some):=by intro p e i j h;rw[Aq] at h;obtain⟨k,I,J⟩:=AA.mp h;cases J;exact ok p _ I
def UH(ks:WN):dY (ks.map some)=vz ks:=by show(ks.map some).map fj=ks.map uR;rw[BW];rfl
def uo(ks:WN):∀l:Wq,2*l.length<=cr (cL ks) l:=λl=>by have:=i5 ks<|ju l;rw[bF,wc] at this;exact this
def UI{f:WA}{l m:Wp}(h:l.Perm m):cr f l=cr f m:=by rw[<-bF,<-bF];exact((dQ h).map f).sum_nat
inductive sM(Pt:Addr)(ys:Z0)(L:qj)(Q:YK):Prop
 |mk:∀cy,∀ns:Wx,∀s m:Int,∀room:Nat,(ys=[cy,.int s,.int (room:Int),.int m])->(cy=.sq (ns.map Y.int))->(ns.length<=1000)->(room<=120)->(L Pt=some (.tb Xh))->(∀wa la ca wd lk ct L',Zb wd lk ct->qf L L'->L wa=none->L la=none->L ca=none->wa≠la->wa≠ca->la≠ca->L' wa=⇑(dY wd)->L' la=⇑(qt lk)->L' ca=⇑(qt ct)->Q (e9 wa la ca) L')->sM Pt ys L Q
structure UJ(room:Nat)(m:Int)(wd:List<|WO):Prop where
 ex:∃(ks:WN) (R:Ru) (E:Wt) (out:List<|WO) (f:WA),SR ks R E/\(zq R).Perm (List.range ks.length)/\ks.length<=max room 2/\out.length=ks.length/\(cE out:Int)<=max (cK ks:Int) m/\Zg f out wd
inductive zM(Pt:Addr)(ys:Z0)(L:qj)(Q:YK):Prop
 |mk:∀cy,∀ns:Wx,∀s m:Int,∀room:Nat,(ys=[cy,.int s,.int (room:Int),.int m])->(cy=.sq (ns.map Y.int))->(ns.length<=1000)->(room<=120)->(L Pt=some (.tb Xh))->(∀wa la ca wd lk ct L',Zb wd lk ct->UJ room m wd->qf L L'->L wa=none->L la=none->L ca=none->wa≠la->wa≠ca->la≠ca->L' wa=⇑(dY wd)->L' la=⇑(qt lk)->L' ca=⇑(qt ct)->Q (e9 wa la ca) L')->zM Pt ys L Q
def gm(ks:List<|WO)(p:Nat):Bool:=match ks[p]? with
 |some k=>fN k
 |none=>false
def J5{ks:List<|WO}{p:Nat}{k:Kn}(h:ks[p]?=some (some k)):gm ks p=true:=by unfold gm;rw[h];rfl
def dh{ks:List<|WO}{p:Nat}(h:gm ks p=true):p<ks.length:=by
 unfold gm at h;split at h
 .rename_i k e;exact zd e
 .cases h
def aF{ks:List<|WO}{p:Nat}:gm ks p=true↔p∈qu ks:=by
 constructor
 .intro h;exact Bu.mpr {A9.mpr<|dh h,h}
 .intro h;exact(Bu.mp h).2
def Hl(ks:List<|WO)(ps:Wp):Prop:=∀x∈ps,gm ks x.1=true/\gm ks x.2=true
def UK(hs:Wt):tW λa b=>a=b\/v_ hs a b:={λa=>.inl rfl,λh=>h.elim (λe=>.inl e.symm) λ⟨r,p,q⟩=>.inr {(r),q,p},λ{a b c} h k=>by
 rcases h with rfl|⟨r,p,q⟩
 .exact k
 .rcases k with rfl|⟨s,I,J⟩
  .exact .inr {(r),p,q}
  .exact .inr {r,p,by rw[q.uniq I];exact J}}
def UL :ZY (zM Pt) (iA cY jE iM bv cj<|dW Pt).1 11:=by
 rintro ys L Q ⟨cy,ns,s,m,room,rfl,be,bf,a5,hP,q⟩;refine{s,5,16807,rfl,by decide,by decide,by decide,by decide,λv h0 h1=>?_};refine{show(0:Int)<4 by decide,?_};refine{λa1 g=>∃J:Nat,(J<=120/\J<=room)/\a1=[some cy,some<|.int s,some<|.int (J:Int),some<|.int m,some<|.int v,some<|.bl<|decide<|v % 4=1,none,none,none,none,none]/\g=L,?_,?_}
 .refine zu (λh=>?_) λh=>?_
  .refine{min room 57,{by lia,by lia},?_,rfl};have e:min (room:Int) 57=((min room 57:Nat):Int):=by lia
   rw[<-e,Az h];rfl
  .exact{room,{a5,An _},by rw[Ao h];rfl,rfl}
 rintro a1 g ⟨J,⟨hr,c8⟩,rfl,rfl⟩;refine{cy,ns,s,J,rfl,be,bf,hr,λj I R E bg ok o tp kl=>?_};have ac:I.length<=120:=by lia
 have tl:(zq R).length=I.length:=by rw[tp.length_eq,Bh]
 have tn:=tp.nodup_iff.mpr CI;have al:∀x∈zq R,x<I.length:=λx hx=>A9.mp<|tp.mem_iff.mp hx;have LI:=o.ZV tn;obtain⟨cn,av⟩:=o.ZG tn;have c9:=o.weight ok;have cb:cr (cL I) (jg R)<=120:=by lia
 have cl:=uo I<|jg R;have aL:∀x∈jg R,x.1<I.length/\x.2<I.length:=λx hx=>{al _ (av _ (fc hx).1).2,al _ (av _ (fc hx).2).2};have ll:2*(zr R).length<=I.length:=by obtain⟨u,hu⟩:=wn R;have:=hu.length_eq;rw[Ab,wc] at this;lia
 have bh:∀x∈zr R,x.1<I.length/\x.2<I.length:=λx hx=>by obtain⟨_,t,n,a,b⟩:=o.links x hx;exact{zd a,zd b}
 have bi:zr R≠[]:=by
  have:∀R:Ru,1<=(zr R).length:=λR=>by induction R with|link p q=>exact An _|ei r A ih=>exact ih|bo r A B ih _=>show 1<=(zr A++zr B).length;rw[Ab];exact GS|cu p q A B ih _=>show 1<=(zr A++zr B).length;rw[Ab];lia
  intro e;have:=this R;rw[e] at this;simp at this
 have s1:qf g (qd g j<|.lst<|vz I):=By bg;have rd:=a7 R;have rz:=dT R;refine{R,rfl,by lia,by lia,aJ LI.nd,aJ cn,λp hp=>by have:=(bh p hp).2;lia,λp hp=>by have:=(aL p hp).2;lia,by lia,by lia,λla C lk ct ba bb bc pl cc pc ck=>?_};have bj:=vh q9 ba;have bn:=vh q9 bb;have bd:(qd (qd g j<|.lst<|vz I) la<|.lst<|qt lk) C=none:=(qb<|AE bc).trans bb;have s2:qf g (qd (qd (qd g j<|.lst<|vz I) la<|.lst<|qt lk) C<|.lst<|qt ct):=(s1.trans<|By ba).trans<|By bd;have g1:qd (qd (qd g j<|.lst<|vz I) la<|.lst<|qt lk) C (.lst<|qt ct) j=⇑(vz I):=(qb bn).trans<|(qb bj).trans q9;have g2:qd (qd (qd g j<|.lst<|vz I) la<|.lst<|qt lk) C (.lst<|qt ct) la=⇑(qt lk):=(qb bc).trans q9;have g3:qd (qd (qd g j<|.lst<|vz I) la<|.lst<|qt lk) C (.lst<|qt ct) C=⇑(qt ct):=q9;generalize qd (qd (qd g j<|.lst<|vz I) la<|.lst<|qt lk) C (.lst<|qt ct)=L1 at s2 g1 g2 g3 ⊢;have XE:∃r:Nat,v / 4 % 3=(r:Int)/\r<3:={(v / 4 % 3).toNat,by lia,by lia};obtain⟨r,er,cm⟩:=XE;have a3:∀l2:Wq,(ju l2).Perm (ju<|zr R)->l2.length=(zr R).length:=λl2 p=>by have:=p.length_eq;rw[wc,wc] at this;lia
 refine{{by decide,by decide},show(0:Int)<3 by decide,{by lia,by lia},?_};refine r9 (λi τ L2=>∃l yg a2,τ=[some cy,some<|.int s,some<|.int (J:Int),some<|.int m,some<|.int v,some<|.bl<|decide<|v % 4=1,some<|.ref j,some<|jp R,some<|.ref l,some<|.ref C,a2]/\qf g L2/\L2 j=⇑(vz I)/\L2 l=⇑(qt yg)/\L2 C=⇑(qt ct)/\Yj I yg/\(ju yg).Perm (ju<|zr R)) {la,lk,_,rfl,s2,g1,g2,g3,LI.perm pl,dQ pl} ?_ ?_
 .rintro i τ L2 hi ⟨l,yg,a2,rfl,s3,k1,k2,k3,I2,p2⟩;have l2:=a3 yg p2;refine{s,11+(0+(i:Int)),16807,rfl,A1 _,by omega,by decide,by decide,λv1 _ _=>?_};refine{s,17+(0+(i:Int)),40692,rfl,A1 _,by omega,by decide,by decide,λv2 _ _=>?_};refine{j,l,I,yg,v1,v2,rfl,k1,k2,I2,λe=>?_,by lia,fu,?_,λD Zy hD I3 l3 p3 cv=>?_}
  .rw[e] at l2;exact bi<|BQ l2.symm
  .exact{_,ES _,l,yg,_,rfl,s3,k1,k2,k3,I2,p2}
  .have bp:=vh k1 hD;have bq:=vh k3 hD;exact{_,ES _,D,Zy,_,rfl,s3.trans<|By hD,(qb bp).trans k1,q9,(qb bq).trans k3,I3,p3.trans p2}
 rintro τ L2 ⟨l,yg,a2,rfl,s3,k1,k2,k3,I2,p2⟩;have l2:=a3 yg p2;have lc:=pc.length_eq;have a4:∀x∈ct,x.1<I.length/\x.2<I.length:=λx hx=>aL x<|pc.mem_iff.mp hx;refine{λa1 L3=>∃kb U,a1=[some cy,some<|.int s,some<|.int (J:Int),some<|.int m,some<|.int v,some<|.bl<|decide<|v % 4=1,some<|.ref kb,some<|jp R,some<|.ref l,some<|.ref C,a2]/\qf g L3/\L3 kb=⇑(dY U)/\L3 l=⇑(qt yg)/\L3 C=⇑(qt ct)/\(U=I.map some\/∃qs,pP I ct qs []/\fZ I qs I.length U)/\(cE U:Int)<=max (cK I:Int) m,?_,?_}
 .refine{{by decide,by decide},show(0:Int)<2 by decide,?_};refine zu (λh=>?_) λh=>?_
  .refine{j,C,I,ct,s,m,rfl,k1,k3,ok,a4,by rw[UI pc];exact fu,fu,λD qs U hD B T M=>?_};exact{D,U,rfl,s3.trans<|By hD,q9,(qb<|vh k2 hD).trans k2,(qb<|vh k3 hD).trans k3,.inr {(qs),B,T},M}
  .exact{j,I.map some,rfl,s3,by rw[UH];exact k1,k2,k3,.inl rfl,by show(cK I:Int)<=_;omega}
 rintro a1 L3 ⟨kb,U,rfl,s4,j1,j2,j3,ho,hM⟩;have ZH:X6 U:=by
  rcases ho with rfl|⟨qs,B,T⟩
  .exact UG ok
  .exact T.ZH ok
 have lo:U.length=I.length:=by
  rcases ho with rfl|⟨qs,B,T⟩
  .exact Ae ..
  .exact T.len
 refine{kb,l,C,U,yg,ct,s,_,rfl,j1,j2,j3,ZH,by lia,s4 _ _ hP,aJ I2.nd,λp hp=>{I2.lt p hp,?_},by lia,pc.nodup_iff.mpr<|aJ cn,λp hp=>by rw[lo];exact a4 p hp,by lia,λf wd c0 c1 wa c2 c3 L4 rn c4 c5 c6 c7 sl nw nl nc n1 n2 n3 e1 e2 e3=>?_}
 .obtain⟨_,_,_,h⟩:=I2.at_ p hp;rw[lo];exact zd h
 .exact k8<|q wa c2 c3 wd c0 c1 L4 {(I),R,E,yg,ct,U,f,ok,o,tp,ac,I2,p2,pc,ho,rn,c4,c5,c6,c7} {I,R,E,U,f,o,tp,by lia,lo,hM,rn} (s4.trans sl) (s4.none nw) (s4.none nl) (s4.none nc) n1 n2 n3 e1 e2 e3
def UM :ZY (sM Pt) (iA cY jE iM bv cj<|dW Pt).1 11:=by rintro ys L Q ⟨I,J,s,m,room,h1,h2,h3,U,g,q⟩;exact UL ys L Q {I,J,s,m,room,h1,h2,h3,U,g,λj l o p lk r t W _=>q j l o p lk r t W}
def fZ.inv(T:fZ ks qs ks.length out){p:Nat}{e:Bool}(h:out[p]?=some (some<|.nd e i j)):∃I,ks[p]?=some (.nd I i j):=by
 have U:p<ks.length:=by have:=zd h;rw[T.len] at this;exact this
 cases J:ks[p]? with
 |none=>rw[Ai U] at J;cases J
 |some k=>
  cases k with
  |lf t n=>
   have:=T.lf p t n U J;rw[h] at this;cases this
  |nd I g l=>
   rcases T.nd p I g l U J with⟨z,_⟩|⟨o,z⟩
   .rw[h] at z;cases z
   .rw[h] at z;cases z;exact{(I),rfl}
def Zg.inv{f:WA}(r:Zg f out wd){x:Nat}{k:Kn}(h:wd[x]?=some (some k)):∃p,p<out.length/\x=f p/\∃o,out[p]?=some o/\qA f o=some k:=by obtain⟨p,I,e⟩:=r.gap.only x k h;have I:=A9.mp I;have:=r.gap.at_ p (A9.mpr I) _<|Ai I;rw[<-e,h] at this;exact{p,I,e,_,Ai I,(AJ this).symm}
def SR.ZI{E:Wt}(h:SR ks R E):∀c∈jg R,∃w,fC ks c.1 w/\fC ks c.2 w.turn:=by
 induction h with
 |link _ _ _ _ _=>intro c g;cases g
 |ei _ _ _ _ _ _ _ j=>exact j
 |bo _ _ _ _ _ _ _ I J=>intro x U;exact(Aj.mp U).elim (I x) (J x)
 |@cu p q A B r t E w h1 h2 h3 C l o T h8 I J=>
  intro x U;rcases Aw.mp U with rfl|U
  .exact{(w),l,o}
  .exact(Aj.mp U).elim (I x) (J x)
def l6:RD "_law_copy" lw 0 ["_law_web_here"] (λ_=>True):={_,λV B c _ _ _ _ _ _ _ I hN J=>(qe<|za<|zg<|cG (gB iL rfl B.bb az<|x6<|J_ 0) (gB iL rfl B.bb az<|x6<|J_ 0)<|gB iL rfl B.bb az<|x6<|J_ 0)}
inductive m8(ys:Z0)(L:qj)(Q:YK):Prop
 |mk:∀a l c,∀xs zs us:Z0,(ys=[e9 a l c])->(L a=⇑xs)->(L l=⇑zs)->(L c=⇑us)->(∀a' l' c' L',qf L L'->L a'=none->L l'=none->L c'=none->a'≠l'->a'≠c'->l'≠c'->L' a'=⇑xs->L' l'=⇑zs->L' c'=⇑us->Q (e9 a' l' c') L')->m8 ys L Q
def UN:ZY m8 l6.1 1:=by rintro ys L Q ⟨a,l,c,p,r,us,rfl,t,C,T,q⟩;refine qc t λp1 h1=>?_;have g:=By (o:=.lst p) h1;refine qc (g _ _ C) λp2 h2=>?_;have j:=g.trans<|By (o:=.lst r) h2;refine qc (j _ _ T) λp3 h3=>?_;have I:=vh q9 h2;have J:=vh q9 h3;have U:=vh ((qb I).trans q9) h3;exact k8<|q p1 p2 p3 _ (j.trans<|By h3) h1 (g.none h2) (j.none h3) I U J ((qb U).trans<|(qb I).trans q9) ((qb J).trans q9) q9
def dy{xs:Z0}(h:∀x∈xs,dO L n x x):Paired (dO L n) xs xs:=by induction xs with|nil=>exact .nil|cons x r I=>exact .cons (h x<|As ..)<|I λy J=>h y<|Al _ J
def UO(l:Wt):Paired (dO L<|n+1) (nY l) (nY l):=dy λx I=>by obtain⟨m,_,rfl⟩:=Ba.mp I;exact .flat rfl
def vJ(l:Wp):Paired (dO L<|n+2) (qt l) (qt l):=dy λx I=>by obtain⟨m,_,rfl⟩:=Ba.mp I;exact .inr<|.inl {_,_,rfl,rfl,.cons (.flat rfl)<|.cons (.flat rfl) .nil}
def UP(l:List<|WO):Paired (dO L<|n+2) (dY l) (dY l):=dy λx I=>by
 obtain⟨m,_,rfl⟩:=Ba.mp I;cases m with
 |none=>exact .flat rfl
 |some k=>
  cases k with|lf t n=>exact .inr (.inl {_,_,rfl,rfl,.cons (.flat rfl)<|.cons (.flat rfl) .nil})|nd e i j=>exact .inr<|.inl {_,_,rfl,rfl,.cons (.flat rfl)<|.cons (.flat rfl)<|.cons (.flat rfl) .nil}
def bV{a b:Addr}{xs:Z0}(I:L a=⇑xs)(J:L b=⇑xs)(p:Paired (dO L n) xs xs):dO L (n+1) (.ref a) (.ref b):=.inr<|.inr {(a),b,xs,xs,rfl,rfl,I,J,p}
def UQ{k:WO}(h:wd[i]?=some k):iV (dY wd) (0+(i:Int))=some (fj k):=by rw[EC];exact ww h
def UR{a b:Ww}{tc:TT}{t u:TS}(hc:PT {X with N:=X.N.set i x} c tc)(p:hJ X a t)(r:hJ X b u):PS X (.If c a b pos) (λD σ H=>HJ tc t u D (σ.set i none) H):=by
 intro J s σ H D I h;have C:qx {X with N:=X.N.set i x} J (σ.set i none) H s:=I.Y5 _ (by rw[Bm]) (by rw[Bm]) λj v e=>by obtain⟨a,b⟩:=i7 e;exact{b,by rw[Bp<|AE a]}
 refine wpAny_If<|aD (hc J s (σ.set i none) H _ C h) λd U ⟨g,T,l⟩=>?_;have o:=qx.Y5 (X:={X with N:=X.N.set i x}) X.N T (by rw[Bm]) rfl λj v e=>by obtain⟨a,b⟩:=i7 e;exact{e,by rw[Bp<|AE a]}
 cases d with|true=>exact p J U _ g D o l|false=>exact r J U _ g D o l
def Hm(i:Nat)(tA:hV)(t u:ai)(D:vd)(τ:jd)(L:qj):Prop:=bN tA t u D (cZ τ i) L
def J6(x:Str){jk:Ww}{t u:ai}(h:QT {X with N:=X.N.set i x} c tA)(p:rO X body t)(r:rO X jk u):QS X (.If c body jk pos) (Hm i tA t u):=EX (UR h p r) λD T H U L j g C z k=>
 ⟨cZ U i,L,_,g.forget i,C,z,λc H1 l J I o=>by cases c with|true=>rw[Ar rfl];exact{cZ U i,l,j,(g.forget i).ts J,I,o,k.ts J}|false=>rw[Ap AI];exact{cZ U i,l,j,(g.forget i).ts J,I,o,k.ts J}⟩
section
open PySem.W
section
variable {K:Ag}(T:K.lookup Pt=some (PySem.W.tabObj #[]))
include T
def rN :clsIn (GM Pt K) C=clsIn K C:=by
 unfold clsIn;by_cases d:C=Pt
 .subst d;rw[ku,T]
 .rw[jy d]
def US{b:WC}:mroIn (GM Pt K) C b=mroIn K C b:=by unfold mroIn;rw[rN T]
def sQ{t b:WC}:subIn (GM Pt K) t b=subIn K t b:=by
 unfold subIn;split
 .rfl
 .exact US T
 .rfl
def UT{t c:WC}{b:Bool}(e:kitCls K t c=some b):kitCls (GM Pt K) t c=some b:=by
 unfold kitCls at e ⊢;split at e
 .rename_i C;have n:C≠Pt:=by rintro rfl;unfold clsIn at e;rw[T] at e;cases e
  have h:typeIn (GM Pt K) (.ref C)=typeIn K (.ref C):=by show(List.lookup C<|GM Pt K).map _=(List.lookup C K).map _;rw[jy n]
  rw[rN T,sQ T,h];exact e
 .rw[sQ T];exact e
 .cases e
def UU{t c:WC}{b:Bool}(e:exmOne K t c=some b):exmOne (GM Pt K) t c=some b:=by
 unfold exmOne at e ⊢;rw[sQ T];split at e
 .rename_i h;rw[Ar h];exact UT T e
 .cases e
def J7{N:Addr}:nsOkIn (GM Pt K) N=nsOkIn K N:=by
 unfold nsOkIn;by_cases d:N=Pt
 .subst d;rw[ku,T]
 .rw[jy d]
theorem zJ{bm:Wr}:∀l:Wr,tailIn (GM Pt K) bm l=tailIn K bm l
 |[]=>rfl
 |v::r=>by
  unfold tailIn;congr 1;split
  .rename_i A;by_cases d:A=Pt
   .subst d;rw[ku,T]
   .rw[jy d];split
    .rw[J7 T,W6 T rfl,zJ r]
    .rfl
  .rfl
def YT{bm:Wr}{i:WH}(e:excIn K C bm i=true):excIn (GM Pt K) C bm i=true:=by
 unfold excIn at e ⊢;by_cases d:C=Pt
 .subst d;rw[T] at e;cases e
 .rw[jy d];split at e
  .split at e
   .rw[zJ T,J7 T,W6 T rfl];exact e
   .cases e
  .cases e
end
end
def ip(I:Addr)(E3:X3)(J:km):ai:=(zv (jw (xa J<|eB<|qh 0)<|qk 2)
 (zv (Hm 5 (r_ (u_ (tR 1)<|tR 2)<|rT<|yB<|oN G'<|qp (d_ 1 (aK<|qh 1) (qk 6) D_<|ky (uj false) (qh 6)<|p_ (ax 0)<|ax 1) jc) (Jf I E3<|eB<|uC "the choices are not one for each either knot, each 0 or 1") aW)
 (zv (jw zH<|qk 3)
 (zv (kC (Ja<|eY (qh 2)<|qh 1) (dC 2<|jt (qk 4)<|jt (qk 5) bT)<|uc (qh 3) (qh 4)<|ky m5 (ky m5 (ah 0 0)<|qh 4)<|ky gU (ax 1)<|qh 5)
 (bP<|qh 3)))))
def oU(E3:X3)(I:kH)(p1:km):ai:=(zv (jw (kU I E3<|eY (qh 0)<|qh 1)<|qk 2)
 (zv (jw (ky gU (ah 0 1)<|ah 0 2)<|qk 3)
 (zv (kC (aK<|xa p1<|eB<|ah 0 0) (qk 4) (zv (jw (ky m5 (ah 0 0)<|qh 4)<|qk 5)
 (oF (bN (tf (ah 5 0)<|uC "both") (zv (wo<|iI x0 (qh 3)<|qp (p_ (qh 4)<|ah 5 1) jc)
 (wo<|iI x0 (qh 3)<|qp (p_ (qh 4)<|ah 5 2) jc)) aW)
 (bN (tf (ah 5 0)<|uC "either") (wo<|iI x0 (qh 3)<|qp (bC<|qp (qh 4)<|qp (gt (qh 2)<|qh 4) jc) jc) aW))))
 (bP<|qh 3))))
def iP:RD "_law_edges" jA 0 ["_law_web_here","_law_choices_here","_law_knots","_law_links","_law_cuts","_law_edges_here","_law_turn","_law_r","_law_knot"] (λ_=>True):={_,λV B c _ _ _ _ _ _ _ J hN I=>(qa (fW (qv 0)<|kn (n:=3) rfl<|z0 (G_ 2 hN)<|z0 (G_ 3 hN)<|z0 (G_ 4 hN) xb)<|qa (S_ 5 hN<|qr jm (qv 3)<|qv 4)<|qa (S_ 6 hN qg)<|qa (vf wh rfl (cN rfl B.bf<|qv 2) (kn (n:=2) rfl<|z0 (G_ 7 hN)<|z0 (G_ 8 hN) xb)<|vi (zy (kj<|w9 (cM<|qv 8)<|vq<|E_ I (J_ 8) j6) (qe<|z9<|bH (qv 5)<|x6<|zh<|ve (zg<|ve (qv 7)<|J_ 8)<|zg<|ve (qv 7)<|J_ 8) zb)<|qe<|zy (kj<|w9 (cM<|qv 8)<|vq<|E_ I (J_ 8) j6) (qa (z9<|qz (qv 5)<|x6<|zg<|ve (qv 7)<|I_ (qv 8)<|qr jm qg<|I_ (qv 1)<|qv 6)<|qe<|S_ 6 hN<|qr jm (qv 6) qg) zb)<|qe<|za<|qv 5)}
def Zb.Yx(W:Zb wd lk ct):wd.length<=241/\ct.length<=60/\lk.length<=60:=by
 obtain⟨J,R,E,o,p,U,f,ok,g,r,hk,I,t,C,ho,rn,j,_,l,_⟩:=W.ex;have lo:U.length=J.length:=by
  rcases ho with rfl|⟨qs,B,T⟩
  .exact Ae ..
  .exact T.len
 have tl:(zq R).length=J.length:=by rw[r.length_eq,Bh]
 have wg:=g.weight ok;have cl:=uo J<|jg R;have ll:2*(zr R).length<=J.length:=by obtain⟨u,hu⟩:=wn R;have:=hu.length_eq;rw[Ab,wc] at this;lia
 have h1:=j.length_eq;have h2:=t.length_eq;have h3:=l.length_eq;have h4:=C.length_eq;have h5:=rn.len;rw[Ae] at h1 h3;rw[wc,wc] at h2;exact{by lia,by lia,by lia}
structure oj(wd:List<|WO)(xs:Wx):Prop where
 len:xs.length=(cD true wd).length
 bit:∀x∈xs,x=0\/x=1
def xN(x:Int):Bool:=k_ (jX<|.int x)<|([.int 0,.int 1]:Z0).map jX
def ue(x:Int):xN x=true↔x=0\/x=1:=by
 have e:xN x=(decide ((0:Int)=x)||(decide ((1:Int)=x)||false)):=rfl;rw[e,Di,Di,Cq,Cq];constructor
 .rintro(h|h|h)
  .exact .inl h.symm
  .exact .inr h.symm
  .cases h
 .rintro(h|h)
  .exact .inl h.symm
  .exact .inr<|.inl h.symm
def gn(wd:List<|WO)(x:Int)(r:Nat):Nat:=match wd[r]? with
 |some (some<|.nd _ i j)=>if x=1 then j else i
 |_=>0
def sV(f:WO->Bool)(wd:List<|WO)(n:Nat):(eV f wd n).Nodup:=by unfold eV;exact CI.filter _
def UV{k r:Nat}(h:(cD true wd)[k]?=some r):∃i j,wd[r]?=some (some<|.nd true i j):=by
 obtain⟨_,o,e,I⟩:=sW<|Au h;cases o with
 |none=>cases I
 |some o=>
  cases o with
  |lf t n=>cases I
  |nd J i j=>
   have:J=true:=by simpa[xi] using I
   subst this;exact{(i),j,e}
def J8(wd:List<|WO)(xs:Wx)(n:Nat)(kvs:List<|j8×Y):Prop:=∀k r x,k<n->(cD true wd)[k]?=some r->xs[k]?=some x->xj kvs (.inl (r:Int))=some (.int (gn wd x r:Int))
inductive jN(C:Addr)(ys:Z0)(L:qj)(Q:YK)(E:Addr->qj->Prop):Prop
 |mk:∀a l c h,∀wd:List (WO),∀xs:Wx,(ys=[e9 a l c,.ref h])->(L a=⇑(dY wd))->(L h=⇑(xs.map Y.int))->(wd.length<=1000)->(xs.length<=2000)->((oj wd xs->∀d kvs,L d=none->J8 wd xs xs.length kvs->Q (.ref d) (qd L d<|.KF kvs)))->((¬oj wd xs->E C L))->jN C ys L Q E
def UW :∀ys L Q E,jN C ys L Q E->v9 (ip C (vX E) fw) 6 ys L Q:=by
 rintro ys L Q E ⟨a,l,c,h,J,T,rfl,ha,hh,hz,hx,q,ex⟩;have big:=a_;refine{a,l,c,J,rfl,ha,hz,λp1 a4=>?_};have s1:qf L (qd L p1<|.lst<|nY<|cD true J):=By a4;have g1:qd L p1 (.lst<|nY<|cD true J) p1=⇑(nY<|cD true J):=q9;generalize qd L p1 (.lst<|nY<|cD true J)=L1 at s1 g1 ⊢;have a2:¬oj J T->∀τ U,qf L1 U->vX E τ C U:=λh τ U s=>{L,s1.trans s,ex h};refine qc (s1 _ _ hh)<|qc g1 ?_;by_cases cl:T.length=(cD true J).length
 .refine jv (by rw[Ae,jx,cl,Az rfl];rfl) ?_;refine j7 (s1 _ _ hh) λkeep kp=>bQ (λi zs=>zs=((T.take i).map xN).map Y.bl) (by rw[Ae];exact big _ (by omega)) (kp _ rfl) rfl ?_ ?_
  .rintro i y zs hy rfl;rw[Aq] at hy;obtain⟨x,j,rfl⟩:=AA.mp hy;refine{rfl,rfl,_,ES _,rfl,?_};rw[A4,j,AC,AC];rfl
  rintro zs rfl p2 a3;rw[Ae,AY];have t:=By (o:=.lst<|(T.map xN).map Y.bl) a3;refine{rfl,qc q9<|ql (Rp _) ?_};by_cases cb:(T.map xN).all id=true
  .have ok:oj J T:={cl,λx hm=>(ue x).mp<|Ck.mp cb _<|Ba.mpr {(x),hm,rfl}};refine jv (by rw[cb];rfl) ?_;replace t:=s1.trans t;have g1:=By (o:=.lst<|(T.map xN).map Y.bl) a3 _ _ g1;generalize qd L1 p2 (.lst<|(T.map xN).map Y.bl)=L2 at t g1 ⊢;intro d hd;have s3:=By (o:=.KF []) hd;refine qc (s3 _ _ g1)<|qc (s3 _ _<|t _ _ hh) ?_;refine tK (λi τ U=>∃c4 c5 I,τ=[some<|e9 a l c,some<|.ref h,some<|.ref p1,some<|.ref d,c4,c5]/\qf L2 U/\U d=some (.KF I)/\I.length<=i/\J8 J T i I) {_,_,_,rfl,s3,q9,An _,λk r x hk=>absurd hk<|B7 _} (λi τ U ⟨c4,c5,I,e,s,_⟩=>{by show U p1=_;rw[s _ _ g1,s3 _ _ g1],by show U h=_;rw[s _ _<|t _ _ hh,s3 _ _<|t _ _ hh]}) ?_ ?_
   .rintro i u v τ U eu ev ⟨c4,c5,I,rfl,s,g,kl,kd⟩;obtain⟨r,er,rfl⟩:=cX eu;rw[Aq] at ev;obtain⟨x,j,rfl⟩:=AA.mp ev;obtain⟨i',j',ek⟩:=UV er;have hi:=zd j;have hb:=ok.bit x<|Au j;have ka:=s _ _<|t _ _ ha;refine qc ka<|ql (ww ek) ?_;have av:iV [Y.str<|kN true,.int (i':Int),.int (j':Int)] (1+x)=some (.int (gn J x r:Int)):=by unfold gn;rw[ek];rcases hb with rfl|rfl<;>rfl
    walk_at "w";rw[av];refine zj g ?_;refine{big _ (by omega),_,ES _,_,_,_,rfl,s.upd hd,q9,?_,?_}
    .have:=dX I (.inl (r:Int))<|.int (gn J x r:Int);omega
    .intro k r' x' hk p a1;rw[aw];by_cases e:k=i
     .subst e;rw[er] at p;rw[j] at a1;cases p;cases a1;rw[Ar rfl]
     .rw[Ap λz=>e<|(List.getElem?_inj (zd p)<|sV _ J _).mp (by rw[er,p,BB.mp<|Ev z]),kd k r' x' (by omega) p a1]
   .rintro τ U ⟨c4,c5,I,rfl,s,g,kl,kd⟩;rw[jx,Ae,<-cl,Nat.min_self] at kd;exact{qd L d<|.KF I,(t.trans s).put g,q ok d I (t.none hd) kd}
  .refine xq (by rw[Bool.eq_false_iff.mpr cb];rfl)<|show _/\_ from{Ct rfl,a2 (λok=>cb ?_) _ _ t};rw[Ck];intro b hb;obtain⟨x,hm,rfl⟩:=Ba.mp hb;exact(ue x).mpr (ok.bit x hm)
 .refine xq (by rw[Ae,jx,Ao λe=>cl<|BB.mp e];rfl) ?_;exact{Ct rfl,a2 (λok=>cl ok.len) _ _<|ES _}
def aM(wd:List<|WO)(xs:Wx)(r:Nat):Wq:=match wd[r]? with
 |some (some<|.nd false i j)=>[(r,i),(r,j)]
 |some (some<|.nd true _ _)=>[(r,gn wd (xs[(eV (xi true) wd r).length]?.getD 0) r)]
 |_=>[]
def mG(wd:List<|WO)(xs:Wx)(n:Nat):Wq:=(List.range n).flatMap<|aM wd xs
def vM(wd:List<|WO)(xs:Wx)(r:Nat):(aM wd xs r).length<=2:=by unfold aM;split<;>simp
def J9{f:Nat->Wq}(h:∀r,(f r).length<=2)(l:Wt):(l.flatMap f).length<=2*l.length:=by
 induction l with
 |nil=>exact An _
 |cons x r I=>
  have:=h x;rw[Be,Ab,AD];omega
def UX{f:Nat->Wq}{p:Nat->Bool}(h:∀r,p r=false->f r=[])(l:Wt):(l.filter p).flatMap f=l.flatMap f:=by
 induction l with
 |nil=>rfl
 |cons x r I=>
  rw[List.filter_cons,Be];by_cases c:p x=true
  .rw[Ar c,Be,I]
  .rw[Ap c,I,h x<|Bool.eq_false_iff.mpr c];rfl
def yZ(wd:List<|WO)(xs:Wx):(qu wd).flatMap (aM wd xs)=mG wd xs wd.length:=by refine UX (λr h=>?_) _;unfold aM;split<;>rename_i e<;>first|rfl|(rw[e] at h;cases h)
def fE(a b:Wp):qt (a++b)=qt a++qt b:=by unfold qt;rw[AC]
def lD(wd:List<|WO)(lk ct:Wp)(xs:Wx):Wq:=lk++ct++mG wd xs wd.length
def yf{r:Nat}(h:wd[r]?=some (some<|.nd true i j)):(cD true wd)[(eV (xi true) wd r).length]?=some r:=by
 have J:=zd h;have e:∀n,r+1+n<=wd.length->∃z,eV (xi true) wd (r+1+n)=eV (xi true) wd r++r::z:=by
  intro n
  induction n with
  |zero=>intro _;exact{[],by rw[Ez,wz h];rfl}
  |succ n I=>
   intro U;obtain⟨z,e⟩:=I (by omega);have:=wz (f:=xi true)<|Ai (show r+1+n<wd.length by omega);rw[e,Ay,List.cons_append] at this;exact{_,this}
 obtain⟨z,e⟩:=e (wd.length-(r+1)) (by omega);rw[show r+1+(wd.length-(r+1))=wd.length by omega] at e;show(eV (xi true) wd wd.length)[_]?=_;rw[e,AH<|An _,Ci];rfl
inductive gC(C:Addr)(ys:Z0)(L:qj)(Q:YK)(E:Addr->qj->Prop):Prop
 |mk:∀a l c h,∀wd:List (WO),∀lk ct:Wq,∀xs:Wx,(ys=[e9 a l c,.ref h])->(L a=⇑(dY wd))->(L l=⇑(qt lk))->(L c=⇑(qt ct))->(L h=⇑(xs.map Y.int))->(wd.length<=1000)->(lk.length<=2000)->(ct.length<=2000)->(xs.length<=2000)->((oj wd xs->∀p,L p=none->Q (.ref p) (qd L p<|.lst<|qt<|lD wd lk ct xs)))->((¬oj wd xs->E C L))->gC C ys L Q E
def tE(a l c h d e:Addr)(u v:WM):jd:=[some<|e9 a l c,some<|.ref h,some<|.ref d,some<|.ref e,u,v]
def UY :∀ys L Q E,gC C ys L Q E->v9 (oU (vX E) (jN C) bM) 6 ys L Q:=by
 rintro ys L Q E ⟨a,l,c,h,I,lk,j,U,rfl,ha,hl,hc,hh,hz,zl,zc,hx,q,ex⟩;have big:=a_;refine{a,l,c,h,I,U,rfl,ha,hh,hz,hx,λok d a1 hd kd=>?_,λno=>{L,ES _,ex no}};have s1:qf L (qd L d<|.KF a1):=By hd;have g1:qd L d (.KF a1) d=some (.KF a1):=q9;generalize qd L d (.KF a1)=L1 at s1 g1 ⊢;refine{_,_,s1 _ _ hl,s1 _ _ hc,?_,λe he=>?_}
 .unfold qt;rw[Ae,Ae];exact Bo<|big _ (by omega)
 have s2:qf L1 (qd L1 e<|.lst<|qt lk++qt j):=By he;rw[<-fE] at s2 ⊢;have g2:qd L1 e (.lst<|qt<|lk++j) e=⇑(qt<|lk++j):=q9;generalize qd L1 e (.lst<|qt<|lk++j)=L2 at s2 g2 ⊢;refine{a,I,rfl,s2 _ _<|s1 _ _ ha,hz,λp hp=>?_};have s3:qf L1 (qd L2 p<|.lst<|nY<|qu I):=s2.trans<|By hp;have ep:=vh g2 hp;have g3:qd L2 p (.lst<|nY<|qu I) e=⇑(qt<|lk++j):=(qb ep).trans g2;have tl:(qu I).length<=I.length:=JQ fN I I.length;refine j7 q9 λkeep kp=>xm {λi τ T=>∃c4 c5,τ=tE a l c h d e c4 c5/\qf L1 T/\T p=⇑(nY<|qu I)/\T e=⇑(qt<|lk++j++((qu I).take i).flatMap (aM I U)),{_,_,rfl,s3,q9,by show _=some (LO.lst<|qt<|lk++j++[]);rw[AB];exact g3},?_,?_,?_}
 .rintro i τ T ⟨c4,c5,rfl,s,g,_⟩;exact kp T (by rw[g,q9])
 .rintro i y τ T hy ⟨c4,c5,rfl,s,gp,g⟩;obtain⟨r,er,rfl⟩:=cX hy;obtain⟨hr,k,ek,hk⟩:=sW<|Au er;have et:(qu I).take (i+1)=(qu I).take i++[r]:=by rw[A4,er];rfl
  have fl:=J9 (vM I U)<|(qu I).take i;rw[AR] at fl;have ka:=s _ _<|s1 _ _ ha;refine qc ka<|ql (ww ek) ?_;have ge:qt (lk++j++((qu I).take i++[r]).flatMap (aM I U))=qt (lk++j++((qu I).take i).flatMap (aM I U))++qt (aM I U r):=by rw[AO,Be,CK,AB,<-Ay,fE _<|aM I U r]
  cases k with
  |none=>cases hk
  |some k=>
   cases k with
   |lf t n=>
    have z:aM I U r=[]:=by unfold aM;rw[ek]
    refine{λJ L2=>J=tE a l c h d e (some<|.int (r:Int)) (some<|fj<|some<|.lf t n)/\L2=T,?_,?_}
    .cases t<;>exact{(rfl),rfl}
    .rintro J L2 ⟨rfl,rfl⟩;have w:∃c4 c5,tE a l c h d e (some<|.int (r:Int)) (some<|fj<|some<|.lf t n)=tE a l c h d e c4 c5/\qf L1 L2/\L2 p=⇑(nY<|qu I)/\L2 e=⇑(qt<|lk++j++((qu I).take<|i+1).flatMap (aM I U)):={_,_,rfl,s,gp,by rw[et,ge,z];show _=some (LO.lst<|_++[]);rw[AB];exact g};cases t<;>exact{_,ES _,w}
   |nd b i' j'=>
    cases b with
    |false=>
     have z:aM I U r=[(r,i'),(r,j')]:=by unfold aM;rw[ek]
     refine{λJ L2=>J=tE a l c h d e (some<|.int (r:Int)) (some<|fj<|some<|.nd false i' j')/\L2=qd (qd T e<|.lst<|qt (lk++j++((qu I).take i).flatMap (aM I U))++[jM (r,i')]) e (.lst<|qt (lk++j++((qu I).take i).flatMap (aM I U))++[jM (r,i')]++[jM (r,j')]),?_,?_}
     .refine qc g<|qm g {?_,?_}
      .unfold qt;rw[Ae,Ab,Ab];exact big _ (by omega)
      refine qc q9<|qm q9 {?_,?_}
      .unfold qt;rw[Ab,Ae,Ab,Ab];exact big _ (by simp only[AF];omega)
      exact{(rfl),rfl}
     .rintro J L2 ⟨rfl,rfl⟩;refine{_,ES _,_,_,rfl,(s.upd he).upd he,(qb<|AE ep).trans<|(qb<|AE ep).trans gp,?_};rw[q9,et,ge,z,Ay];rfl
    |true=>
     have hn:=yf ek;have o:=zd hn;rw[<-ok.len] at o;have ev:=kd _ r _ o hn<|Ai o;have z:aM I U r=[(r,gn I (U[(eV (xi true) I r).length]'o) r)]:=by unfold aM;rw[ek];rw[Ai o];rfl
     refine{λJ L2=>J=tE a l c h d e (some<|.int (r:Int)) (some<|fj<|some<|.nd true i' j')/\L2=T,{(rfl),rfl},?_};rintro J L2 ⟨rfl,rfl⟩;refine qc g<|zj (s _ _ g1)<|ql ev<|qm g {?_,?_}
     .unfold qt;rw[Ae,Ab,Ab];exact big _ (by omega)
     refine{_,ES _,_,_,rfl,s.upd he,(qb<|AE ep).trans gp,?_};rw[q9,et,ge,z];rfl
 .rintro τ T ⟨c4,c5,rfl,s,_,g⟩;rw[jx,AY,yZ] at g;exact{qd L e<|.lst<|qt<|lD I lk j U,(s1.trans s).put g,q ok e<|s1.none he}
def jC:RD "_law_count" jB 0 ["_law_web_here","_law_kind"] (λ_=>True):={_,λV B c _ _ _ _ _ _ _ J hN I=>(qe<|za<|L_ B.ba<|cQ ["_law_knot"] (EW (by rfl)) rfl (jq<|J_ 0) (pV 2) (λ_ _ _ _=>a6<|kj<|w9 (cM<|qv 2)<|vq<|E_ I (J_ 2)<|qv 1) λ_ _ _ _=>(qv 2))}
def fh(J:km)(I:km):RD "_law_choices" gE 1 ["_law_script","_law_count_here","_law_turn"] (λV=>Gm V J/\Jk V I):={_,λV B c _ _ _ _ _ _ _ U hN g=>(qe<|za<|cQ ["_law_k"] (EW (by rfl)) rfl (af rfl B.be<|x6<|qv 1) (pV 3) (λ_ _ _ _=>gy) λ_ _ _ _=>(qr x9 (qr wx (C_ c.1 U<|cG (C_ c.2 U<|ve (qv 0)<|qv 3) (qr jm (qv 3)<|qv 2) qg)<|qr jm (qv 2) qg) qg))}
inductive iU(ys:Z0)(L:qj)(Q:YK):Prop
 |mk:∀a l c,∀wd:List (WO),(ys=[e9 a l c,.str "either"])->(L a=⇑(dY wd))->(wd.length<=1000)->(Q (.int ((cD true wd).length:Int)) L)->iU ys L Q
def UZ:ZY iU jC.1 2:=by
 rintro ys L Q ⟨a,l,c,U,rfl,r,C,q⟩;refine j7 r λkeep T=>bQ (λi J=>J.length=(eV (xi true) U i).length) (by rw[aN];exact Bj C (by decide)) (T _ rfl) rfl ?_ ?_
 .rintro i y J j I;rw[Aq] at j;obtain⟨k,o,rfl⟩:=AA.mp j;have no:xi true k=false->jP (λJ g=>g=L/\J.length=(eV (xi true) U<|i+1).length) J L:=λh=>{L,ES _,rfl,by rw[wz o,Ap (by rw[h];exact AI),AB];exact I};have yes:∀z,xi true k=true->jP (λJ g=>g=L/\J.length=(eV (xi true) U<|i+1).length) (J++[z]) L:=λz h=>{L,ES _,rfl,by rw[wz o,Ar h,Ab,Ab,I];rfl};cases k with
  |none=>exact no rfl
  |some k=>
   cases k with
   |lf t n=>cases t<;>exact no rfl
   |nd e i' j'=>
    cases e with|true=>exact yes _ rfl|false=>exact no rfl
 .intro J I p hp;rw[aN] at I;refine qc q9<|jI (By hp) ?_;rw[I];exact q
inductive rX(ys:Z0)(L:qj)(Q:YK):Prop
 |mk:∀ns:Wx,∀n:Nat,∀t:Int,(ys=[.sq<|ns.map Y.int,.int (n:Int),.int t])->(n<=1000)->(0<=t)->(t<=1000)->(∀xs:Wx,xs.length=n->(∀x∈xs,x=0\/x=1)->∀p,L p=none->Q (.ref p) (qd L p<|.lst<|xs.map Y.int))->rX ys L Q
def U0:ZY rX (fh cY bS).1 3:=by
 rintro ys L Q ⟨l,n,t,rfl,o,T,ht,q⟩;refine{{A1 _,by omega},?_};rw[B9];refine rS (λi U=>∃I:Wx,U=I.map Y.int/\I.length=i/\∀x∈I,x=0\/x=1) (Bj o (by decide)) {[],rfl,rfl,λx h=>by cases h} ?_ ?_
 .rintro i U hi ⟨I,rfl,g,j⟩;refine{l,_,rfl,by omega,λv=>{v,_,_,rfl,by omega,by omega,by decide,by decide,λr r0 r1=>?_}};refine{{by omega,by omega},(by decide:(0:Int)<2),_,ES _,rfl,I++[r / (t+1) % 2],by rw[AC];rfl,by rw[Ab,g];rfl,λx J=>?_};rcases Aj.mp J with J|J
  .exact j x J
  .rw[Ad.mp J];omega
 .rintro U ⟨I,rfl,g,j⟩ p C;exact k8<|q I g j p C
def Zx(n:Nat)(xs:Wx):Prop:=xs.length≠n\/∃x∈xs,x≠0/\x≠1
theorem iq{L:qj}:∀xs:Wx,Paired (jo L 0) (xs.map Y.int)<|xs.map λx=>Da.s<|.int x
 |[]=>.nil
 |_::r=>.cons {(rfl),rfl}<|iq r
def nM(xs:Wx):Da.eqs (xs.map λx=>Da.s<|.int x) []=decide (xs=[]):=by cases xs<;>rfl
inductive mw(ys:Z0)(L:qj)(Q:YK):Prop
 |mk:∀a l c h,∀wd:List (WO),∀lk ct:Wq,∀xs:Wx,(ys=[e9 a l c,.ref h])->(L a=⇑(dY wd))->(L l=⇑(qt lk))->(L c=⇑(qt ct))->(L h=⇑(xs.map Y.int))->(wd.length<=1000)->(lk.length<=2000)->(ct.length<=2000)->(xs.length<=2000)->(Zx (cD true wd).length xs)->(Q (.bl true) L)->mw ys L Q
def Zx.no{xs:Wx}(h:Zx (cD true wd).length xs):¬oj wd xs:=λok=>by
 rcases h with h|⟨x,I,h0,h1⟩
 .exact h ok.len
 .exact(ok.bit x I).elim h0 h1
def U3(wd:List<|WO)(xs:Wx)(i:Nat):mG wd xs (i+1)=mG wd xs i++aM wd xs i:=by unfold mG;rw[EH,AO,Be,CK,AB]
def uh(wd:List<|WO)(xs:Wx)(i:Nat):(mG wd xs i).length<=2*i:=by have:=J9 (vM wd xs)<|List.range i;rw[Bh] at this;exact this
inductive gS(ys:Z0)(L:qj)(Q:YK):Prop
 |mk:∀a l c h,∀wd:List (WO),∀lk ct:Wq,∀xs:Wx,(ys=[e9 a l c,.ref h])->(L a=⇑(dY wd))->(L l=⇑(qt lk))->(L c=⇑(qt ct))->(L h=⇑(xs.map Y.int))->(wd.length<=1000)->(lk.length<=2000)->(ct.length<=2000)->(oj wd xs)->(∀p,L p=none->Q (.ref p) (qd L p<|.lst<|qt<|lD wd lk ct xs))->gS ys L Q
def tL(a l c h e:Addr)(n:Nat)(u v:WM):jd:=[some<|e9 a l c,some<|.ref h,some<|.ref a,some<|.ref l,some<|.ref c,some<|.ref e,some<|.int (n:Int),u,v]
def U4:ZY gS iP.1 9:=by
 rintro ys L Q ⟨a,l,c,h,I,lk,o,U,rfl,ha,hl,hc,hh,hz,zl,zc,ok,q⟩;have big:=a_;refine{_,_,hl,hc,?_,λe he=>?_}
 .unfold qt;rw[Ae,Ae];exact Bo<|big _ (by omega)
 have s2:qf L (qd L e<|.lst<|qt lk++qt o):=By he;rw[<-fE] at s2 ⊢;have g2:qd L e (.lst<|qt<|lk++o) e=⇑(qt<|lk++o):=q9;generalize qd L e (.lst<|qt<|lk++o)=L2 at s2 g2 ⊢;refine j7 (s2 _ _ ha) λkeep kp=>xm {λi τ r=>∃T c8,τ=tL a l c h e (eV (xi true) I i).length T c8/\qf L r/\r e=⇑(qt<|lk++o++mG I U i),{_,_,rfl,s2,by show _=some (LO.lst<|qt<|lk++o++[]);rw[AB];exact g2},?_,?_,?_}
 .rintro i τ r ⟨T,c8,rfl,s,_⟩;exact kp r (by rw[s _ _ ha,s2 _ _ ha])
 .rintro i y τ r hy ⟨T,c8,rfl,s,g⟩;obtain⟨z,ez,rfl⟩:=bY hy;rw[Aq] at ez;obtain⟨k,C,rfl⟩:=AA.mp ez;have hi:=zd C;have el:=uh I U i;have lz:(qt<|lk++o++mG I U i).length<=8000:=by unfold qt;rw[Ae,Ab,Ab];omega
  have ge:qt (lk++o++mG I U (i+1))=qt (lk++o++mG I U i)++qt (aM I U i):=by rw[U3,<-Ay,fE _<|aM I U i]
  have a1:∀{k':WO},I[i]?=some k'->xi true k'=false->eV (xi true) I (i+1)=eV (xi true) I i:=λh hb=>by rw[wz h,Ap (by rw[hb];exact AI),AB]
  have SZ:aM I U i=[]->xi true k=false->∀T c8,∃a2 a3,tL a l c h e (eV (xi true) I i).length T c8=tL a l c h e (eV (xi true) I<|i+1).length a2 a3/\qf L r/\r e=⇑(qt<|lk++o++mG I U (i+1)):=λhz hb T c8=>{T,c8,by rw[a1 C hb],s,by rw[ge,hz];show _=some (LO.lst<|_++[]);rw[AB];exact g};cases k with
  |none=>
   refine{λJ L2=>J=tL a l c h e (eV (xi true) I i).length (some<|.int (i:Int)) (some .KB)/\L2=r,{(rfl),rfl},?_};rintro J L2 ⟨rfl,rfl⟩;exact{_,ES _,SZ (by unfold aM;rw[C]) rfl _ _}
  |some k=>
   cases k with
   |lf t n=>
    refine{λJ L2=>J=tL a l c h e (eV (xi true) I i).length (some<|.int (i:Int)) (some<|fj<|some<|.lf t n)/\L2=r,?_,?_}
    .cases t<;>exact{(rfl),rfl}
    .rintro J L2 ⟨rfl,rfl⟩;have w:=SZ (by unfold aM;rw[C]) rfl (some<|.int (i:Int))<|some<|fj<|some<|.lf t n;cases t<;>exact{_,ES _,w}
   |nd b i' j'=>
    cases b with
    |false=>
     have z:aM I U i=[(i,i'),(i,j')]:=by unfold aM;rw[C]
     refine{λJ L2=>J=tL a l c h e (eV (xi true) I i).length (some<|.int (i:Int)) (some<|fj<|some<|.nd false i' j')/\qf L L2/\L2 e=⇑(qt<|lk++o++mG I U (i+1)),?_,?_}
     .refine qc g ?_;intro p hp;have np:=vh g hp;refine qm ((qb np).trans g)<|qm q9 {?_,?_}
      .exact Bo (big _ (by simp only[AD,EE];omega))
      .exact{rfl,(s.trans<|By hp).upd he,by rw[q9,ge,z];rfl}
     .rintro J L2 ⟨rfl,s',g'⟩;exact{_,ES _,_,_,by rw[a1 C rfl],s',g'}
    |true=>
     have hn:=yf C;have j:=zd hn;rw[<-ok.len] at j;have hb:=ok.bit _<|BN j;have z:aM I U i=[(i,gn I (U[(eV (xi true) I i).length]'j) i)]:=by unfold aM;rw[C];rw[Ai j];rfl
     have ex:(U.map Y.int)[(eV (xi true) I i).length]?=some (.int<|U[(eV (xi true) I i).length]'j):=by rw[Aq,Ai j];rfl
     refine{λJ L2=>J=tL a l c h e (eV (xi true) I i).length (some<|.int (i:Int)) (some<|fj<|some<|.nd true i' j')/\L2=r,{(rfl),rfl},?_};rintro J L2 ⟨rfl,rfl⟩;have ws:eV (xi true) I (i+1)=eV (xi true) I i++[i]:=by rw[wz C];rfl
     generalize U[(eV (xi true) I i).length]'j=x at hb z ex;refine qc g<|qc (s _ _ hh)<|ql (w5 ex) ?_;have av:iV [Y.str<|kN true,.int (i':Int),.int (j':Int)] (1+x)=some (.int (gn I x i:Int)):=by unfold gn;rw[C];rcases hb with rfl|rfl<;>rfl
     walk_at "w";rw[av];refine qm g {big _ (by omega),?_};refine{_,ES _,some<|.int (i:Int),some<|fj<|some<|.nd true i' j',?_,s.upd he,?_}
     .rw[ws,Ab];rfl
     .rw[q9,ge,z];rfl
 .rintro τ r ⟨T,c8,rfl,s,g⟩;rw[ae,aN] at g;exact{qd L e<|.lst<|qt<|lD I lk o U,s.put g,q e he}
def U5(l:Wx):Paired (dO L<|n+1) (l.map Y.int) (l.map Y.int):=dy λx I=>by obtain⟨m,_,rfl⟩:=Ba.mp I;exact .flat rfl
section
open PySem.W
section
variable {w:WF}
def Xw(v:WC):Prop:=∃i t,v=.int i t
noncomputable def XD(x:Keyed):Int:=match x.1 with
 |.int i _=>i
 |_=>0
def XH:Ord prog w A s oneType' (λx=>Xw x.1) XD:=by
 constructor;rintro x y ⟨i,t,I⟩ ⟨j,u,J⟩ E Q h;have h1:XD x=i:=by unfold XD;rw[I]
 have h2:XD y=j:=by unfold XD;rw[J]
 rw[h1,h2] at h;rw[I,J];exact kat_lt_int h
theorem u6:∀{vs:Wr},(∀v∈vs,Xw v)->∃ns,IntsAre vs ns
 |[],_=>{[],.nil}
 |v::r,h=>by obtain⟨i,t,rfl⟩:=h v<|As ..;obtain⟨ns,k⟩:=u6 (vs:=r) λu I=>h u<|Al _ I;exact{_,.cons i t k}
def Xl(h:∀v∈vs,Xw v)(h2:¬vs.length<2):keyKind' vs.toArray=pure oneType':=by
 obtain⟨I,k⟩:=u6 h
 match vs,k,h2 with
 |[],_,h2=>exact absurd (Nat.zero_lt_succ 1) h2
 |[_],_,h2=>exact absurd (Bi 1) h2
 |_::_::_,k,_=>exact keyKind_ints k
def XX(J:s.heap.IsList l vs.toArray)(hz:vs.length<=127)(I:∀v∈vs,Xw v)
 (h:∀h' tk (xs:WQ) D c,↥s<=D->(∀b o,s.heap.get? b=some o->h'.get? b=some o)->h'.get? D=some (seqObj "list" (List.toArray (xs.map (·.2))) c)->xs.Perm (vs.zip vs)->(xs.Pairwise λx y=>XD x<=XD y)->Q (.ref D) {s with heap:=h',toks:=tk}):
 wpAny (model prog w) A (call (.builtin "sorted") [.ref l]) Q E s:=by
 exact qI J hz (λA E g _=>{{λx y U j=>XH.lt x y (I _ (HT U).1)<|I _ (HT j).1},λh2 Q q=>by rw[Xl I h2];exact Ak q}) h
end
end
theorem oy:∀{ns:Wx} {vs:Wr},zk (ns.map V.int) vs->IntsAre vs ns
 |[],_,.nil=>.nil
 |n::_,_,.cons ⟨t,e⟩ p=>by subst e;exact .cons n t<|oy p
theorem oG:∀{vs:Wr} {ns:Wx},IntsAre vs ns->(vs.zip vs).map XD=ns
 |_,_,.nil=>rfl
 |_,_,.cons n t h=>by rw[DX,AQ,oG h];rfl
def dI:∀{vs:Wr} {ns:Wx},IntsAre vs ns->∀v∈vs,Xw v:=by
 intro vs ns h
 induction h with
 |nil=>intro v h;cases h
 |cons n t k I=>
  intro v h;rcases Aw.mp h with rfl|h
  .exact{(n),t,rfl}
  .exact I v h
theorem o3:∀{xs:List PyProof.Rows.Keyed},(∀x∈xs,Xw x.1/\x.1=x.2)->zk ((xs.map XD).map V.int) (xs.map (·.2))
 |[],_=>.nil
 |x::r,h=>by obtain⟨⟨i,t,e⟩,I⟩:=h x<|As ..;refine .cons {t,?_}<|o3 λy J=>h y<|Al _ J;show x.2=Value.int (XD x) t;rw[<-I,e];unfold XD;rw[e]
def U6(X:Cx):WI->Hp->VK->Prop:=λxs H Q=>∃(l:Addr) (ns:Wx),xs=[.ref l]/\ag X.K H l (ns.map V.int)/\ns.length<=127/\
 ∀(D:Addr) (ms:Wx),H D=none->ms.Perm ns->ms.Pairwise (λa b:Int=>a<=b)->Q (.ref D) (upd H D<|.lst<|ms.map V.int)
theorem wR:je X (.builtin "sorted") (U6 X):=by
 rintro p s σ H xs us Q I r⟨l,t,rfl,hl,J,q⟩;obtain⟨u,rfl,ru⟩:=r.one;cases (show u=Value.ref l from ru);obtain⟨g,C,pl,hz⟩:=I.list hl;have j:=oy C;have l1:t.length=g.length:=by have:=C.length;rw[Ae] at this;exact this
 refine ji I.tk (XX pl.isList (by rw[<-l1];exact J) (dI j) λh' tk U D c T hk hg pm pw ht=>?_);have mk:∀x∈U,Xw x.1/\x.1=x.2:=λx hx=>by obtain⟨m1,m2⟩:=HT<|pm.mem_iff.mp hx;exact{dI j _ m1,m2}
 have pn:(U.map XD).Perm t:=by rw[<-oG j];exact pm.map _
 refine{.ref D,_,I.laid (t':=tk) (o:=.lst<|(U.map XD).map V.int) hk T {?_,U.map (·.2),c,o3 mk,hg},rfl,q D _ (I.GT.fresh T) pn<|BR.mpr pw};rw[Ae,pn.length_eq,<-Ae (f:=V.int)];exact hz
def xD(xs:Z0)(L:qj)(Q:YK):Prop:=match xs with
 |[.ref a]=>fA L a λys=>∃ns:Wx,ys=ns.map Y.int/\ns.length<=127/\∀(D:Addr) (ms:Wx),L D=none->ms.Perm ns->ms.Pairwise (λa b:Int=>a<=b)->Q (.ref D) (qd L D<|.lst<|ms.map Y.int)
 |_=>False
theorem yh{G:G3}{H:Hp}:∀{ns:Wx} {xs:WI},xo G H (ns.map Y.int) xs->xs=ns.map V.int
 |[],_,h=>h
 |n::r,_,⟨x,I,e,J,s⟩=>by subst e;cases (show x=V.int n from J);rw[yh s];rfl
theorem iz{G:G3}{H:Hp}:∀ns:Wx,xo G H (ns.map Y.int)<|ns.map V.int
 |[]=>rfl
 |n::r=>{_,_,rfl,rfl,iz r}
theorem U7 :je X (.builtin "sorted") (b_ X.g3 xD):=E9 wR λC H Q T L Q3 j J z k=>by
 unfold xD at z;split at z
 .rename_i a;obtain⟨zs,e,l,rfl,I,z⟩:=vo z;obtain⟨vs,o,r⟩:=J a _ e;obtain⟨u,rfl,p⟩:=j.inv1;cases (show u=V.ref a from p);cases yh r;exact{a,l,rfl,FA o,I,λD g U pm t=>k _ _ _ _ (EU U) (J.Xa U<|iz g) (by rfl)<|z D g (J.none U) pm t}
 .exact z.elim
def U8(neg:Bool)(p:X.A.units+128<cLine):aG X (compareOp<|if neg then .NotIn else .In) (λx y H Q=>∃a kvs k,y=.ref a/\H a=some (.dK kvs)/\x=kV k/\Q (.bl<|if neg then !(am kvs k).isSome else(am kvs k).isSome) H):=by intro U s r H x y v u Q I g j ⟨a,kvs,k,l,e,ex,q⟩;subst ex l;cases (show u=Value.ref a from j);cases neg with|false=>exact Om (by omega) I (nG.k e) g λo J=>{.bl _,H,J,rfl,q}|true=>exact Oo (by omega) I (nG.k e) g λo J=>{.bl _,H,J,rfl,q}
def U9{xs:List<|j8×V}(p:Paired (λ(p:j8×Y) (q:j8×V)=>p.1=q.1/\RV G H p.2 q.2) kvs xs)(k:j8):(am xs k).isSome=(xj kvs k).isSome:=by
 unfold am xj;rw[Option.isSome_map,Option.isSome_map]
 induction p with
 |nil=>rfl
 |@cons a b _ _ r t I=>
  rw[BK,BK,r.1];cases decide (b.1=k) with|true=>rfl|false=>exact I
def Ho(neg:Bool)(x y:Y)(L:qj)(Q:YK):Prop:=match y,yA x with
 |.ref a,some k=>jG L a λkvs=>Q (.bl<|nb neg (xj kvs k).isSome) L
 |_,_=>False
def U_(neg:Bool)(j:X.A.units+128<cLine):aG X (compareOp<|if neg then .NotIn else .In) (kY X.g3<|Ho neg):=aG.SL (U8 neg j) λx y H Q C T L Q3 l o g z k=>by
 unfold Ho at z;split at z
 .rename_i a I p;obtain⟨J,e,z⟩:=kz z;obtain⟨U,r,t⟩:=g a _ e;refine{a,U,I,o,r,dP p l,?_};have:(if neg=true then !(am U I).isSome else(am U I).isSome)=nb neg (xj J I).isSome:=by rw[U9 t];cases neg<;>simp[nb]
  rw[this];exact k _ H _ L (ET _) g (by rfl) z
 .exact z.elim
def xG(I:X.A.units+128<cLine):aG X (compareOp .NotIn) (kY X.g3<|Ho true):=U_ true I
def gh:RD "_law_places" gb 0 ["_law_web_here"] (λ_=>True):={_,λV B c _ _ _ _ _ _ _ I hN J=>(qe<|za<|cQ ["_law_p"] (EW (by rfl)) rfl (af rfl B.be<|x6<|L_ B.ba<|J_ 0) (pV 1) (λ_ _ _ _=>a6<|cM<|I_ (J_ 0)<|qv 1) λ_ _ _ _=>(qv 1))}
def g9:RD "_law_labels" gw 0 ["_law_places_here","_law_edges_here","_law_near","_law_p","_law_q","_law_label","_law_todo","_law_x"] (λ_=>True):={_,λV B c _ _ _ _ _ _ _ J hN I=>(qa (S_ 2 hN gR)<|qa (vf wh rfl (jq<|qv 0) (G_ 3 hN)<|qe<|eO I (qv 2) (qv 3)<|zh xd)<|qa (vf wh rfl (jq<|qv 1) (kn (n:=2) rfl<|z0 (G_ 3 hN)<|z0 (G_ 4 hN) xb)<|qa (z9<|qz (vk I (qv 2) (qv 3) λ_ _=>rfl)<|x6<|qv 4)<|qe<|z9<|qz (vk I (qv 2) (qv 4) λ_ _=>rfl)<|x6<|qv 3)<|qa (S_ 5 hN gR)<|qa (vf wh rfl (jq<|qv 0) (G_ 3 hN)<|qa (S_ 6 hN<|zh<|x6<|qv 3)<|qe<|cx wh (N_ I (qv 6)<|zh xd)<|qa (S_ 7 hN<|sw<|qv 6)<|qe<|zy (js (xG I) (qv 7) (qv 5) (by with_unfolding_all rfl)) (qa (eO I (qv 5) (qv 7)<|qv 3)<|qe<|z9<|bH (qv 6)<|x6<|vk I (qv 2) (qv 7) λ_ _=>rfl) zb)<|qe<|za<|qv 5)}
def qS(es:Wp)(x:Nat):Wt:=es.flatMap λe=>(if e.1=x then [e.2] else [])++if e.2=x then [e.1] else []
def Va(es:Wp)(e:WB)(x:Nat):qS (es++[e]) x=qS es x++((if e.1=x then [e.2] else [])++if e.2=x then [e.1] else []):=by unfold qS;rw[AO,Be,CK,AB]
theorem sR(x:Nat):∀es:Wq,(qS es x).length<=2*es.length
 |[]=>An _
 |e::r=>by
  have J:=sR x r;have I:qS (e::r) x=((if e.1=x then [e.2] else [])++if e.2=x then [e.1] else [])++qS r x:=Be ..;have U:(if e.1=x then [e.2] else []).length<=1:=by split<;>simp
  have g:(if e.2=x then [e.1] else []).length<=1:=by split<;>simp
  rw[I,Ab,Ab,AD];omega
def i8{es:Wp}{x y:Nat}:y∈qS es x↔(x,y)∈es\/(y,x)∈es:=by
 unfold qS;rw[Bx];constructor
 .rintro⟨e,I,h⟩;rcases Aj.mp h with h|h
  .split at h
   .rename_i c;rw[Ad.mp h,<-c];exact .inl I
   .cases h
  .split at h
   .rename_i c;rw[Ad.mp h,<-c];exact .inr I
   .cases h
 .rintro(h|h)
  .exact{_,h,Am _ (by rw[Ar rfl];exact Ad.mpr rfl)}
  .exact{_,h,Ah _ (by rw[Ar rfl];exact Ad.mpr rfl)}
structure Nr{α:Type}(iG:α->Y)(L:qj)(nd:Addr)(ad:Nat->Addr)(pl:Wt)(f:Nat->List α)(kvs:List<|j8×Y)(L':qj):Prop where
 sub:qf L L'
 hd:L' nd=some (.KF kvs)
 at_:∀x∈pl,L' (ad x)=⇑((f x).map iG)
 new:∀x∈pl,L (ad x)=none
 inj:∀x∈pl,∀y∈pl,ad x=ad y->x=y
 val:∀x∈pl,xj kvs (.inl (x:Int))=some (.ref<|ad x)
 len:kvs.length<=pl.length
def Off(L:qj)(nd:Addr)(ad:Nat->Addr)(pl:Wt)(a:Addr):Prop:=L a=none/\nd≠a/\∀x∈pl,ad x≠a
section
variable {iG:α->Y}{f:Nat->List α}
def Nr.off(N:Nr iG L nd ad pl f kvs L'){a:Addr}(h:L' a=none):Off L nd ad pl a:={N.sub.none h,vh N.hd h,λx I=>vh (N.at_ x I) h}
theorem Nr.upd(N:Nr iG L nd ad pl f kvs L'){a:Addr}{o:LO}(h:Off L nd ad pl a):Nr iG L nd ad pl f kvs (qd L' a o):={N.sub.upd h.1,(qb h.2.1).trans N.hd,λx I=>(qb<|h.2.2 x I).trans<|N.at_ x I,N.new,N.inj,N.val,N.len}
def Nr.step(N:Nr iG L nd ad pl f kvs L')(WU:L nd=none){a:Addr}(h:L' a=none){x:Nat}(g:x∉pl)(o:f x=[]):Nr iG L nd (λy=>if y=x then a else ad y) (pl++[x]) f (wv kvs (.inl (x:Int))<|.ref a) (qd (qd L' a<|.lst []) nd<|.KF<|wv kvs (.inl (x:Int))<|.ref a):=by
 have na:=vh N.hd h;have U:∀{y},y∈pl++[x]->(y=x/\(if y=x then a else ad y)=a)\/(y∈pl/\(if y=x then a else ad y)=ad y):=λ{y} I=>by
  rcases Aj.mp I with I|I
  .exact .inr {I,Ap λe:y=x=>g<|e▸I}
  .have:=Ad.mp I;exact .inl {this,Ar this}
 have p:∀y∈pl,ad y≠nd:=λy I=>FH (N.at_ y I) N.hd λe=>by cases e
 refine{(N.sub.upd<|N.sub.none h).upd WU,q9,λy I=>?_,λy I=>?_,λy I z r e=>?_,λy I=>?_,?_}
 .rcases U I with⟨e,J⟩|⟨m,J⟩
  .show qd _ _ _ (if y=x then a else ad y)=_;rw[J,qb<|AE na,q9,e,o];rfl
  .show qd _ _ _ (if y=x then a else ad y)=_;rw[J,qb<|p y m,qb<|vh (N.at_ y m) h];exact N.at_ y m
 .show L (if y=x then a else ad y)=_;rcases U I with⟨e,J⟩|⟨m,J⟩
  .rw[J];exact N.sub.none h
  .rw[J];exact N.new y m
 .have e:=e;rcases U I with⟨t,J⟩|⟨m,J⟩<;>rcases U r with⟨C,j⟩|⟨l,j⟩<;>rw[J,j] at e
  .rw[t,C]
  .exact absurd e.symm<|vh (N.at_ z l) h
  .exact absurd e<|vh (N.at_ y m) h
  .exact N.inj y m z l e
 .rw[aw];rcases U I with⟨e,J⟩|⟨m,J⟩
  .show _=some (Y.ref<|if y=x then a else ad y);rw[J,Ar (by rw[e])]
  .show _=some (Y.ref<|if y=x then a else ad y);have ne:(Sum.inl (y:Int):j8)≠.inl (x:Int):=λz=>g (by rw[<-BB.mp (Ev z)];exact m);rw[J,Ap ne];exact N.val y m
 .have:=dX kvs (.inl (x:Int))<|.ref a;have:=N.len;rw[Ab,AF];omega
def Nr.app(N:Nr iG L nd ad pl f kvs L'){x:Nat}{v:α}(I:x∈pl):Nr iG L nd ad pl (λy=>if y=x then f y++[v] else f y) kvs (qd L' (ad x)<|.lst<|(f x).map iG++[iG v]):=by
 refine{N.sub.upd<|N.new x I,(qb (FH N.hd (N.at_ x I) λe=>by cases e)).trans N.hd,λy J=>?_,N.new,N.inj,N.val,N.len};by_cases c:y=x
 .subst c;rw[q9,Ar rfl,AC];rfl
 .show _=some (LO.lst<|(if y=x then f y++[v] else f y).map iG);rw[Ap c,qb λe=>c<|N.inj y J x I e];exact N.at_ y J
end
abbrev nI(n:Nat):Y:=.int (n:Int)
def Nr.nat{f:Nat->Wt}(N:Nr nI L nd ad pl f kvs L'):∀x∈pl,L' (ad x)=⇑(nY<|f x):=N.at_
structure Yz(pl:Wt)(es:Wp)(D:Wt)(fL:WA)(p:Nat)(ts:Wt):Prop where
 nd:D.Nodup
 inD:∀x∈D,x∈pl
 Zp:∀x∈ts,x∈pl
 sD:∀R,tW R->(∀e∈es,R e.1 e.2)->∀x∈D,R x<|fL x
 sT:∀R,tW R->(∀e∈es,R e.1 e.2)->∀x∈ts,R x p
 cl:∀x∈D,∀y∈qS es x,(y∈D/\fL y=fL x)\/(fL x=p/\y∈ts)
theorem Yz.start{es:Wp}{q p:Nat}(I:Yz pl es D fL q [])(hp:p∈pl):Yz pl es D fL p [p]:={I.nd,I.inD,λx J=>by rw[Ad.mp J];exact hp,I.sD,λR E _ x J=>by rw[Ad.mp J];exact E.r p,λx J y U=>.inl ((I.cl x J y U).elim id λh=>by cases h.2)}
def Yz.old{ts:Wt}{es:Wp}{p x:Nat}(I:Yz pl es D fL p<|ts++[x])(U:x∈D):Yz pl es D fL p ts:={I.nd,I.inD,λy J=>I.Zp y<|Am _ J,I.sD,λR E h y J=>I.sT R E h y<|Am _ J,λu g y J=>by
 rcases I.cl u g y J with h|⟨h1,h2⟩
 .exact .inl h
 .rcases Aj.mp h2 with h2|h2
  .exact .inr {(h1),h2}
  .have e:=Ad.mp h2;subst e;refine .inl {U,?_};rcases I.cl y U u (i8.mpr (i8.mp J).symm) with h|⟨h3,_⟩
   .exact h.2.symm
   .rw[h3,h1]}
theorem Yz.more{ts:Wt}{es:Wp}{p x:Nat}(l:∀e∈es,e.1∈pl/\e.2∈pl)(I:Yz pl es D fL p<|ts++[x])(o:x∉D):Yz pl es (D++[x]) (λy=>if y=x then p else fL y) p (ts++qS es x):=by
 have U:x∈ts++[x]:=Ah _<|Ad.mpr rfl;have j:∀{y},y∈D->(if y=x then p else fL y)=fL y:=λ{y} J=>Ap λe:y=x=>o<|e▸J;refine{AL.mpr {I.nd,AG.mpr {(AZ),BU},λa r b C e=>?_},λy J=>?_,λy J=>?_,λR E h y J=>?_,λR E h y J=>?_,λu g y J=>?_}
 .rw[Ad.mp C] at e;exact o<|e▸r
 .rcases Aj.mp J with J|J
  .exact I.inD y J
  .rw[Ad.mp J];exact I.Zp x U
 .rcases Aj.mp J with J|J
  .exact I.Zp y<|Am _ J
  .exact(i8.mp J).elim (λh=>(l _ h).2) λh=>(l _ h).1
 .show R y (if y=x then p else fL y);rcases Aj.mp J with J|J
  .rw[j J];exact I.sD R E h y J
  .rw[Ar<|Ad.mp J,Ad.mp J];exact I.sT R E h x U
 .rcases Aj.mp J with J|J
  .exact I.sT R E h y<|Am _ J
  .exact E.t ((i8.mp J).elim (λz=>E.s<|h _ z) λz=>h _ z)<|I.sT R E h x U
 .show(y∈D++[x]/\(if y=x then p else fL y)=(if u=x then p else fL u))\/((if u=x then p else fL u)=p/\y∈ts++qS es x);rcases Aj.mp g with g|g
  .rw[j g];rcases I.cl u g y J with⟨h1,h2⟩|⟨h1,h2⟩
   .exact .inl {Am _ h1,by rw[j h1];exact h2}
   .rcases Aj.mp h2 with h2|h2
    .exact .inr {h1,Am _ h2}
    .exact .inl {Ah _ h2,by rw[Ar<|Ad.mp h2];exact h1.symm}
  .have e:=Ad.mp g;subst e;exact .inr {Ar rfl,Ah _ J}
structure Zz(pl:Wt)(es:Wp)(kvs:List<|j8×Y)(fL:WA):Prop where
 val:∀x∈pl,xj kvs (.inl (x:Int))=some (.int (fL x:Int))
 YL:∀e∈es,fL e.1=fL e.2
 rep:∀R,tW R->(∀e∈es,R e.1 e.2)->∀x∈pl,R x<|fL x
 hd:∀t,pl[0]?=some t->fL t=t
inductive dG(ys:Z0)(L:qj)(Q:YK):Prop
 |mk:∀P E,∀pl:Wt,∀es:Wq,(ys=[.ref P,.ref E])->(L P=⇑(nY pl))->(L E=⇑(qt es))->(pl.Nodup)->((∀e∈es,e.1∈pl/\e.2∈pl))->(pl.length<=1000)->(es.length<=2000)->(∀d kvs fL,L d=none->Zz pl es kvs fL->Q (.ref d) (qd L d<|.KF kvs))->dG ys L Q
structure Hq(L:qj)(nd ld:Addr)(ad:Nat->Addr)(pl:Wt)(es:Wp)(kvs:List<|j8×Y)(i p:Nat)(D:Wt)(fL:WA)(kvl:List<|j8×Y)(ts:Wt)(L':qj):Prop where
 N:Nr nI L nd ad pl (qS es) kvs L'
 hl:L' ld=some (.KF kvl)
 val:∀x:Nat,xj kvl (.inl (x:Int))=if x∈D then some (.int (fL x:Int)) else none
 len:kvl.length<=D.length
 I:Yz pl es D fL p ts
 Y6:∀x∈pl.take i,x∈D
 hd:∀t,pl[0]?=some t->t∈D->fL t=t
def Vb{a b k t:Nat}(h:b+1<=a)(I:n+1<=k):(a-(b+1))*k+(t+n)<(a-b)*k+(t+1):=by
 have e:a-b=(a-(b+1))+1:=by omega
 rw[e,Nat.succ_mul];omega
inductive Gv(L:qj)(P E nd ld:Addr)(ad:Nat->Addr)(pl:Wt)(es:Wp)(kvs:List<|j8×Y)(c4:WM)(i p:Nat)(k:WM->WM->Wt->Wt->qj->Prop)(τ:jd)(L':qj):Prop
 |mk (D:Wt) (fL:WA) (kvl:List<|j8×Y) (ts:Wt) (c3 c6 c7:WM):τ=[some<|.ref P,some<|.ref E,some<|.ref nd,c3,c4,some<|.ref ld,c6,c7]->Hq L nd ld ad pl es kvs i p D fL kvl ts L'->k c3 c6 D ts L'->Gv L P E nd ld ad pl es kvs c4 i p k τ L'
theorem Vc:ZY dG g9.1 8:=by
 rintro ys L Q ⟨P,E,j,l,rfl,hP,hE,bb,he,zp,ze,q⟩;have big:∀m:Nat,m<=5000000->m<sizeLine:=λm h=>Bj h (by decide);intro nd WU;have s0:qf L (qd L nd<|.KF []):=By WU;refine j7 (s0 _ _ hP) λkeep kp=>xm {λi τ L'=>∃ad C c3,τ=[some<|.ref P,some<|.ref E,some<|.ref nd,c3,none,none,none,none]/\Nr nI L nd ad (j.take i) (λ_=>[]) C L',{λ_=>nd,[],_,rfl,s0,q9,(λx J=>by cases J),(λx J=>by cases J),(λx J=>by cases J),(λx J=>by cases J),A5 _},?_,?_,?_}
 .rintro i τ L' ⟨ad,C,c3,rfl,N⟩;exact kp _ (by rw[N.sub _ _ hP,s0 _ _ hP])
 .rintro i y τ L' hy ⟨ad,C,c3,rfl,N⟩;obtain⟨x,ex,rfl⟩:=cX hy;have et:j.take (i+1)=j.take i++[x]:=by rw[A4,ex];rfl
  have J:x∉j.take i:=λh=>by have n2:(j.take<|i+1).Nodup:=bb.sublist<|Ds ..;rw[et] at n2;exact(AL.mp n2).2.2 x h x (Ad.mpr rfl) rfl
  intro a ha;have nl:=N.len;rw[AR] at nl;refine zj ((qb<|vh N.hd ha).trans N.hd) {big _ (by omega),?_};have N2:=N.step WU ha J rfl;rw[<-et] at N2;exact{_,ES _,_,_,_,rfl,N2}
 rintro τ L1 ⟨ad,C,c3,rfl,N⟩;rw[jx,AY] at N;refine j7 (N.sub _ _ hE) λkeep kp=>xm {λi τ L'=>∃c3 c4,τ=[some<|.ref P,some<|.ref E,some<|.ref nd,c3,c4,none,none,none]/\Nr nI L nd ad j (qS<|l.take i) C L',{_,_,rfl,N},?_,?_,?_}
 .rintro i τ L' ⟨c3,c4,rfl,M⟩;exact kp _ (by rw[M.sub _ _ hE,N.sub _ _ hE])
 .rintro i y τ L' hy ⟨c3,c4,rfl,M⟩;rw[Aq] at hy;obtain⟨⟨u,v⟩,ex,rfl⟩:=AA.mp hy;obtain⟨hu,hv⟩:=he _<|Au ex;have hu:u∈j:=hu;have hv:v∈j:=hv;have et:l.take (i+1)=l.take i++[(u,v)]:=by rw[A4,ex];rfl
  have li:(l.take i).length<=2000:=by rw[AR];omega
  have nl:=λx=>sR x<|l.take i;have M1:=M.app (v:=v) hu;have M2:=M1.app (v:=u) hv;refine zj M.hd (ql (M.val u hu) (qc (M.nat u hu) (qm (M.nat u hu) {big _ (by rw[jx];have:=nl u;omega),?_})));refine zj M1.hd<|ql (M1.val v hv)<|qc (M1.nat v hv)<|qm (M1.nat v hv) {big _ ?_,?_}
  .rw[jx];have:=nl v;split
   .rw[Ab,AF];omega
   .omega
  .refine{_,ES _,_,_,rfl,?_};rw[et];have ef:qS (l.take i++[(u,v)])=λy=>if y=v then(if y=u then qS (l.take i) y++[v] else qS (l.take i) y)++[u] else if y=u then qS (l.take i) y++[v] else qS (l.take i) y:=funext λy=>by
    rw[Va];show _++((if u=y then [v] else [])++if v=y then [u] else [])=_;by_cases c1:u=y<;>by_cases c2:v=y
    .rw[Ar c1,Ar c2,Ar c2.symm,Ar c1.symm,Ay]
    .rw[Ar c1,Ap c2,Ap<|AE c2,Ar c1.symm,AB]
    .rw[Ap c1,Ar c2,Ar c2.symm,Ap<|AE c1,CP]
    .rw[Ap c1,Ap c2,Ap<|AE c2,Ap<|AE c1,AB,AB]
   rw[ef];exact M2
 rintro τ L2 ⟨bg,c4,rfl,M⟩;have lp:(qt l).length=l.length:=Ae ..;rw[lp,AY] at M;intro ld bc;have ol:=M.off bc;have W0:Hq L nd ld ad j l C 0 0 [] id [] [] (qd L2 ld<|.KF []):={M.upd ol,q9,λx=>by rw[Ap AZ];rfl,An _,{BU,(λx J=>by cases J),(λx J=>by cases J),(λ_ _ _ x J=>by cases J),(λ_ _ _ x J=>by cases J),λx J=>by cases J},(λx J=>by cases J),λt _ h=>by cases h};have ac:=W0.N.sub _ _ hP;refine j7 ac λkeep kp=>xm {λi=>Gv L P E nd ld ad j l C c4 i 0 λ_ _ _ ts _=>ts=[],{_,_,_,_,_,_,_,rfl,W0,rfl},?_,?_,?_}
 .rintro i τ L' ⟨D,T,U,ts,c3,c6,c7,rfl,W,_⟩;exact kp _ (by rw[W.N.sub _ _ hP,ac])
 .rintro i y τ L' hy ⟨D,T,U,_,c3,c6,c7,rfl,W,rfl⟩;obtain⟨p,ep,rfl⟩:=cX hy;have bd:=Au ep;have et:j.take (i+1)=j.take i++[p]:=by rw[A4,ep];rfl
  intro td al;have ot:=W.N.off al;have a3:ld≠td:=vh W.hl al;obtain⟨k,hk⟩:∃k,k=2*l.length+1:={_,rfl};refine{λm=>Gv L P E nd ld ad j l C c4 i p λc3 c6 D ts L'=>c3=some (.int (p:Int))/\c6=some (.ref td)/\L' td=⇑(nY ts)/\(p∈D\/p∈ts)/\m=(j.length-D.length)*k+ts.length/\m<=j.length*k+1,{_,D,T,U,[p],_,_,_,rfl,{W.N.upd ot,(qb a3).trans W.hl,W.val,W.len,W.I.start bd,W.Y6,W.hd},rfl,rfl,q9,.inr<|Ad.mpr rfl,rfl,?_},?_}
  .have:=Nat.mul_le_mul_right k<|EO j.length D.length;rw[AF];omega
  rintro m τ L3 ⟨D,T,U,ts,_,_,c7,rfl,W,rfl,rfl,ht,a5,rfl,hm⟩;intro e1 a4;refine wq (n:=0) (m:=0) (by decide) (By a4 _ _ ht) q9 (gF ts) (.nil:Paired (jo _ 0) _ []) ?_;have n1:td≠e1:=vh ht a4;have n2:ld≠e1:=vh W.hl a4;replace ht:=(qb (o:=.lst []) n1).trans ht;replace W:Hq L nd ld ad j l C i p D T U ts (qd L3 e1<|.lst []):={W.N.upd<|W.N.off a4,(qb n2).trans W.hl,W.val,W.len,W.I,W.Y6,W.hd};generalize qd L3 e1 (.lst [])=L4 at W ht ⊢;show ao (!(Da.eqs (eL ts) [])) _ _;rw[J2];rcases CS ts with rfl|⟨g,x,rfl⟩
  .refine jv rfl {_,ES _,D,T,U,_,_,_,_,rfl,{W.N,W.hl,W.val,W.len,{W.I.nd,W.I.inD,W.I.Zp,W.I.sD,(λ_ _ _ x J=>by cases J),λx J y hy=>.inl ((W.I.cl x J y hy).elim id λh=>by cases h.2)},λx J=>?_,W.hd},rfl};rw[et] at J;rcases Aj.mp J with J|J
   .exact W.Y6 x J
   .rw[Ad.mp J];exact a5.elim id λh=>by cases h
  .rw[CT] at *;have ne:g++[x]≠[]:=by simp
   rw[Ao ne];refine xq rfl {λav L'=>∃m',m'<(j.length-D.length)*k+(g++[x]).length/\Gv L P E nd ld ad j l C c4 i p (λc3 c6 D ts L'=>c3=some (.int (p:Int))/\c6=some (.ref td)/\L' td=⇑(nY ts)/\(p∈D\/p∈ts)/\m'=(j.length-D.length)*k+ts.length/\m'<=j.length*k+1) av L',λav L' h=>h,?_};rw[aT] at ht;refine tT ht ?_;have N5:=W.N.upd (o:=.lst<|nY g) ot;have h5:qd L4 td (.lst<|nY g) ld=some (.KF U):=(qb a3).trans W.hl;have t5:qd L4 td (.lst<|nY g) td=⇑(nY g):=q9;generalize qd L4 td (.lst<|nY g)=L5 at N5 h5 t5 ⊢;have be:(g++[x]).length=g.length+1:=by rw[Ab,AF]
   rw[be] at hm ⊢;have ev:=W.val x;have dl:=aE D j W.I.nd W.I.inD;refine zj h5 ?_;by_cases J:x∈D
   .rw[Ar J] at ev;refine jv (by rw[ev];rfl) {_,ES _,_,(by omega:(j.length-D.length)*k+g.length<_),D,T,U,g,_,_,_,rfl,{N5,h5,W.val,W.len,W.I.old J,W.Y6,W.hd},rfl,rfl,t5,?_,rfl,by omega};rcases a5 with h|h
    .exact .inl h
    .rcases Aj.mp h with h|h
     .exact .inr h
     .rw[Ad.mp h];exact .inl J
   .rw[Ap J] at ev;refine xq (by rw[ev];rfl) ?_;have kl:=W.len;refine zj h5 {big _ (by omega),?_};have ox:x∈j:=W.I.Zp x<|Ah _<|Ad.mpr rfl;have N6:=N5.upd (o:=.KF<|wv U (.inl (x:Int))<|.int (p:Int)) ol;have t6:qd L5 ld (.KF<|wv U (.inl (x:Int))<|.int (p:Int)) td=⇑(nY g):=(qb<|AE a3).trans t5;have h6:qd L5 ld (.KF<|wv U (.inl (x:Int))<|.int (p:Int)) ld=some (.KF<|wv U (.inl (x:Int))<|.int (p:Int)):=q9;generalize qd L5 ld (.KF<|wv U (.inl (x:Int))<|.int (p:Int))=L6 at N6 t6 h6 ⊢;have I':=W.I.more he J;have aL:=aE _ j I'.nd I'.inD;rw[Ab,AF] at aL;have nl:=sR x l;have lt:=Vb (a:=j.length) (b:=D.length) (k:=k) (t:=g.length) (n:=(qS l x).length) aL (by omega);have mk:j.length*k<=1000*4001:=Nat.mul_le_mul zp (by omega);refine qc t6<|zj N6.hd<|ql (N6.val x ox)<|qm t6<|qm (N6.nat x ox) {Bo<|big _ ?_,?_}
    .rw[jx,jx];omega
    .refine{_,ES _,_,lt,D++[x],λy=>if y=x then p else T y,_,g++qS l x,_,_,_,rfl,{N6.upd ot,(qb a3).trans h6,λy=>?_,?_,I',λy hy=>Am _<|W.Y6 y hy,λt a1 bf=>?_},rfl,rfl,by rw[q9,aT],?_,by rw[Ab,Ab,AF],by omega}
     .rw[aw];by_cases e:y=x
      .subst e;rw[Ar rfl,Ar<|Ah _<|Ad.mpr rfl,Ar rfl]
      .rw[Ap λz=>e<|BB.mp<|Ev z,W.val,Ap e];by_cases h:y∈D
       .rw[Ar h,Ar<|Am _ h]
       .rw[Ap h,Ap λz=>(Aj.mp z).elim h λz=>e<|Ad.mp z]
     .have:=dX U (.inl (x:Int))<|.int (p:Int);rw[Ab,AF];omega
     .show(if t=x then p else T t)=t;by_cases c:t=x
      .rw[Ar c];cases i with
       |zero=>rw[ep] at a1;exact AJ a1
       |succ i=>
        refine absurd (W.Y6 t ?_)<|c▸J;cases j with|nil=>cases a1|cons a r=>cases a1;exact As ..
      .rw[Ap c];refine W.hd t a1 ?_;rcases Aj.mp bf with h|h
       .exact h
       .exact absurd (Ad.mp h) c
     .rcases a5 with h|h
      .exact .inl<|Am _ h
      .rcases Aj.mp h with h|h
       .exact .inr<|Am _ h
       .exact .inl<|Ah _ h
 .rintro τ L3 ⟨D,T,U,_,c3,c6,c7,rfl,W,rfl⟩;have a2:=W.Y6;rw[jx,AY] at a2;refine jI (W.N.sub.put W.hl)<|q ld U T ol.1 {λx J=>by rw[W.val,Ar<|a2 x J],λe ba=>?_,λR E h x J=>W.I.sD R E h x<|a2 x J,λt ht=>W.hd t ht<|a2 t<|Au ht};rcases W.I.cl e.1 (a2 _ (he e ba).1) e.2 (i8.mpr<|.inl ba) with h|h
  .exact h.2.symm
  .cases h.2
def One(pl:Wt)(es:Wp):Prop:=∀R,tW R->(∀e∈es,R e.1 e.2)->∀a∈pl,∀b∈pl,R a b
inductive dw(ys:Z0)(L:qj)(Q:YK):Prop
 |mk:∀a l c,∀wd:List (WO),(ys=[e9 a l c])->(L a=⇑(dY wd))->(wd.length<=1000)->(∀p,L p=none->Q (.ref p) (qd L p<|.lst<|nY<|qu wd))->dw ys L Q
def yH:ZY dw gh.1 1:=by
 rintro ys L Q ⟨a,l,c,J,rfl,g,j,q⟩;refine qc g {{A1 _,by rw[aN];omega},?_};rw[aN,B9];refine rS (λi I=>I=nY (eV fN J i)) (Bj j (by decide)) rfl ?_ ?_
 .rintro i I o rfl;obtain⟨k,U⟩:∃k,J[i]?=some k:={_,Ai o};refine qc g<|ql (UQ U) ?_;cases k with
  |none=>exact{L,ES _,rfl,by rw[wz U,Ap (by exact AI),AB]}
  |some k=>
   have yes:jP (λI r=>r=L/\I=nY (eV fN J<|i+1)) (nY (eV fN J i)++[.int<|0+(i:Int)]) L:={L,ES _,rfl,by rw[wz U,Ar<|show fN (some k)=true from rfl,aT,EC];rfl};cases k with|lf t n=>exact yes|nd e T j'=>exact yes
 .rintro I rfl p C;exact k8<|q p C
section
variable {w:WF}{K:Type} [DecidableEq K]{knd:KeyKind prog w K}
def Vd{d:Addr}{kvs:List<|K×WC}{k:K}{key x:WC}(I:knd.is k key=true)(C:s.heap.DictOf knd d kvs)(hz:kvs.length<=sizeLine)
 (h1:∀v,valueAt kvs k=some v->Q v {s with toks:=s.toks+1})
 (h2:valueAt kvs k=none->∀g,g.DictOf knd d (kvs++[(k,x)])->Heap.SameBut d s.heap g->Q x {s with heap:=g,toks:=s.toks+1}):wpAny (model prog w) A (dictSetDefault d key x) Q E s:=by
 have mp:=C.mapOf;obtain⟨o,J,ep,j,hc,hd,T,p,hn⟩:=C;have le:J.size<=sizeLine:=by have:=p.length;rw[AW] at this;omega
 cases ev:valueAt kvs k with
 |some v=>exact wpAny_dictSetDefault_of (hz:=λo' a1 n' a b=>by rw[j] at a;cases a;rw[hd] at b;cases b;exact le) I mp h1 λe=>by rw[ev] at e;cases e
 |none=>
  have no:k∉kvs.map (·.1):=λr=>by obtain⟨U,m,e⟩:=Ba.mp r;obtain⟨i,hi⟩:=BZ m;rw[valueAt_of_get hn (v:=U.2) (by rw[hi,<-e])] at ev;cases ev
  have fi:(J.findIdx? λe=>knd.is k e.key)=none:=by
   have e1:(J.findIdx? λe=>knd.is k e.key)=kvs.findIdx? λU=>decide (U.1=k):=by rw[<-p.findIdx k];obtain⟨l⟩:=J;simp
   rw[e1,List.findIdx?_eq_none_iff];intro U m;exact Ao λe=>no<|Ba.mpr {(U),m,e}
  refine Bc ?_;refine Aa<|knd.pyHash I<|Aa<|wpAny_dictFind_of (s:={s with toks:=s.toks+1}) I j hd T ?_;rw[fi];refine Aa<|Bv<|Aa<|wpAny_updateDictKeys (hz:=le) (s:={s with toks:=s.toks+1}) j hd<|Ak<|h2 ev _ {_,_,ep+1,Fa _ j<|Obj.isFreed_of_dict<|Obj.data_mapDictKeys hd _,hc.mapDictKeys _,Obj.data_mapDictKeys hd _,T.push I _,?_,?_}<|ya ..
  .have:=p.append I (knd.hash k) x;obtain⟨l⟩:=J;simpa using this
  .rw[AC,AL];refine{hn,AG.mpr {(AZ),BU},λa ha b t e=>no ?_};have t:b=k:=Ad.mp t;rw[<-t,<-e];exact ha
def Ve{d:Addr}{kvs:List<|K×WC}{k:K}{key x:WC}(I:knd.is k key=true)(U:(d==sysModules)=false):
 MeetsIn prog w (Builtin.«dict.setdefault» ⟨[.ref d,key,x],[]⟩) (λ_ R s=>s.heap.DictOf knd d kvs/\kvs.length<=sizeLine/\(∀v,valueAt kvs k=some v->R (.ok<|.ret v) {s with toks:=s.toks+1})/\
  (valueAt kvs k=none->∀g,g.DictOf knd d (kvs++[(k,x)])->Heap.SameBut d s.heap g->R (.ok<|.ret x) {s with heap:=g,toks:=s.toks+1})):=
 .of_wp λA R s ⟨J,j,h1,h2⟩=>by refine Aa<|Aa<|wpAny_notOrdered_dict J.typeIs<|Ak ?_;show wpAny _ _ (if (d==sysModules)=true then _ else(dictSetDefault d key x >>= _)) _ _ s;rw[Ap (by rw[U];exact AI)];exact Aa<|Vd I J j (λv l=>Ak {v,rfl,h1 v l}) λo g a b=>Ak {x,rfl,h2 o g a b}
end
def Vf(td ty tx:TE):TE:=λσ H Q=>td σ H λx H1=>∃a,x=.ref a/\GO H1 a/\ty σ H1 λy H2=>tx σ H2 λz I=>∃kvs k,I a=some (.dK kvs)/\y=kV k/\kvs.length<sizeLine/\
 (∀v,am kvs k=some v->Q v I)/\(am kvs k=none->Q z (upd I a<|.dK<|dz kvs k z))
def Vg{f:Expr}{td tx:TE}(ho:PE X o td)(he:PE X e ty)(hf:PE X f tx)(m:M2 X o "setdefault" apos e f eK):PE X (.Call (.Attribute o "setdefault" apos) [e,f] [] eK) (Vf td ty tx):=by
 intro J s j H Q I h;refine wpAny_Call_method m.base m.ZL m.line Em DL PySem.F.type_dict_setdefault<|aD (ho J s j H _ I h) λu s1 ⟨x,H1,I1,rx,a,ex,d,q1⟩=>?_;subst ex;obtain rfl:u=Value.ref a:=rx;obtain⟨t1,t2,_⟩:=Ib I1 d;refine{t1,t2,?_};rw[m.trees];refine EQ rfl (Fh (yp (aD (he J s1 j H1 _ I1 q1) λiv s2 ⟨y,H2,I2,ry,q2⟩=>
  yp (aD (hf J s2 j H2 _ I2 q2) λfv s3 ⟨z,H3,p,rz,kvs,k,e3,ey,l,q4,q5⟩=>Fg ?_))))
 subst ey;obtain⟨zl,hd,r,rel,t⟩:=rH p.GT e3;have hl:(dz kvs k z).length<=sizeLine:=by have:=bx kvs k z;omega
 refine call_meetsIn DL t.typeIs PySem.F.entry_dict_setdefault (PySem.F.args_dict_setdefault_3 _ _ _) (Ve (kvs:=r) (gu ry) hd) {t,by rw[<-rel.length];exact zl,λv U=>?_,λU g C sg=>?_}
 .have:=rel.val k;rw[U] at this;cases ev:am kvs k with
  |none=>rw[ev] at this;exact this.elim
  |some T=>
   rw[ev] at this;exact{T,H3,p.tok _,this,q4 T ev}
 .have nv:am kvs k=none:=by have:=rel.val k;rw[U] at this;cases ev:am kvs k with|none=>rfl|some T=>rw[ev] at this;exact this.elim
  have a1:∃q,g.get? a=some q:=let ⟨q,_,_,hq,_⟩:=C;⟨q,hq⟩;have st:stored r k fv=r++[(k,fv)]:=by unfold stored;rw[Ap];intro ha;obtain⟨kv,m1,m2⟩:=List.any_eq_true.mp ha;obtain⟨i,hi⟩:=BZ m1;obtain⟨_,_,_,_,_,_,_,_,nd⟩:=t;rw[valueAt_of_get nd (v:=kv.2) (by rw[hi,<-of_decide_eq_true m2])] at U;cases U
  rw[<-st] at C;exact{z,_,mV p (by rw[e3];exact True.intro) sg a1<|ss hl hd (rel.put k rz) C,rz,q5 nv}
def Vh(tk tv:TE):TE:=λσ H Q=>∀p,H p=none->tk σ (upd H p<|.dK []) λy H1=>tv σ H1 λz H2=>∃I,y=kV I/\H2 p=some (.dK [])/\Q (.ref p) (upd H2 p<|.dK<|dz [] I z)
def Vi{k v:Expr}{tk tv:TE}(C:PE X k tk)(T:PE X v tv):PE X (.Dict [some k] [v] pos) (Vh tk tv):=by
 intro J s l H Q I h;refine wpAny_Dict_pairs (knd:=xn X.prog X.w) (pairs:=[(eval k X.env,do let x <-eval v X.env;standAt pos;pure x)]) rfl (List.cons_ne_nil _ _) (by show 1<=15;decide) ?_;have I0:=I.laid (a:=↥s) (o:=.dK []) (t':=s.toks) (λ_ _ q=>sy _ q) (An _)<|pF s.heap I.big;refine evalPairs_cons<|aD (C J _ l _ _ I0<|h _<|I.GT.fresh<|An _) λkv s1 ⟨y,H1,I1,ry,q1⟩=>?_;refine Aa<|aD (T J s1 l H1 _ I1 q1) λvv s2 ⟨z,H2,p,rz,U,ey,r,q2⟩=>Aa<|wpAny_standAt<|Ak<|evalPairs_nil ?_;subst ey;obtain⟨zl,hd,vs,rel,dd⟩:=rH p.GT r;have rp:=rel.put U rz;cases rel;refine{[(U,vv)],{gu ry,rfl,True.intro},dd,λg t sg=>?_};have j:∃q,g.get? ↥s=some q:=let ⟨q,_,_,hq,_⟩:=t;⟨q,hq⟩;have hl:(dz ([]:List<|j8×V) U z).length<=sizeLine:=by have:=bx ([]:List<|j8×V) U z;exact AK this (by decide)
 exact{.ref _,_,mV p (by rw[r];exact True.intro) sg j<|ss hl hd rp t,rfl,q2}
def J'(td ti tx:xu)(τ:jd)(L:qj)(Q:YK):Prop:=td τ L λx L1=>match x with
 |.ref a=>jG L1 a λ_=>ti τ L1 λy L2=>tx τ L2 λz L3=>match yA y with
  |some k=>jG L3 a λkvs=>kvs.length<sizeLine/\(∀v,xj kvs k=some v->Q v L3)/\(xj kvs k=none->Q z (qd L3 a<|.KF<|wv kvs k z))
  |none=>False
 |_=>False
def zR{f:Expr}{tx:xu}(ho:QE X o td)(hi:QE X e ti)(hf:QE X f tx)(m:M2 X o "setdefault" apos e f eK:=by exact{(rfl),rfl,rfl,rfl}):QE X (.Call (.Attribute o "setdefault" apos) [e,f] [] eK) (J' td ti tx):=EV (Vg ho hi hf m) λσ H Q T L Q3 rs rl z k=>
 ⟨T,L,_,rs,rl,z,λv H1 x L1 t j a1 l=>by
  split at l
  .rename_i a;obtain⟨ac,e0,l⟩:=kz l;obtain⟨a2,a3,_⟩:=j a _ e0;refine{a,a1,.inl {a2,.inl a3},T,L1,_,rs.ts t,j,l,λw H2 y L2 t2 a4 a5 z2=>{T,L2,_,rs.ts<|t.trans t2,a4,z2,λu H3 yz L3 t3 J p z3=>?_}};split at z3
   .rename_i U ek;obtain⟨I,e,hl,z4,z5⟩:=kz z3;obtain⟨xs,e2,r⟩:=J a _ e;refine{xs,U,e2,dP ek a5,by rw[<-o8 r];exact hl,λv g=>?_,λg=>?_}
    .cases ev:xj I U with
     |none=>rw[rB r ev] at g;cases g
     |some yv=>
      obtain⟨xv,ex,rx⟩:=a9 r ev;rw[ex] at g;cases g;exact k _ H3 _ L3 ((t.trans t2).trans t3) J rx (z4 yv ev)
    .have nv:xj I U=none:=by
      cases ev:xj I U with
      |none=>rfl
      |some yv=>
       obtain⟨xv,ex,_⟩:=a9 r ev;rw[ex] at g;cases g
     have C:j5 H3 (upd H3 a<|.dK<|dz xs U u):=j5.KF e2;refine k _ _ _ (qd L3 a<|.KF<|wv I U yz) (((t.trans t2).trans t3).trans C) (λb w eb=>?_) (p.ts C)<|z5 nv;by_cases c:b=a
     .subst c;rw[q9] at eb;cases eb;exact{_,zf,EY (oC r U p) λ_ _ ⟨h1,h2⟩=>{h1,h2.ts C}}
     .rw[qb c] at eb;exact(J b w eb).keep C (qo c)
   .exact z3.elim
  .exact l.elim⟩
def Vj(tk tv:xu)(τ:jd)(L:qj)(Q:YK):Prop:=∀p,L p=none->tk τ (qd L p<|.KF []) λy L1=>tv τ L1 λz L2=>match yA y with
 |some k=>L2 p=some (.KF [])/\Q (.ref p) (qd L2 p<|.KF<|wv [] k z)
 |none=>False
def Vk{k v:Expr}{tk tv:xu}(hk:QE X k tk)(hv:QE X v tv):QE X (.Dict [some k] [v] pos) (Vj tk tv):=EV (Vi hk hv) λσ H Q t L Q3 C T z kq=>λp hp=>by
 have J:j5 H (upd H p<|.dK []):=EU hp;refine{t,qd L p<|.KF [],_,C.ts J,λa u e=>?_,z p<|T.none hp,λw H1 y L1 t1 g j z1=>{t,L1,_,C.ts<|J.trans t1,g,z1,λu H2 yz L2 t2 I l o=>?_}}
 .by_cases c:a=p
  .subst c;rw[q9] at e;cases e;exact{[],zf,.nil}
  .rw[qb c] at e;exact(T a u e).keep J (qo c)
 .split at o
  .rename_i U ek;obtain⟨e,q⟩:=o;obtain⟨xs,e2,pr⟩:=I p _ e;cases pr;have r:j5 H2 (upd H2 p<|.dK<|dz [] U u):=j5.KF e2;refine{U,dP ek j,e2,kq _ _ _ (qd L2 p<|.KF<|wv [] U yz) (((J.trans t1).trans t2).trans r) (λb w eb=>?_) (show RV X.g3 _ (.ref p) (.ref p) from rfl) q};by_cases c:b=p
   .subst c;rw[q9] at eb;cases eb;exact{_,zf,EY (oC .nil U l) λ_ _ ⟨h1,h2⟩=>{h1,h2.ts r}}
   .rw[qb c] at eb;exact(I b w eb).keep r (qo c)
  .exact o.elim
def eQ:RD "neighbours_by" eU 0 ["edges","near","number","edge"] (λ_=>True):={_,λV B c _ _ _ _ _ _ _ I hN J=>(qa (S_ 1 hN gR)<|qa (vf wh rfl (cN rfl B.bf<|qv 0) (kn (n:=2) rfl<|z0 (G_ 2 hN)<|z0 (G_ 3 hN) xb)<|qa (z9<|qz (zR (qv 1) (J_ 3)<|zh xd)<|x6<|zg<|ve (qv 2)<|J_ 3)<|qe<|z9<|qz (zR (qv 1) (J_ 3)<|zh xd)<|x6<|zg<|ve (qv 2)<|J_ 3)<|qe<|za<|qv 1)}
def rE(I:km):RD "path_by" qF 1 ["edges","start","goal","near","paths","due","here","number","place"] (λV=>Jj V I):={_,λV B c _ _ _ _ _ _ _ U hN J=>(qa (S_ 3 hN<|C_ c U<|x6<|qv 0)<|qa (S_ 4 hN<|Vk (qv 1)<|zh xd)<|qa (S_ 5 hN<|zh<|x6<|qv 1)<|qa (cx wh (js (xG J) (qv 2) (qv 4) (by with_unfolding_all rfl))<|qa (S_ 6 hN<|sw<|qv 5)<|qe<|vf wh rfl (jq<|vk J (qv 3) (qv 6) λ_ _=>rfl) (kn (n:=2) rfl<|z0 (G_ 7 hN)<|z0 (G_ 8 hN) xb)<|qe<|zy (js (xG J) (qv 8) (qv 4) (by with_unfolding_all rfl)) (qa (eO J (qv 4) (qv 8)<|qr jm (vk J (qv 4) (qv 6) λ_ _=>rfl)<|zh<|x6<|qv 7)<|qe<|z9<|qz (qv 5)<|x6<|qv 8) zb)<|qe<|za<|vk J (qv 4) (qv 2) λ_ _=>rfl)}
def o6:Nat->Wq->Nat->Wq
 |_,[],_=>[]
 |n,e::r,x=>(if e.1=x then [(n,e.2)] else [])++(if e.2=x then [(n,e.1)] else [])++o6 (n+1) r x
theorem uU(x:Nat)(e:WB):∀(n:Nat) (es:Wp),o6 n (es++[e]) x=o6 n es x++((if e.1=x then [(n+es.length,e.2)] else [])++if e.2=x then [(n+es.length,e.1)] else [])
 |n,[]=>by show _++_++[]=[]++_;rw[AB,CP];rfl
 |n,d::r=>by have I:=uU x e (n+1) r;show _++_++o6 (n+1) (r++[e]) x=_++_++o6 (n+1) r x++_;rw[I,Ay,Ay,Ay,AD,show n+1+r.length=n+(r.length+1) by omega]
theorem sk(x:Nat):∀(n:Nat) (es:Wp),(o6 n es x).length<=2*es.length
 |_,[]=>An _
 |n,e::r=>by
  have I:=sk x (n+1) r;have J:(if e.1=x then [(n,e.2)] else []).length<=1:=by split<;>simp
  have U:(if e.2=x then [(n,e.1)] else []).length<=1:=by split<;>simp
  show(((if e.1=x then [(n,e.2)] else [])++(if e.2=x then [(n,e.1)] else []))++o6 (n+1) r x).length<=_;rw[Ab,Ab,AD];omega
theorem mQ{x k y:Nat}:∀{n:Nat} {es:Wp},(k,y)∈o6 n es x↔∃j,k=n+j/\(es[j]?=some (x,y)\/es[j]?=some (y,x))
 |n,[]=>{λh=>(by cases h),λ⟨j,_,h⟩=>by simp at h}
 |n,e::r=>by
  have I:=mQ (x:=x) (k:=k) (y:=y) (n:=n+1) (es:=r);show(k,y)∈_++_++o6 (n+1) r x↔_;rw[Aj,Aj,I];constructor
  .rintro((h|h)|⟨j,h1,h2⟩)
   .split at h
    .rename_i c;cases Ad.mp h;exact{0,rfl,.inl (by rw[<-c];rfl)}
    .cases h
   .split at h
    .rename_i c;cases Ad.mp h;exact{0,rfl,.inr (by rw[<-c];rfl)}
    .cases h
   .exact{j+1,by omega,h2}
  .rintro⟨j,h1,h2⟩;cases j with
   |zero=>
    refine .inl<|h2.imp (λh=>?_) λh=>?_
    .cases h;rw[Ar rfl,h1];exact Ad.mpr rfl
    .cases h;rw[Ar rfl,h1];exact Ad.mpr rfl
   |succ j=>exact .inr {j,by omega,h2}
structure Nq(L:qj)(nd:Addr)(ad:Nat->Addr)(pl:Wt)(f:Nat->Wq)(kvs:List<|j8×Y)(L':qj):Prop extends Nr jM L nd ad pl f kvs L' where
 out:∀x:Nat,x∉pl->xj kvs (.inl (x:Int))=none/\f x=[]
section
variable {f:Nat->Wq}
theorem Nq.off(N:Nq L nd ad pl f kvs L'){a:Addr}(h:L' a=none):Off L nd ad pl a:=N.toNr.off h
theorem Nq.upd(N:Nq L nd ad pl f kvs L'){a:Addr}{o:LO}(h:Off L nd ad pl a):Nq L nd ad pl f kvs (qd L' a o):={N.toNr.upd h,N.out}
theorem Nq.step(N:Nq L nd ad pl f kvs L')(WU:L nd=none){a:Addr}(h:L' a=none){x:Nat}(I:x∉pl):Nq L nd (λy=>if y=x then a else ad y) (pl++[x]) f (wv kvs (.inl (x:Int))<|.ref a) (qd (qd L' a<|.lst []) nd<|.KF<|wv kvs (.inl (x:Int))<|.ref a):=by refine{N.toNr.step WU h I (N.out x I).2,λy J=>?_};have U:y∉pl:=λh=>J<|Am _ h;have ne:y≠x:=λh=>J<|Ah _<|Ad.mpr h;rw[aw,Ap λz=>ne<|BB.mp<|Ev z];exact N.out y U
theorem Nq.app(N:Nq L nd ad pl f kvs L'){x:Nat}{v:WB}(I:x∈pl):Nq L nd ad pl (λy=>if y=x then f y++[v] else f y) kvs (qd L' (ad x)<|.lst<|qt (f x)++[jM v]):=by refine{N.toNr.app I,λy J=>?_};rw[Ap λe:y=x=>J<|e▸I];exact N.out y J
def Nq.add(N:Nq L nd ad pl f kvs L')(WU:L nd=none){x:Nat}{v:WB}{k:qj->Prop}{tv:xu}(t:∀L' K,K (.ref nd) L'->td τ L' K)(C:∀L' K,K (.int (x:Int)) L'->ti τ L' K)(j:∀L' K,K (jM v) L'->tv τ L' K)(pz:pl.length<=100000)(fz:∀y,(f y).length<=100000)
 (go:∀T J l L2,Nq L nd T J (λy=>if y=x then f y++[v] else f y) l L2->(∀y,y∈J↔y∈pl\/y=x)->J.length<=pl.length+1->k L2):iI x0 (J' td ti<|cV jc) (qp tv jc) τ L' λ_ L2=>k L2:=by
 have big:∀m:Nat,m<=200000->m<sizeLine:=λm h=>Bj h (by decide);refine t L' _ ?_;refine zj N.hd<|C _ _ ?_;intro p hp;have ol:=N.off hp;have U:=N.upd (o:=.lst []) ol;have nl:=N.len;refine zj U.hd {big _ (by omega),λw hw=>?_,λhw=>?_}
 .by_cases I:x∈pl
  .rw[U.val x I] at hw;cases hw;have g:=U.at_ x I;refine qc g (j _ _ (qm g {big _ (by rw[Ae];have:=fz x;omega),?_}));exact go _ _ _ _ (U.app I) (λy=>{.inl,λh=>h.elim id λe=>e▸I})<|Cy _
  .rw[(U.out x I).1] at hw;cases hw
 .by_cases I:x∈pl
  .rw[U.val x I] at hw;cases hw
  .have N2:=N.step WU hp I;have r:x∈pl++[x]:=Ah _<|Ad.mpr rfl;have g:=N2.at_ x r;have ea:(λy=>if y=x then p else ad y) x=p:=Ar rfl;have e0:=(N.out x I).2;rw[e0] at g;have N3:=N2.app (v:=v) r;rw[Ar rfl] at g N3;rw[e0] at N3;refine qc g<|j _ _<|qm g {by decide,?_};exact go _ _ _ _ N3 (λy=>by rw[Aj,Ad]) (by rw[Ab,AF];exact An _)
end
def zZ(es:Wp)(y:Nat):Prop:=∃e∈es,e.1=y\/e.2=y
inductive iN(ys:Z0)(L:qj)(Q:YK):Prop
 |mk:∀E,∀es:Wq,(ys=[.ref E])->(L E=⇑(qt es))->(es.length<=2000)->(∀nd ad pl kvs L',L nd=none->Nq L nd ad pl (o6 0 es) kvs L'->(∀y,y∈pl↔zZ es y)->Q (.ref nd) L')->iN ys L Q
theorem Vl:ZY iN eQ.1 4:=by
 rintro ys L Q ⟨E,I,rfl,t,ze,q⟩;intro nd WU;have C:qf L (qd L nd<|.KF []):=By WU;have N0:Nq L nd (λ_=>nd) [] (o6 0 []) [] (qd L nd<|.KF []):={{C,q9,(λx j=>by cases j),(λx j=>by cases j),(λx j=>by cases j),(λx j=>by cases j),An _},λx _=>{(rfl),rfl}};refine j7 (C _ _ t) λkeep kp=>xm {λi τ o=>∃ad l U J r,τ=[some<|.ref E,some<|.ref nd,J,r]/\Nq L nd ad l (o6 0<|I.take i) U o/\(∀y,y∈l↔zZ (I.take i) y)/\l.length<=2*i,{_,_,_,_,_,rfl,N0,λy=>{(λh=>by cases h),λ⟨e,h,_⟩=>by cases h},An _},?_,?_,?_}
 .rintro i τ o ⟨ad,l,U,J,r,rfl,N,_⟩;exact kp _ (by rw[N.sub _ _ t,C _ _ t])
 .rintro i y τ o hy ⟨ad,l,U,J,r,rfl,N,M,lp⟩;obtain⟨z,ez,rfl⟩:=bY hy;rw[Aq] at ez;obtain⟨⟨u,v⟩,ex,rfl⟩:=AA.mp ez;have hi:=zd ex;have et:I.take (i+1)=I.take i++[(u,v)]:=by rw[A4,ex];rfl
  have li:(I.take i).length=i:=by rw[AR];omega
  have fz:∀y,(o6 0 (I.take i) y).length<=4000:=λy=>AK (sk y 0 _) (by omega);refine N.add (x:=u) (v:=(i,v)) (τ:=[some<|.ref E,some<|.ref nd,some<|.int (i:Int),some<|jM (u,v)]) (td:=qh 1) (ti:=ky m5 (qh 3)<|yC<|.int 0) (tv:=bC<|qp (qh 2)<|qp (ky m5 (qh 3)<|yC<|.int 1) jc) WU (λ_ _ h=>h) (λ_ _ h=>h) (λ_ _ h=>h) (by omega) (λy=>AK (fz y) (by decide)) λa3 a4 a2 L2 N2 M2 l2=>?_;refine N2.add (x:=v) (v:=(i,u)) (τ:=[some<|.ref E,some<|.ref nd,some<|.int (i:Int),some<|jM (u,v)]) (td:=qh 1) (ti:=ky m5 (qh 3)<|yC<|.int 1) (tv:=bC<|qp (qh 2)<|qp (ky m5 (qh 3)<|yC<|.int 0) jc) WU (λ_ _ h=>h) (λ_ _ h=>h) (λ_ _ h=>h) (by omega) (λy=>?_) λT a1 p L3 N3 M3 l3=>?_
  .have:=fz y;split
   .rw[Ab,AF];omega
   .omega
  .refine{_,ES _,T,a1,p,_,_,rfl,?_,λy=>?_,by omega}
   .have ef:o6 0 (I.take<|i+1)=λy=>if y=v then(if y=u then o6 0 (I.take i) y++[(i,v)] else o6 0 (I.take i) y)++[(i,u)] else if y=u then o6 0 (I.take i) y++[(i,v)] else o6 0 (I.take i) y:=funext λy=>by
     rw[et,uU,li,Cz];by_cases g:u=y<;>by_cases J:v=y
     .rw[Ar g,Ar J,Ar J.symm,Ar g.symm,Ay]
     .rw[Ar g,Ap J,Ap<|AE J,Ar g.symm,AB]
     .rw[Ap g,Ar J,Ar J.symm,Ap<|AE g,CP]
     .rw[Ap g,Ap J,Ap<|AE J,Ap<|AE g,AB,AB]
    rw[ef];exact N3
   .rw[M3,M2,M,et];constructor
    .rintro((⟨e,h,k⟩|rfl)|rfl)
     .exact{e,Am _ h,k}
     .exact{_,Ah _<|Ad.mpr rfl,.inl rfl}
     .exact{_,Ah _<|Ad.mpr rfl,.inr rfl}
    .rintro⟨e,h,k⟩;rcases Aj.mp h with h|h
     .exact .inl<|.inl {(e),h,k}
     .cases Ad.mp h;exact k.elim (λe=>.inl<|.inr e.symm) λe=>.inr e.symm
 .rintro τ o ⟨ad,l,U,J,r,rfl,N,M,_⟩;have le:(l5<|qt I).length=I.length:=by rw[ae];exact Ae ..
  rw[le,AY] at N M;exact k8<|q nd ad l U o WU N M
def Jn(es:Wp)(k u v:Nat):Prop:=es[k]?=some (u,v)\/es[k]?=some (v,u)
def uQ(es:Wp)(D:Wt)(s x:Nat)(ns:Wt):Prop:=∃vs:Wt,vs.Nodup/\vs[0]?=some s/\vs[ns.length]?=some x/\vs.length=ns.length+1/\(∀i k,ns[i]?=some k->∃u v,vs[i]?=some u/\vs[i+1]?=some v/\Jn es k u v)/\∀v∈vs,v∈D
def uQ.start{es:Wp}{s:Nat}(h:s∈D):uQ es D s s []:={[s],AG.mpr {(AZ),BU},rfl,rfl,rfl,λi k h=>by simp at h,λv I=>by rw[Ad.mp I];exact h}
def uQ.mono{es:Wp}{I:Wt}{s x:Nat}(P:uQ es D s x ns)(h:∀v∈D,v∈I):uQ es I s x ns:=by obtain⟨J,a,b,c,d,e,f⟩:=P;exact{J,a,b,c,d,e,λv U=>h v<|f v U}
def uQ.step{es:Wp}{s x y k:Nat}(P:uQ es D s x ns)(l:y∉D)(o:Jn es k x y):uQ es (D++[y]) s y (ns++[k]):=by
 obtain⟨U,a,b,c,d,e,f⟩:=P;have g:(ns++[k]).length=U.length:=by rw[Ab,AF,d]
 refine{U++[y],AL.mpr {a,AG.mpr {(AZ),BU},λu p v J z=>l ?_},?_,?_,by rw[Ab,AF,g],λi j I=>?_,λv J=>?_}
 .rw[Ad.mp J] at z;exact z▸f u p
 .rw[Av (by omega)];exact b
 .rw[g,AH<|An _,Ci];rfl
 .by_cases q:i<ns.length
  .rw[Av q] at I;obtain⟨u,v,h1,h2,h3⟩:=e i j I;exact{u,v,by rw[Av (by omega)];exact h1,by rw[Av (by omega)];exact h2,h3}
  .have:=zd I;rw[Ab,AF] at this;have ei:i=ns.length:=by omega
   subst ei;rw[AH<|An _,Ci] at I;cases I;refine{x,y,by rw[Av (by omega)];exact c,?_,o};rw[<-d,AH<|An _,Ci];rfl
 .exact(Aj.mp J).elim (λh=>Am _<|f v h) λh=>Ah _ h
def vR{l:Wt}(h:l.Nodup){x:Nat}(h1:l[i]?=some x)(h2:l[j]?=some x):i=j:=by
 have a:=zd h1;have b:=zd h2;rw[Ai a] at h1;rw[Ai b] at h2;have e:=(AJ h1).trans (AJ h2).symm;rcases Nat.lt_trichotomy i j with c|c|c
 .exact absurd e<|BP.mp h i j a b c
 .exact c
 .exact absurd e.symm<|BP.mp h j i b a c
def uQ.nodup{es:Wp}{s x:Nat}(P:uQ es D s x ns):ns.Nodup/\∀k∈ns,k<es.length:=by
 obtain⟨T,a,_,_,_,e,_⟩:=P;refine{BP.mpr λi j I o p z=>?_,λk r=>?_}
 .obtain⟨u,v,h1,h2,h3⟩:=e i _<|Ai I;obtain⟨t,C,J,U,g⟩:=e j _<|Ai o;rw[z] at h3;have c:u=t\/u=C:=by
   rcases h3 with h|h<;>rcases g with l|l<;>rw[h] at l<;>cases l
   .exact .inl rfl
   .exact .inr rfl
   .exact .inr rfl
   .exact .inl rfl
  rcases c with c|c
  .have:=vR a h1<|c▸J;omega
  .have:=vR a h1<|c▸U;omega
 .obtain⟨i,I⟩:=BZ r;obtain⟨u,v,_,_,h3⟩:=e i k I;exact h3.elim zd zd
structure Hr(L:qj)(nd pd td:Addr)(ad:Nat->Addr)(pl:Wt)(kvs:List<|j8×Y)(es:Wp)(s n:Nat)(D ts:Wt)(kp:List<|j8×Y)(pa:Nat->Addr)(ps:Nat->Wt)(L':qj):Prop where
 N:Nq L nd ad pl (o6 0 es) kvs L'
 hp:L' pd=some (.KF kp)
 ht:L' td=⇑(nY ts)
 val:∀x:Nat,xj kp (.inl (x:Int))=if x∈D then some (.ref<|pa x) else none
 len:kp.length<=D.length
 at_:∀x∈D,L' (pa x)=⇑(nY<|ps x)/\pa x≠td/\L (pa x)=none
 Zu:D.Nodup
 st:s∈D
 XE:∀x∈D,x<n
 ZJ:∀x∈ts,x∈D
 key:∀x∈D,x=s\/zZ es x
 Y7:∀x∈D,uQ es D s x (ps x)/\(ps x).length<=D.length
def Cl(es:Wp)(D:Wt)(x:Nat):Prop:=∀z∈o6 0 es x,z.2∈D
inductive i9(ys:Z0)(L:qj)(Q:YK):Prop
 |mk:∀E,∀es:Wq,∀s g n:Nat,(ys=[.ref E,.int (s:Int),.int (g:Int)])->(L E=⇑(qt es))->(es.length<=2000)->(n<=1000)->(s<n)->((∀e∈es,e.1<n/\e.2<n))->((∀R,tW R->(∀e∈es,R e.1 e.2)->R s g))->(∀p D ns,L p=none->uQ es D s g ns->(∀x∈D,x<n)->ns.length<=1000->Q (.ref p) (qd L p<|.lst<|nY ns))->i9 ys L Q
inductive Gw(L:qj)(E nd pd td:Addr)(ad:Nat->Addr)(pl:Wt)(kvs:List<|j8×Y)(es:Wp)(s g n:Nat)(k:WM->Wt->Wt->Prop)(τ:jd)(L':qj):Prop
 |mk (D ts:Wt) (kp:List<|j8×Y) (pa:Nat->Addr) (ps:Nat->Wt) (c6 c7 c8:WM):τ=[some<|.ref E,some<|.int (s:Int),some<|.int (g:Int),some<|.ref nd,some<|.ref pd,some<|.ref td,c6,c7,c8]->Hr L nd pd td ad pl kvs es s n D ts kp pa ps L'->k c6 D ts->Gw L E nd pd td ad pl kvs es s g n k τ L'
theorem Vm:ZY i9 (rE iN).1 9:=by
 rintro ys L Q ⟨E,r,s,g,n,rfl,hE,ze,zn,hs,hb,bd,q⟩;have big:=a_;refine{E,r,rfl,hE,ze,λnd ad pl a5 L1 WU N M=>?_};intro p bj e0 bb;have be:p≠e0:=vh q9 bb;have op:=N.off bj;have N1:=N.upd (o:=.KF []) op;have oe:=N1.off bb;have N2:=N1.upd (o:=.lst []) oe;refine{(qb be).trans q9,?_};have N3:=N2.upd (o:=.KF<|wv [] (.inl (s:Int))<|.ref e0) op;have g0:qd (qd (qd L1 p<|.KF []) e0<|.lst []) p (.KF<|wv [] (.inl (s:Int))<|.ref e0) e0=⇑(nY []):=(qb<|AE be).trans q9;have gp:qd (qd (qd L1 p<|.KF []) e0<|.lst []) p (.KF<|wv [] (.inl (s:Int))<|.ref e0) p=some (.KF<|wv [] (.inl (s:Int))<|.ref e0):=q9;generalize qd (qd (qd L1 p<|.KF []) e0<|.lst []) p (.KF<|wv [] (.inl (s:Int))<|.ref e0)=L2 at N3 g0 gp ⊢;intro T bc;have ot:=N3.off bc;have bf:e0≠T:=vh g0 bc;have ac:p≠T:=vh gp bc;have W0:Hr L nd p T ad pl a5 r s n [s] [s] (wv [] (.inl (s:Int))<|.ref e0) (λ_=>e0) (λ_=>[]) (qd L2 T<|.lst [.int (s:Int)]):=by
  refine{N3.upd ot,(qb ac).trans gp,q9,λx=>?_,dX _ _ _,λx _=>{(qb bf).trans g0,bf,N.sub.none<|ke bb},AG.mpr {(AZ),BU},Ad.mpr rfl,λx C=>by rw[Ad.mp C];exact hs,λx C=>C,λx C=>.inl<|Ad.mp C,λx C=>{by rw[Ad.mp C];exact uQ.start<|Ad.mpr rfl,A5 _}};rw[aw];by_cases c:x=s
  .rw[c,Ar rfl,Ar<|Ad.mpr rfl]
  .rw[Ap λz=>c<|BB.mp<|Ev z,Ap λz=>c<|Ad.mp z];rfl
 refine{λm=>Gw L E nd p T ad pl a5 r s g n λ_ D ts=>(∀x∈D,x∈ts\/Cl r D x)/\m=2*(n-D.length)+ts.length/\m<=2*n+1,{_,_,_,_,_,_,_,_,_,rfl,W0,λx C=>.inl C,rfl,by show 2*(n-1)+1<=_;omega},?_};rintro m τ L3 ⟨D,ts,kp,pa,l,c6,c7,c8,rfl,W,cl,rfl,mb⟩;refine zj W.hp ?_;have vg:=W.val g;by_cases hg:g∈D
 .rw[Ar hg] at vg;refine jv (by rw[vg];rfl) ?_;refine zj W.hp<|ql vg ?_;obtain⟨a1,_,a3⟩:=W.at_ g hg;have dl:=aE D (List.range n) W.Zu λx C=>A9.mpr<|W.XE x C;rw[Bh] at dl;exact jI (W.N.sub.put a1) (q _ D _ a3 (W.Y7 g hg).1 W.XE (by have:=(W.Y7 g hg).2;omega))
 rw[Ap hg] at vg;have ne:ts≠[]:=λe=>hg<|(bd (λa b=>a∈D↔b∈D) {λ_=>Iff.rfl,λh=>h.symm,λh k=>h.trans k} λe' al=>by have c1:∀x∈D,Cl r D x:=λx C=>(cl x C).resolve_left (by rw[e];exact AZ);obtain⟨j,hj⟩:=BZ al;exact{λh=>c1 _ h (j,e'.2)<|mQ.mpr {j,(Cz j).symm,.inl hj},λh=>c1 _ h (j,e'.1)<|mQ.mpr {j,(Cz j).symm,.inr hj}}).mp W.st
 rcases CS ts with e|⟨t,x,rfl⟩
 .exact absurd e ne
 rw[CT] at *;refine xq (by rw[vg];rfl) {λbg L'=>∃m',m'<2*(n-D.length)+(t++[x]).length/\Gw L E nd p T ad pl a5 r s g n (λ_ D ts=>(∀x∈D,x∈ts\/Cl r D x)/\m'=2*(n-D.length)+ts.length/\m'<=2*n+1) bg L',λbg L' h=>h,?_};have ht:=W.ht;rw[aT] at ht;refine tT ht ?_;have C:x∈D:=W.ZJ x<|Ah _<|Ad.mpr rfl;have W1:Hr L nd p T ad pl a5 r s n D t kp pa l (qd L3 T<|.lst<|nY t):={W.N.upd ot,(qb ac).trans W.hp,q9,W.val,W.len,λy hy=>{(qb (W.at_ y hy).2.1).trans (W.at_ y hy).1,(W.at_ y hy).2},W.Zu,W.st,W.XE,λy hy=>W.ZJ y<|Am _ hy,W.key,W.Y7};generalize qd L3 T (.lst<|nY t)=L4 at W1 ⊢;have tx:x∈pl:=(M x).mpr ((W.key x C).elim (λe=>by refine Classical.byContradiction λnt=>hg ?_;have:=bd (λa b=>a=s↔b=s) {λ_=>Iff.rfl,λh=>h.symm,λh k=>h.trans k} λe' al=>{λh=>absurd {e',al,.inl<|h.trans e.symm} nt,λh=>absurd {e',al,.inr<|h.trans e.symm} nt};rw[this.mp rfl];exact W.st) id)
 refine zj W1.N.hd<|ql (W1.N.val x tx) ?_;have bn:∀y∈D,y=x\/y∈t\/Cl r D y:=λy hy=>by
  rcases cl y hy with h|h
  .rcases Aj.mp h with h|h
   .exact .inr<|.inl h
   .exact .inl<|Ad.mp h
  .exact .inr<|.inr h
 have lx:(t++[x]).length=t.length+1:=by rw[Ab,AF]
 rw[lx] at mb;have zl:=sk x 0 r;refine j7 (W1.N.at_ x tx) λkeep bp=>xm {λj=>Gw L E nd p T ad pl a5 r s g n λc6 J ts=>c6=some (.int (x:Int))/\(∀y∈J,y=x\/y∈ts\/Cl r J y)/\x∈J/\(∀z∈(o6 0 r x).take j,z.2∈J)/\2*(n-J.length)+ts.length<=2*(n-D.length)+t.length,{_,_,_,_,_,_,_,_,rfl,W1,rfl,bn,C,(λz I=>by cases I),An _},?_,?_,?_}
 .rintro j τ L' ⟨J,ts,kp,pa,l,_,c7,c8,rfl,U,rfl,_⟩;exact bp _<|(U.N.at_ x tx).trans (W1.N.at_ x tx).symm
 .rintro j y τ L' hy ⟨J,ts,kp,pa,l,_,c7,c8,rfl,U,rfl,av,a2,tk,me⟩;rw[Aq] at hy;obtain⟨⟨k,y⟩,ek,rfl⟩:=AA.mp hy;have et:(o6 0 r x).take (j+1)=(o6 0 r x).take j++[(k,y)]:=by rw[A4,ek];rfl
  obtain⟨i,ei,jn⟩:=mQ.mp<|Au ek;rw[Cz] at ei;subst ei;have vy:=U.val y;refine zj U.hp ?_;by_cases a4:y∈J
  .rw[Ar a4] at vy;refine jv (by rw[vy];rfl) {_,ES _,J,ts,kp,pa,l,_,_,_,rfl,U,rfl,av,a2,λz I=>?_,me};rw[et] at I;rcases Aj.mp I with I|I
   .exact tk z I
   .rw[Ad.mp I];exact a4
  .rw[Ap a4] at vy;refine xq (by rw[vy];rfl) ?_;have vx:=U.val x;rw[Ar a2] at vx;obtain⟨b1,b2,b3⟩:=U.at_ x a2;have ly:=(U.Y7 x a2).2;have dl:=aE J (List.range n) U.Zu λz I=>A9.mpr<|U.XE z I;rw[Bh] at dl;refine zj U.hp<|ql vx ?_;intro p1 aL;have s1:=By (o:=.lst [Y.int (k:Int)]) aL;refine{_,_,s1 _ _ b1,q9,?_,λp2 ba=>?_}
   .rw[jx];exact Bo (big _ (by show(l x).length+1<=_;omega))
   have o1:=U.N.off aL;have N1:=U.N.upd (o:=.lst [Y.int (k:Int)]) o1;have o2:=N1.off ba;have N2:=N1.upd (o:=.lst<|nY (l x)++[Y.int (k:Int)]) o2;have h1:p≠p1:=vh U.hp aL;have h2:p≠p2:=vh (s1 _ _ U.hp) ba;have h3:T≠p1:=vh U.ht aL;have h4:T≠p2:=vh (s1 _ _ U.ht) ba;have s2:=s1.trans<|By (o:=.lst<|nY (l x)++[Y.int (k:Int)]) ba;have gq:qd (qd L' p1<|.lst [Y.int (k:Int)]) p2 (.lst<|nY (l x)++[Y.int (k:Int)]) p2=⇑(nY<|l x++[k]):=by rw[q9,aT];rfl
   have gP:=s2 _ _ U.hp;have gT:=s2 _ _ U.ht;have gA:∀z∈J,qd (qd L' p1<|.lst [Y.int (k:Int)]) p2 (.lst<|nY (l x)++[Y.int (k:Int)]) (pa z)=⇑(nY<|l z):=λz I=>s2 _ _ (U.at_ z I).1;have bq:L p2=none:=o2.1;generalize qd (qd L' p1<|.lst [Y.int (k:Int)]) p2 (.lst<|nY (l x)++[Y.int (k:Int)])=L5 at N2 gq gP gT gA ⊢;have kl:=U.len;refine zj gP {big _ (by omega),?_};have bh:qd L5 p (.KF<|wv kp (.inl (y:Int))<|.ref p2) T=⇑(nY ts):=(qb<|AE ac).trans gT;refine qc bh<|qm bh {?_,?_}
   .rw[jx];exact big _ (by omega)
   have D1:(J++[y]).length=J.length+1:=by rw[Ab,AF]
   have T1:(ts++[y]).length=ts.length+1:=by rw[Ab,AF]
   have yn:y<n:=jn.elim (λh=>(hb _<|Au h).2) λh=>(hb _<|Au h).1;have yt:zZ r y:=jn.elim (λh=>{_,Au h,.inr rfl}) λh=>{_,Au h,.inl rfl};have bi:(J++[y]).Nodup:=AL.mpr {U.Zu,AG.mpr {(AZ),BU},λa ha b c0 e=>a4 (by rw[Ad.mp c0] at e;exact e▸ha)};have c2:=aE (J++[y]) (List.range n) bi λz I=>A9.mpr ((Aj.mp I).elim (U.XE z) λh=>by rw[Ad.mp h];exact yn);rw[Bh,D1] at c2;have up:∀z∈J,z∈J++[y]:=λz I=>Am _ I;have cs:∀{z},z∈J->z≠y:=λI e=>a4<|e▸I;refine{_,ES _,J++[y],ts++[y],wv kp (.inl (y:Int))<|.ref p2,λz=>if z=y then p2 else pa z,λz=>if z=y then l x++[k] else l z,_,_,_,rfl,{(N2.upd op).upd ot,(qb ac).trans q9,by rw[q9,aT];rfl,λz=>?_,?_,λz I=>?_,bi,up _ U.st,λz I=>(Aj.mp I).elim (U.XE z) λh=>by rw[Ad.mp h];exact yn,λz I=>(Aj.mp I).elim (λh=>up _<|U.ZJ z h) λh=>Ah _ h,λz I=>(Aj.mp I).elim (U.key z) λh=>by rw[Ad.mp h];exact .inr yt,λz I=>?_},rfl,λz I=>?_,up _ a2,λz I=>?_,by rw[D1,T1];omega}
   .rw[aw];by_cases e:z=y
    .rw[e,Ar rfl,Ar<|Ah _<|Ad.mpr rfl,Ar rfl]
    .rw[Ap λw=>e<|BB.mp<|Ev w,U.val,Ap e];by_cases h:z∈J
     .rw[Ar h,Ar<|up _ h]
     .rw[Ap h,Ap λw=>(Aj.mp w).elim h λw=>e<|Ad.mp w]
   .have:=dX kp (.inl (y:Int))<|.ref p2;rw[D1];omega
   .show qd _ T _ (if z=y then p2 else pa z)=⇑(nY<|if z=y then l x++[k] else l z)/\(if z=y then p2 else pa z)≠T/\L (if z=y then p2 else pa z)=none;rcases Aj.mp I with I|I
    .rw[Ap<|cs I,Ap<|cs I];obtain⟨d1,d2,d3⟩:=U.at_ z I;have np:pa z≠p:=FH d1 U.hp λe=>by cases e
     exact{(qb d2).trans<|(qb np).trans<|gA z I,d2,d3}
    .rw[Ar<|Ad.mp I,Ar<|Ad.mp I];exact{(qb<|AE h4).trans<|(qb<|AE h2).trans gq,AE h4,bq}
   .show uQ r (J++[y]) s z (if z=y then l x++[k] else l z)/\(if z=y then l x++[k] else l z).length<=_;rw[D1];rcases Aj.mp I with I|I
    .rw[Ap<|cs I];exact{(U.Y7 z I).1.mono up,by have:=(U.Y7 z I).2;omega}
    .rw[Ar<|Ad.mp I,Ad.mp I];exact{(U.Y7 x a2).1.step a4 jn,by rw[Ab,AF];omega}
   .rcases Aj.mp I with I|I
    .rcases av z I with h|h|h
     .exact .inl h
     .exact .inr<|.inl<|Am _ h
     .exact .inr<|.inr λw hw=>up _<|h w hw
    .exact .inr<|.inl<|Ah _ I
   .rw[et] at I;rcases Aj.mp I with I|I
    .exact up _<|tk z I
    .rw[Ad.mp I];exact Ah _<|Ad.mpr rfl
 .rintro τ L' ⟨J,ts,kp,pa,l,_,c7,c8,rfl,U,rfl,av,a2,tk,me⟩;rw[Ae,AY] at tk;refine{_,ES _,_,?_,J,ts,kp,pa,l,_,_,_,rfl,U,λy hy=>?_,rfl,by omega}
  .rw[lx];omega
  .rcases av y hy with rfl|h|h
   .exact .inr λz I=>tk z I
   .exact .inl h
   .exact .inr h
def ij(m:WA):tW λa b=>m a=m b:={λ_=>rfl,λh=>h.symm,λh k=>h.trans k}
def qD(es:Wp)(n:Nat):Prop:=∀i,i<n->∀e,es[i]?=some e->¬ ∀R,tW R->(∀d∈es.take i,R d.1 d.2)->R e.1 e.2
structure NM(pl:Wt)(es:Wp)(m:WA):Prop where
 YJ:∀x∈pl,m x∈pl/\m (m x)=m x
 ed:∀e∈es,m e.1=m e.2
 rep:∀R,tW R->(∀e∈es,R e.1 e.2)->∀x∈pl,R x<|m x
def iS(pl:Wt)(m:WA):Nat:=pl.countP λx=>decide<|m x=x
theorem rJ{p q r:Nat->Bool}:∀{l:Wt},(∀x∈l,p x=(q x||r x)/\(q x&&r x)=false)->l.countP p=l.countP q+l.countP r
 |[],_=>rfl
 |x::l,h=>by have I:=rJ (l:=l) λy J=>h y<|Al _ J;have:=h x<|As ..;rw[C6,C6,C6,I,this.1];cases e:q x<;>cases U:r x<;>simp_all<;>lia
def Ka{es:Wp}{f g:WA}(nd:pl.Nodup)(F:NM pl es f)(G:NM pl es g):iS pl f<=iS pl g:=by
 unfold iS;rw[CQ,CQ];have k:=aE ((pl.filter λx=>decide<|f x=x).map g) (pl.filter λx=>decide<|g x=x) (fJ (λx I y J e=>?_)<|nd.filter _) λy J=>?_
 .rw[Ae] at k;exact k
 .obtain⟨U,j⟩:=Bu.mp I;obtain⟨l,o⟩:=Bu.mp J;have h1:=G.rep _ (ij f) F.ed x U;have h2:=G.rep _ (ij f) F.ed y l;rw[e] at h1;exact(of_decide_eq_true j).symm.trans ((h1.trans h2.symm).trans<|of_decide_eq_true o)
 .obtain⟨x,I,rfl⟩:=Ba.mp J;obtain⟨h1,h2⟩:=G.YJ x (Bu.mp I).1;exact Bu.mpr {h1,Az h2}
theorem Kb{pl:Wt}{es:Wp}(nd:pl.Nodup)(C:∀e∈es,e.1∈pl/\e.2∈pl):∀i,i<=es.length->∃m,NM pl (es.take i) m/\pl.length<=iS pl m+i/\(qD es i↔iS pl m+i=pl.length)
 |0,_=>{id,{λx h=>{(h),rfl},(λe h=>by cases h),λR E _ x _=>E.r x},by unfold iS;simp,by unfold iS;simp[qD]}
 |i+1,T=>by
  obtain⟨m,M,le,iff⟩:=Kb nd C i<|Nat.le_of_succ_le T;obtain⟨e,g⟩:∃e,es[i]?=some e:={_,Ai T};obtain⟨h1,h2⟩:=C e<|Au g;have o:es.take (i+1)=es.take i++[e]:=by rw[A4,g];rfl
  have nr:qD es (i+1)↔qD es i/\¬ ∀R,tW R->(∀d∈es.take i,R d.1 d.2)->R e.1 e.2:={λh=>{λj hj=>h j<|B5 hj,h i (Bi i) e g},λh j hj d p=>by
   by_cases c:j<i
   .exact h.1 j c d p
   .obtain rfl:j=i:=by lia
    rw[g] at p;cases p;exact h.2}
  have mem:∀{d},d∈es.take (i+1)->d∈es.take i\/d=e:=λh=>by rw[o] at h;exact(Aj.mp h).imp id Ad.mp
  have old:∀{d},d∈es.take i->d∈es.take (i+1):=λh=>by rw[o];exact Am _ h
  have new:e∈es.take (i+1):=by rw[o];exact Ah _<|Ad.mpr rfl
  by_cases c:m e.1=m e.2
  .refine{m,{M.YJ,λd hd=>(mem hd).elim (M.ed d) λz=>z▸c,λR E J=>M.rep R E λd hd=>J d<|old hd},by lia,nr.trans {λh=>absurd (λR E J=>?_) h.2,λh=>by lia}};have l:=M.rep R E J _ h1;have I:=M.rep R E J _ h2;rw[c] at l;exact E.t l<|E.s I
  .have eq:iS pl m=iS pl (λx=>if m x=m e.1 then m e.2 else m x)+1:=by
    have z:pl.countP (λx=>decide<|x=m e.1)=1:=by have l:=List.nodup_iff_count.mp nd<|m e.1;have I:=List.count_pos_iff.mpr (M.YJ _ h1).1;exact Nat.le_antisymm l I
    rw[<-z];refine rJ λx U=>?_;have:=M.YJ _ h1;by_cases k:m x=m e.1
    .by_cases I:x=m e.1
     .simp[k,I,this.2,AE c]
     .have k3:m e.2≠x:=λz=>c (by rw[<-k,<-z,(M.YJ _ h2).2]);have k4:m x≠x:=λz=>I<|z.symm.trans k;simp[k,I,k3,k4,AE I]
    .have I:x≠m e.1:=λz=>k (by rw[z];exact this.2);simp[k,I]
   refine{λx=>if m x=m e.1 then m e.2 else m x,{λx U=>?_,λd hd=>?_,λR E J x U=>?_},by lia,nr.trans ?_}
   .have I:=M.YJ _ h2;have k:=M.YJ _ U;by_cases z:m x=m e.1
    .simp[z,I,AE c]
    .simp[z,k]
   .rcases mem hd with h|rfl
    .simp[M.ed d h]
    .simp
   .have k:=M.rep R E λd hd=>J d<|old hd;split
    .rename_i z;have:=k x U;rw[z] at this;exact E.t this<|E.t (E.s<|k _ h1)<|E.t (J e new)<|k _ h2
    .exact k x U
   .rw[iff];exact{λh=>by lia,λh=>{by lia,λz=>c<|z _ (ij m) M.ed}}
def Zz.nm{es:Wp}(F:Zz pl es kvs fL)(J:∀e∈es,e.1∈pl/\e.2∈pl):NM pl es fL:=
 ⟨λx I=>{(F.rep (λa b=>a∈pl↔b∈pl) {λ_=>Iff.rfl,λh=>h.symm,λh k=>h.trans k} (λe h=>{λ_=>(J e h).2,λ_=>(J e h).1}) x I).mp I,(F.rep _ (ij fL) F.YL x I).symm},F.YL,F.rep⟩
def Vn{es:Wp}(F:NM pl es fL)(nd:pl.Nodup)(I:∀e∈es,e.1∈pl/\e.2∈pl):qD es es.length↔es.length+iS pl fL=pl.length:=by obtain⟨m,M,_,h⟩:=Kb nd I es.length<|An _;rw[AY] at M;have:=Ka nd M F;have:=Ka nd F M;rw[h];lia
def w4(es:Wp)(k:Nat):WB:=es.getD k (0,0)
def cR(l:Wp):Wt:=l.flatMap λe=>[e.1,e.2]
def Vo{es:Wp}{k u v:Nat}(h:Jn es k u v):w4 es k=(u,v)\/w4 es k=(v,u):=by
 unfold w4;rw[A2];rcases h with h|h<;>rw[h]
 .exact .inl rfl
 .exact .inr rfl
theorem qH{es:Wp}:∀{ns vs:Wt},vs.length=ns.length+1->(∀i k,ns[i]?=some k->∃u v,vs[i]?=some u/\vs[i+1]?=some v/\Jn es k u v)->∀{s x:Nat},vs[0]?=some s->vs[ns.length]?=some x->(cR (ns.map<|w4 es)++[s,x]).Perm (vs++vs)/\∀R,tW R->(∀k∈ns,R (w4 es k).1 (w4 es k).2)->∀a∈vs,R s a
 |[],vs,l,h,s,x,h0,h1=>by
  rcases vs with _|⟨a,_|⟨b,r⟩⟩
  .cases l
  .cases h0;cases h1;exact{.refl _,λR E _ a o=>by rw[Ad.mp o];exact E.r _}
  .simp at l
 |k::ns,vs,l,h,s,x,h0,h1=>by
  rcases vs with _|⟨a,vs⟩
  .cases l
  .cases h0;obtain⟨u,t,C,T,j⟩:=h 0 k rfl;cases C;have l':=Nat.succ.inj l;obtain⟨p,c⟩:=qH (es:=es) (ns:=ns) (vs:=vs) l' (λi I e=>h (i+1) I e) (s:=t) (x:=x) T h1;have U:=Vo j;refine{List.perm_iff_count.mpr λz=>?_,λR E g b J=>?_}
   .have q:=p.count_eq z;rw[CV,CV] at q;show((([(w4 es k).1,(w4 es k).2]++cR (ns.map<|w4 es))++[s,x])).count z=((s::vs)++(s::vs)).count z;rcases U with e|e<;>rw[e]<;>simp only[CV,List.count_cons,List.count_nil] at q ⊢ <;> lia
   .rcases Aw.mp J with rfl|J
    .exact E.r _
    .have st:R s t:=by
      have:=g k<|As ..;rcases U with e|e<;>rw[e] at this
      .exact this
      .exact E.s this
     exact E.t st<|c R E (λI hk=>g I<|Al _ hk) b J
structure Kc(es:Wp)(ms vs:Wt):Prop where
 lt:∀k∈ms,k<es.length
 up:ms.Pairwise (· < ·)
 two:2<=ms.length
 vn:vs.Nodup
 ends:(cR<|ms.map<|w4 es).Perm (vs++vs)
 con:∀R,tW R->(∀k∈ms,R (w4 es k).1 (w4 es k).2)->∀a∈vs,∀b∈vs,R a b
theorem Vp{es:Wp}{u v:Nat}{ms:Wt}(hi:es[i]?=some (u,v))(ne:u≠v)(P:uQ (es.take i) D u v ns)(pm:ms.Perm<|ns++[i])(o:ms.Pairwise (· <= ·)):∃vs,Kc es ms vs:=by
 obtain⟨C,nl⟩:=P.nodup;obtain⟨vs,T,v0,v1,vl,hj,_⟩:=P;have J:=zd hi;have lt:∀k∈ns,k<i:=λk I=>by have:=nl k I;rw[AR] at this;lia
 have ex:w4 es i=(u,v):=by unfold w4;rw[A2,hi];rfl
 have U:∀j k,ns[j]?=some k->∃a b,vs[j]?=some a/\vs[j+1]?=some b/\Jn es k a b:=λj k e=>by obtain⟨a,b,h1,h2,h3⟩:=hj j k e;have:=lt k<|Au e;refine{a,b,h1,h2,h3.imp (λh=>?_) λh=>?_}<;>rw[DW,Ar this] at h<;>exact h
 obtain⟨p,c⟩:=qH (es:=es) vl U v0 v1;have nd:(ns++[i]).Nodup:=AL.mpr {C,by simp,λa g b l e=>by rw[Ad.mp l] at e;have:=lt a g;lia};refine{vs,λk I=>?_,?_,?_,T,?_,λR E hR a g b l=>?_}
 .rcases Aj.mp (pm.mem_iff.mp I) with h|h
  .have:=lt k h;lia
  .rw[Ad.mp h];exact J
 .exact(o.and<|pm.nodup_iff.mpr nd).imp λ{a b} ⟨h1,h2⟩=>by have:=h2;lia
 .have:=pm.length_eq;rw[Ab,AF] at this;cases ns with|nil=>exact absurd (AJ<|v0.symm.trans v1) ne|cons a r=>rw[AD] at this;lia
 .have q:=((pm.map<|w4 es).flatMap_right λe=>[e.1,e.2]);refine q.trans ?_;rw[AC,AO];show(cR (ns.map<|w4 es)++cR [w4 es i]).Perm _;rw[ex];exact p
 .have k:=c R E λk I=>hR k<|pm.mem_iff.mpr<|Am _ I;exact E.t (E.s<|k a g)<|k b l
def oK(I:Addr)(E3:X3)(J:kH)(p1:km)(p2:km)(p3:km)(p4:km)(p5:km):ai:=(zv (jw (kU J E3<|eY (qh 0)<|qh 1)<|qk 2)
 (zv (jw (Hb I p1<|qp (oN xJ<|eB<|ah 0 0) jc)<|qk 3)
 (zv (kC (rV<|qh 2) (dC 2<|jt (qk 4)<|jt (qk 5) bT)<|bN (rT<|yB<|oI I "unite" p2 (qh 3)<|eY (ah 5 0)<|ah 5 1) (bP<|bC<|qp (uC "ring")<|qp (oN xD<|qp (ky gU (xa p3<|qp (F_ Gj (qh 2) mY<|F9<|qh 4)<|eY (ah 5 0)<|ah 5 1)<|cV<|eB<|qh 4) jc) jc) aW)
 (zv (jw (xa p4<|eB<|ah 0 0)<|qk 6)
 (zv (jw (oI I "head_of" p5 (qh 3)<|eB<|ah 6 0)<|qk 7)
 (zv (jw (d_ 1 (aK<|qh 6) (qk 9) (tf (oI I "head_of" p5 (qh 3)<|eB<|qh 9)<|qh 7)<|qh 9)<|qk 8)
 (bP<|FM (tf (qh 8)<|qh 6) (yC .KB)<|p_ (uC "parts")<|qh 8)))))))
def Vq{es:Wp}{u v:Nat}(P:uQ es D u v ns)(I:Hl wd es)(tu:gm wd u=true):ns.length+1<=(qu wd).length:=by
 obtain⟨p,nd,v0,_,U,g,_⟩:=P;rw[<-U];refine aE _ _ nd λy l=>aF.mp ?_;obtain⟨j,J⟩:=BZ l;cases j with
 |zero=>rw[v0] at J;cases J;exact tu
 |succ j=>
  have o:=zd J;obtain⟨a,b,_,h2,h3⟩:=g j _<|Ai (show j<ns.length by lia);rw[J] at h2;cases h2;exact h3.elim (λh=>(I _<|Au h).2) λh=>(I _<|Au h).1
def Zd(wd:List<|WO)(es:Wp)(L:qj)(y:Y):Prop:=
 (qD es es.length/\One (qu wd) es/\y=.KB)\/
 (∃m:WA,∃p,qD es es.length/\¬One (qu wd) es/\(∀e∈es,m e.1=m e.2)/\(∀R,tW R->(∀e∈es,R e.1 e.2)->∀a b,gm wd a=true->gm wd b=true->m a=m b->R a b)/\y=.tup [.str "parts",.ref p]/\L p=⇑(nY<|(qu wd).filter λx=>decide<|m x=m ((qu wd).headD 0)))\/
 (∃i u v D ns ms p,¬qD es es.length/\es[i]?=some (u,v)/\uQ (es.take i) D u v ns/\ms.Perm (ns++[i])/\ms.Pairwise (· <= ·)/\y=.tup [.str "ring",.ref p]/\L p=⇑(nY ms))
inductive oX(C:Addr)(ys:Z0)(L:qj)(Q:YK)(E:Addr->qj->Prop):Prop
 |mk:∀a l c h,∀wd:List (WO),∀lk ct:Wq,∀xs:Wx,(ys=[e9 a l c,.ref h])->(L a=⇑(dY wd))->(L l=⇑(qt lk))->(L c=⇑(qt ct))->(L h=⇑(xs.map Y.int))->(wd.length<=1000)->(lk.length<=2000)->(ct.length<=2000)->(xs.length<=2000)->((oj wd xs->Hl wd (lD wd lk ct xs)/\(lD wd lk ct xs).length<=2000/\(qu wd).length<=126/\(∃z,gm wd z=true)/\∀y L',qf L L'->Zd wd (lD wd lk ct xs) L' y->Q y L'))->((¬oj wd xs->E C L))->oX C ys L Q E
def Vr{Cp:Addr}:∀ys L Q E,oX C ys L Q E->v9 (oK Cp (vX E) (gC C) (f9 Cp) (fQ Cp) i9 bM<|gN Cp) 9 ys L Q:=by
 rintro ys L Q E ⟨a,l,c,h,I,lk,ct,xs,rfl,ha,hl,hc,hh,hz,zl,zc,zx,q,ex⟩;refine{a,l,c,h,I,lk,ct,xs,rfl,ha,hl,hc,hh,hz,zl,zc,zx,λok e he=>?_,λno=>{L,ES _,ex no}};obtain⟨a5,ze,zt,ex,q⟩:=q ok;generalize lD I lk ct xs=g at a5 ze q ⊢;have s0:qf L (qd L e<|.lst<|qt g):=By he;have e0:qd L e (.lst<|qt g) e=⇑(qt g):=q9;generalize qd L e (.lst<|qt g)=L1 at s0 e0 ⊢;refine qc (s0 _ _ ha) λx hx=>{x,I.length,_,rfl,by rw[Ae],q9,hz,λU al=>{rfl,?_}};have av:=vh q9 al;have aL:=ke al;have bb:(qd (qd (qd L1 x<|.ins Cp []) U<|.lst<|nY<|List.range I.length) x<|.ins Cp<|sv U) x=some (.ins Cp<|sv U):=q9;have bc:(qd (qd (qd L1 x<|.ins Cp []) U<|.lst<|nY<|List.range I.length) x<|.ins Cp<|sv U) U=⇑(nY<|List.range I.length):=(qb<|AE av).trans q9;have sub:qf L1 (qd (qd (qd L1 x<|.ins Cp []) U<|.lst<|nY<|List.range I.length) x<|.ins Cp<|sv U):=(((By hx).trans<|By al).upd hx);generalize qd (qd (qd L1 x<|.ins Cp []) U<|.lst<|nY<|List.range I.length) x (.ins Cp<|sv U)=L2 at bb bc sub;have e2:=sub _ _ e0;have bd:=vh e0 aL;have fo:∀A,(qd L2 U A) x=some (.ins Cp<|sv U):=λA=>(qb av).trans bb;have ln:(List.range I.length).length=I.length:=Bh;have sL:∀A,qf L (qd L2 U A):=λA=>(s0.trans sub).upd<|s0.none aL;have hb:∀d∈g,d.1<I.length/\d.2<I.length:=λd hd=>{dh (a5 d hd).1,dh (a5 d hd).2};refine j7 e2 λkeep kp=>xm {λi τ L'=>∃J c4 c5,τ=[some<|e9 a l c,some<|.ref h,some<|.ref e,some<|.ref x,c4,c5,none,none,none]/\L'=qd L2 U (.lst<|nY J)/\J.length=I.length/\(∃rk,nS rk J)/\Zt (List.range I.length) J (g.take i)/\qD g i,{List.range I.length,_,_,rfl,(qN bc).symm,ln,{_,Uw _},{λ_ _ z=>z,(λx hx=>by cases hx),λ_ _ _ F=>F},λj h=>absurd h<|B7 _},?_,?_,?_}
 .rintro i τ L' ⟨J,c4,c5,rfl,rfl,_⟩;exact kp _<|qb bd
 .rintro i y τ L' hy ⟨J,c4,c5,rfl,rfl,g1,⟨rk,g2⟩,jn,nr⟩;obtain⟨z,ez,rfl⟩:=bY hy;rw[Aq] at ez;obtain⟨⟨p,q'⟩,a3,rfl⟩:=AA.mp ez;have hi:=zd a3;have hm:=Au a3;obtain⟨h1,h2⟩:=hb _ hm;have h1:=h1;have h2:=h2;obtain⟨a',ta⟩:=g2.X4 (i:=p) (by lia);obtain⟨b',tb⟩:=g2.X4 (i:=q') (by lia);have et:g.take (i+1)=g.take i++[(p,q')]:=by rw[A4,a3];rfl
  refine aC (fo _) {rfl,wW,x,U,J,p,q',a',b',_,_,rfl,rfl,rfl,fo _,q9,{(rk),g2},ta,tb,by lia,by lia,λac l2 k2 r2 e1 c0=>?_};rw[jz];by_cases ne:a'=b'
  .refine xq (by rw[Az ne];rfl) ?_;have be:∀R,tW R->(∀d∈g.take i,R d.1 d.2)->R p q':=λR E hR=>jn.2.2 R E hR (pD E _) p q' {a',ta,ne▸tb};have e3:∀A,qd L2 U A e=⇑(qt g):=λA=>(qb bd).trans e2;refine qm (e3 _) λs1 bi=>?_;rw[QK,<-List.map_take];have t1:=By (o:=.lst<|qt<|g.take i) bi;refine{s1,g.take i,p,q',I.length,rfl,q9,by rw[AR];lia,hz,h1,λd hd=>hb d<|Bz hd,be,λp1 D ns bj P rg nz=>?_};have pl:=Vq P (λd hd=>a5 d<|Bz hd) (a5 _ hm).1;have t2:=t1.trans<|By (o:=.lst<|nY ns) bj;intro p2 bn;have t3:=By (o:=.lst [Y.int (i:Int)]) bn;refine{_,_,t3 _ _ q9,q9,?_,λp3 bp=>?_}
   .rw[jx];exact Bo (Bj (by show ns.length+1<=2000;lia) (by decide))
   refine qm q9 {(ns++[i]).map λn:Nat=>(n:Int),?_,?_,λDd ms hD pm pw=>?_}
   .rw[BW,AC];rfl
   .rw[Ae,Ab,AF];lia
   .obtain⟨T,pT,rfl⟩:=gQ (λn:Nat=>(n:Int)) pm rfl;have eT:(T.map λn:Nat=>(n:Int)).map Y.int=nY T:=by unfold nY;rw[BW];rfl
    rw[eT];have s4:=((sL<|.lst<|nY ac).trans t2).trans<|t3.trans<|By (o:=.lst<|nY ns++[Y.int (i:Int)]) bp;have s5:=s4.trans<|By (o:=.lst<|nY T) hD;exact k8<|q _ _ s5<|.inr<|.inr {i,p,q',D,ns,T,Dd,λh=>h i hi _ a3 be,a3,P,pT,(BR.mp pw).imp λ{u v} w=>Int.ofNat_le.mp w,rfl,q9}
  .refine jv (by rw[Ao ne];rfl) {_,ES _,ac,_,_,rfl,rfl,by lia,k2,?_,λj hj e he=>?_}
   .rw[et];exact jn.snoc g2 l2 r2 ta tb
   .by_cases c:j<i
    .exact nr j c e he
    .have ej:j=i:=by lia
     subst ej;rw[a3] at he;cases he;intro z;rcases z _ (UK J) λd hd=>.inr (jn.2.1 d hd) with z|⟨r,h1,h2⟩
     .exact ne (ta.uniq (by rw[show p=q' from z];exact tb))
     .exact ne<|(ta.uniq h1).trans (tb.uniq h2).symm
 rintro τ L' ⟨J,c4,c5,rfl,rfl,g1,⟨rk,g2⟩,jn,nr⟩;rw[ae,show(qt g).length=g.length from Ae ..] at jn nr;rw[AY] at jn;have s3:=sL<|.lst<|nY J;obtain⟨z,tz⟩:=ex;obtain⟨t0,rest,et⟩:∃t0 rest,qu I=t0::rest:=by have:=aF.mp tz;cases e:qu I with|nil=>rw[e] at this;cases this|cons t r=>exact{(t),r,rfl}
 have m0:=aF.mpr (by rw[et];exact As ..);have hex:∀n,∃r,n<I.length->bD J n r:=λn=>by
  by_cases c:n<I.length
  .obtain⟨r,t⟩:=g2.X4 (i:=n) (by lia);exact{r,λ_=>t}
  .exact{0,λh=>absurd h c}
 obtain⟨m,hm⟩:=Classical.axiomOfChoice hex;have HA:=hm t0<|dh m0;refine{a,I,rfl,s3 _ _ ha,hz,λt ht=>?_};have bf:=vh (fo _) ht;have bg:=vh q9 ht;have s4:qf L (qd (qd L2 U<|.lst<|nY J) t<|.lst<|nY<|qu I):=s3.trans<|By ht;have x3:∀A,qd (qd (qd L2 U<|.lst<|nY J) t<|.lst<|nY<|qu I) U A x=some (.ins Cp<|sv U):=λA=>(qb av).trans<|(qb bf).trans<|fo _;have ba:qd (qd L2 U<|.lst<|nY J) t (.lst<|nY<|qu I) x=some (.ins Cp<|sv U):=(qb bf).trans<|fo _;have p3:qd (qd L2 U<|.lst<|nY J) t (.lst<|nY<|qu I) U=⇑(nY J):=(qb bg).trans q9;have t3:qd (qd L2 U<|.lst<|nY J) t (.lst<|nY<|qu I) t=⇑(nY<|qu I):=q9;have nL:=s0.none aL;generalize qd (qd L2 U<|.lst<|nY J) t (.lst<|nY<|qu I)=Lc at s4 x3 ba p3 t3 ⊢;have a0:iV (nY<|qu I) 0=some (.int (t0:Int)):=rF (i:=0) (by rw[et];rfl);refine aC ba {rfl,gK,qc t3 (ql a0 {x,U,J,t0,_,rk,rfl,rfl,ba,p3,g2,by have:=dh m0;lia,λr ac l2 k2 t2 a2 n2=>?_})};cases t2.uniq HA;have t4:∀A,qd Lc U A t=⇑(nY<|qu I):=λA=>(qb<|AE bg).trans t3;refine j7 (t4 _) λkeep kp=>yR {by rw[jx];exact Bj zt (by decide),λk zs L'=>∃a1,L'=qd Lc U (.lst<|nY a1)/\a1.length=I.length/\nS rk a1/\(∀y s,bD J y s->bD a1 y s)/\zs=nY (((qu I).take k).filter λx=>decide<|m x=m t0),{ac,rfl,by lia,k2,a2,rfl},?_,?_,?_}
 .rintro k zs L' ⟨a1,rfl,_⟩;exact kp _<|(t4 _).trans (t4 _).symm
 .rintro k y zs L' hy ⟨a1,rfl,l3,k3,r3,rfl⟩;obtain⟨n,en,rfl⟩:=cX hy;have hn:=aF.mpr<|Au en;have ek:(qu I).take (k+1)=(qu I).take k++[n]:=by rw[A4,en];rfl
  refine aC (x3 _) {rfl,gK,x,U,a1,n,_,rk,rfl,rfl,x3 _,q9,k3,by have:=dh hn;lia,λr bh l4 k4 t4 a4 n4=>?_};cases t4.uniq (r3 _ _<|hm n<|dh hn);show ao (decide<|(m n:Int)=(m t0:Int)) _ _;rw[mM];refine zu (λcc=>{_,ES _,bh,jz,by lia,k4,λy s z=>a4 y s<|r3 y s z,?_}) λcc=>{_,ES _,bh,jz,by lia,k4,λy s z=>a4 y s<|r3 y s z,?_}
  .rw[ek,BE,B3 (by exact Az cc),BX,aT];rfl
  .rw[ek,BE,Cd (by rw[Ao cc];exact AI),BX,AB]
 .rintro zs L' ⟨a1,rfl,l3,k3,r3,rfl⟩ p5 bq;rw[jx,AY];have s5:=By (o:=.lst<|nY<|(qu I).filter λx=>decide<|m x=m t0) bq;have cm:∀{u v},u<I.length->v<I.length->(m u=m v↔v_ J u v):=λ{u v} hu hv=>{λe=>{m u,hm u hu,e▸hm v hv},λ⟨r,p,q⟩=>((hm u hu).uniq p).trans ((hm v hv).uniq q).symm};have sd:∀R,tW R->(∀d∈g,R d.1 d.2)->∀u v,gm I u=true->gm I v=true->m u=m v->R u v:=λR E hR u v hu hv e=>jn.2.2 R E hR (pD E _) u v<|(cm (dh hu)<|dh hv).mp e;have ed:∀d∈g,m d.1=m d.2:=λd hd=>(cm (hb d hd).1 (hb d hd).2).mpr<|jn.2.1 d hd;refine{rfl,rfl,1,1,_,_,by decide,bG q9<|gF _,bG (s5 _ _<|t4 _)<|gF _,?_};show ao (Da.eqs (eL<|(qu I).filter λx=>decide<|m x=m t0)<|eL<|qu I) _ _;have s6:=(s4.upd nL).trans s5;have all:(((qu I).filter λx=>decide<|m x=m t0)=qu I)↔One (qu I) g:=by
   rw[List.filter_eq_self];constructor
   .intro hA R E hR u hu v hv;have e1:=of_decide_eq_true<|hA u hu;have e2:=of_decide_eq_true<|hA v hv;exact sd R E hR u v (aF.mpr hu) (aF.mpr hv)<|e1.trans e2.symm
   .intro hA u hu;exact Az<|hA _ (ij m) ed u hu t0<|aF.mp m0
  by_cases ca:((qu I).filter λx=>decide<|m x=m t0)=qu I
  .exact xq ((ie _ _).mpr ca)<|jI s6<|q _ _ (ES _)<|.inl {nr,all.mp ca,rfl}
  .refine jv ?_ ?_
   .cases hd:Da.eqs (eL<|(qu I).filter λx=>decide<|m x=m t0) (eL<|qu I) with|false=>rfl|true=>exact absurd ((ie _ _).mp hd) ca
   .exact k8 (q _ _ s6 (.inr (.inl {m,p5,nr,λo=>ca<|all.mpr o,ed,sd,rfl,by rw[q9,et];rfl})))
section
open PySem.W
section
variable {w:WF}
def XT{κ:SortKind}{nm:Keyed->Int}{C:Wr->Prop}
 (I:∀R:Wr->WD->Prop,(∀h' tk vs,(∀b o,s.heap.get? b=some o->h'.get? b=some o)->C vs->R vs {s with heap:=h',toks:=tk})->wpAny (model prog w) A.in1 (collect<|.ref l) R E s)
 (hz:∀vs,C vs->vs.length<=127) (ok:∀vs,C vs->∀s':WD,Hg prog w s' (λ_=>True) κ vs nm)
 (h:∀(g h':WG) tk vs (xs:WQ) D c,C vs->(∀b o,s.heap.get? b=some o->g.get? b=some o)->g.objs.size<=D->(∀b o,g.get? b=some o->h'.get? b=some o)->h'.get? D=some (seqObj "list" (List.toArray (xs.map (·.2))) c)->xs.Perm (vs.zip vs)->(xs.Pairwise λx y=>nm x<=nm y)->Q (.ref D) {s with heap:=h',toks:=tk}):
 wpAny (model prog w) A (call (.builtin "sorted") [.ref l]) Q E s:=by
 refine Calls.call_function_entry kind_sorted plain_sorted entry_sorted (args_sorted1 _) ?_;refine Aa (m:=checkCount "sorted" 1 1 _)<|Ak ?_;refine Aa<|I _ λg tk vs p j=>?_;have hz:=hz vs j;refine Aa (wpAny_newList ?_ (by have:=sizeLine_eq;lia));have J:(g.push<|seqObj "list" vs.toArray 0).get? g.objs.size=some (seqObj "list" vs.toArray 0):=vb _ rfl;have keep:∀U:WG,(∀b o,b≠g.objs.size->(g.push<|seqObj "list" vs.toArray 0).get? b=some o->U.get? b=some o)->∀b o,g.get? b=some o->U.get? b=some o:=λU k b o q=>k b o (A3<|u3 q)<|sy _ q;refine Aa<|Bc<|wpAny_call_entry slot_list_sort {_,J,rfl} entry_list_sort ?body<|args_list_sort _
 case body=>
  refine vY (s:={s with heap:=g.push<|seqObj "list" vs.toArray 0,toks:=tk}) J hz (λA E U k=>ok vs j _ A E U True.intro) λh' tk xs c r t pm T=>?_;exact{_,rfl,Ak {_,rfl,h g h' tk vs xs g.objs.size c j p (An _) (keep h' r) t pm T}}
end
end
section
open PySem.W
section
variable {a:Addr}{kvs:List<|j8×V}
def Vs{P:WE}{w:WF}{u:HO}(k:fD P w H h)(e:Rd H a<|.dK kvs)(ok:xh P w (upd H a u) h a u):fD P w (upd H a u) h:=λb o z=>by
 by_cases c:b=a
 .subst c;rw[zf] at z;cases z;exact ok
 .rw[qo c] at z;refine(k b o z).SZ (λ_ _ _ q=>q) (λd q=>?_) λd I q=>?_ <;>
  .rw[qo λz=>?_];exact q;subst z;rcases e with e|⟨_,e⟩<;>exact nomatch q.symm.trans e
def yx{u:HO}(I:qx X pins σ H s)(e:Rd H a<|.dK kvs)(q:xh X.prog X.w (upd H a u) s.heap a u)(U:∀o x,X.H₀ a=some (.Pv o x)->u=.Pv o x):qx X pins σ (upd H a u) s:=by
 have ne:∀{b},H b=none->b≠a:=λn z=>by rw[z] at n;rcases e with e|⟨_,e⟩<;>rw[n] at e<;>cases e
 have J:∀{b o},H b=some o->(∀g x,o≠.Pv g x)->o≠.dK kvs->b≠a:=λn j l z=>by
  rw[z] at n;rcases e with e|⟨_,e⟩<;>rw[n] at e
  .exact l<|AJ e
  .exact j _ _<|AJ e
 refine{I.ok,I.os,I.bare,{I.base.keep,I.base.slot,λb o z n r=>?_,I.base.there,λb t z=>?_,λb o x z=>?_,λb C z=>?_},I.loc,I.cell,?_,λx c z=>?_,λp T=>?_,Vs I.GT e q,I.len,I.tk}
 .have:=I.base.free b o z n r;rw[qo<|ne this];exact this
 .have:=I.base.WY b t z;rw[qo (J this (λ_ _ z=>by cases z) λz=>by cases z)];exact this
 .by_cases c:b=a
  .subst c;rw[zf,U o x z]
  .rw[qo c];exact I.base.W3 b o x z
 .obtain⟨m,this⟩:=I.base.W9 b C z;exact{m,by rw[qo (J this (λ_ _ z=>by cases z) λz=>by cases z)];exact this}
 .rw[qo<|ne I.free];exact I.free
 .rw[qo<|ne<|I.On x c z];exact I.On x c z
 .obtain⟨h1,h2,h3⟩:=I.pin p T;exact{h1,by rw[qo<|ne h2];exact h2,h3}
def Vt(a:Addr)(o:Obj)(kvs:List<|j8×V):It:=
 ⟨λi H=>H a=some (.Pv o<|.dK kvs)/\i<kvs.length,λi H x H'=>H'=H/\∃k v,kvs[i]?=some (k,v)/\x=kV k,λi H=>H a=some (.Pv o<|.dK kvs)/\kvs.length<=i⟩
def Vu(P:WE)(w:WF)(o:Obj)(vs:List<|j8×WC)(ep:Nat):Prop:=∃es,o.ExactDict/\o.data=.dict es ep/\KeysOf (xn P w) es/\Pairs (xn P w) es.toList vs/\(vs.map (·.1)).Nodup
def Kd{P:WE}{w:WF}{k:j8}(h:(xn P w).is k u=true):zo (kV k) u:=by cases k with|inl i=>exact PySem.Value.isInt_shape h|inr x=>exact PySem.Value.isStrOf_shape h
theorem Vv{P:WE}{w:WF}{K:Ag}{o:Obj}{vs:List<|j8×WC}{ep:Nat}(D:Vu P w o vs ep)(r:KV kvs vs):xQ P w K tg (Vt a o kvs) [it] it (λi h=>h.IsKeyIter it a i vs.length ep) where
 mem:=by simp
 obj:=λi h st b J=>by
  have e:b=it:=by simpa using J
  subst e;obtain⟨o,e,c,d⟩:=st;exact{o,e,λv z=>by rw[d] at z;cases z}
 keep:=λi h l st k=>st.at λo e=>k it (by simp) o e
 item:=by intro X t hw C hc i U s σ H E I j st T;subst t hw C;obtain⟨hz,hi⟩:=T;obtain⟨ho,_⟩:s.heap.get? a=some o/\xh X.prog X.w H s.heap a (.dK kvs):=I.GT a _ hz;obtain⟨es,q⟩:=D;have hm:s.heap.DictAt (xn X.prog X.w) a vs ep:={(o),es,ho,q};obtain⟨⟨k,v⟩,ek⟩:∃p,kvs[i]?=some p:={_,Ai hi};obtain⟨⟨k',u⟩,eu,e1,_⟩:=Paired.Yp r ek;cases (show k=k' from e1);obtain⟨f0,f1,f2,f3,f4,f5⟩:=j it (by simp);refine wpAny_pyNext_dict_item st hm eu λkey l hk g sb=>?_;have I1:=I.turned (t':=s.toks) (λb o J e=>(sb.2 b J).trans e) f0 f1 f3 f4 f5;exact{key,rfl,letGo_keyiter (s':={s with heap:=l}) g {kV k,H,I1,Kd hk,{(rfl),k,v,ek,rfl},g,λb J=>(j b J).1}}
 done:=by intro X t hw C hc i U s σ H E I j st T;subst t hw C;obtain⟨hz,hi⟩:=T;obtain⟨ho,_⟩:s.heap.get? a=some o/\xh X.prog X.w H s.heap a (.dK kvs):=I.GT a _ hz;obtain⟨es,q⟩:=D;obtain⟨f0,f1,f2,f3,f4,f5⟩:=j it (by simp);have hl:=r.length;exact wpAny_pyNext_dict_end (I.ok.hd hc) st {(o),es,ho,q} (Cs (by lia)) λl eb=>{rfl,I.turned (t':=s.toks) (λb o J e=>eb b o J e) f0 f1 f3 f4 f5}
 self:=λ_ _ _ _ _ st h=>wpAny_pyIter_keyiter st h
def Vw(td:TE)(tc:TT):TE:=λσ H Q=>td σ H λx H1=>∃a kvs,∃ks:Wx,∃f:Int->Bool,x=.ref a/\H1 a=some (.dK kvs)/\kvs.map (·.1)=ks.map Sum.inl/\
 (∀o k,k∈ks->∀R:Bool->Hp->Prop,R (f k) (upd H1 a<|.Pv o<|.dK kvs)->tc (σ++[some<|.int k]) (upd H1 a<|.Pv o<|.dK kvs) R)/\∀D,H1 D=none->Q (.ref D) (upd H1 D<|.lst<|(ks.filter f).map V.int)
theorem Ke{iter cond:Expr}{td:TE}{tc:TT}(S:j9 X scope)(hc:X.calm=true)(hd:PE X iter td)
 (hg:∀C fp s₀ H₀,PG (X.comp scope [x] C fp s₀ H₀) (.Name x p2)<|dF X.N.length) (hf:∀C fp s₀ H₀,PF (X.comp scope [x] C fp s₀ H₀) [cond] tc) (he:∀C fp s₀ H₀,PE (X.comp scope [x] C fp s₀ H₀) (.Name x p1)<|mH X.N.length)
 (hs:∀x,foldedSetIterable iter X.env x=pure x:=by intro _;rfl):PE X (.ListComp (.Name x p1) [{.Name x p2,iter,[cond],0}] scope pos) (Vw td tc):=by
 intro j s t H Q I h;rw[eval_ListComp];refine wpAny_comprehension_free (use:=none) rfl hs (S.ZF I) S.kind S.names<|aU (hd j s t H _ I h) λv p y l I1 r1 q1=>?_;obtain⟨a,U,J,f,rfl,e,ek,hq,q⟩:=q1;cases r1;obtain⟨zl,a2,vs,rel,dd⟩:=rH I1.GT e;obtain⟨ep,o,es,ho,r⟩:=dd.dictAt;have l1:U.length=J.length:=by have:=Bt List.length ek;rw[Ae,Ae] at this;exact this
 have nf:∀o x,X.H₀ a≠some (.Pv o x):=λo x z=>by have:=I1.base.W3 a o x z;rw[e] at this;cases this
 have IF:qx X j t (upd l a<|.Pv o<|.dK U) p:=yx I1 (.inl e) {ho,(I1.GT a _ e).SZ (λ_ _ _ q=>q) (λd q=>by rw[qo (ye q e λz=>by cases z)];exact q) λd xs q=>by rw[qo (ye q e λz=>by cases z)];exact q} λo x z=>absurd z<|nf o x;refine wpAny_pyIter_dict a2 {(o),es,ho,r} ?_;have IG:=IF.kept (h':=p.heap.push {cls:=.type "dict_keyiterator",data:=.fields #[.ref a,.int 0 0,.int vs.length 0,.int ep 0]}) (t':=p.toks) λb o e=>sy _ e;have a3:∀D,l D=none->D≠a:=λD n z=>by rw[z,e] at n;cases n
 refine iD (T:=[x]) (RR:=λa4 C=>compPost (model X.prog X.w) X.A X.xe none (EP X j t Q) a4 C) (g:=dF X.N.length) (tc:=tc) (te:=mH X.N.length) (Q:=λy H'=>∃D,y=.ref D/\l D=none/\H'=upd (upd l a<|.Pv o<|.dK U) D (.lst<|(J.filter f).map V.int)) S hc hg (pH _) hf he
  ⟨↥p,[↥p],_,_,_,rfl,IG,Vv (it:=↥p) ⟨es,r⟩ rel,⟨_,vb _ rfl,rfl,rfl⟩,λb hb=>?_,λi m ys H'=>H'=upd l a (.Pv o<|.dK U)/\i<=J.length/\m=J.length-i/\ys=((J.take i).filter f).map V.int,⟨_,rfl,A5 _,rfl,rfl⟩,?_⟩ ?_
 .have e:b=↥p:=by simpa using hb
  subst e;exact IF.XZ (An _)<|IF.GT.fresh<|An _
 .rintro i m ys H' ⟨rfl,hi,rfl,rfl⟩;have ly:(((J.take i).filter f).map V.int).length<=J.length:=by rw[Ae];exact AK (Cu _ _) (by rw[AR];exact Nat.min_le_right _ _)
  have lf:(((J.take i).filter f).map V.int).length<=i:=by rw[Ae];exact AK (Cu _ _) (by rw[AR];exact Nat.min_le_left _ _)
  by_cases c:i=J.length
  .refine .inl {{zf,by lia},by lia,λD r=>{D,rfl,?_,by rw[c,AY]}};have ne:D≠a:=λz=>by rw[z,zf] at r;cases r
   rw[qo ne] at r;exact r
  .refine .inr {{zf,by lia},by lia,λy H' hy=>?_};obtain⟨rfl,k,v,e2,rfl⟩:=hy;have hk:J[i]?=some J[i]:=Ai (by lia);have e3:k=.inl (J[i]'(by lia)):=by have z:=Bt (·[i]?) ek;simp only[Aq,e2,hk,DI] at z;exact AJ z
   subst e3;have es:(t++List.replicate [x].length none).set X.N.length (some<|V.int<|J[i]'(by lia))=t++[some<|.int<|J[i]'(by lia)]:=by rw[<-I1.len,List.set_append_right _ _<|An _,Ci];rfl
   have et:J.take (i+1)=J.take i++[J[i]'(by lia)]:=by rw[A4,hk];rfl
   show tc ((t++List.replicate [x].length none).set X.N.length<|some<|V.int _) _ _;rw[es];refine hq o _ (BN _) _ ?_;by_cases b:f (J[i]'(by lia))=true
   .rw[Ar b];refine{_,(Bt (·[X.N.length]?) es).trans (by rw[<-I1.len];exact CW ..),_,?_,rfl,by lia,rfl,?_}
    .lia
    .rw[et,BE,B3 b,AC];rfl
   .rw[Ap b];refine{_,?_,rfl,by lia,rfl,?_}
    .lia
    .rw[et,BE,Cd b,BX,AB]
 .rintro D C s' H' m' I' f' hn ⟨D',eD,nD,rfl⟩;cases eD;have a1:=a3 D nD;refine{m',hn,λh' a5=>{.ref D,_,?_,rfl,q D nD}};have I2:=I'.turned (t':=s'.toks) (it:=C) (λb o hb e=>(a5.2 b hb).trans e) f'.1 (AE<|AE f'.2.1) f'.2.2.2.1 f'.2.2.2.2.1 f'.2.2.2.2.2;have ea:upd (upd l a<|.Pv o<|.dK U) D (.lst<|(J.filter f).map V.int) a=some (.Pv o<|.dK U):=by rw[qo<|AE a1,zf]
  have I3:=yx (u:=.dK U) I2 (.inr {(o),ea}) ((I2.GT a _ ea).2.SZ (λ_ _ _ q=>q) (λd q=>by rw[qo (ye q ea λz=>by cases z)];exact q) λd xs q=>by rw[qo (ye q ea λz=>by cases z)];exact q) λo x z=>absurd z<|nf o x;have eH:upd (upd (upd l a<|.Pv o<|.dK U) D<|.lst<|(J.filter f).map V.int) a (.dK U)=upd l D (.lst<|(J.filter f).map V.int):=by
   funext b;unfold upd;by_cases c:b=a
   .subst c;rw[Ar rfl,Ap<|AE a1,e]
   .rw[Ap c];by_cases c2:b=D
    .rw[Ar c2,Ar c2]
    .rw[Ap c2,Ap c2,Ap c]
  rw[eH] at I3;exact I3
def o9{ks:Wx}{vs:List<|j8×WC}(r:KV kvs vs)(J:kvs.map (·.1)=ks.map Sum.inl){P:WE}{w:WF}{v:WC}(h:∃k x,vs[i]?=some (k,x)/\(xn P w).is k v=true):∃t,v=Value.int (ks.getD i 0) t/\i<ks.length:=by
 obtain⟨k,x,e,g⟩:=h;have o:=r.length;have C:kvs.length=ks.length:=by have:=Bt List.length J;rw[Ae,Ae] at this;exact this
 have T:=(AM.mp e).1;obtain⟨p,U⟩:∃p,kvs[i]?=some p:={_,Ai (by lia)};obtain⟨q,eq,j,_⟩:=Paired.Yp r U;rw[e] at eq;cases eq;have I:ks[i]?=some ks[i]:=Ai (by lia);have z:=Bt (·[i]?) J;simp only[Aq,U,I,DI] at z;have l:=j.symm.trans<|AJ z;subst l;obtain⟨t,rfl⟩:=Kd g;exact{t,by rw[A2,I];rfl,by lia}
theorem Kf:∀{ns:Wx} {vs:Wr},vs.length=ns.length->(∀i v,vs[i]?=some v->∃t,v=Value.int (ns.getD i 0) t)->IntsAre vs ns
 |[],[],_,_=>.nil
 |n::ns,v::vs,l,h=>by obtain⟨t,rfl⟩:=h 0 v rfl;exact .cons n t<|Kf (Nat.succ.inj l) λi v e=>h (i+1) v e
theorem dM:∀{vs:Wr} {ns:Wx},IntsAre vs ns->vs.length=ns.length
 |_,_,.nil=>rfl
 |_,_,.cons _ _ h=>Bt Nat.succ<|dM h
def Vx(hc:X.calm=true):je X (.builtin "min") (λxs H Q=>∃(a:Addr) (kvs:List<|j8×V) (ks:Wx) (m:Int),xs=[.ref a]/\Rd H a (.dK kvs)/\kvs.map (·.1)=ks.map Sum.inl/\m∈ks/\(∀k∈ks,m<=k)/\Q (.int m) H):=by
 rintro T s σ H xs us Q I r⟨a,kvs,ks,m,rfl,e,U,hm,le,q⟩;obtain⟨u,rfl,ru⟩:=r.one;cases ru;obtain⟨zl,l,p,rel,dd⟩:=iH I.GT e;obtain⟨ep,J⟩:=dd.dictAt;have hl:=rel.length;have l1:kvs.length=ks.length:=by have:=Bt List.length U;rw[Ae,Ae] at this;exact this
 have hp:=CO hm;have C:=A3 J.lt_size;refine ji I.tk (call_min_walk (wpAny_pyIter_dict l J {↥s,_,_,_,_,_,_,rfl,Walks.dictKeys (A:=X.A.in1) (I.ok.hd hc) ↥s a C p ep,{{_,vb _ rfl,rfl,rfl},J.push _},λb hb=>?_,by lia,
  CmpOf.ints_lt (λi=>ks.getD i 0) (λi v h=>let ⟨t,e,_⟩:=o9 rel U h;⟨t,e⟩),λv h' tk hP hk ht=>?_}))
 .show b<(s.heap.push _).objs.size;rw[At];simp only[Aw,AZ,or_false] at hb;rcases hb with rfl|rfl
  .exact Bi _
  .exact B5 J.lt_size
 .obtain⟨t,rfl,hi⟩:=o9 rel U hP;obtain⟨j,hj,ej⟩:=BH hm;have b:=(argBest_lt (λi=>ks.getD i 0)<|p.length-1).2 j (by lia);have g:=λi (h:i<ks.length)=>show ks.getD i 0=ks[i] by rw[A2,Ai h];rfl
  have em:ks.getD (argBest (λi j=>decide<|ks.getD i 0<ks.getD j 0)<|p.length-1) 0=m:=by
   refine Int.le_antisymm ?_ ?_
   .have b:=b;rw[g j hj,ej] at b;exact b
   .rw[g _ hi];exact le _<|BN _
  rw[em];exact{.int m,H,I.kept (t':=tk) (λb o e=>hk b o (λz=>by rw[Ad.mp z] at e;exact absurd (u3 e)<|Cj _)<|sy _ e) ht,{_,rfl},q}
def y4(hc:X.calm=true):je X (.builtin "sorted") (λxs H Q=>∃(a:Addr) (kvs:List<|j8×V) (ks:Wx),xs=[.ref a]/\H a=some (.dK kvs)/\kvs.map (·.1)=ks.map Sum.inl/\ks.length<=127/\
 ∀(D:Addr) (ms:Wx),H D=none->ms.Perm ks->ms.Pairwise (λa b:Int=>a<=b)->Q (.ref D) (upd H D<|.lst<|ms.map V.int)):=by
 rintro a1 s σ H xs us Q I r⟨a,kvs,ks,rfl,e,ek,hz,q⟩;obtain⟨u,rfl,ru⟩:=r.one;cases ru;obtain⟨zl,j,vs,rel,dd⟩:=rH I.GT e;obtain⟨ep,l⟩:=dd.dictAt;have hl:=rel.length;have l1:kvs.length=ks.length:=by have:=Bt List.length ek;rw[Ae,Ae] at this;exact this
 refine ji I.tk (XT (C:=λU=>IntsAre U ks) (nm:=XD) (κ:=oneType') (λR hR=>kdu_collect (kdl_dict (knd:=xn X.prog X.w) (kvs:=vs) (ep:=ep) j) (I.ok.hd hc) l (by lia) λh' p a2 T ia=>hR h' p _ T ?_) (λU c=>?_) (λU c s' A E g _=>{{λx y hx hy=>XH.lt x y (dI c _ (HT hx).1)<|dI c _ (HT hy).1},λh2 Q q=>by rw[Xl (dI c) h2];exact Ak q}) λg h' p U xs D c cw gk hD T hg pm pw ht=>?_)
 .obtain⟨n1,n2⟩:=ia;refine Kf (by rw[AW];lia) λi v ei=>?_;obtain⟨t,e,_⟩:=o9 rel ek (n2 i v (by rw[<-A6];exact ei));exact{(t),e}
 .rw[dM c];exact hz
 .have mk:∀x∈xs,Xw x.1/\x.1=x.2:=λx hx=>by obtain⟨m1,m2⟩:=HT<|pm.mem_iff.mp hx;exact{dI cw _ m1,m2}
  have pn:(xs.map XD).Perm ks:=by rw[<-oG cw];exact pm.map _
  have J:=I.kept (t':=s.toks) gk;refine{.ref D,_,J.laid (t':=p) (o:=.lst<|(xs.map XD).map V.int) T hD {?_,xs.map (·.2),c,o3 mk,hg},rfl,q D _ (J.GT.fresh hD) pn<|BR.mpr pw};rw[Ae,pn.length_eq];lia
end
end
def gJ{xs:List<|j8×V}(p:Paired (λ(p:j8×Y) (q:j8×V)=>p.1=q.1/\RV G H p.2 q.2) kvs xs):xs.map (·.1)=kvs.map (·.1):=by induction p with|nil=>rfl|cons h t I=>rw[AQ,AQ,I,h.1]
def yj(L:qj)(a:Addr)(k:List (j8×Y)->Wx->Prop):Prop:=jG L a λkvs=>∃ks:Wx,kvs.map (·.1)=ks.map Sum.inl/\k kvs ks
def oB{a:Addr}{ks:Wx}{k:List (j8×Y)->Wx->Prop}(h:L a=some (.KF kvs))(e:kvs.map (·.1)=ks.map Sum.inl)(q:k kvs ks):yj L a k:=zj h {(ks),e,q}
def wK(xs:Z0)(L:qj)(Q:YK):Prop:=match xs with
 |[.ref a]=>yj L a λ_ ks=>ks.length<=127/\∀(D:Addr) (ms:Wx),L D=none->ms.Perm ks->ms.Pairwise (λa b:Int=>a<=b)->Q (.ref D) (qd L D<|.lst<|ms.map Y.int)
 |_=>False
theorem Vy(hc:X.calm=true:=by rfl):je X (.builtin "sorted") (b_ X.g3 wK):=E9 (y4 hc) λxs H Q ys L Q3 g I z k=>by
 unfold wK at z;split at z
 .rename_i a;obtain⟨j,e,l,o,p,q⟩:=kz z;obtain⟨r,t,C⟩:=I a _ e;obtain⟨u,rfl,T⟩:=g.inv1;cases (show u=V.ref a from T);exact{a,r,l,rfl,t,(gJ C).trans o,p,λD U J pm pw=>k _ _ _ _ (EU J) (I.Xa J<|iz U) (by rfl)<|q D U (I.none J) pm pw}
 .exact z.elim
def Hs(id:Nat)(c:Int)(τ:jd)(L:qj)(Q:YK):Prop:=match qC τ id with
 |some (.ref a)=>yj L a λkvs ks=>∃g:Int->Int,(∀k∈ks,xj kvs (.inl k)=some (.int<|g k))/\∀D,L D=none->Q (.ref D) (qd L D<|.lst<|(ks.filter λk=>decide<|g k≠c).map Y.int)
 |_=>False
def Ht(id il:Nat)(τ:jd)(L:qj)(Q:YK):Prop:=match qC τ id,qC τ il with
 |some (.ref a),some (.ref b)=>a≠b/\yj L a λ_ ks=>jG L b λI=>∃(g:Int->Int) (m:Int),(∀k∈ks,xj I (.inl k)=some (.int<|g k))/\(∀k∈ks,m∈ks/\m<=k)/\∀D,L D=none->Q (.ref D) (qd L D<|.lst<|(ks.filter λk=>decide<|g k≠m).map Y.int)
 |_,_=>False
section
variable {d y:Str}{id il:Nat}{c:Int}{p6 p7 p8 p9:Pos}
def Kg{i c:Int}:q_ true (decide<|V.int i=V.int c)=decide (i≠c):=by unfold q_;by_cases h:i=c<;>simp[h]
theorem Vz(S:j9 X scope)(hc:X.calm=true)(hu:X.A.units+128<cLine)(hN:(X.N++[x]).Nodup)(hl:∀C fp s₀ H₀,yu (X.comp scope [x] C fp s₀ H₀).env.scope x)(U:∀C fp s₀ H₀,(X.comp scope [x] C fp s₀ H₀).env.scope.names.lookup x=some .local)
 (pd:PE X (.Name d p3)<|mH id) (l:∀C fp s₀ H₀,PE (X.comp scope [x] C fp s₀ H₀) (.Name d p4)<|mH id) (px:∀C fp s₀ H₀ p,PE (X.comp scope [x] C fp s₀ H₀) (.Name x p)<|mH X.N.length):
 QE X (.ListComp (.Name x p1) [{.Name x p2,.Name d p3,[.Compare (.Subscript (.Name d p4) (.Name x p5) p6) [.NotEq] [.Constant (.int c) j p7] p8],0}] scope pos) (Hs id c):=by
 rintro J s σ H Q I⟨τ,L,Q3,rs,r,z,k⟩;have il:=I.len;refine Ke S hc pd (λC fp s₀ H₀=>gM (X:=X.comp scope [x] C fp s₀ H₀) hN (by show(X.N++[x])[X.N.length]?=some x;simp) (hl C fp s₀ H₀)<|.inr<|U C fp s₀ H₀) (λC fp s₀ H₀=>xI<|tV (yi true) (rf (show X.A.units+1<cLine by lia) (l C fp s₀ H₀) (px C fp s₀ H₀ p5) λ_ _=>rfl) HE<|xc _) (λC fp s₀ H₀=>px C fp s₀ H₀ p1) (by intro _;rfl) J s σ H Q I ?_;unfold Hs at z;split at z
 .rename_i a ea;obtain⟨a1,e,ks,ek,g,hg,q⟩:=kz z;obtain⟨T,e2,pr⟩:=r a _ e;obtain⟨v,ev,rv⟩:=rs.get id _<|gG _ _ ea;cases (show v=V.ref a from rv);refine{_,ev,a,T,ks,λk=>decide<|g k≠c,rfl,e2,(gJ pr).trans ek,λo n hn R hR=>?_,λD t=>k _ _ _ _ (EU t) (r.Xa t<|iz _) (by rfl)<|q D<|r.none t};obtain⟨u,eu,ru⟩:=a9 pr<|hg n hn;cases (show u=V.int (g n) from ru);refine{_,(Av (AM.mp ev).1).trans ev,_,by rw[<-il];exact CW ..,a,_,rfl,.inl {T,.inl n,.inr {(o),zf},rfl,eu.symm},rfl,_,rfl,?_};rw[Kg];exact hR
 .exact z.elim
theorem VA(S:j9 X scope)(hc:X.calm=true)(hu:X.A.units+128<cLine)(hN:(X.N++[x]).Nodup)(hl:∀C fp s₀ H₀,yu (X.comp scope [x] C fp s₀ H₀).env.scope x)(l:∀C fp s₀ H₀,(X.comp scope [x] C fp s₀ H₀).env.scope.names.lookup x=some .local)(r:∀C fp s₀ H₀,Gl (X.comp scope [x] C fp s₀ H₀) "min")(hm:X.mg "min"=none)
 (pd:PE X (.Name d p3)<|mH id) (t:∀C fp s₀ H₀,PE (X.comp scope [x] C fp s₀ H₀) (.Name d p4)<|mH id) (py:∀C fp s₀ H₀,PE (X.comp scope [x] C fp s₀ H₀) (.Name y p7)<|mH il) (px:∀C fp s₀ H₀ p,PE (X.comp scope [x] C fp s₀ H₀) (.Name x p)<|mH X.N.length) (hv:bootBuiltins "min"=some (.builtin "min"):=by decide +kernel):
 QE X (.ListComp (.Name x p1) [{.Name x p2,.Name d p3,[.Compare (.Subscript (.Name y p7) (.Name x p5) p6) [.NotEq] [.Call (.Name "min" p8) [.Name d p4] [] p9] fx],0}] scope pos) (Ht id il):=by
 rintro J s σ H Q I⟨τ,L,Q3,rs,j,z,k⟩;have jl:=I.len;refine Ke S hc pd (λC fp s₀ H₀=>gM (X:=X.comp scope [x] C fp s₀ H₀) hN (by show(X.N++[x])[X.N.length]?=some x;simp) (hl C fp s₀ H₀)<|.inr<|l C fp s₀ H₀) (λC fp s₀ H₀=>xI<|tV (yi true) (rf (show X.A.units+1<cLine by lia) (py C fp s₀ H₀) (px C fp s₀ H₀ p5) λ_ _=>rfl) (iR (Vx (X:=X.comp scope [x] C fp s₀ H₀) hc) (r C fp s₀ H₀) hm hv<|aP (t C fp s₀ H₀) fH)<|xc _) (λC fp s₀ H₀=>px C fp s₀ H₀ p1) (by intro _;rfl) J s σ H Q I ?_;unfold Ht at z;split at z
 .rename_i a b ea eb;obtain⟨T,z⟩:=z;obtain⟨a3,e,ks,ek,z⟩:=kz z;obtain⟨a4,el,g,m,r,U,q⟩:=kz z;obtain⟨xs,e2,pr⟩:=j a _ e;obtain⟨xl,Gp,a1⟩:=j b _ el;obtain⟨v,ev,rv⟩:=rs.get id _<|gG _ _ ea;cases (show v=V.ref a from rv);obtain⟨w,ew,a2⟩:=rs.get il _<|gG _ _ eb;cases (show w=V.ref b from a2);refine{_,ev,a,xs,ks,λk=>decide<|g k≠m,rfl,e2,(gJ pr).trans ek,λo n hn R hR=>?_,λD hD=>k _ _ _ _ (EU hD) (j.Xa hD<|iz _) (by rfl)<|q D<|j.none hD};obtain⟨u,eu,ru⟩:=a9 a1<|r n hn;cases (show u=V.int (g n) from ru);refine{_,(Av (AM.mp ew).1).trans ew,_,by rw[<-jl];exact CW ..,b,_,rfl,.inl {xl,.inl n,.inl<|(qo<|AE T).trans Gp,rfl,eu.symm},?_};refine{_,(Av (AM.mp ev).1).trans ev,a,xs,ks,m,rfl,.inr {(o),zf},(gJ pr).trans ek,(U n hn).1,λk hk=>(U k hk).2,rfl,_,rfl,?_};rw[Kg];exact hR
 .exact z.elim
end
def oh:RD "_law_whole" jF 0 ["_law_found"] (λ_=>True):={_,λV B c _ _ _ _ _ _ _ I hN J=>(qe<|za<|jV (vt .int rfl B.b_isinstance rfl B.bi rh<|qv 0)<|oP<|Qn<|vt .bool rfl B.b_isinstance rfl B.b_bool io<|qv 0)}
def ur(I:km)(p1:km):ai:=(zv (jw (Iz IA<|ax 1)<|qk 2)
 (zv (kC (aK<|qh 1) (qk 3) (zv (bN (r_ (rT<|yB<|xa I<|eB<|qh 3)<|r_ (yB<|ky Qy (qh 3)<|qh 2)<|yB<|ky QC (qh 3)<|tR 0) (bP<|yC<|.bl false) aW)
 (jw (qh 3)<|qk 2)))
 (zv (qQ 3<|jw (d_ 1 (aK<|qh 1) (qk 9) D_<|ky m5 (qh 0)<|qh 9)<|qk 4)
 (zv (jw zH<|qk 5)
 (zv (kC (aK<|qh 4) (dC 2<|jt (qk 6)<|jt (qk 7) bT) (zv (uc (qh 5) (qh 6)<|ky gU (xA (qh 5) (qh 6)<|ax 0)<|ax 1)
 (uc (qh 5) (qh 7)<|ky gU (xA (qh 5) (qh 7)<|ax 0)<|ax 1)))
 (zv (Hm 6 (r_ (yB<|ky Ge (tR 1)<|ax 2)<|u_ (Hs 5 2)<|cV jc) (bP<|yC<|.bl false) aW)
 (zv (jw (xa p1<|qp (oN wK<|eB<|qh 5)<|eB<|qh 4)<|qk 8)
 (qQ 6<|bP<|ky (c_ false) (Ht 5 8)<|cV jc))))))))
theorem Zb.ZW(W:Zb wd lk ct):(∀xs,∀e∈lD wd lk ct xs,gm wd e.1=true/\gm wd e.2=true/\e.1≠e.2)/\(∃z,gm wd z=true)/\(qu wd).length<=120:=by
 obtain⟨C,R,E,a4,a2,a1,f,ok,a5,tp,hk,I,pl,pc,ho,rn,ac,_,al,_⟩:=W.ex;have lo:a1.length=C.length:=by
  rcases ho with rfl|⟨qs,B,T⟩
  .exact Ae ..
  .exact T.len
 have fi:∀{a b},a<C.length->b<C.length->a≠b->f a≠f b:=λha hb n z=>n<|rn.gap.inj _ (A9.mpr<|lo▸ha) _ (A9.mpr<|lo▸hb) z;have ex:∀a k,C[a]?=some k->((∃t n,k=.lf t n)\/a∈aq C\/∃c∈a2,a=c.1\/a=c.2)->gm wd (f a)=true:=λa k J h=>by
  have ha:=zd J;have:∃k,a1[a]?=some (some k):=by
   rcases ho with rfl|⟨qs,B,T⟩
   .exact{k,by rw[Aq,J];rfl}
   .rcases h with⟨t,n,rfl⟩|h|⟨c,hc,h⟩
    .exact{_,T.lf a t n ha J}
    .cases k with|lf t n=>exact{_,T.lf a t n ha J}|nd b i j=>exact(T.nd a b i j ha J).elim (λz=>absurd h z.2) λ⟨_,z⟩=>{_,z}
    .obtain⟨m1,m2⟩:=B.cut c hc;refine{k,T.kp a ?_ ha k J};rcases h with rfl|rfl
     .exact m1.resolve_right AZ
     .exact m2.resolve_right AZ
  obtain⟨k,e⟩:=this;have:=rn.gap.at_ a (A9.mpr<|zd e) _ e;cases k<;>exact J5 this
 have two:∀{a b k k'},C[a]?=some k->C[b]?=some k'->k≠k'->f a≠f b:=λh h' n=>fi (zd h) (zd h') λz=>by subst z;rw[h] at h';exact n<|AJ h'
 have pr:∀y∈a4,gm wd (f y.1)=true/\gm wd (f y.2)=true/\f y.1≠f y.2:=λy hy=>by obtain⟨t,n,h1,h2⟩:=I.at_ y hy;exact{ex _ _ h1<|.inl {_,_,rfl},ex _ _ h2<|.inl {_,_,rfl},two h1 h2 λz=>by cases t<;>cases z}
 have nd:∀{p i j:Nat} {e:Bool},wd[p]?=some (some<|Kn.nd e i j)->(gm wd p=true/\gm wd i=true/\p≠i)/\gm wd p=true/\gm wd j=true/\p≠j:=λ{p i j e} h=>by
  obtain⟨o1,o2⟩:=rn.gap.ok p e i j h;obtain⟨x,hx,rfl,o,eo,eq⟩:=rn.inv h;have tp:=J5 h;cases o with
  |none=>cases eq
  |some k=>
   cases k with
   |lf t n=>cases eq
   |nd b a c=>
    cases eq;obtain⟨b',J⟩:∃b',C[x]?=some (.nd b' a c):=by
     rcases ho with rfl|⟨qs,B,T⟩
     .rw[Aq] at eo;obtain⟨k,J,e1⟩:=AA.mp eo;cases e1;exact{_,J}
     .exact T.inv eo
    obtain⟨m1,m2⟩:=Uz J;have lt:=ok x _ J;have hx:=zd J;exact{{tp,ex a _ (Ai<|CM lt.1 hx)<|.inr<|.inl m1,by lia},tp,ex c _ (Ai<|CM lt.2 hx)<|.inr<|.inl m2,by lia}
 have av:∀c∈a2,gm wd (f c.1)=true/\gm wd (f c.2)=true/\f c.1≠f c.2:=λc hc=>by
  obtain⟨w,h1,h2⟩:=a5.ZI c<|pc.mem_iff.mp hc;have g:∀{p y},(vz C)[p]?=some y->∃k,C[p]?=some k/\uR k=y:=λe=>by rw[Aq] at e;exact AA.mp e
  have k8:∀{y y'},(vz C)[c.1]?=some y->(vz C)[c.2]?=some y'->y≠y'->gm wd (f c.1)=true/\gm wd (f c.2)=true/\f c.1≠f c.2:=λh h' n=>by obtain⟨k,J,e1⟩:=g h;obtain⟨k',a3,e2⟩:=g h';exact{ex _ _ J<|.inr<|.inr {c,hc,.inl rfl},ex _ _ a3<|.inr<|.inr {c,hc,.inr rfl},two J a3 λz=>n (by rw[<-e1,<-e2,z])}
  cases w with
  |leaf t n=>exact k8 h1 h2 λz=>by cases t<;>cases z
  |node e l r=>
   obtain⟨i,j,h1,_⟩:=h1;obtain⟨i',j',h2,_⟩:=h2;exact k8 h1 h2 λz=>by cases e<;>cases z
 refine{λxs e U=>?_,?_,?_}
 .rcases Aj.mp U with U|U
  .rcases Aj.mp U with U|U
   .obtain⟨y,hy,rfl⟩:=Ba.mp<|ac.mem_iff.mp U;obtain⟨t1,t2,ne⟩:=pr y hy;show gm wd (min (f y.1)<|f y.2)=true/\gm wd (max (f y.1)<|f y.2)=true/\min (f y.1) (f y.2)≠max (f y.1) (f y.2);by_cases c:f y.1<=f y.2
    .rw[B6 c,C5 c];exact{(t1),t2,ne}
    .rw[C4 (by lia),Dj (by lia)];exact{t2,t1,AE ne}
   .obtain⟨y,hy,rfl⟩:=Ba.mp<|al.mem_iff.mp U;exact av y hy
  .obtain⟨r,_,U⟩:=Bx.mp U;unfold aM at U;split at U
   .rename_i h;rcases Aw.mp U with rfl|U
    .exact(nd h).1
    .rw[Ad.mp U];exact(nd h).2
   .rename_i h;rw[Ad.mp U];unfold gn;rw[h];dsimp only;split
    .exact(nd h).2
    .exact(nd h).1
   .cases U
 .have one:∀R:Ru,∃x,x∈ju (zr R):=λR=>by
   induction R with
   |link p q=>exact{p,As ..}
   |ei r A ih=>exact ih
   |bo r A B ih _=>obtain⟨x,hx⟩:=ih;exact{x,by show x∈ju (zr A++zr B);rw[kc];exact Am _ hx}
   |cu p q A B ih _=>obtain⟨x,hx⟩:=ih;exact{x,by show x∈ju (zr A++zr B);rw[kc];exact Am _ hx}
  obtain⟨x,hx⟩:=one R;obtain⟨c,hc,_⟩:=vS<|pl.mem_iff.mpr hx;exact{_,(pr c hc).1}
 .have:=aE (qu wd) ((List.range a1.length).map f) (sV _ _ _) λx hx=>by
   obtain⟨_,k,J,hb⟩:=sW hx;cases k with
   |none=>cases hb
   |some k=>
    obtain⟨p,hp,rfl,_⟩:=rn.inv J;exact Ba.mpr {p,A9.mpr hp,rfl}
  rw[Ae,Bh] at this;lia
structure uL(l:Wt)(kvs:List<|j8×Y)(ks:Wt):Prop where
 key:kvs.map (·.1)=(ks.map λn:Nat=>(n:Int)).map Sum.inl
 nd:ks.Nodup
 mem:∀x,x∈ks↔x∈l
 val:∀x:Nat,xj kvs (.inl (x:Int))=if x∈l then some (.int ((l.count x:Nat):Int)) else none
def uL.get{l:Wt}{ks:Wt}(C:uL l kvs ks)(x:Nat):(xj kvs<|.inl (x:Int)).getD (.int 0)=.int ((l.count x:Nat):Int):=by
 rw[C.val];split
 .rfl
 .rename_i h;rw[List.count_eq_zero.mpr h];rfl
def uL.put{l:Wt}{ks:Wt}(C:uL l kvs ks)(x:Nat):∃U,uL (l++[x]) (wv kvs (.inl (x:Int))<|.int<|((l.count x:Nat):Int)+1) U:=by
 have J:∀y:Nat,xj (wv kvs (.inl (x:Int))<|.int<|((l.count x:Nat):Int)+1) (.inl (y:Int))=if y∈l++[x] then some (.int (((l++[x]).count y:Nat):Int)) else none:=λy=>by
  rw[aw,CV,List.count_singleton];by_cases c:y=x
  .subst c;rw[Ar rfl,Ar<|Ah _<|Ad.mpr rfl,Ar (by simp)];rfl
  .rw[Ap λz=>c<|BB.mp<|Ev z,C.val,Ap (λz:(x==y)=true=>c (beq_iff_eq.mp z).symm),Ez];simp[c]
 have g:(kvs.any λI=>decide<|I.1=Sum.inl (x:Int))=true↔x∈ks:=by
  have:(kvs.any λI=>decide<|I.1=Sum.inl (x:Int))=(kvs.map (·.1)).any λk=>decide (k=Sum.inl (x:Int)):=by rw[List.any_map];rfl
  rw[this,C.key,BW,List.any_map,List.any_eq_true];constructor
  .rintro⟨y,j,e⟩;have e:=BB.mp<|Ev<|of_decide_eq_true e;exact e▸j
  .exactλh=>{x,h,Az rfl}
 unfold wv at J ⊢;by_cases c:x∈ks
 .rw[Ar<|g.mpr c] at J ⊢;refine{ks,?_,C.nd,λy=>?_,J}
  .rw[<-C.key,BW];refine List.map_congr_left λI _=>?_;show(if I.1=_ then _ else I).1=I.1;split<;>rfl
  .rw[Aj,Ad,C.mem];exact{.inl,λh=>h.elim id λe=>e▸(C.mem x).mp c}
 .rw[Ap λz=>c<|g.mp z] at J ⊢;refine{ks++[x],?_,AL.mpr {C.nd,by simp,λa h b o e=>c (by rw[Ad.mp o] at e;exact e▸h)},λy=>?_,J}
  .rw[AC,AC,AC,C.key];rfl
  .rw[Aj,Aj,C.mem]
inductive dr(ys:Z0)(L:qj)(Q:YK):Prop
 |mk:∀i,(ys=[.int i])->(Q (.bl true) L)->dr ys L Q
def yQ:ZY dr oh.1 1:=by rintro ys L Q ⟨i,rfl,q⟩;exact k8 q
def kO(l:Wp):(cR l).length=2*l.length:=by induction l with|nil=>rfl|cons e r I=>show(cR r).length+2=2*(r.length+1);lia
def uL.len{l:Wt}{ks:Wt}(C:uL l kvs ks):kvs.length<=l.length:=by have h:=Bt List.length C.key;rw[Ae,Ae,Ae] at h;rw[h];exact aE ks l C.nd λx I=>(C.mem x).mp I
inductive ig(ys:Z0)(L:qj)(Q:YK):Prop
 |mk:∀e p,∀es:Wq,∀ms vs:Wt,(ys=[.ref e,.ref p])->(L e=⇑(qt es))->(L p=⇑(nY ms))->(es.length<=2000)->(ms.length<=126)->(Kc es ms vs)->(Q (.bl true) L)->ig ys L Q
theorem VB:ZY ig (ur dr dG) 9:=by
 rintro ys L Q ⟨e,p,U,I,vs,rfl,he,hp,ze,zm,R,q⟩;have big:=a_;refine j7 hp λkeep kp=>xm {λi τ L'=>∃(la:Int) (c3:WM),τ=[some<|.ref e,some<|.ref p,some<|.int la,c3,none,none,none,none,none]/\L'=L/\∀n∈I.drop i,la<(n:Int),{-1,none,rfl,rfl,λn _=>by lia},?_,?_,?_}
 .rintro i τ L' ⟨la,c3,rfl,rfl,_⟩;exact kp _ rfl
 .rintro i y τ L' hy ⟨la,c3,rfl,rfl,lt⟩;obtain⟨n,en,rfl⟩:=cX hy;have hi:=zd en;have ed:I.drop i=n::I.drop (i+1):=by rw[BO hi];congr 1;exact(AM.mp en).2
  have hl:=lt n (by rw[ed];exact As ..);have hn:=R.lt n<|Au en;refine{_,rfl,jv rfl<|jv (Ao (by lia))<|qc he<|jv (Ao ?_) ?_}
  .show ¬((qt U).length:Int)<=(n:Int);unfold qt;rw[Ae];lia
  .refine{_,ES _,_,_,rfl,rfl,λk hk=>?_};have up:=(R.up.sublist<|Ec i I);rw[ed] at up;have:=(Dm.mp up).1 k hk;lia
 rintro τ L' ⟨la,c3,rfl,rfl,_⟩;refine j7 hp λkeep kp=>bQ (λi zs=>zs=qt ((I.take i).map<|w4 U)) (by rw[jx];exact big _ (by lia)) (kp _ rfl) rfl ?_ ?_
 .rintro i y zs hy rfl;obtain⟨n,en,rfl⟩:=cX hy;have hn:=R.lt n<|Au en;have ac:U[n]?=some (w4 U n):=by unfold w4;rw[A2,Ai hn];rfl
  refine qc he (ql (w5 (j:=n) (by unfold qt;rw[Aq,ac];rfl)) {_,ES _,rfl,?_});rw[A4,en,AC,fE];rfl
 rintro zs rfl r hr;rw[jx,AY];have s1:qf L' (qd L' r<|.lst<|qt<|I.map<|w4 U):=By hr;have g1:qd L' r (.lst<|qt<|I.map<|w4 U) r=⇑(qt<|I.map<|w4 U):=q9;generalize qd L' r (.lst<|qt<|I.map<|w4 U)=L1 at s1 g1 ⊢;have ll:(I.map<|w4 U).length=I.length:=Ae ..;intro d hd;have al:=vh g1 hd;have gr:∀A,qd L1 d A r=⇑(qt<|I.map<|w4 U):=λA=>(qb al).trans g1;refine j7 (gr _) λkeep kp=>xm {λi τ L2=>∃J l c6 c7,τ=[some<|.ref e,some<|.ref p,some<|.int la,none,some<|.ref r,some<|.ref d,c6,c7,none]/\L2=qd L1 d (.KF J)/\uL (cR<|(I.map<|w4 U).take i) J l,{[],[],none,none,rfl,rfl,rfl,BU,λ_=>Iff.rfl,λ_=>rfl},?_,?_,?_}
 .rintro i τ L2 ⟨J,l,c6,c7,rfl,rfl,_⟩;exact kp _<|(gr _).trans (gr _).symm
 .rintro i y τ L2 hy ⟨J,l,c6,c7,rfl,rfl,C⟩;have hi:=zd hy;rw[Aq] at hy;obtain⟨⟨u,v⟩,ex,rfl⟩:=AA.mp hy;have et:cR ((I.map<|w4 U).take<|i+1)=cR ((I.map<|w4 U).take i)++[u]++[v]:=by rw[A4,ex];unfold cR;rw[AO,Ay];rfl
  obtain⟨k1,C1⟩:=C.put u;obtain⟨k2,C2⟩:=C1.put v;have le:(cR<|(I.map<|w4 U).take i).length<=2*126:=by have:=kO<|(I.map<|w4 U).take i;rw[AR] at this;lia
  have l0:=C.len;have l1:=C1.len;rw[Ab,AF] at l1;refine zj q9<|zj q9 ?_;rw[C.get];refine zj q9 {big _ (by lia),?_};rw[jz];refine zj q9<|zj q9 ?_;rw[C1.get];refine zj q9 {big _ (by lia),_,ES _,_,k2,_,_,rfl,jz,?_};rw[et];exact C2
 rintro τ L2 ⟨J,l,c6,c7,rfl,rfl,C⟩;rw[show(qt<|I.map<|w4 U).length=I.length from(Ae ..).trans ll,<-ll,AY] at C;have m2:∀x,x∈cR (I.map<|w4 U)↔x∈vs:=λx=>by rw[R.ends.mem_iff,Aj,or_self]
 have c2:∀x,x∈vs->(cR<|I.map<|w4 U).count x=2:=λx g=>by have h1:=List.nodup_iff_count.mp R.vn x;have h2:=List.count_pos_iff.mpr g;rw[R.ends.count_eq,CV];lia
 have kv:∀x,x∈l↔x∈vs:=λx=>(C.mem x).trans<|m2 x;have kl:l.length<=126:=by have h1:=aE l vs C.nd λx g=>(kv x).mp g;have h2:=R.ends.length_eq;rw[kO,Ab] at h2;lia
 have t0:qf L' (qd L1 d<|.KF J):=s1.trans<|By hd;have gd:qd L1 d (.KF J) d=some (.KF J):=q9;have a2:=gr<|.KF J;generalize qd L1 d (.KF J)=L2 at t0 gd a2 ⊢;refine qc (t0 _ _ hp)<|jv (Ao ?_) ?_
 .show ¬((nY I).length:Int)<2;have:=R.two;rw[jx];lia
 refine oB gd C.key {λ_=>2,λk hk=>?_,λD hD p2 a3=>?_}
 .obtain⟨x,g,rfl⟩:=Ba.mp hk;rw[C.val,Ar<|(C.mem x).mp g,c2 x<|(kv x).mp g];rfl
 have ef:((l.map λn:Nat=>(n:Int)).filter λ_=>decide<|(2:Int)≠2)=[]:=DA.mpr λ_ _=>by decide
 have t1:=(By (o:=.lst<|((l.map λn:Nat=>(n:Int)).filter λ_=>decide<|(2:Int)≠2).map Y.int) hD).trans<|By (o:=.lst []) a3;have eD:=By (o:=.lst []) a3 _ _ (show qd L2 D (.lst<|((l.map λn:Nat=>(n:Int)).filter λ_=>decide<|(2:Int)≠2).map Y.int) D=⇑[] by rw[q9,ef];rfl);refine wq (n:=0) (m:=0) (by decide) eD q9 .nil .nil<|jv rfl ?_;have g2:=t1 _ _ gd;have g3:=t1 _ _ a2;replace t1:=t0.trans t1;generalize qd (qd L2 D<|.lst<|((l.map λn:Nat=>(n:Int)).filter λ_=>decide<|(2:Int)≠2).map Y.int) p2 (.lst [])=Lc at t1 g2 g3 ⊢;refine oB g2 C.key {by rw[Ae];lia,λS T hS av pw=>?_};obtain⟨T,pT,rfl⟩:=gQ (λn:Nat=>(n:Int)) av rfl;have eT:(T.map λn:Nat=>(n:Int)).map Y.int=nY T:=by unfold nY;rw[BW];rfl
 rw[eT];have t2:=By (o:=.lst<|nY T) hS;have mT:∀{x:Nat},x∈T↔x∈vs:=λ{x}=>pT.mem_iff.trans<|kv x;have aL:∀c∈I.map (w4 U),c.1∈T/\c.2∈T:=λc hc=>{mT.mpr<|(m2 _).mp<|Bx.mpr {c,hc,As ..},mT.mpr<|(m2 _).mp<|Bx.mpr {c,hc,Al _<|As ..}};refine{S,r,T,_,rfl,q9,t2 _ _ g3,pT.nodup_iff.mpr C.nd,aL,by rw[pT.length_eq];lia,by rw[ll];lia,λdl ba a1 a4 F=>?_};have g4:=t2 _ _ g2;have nd:=vh g4 a4;have key:∀x∈l,a1 x=T.headD 0/\T.headD 0∈l/\T.headD 0<=x/\x∈T:=λx g=>by
  have xT:=pT.mem_iff.mpr g;have z:=pT;have hd:=F.hd;cases T with
  |nil=>cases xT
  |cons t T=>
   have e:=hd t rfl;refine{(R.con _ (ij a1) (λk hk=>F.YL _<|Ba.mpr {(k),hk,rfl}) x ((kv x).mp g) t<|mT.mp<|As ..).trans e,z.mem_iff.mp<|As ..,?_,xT};rcases Aw.mp xT with rfl|h
   .exact An _
   .exact Int.ofNat_le.mp<|(Dm.mp pw).1 _<|Ba.mpr {(x),h,rfl}
 refine{nd,oB ((qb nd).trans g4) C.key<|zj q9 {λk=>((a1 k.toNat:Nat):Int),((T.headD 0:Nat):Int),λk hk=>?_,λk hk=>?_,λD2 bb p3 a5=>?_}}
 .obtain⟨x,g,rfl⟩:=Ba.mp hk;exact F.val x (key x g).2.2.2
 .obtain⟨x,g,rfl⟩:=Ba.mp hk;exact{Ba.mpr {_,(key x g).2.1,rfl},Int.ofNat_le.mpr (key x g).2.2.1}
 have ef:((l.map λn:Nat=>(n:Int)).filter λk=>decide<|((a1 k.toNat:Nat):Int)≠((T.headD 0:Nat):Int))=[]:=DA.mpr λk hk=>by obtain⟨x,g,rfl⟩:=Ba.mp hk;have:=(key x g).1;simp[this]
 have t3:=(t2.trans<|By (o:=.KF ba) a4).trans<|(By (o:=.lst<|((l.map λn:Nat=>(n:Int)).filter λk=>decide<|((a1 k.toNat:Nat):Int)≠((T.headD 0:Nat):Int)).map Y.int) bb).trans<|By (o:=.lst []) a5;refine wq (n:=0) (m:=0) (by decide) (By (o:=.lst []) a5 _ _ (show qd _ D2 _ D2=⇑[] by rw[q9,ef];rfl)) q9 .nil .nil ?_;exact jI (t1.trans t3) q
def Hu(K:Ag)(I:Addr)(th:TS)(D:re):X1:=λσ c H=>∃C,c=.ref C/\PySem.W.exmOne K (.ref C) (.ref I)=some true/\th D σ H
def VC(K:Ag)(I:Addr)(tb:X1->TS)(th:TS):TS:=λD σ H=>tb (Hu K I th D) D σ H
def VD{Dc:Addr}{a2:Pos}{j:Ww}{t:Stmt}{tb:X1->TS}{th:TS}(hs:X.stack=X.env::X.outer)(hf:X.env.frame=some X.env.locals)(hx:X.ex=[])
 (hg:Gl X x) (hm:X.mg x=some (.ref Dc)) (hb:∀(pn:List<|Addr×Obj) (xe:Wm) (E1:X1),bO (X.tr pn xe) E1->hJ (X.tr pn xe) body (tb E1)) (hh:∀a,hJ (X.WU a) (t::j) th)
 (a4:Fe x:=by decide):PS X (.Try body [.ExceptHandler (some<|.Name x np) none (t::j) a2] [] [] pos) (VC X.K Dc tb th):=by
 intro U s σ H D I h;have tk:bO (X.tr (X.pn++U) λe s'=>∃g l H' a C tr,e=.ref a/\qx X U l H' s'/\rK X.s₀.heap s'.heap H' a C tr/\yc (X.tr (X.pn++g) X.xe) a/\(∀p∈X.pn++U,p.1≠a)/\(∀T,tr=some T->∀p∈X.pn++U,p.1≠T)/\Hu X.K Dc th D l (.ref C) H')
  (Hu X.K Dc th D):=λg l H' s' a C tr I' L ap a5 q=>{[],l,H',a,C,tr,rfl,I'.Xv,L,{ap.1,ap.2.1,λp o=>ap.2.2 p (by have o:=o;rw[AB] at o;exact Am _ o)},ap.2.2,λT e=>(a5 T e).2.2,q}
 refine wpAny_Try_except<|AX (hb _ _ _ tk [] s σ H D (I.tr _) h) (λf s1 h1=>?_) λe s1 h1=>?_
 .have h2:=SP.Xv h1;cases f with|next=>exact wpAny_execs_nil h2|brk=>exact h2|cont=>exact h2|ret u=>exact h2
 .obtain⟨g,l,H',a,C,tr,rfl,I1,L,ap,pa,ac,C',ec,em,q⟩:=h1;cases ec;refine PM I1 hs hf hx L (λp o=>{pa p o,λT e=>ac T e p o}) λh' T I2 L2 a3=>?_;refine wpAny_handleBy_cons (codeAny_handlers_test ?_) (by intro q;cases q);refine iQ (X:=X.WU a) (I2.WU a) hg hm ?_ a4;obtain⟨_,_,oe,vs,a0,he,hc,_⟩:=id L2;have LT:PySem.W.Looks (model X.prog X.w) h' (typeOf<|.ref a) (.ref C):=hc▸(PySem.W.Looks.ld he).andThen .now;refine PySem.W.exm_one (K:=X.K) I2.SC LT em _ _ _ _ (λ_ _ e=>e) ?_;refine codeAny_handlers_suite ?_;refine PN I2 hs hx L2 (λp o=>{pa p o,a3 p o}) λh3 T' I3 L3=>?_;refine AX (hh a U _ _ _ D (I3.WU a) q) (λf s6 h6=>?_) λe s6 z=>z.elim;cases f with
  |next=>obtain⟨a1,H6,J,q6⟩:=h6;exact{_,H6,J.XM I.ok,q6}
  |brk=>obtain⟨a1,H6,J,q6⟩:=h6;exact{_,H6,J.XM I.ok,q6}
  |cont=>obtain⟨a1,H6,J,q6⟩:=h6;exact{_,H6,J.XM I.ok,q6}
  |ret u=>obtain⟨v,a1,H6,J,r,q6⟩:=h6;exact{v,_,H6,J.XM I.ok,r,q6}
def Kh(K:Ag)(J:Addr)(tb:X3->ai)(th:ai)(D:vd)(τ:jd)(L:qj):Prop:=tb (λI C L'=>PySem.W.exmOne K (.ref C) (.ref J)=some true/\th D I L') D τ L
def VE{p:Addr}{U:Pos}{I:Ww}{J:Stmt}{tb:X3->ai}{th:ai}(hs:X.stack=X.env::X.outer)(t:X.env.frame=some X.env.locals)(T:X.ex=[])
 (hg:Gl X x) (hm:X.mg x=some (.ref p)) (hb:QB X body tb) (hh:∀a,rO (X.WU a) (J::I) th)
 (g:Fe x:=by decide):QS X (.Try body [.ExceptHandler (some<|.Name x np) none (J::I) U] [] [] pos) (Kh X.K p tb th):=
 PS.imp (VD (tb:=Jg X.g3 tb) (th:=FI X.g3 th) hs t T hg hm hb hh g) λD σ H ⟨τ,L,r,rs,rl,z,k⟩=>by
 exact{τ,L,r,_,rs,rl,z,k,λa1 C H' j L' t' l o ⟨em,q⟩=>{C,rfl,em,j,L',r,l,o,q,k.ts t'}}
section
open PySem.W
section
variable {K:Ag}(T:K.lookup Pt=some (PySem.W.tabObj #[]))
include T
def YD{a:Addr}(e:isFn K (.ref a)=true):isFn (GM Pt K) (.ref a)=true:=by
 unfold isFn at e ⊢;by_cases d:a=Pt
 .subst d;have h:typeIn K (.ref a)=some Value.none:=by show(List.lookup a K).map _=_;rw[T];rfl
  rw[h] at e;cases e
 .have h:typeIn (GM Pt K) (.ref a)=typeIn K (.ref a):=by show(List.lookup a<|GM Pt K).map _=(List.lookup a K).map _;rw[jy d]
  rw[h];exact e
def Xe.dn(c:Xe K C):Xe (GM Pt K) C:=by
 obtain⟨pg,hd,po,sa⟩:=c;refine{?_,?_,?_,(WV T).trans sa}
 .unfold plainGet;rw[WV T,WV T];exact pg
 .unfold hasDictIn;rw[rN T];exact hd
 .unfold plainOver;rw[rN T];exact po
def Yc(e:makesIn K C=true):makesIn (GM Pt K) C=true:=by
 unfold makesIn at e ⊢;by_cases d:C=Pt
 .subst d;rw[T] at e;cases e
 .have h:typeIn (GM Pt K) (.ref C)=typeIn K (.ref C):=by show(List.lookup C<|GM Pt K).map _=(List.lookup C K).map _;rw[jy d]
  have s:∀b,subIn (GM Pt K) b (.type "type")=subIn K b (.type "type"):=λb=>sQ T;unfold instIn at e ⊢;simp only[jy d,oQ T d,h,s];exact e
end
end
theorem YO.dn{K:Ag}(T:K.lookup Pt=some (PySem.W.tabObj #[]))(x:YO K C):YO (GM Pt K) C:={Xe.dn T x.cl,(WV T).trans x.na}
def cB(I:km)(J:km)(U:km):RD "_law_fault_fits" cH 125 ["_law_places_here","_law_edges_here","_law_told_here","_law_label","_law_many"] (λV=>Jw V I/\Jl V J/\Jx V U):={_,λV B c _ _ _ _ _ _ _ j hN g=>(qa (wf (i:=3) hN rfl (Or.inr rfl)<|C_ c.1 j<|ve (qv 0)<|qv 1)<|qa (S_ 4 hN<|L_ B.ba<|cQ ["_law_p"] (EW (by rfl)) rfl (jq<|qv 0) (pV 5) (λ_ _ _ _=>a6<|E_ g (vk g (qv 3) (qv 5) λ_ _=>rfl)<|qv 5) λ_ _ _ _=>(qv 5))<|qa (zy (E_ g (L_ B.ba<|qv 1)<|qr bz (L_ B.ba<|qv 0)<|qv 4) (qa (zy (E_ g (qv 4) qg) (qe<|za<|IR<|qv 2) zb)<|qe<|za<|C_ c.2.1 j<|ve (qv 2)<|zg<|ve j6<|cQ ["_law_p"] (EW (by rfl)) rfl (jq<|qv 0) (pV 5) (λ_ _ _ _=>a6<|E_ g (vk g (qv 3) (qv 5) λ_ _=>rfl)<|J_ 0) λ_ _ _ _=>(qv 5)) zb)<|qa (zy (kj<|fg (bU<|ko<|vt .tuple rfl B.b_isinstance rfl B.b_tuple fS<|qv 2)<|fg (N_ g (L_ B.ba<|qv 2) qg)<|dk<|bU<|ko<|vt .list rfl B.b_isinstance rfl B.bb az<|J_ 2) (qe<|za cT) zb)<|qe<|za<|jV (C_ c.2.1 j<|ve (J_ 2) j6)<|oP<|C_ c.2.2 j<|ve (qv 1)<|J_ 2)}
def VF(K:Ag)(I:Addr)(J:kH):ai:=(zv (jw (yC<|.bl false)<|qk 2)
 (zv (Kh K I (λE3=>wo<|kU J E3<|eY (qh 0)<|qh 1)<|jw (yC<|.bl true)<|qk 2)
 (bP<|qh 2)))
def VG(I:km)(p1:km)(p2:km)(p3:km)(p4:km)(p5:kH)(p6:km)(p7:km)(p8:km)(p9:km)(pR:km):ai:=(zv (jw (ky tS (xa I<|eY (qh 0)<|ax 0)<|ky Qx (ax 10)<|ax 9)<|qk 1)
 (zv (jw (xa p1<|qp (qh 0)<|qp (qh 1)<|eY (ax 80)<|ax 100)<|qk 2)
 (zv (kC (tG<|eB<|ax 2) (qk 3) (zv (jw (xa p2<|qp (qh 0)<|qp (xa p3<|eY (qh 2)<|uC "either")<|eB<|qh 3)<|qk 4)
 (zv (jw (bC<|qp (xa p4<|eB<|qh 2)<|qp (oN tQ<|eB<|qh 4) jc)<|qk 5)
 (zv (jw (kU p5 Jh<|eY (ah 5 0)<|ah 5 1)<|qk 6)
 (zv (bN (rT<|yB<|xa p6<|qp (xa p8<|eB<|qh 2)<|qp (xa p7<|eY (qh 2)<|qh 4)<|eB<|qh 6) (bP<|yC<|.bl false) aW)
 (zv (bN (r_ (rT<|yB<|xa pR<|qp (ah 5 0)<|qp (ky gU (qh 4)<|cV<|eB<|qh 3) jc)<|rT<|yB<|xa p9<|qp (qh 5)<|qp (p_ (qh 2)<|qh 4) jc) (bP<|yC<|.bl false) aW)
 (zv (bN (mJ (u_ (qh 4)<|cV jc)<|rT<|yB<|xa pR<|qp (ah 5 0)<|qp (F_ Gj (qh 4) (F9<|ax 1) mY) jc) (bP<|yC<|.bl false) aW)
 (bN (mJ (u_ (qh 4)<|cV jc)<|rT<|yB<|xa pR<|qp (ah 5 0)<|qp (ky gU (F_ Gj (qh 4) (F9<|ax 1) mY)<|cV<|qp (ky gU (ax 2)<|qh 1) jc) jc) (bP<|yC<|.bl false) aW))))))))
 (bP<|yC<|.bl true))))
theorem VH{es:Wp}(F:NM pl es fL)(hd:∀t,pl[0]?=some t->fL t=t)(nd:pl.Nodup)(ne:pl≠[]):iS pl fL=1↔One pl es:=by
 unfold iS;rw[CQ];constructor
 .intro h R E J x I y U;obtain⟨t,j⟩:=List.length_eq_one_iff.mp h;have all:∀x∈pl,fL x=t:=λx I=>Ad.mp<|j▸Bu.mpr {(F.YJ x I).1,Az (F.YJ x I).2};have h1:=F.rep R E J x I;have h2:=F.rep R E J y U;rw[all x I] at h1;rw[all y U] at h2;exact E.t h1<|E.s h2
 .intro h;cases pl with
  |nil=>exact absurd rfl ne
  |cons t r=>
   have g:=hd t rfl;have all:∀x∈t::r,fL x=t:=λx I=>(h _ (ij fL) F.ed x I t<|As ..).trans g;rw[B3 (by exact Az g),DA.mpr λx I=>?_]
   .rfl
   .rw[Cq,all x<|Al _ I];intro e;exact(AG.mp nd).1 (e▸I)
inductive m7(ys:Z0)(L:qj)(Q:YK):Prop
 |mk:∀P e y,∀wd:List (WO),∀es:Wq,(ys=[.ref P,.ref e,y])->(L P=⇑(nY<|qu wd))->(L e=⇑(qt es))->((∀d∈es,gm wd d.1=true/\gm wd d.2=true/\d.1≠d.2))->(es.length<=2000)->((qu wd).length<=120)->((∃z,gm wd z=true))->(Zd wd es L y)->(Q (.bl true) L)->m7 ys L Q
theorem VI:ZY m7 (cB dG (eE 124) ig).1 5:=by
 rintro ys L Q ⟨P,e,y,J,U,rfl,hP,hE,ed,ze,zt,ex,a4,q⟩;have big:=a_;have nd:(qu J).Nodup:=sV _ _ _;have a1:Hl J U:=λd hd=>{(ed d hd).1,(ed d hd).2.1};have he:∀d∈U,d.1∈qu J/\d.2∈qu J:=λd hd=>{aF.mp (a1 d hd).1,aF.mp (a1 d hd).2};obtain⟨h,hh⟩:∃h,(qu J)[0]?=some h:=by obtain⟨z,tz⟩:=ex;exact{_,Ai<|CO<|aF.mp tz}
 have ne:qu J≠[]:=λz=>by rw[z] at hh;cases hh
 refine{P,e,qu J,U,rfl,hP,hE,nd,he,by lia,ze,λd C I hd F=>?_};have s1:qf L (qd L d<|.KF C):=By hd;have gd:qd L d (.KF C) d=some (.KF C):=q9;generalize qd L d (.KF C)=L1 at s1 gd ⊢;have G:=F.nm he;have rc:=Vn G nd he;have lo:=VH G F.hd nd ne;refine j7 (s1 _ _ hP) λkeep kp=>bQ (λi g=>g.length=((qu J).take i).countP λx=>decide<|I x=x) (by rw[jx];exact big _ (by lia)) (kp _ rfl) rfl ?_ ?_
 .rintro i y g hy hz;obtain⟨x,ex,rfl⟩:=cX hy;have et:((qu J).take<|i+1).countP (λx=>decide<|I x=x)=((qu J).take i).countP (λx=>decide<|I x=x)+if decide (I x=x)=true then 1 else 0:=by rw[A4,ex,List.countP_append];show _+List.countP _ [x]=_;rw[List.countP_singleton]
  refine zj gd<|ql (F.val x<|Au ex) ?_;show ao (decide<|(I x:Int)=(x:Int)) _ _;rw[mM];refine zu (λc=>{_,ES _,rfl,?_}) λc=>{_,ES _,rfl,?_}
  .rw[et,Ar<|Az c,Ab,hz];rfl
  .rw[et,Ap (by rw[Ao c];exact AI),hz];rfl
 rintro g hz r hr;rw[jx,AY] at hz;have j:=s1.trans<|By (o:=.lst g) hr;refine qc q9 ?_;have a2:=By (o:=.lst g) hr _ _ gd;generalize qd L1 r (.lst g)=L2 at j a2 ⊢;rw[show g.length=iS (qu J) I from hz];refine qc (j _ _ hE)<|qc (j _ _ hP) ?_;rw[show(qt U).length=U.length from Ae ..,jx];have l:qD U U.length↔(U.length:Int)=((qu J).length:Int)-((iS (qu J) I:Nat):Int):=rc.trans (by constructor<;>intro h<;>lia);rcases a4 with⟨nr,one,rfl⟩|⟨m,p,nr,no,mE,mR,rfl,gp⟩|⟨i,u,v,D,ns,ms,p,nr,ei,pt,pm,pw,rfl,gp⟩
 .refine xq (Az<|l.mp nr)<|xq (Az ?_)<|jI j q;rw[lo.mpr one];rfl
 .refine xq (Az<|l.mp nr)<|jv (Ao λz=>no<|lo.mp<|BB.mp z) ?_;refine j7 (j _ _ hP) λkeep kp=>bQ (λi g=>g=nY (((qu J).take i).filter λx=>decide<|I x=h)) (by rw[jx];exact big _ (by lia)) (kp _ rfl) rfl ?_ ?_
  .rintro i y g hy rfl;obtain⟨x,ex,rfl⟩:=cX hy;have et:(qu J).take (i+1)=(qu J).take i++[x]:=by rw[A4,ex];rfl
   refine zj a2<|ql (F.val x<|Au ex)<|qc (j _ _ hP)<|ql (rF (i:=0) hh) ?_;show ao (decide<|(I x:Int)=(h:Int)) _ _;rw[mM];refine zu (λc=>{_,ES _,rfl,?_}) λc=>{_,ES _,rfl,?_}
   .rw[et,BE,B3 (by exact Az c),BX,aT];rfl
   .rw[et,BE,Cd (by rw[Ao c];exact AI),BX,AB]
  rintro g rfl t ht;rw[jx,AY];have el:((qu J).filter λx=>decide<|m x=m ((qu J).headD 0))=(qu J).filter λx=>decide (I x=h):=by
   have hd:(qu J).headD 0=h:=by cases e:qu J with|nil=>exact absurd e ne|cons a r=>rw[e] at hh;cases hh;rfl
   have lh:=F.hd h hh;have mh:=Au hh;rw[hd];refine List.filter_congr λx T=>?_;rw[Eo];constructor
   .intro e;exact(mR _ (ij I) F.YL x h (aF.mpr T) (aF.mpr mh) e).trans lh
   .intro e;have:=F.rep _ (ij m) mE x T;rw[e] at this;exact this
  rw[el] at gp;have s3:=By (o:=.lst<|nY<|(qu J).filter λx=>decide<|I x=h) ht;exact{_,_,rfl,.inr<|.inl {_,_,rfl,rfl,.cons (.flat rfl)<|.cons (bV (s3 _ _<|j _ _ gp) q9<|UO _) .nil},jI (j.trans s3) q}
 .refine jv (Ao λz=>nr<|l.mpr z) ?_;obtain⟨vs,R⟩:=Vp ei (ed _<|Au ei).2.2 pt pm pw;have lz:ms.length<=126:=by
   have h1:=aE vs (qu J) R.vn λx T=>?_
   .have h2:=R.ends.length_eq;rw[kO,Ab,Ae] at h2;lia
   .have:=R.ends.mem_iff.mpr<|Am _ T;obtain⟨c,hc,T⟩:=Bx.mp this;obtain⟨k,hk,rfl⟩:=Ba.mp hc;have hl:=R.lt k hk;have mm:w4 U k∈U:=by unfold w4;rw[A2,Ai hl];exact BN _
    rcases Aw.mp T with rfl|T
    .exact(he _ mm).1
    .rw[Ad.mp T];exact(he _ mm).2
  have a3:=j _ _ gp;refine cO a3 ?_;exact{_,_,rfl,.flat rfl,{e,p,U,ms,vs,rfl,j _ _ hE,a3,ze,lz,R,jI j q}}
def VJ{K:Ag}(em:PySem.W.exmOne K (.ref C) (.ref C)=some true):ZY mw (VF K C<|oX C) 3:=by rintro ys L Q ⟨a,l,c,h,I,lk,J,U,rfl,g,j,o,p,r,t,T,hx,no,q⟩;exact{a,l,c,h,I,lk,J,U,rfl,g,j,o,p,r,t,T,hx,λok=>absurd ok no.no,λ_=>{em,k8 q}}
theorem Zd.sub{es:Wp}(s:qf L L'):Zd wd es L y->Zd wd es L' y
 |.inl h=>.inl h
 |.inr (.inl ⟨m,p,a,b,c,d,e,f⟩)=>.inr<|.inl {m,p,a,b,c,d,e,s _ _ f}
 |.inr (.inr ⟨i,u,v,D,I,J,p,a,b,c,d,e,f,g⟩)=>.inr<|.inr {i,u,v,D,I,J,p,a,b,c,d,e,f,s _ _ g}
def VL :ZY (mO Pt Xh) (VG bS (sM Pt) rX iU m8 (oX C) m7 gS dw (eE 124) mw) 7:=by
 rintro ys L Q ⟨ns,rfl,bf,hL,q⟩;have hP:L Pt=some (.tb Xh):=by rw[hL];exact q9
 have big:=a_;refine{ns,0,rfl,by decide,λt=>{{by decide,by decide,by decide},(show(0:Int)<10 ^ (9:Int).toNat by decide),?_}};have sp:0<=t % 10 ^ (9:Int).toNat:=EI _ (by decide);refine{_,ns,_,100,80,rfl,rfl,by lia,by lia,hP,λT la ca J lk j L1 W s1 nw nl nc n1 n2 n3 e1 e2 e3=>?_};obtain⟨wl,cl,ll⟩:=W.Yx;obtain⟨ed,ex,zt⟩:=W.ZW;have kl:(cD true J).length<=J.length:=JQ _ _ _;refine{by decide,?_};refine r9 (λi τ L'=>∃c3 c4 c5 c6,τ=[some<|.sq<|ns.map Y.int,some<|.int<|t % 10 ^ (9:Int).toNat,some<|e9 T la ca,c3,c4,c5,c6]/\L'=L1) {_,_,_,_,rfl,rfl} ?_ ?_
 .rintro i τ L' hi ⟨c3,c4,c5,c6,rfl,rfl⟩;have hi:=hi;refine{T,la,ca,J,rfl,e1,by lia,?_};refine{ns,_,_,rfl,by lia,by lia,by lia,λI a1 a2 pc a3=>?_};have ok:oj J I:={(a1),a2};refine PR a3 λL2 s1 g1=>?_;refine{T,la,ca,_,_,_,rfl,s1 _ _ e1,s1 _ _ e2,s1 _ _ e3,λa' l' c' L4 s3 _ _ _ _ _ _ h1 h2 h3=>?_};refine qc (s3 _ _ g1) λph a4=>?_;have U:=By (o:=.lst<|I.map Y.int) a4;have h4:qd L4 ph (.lst<|I.map Y.int) ph=⇑(I.map Y.int):=q9;replace h1:=U _ _ h1;replace h2:=U _ _ h2;replace h3:=U _ _ h3;replace U:=s3.trans U;replace g1:=U _ _ g1;replace U:=s1.trans U;generalize qd L4 ph (.lst<|I.map Y.int)=L5 at U h4 g1 h1 h2 h3 ⊢;have tl:=uh J I J.length;have lz:(lD J lk j I).length<=2000:=by unfold lD;rw[Ab,Ab];lia
  refine{a',l',c',ph,J,lk,j,I,rfl,h1,h2,h3,h4,by lia,by lia,by lia,by lia,λ_=>{λe he=>{(ed I e he).1,(ed I e he).2.1},lz,by lia,ex,λy L6 t1 a5=>?_},λno=>absurd ok no};have r:=U.trans t1;refine{T,la,ca,J,rfl,r _ _ e1,by lia,λpp ac=>?_};have t2:=By (o:=.lst<|nY<|qu J) ac;have t3:=t1.trans t2;replace r:=r.trans t2;refine{T,la,ca,pc,J,lk,j,I,rfl,r _ _ e1,r _ _ e2,r _ _ e3,t3 _ _ g1,by lia,by lia,by lia,ok,λpe al=>?_};have t4:=By (o:=.lst<|qt<|lD J lk j I) al;refine{pp,pe,y,J,_,rfl,t4 _ _ q9,q9,ed I,lz,zt,ex,a5.sub<|t2.trans t4,?_};replace t3:=t3.trans t4;generalize qd (qd L6 pp<|.lst<|nY<|qu J) pe (.lst<|qt<|lD J lk j I)=L7 at t3 ⊢;intro q1 av;have u1:=t3.trans<|By (o:=.lst [Y.int<|0+(i:Int)]) av;refine{_,_,u1 _ _ g1,q9,by rw[Ae];exact Bo (big _ (by show I.length+1<=_;lia)),λq2 aL=>?_};have g:=u1.trans<|By (o:=.lst<|I.map Y.int++[Y.int<|0+(i:Int)]) aL;refine{a',l',c',q2,J,lk,j,I++[0+(i:Int)],rfl,g _ _ h1,g _ _ h2,g _ _ h3,by rw[q9,AC];rfl,by lia,by lia,by lia,by rw[Ab,AF];lia,.inl (by rw[Ab,AF,a1];lia),?_};generalize qd (qd L7 q1<|.lst [Y.int<|0+(i:Int)]) q2 (.lst<|I.map Y.int++[Y.int<|0+(i:Int)])=L8 at g ⊢;have u0:=U.trans g;refine{_,_,rfl,.inr<|.inl {_,_,rfl,rfl,.cons (.inr<|.inl {_,_,rfl,rfl,.cons (bV (g _ _ h1) (u0 _ _ e1)<|UP (n:=119) J)<|.cons (bV (g _ _ h2) (u0 _ _ e2)<|vJ (n:=119) lk)<|.cons (bV (g _ _ h3) (u0 _ _ e3)<|vJ (n:=119) j) .nil})<|.cons (bV (g _ _ h4) (g _ _ g1)<|U5 (n:=121) I) .nil},?_};intro r1 ba;have v1:=g.trans<|By (o:=.lst []) ba;refine wq (n:=0) (m:=0) (by decide) (v1 _ _ g1) q9 (iq I) (.nil:Paired (jo _ 0) _ []) ?_;rw[nM];by_cases c:I=[]
  .refine jv (by rw[Az c];rfl) ?_;intro r2 l;have p:=v1.trans<|By (o:=.lst []) l;refine wq (n:=0) (m:=0) (by decide) (p _ _ g1) q9 (iq I) (.nil:Paired (jo _ 0) _ []) ?_;rw[nM];exact jv (by rw[Az c];rfl) {_,U.trans p,_,_,_,_,rfl,rfl}
  .have hn:=Df.mpr c;refine xq (by rw[Ao c];rfl) ?_;have ld:(I.drop 1).length=I.length-1:=BL ..;refine qm (v1 _ _ g1) λr2 l=>?_;rw[show jO (I.map Y.int) (some 1) none=(I.drop 1).map Y.int from(qX _ 1).trans List.map_drop.symm];have p:=v1.trans<|By (o:=.lst<|(I.drop 1).map Y.int) l;refine{a',l',c',r2,J,lk,j,I.drop 1,rfl,p _ _ h1,p _ _ h2,p _ _ h3,q9,by lia,by lia,by lia,by lia,.inl (by lia),?_};intro r3 bb;have v3:=p.trans<|By (o:=.lst []) bb;refine wq (n:=0) (m:=0) (by decide) (v3 _ _ g1) q9 (iq I) (.nil:Paired (jo _ 0) _ []) ?_;rw[nM];refine xq (by rw[Ao c];rfl) ?_;refine qm (v3 _ _ g1) λr4 bc=>?_;rw[show jO (I.map Y.int) (some 1) none=(I.drop 1).map Y.int from(qX _ 1).trans List.map_drop.symm];have v4:=v3.trans<|By (o:=.lst<|(I.drop 1).map Y.int) bc;intro r5 bd;have v5:=By (o:=.lst [Y.int<|2+t % 10 ^ (9:Int).toNat]) bd;refine{_,_,v5 _ _ q9,q9,by rw[Ae];exact Bo (big _ (by show(I.drop 1).length+1<=_;lia)),λr6 be=>?_};have v6:=(v4.trans v5).trans<|By (o:=.lst<|(I.drop 1).map Y.int++[Y.int<|2+t % 10 ^ (9:Int).toNat]) be;exact{a',l',c',r6,J,lk,j,I.drop 1++[2+t % 10 ^ (9:Int).toNat],rfl,v6 _ _ h1,v6 _ _ h2,v6 _ _ h3,by rw[q9,AC];rfl,by lia,by lia,by lia,by rw[Ab,AF];lia,.inr {_,Ah _<|Ad.mpr rfl,by lia,by lia},_,U.trans v6,_,_,_,_,rfl,rfl}
 .rintro τ L' ⟨c3,c4,c5,c6,rfl,rfl⟩;exact k8<|q _
structure XG(K:Ag)(P C:Addr):Prop where
 xp:YO K P
 em:PySem.W.exmOne K (.ref C) (.ref C)=some true
theorem XG.dn{K:Ag}{P:Addr}(T:K.lookup Pt=some (PySem.W.tabObj #[]))(x:XG K P C):XG (GM Pt K) P C:={x.xp.dn T,UU T x.em}
end L2
end
set_option maxRecDepth 100000
set_option maxHeartbeats 8000000
namespace K33
open PySem L2
abbrev ng:Str:="_law_knots"
abbrev nh:Str:="_law_p"
abbrev nj:Str:="_law_script"
abbrev nq:Str:="_law_seed"
abbrev nu:Str:="_law_knot"
theorem VM{us:Wr}{n:Nat}(h:us.length=n+1):∃a r,us=a::r/\r.length=n:=by cases us with|nil=>cases h|cons a r=>exact{a,r,rfl,Nat.succ.inj h}
abbrev nk(K:PySem.W.Frag)(x:Str):=PySem.W.nsIn K mainGlobals x
structure DD(K:Ag):Prop where
 D3:jj K "places_there" fU
 D4:jj K "eithers_of" iX
 D5:jj K "kept_parts" tF
 D6:jj K "edges_by" xM
 D7:jj K "neighbours_by" eU
 D8:jj K "path_by" qF
 D9:jj K "fault_by" yO
 D10:jj K "_law_cell_at" fK
 D11:jj K "_law_same" lZ
 D12:jj K "_law_mix" pC
 D13:jj K "_law_name" lT
 D14:jj K "_law_word" lu
 D15:jj K "_law_flip" lM
 D16:jj K "_law_weight" gj
 D17:jj K "_law_mirror" pX
 D18:jj K "_law_join" lg
 D19:jj K "_law_fold" lO
 D20:jj K "_law_cut" wM
 D21:jj K "_law_tree" lm
 D22:jj K "_law_told" lU
 D23:jj K "_law_crossed" fF
 D24:jj K "_law_beneath" fM
 D25:jj K "_law_recast" pQ
 D27:jj K "_law_gapped" qB
 D28:jj K "_law_web" pJ
 D29:jj K "_law_copy" lw
 D30:jj K "_law_whole" jF
 D31:jj K "_law_count" jB
 D32:jj K "_law_places" gb
 D33:jj K "_law_choices" gE
 D34:jj K "_law_edges" jA
 D35:jj K "_law_labels" gw
 D36:jj K "_law_ring" uV
 D37:jj K "_law_fault_fits" cH
 D38:jj K "_law_refused" nV
 D39:jj K "law" uf
structure B_(V:V_):Prop extends B0_ V,DD V.K where
 hp:∃h:WG,V.K.In h/\h.Ns mainGlobals V.mg
 D0:dZ V.K V.Ca "__init__" "Pieces.__init__" gg
 D1:dZ V.K V.Ca "head_of" "Pieces.head_of" cf
 D2:dZ V.K V.Ca "unite" "Pieces.unite" fe
 D26:WZ V.K "_law_order" Re V.Pt
 mf:V.mg "Pieces"=some (.ref V.Ca)
 md:V.mg "BadChoices"=some (.ref V.Cb)
 x_BadChoices:FF V.K V.Cb
 Zq:Xe V.K V.Ca
 Zv:PySem.W.makesIn V.K V.Ca=true
 Zw:PySem.W.keepIn V.K (.ref V.Ca)=true
 xf:L2.XG V.K V.Ca V.Cb
local macro_rules|`(tactic| walk_at "s")=>`(tactic| exact{rfl,rfl,rfl,by decide +kernel,rfl,by decide +kernel,by decide +kernel})
local macro_rules|`(tactic| walk_at "l")=>`(tactic| (rintro _ _ _ h;cases h;subst_vars;rfl))
local macro_rules|`(tactic| walk_at "x")=>`(tactic| (intro _;walk_at "l"))
local macro_rules|`(tactic| walk_at "b")=>`(tactic| (intro _ _ _ _ _ _ us hl;(repeat (obtain⟨_,_,e,h⟩:=VM hl;clear hl;subst e;have hl:=h;clear h));cases List.eq_nil_of_length_eq_zero hl;rfl))
section
variable {f:Addr}{fd:FuncData}{x q:Str}{st:Stmt}{ps:Wu}(V:V_)(k:Nat)(N:Wu)
theorem W_{sp:km}{t:ai}(F:Yk V.K x q st f fd)(j:ZY sp t N.length)(h:FU V k N q st f t)(U:aR N ps (qw st):=by walk_at "s")(len:∀ys L Q,sp ys L Q->ys.length=ps.length:=by walk_at "l"):Ye V.P V.w V.K V.mg V.base (k+1) f fd ps sp:=
 Qs F U len λJ A I s H E g=>{t,h J A I s H E g U.nd<|GX g,j}
theorem M_{sp:km}{t:ai}(hp:∃h:WG,V.K.In h/\h.Ns mainGlobals V.mg)(D:jj V.K x st)(I:ZY sp t N.length)(h:∀f,FU V k N x st f t)(J:aR N ps (qw st):=by walk_at "s")(len:∀ys L Q,sp ys L Q->ys.length=ps.length:=by walk_at "l")(U:Gn x st ps:=by walk_at "b"):Q_ V (k+1) x ps sp:=by obtain⟨_,X,G⟩:=hp;obtain⟨f,fd,F,b,m⟩:=D.use X G U;exact X7.of (W_ V k N F I (h f) J len) b F.kp m
theorem R_{sp:Nat->km}{t:Nat->ai}(hp:∃h:WG,V.K.In h/\h.Ns mainGlobals V.mg)(D:jj V.K x st)(no:∀ys L Q,¬sp 0 ys L Q)(I:∀n ys L Q,sp (n+1) ys L Q->v9 (t n) N.length ys L Q)(h:∀n f,Q_ V (n+k) x ps (sp n)->FU V (n+k) N x st f (t n))(n:Nat)(J:aR N ps (qw st):=by walk_at "s")(len:∀n ys L Q,sp n ys L Q->ys.length=ps.length:=by walk_at "x")(U:Gn x st ps:=by walk_at "b"):Q_ V (n+k) x ps (sp n):=by
 obtain⟨_,X,G⟩:=hp;obtain⟨f,fd,F,b,m⟩:=D.use X G U
 induction n with|zero=>exact X7.of (Ye.never no) b F.kp m|succ n g=>rw[Nat.add_right_comm];exact X7.of (W_ V (n+k) N F (I n) (h n f g) J<|len _) b F.kp m
theorem X_{sp:kH}{t:X3->ai}(hp:∃h:WG,V.K.In h/\h.Ns mainGlobals V.mg)(D:jj V.K x st)(U:∀ys L Q E,sp ys L Q E->v9 (t<|vX E) N.length ys L Q)(h:∀f,∀(eW:WC) (A:Around) (outer:List Env) (s:WD) (H:Hp) (E:XK) (E3:X3),ki k (A.deeper<|PyProof.Rows.envOfC x (qw st) ↥s f eW)->bO (fP (g7 V.P V.w) V.P V.w V.K V.mg V.base N x (qw st) f eW A outer s H E) (Fl ⟨V.K,V.P,V.w⟩ E3)->N.Nodup->(A.deeper<|PyProof.Rows.envOfC x (qw st) ↥s f eW).units+128<cLine->rO (fP (g7 V.P V.w) V.P V.w V.K V.mg V.base N x (qw st) f eW A outer s H E) (jr st) (t E3))(I:aR N ps (qw st):=by walk_at "s")(len:∀ys L Q E,sp ys L Q E->ys.length=ps.length:=by walk_at "x")(g:Gn x st ps:=by walk_at "b"):i6 V.P V.w V.K V.mg V.base (k+1) x ps sp:=by obtain⟨_,X,G⟩:=hp;obtain⟨f,fd,F,b,m⟩:=D.use X G g;exact{_,_,Rk F I len (λeW A outer s H E E3 J j=>h f eW A outer s H E E3 J j I.nd<|GX J) U,b,F.kp,m}
theorem T_{sp:km}{t:ai}(hp:∃h:WG,V.K.In h/\h.Ns mainGlobals V.mg)(D:WZ V.K x st V.Pt)(U:ZY sp t N.length)(h:∀f,∀(eW:WC) (A:Around) (outer:List Env) (s:WD) (H:Hp) (E:XK),Fo V.K eW V.Pt->ki k (A.deeper<|PyProof.Rows.envOfC x (qw st) ↥s f eW)->N.Nodup->(A.deeper<|PyProof.Rows.envOfC x (qw st) ↥s f eW).units+128<cLine->rO (fP XU V.P V.w V.K V.mg V.base N x (qw st) f eW A outer s H E).YH (jr st) t)(I:aR N ps (qw st):=by walk_at "s")(len:∀ys L Q,sp ys L Q->ys.length=ps.length:=by walk_at "l")(g:Gn x st ps:=by walk_at "b"):Q_ V (k+1) x ps sp:=by obtain⟨_,X,G⟩:=hp;obtain⟨f,fd,F,b,m⟩:=D.use X G g;exact X7.of (Tz F I len λeW A outer s H E C J=>{t,h f eW A outer s H E C J I.nd<|GX J,U}) b F.kp m
end
section
variable {V:V_}(B:B_ V)
include B
theorem d1:Ze V.P V.w V.K V.mg V.base 2 V.Ca ["self","count"] (f9 V.Ca):=by obtain⟨f,fd,F,b,m⟩:=B.D0.use (ps:=["self","count"]) (by walk_at "b");exact{_,_,{(B.Zv),m.at_,m.fn,B.Zw},{_,rfl,W_ V 0 ["self","count"] F (SW B.xf.xp) λ_ _ _ _ _ _ I hN J=>(qe<|Rz (qv 0)<|om rfl rfl B.bb rfl B.be<|qv 1)},b}
theorem d2:Y_ V.P V.w V.K V.mg V.base 1 V.Ca "head_of" ["self","place"] (gN V.Ca):=by obtain⟨f,fd,F,b,m⟩:=B.D1.use (ps:=["self","place"]) (by walk_at "b");exact{_,_,m,W_ V 0 ["self","place","here"] F (SX B.xf.xp) λ_ _ _ _ _ _ J hN I=>(qa (S_ 2 hN<|qv 1)<|qa (cx wh (N_ I (I_ (jS<|qv 0)<|qv 2)<|qv 2)<|qa (tU (jS<|qv 0) (qv 2)<|I_ (jS<|qv 0)<|I_ (jS<|qv 0)<|qv 2)<|qe<|S_ 2 hN<|I_ (jS<|qv 0)<|qv 2)<|qe<|za<|qv 2),b}
theorem d3:Y_ V.P V.w V.K V.mg V.base 2 V.Ca "unite" ["self","p","q"] (fQ V.Ca):=by obtain⟨f,fd,F,b,m⟩:=B.D2.use (ps:=["self","p","q"]) (by walk_at "b");exact{_,_,m,W_ V 1 ["self","p","q","first","second"] F (SY B.xf.xp) λ_ _ _ _ _ _ I hN J=>(qa (S_ 3 hN<|FV ((d2 B).mono (by decide)) I B.Zq (qv 0)<|x6<|qv 1)<|qa (S_ 4 hN<|FV ((d2 B).mono (by decide)) I B.Zq (qv 0)<|x6<|qv 2)<|qa (tU (jS<|qv 0) (qv 3)<|qv 4)<|qe<|za<|dq (IP _ _ _ J) (qv 3) (qv 4)<|xc _),b}
theorem d4:RC V (bM):=M_ V _ _ B.hp B.D3 Tk<|(fq).2 V B.toB0_ ⟨⟩
theorem d5:RE V (fw):=M_ V _ _ B.hp B.D4 To<|(i4).2 V B.toB0_ ⟨⟩
theorem d6:RF V (jN V.Cb):=X_ V 1 ["web","choices","eithers","kept","place","choice"] (t:=(λJ=>ip V.Cb J<|fw)) B.hp B.D5 UW λ_ _ _ _ _ _ _ _ U g hN I=>(qa (S_ 2 hN<|C_ (d5 B) U<|x6<|qv 0)<|qa (J6 "choice'" (kj<|fg (N_ I (L_ B.ba<|qv 1)<|L_ B.ba<|qv 2)<|dk<|bU<|ko<|x5 Rq rfl B.bq Rr<|x6<|cQ ["choice"] (EW (by rfl)) rfl (jq<|qv 1) (bu wH (λ_ _ _ _=>Or.inl rfl) λ_ _ _ _=>rfl) (λ_ _ _ _=>gy) λ_ _ _ _=>(dq (IL _ _ _) (qv 6) (zg<|ve qg qg) (by with_unfolding_all rfl))) (qe<|Rj B.x_BadChoices rfl B.md rfl g rfl<|x6 j6) zb)<|qa (S_ 3 hN gR)<|qa (vf PassesOwn.leaving rfl (Jb rfl B.bp<|ve (qv 2)<|qv 1) (kn rfl<|z0 (G_ 4 hN)<|z0 (G_ 5 hN) xb)<|qe<|eO I (qv 3) (qv 4)<|I_ (I_ (J_ 0)<|qv 4)<|qr jm qg<|qv 5)<|qe<|za<|qv 3)
theorem d7:RG V (gC V.Cb):=X_ V 2 ["web","choices","kept","edges","place","knot"] (t:=(λU=>oU U (jN V.Cb)<|bM)) B.hp B.D6 UY λ_ _ _ _ _ _ _ _ J g hN I=>(qa (S_ 2 hN<|G9 ((d6 B).mono (by decide)) J rfl g rfl<|ve (qv 0)<|qv 1)<|qa (S_ 3 hN<|qr jm (J_ 0)<|J_ 0)<|qa (vf PassesOwn.leaving rfl (jq<|C_ (d4 B) J<|x6<|J_ 0) (G_ 4 hN)<|qa (S_ 5 hN<|I_ (J_ 0)<|qv 4)<|vi (zy (E_ I (J_ 5) j6) (qa (z9<|qz (qv 3)<|x6<|zg<|ve (qv 4)<|J_ 5)<|qe<|z9<|qz (qv 3)<|x6<|zg<|ve (qv 4)<|J_ 5) zb)<|qe<|zy (E_ I (J_ 5) j6) (qe<|z9<|qz (qv 3)<|x6<|zg<|ve (qv 4)<|vk I (qv 2) (qv 4) λ_ _=>rfl) zb)<|qe<|za<|qv 3)
theorem d8:Jj V (iN):=M_ V _ _ B.hp B.D7 Vl<|(eQ).2 V B.toB0_ ⟨⟩
theorem d9:RH V (i9):=M_ V _ _ B.hp B.D8 Vm<|(rE _).2 V B.toB0_<|d8 B
theorem Zf:RI V (oX V.Cb):=X_ V 3 ["web","choices","edges","pieces","number","edge","there","head","piece"] (t:=(λU=>oK V.Ca U (gC V.Cb) (f9 V.Ca) (fQ V.Ca) (i9) (bM)<|gN V.Ca)) B.hp B.D9 Vr λ_ _ _ _ _ _ _ _ I g hN J=>(qa (S_ 2 hN<|G9 ((d7 B).mono (by decide)) I rfl g rfl<|ve (qv 0)<|qv 1)<|qa (wf (i:=3) hN rfl (Or.inr rfl)<|RB ((d1 B).mono (by decide)) I rfl B.mf<|x6<|L_ B.ba<|J_ 0)<|qa (vf PassesOwn.leaving rfl (cN rfl B.bf<|qv 2) (kn rfl<|z0 (G_ 4 hN)<|z0 (G_ 5 hN) xb)<|qe<|zy (bU<|ko<|FV ((d3 B).mono (by decide)) I B.Zq (qv 3)<|ve (J_ 5)<|J_ 5) (qe<|za<|zg<|ve j6<|x5 U7 rfl B.bg aX<|x6<|qr jm (C_ (d9 B) I<|cG (bZ (qW _ _ _) (qv 2) gH<|cU<|qv 4) (J_ 5)<|J_ 5)<|zh<|x6<|qv 4) zb)<|qa (S_ 6 hN<|C_ (d4 B) I<|x6<|J_ 0)<|qa (wf (i:=7) hN rfl (Or.inr rfl)<|FV ((d2 B).mono (by decide)) I B.Zq (qv 3)<|x6<|J_ 6)<|qa (dE ["place"] (i:=8) hN rfl (Or.inl rfl) (EW (by rfl)) rfl (jq<|qv 6) (bu wH (λ_ _ _ _=>Or.inl rfl) λ_ _ _ _=>rfl) (λ_ _ _ _=>a6<|E_ J (FV ((d2 B).mono (by decide)) I B.Zq (qv 3)<|x6<|qv 9)<|qv 7) λ_ _ _ _=>(qv 9))<|qe<|za<|dN (E_ J (qv 8)<|qv 6) kE<|zg<|ve j6<|qv 8)
theorem Ki:Jk V (bS):=M_ V _ _ B.hp B.D10 wS<|(fV).2 V B.toB0_ ⟨⟩
theorem Kj:Jl V (eE 124):=R_ V _ _ B.hp B.D11 sK S7 (λn=>(lK _).2 V B.toB0_ ⟨⟩ n) 124
theorem Fq:Gm V (cY):=M_ V _ _ B.hp B.D12 S4<|(oq).2 V B.toB0_ ⟨⟩
theorem VN:Jm V (iY):=M_ V _ _ B.hp B.D13 T4<|(u7).2 V B.toB0_ ⟨⟩
theorem Kk:RJ V (aH 120):=R_ V _ _ B.hp B.D14 tM tw (λn=>(lv _).2 V B.toB0_ ⟨⟩ n) 120
theorem Hv:RK V (aQ 120):=R_ V _ _ B.hp B.D15 S9 S' (λn=>(yr _).2 V B.toB0_ ⟨⟩ n) 120
theorem VO:RL V (bL 120):=R_ V _ _ B.hp B.D16 nZ S6 (λn=>(gv _).2 V B.toB0_ ⟨⟩ n) 120
theorem VP:RM V (aZ 5):=R_ V 122 [ng,"_law_word_here","_law_left","_law_right","_law_turn","_law_same_here","_law_low","_law_high"] B.hp B.D17 Ti (Tj (FS:=aQ 120) λ_ _ _ h=>h) (λ_ _ I _ _ _ _ _ _ J hN U=>(qa (zy (E_ U (L_ B.ba<|qv 1) qg) (qa (z9<|qz (qv 0)<|x6<|C_ (Hv B) J<|x6<|qv 1)<|qa (z9<|qz (qv 0)<|x6<|qv 1)<|qe<|za<|zh<|cG (zg<|cG j6 (qr bz (L_ B.ba<|qv 0) qg)<|qr bz (L_ B.ba<|qv 0) qg) (qr bz (L_ B.ba<|qv 0) qg)<|qr bz (L_ B.ba<|qv 0) qg) zb)<|qa (S_ 2 hN<|C_ I J<|ve (qv 0)<|J_ 1)<|qa (S_ 3 hN<|C_ I J<|ve (qv 0)<|J_ 1)<|qa (z9<|qz (qv 0)<|x6<|zg<|cG (I_ (C_ (Hv B) J<|x6<|qv 1) qg) (J_ 2)<|J_ 3)<|qa (z9<|qz (qv 0)<|x6<|zg<|cG (J_ 1) (J_ 2)<|J_ 3)<|qa (IU (i:=4) (j:=5) rfl hN rfl rfl (by decide) rfl rfl (ve (qr bz (L_ B.ba<|qv 0) qg)<|qr bz (L_ B.ba<|qv 0) qg) rfl)<|qa (S_ 6 hN<|dN (E_ U (J_ 1) j6) (qv 4)<|qv 5)<|qa (S_ 7 hN<|dN (E_ U (J_ 1) j6) (qv 5)<|qv 4)<|qe<|za<|zh<|cG (zg<|cG j6 (qv 7)<|zg<|xx j6<|cG (qv 6) (J_ 2)<|J_ 3) (qv 4)<|qv 5)) 5
theorem VQ:Jo V (m9):=M_ V _ _ B.hp B.D18 T9<|(JX).2 V B.toB0_ ⟨⟩
theorem VR:Jp V (im):=M_ V _ _ B.hp B.D19 Ua<|(zK).2 V B.toB0_ ⟨⟩
theorem VS:Jq V (mS):=M_ V 127 [ng,"_law_forest","_law_one","_law_two","_law_first",nh,"_law_word_here","_law_second","_law_q","_law_at","_law_end","_law_rule","_law_same_here","_law_ends"] B.hp B.D20 (Ug (FS:=aQ 120) (MS:=aZ 5) (λ_ _ _ h=>h) λ_ _ _ h=>h) λ_ _ _ _ _ _ _ I hN J=>(qa (S_ 4 hN<|dR (qv 1)<|x6<|qr x9 (qv 3)<|L_ B.ba<|qv 1)<|qa (wf (i:=5) hN rfl (Or.inr rfl)<|I_ (J_ 4)<|qr x9 (qr wx (qv 3) qg)<|L_ B.ba<|J_ 4)<|qa (S_ 6 hN<|C_ (Kk B) I<|ve (qv 0)<|qv 5)<|qa (fW (zg<|ve kE kE)<|kn rfl<|z0 (G_ 7 hN)<|z0 (mW (i:=8) hN rfl<|Or.inr rfl) xb)<|qa (vf wh rfl (af rfl B.be<|x6<|L_ B.ba<|qv 1) (G_ 9 hN)<|qe<|vf wh rfl (jq<|I_ (I_ (qv 1)<|qv 9) qg) (G_ 10 hN)<|qe<|zy (kj<|w9 (wX<|qv 7)<|vq<|E_ J (C_ (Kk B) I<|ve (qv 0)<|qv 10)<|C_ (Hv B) I<|x6<|qv 6) (qe<|fW (zg<|ve (I_ (qv 1)<|qv 9)<|qv 10)<|kn rfl<|z0 (G_ 7 hN)<|z0 (mW (i:=8) hN rfl<|Or.inr rfl) xb) zb)<|qa (zy (kj<|w9 (wX<|qv 7)<|vq<|js Gb (C_ (VO B) I<|x6<|qv 6) qg<|xc _) (qa (z9<|qz (qv 1)<|x6<|qv 4)<|qe zO) zb)<|vi (zy (wX<|qv 7) (qa (fW (C_ (VP B) I<|ve (qv 0)<|qv 6)<|Sc rfl<|z0 (G_ 11 hN)<|z0 (mW (i:=8) hN rfl<|Or.inr rfl)<|z0 (G_ 12 hN) xb)<|qe<|S_ 7 hN<|zh<|ve (qv 11)<|zh<|ve (qv 8)<|qv 12)<|qe<|z9<|Se J (qv 1)<|x6<|qv 7)<|qa (dE ["_law_x"] (i:=13) hN rfl (Or.inl rfl) (EW (by rfl)) rfl (jq<|qr jm (J_ 4)<|J_ 7) (bu wH (λ_ _ _ _=>Or.inl rfl) λ_ _ _ _=>rfl) (λ_ _ _ _=>a6<|js (xY _ _ _) (qv 14) (zg<|ve (qv 5)<|qv 8) (by with_unfolding_all rfl)) λ_ _ _ _=>(qv 14))<|qe<|zy (E_ J (qr x9 (qv 2) qg) qg) (qe<|z9<|qz (qv 1)<|x6<|zh<|ve (zg<|xx j6<|xx (qv 5)<|cG (qv 8) (J_ 4)<|J_ 7)<|qv 13)<|qe<|z9<|qz (qv 1)<|x6<|zh<|ve (zg<|xx j6<|xx (qv 8)<|cG (qv 5) (J_ 7)<|J_ 4)<|qv 13)
theorem VT:Jr V (jE):=M_ V _ _ B.hp B.D21 Uh<|(J0 _ _ _ _ _).2 V B.toB0_ {(Fq B),(VN B),(VR B),(VQ B),(VS B)}
theorem VU:Js V (iM):=M_ V _ _ B.hp B.D22 Ut<|(lG).2 V B.toB0_ ⟨⟩
theorem VW:Jt V (bv):=M_ V _ _ B.hp B.D23 xH<|(ft).2 V B.toB0_ ⟨⟩
theorem VX:RN V (db):=M_ V _ _ B.hp B.D24 xV<|(fO).2 V B.toB0_ ⟨⟩
theorem VY:Ju V (cj):=M_ V 1 [ng,"_law_cuts",nq,"_law_most","_law_kept","_law_parts",nu,"_law_many","_law_made",nh,"_law_bits"] B.hp B.D25 UB λ_ _ _ _ _ _ _ J hN I=>(qa (S_ 4 hN<|C_ (VX B) J<|ve (qv 0)<|qv 1)<|qa (S_ 5 hN<|zh xd)<|qa (vf wh rfl (jq<|qv 0) (G_ 6 hN)<|qe<|zy (E_ I (L_ B.ba<|qv 6) qg) (qe<|z9<|bH (qv 5)<|x6<|zh<|ve (J_ 6)<|J_ 6) zb)<|qa (jH "_law_knot'"<|wf (i:=7) wH rfl (Or.inl rfl)<|L_ B.ba<|cQ [nu] (EW (by rfl)) rfl (jq<|qv 0) (bu wH (λ_ _ _ _=>Or.inl rfl) λ_ _ _ _=>rfl) (λ_ _ _ _=>a6<|E_ I (J_ 11) j6) λ_ _ _ _=>(qv 11))<|qa (S_ 8 hN<|zh xd)<|qa (vf wh rfl (cN rfl B.bf<|qv 0) (kn rfl<|z0 (G_ 9 hN)<|z0 (G_ 6 hN) xb)<|qa (S_ 10 hN<|qr x9 (C_ (Fq B) J<|cG (qv 2) (qv 9) qg) qg)<|qe<|zy (kj<|fg (E_ I (L_ B.ba<|qv 6) qg)<|dk<|js (IL _ _ _) (qv 9) (qv 4) (by with_unfolding_all rfl)) (qe<|z9<|qz (qv 8)<|x6<|qv 6)<|qe<|zy (E_ I (qr x9 (qr wx (qv 2) qg) qg) qg) (qe<|z9<|qz (qv 8)<|x6<|dN (kj<|w9 (E_ I (qr x9 (qv 10) qg) qg)<|vq<|js (xY _ _ _) (qv 9) (qv 5) (by with_unfolding_all rfl)) kE<|qv 6)<|qe<|zy (kj<|w9 (js sN (qv 10) qg<|xc _)<|vq<|E_ I (J_ 6) j6) (qa (z9<|qz (qv 8)<|x6<|zg<|cG j6 (J_ 6)<|J_ 6)<|qe<|S_ 7 hN<|qr bz (qv 7) qg)<|qe<|zy (kj<|w9 (js sN (qv 10) qg<|xc _)<|vq<|js sN (qv 7) (qv 3)<|xc _) (qa (z9<|qz (qv 8)<|x6<|zg<|cG j6 (J_ 6)<|J_ 6)<|qe<|S_ 7 hN<|qr jm (qv 7) qg)<|qe<|z9<|qz (qv 8)<|x6<|qv 6)<|qe<|za<|qv 8)
theorem VZ:RP V (iZ V.Pt):=T_ V 1 [ng,nq,"_law_keys",nh,nu,"_law_rank"] B.hp B.D26 TZ λ_ _ _ _ _ _ _ C I hN J=>(qa (wf (i:=2) hN rfl (Or.inr rfl)<|zh xd)<|qa (vf wh rfl (cN rfl B.bf<|qv 0) (kn rfl<|z0 (G_ 3 hN)<|z0 (G_ 4 hN) xb)<|qa (S_ 5 hN<|qr x9 (C_ (Fq B) I<|cG (qv 1) (qv 3) qg) qg)<|vi (zy (kj<|w9 (cM<|qv 4)<|vq<|E_ J (L_ B.ba<|qv 4) qg) (qe<|S_ 5 hN<|qr jm (qr jm (qv 5) qg)<|x5 Gc rfl B.bj rP<|ve (I_ (qv 2)<|J_ 4)<|I_ (qv 2)<|J_ 4) zb)<|qe<|z9<|qz (qv 2)<|x6<|qv 5)<|qe<|za<|Tx rfl B.bg (om rfl rfl B.bb rfl B.be<|L_ B.ba<|qv 0) {rfl,rfl,rfl,by decide +kernel,rfl,rfl,by decide,by decide,by decide} C (TU I) rfl rfl rfl {_,rfl,rfl} rfl λ_ _ _ _ _ _ _=>rfl)
theorem V0:Jv V (dW V.Pt):=M_ V 2 [ng,"_law_links","_law_cuts",nq,"_law_gaps","_law_at","_law_wide",nh,nu] B.hp B.D27 Uk λ_ _ _ _ _ _ _ J hN I=>(qa (wf (i:=5) hN rfl (Or.inr rfl) gR)<|qa (S_ 6 hN<|zh xd)<|qa (vf wh rfl (jq<|C_ (VZ B) J<|ve (qv 0)<|qv 3) (G_ 7 hN)<|vi (zy (kj<|w9 (ko<|qv 4)<|vq<|E_ I (qr x9 (C_ (Fq B) J<|cG (qv 3) (qv 7) qg) qg) qg) (qe<|z9<|qz (qv 6)<|x6 kE) zb)<|qa (eO I (qv 5) (qv 7)<|L_ B.ba<|qv 6)<|qa (S_ 8 hN<|I_ (qv 0)<|qv 7)<|vi (zy (kj<|w9 (cM<|qv 8)<|vq<|E_ I (L_ B.ba<|qv 8) qg) (qe<|S_ 8 hN<|zg<|cG (J_ 8) (vk I (qv 5) (J_ 8) λ_ _=>rfl)<|vk I (qv 5) (J_ 8) λ_ _=>rfl) zb)<|qe<|z9<|qz (qv 6)<|x6<|qv 8)<|qa (jH "_law_p'"<|wf (i:=1) wH rfl (Or.inl rfl)<|x5 iW rfl B.bg aX<|x6<|cQ [nh,"_law_q" ] (EW (by rfl)) rfl (jq<|qv 1) (sF rfl wH (λ_ _ _ _=>rfl) λ_ _ _ _=>rfl) (λ_ _ _ _=>gy) λ_ _ _ _=>(zg<|ve (x5 zS rfl B.bh rL<|ve (vk I (qv 5) (qv 9) λ_ _=>rfl)<|vk I (qv 5) (qv 10) λ_ _=>rfl)<|x5 Gc rfl B.bj rP<|ve (vk I (qv 5) (qv 9) λ_ _=>rfl)<|vk I (qv 5) (qv 10) λ_ _=>rfl))<|qa (jH "_law_p'"<|wf (i:=2) wH rfl (Or.inl rfl)<|x5 iW rfl B.bg aX<|x6<|cQ [nh,"_law_q" ] (EW (by rfl)) rfl (jq<|qv 2) (sF rfl wH (λ_ _ _ _=>rfl) λ_ _ _ _=>rfl) (λ_ _ _ _=>gy) λ_ _ _ _=>(zg<|ve (vk I (qv 5) (qv 9) λ_ _=>rfl)<|vk I (qv 5) (qv 10) λ_ _=>rfl))<|qe<|za<|zg<|cG (qr jm (qv 6)<|cQ ["_law_k"] (EW (by rfl)) rfl (af rfl B.be<|x6<|gB Sn rfl B.bi rh<|x6<|qv 4) (bu wH (λ_ _ _ _=>Or.inl rfl) λ_ _ _ _=>rfl) (λ_ _ _ _=>gy) λ_ _ _ _=>kE) (qv 1)<|qv 2)
theorem V1:RQ V (sM V.Pt):=M_ V _ _ B.hp B.D28 UM<|(iA _ _ _ _ _ _).2 V B.toB0_ {(Fq B),(VT B),(VU B),(VW B),(VY B),(V0 B)}
theorem V2:RS V (m8):=M_ V _ _ B.hp B.D29 UN<|(l6).2 V B.toB0_ ⟨⟩
theorem V3:RT V (dr):=M_ V _ _ B.hp B.D30 yQ<|(oh).2 V B.toB0_ ⟨⟩
theorem V4:RU V (iU):=M_ V _ _ B.hp B.D31 UZ<|(jC).2 V B.toB0_ ⟨⟩
theorem V5:RW V (dw):=M_ V _ _ B.hp B.D32 yH<|(gh).2 V B.toB0_ ⟨⟩
theorem V6:RX V (rX):=M_ V _ _ B.hp B.D33 U0<|(fh _ _).2 V B.toB0_ {(Fq B),(Ki B)}
theorem V7:RY V (gS):=M_ V _ _ B.hp B.D34 U4<|(iP).2 V B.toB0_ ⟨⟩
theorem Kl:Jw V (dG):=M_ V _ _ B.hp B.D35 Vc<|(g9).2 V B.toB0_ ⟨⟩
theorem V8:Jx V (ig):=M_ V 1 ["_law_edges_here","_law_numbers","_law_last","_law_number","_law_ring_here","_law_met",nh,"_law_q","_law_label"] B.hp B.D36 VB λ_ _ _ _ _ _ _ J hN I=>(qa (S_ 2 hN<|Qi Qh qg)<|qa (vf wh rfl (jq<|qv 1) (G_ 3 hN)<|qa (zy (kj<|fg (bU<|ko<|C_ (V3 B) J<|x6<|qv 3)<|fg (js Qc (qv 3) (qv 2)<|xc _)<|dk<|js Qd (qv 3) (L_ B.ba<|qv 0)<|xc _) (qe<|za cT) zb)<|qe<|S_ 2 hN<|qv 3)<|qa (jH "_law_number'"<|dE ["_law_number"] (i:=4) wH rfl (Or.inl rfl) (EW (by rfl)) rfl (jq<|qv 1) (bu wH (λ_ _ _ _=>Or.inl rfl) λ_ _ _ _=>rfl) (λ_ _ _ _=>gy) λ_ _ _ _=>(I_ (qv 0)<|qv 9))<|qa (wf (i:=5) hN rfl (Or.inr rfl) gR)<|qa (vf wh rfl (jq<|qv 4) (kn rfl<|z0 (G_ 6 hN)<|z0 (G_ 7 hN) xb)<|qa (eO I (qv 5) (qv 6)<|qr jm (ud I (qv 5) (qv 6) qg) qg)<|qe<|eO I (qv 5) (qv 7)<|qr jm (ud I (qv 5) (qv 7) qg) qg)<|qa (J6 "_law_p'" (kj<|fg (js sN (L_ B.ba<|qv 1) qg<|xc _)<|dk<|N_ I (Vz (EW (by rfl)) rfl I wH (λ_ _ _ _=>Or.inl rfl) (λ_ _ _ _=>rfl) (pv 5) (λ_ _ _ _=>pv 5) λ_ _ _ _ _=>pv 9)<|zh xd) (qe<|za cT) zb)<|qa (wf (i:=8) hN rfl (Or.inr rfl)<|C_ (Kl B) J<|ve (x5 Vy rfl B.bg aX<|x6<|qv 5)<|qv 4)<|qe<|jH "_law_p'"<|za<|dq (qU _ _ _ I) (VA (EW (by rfl)) rfl I wH (λ_ _ _ _=>Or.inl rfl) (λ_ _ _ _=>rfl) (λ_ _ _ _=>rfl) B.bh (pv 5) (λ_ _ _ _=>pv 5) (λ_ _ _ _=>pv 8) λ_ _ _ _ _=>pv 9) (zh xd)<|xc _)
theorem V9:RZ V (m7):=M_ V _ _ B.hp B.D37 VI<|(cB _ _ _).2 V B.toB0_ {(Kl B),(Kj B),(V8 B)}
theorem Hw:R4 V (mw):=M_ V 4 ["_law_web_here","_law_choices_here","_law_good"] B.hp B.D38 (VJ B.xf.em) λ_ _ _ _ _ _ _ I hN J=>(qa (S_ 2 hN cT)<|qa (VE rfl rfl rfl rfl B.md (Rm ((Zf B).mono (by decide)) I rfl rfl λ_ _=>(ve (qv 0)<|qv 1)) λ_=>(qe<|S_ 2 hN cT))<|qe<|za<|qv 2)
theorem dL{f:Addr}{fd:FuncData}(F:Yk V.K "law" "law" uf f fd):Ye V.P V.w V.K V.mg V.base 131 f fd [nj] (mO V.Pt Xh):=
 W_ V 130 [nj,nq,"_law_web_here","_law_turn","_law_choices_here","_law_handed","_law_told_here"] F VL λ_ _ _ _ _ _ I hN J=>(qa (S_ 1 hN<|qr x9 (C_ (Ki B) I<|ve (qv 0) qg)<|qr Qb qg qg)<|qa (S_ 2 hN<|C_ (V1 B) I<|xx (qv 0)<|cG (qv 1) qg qg)<|qa (vf wh rfl (af rfl B.be<|x6 qg) (G_ 3 hN)<|qa (S_ 4 hN<|C_ (V6 B) I<|cG (qv 0) (C_ (V4 B) I<|ve (qv 2) j6)<|qv 3)<|qa (S_ 5 hN<|zg<|ve (C_ (V2 B) I<|x6<|qv 2)<|gB iL rfl B.bb az<|x6<|qv 4)<|qa (S_ 6 hN<|G9 ((Zf B).mono (by decide)) I rfl Rn rfl<|ve (J_ 5)<|J_ 5)<|qa (zy (bU<|ko<|C_ (V9 B) I<|cG (C_ (V5 B) I<|x6<|qv 2) (C_ (V7 B) I<|ve (qv 2)<|qv 4)<|qv 6) (qe<|za cT) zb)<|qa (zy (kj<|fg (bU<|ko<|C_ (Hw B) I<|ve (J_ 5)<|qr jm (qv 4)<|zh<|x6<|qv 3)<|dk<|bU<|ko<|C_ (Kj B) I<|ve (qv 5)<|zg<|ve (qv 2)<|qv 4) (qe<|za cT) zb)<|qa (zy (kj<|w9 (N_ J (qv 4)<|zh xd)<|vq<|bU<|ko<|C_ (Hw B) I<|ve (J_ 5)<|bZ (qW _ _ _) (qv 4) (cU qg) gH) (qe<|za cT) zb)<|qe<|zy (kj<|w9 (N_ J (qv 4)<|zh xd)<|vq<|bU<|ko<|C_ (Hw B) I<|ve (J_ 5)<|qr jm (bZ (qW _ _ _) (qv 4) (cU qg) gH)<|zh<|x6<|qr jm qg<|qv 1) (qe<|za cT) zb)<|qe<|za cT)
end
theorem all_mk{l:PySem.W.OpenLaw}{w:WF}{K:Ag}{h:WG}{mg:Wo}{fa:Addr}{I:Addr}{J:Addr}{Pt:Addr}(X:K.In h)(G:h.Ns mainGlobals mg)(U:mg "law"=some (.ref fa))
 (D0:dZ K I "__init__" "Pieces.__init__" gg)
 (D1:dZ K I "head_of" "Pieces.head_of" cf)
 (D2:dZ K I "unite" "Pieces.unite" fe)
 (D:DD K)
 (D26:WZ K "_law_order" Re Pt)
 (zA3:nk K "Pieces"=some (some<|.ref I))
 (aCBadChoices:nk K "BadChoices"=some (some<|.ref J))
 (qCBadChoices:PySem.W.excIn K J [.type "ValueError",.type "Exception",.type "BaseException",.type "object"] "ValueError.__new__"=true)
 (zA4:Xe K I)
 (Zv:PySem.W.makesIn K I=true)
 (Zw:PySem.W.keepIn K (.ref I)=true)
 (xf:L2.XG K I J)
 (zlist:nk K "list"=some none)
 (zrange:nk K "range"=some none)
 (zenumerate:nk K "enumerate"=some none)
 (zall:nk K "all"=some none)
 (zlen:nk K "len"=some none)
 (zzip:nk K "zip"=some none)
 (zsorted:nk K "sorted"=some none)
 (zisinstance:nk K "isinstance"=some none)
 (zbool:nk K "bool"=some none)
 (ztuple:nk K "tuple"=some none)
 (zint:nk K "int"=some none)
 (zstr:nk K "str"=some none)
 (zmax:nk K "max"=some none)
 (zmin:nk K "min"=some none):
 ∃fd:FuncData,(∀(s:WD) (v:WC),BindsTo s fd ⟨[v],[]⟩ [(nj,v)])/\∀base:WG,K.In base->base.Ns mainGlobals mg->au l.prog w K mg base XU 131 fa fd [nj] (Xr Xh K Pt):=by
 obtain⟨t,kV,g,pm,an,j,o,p,r⟩:=D.D39.ex;have e:=U.symm.trans<|Dg X G p;cases e;refine{PySem.W.fnOf "law" "law" (vj uf) (jr uf) (qw uf) .none kV g pm an j o,λs v=>.of_eq rfl,λbase _ _=>?_};have B:B_ ⟨l.prog,w,K,mg,base,Pt,I,J⟩:={{Bl X G zlist,Bl X G zrange,Bl X G zenumerate,Bl X G zall,Bl X G zlen,Bl X G zzip,Bl X G zsorted,Bl X G zisinstance,Bl X G zbool,Bl X G ztuple,Bl X G zint,Bl X G zstr,Bl X G zmax,Bl X G zmin},D,{(h),X,G},D0,D1,D2,D26,Dg X G zA3,Dg X G aCBadChoices,yV qCBadChoices,zA4,Zv,Zw,xf};exact au.imp (dL B r) λC H Q E q=>TB q
theorem YN{K:Ag}{x:Str}{st:Stmt}{f Pt:Addr}{oc:WC}{od an:Option Addr}{oi:Array<|Wy}{kV fy pm eW ct:WC}(a:nk K x=some (some<|.ref f))
 (l:K.lookup f=some ⟨oc,od,.func<|PySem.W.fnOf x x (vj st) (jr st) (qw st) .none kV fy pm an eW ct,oi⟩) (c:PySem.W.codeIn K eW x=true) (k:PySem.W.keepIn K (.ref f)=true) (C:Fo K eW Pt):WZ K x st Pt:=
 ⟨f,kV,fy,pm,an,eW,ct,a,⟨⟨oc,od,kV,fy,pm,an,eW,ct,oi,rfl,l,c,C⟩,k⟩⟩
end K33
namespace H33
noncomputable section
open PySem PySem.W PySem.W.X L2 PyProof.Rows
abbrev rr:=PySem.Challenge.rw_oncewise_k33_faults_walked
abbrev p:WE:=PySem.Challenge.pw_oncewise_k33_faults_walked
abbrev top:=L2.top
abbrev Fs(i k:Nat):Stmt:=(nF<|top i).getD k<|.Pass {0,0,0,0}
abbrev s(x:WH):Str:=Str.ofString x
noncomputable abbrev S (x:WH) (t:Tok):WC:=.str (Str.ofString x) t
noncomputable abbrev I (i:Int) (t:Tok):WC:=.int i t
noncomputable abbrev R (a:Addr):WC:=.ref a
abbrev E(P:Params)(k:WH)(t:Tok)(v:WC):DictEntry:={PyData.keyHash P<|Str.ofString k,.str (Str.ofString k) t,v}
noncomputable abbrev O (c:WC) (d:Data):Obj:={c,none,d,#[]}
abbrev FN(n q:WH)(st:Stmt)(I kV fy pm:WC)(an:Option Addr)(cd ct:WC):FuncData:=fnOf (Str.ofString n) (Str.ofString q) (vj st) (jr st) (qw st) I kV fy pm an cd ct
abbrev FG(n q:WH)(st:Stmt):FuncData:={fnOf (Str.ofString n) (Str.ofString q) (vj st) (jr st) (qw st) .none .none .none .none none .none .none with globals:=0}
abbrev lt(l:List (Int×Nat)):Array Value:=(l.flatMap λx=>[I x.1 0,I 0 0,R x.2]).toArray
abbrev tu(l:Ws):Params->Obj:=λ_=>O (.type "tuple")<|.seq l 0
abbrev tn(k:Nat)(l:List String):Params->Obj:=tu ((l.zipIdx k).map λx=>S x.1 x.2).toArray
abbrev fo(f:FuncData):Params->Obj:=λ_=>O (.type "function")<|.func f
abbrev go(f:FuncData):Params->Obj:=λ_=>O .none<|.func f
abbrev co(n q:WH)(t l a b c fl v:Nat)(o:Bool)(m k:Nat)(x y z u:WC)(d:Nat):Params->Obj:=λ_=>O (.type "code")<|.fields #[S n t,S q<|t+1,S "/claim/cut.py"<|t+2,I l 0,I a 0,I b 0,I c 0,I fl 0,R v,.bool o,I m 0,R k,x,y,z,u,I d 0,I l 0,S "/claim/cut.py"<|d+1]
abbrev iF:WC:=S "law_oncewise_k33_faults_walked" 339
abbrev FY:WC:=S "oncewise.switching" 288
abbrev Km:WC:=S "oncewise.webs" 274
abbrev fX(n:WH)(i:Nat)(m:WC)(r:Nat):Params->Obj:=fo<|FN n n (top i) .none .none .none m none (R r) .none
abbrev gX(n:WH)(i:Nat):Params->Obj:=go<|FG n n<|top i
abbrev cF(n:WH)(t l a v d:Nat):Params->Obj:=co n n t l a 0 0 3 v true 181 (v+1) .none (R<|v+2) (R<|v+3) (R<|v+4) d
abbrev cC(n:WH)(t l v d:Nat):Params->Obj:=co n n t l 0 0 0 0 v false 181 (v+1) .none .none .none .none d
abbrev cS(n:WH)(a ns k t v:Nat):Params->Obj:=λ_=>{.type "type",none,.cls<|ClassData.mk (s n) [R 24] [R a,R 24,.type "ValueError",.type "Exception",.type "BaseException",.type "object"] ns (s n) true [] [] false none false,#[some<|R k,none,some<|S n t,some<|S n v,some<|.builtin "ValueError.__new__",some<|.bool true]}
abbrev dA(P:Params)(a b:Nat)(l:Int)(c d r e:Nat):Obj:=O (.type "dict")<|.dict #[E P "__module__" a<|S "oncewise.errors" 187,E P "__firstlineno__" b<|I l c,E P "__static_attributes__" d<|R r,E P "__doc__" e .none] 2
abbrev dB(P:Params)(a q:Nat)(n:WH)(J b:Nat)(l:Int)(c d r:Nat):Obj:=O (.type "dict")<|.dict #[E P "__module__" a<|S "oncewise.errors" 187,E P "__qualname__" q<|S n J,E P "__firstlineno__" b<|I l c,E P "__static_attributes__" d<|R r] 4
abbrev fR(a b:Nat):Params->Obj:=λ_=>{.type "frame",none,.plain,#[some<|R a,some<|R 3,some<|R b,none,some<|S "oncewise.errors" 187,none,some<|R 0]}
abbrev bI(a:Nat):Params->Obj:=λ_=>O (.type "builtin_function_or_method")<|.fields #[.builtin "object.__init_subclass__",R a]
abbrev sU(a:Nat):Params->Obj:=λ_=>O (.type "super")<|.fields #[R a,R a,R a]
abbrev Ob:=Params->Obj
def ev{α:Type}:Bool->List α->List α
 |_,[]=>[]
 |true,x::r=>x::ev false r
 |false,_::r=>ev true r
def bt:Nat->List Obj->BT
 |0,_=>.nil
 |_,[]=>.nil
 |n+1,x::r=>.node x (bt n<|ev true r)<|bt n<|ev false r
def XA:Env:={scope:=p.main.scope,locals:=mainNs,globals:=mainNs,cells:=[],code:=.ref 13,frame:=some 14}
abbrev cE:Code:=.body (behindTheImports p) XA
abbrev q0:Pos:={0,0,0,0}
abbrev an:Wy:=some<|.ref 6
abbrev Pc(n:Nat)(S I:WF->OsState->SharedT)(l:Ww)(q J:Pos)(w:WF):Prop:=(λos=>segRunT treeTable p w 11 an 1 n (S w os)<|piecesOf l XA cE q [topFrame q0])=λos=>some (Flow.next,I w os,cE,J)
abbrev b0:=PySem.W.boot_o_0
abbrev b1:=PySem.W.boot_o_1
abbrev b2:=PySem.W.boot_o_2
abbrev b3:=PySem.W.boot_o_3
abbrev b4:=PySem.W.boot_o_4
abbrev b5:=PySem.W.boot_o_5
abbrev b6:=PySem.W.boot_o_6
abbrev b7:=PySem.W.boot_o_7
abbrev b8:=PySem.W.boot_o_8
abbrev b9:=PySem.W.boot_o_9
abbrev Gx:=PySem.W.boot_o_10
def w6:=tu #[]
def bw:Ob:=λ_=>O .none<|.fields #[]
def Gy:=cC "<module>" 182 1 11 185
def Hx:Ob:=λ_=>{(.type "frame"),none,.plain,#[(some<|R 13),(some<|R 3),(some<|R 3),none,(some<|S "__main__" 164),none,(some<|R 0)]}
def Ko:Ob:=λP=>O (.type "dict")<|.dict #[(E P "__module__" 196<|S "oncewise.errors" 187),(E P "__firstlineno__" 200<|I 2 199),(E P "__static_attributes__" 201<|R 22),(E P "__weakref__" 203<|R 25),(E P "__doc__" 204 .none)] 3
def Kp:Ob:=λ_=>O (.type "getset_descriptor")<|.fields #[S "__weakref__" 202,R 24,(.builtin "ExceptionGroup.__weakref__"),.none]
def Hy:Ob:=λ_=>O (.type "builtin_function_or_method")<|.fields #[(.builtin "type.__prepare__"),(.type "type")]
def Kq:=cS "BadChoices" 37 36 28 207 215
def Kr:Ob:=λ_=>{(.type "type"),none,(.cls<|ClassData.mk (s "OnceError") [(.type "ValueError")] [R 24,(.type "ValueError"),(.type "Exception"),(.type "BaseException"),(.type "object")] 23 (s "OnceError") true [] [R 37] false none false),#[(some<|R 15),none,(some<|S "OnceError" 189),(some<|S "OnceError" 197),(some<|.builtin "ValueError.__new__"),(some<|.bool true)]}
def Ks:Ob:=λP=>dA P 214 218 4 217 219 35 220
def Kt:=fX "places_there" 6 Km 78
def Ku:Ob:=λ_=>O (.type "getset_descriptor")<|.fields #[S "__dict__" 267,R 70,(.builtin "function.__dict__"),(.builtin "function.__dict__#set")]
def Kv:=fo<|FN "unite" "Pieces.unite" (Fs 4 2) .none .none .none (S "oncewise.pieces" 223) none (R 66) .none
def Kw:=co "eithers_of" "eithers_of" 282 27 1 0 0 3 80 true 181 81 .none .none .none (R 82) 285
def Kx:=co "head_of" "Pieces.head_of" 245 12 2 0 0 3 54 true 181 55 .none (R 56) (R 57) (R 58) 251
def Ky:=fX "kept_parts" 9 FY 88
def Kz:Ob:=λP=>O (.type "dict")<|.dict #[(E P "__module__" 232<|S "oncewise.pieces" 223),(E P "__firstlineno__" 236<|I 7 235),(E P "__init__" 244<|R 53),(E P "head_of" 253<|R 60),(E P "unite" 264<|R 67),(E P "__static_attributes__" 266<|R 68),(E P "__dict__" 268<|R 71),(E P "__weakref__" 270<|R 72),(E P "__doc__" 271 .none)] 4
def KA:=fo<|FN "__init__" "Pieces.__init__" (Fs 4 0) .none .none .none (S "oncewise.pieces" 223) none (R 52) .none
def KC:Ob:=λ_=>O (.type "getset_descriptor")<|.fields #[S "__weakref__" 269,R 70,(.builtin "ExceptionGroup.__weakref__"),.none]
def KE:=co "kept_parts" "kept_parts" 290 30 2 0 0 3 85 true 181 86 .none .none .none (R 87) 293
def KG:=co "__init__" "Pieces.__init__" 237 9 2 0 0 3 47 true 181 48 .none (R 49) (R 50) (R 51) 242
def KH:=fX "eithers_of" 7 Km 83
def KI:=fo<|FN "head_of" "Pieces.head_of" (Fs 4 1) .none .none .none (S "oncewise.pieces" 223) none (R 59) .none
def KJ:=co "unite" "Pieces.unite" 254 19 3 0 0 3 61 true 181 62 .none (R 63) (R 64) (R 65) 262
def KL:Ob:=λ_=>{(.type "type"),none,(.cls<|ClassData.mk (s "Pieces") [(.type "object")] [R 70,(.type "object")] 69 (s "Pieces") true [] [] false none false),#[none,none,(some<|S "Pieces" 225),(some<|S "Pieces" 233),(some<|.builtin "object.__new__"),(some<|.bool true)]}
def KN:=co "places_there" "places_there" 276 25 1 0 0 3 75 true 181 76 .none .none .none (R 77) 279
def KO:=cF "edges_by" 296 38 2 90 305
def KP:=cF "_law_mix" 359 98 3 130 365
def KQ:=fX "neighbours_by" 11 FY 102
def KR:=cF "_law_word" 374 109 2 142 380
def KS:=fX "fault_by" 13 FY 114
def KU:=fX "_law_flip" 20 iF 154
def KY:=fX "_law_same" 16 iF 128
def KZ:=cF "_law_weight" 391 119 1 156 395
def K1:=fX "_law_mirror" 22 iF 168
def K2:=cF "_law_cell_at" 341 77 2 116 346
def K3:=fX "_law_name" 18 iF 140
def K4:=cF "path_by" 318 55 3 104 330
def K5:=cF "_law_same" 349 81 2 123 356
def K6:=fX "edges_by" 10 FY 95
def K7:=fX "_law_mix" 17 iF 135
def K8:=cF "_law_mirror" 398 123 2 163 409
def K9:=fX "_law_word" 19 iF 147
def K_:=co "_law_name" "_law_name" 368 100 2 0 0 3 137 true 181 138 .none .none .none (R 139) 371
def K':=fX "_law_weight" 21 iF 161
def La:=co "fault_by" "fault_by" 333 66 2 0 0 3 111 true 181 112 .none .none .none (R 113) 336
def Lb:=cF "_law_flip" 383 114 1 149 388
def Ld:=fX "_law_cell_at" 15 iF 121
def Le:=cF "neighbours_by" 308 49 1 97 315
def Lf:=fX "path_by" 12 FY 109
def Lg:=fX "_law_recast" 30 iF 214
def Lh:=cF "_law_whole" 525 293 1 242 529
def Li:=fX "_law_gapped" 32 iF 226
def Lj:=fX "_law_crossed" 28 iF 202
def Lk:=fX "_law_tree" 26 iF 192
def Ll:=cF "_law_beneath" 465 223 2 204 474
def Lm:=fX "_law_copy" 34 iF 240
def Ln:=cF "_law_web" 501 279 4 228 515
def Lo:=co "_law_cut" "_law_cut" 430 152 4 0 0 3 182 true 181 183 .none .none .none (R 184) 433
def Lp:=co "_law_told" "_law_told" 453 203 1 0 0 3 194 true 181 195 .none .none .none (R 196) 456
def Lq:=fX "_law_fold" 24 iF 180
def Lr:=co "_law_join" "_law_join" 412 136 4 0 0 3 170 true 181 171 .none .none .none (R 172) 415
def Hz:=cF "_law_order" 483 257 2 216 492
def Ls:=cF "_law_tree" 436 174 3 187 450
def Lu:=cF "_law_copy" 518 291 1 235 522
def Lv:=fX "_law_whole" 35 iF 247
def Lw:=cF "_law_fold" 418 144 4 175 427
def Lx:=co "_law_gapped" "_law_gapped" 495 265 5 0 0 3 223 true 181 224 .none .none .none (R 225) 498
def Ly:=fX "_law_beneath" 29 iF 209
def Lz:=co "_law_crossed" "_law_crossed" 459 213 4 0 0 3 199 true 181 200 .none .none .none (R 201) 462
def LA:=fX "_law_web" 33 iF 233
def LB:=fX "_law_cut" 25 iF 185
def LC:=fX "_law_told" 27 iF 197
def LD:=co "_law_recast" "_law_recast" 477 234 4 0 0 3 211 true 181 212 .none .none .none (R 213) 480
def LG:=fX "_law_join" 23 iF 173
def LH:=fX "_law_order" 31 iF 221
def LJ:Ob:=λP=>O (.type "dict")<|.dict #[(E P "__name__" 165<|S "law_oncewise_k33_faults_walked" 339),(E P "__doc__" 166 .none),(E P "__package__" 167 .none),(E P "__loader__" 168<|.builtin "__main__.__loader__#opaque"),(E P "__spec__" 169 .none),(E P "__annotations__" 170<|R 6),(E P "__builtins__" 171<|R 4),(E P "__file__" 173<|S "/claim/cut.py" 172),(E P "__cached__" 174 .none),(E P "OnceError" 206<|R 24),(E P "BadChoices" 222<|R 37),(E P "Pieces" 273<|R 70),(E P "places_there" 281<|R 79),(E P "eithers_of" 287<|R 84),(E P "kept_parts" 295<|R 89),(E P "edges_by" 307<|R 96),(E P "neighbours_by" 317<|R 103),(E P "path_by" 332<|R 110),(E P "fault_by" 338<|R 115),(E P "_law_cell_at" 348<|R 122),(E P "_law_same" 358<|R 129),(E P "_law_mix" 367<|R 136),(E P "_law_name" 373<|R 141),(E P "_law_word" 382<|R 148),(E P "_law_flip" 390<|R 155),(E P "_law_weight" 397<|R 162),(E P "_law_mirror" 411<|R 169),(E P "_law_join" 417<|R 174),(E P "_law_fold" 429<|R 181),(E P "_law_cut" 435<|R 186),(E P "_law_tree" 452<|R 193),(E P "_law_told" 458<|R 198),(E P "_law_crossed" 464<|R 203),(E P "_law_beneath" 476<|R 210),(E P "_law_recast" 482<|R 215),(E P "_law_order" 494<|R 222),(E P "_law_gapped" 500<|R 227),(E P "_law_web" 517<|R 234),(E P "_law_copy" 524<|R 241),(E P "_law_whole" 531<|R 248),(E P "_law_count" 537<|R 253),(E P "_law_places" 543<|R 258),(E P "_law_choices" 549<|R 263),(E P "_law_edges" 564<|R 270),(E P "_law_labels" 578<|R 277),(E P "_law_ring" 584<|R 282),(E P "_law_fault_fits" 590<|R 287),(E P "_law_refused" 599<|R 294),(E P "law" 612<|R 301)] 49
def LK:=fX "_law_fault_fits" 42 iF 286
def LL:=fX "_law_choices" 38 iF 262
def LM:=co "_law_places" "_law_places" 538 297 1 0 0 3 254 true 181 255 .none .none .none (R 256) 541
def LN:=co "_law_ring" "_law_ring" 579 328 2 0 0 3 278 true 181 279 .none .none .none (R 280) 582
def LP:=cF "_law_refused" 591 353 2 288 597
def LQ:=fX "_law_labels" 40 iF 276
def LR:=cF "_law_edges" 550 301 2 264 562
def LS:=fX "law" 44 iF 300
def LU:=fX "_law_count" 36 iF 252
def LV:=cF "_law_labels" 565 312 2 271 576
def LW:=cF "law" 600 360 1 295 610
def LX:=co "_law_count" "_law_count" 532 295 2 0 0 3 249 true 181 250 .none .none .none (R 251) 535
def LY:=fX "_law_places" 37 iF 257
def LZ:=fX "_law_ring" 41 iF 281
def L9:=co "_law_choices" "_law_choices" 544 299 3 0 0 3 259 true 181 260 .none .none .none (R 261) 547
def Ma:=fX "_law_refused" 43 iF 293
def Mb:=fX "_law_edges" 39 iF 269
def Mc:=co "_law_fault_fits" "_law_fault_fits" 585 343 3 0 0 3 283 true 181 284 .none .none .none (R 285) 588
def ZP:List Ob:=[b0,b1,b2,b3,b4,b5,b6,b7,b8,b9,Gx,w6,bw,Gy,Hx]
def ZK:List Ob:=[b0,b1,b2,LJ,b4,b5,b6,b7,b8,b9,Gx,w6,λ_=>O .none<|.fields<|lt [(2,20),(4,33),(7,45),(25,78),(27,83),(30,88),(38,95),(49,102),(55,109),(66,114),(77,121),(81,128),(98,135),(100,140),(109,147),(114,154),(119,161),(123,168),(136,173),(144,180),(152,185),(174,192),(203,197),(213,202),(223,209),(234,214),(257,221),(265,226),(279,233),(291,240),(293,247),(295,252),(297,257),(299,262),(301,269),(312,276),(328,281),(343,286),(353,293),(360,300)],Gy,Hx,tu #[(.type "ValueError")],Hy,λP=>dB P 196 198 "OnceError" 197 200 2 199 201 22,w6,bw,cC "OnceError" 191 2 18 194,fR 20 17,w6,Ko,Kr,Kp,sU 24,bI 24,tu #[R 24],Hy,λP=>dB P 214 216 "BadChoices" 215 218 4 217 219 35,w6,bw,cC "BadChoices" 209 4 31 212,fR 33 30,w6,Ks,Kq,sU 37,bI 37,w6,Hy,λP=>O (.type "dict")<|.dict #[(E P "__module__" 232<|S "oncewise.pieces" 223),(E P "__qualname__" 234<|S "Pieces" 233),(E P "__firstlineno__" 236<|I 7 235),(E P "__init__" 244<|R 53),(E P "head_of" 253<|R 60),(E P "unite" 264<|R 67),(E P "__static_attributes__" 266<|R 68)] 7,w6,λ_=>O .none<|.fields #[I 9 0,I 4 0,R 52,I 12 0,I 4 0,R 59,I 19 0,I 4 0,R 66],cC "Pieces" 227 7 43 230,λ_=>{(.type "frame"),none,.plain,#[(some<|R 45),(some<|R 3),(some<|R 42),none,(some<|S "oncewise.pieces" 223),none,(some<|R 0)]},w6,bw,tn 240 ["self","count"],w6,go<|FG "__init__" "Pieces.__init__"<|Fs 4 0,KG,KA,w6,bw,tn 248 ["self","place","here"],w6,go<|FG "head_of" "Pieces.head_of"<|Fs 4 1,Kx,KI,w6,bw,tn 257 ["self","p","q","first","second"],w6,go<|FG "unite" "Pieces.unite"<|Fs 4 2,KJ,Kv,tn 265 ["heads"],Kz,KL,Ku,KC,sU 70,bI 70,w6,bw,gX "places_there" 6,KN,Kt,w6,bw,gX "eithers_of" 7,Kw,KH,w6,bw,gX "kept_parts" 9,KE,Ky,w6,bw,tn 299 ["web","choices","kept","edges","place","knot"],w6,gX "edges_by" 10,KO,K6,w6,bw,tn 311 ["edges","near","number","edge"],w6,gX "neighbours_by" 11,Le,KQ,w6,bw,tn 321 ["edges","start","goal","near","paths","due","here","number","place"],w6,gX "path_by" 12,K4,Lf,w6,bw,gX "fault_by" 13,La,KS,w6,bw,tn 344 ["_law_script","_law_k"],w6,gX "_law_cell_at" 15,K2,Ld,w6,bw,tn 352 ["_law_found","_law_due","_law_one","_law_other"],w6,gX "_law_same" 16,K5,KY,w6,bw,tn 362 ["_law_cell","_law_k","_law_factor"],w6,gX "_law_mix" 17,KP,K7,w6,bw,gX "_law_name" 18,K_,K3,w6,bw,tn 377 ["_law_knots","_law_p","_law_knot"],w6,gX "_law_word" 19,KR,K9,w6,bw,tn 386 ["_law_word_here","_law_sides"],w6,gX "_law_flip" 20,Lb,KU,w6,bw,tn 394 ["_law_word_here"],w6,gX "_law_weight" 21,KZ,K',w6,bw,tn 401 ["_law_knots","_law_word_here","_law_left","_law_right","_law_turn","_law_same_here","_law_low","_law_high"],w6,gX "_law_mirror" 22,K8,K1,w6,bw,gX "_law_join" 23,Lr,LG,w6,bw,tn 421 ["_law_knots","_law_tree_here","_law_one","_law_two","_law_left","_law_right"],w6,gX "_law_fold" 24,Lw,Lq,w6,bw,gX "_law_cut" 25,Lo,LB,w6,bw,tn 439 ["_law_cells","_law_seed","_law_room","_law_knots","_law_forest","_law_k","_law_cell","_law_one","_law_two","_law_deed","_law_at"],w6,gX "_law_tree" 26,Ls,Lk,w6,bw,gX "_law_told" 27,Lp,LC,w6,bw,gX "_law_crossed" 28,Lz,Lj,w6,bw,tn 468 ["_law_knots","_law_cuts","_law_todo","_law_p","_law_q","_law_beneath_here"],w6,gX "_law_beneath" 29,Ll,Ly,w6,bw,gX "_law_recast" 30,LD,Lg,w6,bw,tn 486 ["_law_knots","_law_seed","_law_p","_law_knot","_law_rank"],tn 491 ["_law_keys"],gX "_law_order" 31,Hz,LH,w6,bw,gX "_law_gapped" 32,Lx,Li,w6,bw,tn 504 ["_law_script","_law_seed","_law_room","_law_most","_law_bits","_law_gaps","_law_knots","_law_rule","_law_links","_law_cuts","_law_k"],w6,gX "_law_web" 33,Ln,LA,w6,bw,tn 521 ["_law_web_here"],w6,gX "_law_copy" 34,Lu,Lm,w6,bw,tn 528 ["_law_found"],w6,gX "_law_whole" 35,Lh,Lv,w6,bw,gX "_law_count" 36,LX,LU,w6,bw,gX "_law_places" 37,LM,LY,w6,bw,gX "_law_choices" 38,L9,LL,w6,bw,tn 553 ["_law_web_here","_law_choices_here","_law_knots","_law_links","_law_cuts","_law_edges_here","_law_turn","_law_r","_law_knot"],w6,gX "_law_edges" 39,LR,Mb,w6,bw,tn 568 ["_law_places_here","_law_edges_here","_law_near","_law_p","_law_q","_law_label","_law_todo","_law_x"],w6,gX "_law_labels" 40,LV,LQ,w6,bw,gX "_law_ring" 41,LN,LZ,w6,bw,gX "_law_fault_fits" 42,Mc,LK,w6,bw,tn 594 ["_law_web_here","_law_choices_here","_law_good"],w6,gX "_law_refused" 43,LP,Ma,w6,bw,tn 603 ["_law_script","_law_seed","_law_web_here","_law_turn","_law_choices_here","_law_handed","_law_told_here"],w6,gX "law" 44,LW,LS]
def ZQ:List Ob:=[b0,b1,b2,b3,b4,b5,b6,b7,b8,b9,Gx,w6,bw,Gy,Hx]
def ZR:List Ob:=ZK
def V'(P:Params):WG:={{ZP.map (· P)},{}}
def Gz(P:Params):WG:={{ZK.map (· P)},{}}
def HA(P:Params):BT:=bt 20 (ZQ.map (· P))
def Wa(P:Params):BT:=bt 20 (ZR.map (· P))
def sA(w:WF)(os:OsState):WD:={V' w.params,#[],{},187,os}
def sZ(w:WF)(os:OsState):WD:={Gz w.params,#[],{},613,os}
def jR(w:WF)(os:OsState):SharedT:={HA w.params,15,{},#[],{},187,os}
def Md(w:WF)(os:OsState):SharedT:={Wa w.params,302,{},#[],{},613,os}
def HB:Ww:=((behindTheImports p).drop 0).take 45
theorem Wb(w:WF):(λos=>topGo treeTable p w 11 an 12 {boot_heap w.params,#[],boot_drawn,boot_toks,os}<|topStub p)=λos=>some (sA w os,{denote treeTable cE,cE,{0,0,0,0},[topFrame q0]}):=by kernel_rfl
theorem Wc(w:WF):(λos=>segRun treeTable p w 11 an 1 1 (sA w os)<|blockOf (behindTheImports p) XA cE {0,0,0,0} [topFrame q0])=λos=>some (.next,(jR w os).abs,cE,{0,0,0,0}):=by kernel_rfl
theorem We:∀w,Pc 1855 jR Md HB ⟨0,0,0,0⟩ ⟨360,0,375,15⟩ w:=λw=>by kernel_rfl
theorem Wf(w:WF):(λos=>topRun treeTable p w 11 an 2 (Md w os).abs {doneF .next,cE,{360,0,375,15},[topFrame q0]})=λos=>some (sZ w os):=by kernel_rfl
theorem Wg:HB++([])=behindTheImports p:=by kernel_rfl
theorem Wh(w:WF)(os:OsState):topRun treeTable p w 11 an (12+(1+(1855+(2)))) ⟨boot_heap w.params,#[],boot_drawn,boot_toks,os⟩ (topStub p)=some (sZ w os):=by have h:=(piece_app (l:=HB) (rest:=[]) (segRun_of<|Eu (We w) os)<|piece_nil (env:=XA)<|Eu (Wf w) os);rw[Wg] at h;exact go_top (Eu (Wb w) os)<|piece_block (Eu (Wc w) os) h
def YM:Wt:=[0,1,2,3,4,5,6,7,8,9,10,13,23,24,25,36,37,52,53,59,60,66,67,69,70,71,72,78,79,83,84,88,89,95,96,102,103,109,110,114,115,121,122,128,129,135,136,140,141,147,148,154,155,161,162,168,169,173,174,180,181,185,186,192,193,197,198,202,203,209,210,214,215,217,221,222,226,227,233,234,240,241,247,248,252,253,257,258,262,263,269,270,276,277,281,282,286,287,293,294,300,301]
def vw:WE:={p with main:={p.main with body:=[top 1,top 2,top 4,top 6,top 7,top 9,top 10,top 11,top 12,top 13,top 15,top 16,top 17,top 18,top 19,top 20,top 21,top 22,top 23,top 24,top 25,top 26,top 27,top 28,top 29,top 30,top 31,top 32,top 33,top 34,top 35,top 36,top 37,top 38,top 39,top 40,top 41,top 42,top 43,top 44]}}
local macro_rules|`(%[$a:num,$b|$p])=>`([(nat_lit $a,$b $p)])|`(%[$a:num,$b,$c,*|$p])=>`((nat_lit $a,$b $p)::%[$c,*|$p])
def K0:Params->Frag:=λP=>%[0,b0,1,b1,2,b2,3,LJ,4,b4,5,b5,6,b6,7,b7,8,b8,9,b9,10,Gx,13,Gy,23,Ko,24,Kr,25,Kp,36,Ks,37,Kq,52,KG,53,KA,59,Kx,60,KI,66,KJ,67,Kv,69,Kz,70,KL,71,Ku,72,KC,78,KN,79,Kt,83,Kw,84,KH,88,KE,89,Ky,95,KO,96,K6,102,Le,103,KQ,109,K4,110,Lf,114,La,115,KS,121,K2,122,Ld,128,K5,129,KY,135,KP,136,K7,140,K_,141,K3,147,KR,148,K9,154,Lb,155,KU,161,KZ,162,K',168,K8,169,K1,173,Lr,174,LG,180,Lw,181,Lq,185,Lo,186,LB,192,Ls,193,Lk,197,Lp,198,LC,202,Lz,203,Lj,209,Ll,210,Ly,214,LD,215,Lg,217,bw,221,Hz,222,LH,226,Lx,227,Li,233,Ln,234,LA,240,Lu,241,Lm,247,Lh,248,Lv,252,LX,253,LU,257,LM,258,LY,262,L9,263,LL,269,LR,270,Mb,276,LV,277,LQ,281,LN,282,LZ,286,Mc,287,LK,293,LP,294,Ma,300,LW,301,LS|P]
abbrev Yy:Nat:=221
abbrev X5:Nat:=217
abbrev Zs:Ob:=Hz
abbrev ls:Wu:=[]
abbrev Xt:WD->Bool:=λs=>xlAt vw [] s&&recOk (RowW.records rr.row.toRowW) s
theorem Wi(w:WF):((boot_heap w.params).isNs mainGlobals&&(#[]:Array GenState).size==0,(boot_heap w.params).objs.size,(boot_heap w.params).nsMap mainGlobals "__annotations__")=(true,11,an):=by kernel_rfl
theorem Wj:opening p=plainProg p.main.scope.names:=by kernel_rfl
theorem Wk(s:WD):fenceModules? p s=some s:=by kernel_rfl
theorem Wl(w:WF):(λos=>(staticsOk (importedModules p.main.body) (boot_heap w.params) (Gz w.params)&&namesBound p (Gz w.params)&&gensDone (sZ w os)&&laidKept (boot_heap w.params) (Gz w.params)))=λ_=>true:=by kernel_rfl
theorem yg(w:WF):(λos=>openSeen vw ls (importedModules p.main.body) Xt true<|sZ w os)=λ_=>openGood vw ls:=by kernel_rfl
theorem Zy(w:WF):(λos=>obsZ YM<|sZ w os)=λ_=>valZ K0 302 613 w:=by kernel_rfl
theorem Zr:LeftO p vw ls Xt (obsZ YM) (valZ K0 302 613) 3824:=LeftO.of_pieces (boot_open Wj rfl Wk) Wi Wh rfl λw=>funext λos=>looks_pair (Eu (Wl w) os)<|looks_pair (Eu (yg w) os)<|Eu (Zy w) os
end
end H33
open PySem PySem.W PyProof.Rows
set_option maxRecDepth 100000 in
set_option maxHeartbeats 0 in
theorem PySem.Challenge.cw_oncewise_k33_faults_walked_holds : PySem.Challenge.rw_oncewise_k33_faults_walked.Holds := by
 w_on;refine holds_law (by unfold OpenLaw.wellSaid OpenRow.wellSaid OpenRow.partSaid looksOpen;walk_at "y";walk_at "y";walk_at "y";walk_at "y";walk_at "y";walk_at "y";all_goals decide +kernel) λJ=>?_
 refine holds_openX (q:=H33.vw) (loose:=H33.ls) (Xt:=H33.Xt) (XP:=XL H33.vw []) (Yf:=PySem.W.X.obsZ H33.YM) (Ya:=PySem.W.X.valZ H33.K0 302 613) (N:=3824) H33.Zr (λs e=>xl_of s (Bool.and_eq_true_iff.mp e).1)
  XL.keeps (by rfl) (by rfl) (by rfl) (λs e=>recFacts_of (Bool.and_eq_true_iff.mp e).2)
  (by rfl) (by decide +kernel) (by decide +kernel) ⟨rfl,rfl,rfl,rfl,rfl,by decide +kernel⟩ ?hw ?hc
 case hw=>w_witness2
 k_fill
 refine L2.XW (l:=PySem.Challenge.rw_oncewise_k33_faults_walked) (n:=63) (k:=131) (x:="_law_script") (CX:=L2.XU) (sp:=L2.Xr L2.Xh) rfl (by decide) rfl {rfl,by decide,by decide} (λ_=>rfl) (by decide) ?F ?S ?C
 case F=>
  intro w r t h g G I;have T:(H33.K0 w.params).lookup H33.X5=some (PySem.W.tabObj #[]):=by k_is
  have U:(H33.K0 w.params).lookup H33.Yy=some (H33.Zs w.params):=by k_is
  have hd:∀h:WG,h.get? H33.Yy=some (H33.Zs w.params)->PySem.W.CodeHd h H33.Yy H33.X5:=λh e=>{_,_,_,_,_,_,_,_,_,e,rfl,rfl,rfl,rfl,rfl,rfl,rfl,rfl,by decide};have j:(H33.K0 w.params).lookup 4=some (PySem.W.boot_o_4 w.params):=by k_is
  have o:L2.WZ (L2.GM H33.X5<|H33.K0 w.params) "_law_order" L2.Re H33.X5:=by
   refine' K33.YN (L2.W6 T ?a) (L2.Xy T ?l ?n) (L2.Xq T ?c) (L2.Xb T ?k) ?LC
   (case a=>k_is);(case l=>k_is);(case n=>(intro e;cases e));(case c=>k_is);(case k=>k_is)
   refine'{{H33.Yy,_,rfl,L2.Xy T U ?m,hd},{4,_,L2.W6 T ?b,by decide,by decide,L2.Xy T j ?p,rfl,rfl,rfl}}
   (case m=>(intro e;cases e));(case b=>k_is);(case p=>(intro e;cases e))
  refine{H33.X5,{T,{H33.Yy,λh X=>hd h<|X _ _ U},by decide},?_};refine' K33.all_mk (K:=L2.GM H33.X5<|H33.K0 w.params) (L2.Yh g) G I ?D0 ?D1 ?D2 ?D ?D26 ?zA3 ?aCBadChoices ?qCBadChoices ?zA4 ?zA1 ?zA2 ?xf ?zlist ?zrange ?zenumerate ?zall ?zlen ?zzip ?zsorted ?zisinstance ?zbool ?ztuple ?zint ?zstr ?zmax ?zmin
  (case zA3=>(refine' L2.W6 T ?_;k_is))
  (case aCBadChoices=>(refine' L2.W6 T ?_;k_is))
  (case D0|D1|D2=>refine' L2.YC ((L2.WV T).trans ?a) (L2.Xy T ?l ?n) (L2.Xq T ?c) (L2.Xb T ?k)<|L2.YD T ?i;(case a=>k_is);(case l=>k_is);(case n=>(intro e;cases e));(case c=>k_is);(case k=>k_is);(case i=>k_is))
  (case D=>(constructor<;>(refine' L2.YW (L2.W6 T ?a) (L2.Xy T ?l ?n) (L2.Xq T ?c)<|L2.Xb T ?k;(case a=>k_is);(case l=>k_is);(case n=>(intro e;cases e));(case c=>k_is);(case k=>k_is))))
  (case D26=>exact o)
  (case qCBadChoices=>(refine' L2.YT T ?_;k_exc))
  (case zA4=>refine' L2.Xe.dn T ?_;refine' L2.Xe.mk ?pg ?hd ?po ?sa;(case pg=>k_is);(case hd=>k_is);(case po=>k_is);(case sa=>k_is))
  (case zA1=>(refine' L2.Yc T ?_;k_is))
  (case zA2=>(refine' L2.Xb T ?_;k_is))
  (case xf=>(refine' L2.XG.dn T ?_;(refine' L2.XG.mk ?xp ?em;(case xp=>(refine' L2.YO.mk ?cl ?na;(case cl=>(refine' L2.Xe.mk ?pg ?hd ?po ?sa;(case pg=>k_is);(case hd=>k_is);(case po=>k_is);(case sa=>k_is)));(case na=>(unfold L2.Pi;k_is))));(case em=>(refine' L2.YE ?h0 ?h1 ?h2 ?h3;(case h0=>k_is);(case h1=>k_is);(case h2=>k_is);(case h3=>k_is))))))
  (case zlist|zrange|zenumerate|zall|zlen|zzip|zsorted|zisinstance|zbool|ztuple|zint|zstr|zmax|zmin=>(refine' L2.W6 T ?_;k_is))
 case S=>exact L2.XF
 case C=>exactλ_ _ _ _ z=>z
#print axioms PySem.Challenge.cw_oncewise_k33_faults_walked_holds
