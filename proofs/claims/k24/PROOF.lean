import PyProof.Rows.All
import KE.KDictOf
import KE.KFromBytes
import KE.KIntText
import KE.KLam
import KE.KRevIter
import KE.KRevSl
import KE.KSortTup
import KE.KTryMore
import KE.LcSums
import OpenK.ZHead
import PySem.Challenge.RW_oncewise_k24_texts_and_back
set_option genSizeOf false
set_option bootstrap.genMatcherCode false
set_option compiler.extract_closed false
set_option hygiene false
local macro_rules|`(tactic| walk_at "t")=>`(tactic| (first|assumption|exact Nat.succ_pos _|exact z0.tk (by assumption)|exact Nat.lt_of_lt_of_le (z0.tk (by assumption)) (Nat.le_add_right _ _)|exact Nat.lt_of_lt_of_le (z0.tk (by assumption)) (by assumption)))
set_option hygiene true
local macro_rules|`(tactic| walk_at "w")=>`(tactic| conv=>whnf)
local macro_rules|`(tactic| walk_at "y")=>`(tactic| ((refine PySem.W.look_both ?_ ?_);(refine PySem.W.look_both ?_ ?_);(refine PySem.W.look_both ?_ ?_);(refine PySem.W.look_both ?_ ?_);(refine PySem.W.look_both ?_ ?_);(refine PySem.W.look_both ?_ ?_)))
local macro_rules(kind:=«term{_}»)|s=>return Lean.Syntax.node .none `Lean.Parser.Term.anonymousCtor #[Lean.mkAtom "⟨",s[1],Lean.mkAtom "⟩"]
set_option Elab.async false
set_option linter.all false
set_option maxRecDepth 100000
abbrev Aa:=@PySem.wpAny_bind
abbrev Ab:=@List.length_append
abbrev Ac:=@List.length_map
abbrev Ad:=@PyProof.Rows.wpS_bind
abbrev Ae:=@PyProof.Rows.wpS_pure
abbrev Af:=@PySem.W.Frag
abbrev Ag:=@List.mem_cons_of_mem
abbrev Ah:=@List.getElem?_eq_getElem
abbrev Ai:=@List.mem_append_right
abbrev Aj:=@Nat.le_refl
abbrev Ak:=@List.mem_singleton
abbrev Al:=@List.getElem?_map
abbrev Am:=@PySem.wpAny_pure
abbrev An:=@List.mem_cons_self
abbrev Ao:=@List.mem_append
abbrev Ap:=@List.length_cons
abbrev Aq:=@List.mem_cons
abbrev Ar:=@List.map_append
abbrev Au:=@List.size_toArray
abbrev Av:=@List.append_assoc
abbrev Aw:=@decide_eq_false
abbrev Ax:=@Option.map_eq_some_iff
abbrev Ay:=@List.mem_append_left
abbrev Az:=@if_neg
abbrev AA:=@decide_eq_true
abbrev AB:=@List.nodup_append
abbrev AC:=@if_pos
abbrev AD:=@List.flatMap_append
abbrev AE:=@List.mem_of_getElem?
abbrev AF:=@Nat.le_trans
abbrev AG:=@List.append_nil
abbrev AH:=@List.getElem?_append_left
abbrev AI:=@List.map_cons
abbrev AJ:=@List.getElem?_eq_some_iff
abbrev AK:=@List.getElem?_append_right
abbrev AL:=@Ne.symm
abbrev AM:=@List.take_of_length_le
abbrev AN:=@Bool.false_ne_true
abbrev AO:=@PyProof.Rows.wpS_forRange
abbrev AQ:=@List.nodup_cons
abbrev AR:=@Nat.lt_of_lt_of_le
abbrev AS:=@List.length_take
abbrev AU:=@List.take_append_drop
abbrev AV:=@List.pairwise_append
abbrev AW:=@List.take_succ
abbrev AX:=@PyProof.Rows.wpS_mono
abbrev AY:=@List.perm_ext_iff_of_nodup
abbrev AZ:=@List.take_length
abbrev A1:=@Option.some.inj
abbrev A2:=@List.mem_map
abbrev A3:=@List.length_replicate
abbrev A4:=@Array.getElem?_toList
abbrev A5:=@Nat.ne_of_lt
abbrev A6:=@List.mem_filter
abbrev A7:=@Array.length_toList
abbrev A8:=@PySem.wpAny_mono
abbrev A9:=@Array.toList_append
abbrev Ba:=@PySem.W.mg_none_of
abbrev Bb:=@Nat.zero_le
abbrev Bc:=@List.flatMap_cons
abbrev Bd:=@Nat.le_add_right
abbrev Be:=@Bool.and_eq_true
abbrev Bf:=@Int.natCast_nonneg
abbrev Bg:=@List.lookup_cons
abbrev Bh:=@Nat.add_sub_cancel_left
abbrev Bi:=@Nat.le_of_lt
abbrev Bj:=@List.mem_range
abbrev Bk:=@PySem.wpAny_field
abbrev Bl:=@List.mem_flatMap
abbrev Bm:=@PySem.wpAny_holding
abbrev Bn:=@Array.size_push
abbrev Bo:=@Nat.lt_of_le_of_lt
abbrev Bp:=@List.getD_eq_getElem?_getD
abbrev Bq:=@List.find?_cons
abbrev Br:=@List.getElem?_eq_none
abbrev Bs:=@PySem.W.kia_one
abbrev Bt:=@PySem.wpAny_newObj_type
abbrev Bu:=@List.perm_append_right_iff
abbrev Bv:=@PySem.W.mg_of
abbrev Bw:=@List.getElem_take
abbrev Bx:=@PySem.wpAny_seqItems
abbrev Bz:=@List.perm_append_left_iff
abbrev BA:=@congrArg
abbrev BB:=@PySem.wpAny_rule
abbrev BC:=@List.not_mem_nil
abbrev BD:=@PySem.mem_of_lookup
abbrev BE:=@List.getElem_of_mem
abbrev BF:=@Int.toNat_natCast
abbrev BG:=@List.mem_of_mem_take
abbrev BH:=@List.length_drop
abbrev BI:=@List.map_map
abbrev BJ:=@Int.le_of_lt
abbrev BK:=@List.drop_eq_getElem_cons
abbrev BL:=@Nat.min_eq_left
abbrev BM:=@Int.le_trans
abbrev BN:=@Nat.lt_succ_self
abbrev BO:=@PyProof.Rows.callWith_type1
abbrev BP:=@Array.size_append
abbrev BQ:=@List.length_reverse
abbrev BR:=@List.length_nil
abbrev BS:=@List.nil_append
abbrev BU:=@List.sublist_append_right
abbrev BV:=@List.perm_append_comm
abbrev BW:=@List.filter_append
abbrev BX:=@List.getElem_mem
abbrev BY:=@List.append_of_mem
abbrev BZ:=@Nat.succ_pos
abbrev B1:=@Nat.zero_add
abbrev B3:=@Nat.add_assoc
abbrev B4:=@List.getElem?_set_ne
abbrev B5:=@List.eq_nil_of_length_eq_zero
abbrev B6:=@List.length_range
abbrev B7:=@Nat.exists_eq_add_of_le
abbrev B8:=@List.reverse_append
abbrev B9:=@List.getElem?_set_self
abbrev Cb:=@List.length_take_of_le
abbrev Cc:=@List.flatMap_singleton
abbrev Cd:=@Nat.le_succ
abbrev Ce:=@List.all_eq_true
abbrev Cf:=@List.perm_append_singleton
abbrev Cg:=@Nat.le_of_ble_eq_true
abbrev Ci:=@Bool.eq_iff_iff
abbrev Cj:=@List.forIn_cons
abbrev Ck:=@PySem.W.look_both
abbrev Cm:=@List.map_nil
abbrev Cn:=@Nat.le_succ_of_le
abbrev Co:=@Nat.lt_or_ge
abbrev Cp:=@Nat.lt_succ_of_lt
abbrev Cq:=@List.any_cons
abbrev Cr:=@PyProof.Rows.slot_tuple_getitem
abbrev Cs:=@List.perm_iff_count
abbrev Ct:=@List.getElem?_replicate
abbrev Cu:=@List.eraseIdx_cons_succ
abbrev Cv:=@List.getElem?_cons_succ
abbrev Cw:=@List.nodup_nil
abbrev Cy:=@List.nodup_range
abbrev Cz:=@List.take_append_of_le_length
abbrev CA:=@Nat.add_comm
abbrev CB:=@Int.zero_add
abbrev CC:=@List.getElem_cons_drop
abbrev CD:=@Option.isSome_map
abbrev CF:=@Array.toList_push
abbrev CG:=@List.count_append
abbrev CH:=@List.take_zero
abbrev CI:=@List.mem_of_mem_drop
abbrev CK:=@Array.toList_reverse
abbrev CL:=@Nat.le_sub_one_of_lt
abbrev CM:=@Nat.ne_of_gt
abbrev CN:=@List.range'_succ
abbrev CO:=@Nat.sub_self
abbrev CP:=@List.perm_middle
abbrev CQ:=@List.pairwise_iff_getElem
abbrev CS:=@Array.getElem?_eq_getElem
abbrev CT:=@Nat.lt_irrefl
abbrev CU:=@Int.ofNat_inj
abbrev CV:=@List.sublist_append_left
abbrev CW:=@Bool.false_eq_true
abbrev CY:=@List.getElem?_drop
abbrev CZ:=@Array.size_extract
abbrev C0:=@List.length_eraseIdx_le
abbrev C1:=@Int.le_refl
abbrev C2:=@Nat.lt_add_of_pos_right
abbrev C3:=@List.drop_of_length_le
abbrev C4:=@List.drop_zero
abbrev C5:=@List.reverse_cons
abbrev C6:=@List.ext_getElem?
abbrev C7:=@List.Perm.refl
abbrev C8:=@List.mem_range'_1
abbrev C9:=@List.Sublist.refl
abbrev Dc:=@List.eraseIdxIfInBounds_toArray
abbrev Dd:=@List.length_singleton
abbrev De:=@List.getElem?_toArray
abbrev Df:=@List.eq_nil_or_concat
abbrev Dg:=@List.concat_eq_append
abbrev Dh:=@Nat.le_of_not_lt
abbrev Di:=@decide_eq_decide
abbrev Dj:=@Nat.min_eq_right
abbrev Dk:=@Array.toList_inj
abbrev Dl:=@Nat.max_eq_right
abbrev Dm:=@Int.mul_le_mul_of_nonneg_right
abbrev Dn:=@List.filter_cons
abbrev Do:=@List.flatMap_nil
abbrev Dp:=@List.reverse_reverse
abbrev Dq:=@List.getElem?_of_mem
abbrev Dr:=@List.of_mem_zip
abbrev Ds:=@Nat.le_add_left
abbrev Dt:=@Nat.max_eq_left
abbrev Du:=@List.sum_append
abbrev Dv:=@List.filterMap_cons
abbrev Dw:=@PySem.W.plainGet_of
abbrev Dx:=@List.toList_toArray
abbrev Dy:=@List.getElem?_range
abbrev Dz:=@List.map_congr_left
abbrev DA:=@List.mem_map_of_mem
abbrev DB:=@List.length_pos_iff
abbrev DC:=@Nat.le_of_eq
abbrev DE:=@PyProof.Rows.LSm.kept_iter
abbrev DF:=@Nat.lt_or_eq_of_le
abbrev DG:=@congrFun
abbrev DH:=@PySem.F.slot_dict_getitem
abbrev DI:=@List.getElem?_zip_eq_some
abbrev DJ:=@PySem.W.kitx_list
abbrev DK:=@List.take_sublist
abbrev DL:=@List.getElem_drop
abbrev DM:=@List.reverse_perm
abbrev DN:=@List.pairwise_map
abbrev DO:=@List.nodup_range'
abbrev DP:=@Bool.not_eq_true'
abbrev DQ:=@List.getElem?_take_of_lt
abbrev DR:=@List.all_cons
abbrev DS:=@List.getElem_append_left
abbrev DU:=@PySem.F.plainAttrs_list
abbrev DV:=@List.zipIdx_cons
abbrev DW:=@List.cons_append
abbrev DX:=@List.length_eq_zero_iff
abbrev DY:=@List.map_reverse
abbrev DZ:=@PySem.W.cellsFrom_some
abbrev Eb:=@Nat.not_lt
abbrev Ec:=@Nat.sub_zero
abbrev Ed:=@List.drop_eq_nil_of_le
abbrev Ee:=@Int.ofNat_lt
abbrev Ef:=@Bool.or_eq_true
abbrev Eg:=@List.foldl_cons
abbrev Eh:=@List.Perm.of_eq
abbrev Ei:=@beq_false_of_ne
abbrev Ej:=@List.length_zip
abbrev Ek:=@List.filter_nil
abbrev El:=@Int.emod_nonneg
abbrev Em:=@List.forIn_nil
abbrev En:=@List.cons.inj
abbrev wl:=@PySem.Heap.get?_push_of_some
abbrev xT:=@PySem.Heap.lt_size
abbrev ya:=@PySem.Heap.get?_push_size
abbrev yp:=@PySem.PassesOwn.never
abbrev As:=@PySem.Heap.SameBut.update
abbrev At:=@PySem.Calls.spliced_cons
abbrev Db:=@PySem.F.slot_tuple_iterator_next
abbrev DT:=@PySem.MeetsSeq.plain_remove_loop
abbrev Eu:=@PySem.W.look_both
abbrev Ev:=@PySem.Calls.spliced_nil
abbrev Ew:=@PySem.Heap.size_push
abbrev Ex:=@PySem.Heap.get?_update_self
abbrev Ey:=@PySem.Heap.get?_update_other
abbrev EC:=@PySem.F.slot_zip_next
abbrev EQ:=@PySem.F.args_str_split_2
abbrev E4:=@Sum.inr.inj
abbrev E6:=@Sum.inl.inj
abbrev Z5:=PySem.Value->PySem.Shared->Prop
abbrev Z6:=Unit->PySem.Shared->Prop
abbrev Z7:=PySem.Str->Option PySem.Value
abbrev Z8:=List<|Nat×Nat
abbrev Z9:=List (Nat×Nat)
abbrev Z_:=List PySem.Value
abbrev aaa:=Array PySem.Value
abbrev aab:=List Nat
abbrev aac:=List PySem.Str
abbrev aad:=List PySem.Expr
abbrev aae:=List PySem.Stmt
abbrev aaf:=List Int
abbrev aag:=Option PySem.Value
abbrev aah:=Option Int
abbrev aai:=Nat->Nat
abbrev aaj:=Nat×Nat
abbrev aak:=PySem.Value
abbrev aal:=PySem.Shared
abbrev aam:=PySem.Program
abbrev aan:=PySem.World
abbrev aao:=PySem.Heap
abbrev aap:=String
noncomputable section
namespace L2
open PySem PyProof.Rows
def jR{M:Model}{U:Ctx}{p:Pos}{t:Sem Fin}{fs:List Frame}{s s':aal}{e:End}(h:Runs M U p t fs s e s'):s.toks<=s'.toks:=by induction h with|fresh _ g=>exact AF (Cd _) g|call _ _ I J=>exact AF I J|resumeFresh _ _ _ _ I J=>exact AF I J|resumeSuspended _ _ _ _ I J=>exact AF I J|segRet _ _ I J=>exact AF I J|segGen _ _ I J=>exact AF I J|segSuspGen _ _ _ _ I J=>exact AF I J|_=>first|exact Aj _|assumption
def zK{M:Model}{J:Ctx}{p:Pos}{g:Nat}{r:Resume}{s s':aal}{res:GenResult}(h:Wakes M J p g r s res s'):s.toks<=s'.toks:=by
 unfold Wakes at h;split at h
 .exact h.elim
 .split at h
  .obtain⟨e,U,I,_,_,rfl⟩:=h;have q:=jR I;exact q
  .obtain⟨_,rfl⟩:=h;exact Aj _
  .obtain⟨_,rfl⟩:=h;exact Aj _
 .obtain⟨e,U,I,_,_,rfl⟩:=h;have q:=jR I;exact q
 .obtain⟨_,rfl⟩:=h;exact Aj _
 .obtain⟨_,rfl⟩:=h;exact Aj _
def OZ{α:Type}{M:Model}{T:Ctx}(t:Sem α):∀{Q:α->Pos->aal->Prop} {E:aak->Pos->aal->Prop} {p:Pos} {s:aal} (n:Nat),n<=s.toks->Sem.wp M T t Q E p s->Sem.wp M T t (λa C s'=>Q a C s'/\n<=s'.toks) (λe C s'=>E e C s'/\n<=s'.toks) p s:=by induction t with|pure a=>intro Q E p s n I h;exact{(h),I}|raise e=>intro Q E p s n I h;exact{(h),I}|load a part k J=>intro Q E p s n I ⟨o,U,j⟩;exact{o,U,J o n I j}|update a part f k J=>intro Q E p s n I ⟨U,j⟩;exact{U,J () n I j}|fresh k J=>intro Q E p s n I h;exact J s.toks n (AF I<|Cd _) h|choose a0 m k J=>intro Q E p s n I ⟨U,j⟩;exact{U,J _ n I j}|call c hd g l k J=>intro Q E p s n I ⟨r,s',U,j⟩;exact{r,s',U,J r n (AF I<|jR U) j}|genState g k J=>intro Q E p s n I ⟨st,U,j⟩;exact{st,U,J _ n I j}|resume g r l k J=>intro Q E p s n I ⟨res,s',U,j⟩;exact{res,s',U,J _ n (AF I<|zK U) j}|rule tag k J=>intro Q E p s n I h;exact J () n I h|«at» pos k J=>intro Q E p s n I h;exact J () n I h|alloc o k J=>intro Q E p s n I h;exact J _ n I h|loadIfAlive a k J=>intro Q E p s n I h;exact J _ n I h|point l k J=>intro Q E p s n I h;exact J _ n I h|ask k J=>intro Q E p s n I h;exact J _ n I h|os q l k J=>intro Q E p s n I h;exact J _ n I h|handled own k J=>intro Q E p s n I h;exact J _ n I h|newGen c k J=>intro Q E p s n I h;exact J _ n I h|stack k J=>intro Q E p s n I h;exact J _ n I h|thread k J=>intro Q E p s n I h;exact J _ n I h|unsupported w=>intro Q E p s n I h;exact h.elim|finish e=>intro Q E p s n I h;exact h.elim|register a k J=>intro Q E p s n I h;exact h.elim|yield v g l k J=>intro Q E p s n I h;exact h.elim|fork c k J=>intro Q E p s n I h;exact h.elim|await a f d l k J=>intro Q E p s n I h;exact h.elim
def yJ{α:Type}{M:Model}{A:Around}{t:Sem α}{Q:α->aal->Prop}{E:Z5}{s:aal}(h:wpAny M A t Q E s):wpAny M A t (λa s'=>Q a s'/\s.toks<=s'.toks) (λe s'=>E e s'/\s.toks<=s'.toks) s:=
 λJ p I=>OZ t s.toks (Aj _)<|h J p I
def j6{α:Type}{M:Model}{A:Around}{t:Sem α}{Q:α->aal->Prop}{E:Z5}{s:aal}(I:0<s.toks)(h:wpAny M A t (λa s'=>0<s'.toks->Q a s') (λe s'=>0<s'.toks->E e s') s):wpAny M A t Q E s:=
 A8 (yJ h) (λ_ _ z=>z.1<|AR I z.2) λ_ _ z=>z.1<|AR I z.2
variable {M:PySem.Model}{apos eS vc p p1 p2 p3 p4 p5 pos fm tp vb:PySem.Pos}{t t1 t2:Bool}{s s':PySem.Shared}{c e nC o target tg value:PySem.Expr}{α β κ:Type}{A:PySem.Around}{E Q:PySem.Value->PySem.Shared->Prop}{eA us:List PySem.Value}{eK ct fx oc pm u:PySem.Value}{base h h':PySem.Heap}{d i j kt m na t' x1:Nat}{ch fp:List PySem.Addr}{C Pt dx f fa i1 i2 it ka l l1 l2 pa pb:PySem.Addr}{kx name px q ee x:PySem.Str}{pins:List<|PySem.Addr×PySem.Obj}{st:PySem.Stmt}{ir es ml values:List PySem.Expr}{body:List PySem.Stmt}{lo:Int}{tk:aab}{mA mg:PySem.Str->Option PySem.Value}{kw:List<|PySem.Str×PySem.Value}{prog:PySem.Program}{env:PySem.Env}{fd:PySem.FuncData}{ps:List PySem.Str}{eW scope:PySem.Scope}{an od:Option PySem.Addr}{oi:Array<|Option PySem.Value}{keys:List<|Option PySem.Expr}{ws:List<|aab}{rks:aaf}
open PySem.Spec
abbrev zr:=Sum Int Str
abbrev _v:=List zr
def oz:zr->aak->Bool
 |.inl k,v=>Value.isInt k v
 |.inr x,v=>Value.isStrOf x v
def O0(w:aan):zr->Int
 |.inl k=>hashInt k
 |.inr x=>hashStr w x
theorem xt:∀{k:zr} {v:aak},oz k v=true->(∃i t,k=Sum.inl i/\v=Value.int i t)\/(∃x t,k=Sum.inr x/\v=Value.str x t)
 |.inl i,v,h=>by obtain⟨t,e⟩:=Value.isInt_shape (k:=i) (v:=v) h;exact .inl {(i),t,rfl,e}
 |.inr x,v,h=>by obtain⟨t,e⟩:=Value.isStrOf_shape (x:=x) (v:=v) h;exact .inr {(x),t,rfl,e}
def O1(i:Int)(t:Tok):oz (.inl i) (.int i t)=true:=by simp[oz,Value.isInt]
def cL(x:Str)(t:Tok):oz (.inr x) (.str x t)=true:=by simp[oz,Value.isStrOf]
def O6(a b:Int):decide ((Sum.inl a:zr)=Sum.inl b)=(a==b):=by
 by_cases e:a=b
 .subst e;simp
 .have h:¬(Sum.inl a:zr)=Sum.inl b:=λq=>e<|E6 q;rw[Aw h];exact(beq_eq_false_iff_ne.mpr e).symm
def O7(a b:Str):decide ((Sum.inr a:zr)=Sum.inr b)=decide (a=b):=by
 by_cases e:a=b
 .subst e;simp
 .have h:¬(Sum.inr a:zr)=Sum.inr b:=λq=>e<|E4 q;rw[Aw h,Aw e]
def O8(a:Int)(b:Str):decide ((Sum.inl a:zr)=Sum.inr b)=false:=Aw λq=>nomatch q
def O9(a:Str)(b:Int):decide ((Sum.inr a:zr)=Sum.inl b)=false:=Aw λq=>nomatch q
def xq(prog:aam)(w:aan):PySem.KeyKind prog w zr where
 is:=oz
 hash:=O0 w
 inj:=λv a b g U=>by
  rcases xt g with⟨i,t,rfl,rfl⟩|⟨x,t,rfl,rfl⟩
  .rcases xt U with⟨j,u,rfl,e⟩|⟨y,u,rfl,e⟩
   .injection e with I _;rw[I]
   .exact nomatch e
  .rcases xt U with⟨j,u,rfl,e⟩|⟨y,u,rfl,e⟩
   .exact nomatch e
   .injection e with I _;rw[I]
 byValue:=λk v h=>by rcases xt h with⟨i,t,rfl,rfl⟩|⟨x,t,rfl,rfl⟩<;>rfl
 pyHash:=λJ h=>by
  rcases xt J with⟨i,t,rfl,rfl⟩|⟨x,t,rfl,rfl⟩
  .exact wpAny_pyHash_int h
  .exact wpAny_pyHash_str h
 eqBool:=λl J h=>by
  rcases xt l with⟨i,t,rfl,rfl⟩|⟨x,t,rfl,rfl⟩
  .rcases xt J with⟨j,u,rfl,rfl⟩|⟨y,u,rfl,rfl⟩
   .rw[O6] at h;exact wpAny_eqBool_int h
   .rw[O8] at h;exact SeqAt.EqAt.int_str i t y u _ _ _ _ h
  .rcases xt J with⟨j,u,rfl,rfl⟩|⟨y,u,rfl,rfl⟩
   .rw[O9] at h;exact SeqAt.EqAt.str_int x t j u _ _ _ _ h
   .rw[O7] at h;exact wpAny_eqBool_str h
 «strs» := λk x t v h=>by
  rcases xt h with⟨i,u,rfl,e⟩|⟨y,u,rfl,e⟩
  .exact nomatch e
  .injection e with I _
   subst I;cases v<;>rfl
def vI(prog:aam)(w:aan)(i:Int)(t:Tok):(xq prog w).is (.inl i) (.int i t)=true:=O1 i t
def ud(prog:aam)(w:aan)(x:Str)(t:Tok):(xq prog w).is (.inr x) (.str x t)=true:=cL x t
inductive V where
 |KF|bl (b:Bool)|int (i:Int)|str (x:Str)|byt (b:Array UInt8)|flt (b:UInt64)|ref (a:Addr)|ty (n:aap)
 deriving DecidableEq
abbrev aar:=Option V
abbrev GT:=List V
def zg:V->aak->Prop
 |.KF,u=>u=Value.none
 |.bl b,u=>u=Value.bool b
 |.int i,u=>∃t,u=Value.int i t
 |.str x,u=>∃t,u=Value.str x t
 |.byt b,u=>∃t,u=Value.bytes b t
 |.flt b,u=>∃t,u=Value.float b t
 |.ref a,u=>u=Value.ref a
 |.ty n,u=>u=Value.type n
abbrev ze:GT->Z_->Prop:=Paired zg
theorem ze.length{xs:GT}(r:ze xs us):xs.length=us.length:=Paired.length r
theorem ze.get:∀{xs:GT} {us:Z_} {i:Nat} {x:V},ze xs us->xs[i]?=some x->∃u,us[i]?=some u/\zg x u
 |_,_,_,_,.nil,e=>by simp at e
 |_,_,0,_,.cons r _,e=>by simp at e;subst e;exact{_,rfl,r}
 |_,_,i+1,x,.cons _ t,e=>by obtain⟨u,I,J⟩:=ze.get (i:=i) (x:=x) t (by simpa using e);exact{u,by simpa using I,J}
theorem ze.set{x:V}{u:aak}(r:zg x u):∀{xs:GT} {us:Z_} (i:Nat),ze xs us->ze (xs.set i x) (us.set i u)
 |_,_,_,.nil=>.nil
 |_,_,0,.cons _ t=>.cons r t
 |_,_,i+1,.cons q t=>.cons q<|ze.set r i t
def ze.append:∀{xs ys:GT} {us ws:Z_},ze xs us->ze ys ws->ze (xs++ys) (us++ws):=by
 intro xs ys us ws h s
 induction h with|nil=>exact s|cons r t I=>exact .cons r I
theorem ze.take:∀{xs:GT} {us:Z_} (n:Nat),ze xs us->ze (xs.take n) (us.take n)
 |_,_,0,_=>.nil
 |_,_,_+1,.nil=>.nil
 |_,_,n+1,.cons r t=>.cons r<|ze.take n t
theorem ze.drop:∀{xs:GT} {us:Z_} (n:Nat),ze xs us->ze (xs.drop n) (us.drop n)
 |_,_,0,r=>r
 |_,_,_+1,.nil=>.nil
 |_,_,n+1,.cons _ t=>ze.drop n t
def dW:aar->aag->Prop
 |some v,some u=>zg v u
 |none,none=>True
 |_,_=>False
def KV :List (κ×V)->List (κ×aak)->Prop:=Paired λ(p:κ×V) (q:κ×aak)=>p.1=q.1/\zg p.2 q.2
def kV:zr->V
 |.inl i=>.int i
 |.inr x=>.str x
inductive HO where
 |lst (xs:GT)
 |tup (xs:GT)
 |dK (kvs:List<|zr×V)|dT (kvs:List<|_v×V)
 |set (S:Int->Bool) (n:Nat)
 |ins (C dx:Addr) (fs:List<|Str×V)
 |own (x:Addr)
 |xd (fs:List<|Str×V)
 |met (f x:Addr)
 |rng (lo hi:Int)
 |_F (o:Obj) (u:HO)
 |tbl (ps:aaa)
 |ext (φ:aao->Prop)
abbrev Hp:=Addr->Option HO
def upd(H:Hp)(a:Addr)(o:HO):Hp:=λb=>if b=a then some o else H b
def zm{H:Hp}{a:Addr}{o:HO}:upd H a o a=some o:=by unfold upd;rw[AC rfl]
def qp{H:Hp}{a b:Addr}{o:HO}(h:b≠a):upd H a o b=H b:=by unfold upd;rw[Az h]
def O_{H:Hp}{a:Addr}{o u:HO}:upd (upd H a o) a u=upd H a u:=by funext b;unfold upd;split<;>rfl
def O'{H:Hp}{a b:Addr}{o u:HO}(h:H a=some o)(h':H b=some u)(d:o≠u):a≠b:=by intro e;subst e;rw[h] at h';exact d<|A1 h'
def zu{H:Hp}{a b:Addr}{o:HO}(h:H a=some o)(h':H b=none):a≠b:=by intro e;subst e;rw[h] at h';cases h'
section
variable (P:aam)(w:aan)
def xl(H:Hp)(h:aao)(a:Addr):HO->Prop
 |.lst xs=>xs.length<=sizeLine/\∃(eA:Z_) (n:Nat),ze xs eA/\h.get? a=some {cls:=.type "list",data:=.seq eA.toArray n}
 |.tup xs=>xs.length<=sizeLine/\∃eA:Z_,ze xs eA/\IsTup h a eA.toArray
 |.dK kvs=>kvs.length<=sizeLine/\(a==sysModules)=false/\∃vs,KV kvs vs/\h.DictOf (xq P w) a vs
 |.dT kvs=>kvs.length<=sizeLine/\(a==sysModules)=false/\∃xs:List (_v×Addr×aak),
  Paired (λ(p:_v×V) (q:_v×Addr×aak)=>p.1=q.1/\H q.2.1=some (.tup<|p.1.map kV)/\zg p.2 q.2.2) kvs xs/\
  ∃o es J,h.get? a=some o/\o.ExactDict/\o.data=.dict es J/\es.toList=xs.map (entryOfKey<|tupleKind<|xq P w)/\(xs.map (·.1)).Nodup
 |.set S n=>h.SetOf (intKind P w) a S n
 |.ins C dx fs=>H dx=some (.own a)/\fs.length<=1000/\dx≠a/\h.get? a=some (PySem.W.instObj C dx)/\
  ∃mA,h.Ns1 dx mA/\(∀f,dW (fs.lookup f)<|mA f)/\PySem.Within mA (fs.map (·.1))
 |.own _=>∃o,h.get? a=some o
 |.xd fs=>∃mA,h.Ns1 a mA/\∀f,dW (fs.lookup f)<|mA f
 |.rng lo hi=>∃t u v,h.get? a=some {cls:=.type "range",data:=.fields #[.int lo t,.int hi u,.int 1 v]}
 |._F o u=>h.get? a=some o/\xl H h a u
 |.tbl ps=>h.get? a=some {cls:=.none,data:=.fields ps}
 |.met f x=>h.get? a=some (PySem.W.methodObj (.ref f)<|.ref x)
 |.ext I=>I h/\(∃o,h.get? a=some o)/\∀h1 h2:aao,I h1->(∀o,h1.get? a=some o->h2.get? a=some o)->I h2
def gG(H:Hp)(h:aao):Prop:=∀a o,H a=some o->xl P w H h a o
end
section
variable {P:aam}{w:aan}{H H':Hp}{a:Addr}{o:HO}
theorem xl.lt(x:xl P w H h a o):a<h.objs.size:=by
 cases o with
 |lst J=>obtain⟨_,_,_,_,e⟩:=x;exact xT e
 |tup J=>obtain⟨_,_,_,p⟩:=x;exact p.lt
 |dK I=>obtain⟨_,_,_,_,o,_,_,e,_⟩:=x;exact xT e
 |dT I=>obtain⟨_,_,_,_,o,_,_,e,_⟩:=x;exact xT e
 |set S n=>obtain⟨o,_,_,_,e,_⟩:=x;exact xT e
 |ins C U fs=>obtain⟨_,_,_,e,_⟩:=x;exact xT e
 |own y=>obtain⟨_,e⟩:=x;exact xT e
 |xd fs=>obtain⟨_,⟨_,_,_,e,_⟩,_⟩:=x;exact xT e
 |rng lo g=>obtain⟨_,_,_,e⟩:=x;exact xT e
 |_F ob u=>obtain⟨e,_⟩:=x;exact xT e
 |tbl j=>exact xT<|show h.get? a=some _ from x
 |met f y=>exact xT<|show h.get? a=some _ from x
 |ext l=>obtain⟨_,⟨_,e⟩,_⟩:=x;exact xT e
def Paired.mapP{F G:α->β->Prop}:∀{I:List α} {J:List β},Paired F I J->(∀a b,F a b->G a b)->Paired G I J:=by
 intro I J h f
 induction h with|nil=>exact .nil|cons r t U=>exact .cons (f _ _ r) U
abbrev EH:=@Paired.mapP
def xl._N(x:xl P w H h a o)(k:∀b u,(b=a\/H b=some (.own a))->h.get? b=some u->h'.get? b=some u)
 (ho:∀b,H b=some (.own a)->H' b=some (.own a)) (ht:∀b xs,H b=some (.tup xs)->H' b=some (.tup xs)):xl P w H' h' a o:=by
 induction o with
 |lst xs=>obtain⟨z,U,n,r,e⟩:=x;exact{z,U,n,r,k _ _ (.inl rfl) e}
 |tup xs=>obtain⟨z,U,r,ob,e,c⟩:=x;exact{z,U,r,ob,k _ _ (.inl rfl) e,c}
 |dK g=>obtain⟨z,y,vs,r,ob,I,J,e,c⟩:=x;exact{z,y,vs,r,ob,I,J,k _ _ (.inl rfl) e,c}
 |dT g=>
  obtain⟨z,y,xs,r,ob,I,J,e,c⟩:=x;exact{z,y,xs,EH r λp q z=>{z.1,ht _ _ z.2.1,z.2.2},ob,I,J,k _ _ (.inl rfl) e,c}
 |set S n=>obtain⟨ob,I,J,t,e,c⟩:=x;exact{ob,I,J,t,k _ _ (.inl rfl) e,c}
 |ins C dx fs=>
  obtain⟨d,z,ne,e,j,⟨l,I,J,e2,c⟩,r⟩:=x;exact{ho _ d,z,ne,k _ _ (.inl rfl) e,j,{l,I,J,k _ _ (.inr d) e2,c},r}
 |own y=>obtain⟨ob,e⟩:=x;exact{ob,k _ _ (.inl rfl) e}
 |xd fs=>obtain⟨j,⟨l,I,J,e,c⟩,r⟩:=x;exact{j,{l,I,J,k _ _ (.inl rfl) e,c},r}
 |rng lo hi=>obtain⟨t,u,v,e⟩:=x;exact{t,u,v,k _ _ (.inl rfl) e}
 |_F ob u ih=>obtain⟨e,q⟩:=x;exact{k _ _ (.inl rfl) e,ih q}
 |tbl T=>
  have e:h.get? a=some {cls:=.none,data:=.fields T}:=x;show h'.get? a=some {cls:=.none,data:=.fields T};exact k a _ (.inl rfl) e
 |met f y=>
  have e:h.get? a=some (PySem.W.methodObj (.ref f)<|.ref y):=x;show h'.get? a=some (PySem.W.methodObj (.ref f)<|.ref y);exact k a _ (.inl rfl) e
 |ext φ=>obtain⟨p,⟨o,e⟩,st⟩:=x;exact{st _ _ p λo q=>k _ _ (.inl rfl) q,{o,k _ _ (.inl rfl) e},st}
theorem gG.lt(x:gG P w H h)(e:H a=some o):a<h.objs.size:=(x a o e).lt
def gG.fresh(x:gG P w H h)(e:h.objs.size<=a):H a=none:=by cases q:H a with|none=>rfl|some u=>exact absurd (AR (x.lt q) e)<|CT _
def gG.kept(x:gG P w H h)(k:∀b u,h.get? b=some u->h'.get? b=some u):gG P w H h':=λa o e=>
 (x a o e)._N (λb u _ q=>k b u q) (λ_ q=>q) λ_ _ q=>q
def gG.laid(x:gG P w H h)(k:∀b u,h.get? b=some u->h'.get? b=some u)(U:h.objs.size<=a)(new:xl P w (upd H a o) h' a o):gG P w (upd H a o) h':=λb u e=>by
 have I:=x.fresh U;by_cases J:b=a
 .subst J;rw[zm] at e;cases e;exact new
 .rw[qp J] at e;exact(x b u e)._N (λc v _ q=>k c v q) (λc q=>by rw[qp<|zu q I];exact q) λc g q=>by rw[qp<|zu q I];exact q
end
def Rd(H:Hp)(a:Addr)(u:HO):Prop:=H a=some u\/∃o,H a=some (._F o u)
def Rd.ok{P:aam}{w:aan}{H:Hp}{a:Addr}{u:HO}(r:Rd H a u)(x:gG P w H h):xl P w H h a u:=by
 rcases r with r|⟨o,r⟩
 .exact x a u r
 .obtain⟨_,q⟩:=x a _ r;exact q
def Fs:Option HO->Prop
 |some (.lst _)=>True
 |some (.dK _)=>True
 |some (.dT _)=>True
 |some (.set _ _)=>True
 |some (.ins _ _ _)=>True
 |some (.ext _)=>True
 |_=>False
section
variable {P:aam}{w:aan}{H:Hp}{x e:Addr}{o':HO}
def gG.write(ok:gG P w H h)(g:Fs<|H x)(t:e=x\/H e=some (.own x))(k:∀b u,b≠e->h.get? b=some u->h'.get? b=some u)(p:∃u,h'.get? e=some u)
 (new:xl P w (upd H x o') h' x o'):gG P w (upd H x o') h':=λb u q=>by
 have J:∀c y,H c=some (.own y)->c≠x:=λc y r z=>by subst z;rw[r] at g;exact g
 have U:∀c j,H c=some (.tup j)->c≠x:=λc j r z=>by subst z;rw[r] at g;exact g
 by_cases l:b=x
 .subst l;rw[zm] at q;cases q;exact new
 .rw[qp l] at q;by_cases I:b=e
  .have C:H b=some (.own x):=by
    rcases t with z|z
    .exact absurd (I.trans z) l
    .rw[I];exact z
   rw[q] at C;cases C;obtain⟨v,T⟩:=p;exact{v,by rw[I];exact T}
  .refine(ok b u q)._N (λc v o r=>k c v ?_ r) (λc r=>by rw[qp<|J c b r];exact r) λc j r=>by rw[qp<|U c j r];exact r
   rcases o with rfl|o
   .exact I
   .rintro rfl;rcases t with z|z
    .exact J c b o z
    .rw[o] at z;cases z;exact l rfl
end
structure Un(fs ex:List Addr)(H H':Hp)(h h':aao):Prop where
 keep:∀b o,h.get? b=some o->H b=none->b∉fs->b∉ex->h'.get? b=some o
 slot:∀b o,h.get? b=some o->H b=none->b∈fs->b∉ex->∃sl,h'.get? b=some {o with slots:=sl}
 free:∀b o,h.get? b=some o->H b=none->b∉ex->H' b=none
 there:∀b o,h.get? b=some o->b∉ex->∃o',h'.get? b=some o'
 _A:∀b xs,H b=some (.tup xs)->H' b=some (.tup xs)
 _I:∀b o u,H b=some (._F o u)->H' b=some (._F o u)
 _J:∀b ps,H b=some (.tbl ps)->∃more,H' b=some (.tbl<|ps++more)
section
variable {fs sy ex ex':List Addr}{H H1 H2:Hp}{h1 h2:aao}{a x e:Addr}{o:HO}
def Un.any(u:Un fs ex H H1 h h1){b:Addr}{ob:Obj}(q:h.get? b=some ob)(n:H b=none)(I:b∉ex):∃U,h1.get? b=some {ob with slots:=U}:=by
 by_cases J:b∈fs
 .exact u.slot b ob q n J I
 .exact{ob.slots,u.keep b ob q n J I}
def Un.kept(k:∀b u,h.get? b=some u->h'.get? b=some u):Un fs ex H H h h':=
 ⟨λb ob q _ _ _=>k b ob q,λb ob q _ _ _=>{ob.slots,k b ob q},λ_ _ _ n _=>n,λb ob q _=>{ob,k b ob q},λ_ _ q=>q,λ_ _ _ q=>q,λ_ I q=>{#[],by rw[q];simp}⟩
def Un.refl:Un fs ex H H h h:=Un.kept λ_ _ q=>q
def Un.laid(k:∀b u,h.get? b=some u->h'.get? b=some u)(J:h.objs.size<=a)(I:H a=none):Un fs ex H (upd H a o) h h' where
 keep:=λb u q _ _ _=>k b u q
 slot:=λb u q _ _ _=>{u.slots,k b u q}
 free:=λb u q n _=>by rw[qp<|A5<|AR (xT q) J];exact n
 there:=λb u q _=>{u,k b u q}
 _A:=λb U q=>by rw[qp<|zu q I];exact q
 _I:=λb u U q=>by rw[qp<|zu q I];exact q
 _J:=λb g q=>{#[],by rw[qp<|zu q I,q];simp}
def Un.write(J:Fs<|H x)(p:e=x\/H e=some (.own x))(k:∀b u,b≠e->h.get? b=some u->h'.get? b=some u)(U:∃u,h'.get? e=some u):Un fs ex H (upd H x o) h h':=by
 have j:∀b,H b=none->b≠x:=λb n z=>by subst z;rw[n] at J;exact J
 have l:∀b,H b=none->b≠e:=λb n z=>by
  subst z;rcases p with r|r
  .exact j b n r
  .rw[n] at r;cases r
 have g:∀b u,H b=some u->¬Fs (some u)->b≠x:=λb u q nm z=>by subst z;rw[q] at J;exact nm J
 refine{λb u q n _ _=>k b u (l b n) q,λb u q n _ _=>{u.slots,k b u (l b n) q},λb u q n _=>by rw[qp<|j b n];exact n,λb u q _=>?_,
  λb t q=>by rw[qp<|g b _ q λz=>z];exact q,λb u t q=>by rw[qp<|g b _ q λz=>z];exact q,λb C q=>{#[],by rw[qp<|g b _ q λz=>z,q];simp}}
 by_cases I:b=e
 .subst I;exact U
 .exact{u,k b u I q}
end
def FY(h:aao)(H:Hp):List Addr:=(List.range h.objs.size).filter λa=>(H a).isSome
def uE(h:aao)(H:Hp):aao:=PySem.W.hideAll h<|FY h H
def Pa(h:aao)(H:Hp):(uE h H).objs.size=h.objs.size:=PySem.W.hideAll_size _ _
def Pb{H:Hp}{b:Addr}{o:Obj}(e:h.get? b=some o)(n:H b=none):(uE h H).get? b=some o:=
 PySem.W.hideAll_get _ e λI=>by have q:(H b).isSome=true:=(A6.mp I).2;rw[n] at q;simp at q
def Pd{H:Hp}{b:Addr}{o:Obj}(e:(uE h H).get? b=some o):h.get? b=some o/\H b=none:=by
 have I:h.get? b=some o:=PySem.W.of_hideAll (FY h H) e;refine{I,?_};cases q:H b with
 |none=>rfl
 |some x=>
  have J:b∈FY h H:=A6.mpr {Bj.mpr<|xT I,by simp[q]};have z:(uE h H).get? b=none:=PySem.W.hideAll_none (FY h H) J;rw[z] at e;cases e
variable {vs xs zs:List V}{H H' H₀:Hp}{v:V}
structure Mod(K:Af)(mg:Z7)(base:aao):Prop where
 kin:K.In base
 glob:base.Ns mainGlobals mg
 blt:∃mb,base.Ns builtinsNs mb/\∀x:Str,x ≠ "__name__" -> mb x=bootBuiltins x
 nolimit:base.NoLimit
structure Cx where
 prog:aam
 w:aan
 K:Af
 mg:Z7
 base:aao
 A:Around
 N:aac
 s₀:aal
 H₀:Hp
 env:Env
 outer:List Env
 stack:List Env
 ex:List Addr
 fn:Str->Bool
 calm:Bool
 pn:List (Addr×Obj)
 xe:Z5
abbrev _S(X:Cx){α:Type}:=@wpAny α (model X.prog X.w) X.A
def frs(l:List Env):List Addr:=l.filterMap (·.frame)
abbrev Cx.fs(X:Cx):List Addr:=frs X.outer
def D_(I:Scope)(x:Str):Prop:=I.names.lookup x=some .local\/I.names.lookup x=some .cell\/I.names.lookup x=some .free
def Loc(I:Scope)(x:Str):Prop:=I.names.lookup x=some .local\/I.names.lookup x=some .cell
def Pe(env:Env)(h:aao)(m:Z7)(x:Str)(u:aak):Prop:=
 (env.kindOf x=some .local/\m x=some u)\/((env.kindOf x=some .cell\/env.kindOf x=some .free)/\∃c,env.cells.lookup x=some c/\h.IsCell c (some u))
structure Cx.Ok(X:Cx):Prop where
 mod:Mod X.K X.mg X.base
 kind:X.env.scope.kind=.function
 glob:X.env.globals=mainGlobals
 blt:X.env.builtins=builtinsNs
 above:X.s₀.heap.objs.size<=X.env.locals
 inj:∀x y c,X.env.cells.lookup x=some c->X.env.cells.lookup y=some c->x=y
 has:∀x,(X.env.kindOf x=some .cell\/X.env.kindOf x=some .free)->∃c,X.env.cells.lookup x=some c
 cab:∀x c,X.fn x=true->X.env.cells.lookup x=some c->X.s₀.heap.objs.size<=c
 hd:X.calm=true->X.A.handled=none
 frames:X.A.frames=some X.stack
 stk:X.stack=X.outer\/(X.stack=X.env::X.outer/\X.env.frame=some X.env.locals)
 exf:∀b∈X.ex,b≠X.env.locals/\∀x c,X.env.cells.lookup x=some c->c≠b
 bs:∀b o,X.base.get? b=some o->X.s₀.heap.get? b=some o/\X.H₀ b=none
 bsz:X.base.objs.size<=X.s₀.heap.objs.size
 noex:∀b o,X.base.get? b=some o->b∉X.ex
 exfs:∀b∈X.ex,b∉X.fs
 _z:X.s₀.heap.FunFrames X.base X.outer
 frf:∀b∈X.fs,X.H₀ b=none
structure z0(X:Cx)(pins:List<|Addr×Obj)(σ:List<|aar)(H:Hp)(s:aal):Prop where
 ok:X.Ok
 os:s.os=X.s₀.os
 bare:AllBare s.gens
 base:Un X.fs X.ex X.H₀ H X.s₀.heap s.heap
 loc:∃m,s.heap.Ns X.env.locals m/\∀(i:Nat) (x:Str) (v:V),X.N[i]?=some x->σ[i]?=some (some v)->D_ X.env.scope x->∃u,zg v u/\Pe X.env s.heap m x u
 cell:∀x c,X.env.cells.lookup x=some c->∃v,s.heap.IsCell c v
 free:H X.env.locals=none
 SB:∀x c,X.env.cells.lookup x=some c->H c=none
 pin:∀p∈X.pn++pins,s.heap.get? p.1=some p.2/\H p.1=none/\p.1≠X.env.locals/\p.1∉X.fs/\∀v,p.2.data≠.cell v
 KB:gG X.prog X.w H s.heap
 len:σ.length=X.N.length
 tk:0<s.toks
section
variable {X:Cx}{σ:List<|aar}
theorem Cx.Ok.nofr(ok:X.Ok){b:Addr}{o:Obj}(e:X.base.get? b=some o):b∉X.fs:=λI=>by have:=(ok._z.mem I).1;rw[e] at this;cases this
theorem z0.bs(I:z0 X pins σ H s):∀b o,X.base.get? b=some o->s.heap.get? b=some o/\H b=none:=λb o e=>
 ⟨I.base.keep b o (I.ok.bs b o e).1 (I.ok.bs b o e).2 (I.ok.nofr e)<|I.ok.noex b o e,I.base.free b o (I.ok.bs b o e).1 (I.ok.bs b o e).2<|I.ok.noex b o e⟩
def z0.bk(I:z0 X pins σ H s):∀b o,X.base.get? b=some o->s.heap.get? b=some o:=λb o e=>(I.bs b o e).1
theorem z0.mod(I:z0 X pins σ H s):Mod X.K X.mg X.base:=I.ok.mod
def z0._w(I:z0 X pins σ H s):X.K.In s.heap:=I.ok.mod.kin.keeps I.bk
theorem z0.nolimit(I:z0 X pins σ H s):s.heap.NoLimit:=I.ok.mod.nolimit.keeps I.bk
theorem z0.lt(I:z0 X pins σ H s):X.env.locals<s.heap.objs.size:=let ⟨_,J,_⟩:=I.loc;J.lt
def z0.sz(I:z0 X pins σ H s):X.s₀.heap.objs.size<=s.heap.objs.size:=AF I.ok.above<|Bi I.lt
def z0.nofs(I:z0 X pins σ H s){a:Addr}(h:s.heap.objs.size<=a):a∉X.fs:=λJ=>by obtain⟨_,o,U,_⟩:=I.ok._z.mem J;exact absurd (AR (xT U)<|AF I.sz h)<|CT _
def z0.cne(I:z0 X pins σ H s):∀x c,X.env.cells.lookup x=some c->c≠X.env.locals:=λx c e z=>by obtain⟨v,o,g,hd⟩:=I.cell x c e;obtain⟨m,⟨j,l,p,J,U,_⟩,_⟩:=I.loc;rw[z,J] at g;cases g;rw[U] at hd;cases hd
theorem z0._z(I:z0 X pins σ H s):s.heap.FunFrames X.base X.outer:=by
 have all:∀(l:List Env),(∀b∈frs l,b∈X.fs)->X.s₀.heap.FunFrames X.base l->s.heap.FunFrames X.base l:=by
  intro l
  induction l with
  |nil=>intro _ _;trivial
  |cons p r t=>
   rintro j⟨T,⟨L,o,J,hn,ho,hd⟩,hr⟩;have U:L∈X.fs:=j L (by unfold frs;rw[Dv,J];exact An);obtain⟨sl,e⟩:=I.base.slot L o ho (I.ok.frf L U) U λz=>I.ok.exfs L z U;exact{T,{L,_,J,hn,e,hd},t (λb g=>j b (by unfold frs;rw[Dv,J];exact Ag _ g)) hr}
 exact all X.outer (λ_ g=>g) I.ok._z
def z0.stack(I:z0 X pins σ H s):s.heap.FunFrames X.base X.stack:=by
 rcases I.ok.stk with e|⟨e,J⟩
 .rw[e];exact I._z
 .rw[e];obtain⟨m,U,_⟩:=I.loc;refine .cons (by rw[I.ok.kind];decide) J U ?_ I._z;exact Heap.get?_none_of_le<|AF I.ok.bsz I.ok.above
def z0._H(I:z0 X pins σ H s):∀b∈frs X.stack,b∈X.env.locals::X.fs:=λb J=>by
 rcases I.ok.stk with e|⟨e,U⟩
 .rw[e] at J;exact Ag _ J
 .rw[e] at J;unfold frs at J;rw[Dv,U] at J;exact J
def z0.stkFree(I:z0 X pins σ H s):∀b∈frs X.stack,H b=none:=λb J=>by
 rcases Aq.mp (I._H b J) with e|J
 .rw[e];exact I.free
 .obtain⟨_,o,U,_⟩:=I.ok._z.mem J;exact I.base.free b o U (I.ok.frf b J) λz=>I.ok.exfs b z J
def z0.step{g':Array GenState}{d':Drawn}(I:z0 X pins σ H s)
 (U:∀b∈ch,(b∈X.ex\/X.s₀.heap.objs.size<=b)/\b≠X.env.locals/\(∀x c,X.env.cells.lookup x=some c->c≠b)/\∀p∈X.pn++pins,p.1≠b)
 (keep:∀b o,b≠X.env.locals->b∉X.fs->b∉ch->s.heap.get? b=some o->H b=none->h'.get? b=some o)
 (slot:∀b o,b≠X.env.locals->b∈X.fs->b∉ch->s.heap.get? b=some o->H b=none->∃sl,h'.get? b=some {o with slots:=sl}) (free:∀b o,b∉ch->s.heap.get? b=some o->H b=none->H' b=none)
 (there:∀b o,b∉ch->s.heap.get? b=some o->∃o',h'.get? b=some o')
 (_A:∀b xs,H b=some (.tup xs)->H' b=some (.tup xs)) (_I:∀b o u,H b=some (._F o u)->H' b=some (._F o u)) (_J:∀b ps,H b=some (.tbl ps)->∃more,H' b=some (.tbl<|ps++more))
 (ns:∀m,s.heap.Ns X.env.locals m->h'.Ns X.env.locals m) (KB:gG X.prog X.w H' h') (hg:AllBare g') (ht:0<t':=by walk_at "t"):
 z0 X pins σ H' {s with heap:=h',gens:=g',drawn:=d',toks:=t'}:=by
 have v4:∀b o,X.s₀.heap.get? b=some o->b≠X.env.locals:=λb o e=>A5<|AR (xT e) I.ok.above;have t:∀b o,X.s₀.heap.get? b=some o->b∉X.ex->b∉ch:=λb o e J T=>by
  rcases (U b T).1 with z|z
  .exact J z
  .exact absurd (AR (xT e) z)<|CT _
 have g:∀x c,X.env.cells.lookup x=some c->∀v,s.heap.IsCell c v->h'.IsCell c v:=λx c e v ⟨o,ho,hd⟩=>by
  have j:c∉ch:=λz=>(U c z).2.2.1 x c e rfl;by_cases hc:c∈X.fs
  .obtain⟨sl,q⟩:=slot c o (I.cne x c e) hc j ho<|I.SB x c e;exact{_,q,hd}
  .exact{o,keep c o (I.cne x c e) hc j ho<|I.SB x c e,hd}
 refine{I.ok,I.os,hg,{λb o e n T J=>?_,λb o e n T J=>?_,λb o e n J=>?_,λb o e J=>?_,λb xs e=>_A b xs<|I.base._A b xs e,λb o xs e=>_I b o xs<|I.base._I b o xs e,λb ps e=>?_},?_,λx c e=>?_,?_,λx c e=>?_,λp hp=>?_,KB,I.len,ht}
 .exact keep b o (v4 b o e) T (t b o e J) (I.base.keep b o e n T J)<|I.base.free b o e n J
 .obtain⟨sl,C⟩:=I.base.slot b o e n T J;obtain⟨a0,e2⟩:=slot b _ (v4 b o e) T (t b o e J) C<|I.base.free b o e n J;exact{(a0),e2}
 .obtain⟨o',C⟩:=I.base.there b o e J;exact free b o' (t b o e J) C<|I.base.free b o e n J
 .obtain⟨o',C⟩:=I.base.there b o e J;exact there b o' (t b o e J) C
 .obtain⟨m1,C⟩:=I.base._J b ps e;obtain⟨m2,e2⟩:=_J b _ C;exact{m1++m2,by rw[e2,Array.append_assoc]}
 .obtain⟨m,hn,hl⟩:=I.loc;refine{m,ns m hn,λi x v C e2 e3=>?_};obtain⟨u,r,l⟩:=hl i x v C e2 e3;refine{u,r,?_};rcases l with l|⟨k,c,e,z⟩
  .exact .inl l
  .exact .inr {k,c,e,g x c e _ z}
 .obtain⟨v,z⟩:=I.cell x c e;exact{v,g x c e v z}
 .obtain⟨m,⟨o,_,_,ho,_⟩,_⟩:=I.loc;exact free _ o (λz=>(U _ z).2.1 rfl) ho I.free
 .obtain⟨v,o,ho,hd⟩:=I.cell x c e;exact free c o (λz=>(U c z).2.2.1 x c e rfl) ho<|I.SB x c e
 .obtain⟨e,n,ne,nf,d⟩:=I.pin p hp;have j:p.1∉ch:=λz=>(U p.1 z).2.2.2 p hp rfl;exact{keep p.1 p.2 ne nf j e n,free p.1 p.2 j e n,ne,nf,d}
def z0.un(I:z0 X pins σ H s)(u:Un X.fs [] H H' s.heap h')(KB:gG X.prog X.w H' h')(T:0<t':=by walk_at "t"):z0 X pins σ H' {s with heap:=h',toks:=t'}:=by obtain⟨m,⟨o,es,ep,l,r⟩,_⟩:=id I.loc;obtain⟨sl,p⟩:=u.any l I.free (by simp);exact I.step (g':=s.gens) (d':=s.drawn) (ch:=[]) (λ_ z=>nomatch z) (λb o _ U _ e n=>u.keep b o e n U (by simp)) (λb o _ U _ e n=>u.slot b o e n U (by simp)) (λb o _ e n=>u.free b o e n (by simp)) (λb o _ e=>u.there b o e (by simp)) u._A u._I u._J (λm' t=>by obtain⟨o',g,j,J,C⟩:=t;rw[l] at J;cases J;exact{_,g,j,p,C}) KB I.bare
def z0.call{g':Array GenState}{d':Drawn}(I:z0 X pins σ H s)(u:Un (frs X.stack) ch H H' s.heap h')(KB:gG X.prog X.w H' h')(T:AllBare g')
 (U:∀b∈ch,(b∈X.ex\/X.s₀.heap.objs.size<=b)/\b≠X.env.locals/\(∀x c,X.env.cells.lookup x=some c->c≠b)/\∀p∈X.pn++pins,p.1≠b) (ht:0<t':=by walk_at "t"):
 z0 X pins σ H' {s with heap:=h',gens:=g',drawn:=d',toks:=t'}:=by
 obtain⟨m,⟨o,es,ep,C,r⟩,_⟩:=id I.loc;obtain⟨sl,j⟩:=u.any C I.free λz=>(U _ z).2.1 rfl;exact I.step (ch:=ch) U (λb o j hb J e n=>u.keep b o e n (λz=>(Aq.mp<|I._H b z).elim j hb) J) (λb o _ _ J e n=>u.any e n J) (λb o J e n=>u.free b o e n J) (λb o J e=>u.there b o e J) u._A u._I u._J (λm' hm=>by obtain⟨o',l,t,g,r'⟩:=hm;rw[C] at g;cases g;exact{_,l,t,j,r'}) KB T
def z0.turned(I:z0 X pins σ H s)(k:∀b o,b≠it->s.heap.get? b=some o->h'.get? b=some o)(j:H it=none)(g:it≠X.env.locals)
 (h1:it∈X.ex\/X.s₀.heap.objs.size<=it) (h2:∀x c,X.env.cells.lookup x=some c->c≠it) (l:∀p∈X.pn++pins,p.1≠it) (ht:0<t':=by walk_at "t"):z0 X pins σ H {s with heap:=h',toks:=t'}:=by
 have U:∀b u,H b=some u->b≠it:=λb u e z=>by rw[z,j] at e;cases e
 refine I.step (g':=s.gens) (d':=s.drawn) (ch:=[it]) (λb t=>?_) (λb o _ _ J e _=>k b o (λz=>J (by simp[z])) e) (λb o _ _ J e _=>{o.slots,k b o (λz=>J (by simp[z])) e}) (λ_ _ _ _ n=>n)
  (λb o J e=>{o,k b o (λz=>J (by simp[z])) e}) (λ_ _ e=>e) (λ_ _ _ e=>e) (λb ps e=>{#[],by rw[e];simp}) (λm C=>?_) (λb u e=>?_) I.bare
 .have e:b=it:=by simpa using t
  subst e;exact{(h1),g,h2,l}
 .obtain⟨o,T,ep,ho,r⟩:=C;exact{o,T,ep,k _ o (AL g) ho,r}
 .refine(I.KB b u e)._N (λc v J q=>k c v ?_ q) (λ_ q=>q) λ_ _ q=>q;rcases J with z|z
  .rw[z];exact U b u e
  .exact U c _ z
def z0.tok(I:z0 X pins σ H s)(t:Nat)(J:0<t:=by walk_at "t"):z0 X pins σ H {s with toks:=t}:=I.un (h':=s.heap) (t':=t) Un.refl I.KB
theorem z0.kept(I:z0 X pins σ H s)(k:∀b u,s.heap.get? b=some u->h'.get? b=some u)(J:0<t':=by walk_at "t"):z0 X pins σ H {s with heap:=h',toks:=t'}:=I.un (Un.kept k)<|I.KB.kept k
theorem z0.laid{a:Addr}{o:HO}(I:z0 X pins σ H s)(k:∀b u,s.heap.get? b=some u->h'.get? b=some u)(J:s.heap.objs.size<=a)(new:xl X.prog X.w (upd H a o) h' a o)(U:0<t':=by walk_at "t"):
 z0 X pins σ (upd H a o) {s with heap:=h',toks:=t'}:=I.un (Un.laid k J<|I.KB.fresh J)<|I.KB.laid k J new
theorem z0.write{x e:Addr}{o:HO}(I:z0 X pins σ H s)(U:Fs<|H x)(g:e=x\/H e=some (.own x))(k:∀b u,b≠e->s.heap.get? b=some u->h'.get? b=some u)(J:∃u,h'.get? e=some u)
 (new:xl X.prog X.w (upd H x o) h' x o) (j:0<t':=by walk_at "t"):z0 X pins σ (upd H x o) {s with heap:=h',toks:=t'}:=I.un (Un.write U g k J)<|I.KB.write U g k J new
def z0.weak{gS:List<|aar}(I:z0 X pins σ H s)(U:gS.length=σ.length)(w:∀(i:Nat) v,gS[i]?=some (some v)->σ[i]?=some (some v)):z0 X pins gS H s:=
 ⟨I.ok,I.os,I.bare,I.base,let ⟨m,g,J⟩:=I.loc;⟨m,g,λi x v j l o=>J i x v j (w i v l) o⟩,I.cell,I.free,I.SB,I.pin,I.KB,U.trans I.len,I.tk⟩
def z0.pins_of{J:List<|Addr×Obj}(I:z0 X pins σ H s)(h:∀p∈J,s.heap.get? p.1=some p.2/\H p.1=none/\p.1≠X.env.locals/\p.1∉X.fs/\∀v,p.2.data≠.cell v):z0 X J σ H s:=
 ⟨I.ok,I.os,I.bare,I.base,I.loc,I.cell,I.free,I.SB,λp U=>(Ao.mp U).elim (λz=>I.pin p<|Ay _ z)<|h p,I.KB,I.len,I.tk⟩
def vW{N:aac}(hN:N.Nodup)(a:N[i]?=some x)(b:N[j]?=some x):i=j:=by obtain⟨U,I⟩:=AJ.mp a;obtain⟨g,J⟩:=AJ.mp b;exact(List.getElem_inj hN).mp (I.trans J.symm)
def rK{Q:Z6}(I:z0 X pins σ H s)(hN:X.N.Nodup)(hi:X.N[i]?=some x)(t:Loc X.env.scope x)(r:zg v u)
 (h:∀s',z0 X pins (σ.set i<|some v) H s'->(∃a,Heap.SameBut a s.heap s'.heap/\(a=X.env.locals\/X.env.cells.lookup x=some a))->(X.env.kindOf x=some .local->∃m',s'.heap.Ns X.env.locals m'/\m' x=some u)->Q () s') (hf:X.fn x=true\/X.env.scope.names.lookup x=some .local:=by first|exact .inl rfl|exact .inr rfl|assumption):wpAny M A (storeName X.env x u) Q E s:=by
 obtain⟨m,hn,hl⟩:=id I.loc;have a2:(X.env.scope.kind==.class||(X.env.scope.kind==.module&&X.env.locals != X.env.globals))=false:=by rw[I.ok.kind];rfl
 have a0:i<σ.length:=by rw[I.len];exact(AJ.mp hi).1
 have cne:=I.cne;have U:∀{a:Addr} {h':aao},(∃o,s.heap.get? a=some o/\H a=none)->Heap.SameBut a s.heap h'->gG X.prog X.w H h':=λ{a h'} ha J b ob e=>by
  obtain⟨_,_,C⟩:=ha;refine(I.KB b ob e)._N (λc w' l q=>(J.2 c ?_).trans q) (λ_ q=>q) λ_ _ q=>q;rintro rfl;rcases l with rfl|l
  .rw[C] at e;cases e
  .rw[C] at l;cases l
 rcases t with T|T
 .refine wpAny_storeName_local T hn (λh' a3 J=>?_) a2;obtain⟨oL,_,_,ag,_⟩:=id hn;refine h _ {I.ok,I.os,I.bare,{λb o e n hb t=>?_,λb o e n hb t=>?_,I.base.free,λb o e t=>?_,I.base._A,I.base._I,I.base._J},{_,a3,λj y v' g e2 e3=>?_},λy c e=>?_,I.free,I.SB,λp hp=>?_,U {(oL),ag,I.free} J,by simpa using I.len,by first|exact I.tk|exact BZ _} {_,J,.inl rfl} λ_=>{_,a3,by simp}
  .exact(J.2 b<|A5<|AR (xT e) I.ok.above).trans (I.base.keep b o e n hb t)
  .obtain⟨sl,g⟩:=I.base.slot b o e n hb t;exact{sl,(J.2 b<|A5<|AR (xT e) I.ok.above).trans g}
  .obtain⟨o',g⟩:=I.base.there b o e t;exact{o',(J.2 b<|A5<|AR (xT e) I.ok.above).trans g}
  .by_cases hj:j=i
   .subst hj;rw[hi] at g;cases g;rw[B9 a0] at e2;cases e2;exact{u,r,.inl {T,by simp}}
   .rw[B4<|AL hj] at e2;obtain⟨u',r',q⟩:=hl j y v' g e2 e3;refine{u',r',?_};rcases q with⟨k,e⟩|⟨k,c,e,z⟩
    .refine .inl {k,?_};have:y≠x:=λe=>hj<|vW hN g<|e▸hi;simp[this,e]
    .exact .inr {k,c,e,z.sameBut J<|cne y c e}
  .obtain⟨w',z⟩:=I.cell y c e;exact{w',z.sameBut J<|cne y c e}
  .obtain⟨e,n,ne,nf,d⟩:=I.pin p hp;exact{(J.2 p.1 ne).trans e,n,ne,nf,d}
 .have a1:X.fn x=true:=by
   rcases hf with z|z
   .exact z
   .rw[z] at T;cases T
  obtain⟨c,l⟩:=I.ok.has x<|.inl T;obtain⟨w',z⟩:=I.cell x c l;refine wpAny_storeName_cell I.ok.kind T l z λh' a4 J=>?_;obtain⟨oc,a5,ab⟩:=id z;refine h {s with heap:=h'} {I.ok,I.os,I.bare,{λb o e n hb t=>?_,λb o e n hb t=>?_,I.base.free,λb o e t=>?_,I.base._A,I.base._I,I.base._J},{m,hn.sameBut J<|AL<|cne x c l,λj y v' g e2 e3=>?_},λy c' e=>?_,I.free,I.SB,λp hp=>?_,U {oc,a5,I.SB x c l} J,by simpa using I.len,I.tk} {c,J,.inr l} (λz=>by have e:=(show X.env.kindOf x=some .cell from T).symm.trans z;cases e)
  .exact(J.2 b<|A5<|AR (xT e)<|I.ok.cab x c a1 l).trans (I.base.keep b o e n hb t)
  .obtain⟨sl,g⟩:=I.base.slot b o e n hb t;exact{sl,(J.2 b<|A5<|AR (xT e)<|I.ok.cab x c a1 l).trans g}
  .obtain⟨o',g⟩:=I.base.there b o e t;exact{o',(J.2 b<|A5<|AR (xT e)<|I.ok.cab x c a1 l).trans g}
  .by_cases hj:j=i
   .subst hj;rw[hi] at g;cases g;rw[B9 a0] at e2;cases e2;exact{u,r,.inr {.inl T,c,l,a4}}
   .rw[B4<|AL hj] at e2;obtain⟨u',r',q⟩:=hl j y v' g e2 e3;refine{u',r',?_};rcases q with q|⟨k,c',e,z'⟩
    .exact .inl q
    .refine .inr {k,c',e,z'.sameBut J ?_};rintro rfl;exact hj<|vW hN g<|I.ok.inj _ _ _ e l▸hi
  .by_cases ac:c'=c
   .subst ac;exact{_,a4}
   .obtain⟨w2,z2⟩:=I.cell y c' e;exact{w2,z2.sameBut J ac}
  .obtain⟨e,n,ne,nf,d⟩:=I.pin p hp;refine{(J.2 p.1 ?_).trans e,n,ne,nf,d};intro q;rw[q,a5] at e;have q':oc=p.2:=A1 e;exact d w' (by rw[<-q'];exact ab)
def eX{Q:Z6}(I:z0 X pins σ H s)(hN:X.N.Nodup)(hi:X.N[i]?=some x)(J:Loc X.env.scope x)(r:zg v u)
 (h:∀s',z0 X pins (σ.set i<|some v) H s'->Q () s') (U:X.fn x=true\/X.env.scope.names.lookup x=some .local:=by first|exact .inl rfl|exact .inr rfl|assumption):wpAny M A (storeName X.env x u) Q E s:=
 rK I hN hi J r (λs' g _ _=>h s' g) U
def z0.call'(I:z0 X pins σ H s)(U:s'.os=s.os)(u:Un (frs X.stack) ch H H' s.heap s'.heap)(KB:gG X.prog X.w H' s'.heap)(g:AllBare s'.gens)
 (J:∀b∈ch,(b∈X.ex\/X.s₀.heap.objs.size<=b)/\b≠X.env.locals/\(∀x c,X.env.cells.lookup x=some c->c≠b)/\∀p∈X.pn++pins,p.1≠b) (j:0<s'.toks:=by walk_at "t"):z0 X pins σ H' s':=by
 obtain⟨o,g',d',t',l⟩:=s';have e:l=s.os:=U;subst e;exact I.call (g':=g') (t':=t') (d':=d') u KB g J j
end
abbrev XK:=aak->Option Addr->Hp->Prop
abbrev St:=List<|aar
abbrev VK:=V->Hp->Prop
abbrev TE:=St->Hp->VK->Prop
abbrev TT:=St->Hp->(Bool->Hp->Prop)->Prop
abbrev TA:=St->Hp->(GT->Hp->Prop)->Prop
structure xU where
 nx:St->Hp->Prop
 rt:VK
 bk:St->Hp->Prop:=λ_ _=>False
 ct:St->Hp->Prop:=λ_ _=>False
abbrev TS:=xU->St->Hp->Prop
def EP(X:Cx)(pins:List<|Addr×Obj)(σ:St)(Q:VK)(u:aak)(s':aal):Prop:=∃v H',z0 X pins σ H' s'/\zg v u/\Q v H'
def TP(X:Cx)(pins:List<|Addr×Obj)(σ:St)(Q:Bool->Hp->Prop)(b:Bool)(s':aal):Prop:=∃H',z0 X pins σ H' s'/\Q b H'
def AP(X:Cx)(pins:List<|Addr×Obj)(σ:St)(Q:GT->Hp->Prop)(us:Z_)(s':aal):Prop:=∃vs H',z0 X pins σ H' s'/\ze vs us/\Q vs H'
def SP(X:Cx)(pins:List<|Addr×Obj)(D:xU)(f:Flow)(s':aal):Prop:=
 match f with
 |.next=>∃gS H',z0 X pins gS H' s'/\D.nx gS H'
 |.brk=>∃gS H',z0 X pins gS H' s'/\D.bk gS H'
 |.cont=>∃gS H',z0 X pins gS H' s'/\D.ct gS H'
 |.ret u=>∃v gS H',z0 X pins gS H' s'/\zg v u/\D.rt v H'
def PE(X:Cx)(e:Expr)(t:TE):Prop:=
 ∀(pins:List<|Addr×Obj) (s:aal) (σ:St) (H:Hp) (Q:VK),z0 X pins σ H s->t σ H Q->_S X (eval e X.env) (EP X pins σ Q) X.xe s
def PT(X:Cx)(e:Expr)(t:TT):Prop:=
 ∀(pins:List<|Addr×Obj) (s:aal) (σ:St) (H:Hp) (Q:Bool->Hp->Prop),z0 X pins σ H s->t σ H Q->_S X (isTrue e X.env<|eval e X.env) (TP X pins σ Q) X.xe s
def PW(X:Cx)(e:Expr)(t:TT):Prop:=
 ∀(whole:Sem aak) (pins:List<|Addr×Obj) (s:aal) (σ:St) (H:Hp) (Q:Bool->Hp->Prop),z0 X pins σ H s->t σ H Q->_S X (isTrue e X.env whole) (TP X pins σ Q) X.xe s
def PW.pt{X:Cx}{t:TT}(h:PW X e t):PT X e t:=h _
def PA(X:Cx)(es:aad)(t:TA):Prop:=
 ∀(pos:Pos) (pins:List<|Addr×Obj) (s:aal) (σ:St) (H:Hp) (Q:GT->Hp->Prop),z0 X pins σ H s->t σ H Q->_S X (spliced<|backTo pos<|starEach es X.env) (AP X pins σ Q) X.xe s
def PS(X:Cx)(st:Stmt)(t:TS):Prop:=
 ∀(pins:List<|Addr×Obj) (s:aal) (σ:St) (H:Hp) (D:xU),z0 X pins σ H s->t D σ H->_S X (exec st X.env) (SP X pins D) X.xe s
def mR(X:Cx)(st:aae)(t:TS):Prop:=
 ∀(pins:List<|Addr×Obj) (s:aal) (σ:St) (H:Hp) (D:xU),z0 X pins σ H s->t D σ H->_S X (execs st X.env) (SP X pins D) X.xe s
def w9{t:Sem α}{Q I:α->aal->Prop}(h:wpAny M A t Q E s)(J:∀a s,Q a s->I a s):wpAny M A t I E s:=A8 h J λ_ _ x=>x
def wy{t:Sem aak}{X:Cx}{σ:St}{Q:VK}{I:Z5}(h:wpAny M A t (EP X pins σ Q) E s)(J:∀v s x H,z0 X pins σ H s->zg x v->Q x H->I v s):wpAny M A t I E s:=w9 h λv s ⟨x,H,a,b,c⟩=>J v s x H a b c
def y4{t:Sem<|Z_}{X:Cx}{σ:St}{Q:GT->Hp->Prop}{I:Z_->aal->Prop}(h:wpAny M A t (AP X pins σ Q) E s)(J:∀v s x H,z0 X pins σ H s->ze x v->Q x H->I v s):wpAny M A t I E s:=w9 h λv s ⟨x,H,a,b,c⟩=>J v s x H a b c
variable {r:V->aah->aah->Hp->VK->Prop}{X:Cx}{σ:St}
section
def GI(i:Nat):TE:=λσ H Q=>∃v,σ[i]?=some (some v)/\Q v H
def tC(v:V):TE:=λ_ H Q=>Q v H
abbrev Es(x:Str):Prop:=(x==("__debug__":Str))=false
abbrev Et(x:Str):Prop:=(x==("__classdict__":Str))=false
def Pf(hN:X.N[i]?=some x)(p:D_ X.env.scope x)(hd:Es x:=by decide)(j:Et x:=by decide):PE X (.Name x pos) (GI i):=by
 rintro g s t H Q I⟨v,e,h⟩;obtain⟨m,C,T⟩:=I.loc;obtain⟨u,r,l⟩:=T i x v hN e p;have jd:EP X g t Q u s:={(v),H,I,r,h};rcases l with⟨U,hm⟩|⟨U,c,o,J⟩
 .exact wpAny_Name (wpAny_loadName_local I.ok.kind U C hm jd) hd
 .rcases U with U|U
  .exact wpAny_Name (wpAny_loadName_cell I.ok.kind U o J jd) hd
  .exact wpAny_Name (wpAny_loadName_free I.ok.kind U o J jd j) hd
def Pg{i j pos}:PE X (.Constant (.int i) j pos) (tC<|.int i):=λ_ _ _ H _ I h=>wpAny_Constant_int {.int i,H,I.tok _,{_,rfl},h}
def Ph{b j pos}:PE X (.Constant (.bool b) j pos) (tC<|.bl b):=λ_ _ _ H _ I h=>Constant_bool {.bl b,H,I,rfl,h}
def Pj{j pos}:PE X (.Constant .none j pos) (tC .KF):=λ_ _ _ H _ I h=>Constant_none {.KF,H,I,rfl,h}
def aQ{x j pos}:PE X (.Constant (.str x) j pos) (tC<|.str x):=λ_ _ _ H _ I h=>Calls.Constant_str {.str x,H,I.tok _,{_,rfl},h}
def Gl(X:Cx)(x:Str):Prop:=X.env.kindOf x=some .globalImplicit
def tT(I:z0 X pins σ H s)(J:Gl X x)(U:X.mg x=some u)(h:Q u s)
 (hd:Es x:=by decide):_S X (eval (.Name x pos) X.env) Q E s:=
 Calls.Name_function_global I.ok.kind J (Calls.loadGlobal_global (by rw[I.ok.glob];exact I.mod.glob.keeps I.bk) U h) hd
def bH(I:z0 X pins σ H s)(J:Gl X x)(U:X.mg x=none)(g:bootBuiltins x=some u)(h:Q u s)
 (j:x ≠ "__name__" := by decide) (hd:Es x:=by decide):_S X (eval (.Name x pos) X.env) Q E s:=by
 obtain⟨p,l,o⟩:=I.mod.blt;exact Calls.Name_function_global I.ok.kind J (Calls.loadGlobal_builtin (by rw[I.ok.glob];exact I.mod.glob.keeps I.bk) U (by rw[I.ok.blt];exact l.keeps I.bk) ((o x j).trans g) h) hd
def mz(J:Gl X x)(U:X.mg x=some u)(r:zg v u)(hd:Es x:=by decide):PE X (.Name x pos) (tC v):=
 λ_ _ _ H _ I h=>tT I J U {(v),H,I,r,h} hd
def Pk(J:Gl X x)(U:X.mg x=none)(g:bootBuiltins x=some u)(r:zg v u)(j:x ≠ "__name__" := by decide)(hd:Es x:=by decide):PE X (.Name x pos) (tC v):=
 λ_ _ _ H _ I h=>bH I J U g {(v),H,I,r,h} j hd
variable {a b:Expr}{ta tb:TE}
def PC(X:Cx)(op:CmpOp)(a b:Expr)(t:TE):Prop:=
 ∀(pins:List<|Addr×Obj) (s:aal) (σ:St) (H:Hp) (Q:VK),z0 X pins σ H s->t σ H Q->
  _S X (eval a X.env) (λv I=>_S X (eval b X.env) (λu J=>_S X (compareOp op v u) (EP X pins σ Q) X.xe J) X.xe I) X.xe s
def wC(b:Expr){op:CmpOp}(h:op≠.In)(h2:op≠.NotIn):behindInMarks op b=false:=by
 have I:(op==CmpOp.In)=false:=by cases op<;>first|rfl|exact absurd rfl h
 have J:(op==CmpOp.NotIn)=false:=by cases op<;>first|rfl|exact absurd rfl h2
 cases b<;>simp[behindInMarks,I,J]
def Iu(ta:TE):TE:=λσ H Q=>ta σ H λx H1=>Q (.bl<|decide<|x=.KF) H1
def Iv(ta:TE):TE:=λσ H Q=>ta σ H λx H1=>Q (.bl<|!decide (x=.KF)) H1
def zg.none_iff{x:V}{v:aak}(r:zg x v):(v==Value.none)=decide (x=.KF):=by
 cases x with
 |KF=>cases r;rfl
 |bl _=>cases r;rfl
 |int _=>obtain⟨t,rfl⟩:=r;rfl
 |str _=>obtain⟨t,rfl⟩:=r;rfl
 |byt _=>obtain⟨t,rfl⟩:=r;rfl
 |flt _=>obtain⟨t,rfl⟩:=r;rfl
 |ref _=>cases r;rfl
 |ty _=>cases r;rfl
def Iw{j fm}(U:PE X a ta):PC X .Is a (.Constant .none j fm) (Iu ta):=by intro J s g H Q I h;refine wy (U J s g H _ I h) λv t x l o p r=>?_;exact Constant_none (is_none_gen {.bl _,l,o,by rw[p.none_iff];rfl,r})
def Ix{j fm}(U:PE X a ta):PC X .IsNot a (.Constant .none j fm) (Iv ta):=by intro J s g H Q I h;refine wy (U J s g H _ I h) λv t x l o p r=>?_;exact Constant_none (isnot_none_gen {.bl _,l,o,by rw[p.none_iff];rfl,r})
def tB(t:TE):TT:=λσ H Q=>t σ H λx H1=>∃c,x=.bl c/\Q c H1
def Iy{op:CmpOp}{t:TE}(h:PC X op a b t)(h1:behindInMarks op b=false:=by first|exact wC _ (by decide) (by decide)|rfl):PE X (.Compare a [op] [b] pos) t:=λJ s U H Q I hw=>wpAny_Compare1 (h J s U H Q I hw) h1
def Iz{op:CmpOp}{t:TE}(h:PC X op a b t)(h1:behindInMarks op b=false:=by first|exact wC _ (by decide) (by decide)|rfl):PT X (.Compare a [op] [b] pos) (tB t):=by intro J s U H Q I hw;refine wpAny_isTrue_Compare1 (w9 (h J s U H _ I hw) λv r h1=>w9 h1 λu C g=>w9 g λc T ⟨x,j,l,o,p⟩=>?_) h1;obtain⟨d,rfl,q⟩:=p;cases o;exact wpAny_truthy_bool {(j),l,q}
def Pl{t:TE}(h:PE X e t)(U:∀whole,isTrue e X.env whole=(do let v <-whole;standAt e.pos;holding [v] (truthy v)):=by intro _;rfl):PT X e (tB t):=by intro J s g H Q I hw;refine isTrue_plain (wy (h J s g H _ I hw) λv r x j l o p=>?_)<|U _;obtain⟨d,rfl,q⟩:=p;cases o;exact wpAny_truthy_bool {(j),l,q}
variable {tA wh:TT}{rest:aad}
def Pm(t u:TT):TT:=λσ H Q=>t σ H λc H1=>if c=true then u σ H1 Q else Q false H1
def Pn(t u:TT):TT:=λσ H Q=>t σ H λc H1=>if c=true then Q true H1 else u σ H1 Q
def Po(t:TT):TT:=λσ H Q=>t σ H λc H1=>Q (!c) H1
def Pp(U:PT X a tA):PW X (.BoolOp .And [a] pos) tA:=by intro j J s g H Q I h;refine isTrue_and<|w9 (U J s g H Q I h) λc l e=>?_;cases c with|true=>exact isTrue_and_nil e|false=>exact e
def Pq(U:PT X a tA):PW X (.BoolOp .Or [a] pos) tA:=by intro j J s g H Q I h;refine isTrue_or<|w9 (U J s g H Q I h) λc l e=>?_;cases c with|false=>exact isTrue_or_nil e|true=>exact e
def Pr(o:PT X a tA)(p:PW X (.BoolOp .And (b::rest) pos) wh):PW X (.BoolOp .And (a::b::rest) pos) (Pm tA wh):=by intro r J s U H Q I h;refine isTrue_and<|w9 (o J s U H _ I h) λc t ⟨g,j,l⟩=>?_;cases c with|true=>exact p r J t U g Q j l|false=>exact{(g),j,l}
def Ps(o:PT X a tA)(p:PW X (.BoolOp .Or (b::rest) pos) wh):PW X (.BoolOp .Or (a::b::rest) pos) (Pn tA wh):=by intro r J s U H Q I h;refine isTrue_or<|w9 (o J s U H _ I h) λc t ⟨g,j,l⟩=>?_;cases c with|true=>exact{(g),j,l}|false=>exact p r J t U g Q j l
def Pu(U:PT X a tA):PT X (.UnaryOp .Not a pos) (Po tA):=by intro J s g H Q I h;exact isTrue_not<|U J s g H (λc j=>Q (!c) j) I h
def Pw(ta tb:TE):TE:=λσ H Q=>ta σ H λx H1=>∃c,x=.bl c/\if c=true then tb σ H1 Q else Q (.bl false) H1
def Px(ta tb:TE):TE:=λσ H Q=>ta σ H λx H1=>∃c,x=.bl c/\if c=true then Q (.bl true) H1 else tb σ H1 Q
def Py(ta:TE):TE:=λσ H Q=>ta σ H λx H1=>∃c,x=.bl c/\Q (.bl<|!c) H1
def Pz{op}{t:TE}(h:PE X a t):PE X (.BoolOp op [a] pos) t:=λJ s U H Q I hw=>BoolOp_one<|h J s U H Q I hw
def PB(o:PE X a ta)(p:PE X (.BoolOp .And (b::rest) pos) tb):PE X (.BoolOp .And (a::b::rest) pos) (Pw ta tb):=by
 intro J s g H Q I h;refine BoolOp_and<|wy (o J s g H _ I h) λv r x j l t U=>?_;obtain⟨c,rfl,U⟩:=U;cases t;refine wpAny_truthy_bool ?_;cases c with
 |true=>exact p J r g j Q l U
 |false=>exact{.bl false,j,l,rfl,U}
def PD(o:PE X a ta)(p:PE X (.BoolOp .Or (b::rest) pos) tb):PE X (.BoolOp .Or (a::b::rest) pos) (Px ta tb):=by
 intro J s g H Q I h;refine BoolOp_or<|wy (o J s g H _ I h) λv r x j l t U=>?_;obtain⟨c,rfl,U⟩:=U;cases t;refine wpAny_truthy_bool ?_;cases c with
 |false=>exact p J r g j Q l U
 |true=>exact{.bl true,j,l,rfl,U}
def PH(g:PE X a ta):PE X (.UnaryOp .Not a pos) (Py ta):=by intro J s j H Q I h;refine UnaryOp_<|wy (g J s j H _ I h) λv r x l o p U=>?_;obtain⟨c,rfl,U⟩:=U;cases p;exact not_of<|wpAny_truthy_bool {.bl<|!c,l,o,rfl,U}
def PK(t:TT)(ta tb:TE):TE:=λσ H Q=>t σ H λc H1=>if c=true then ta σ H1 Q else tb σ H1 Q
def PL(hc:PT X c tA)(p:PE X a ta)(r:PE X b tb):PE X (.IfExp c a b pos) (PK tA ta tb):=by intro J s U H Q I h;refine wpAny_IfExp<|w9 (hc J s U H _ I h) λd g ⟨j,l,o⟩=>?_;cases d with|true=>exact p J g U j Q l o|false=>exact r J g U j Q l o
end
def aV(K:Af)(H:Hp)(a:Addr)(xs:GT):Prop:=
 Rd H a (.lst xs)\/
  ∃(o:Obj) (eA:aaa) (n:Nat),K.lookup a=some o/\o.cls=.type "list" /\ o.dict=none/\o.data=.seq eA n/\eA.size<=sizeLine/\ze xs eA.toList
def db(K:Af)(H:Hp)(a:Addr)(xs:GT):Prop:=
 Rd H a (.tup xs)\/
  ∃(o:Obj) (eA:aaa) (n:Nat),K.lookup a=some o/\o.cls=.type "tuple" /\ o.data=.seq eA n/\eA.size<=sizeLine/\ze xs eA.toList
def PM:aak->aar
 |.none=>some .KF
 |.bool b=>some<|.bl b
 |.int i _=>some<|.int i
 |.str x _=>some<|.str x
 |.bytes b _=>some<|.byt b
 |.float b _=>some<|.flt b
 |.ref a=>some<|.ref a
 |.type n=>some<|.ty n
 |_=>none
def zg.abs{x:V}(r:zg x u):PM u=some x:=by
 cases x with
 |KF=>cases r;rfl
 |bl _=>cases r;rfl
 |int _=>obtain⟨t,rfl⟩:=r;rfl
 |str _=>obtain⟨t,rfl⟩:=r;rfl
 |byt _=>obtain⟨t,rfl⟩:=r;rfl
 |flt _=>obtain⟨t,rfl⟩:=r;rfl
 |ref _=>cases r;rfl
 |ty _=>cases r;rfl
def zg.inj{x y:V}(r:zg x u)(q:zg y u):x=y:=A1<|r.abs.symm.trans q.abs
theorem ze.inj:∀{xs ys:GT} {us:Z_},ze xs us->ze ys us->xs=ys:=by
 intro xs ys us h k
 induction h generalizing ys with
 |nil=>cases k;rfl
 |cons r t I=>
  cases k with|cons J U=>rw[r.inj J,I U]
section
variable {a:Addr}{ys:GT}
def aV.of{K:Af}(h:H a=some (.lst xs)):aV K H a xs:=.inl<|.inl h
abbrev Eo:=@aV.of
def db.of{K:Af}(h:H a=some (.tup xs)):db K H a xs:=.inl<|.inl h
def z0.list(I:z0 X pins σ H s)(h:aV X.K H a xs):∃eA:Z_,ze xs eA/\PlainL s.heap a eA.toArray/\xs.length<=sizeLine:=by
 rcases h with h|⟨o,eA,n,J,U,hd,g,j,r⟩
 .obtain⟨z,eA,n,r,e⟩:=h.ok I.KB;exact{eA,r,{_,n,e,rfl,rfl,rfl},z}
 .refine{eA.toList,r,{o,n,I._w a o J,U,hd,by simpa using g},?_};have e:=r.length;simp only[A7] at e;lia
def z0.tuple(I:z0 X pins σ H s)(h:db X.K H a xs):∃eA:Z_,ze xs eA/\IsTup s.heap a eA.toArray/\xs.length<=sizeLine:=by
 rcases h with h|⟨o,eA,n,J,U,g,j,r⟩
 .obtain⟨z,eA,r,p⟩:=h.ok I.KB;exact{(eA),r,p,z}
 .refine{eA.toList,r,{o,I._w a o J,U,n,by simpa using g},?_};have e:=r.length;simp only[A7] at e;lia
def z0._e(I:z0 X pins σ H s)(h:aV X.K H a xs)(h':aV X.K H a ys):xs=ys:=by
 obtain⟨U,r,⟨o,n,e,_,_,d⟩,_⟩:=I.list h;obtain⟨J,l,⟨p,t,g,_,_,j⟩,_⟩:=I.list h';rw[e] at g;cases g;rw[d] at j;injection j with d1 _
 have:U=J:=by simpa using BA Array.toList d1
 subst this;exact r.inj l
def z0._l(I:z0 X pins σ H s)(h:db X.K H a xs)(h':db X.K H a ys):xs=ys:=by
 obtain⟨U,r,⟨o,e,_,n,d⟩,_⟩:=I.tuple h;obtain⟨J,l,⟨p,g,_,t,j⟩,_⟩:=I.tuple h';rw[e] at g;cases g;rw[d] at j;injection j with d1 _
 have:U=J:=by simpa using BA Array.toList d1
 subst this;exact r.inj l
end
abbrev Cx._O(X:Cx)(E:Z5):Cx:={X with xe:=E}
abbrev Cx.nox(X:Cx):Cx:=X._O λ_ _=>False
theorem Cx.Ok._O(ok:X.Ok)(E:Z5):(X._O E).Ok:=
 ⟨ok.mod,ok.kind,ok.glob,ok.blt,ok.above,ok.inj,ok.has,ok.cab,ok.hd,ok.frames,ok.stk,ok.exf,ok.bs,ok.bsz,ok.noex,ok.exfs,ok._z,ok.frf⟩
theorem Cx.Ok._g(ok:(X._O E).Ok):X.Ok:=
 ⟨ok.mod,ok.kind,ok.glob,ok.blt,ok.above,ok.inj,ok.has,ok.cab,ok.hd,ok.frames,ok.stk,ok.exf,ok.bs,ok.bsz,ok.noex,ok.exfs,ok._z,ok.frf⟩
theorem z0._O(I:z0 X pins σ H s)(E:Z5):z0 (X._O E) pins σ H s:={I.ok._O E,I.os,I.bare,I.base,I.loc,I.cell,I.free,I.SB,I.pin,I.KB,I.len,I.tk}
theorem z0._g(I:z0 (X._O E) pins σ H s):z0 X pins σ H s:={(I.ok._g),I.os,I.bare,I.base,I.loc,I.cell,I.free,I.SB,I.pin,I.KB,I.len,I.tk}
theorem SP._g{D:xU}{f:Flow}(h:SP (X._O E) pins D f s'):SP X pins D f s':=by
 cases f with
 |next=>obtain⟨J,U,I,q⟩:=h;exact{(J),U,I._g,q}
 |brk=>obtain⟨J,U,I,q⟩:=h;exact{(J),U,I._g,q}
 |cont=>obtain⟨J,U,I,q⟩:=h;exact{(J),U,I._g,q}
 |ret u=>obtain⟨v,J,U,I,r,q⟩:=h;exact{(v),J,U,I._g,r,q}
def mR.nox{st:aae}{t:TS}(h:mR X.nox st t):mR X st t:=λJ s U H D I hw=>
 A8 (h J s U H D (I._O _) hw) (λ_ _ q=>q._g) λ_ _ z=>False.elim z
section
variable {rest:aae}{t u:TS}{te:TE}
def PN:TS:=λD σ H=>D.nx σ H
def PP(t u:TS):TS:=λD σ H=>t {D with nx:=u D} σ H
def amp:mR X [] PN:=λ_ _ J H _ I h=>wpAny_execs_nil {(J),H,I,h}
def uz(h1:PS X st t)(h2:mR X rest u):mR X (st::rest) (PP t u):=by
 intro J s g H D I h;refine wpAny_execs_cons<|w9 (h1 J s g H {D with nx:=u D} I h) λf j q=>?_;cases f with
 |next=>
  obtain⟨U,l,o,q⟩:=q;exact h2 J j U l D o q
 |ret v=>exact q
 |brk=>exact q
 |cont=>exact q
def PQ(h1:PS X st t):mR X [st] t:=by intro J s U H D I h;refine wpAny_execs_cons<|w9 (h1 J s U H D I h) λf g q=>?_;cases f with|next=>exact wpAny_execs_nil q|ret v=>exact q|brk=>exact q|cont=>exact q
def PR:TS:=λD σ H=>D.ct σ H
def u9:PS X (.Continue pos) PR:=λ_ _ J H _ I h=>wpAny_Continue {(J),H,I,h}
def z0.quiet(I:z0 X pins σ H s):interactive X.env=false:=by simp[interactive,I.ok.kind]
def PU(te:TE):TS:=λD σ H=>te σ H λ_ H1=>D.nx σ H1
def PV(g:PE X e te)(hs:swapsWith e none pos.line X.env=pure false:=by rfl):PS X (.Expr e pos) (PU te):=by intro J s U H D I h;exact wpAny_Expr_any (wy (g J s U H _ I h) λv p x j l r o=>{(U),j,l,o}) I.quiet hs
def PX(te:TE):TS:=λD σ H=>te σ H D.rt
def PY(g:PE X e te):PS X (.Return (some e) pos) (PX te):=by intro J s U H D I h;exact wpAny_Return_some<|wy (g J s U H _ I h) λv r x j l o p=>{(x),U,j,l,o,p}
def PZ:TS:=λD _ H=>D.rt .KF H
def P0:PS X (.Return none pos) PZ:=λ_ _ J H _ I h=>wpAny_Return_none {.KF,J,H,I,rfl,h}
def P1(c:TT)(t u:TS):TS:=λD σ H=>c σ H λb H1=>if b=true then t D σ H1 else u D σ H1
def aug{a b:aae}{tc:TT}(hc:PT X c tc)(p:mR X a t)(r:mR X b u):PS X (.If c a b pos) (P1 tc t u):=by intro J s U H D I h;refine wpAny_If<|w9 (hc J s U H _ I h) λd g ⟨j,l,o⟩=>?_;cases d with|true=>exact p J g U j D l o|false=>exact r J g U j D l o
end
abbrev TG:=V->St->Hp->(St->Hp->Prop)->Prop
abbrev k_:=GT->St->Hp->(St->Hp->Prop)->Prop
def PG(X:Cx)(target:Expr)(t:TG):Prop:=
 ∀(pins:List<|Addr×Obj) (s:aal) (σ:St) (H:Hp) (v:V) (u:aak) (Q:St->Hp->Prop),z0 X pins σ H s->zg v u->t v σ H Q->
  _S X (assign target X.env u) (λ_ s'=>∃gS H',z0 X pins gS H' s'/\Q gS H') X.xe s
def PGs(X:Cx)(ts:aad)(t:k_):Prop:=
 ∀(pins:List<|Addr×Obj) (s:aal) (σ:St) (H:Hp) (vs:GT) (us:Z_) (Q:St->Hp->Prop),z0 X pins σ H s->ze vs us->t vs σ H Q->
  _S X (assignInOrder ((assignEach ts X.env).map (·.2)) us) (λ_ s'=>∃gS H',z0 X pins gS H' s'/\Q gS H') X.xe s
abbrev GJ:=V->V->V->Hp->(Hp->Prop)->Prop
def IA(X:Cx)(t:GJ):Prop:=
 ∀(pins:List<|Addr×Obj) (s:aal) (σ:St) (H:Hp) (o i v:V) (I J u:aak) (Q:Hp->Prop),z0 X pins σ H s->zg o I->zg i J->zg v u->t o i v H Q->
  _S X (setItem I J u) (λ_ s'=>∃H',z0 X pins σ H' s'/\Q H') X.xe s
abbrev FZ:=V->V->Hp->VK->Prop
def E5(X:Cx)(op:Operator)(t:FZ):Prop:=
 ∀(pins:List<|Addr×Obj) (s:aal) (σ:St) (H:Hp) (x y:V) (v u:aak) (Q:VK),z0 X pins σ H s->zg x v->zg y u->t x y H Q->
  _S X (inplaceOp op v u) (EP X pins σ Q) X.xe s
def dr(i:Nat):TG:=λv σ H Q=>Q (σ.set i<|some v) H
def m5(hN:X.N.Nodup)(hi:X.N[i]?=some x)(U:Loc X.env.scope x)(g:X.fn x=true\/X.env.scope.names.lookup x=some .local:=by first|exact .inl rfl|exact .inr rfl|assumption):PG X (.Name x pos) (dr i):=by intro J s l H v u Q I r h;exact wpAny_assign_Name<|eX I hN hi U r (λo j=>{_,H,j,h}) g
def GK:k_:=λvs σ H Q=>vs=[]/\Q σ H
def wM(t:TG)(u:k_):k_:=λvs σ H Q=>∃v r,vs=v::r/\t v σ H λgS H'=>u r gS H' Q
def IB:PGs X [] GK:=by rintro J s U H g j Q I r⟨e,h⟩;subst e;cases r;exact assignInOrder_nil {(U),H,I,h}
def oq{t:TG}{u:k_}(h1:PG X e t)(h2:PGs X es u)
 (hs:(assignEach (e::es) X.env).map (·.2)=assign e X.env::(assignEach es X.env).map (·.2):=by rfl):PGs X (e::es) (wM t u):=by
 rintro J s g H T us Q I r⟨v,vr,j,h⟩;subst j;cases r with
 |cons r rr=>
  rw[hs];refine assignInOrder_cons<|w9 (h1 J s g H _ _ _ I r h) λ_ l ⟨U,o,p,C⟩=>?_;exact h2 J l U o _ _ Q p rr C
def GL(K:Af)(n:Nat)(t:k_):TG:=λv σ H Q=>∃a xs,v=.ref a/\db K H a xs/\xs.length=n/\t xs σ H Q
def IC{k:Nat}{t:k_}{n:Nat}(hc:X.calm=true)(h:PGs X es t)
 (l:(assignEach es X.env).length=n:=by rfl) (U:(assignEach es X.env).findIdx? (·.1)=none:=by rfl):PG X (.Tuple es k pos) (GL X.K n t):=by
 rintro J s g H v u Q I r⟨a,p,C,T,hl,hw⟩;subst C;cases r;obtain⟨a0,j,ht,hz⟩:=I.tuple T;refine assign_Tuple_tuple (I.ok.hd hc) ht (by simp[l,<-hl,j.length]) U λh' hx=>?_;have I1:z0 X J g H {s with heap:=h'}:=I.kept (t':=s.toks) λb o e=>hx b o (A5<|xT e) e;exact h J _ g H p _ Q I1 (by simpa using j) hw
def P2(to ti:TE)(t:GJ):TG:=λv σ H Q=>to σ H λo H1=>ti σ H1 λi H2=>t o i v H2 λI=>Q σ I
def P4{i:Expr}{to ti:TE}{t:GJ}(l:PE X o to)(hi:PE X i ti)(hs:IA X t)
 (p:∀v,assign (.Subscript o i pos) X.env v=(do
  let U <-holding [v] (eval o X.env)
  let g <-holding [v,U] (eval i X.env)
  standAt pos
  holding [v,U,g] (setItem U g v)
  release [v,U,g] []):=by intro _;rfl):PG X (.Subscript o i pos) (P2 to ti t):=by
 intro J s j H v u Q I r h;rw[p];refine Aa<|Bm<|wy (l J s j H _ I h) λU C x T I1 r1 q1=>?_;refine Aa<|Bm<|wy (hi J C j T _ I1 q1) λg s2 y H2 I2 r2 q2=>?_;refine Aa<|wpAny_standAt<|Aa<|Bm<|w9 (hs J s2 j H2 x y v U g u _ I2 r1 r2 r q2) λ_ s3 ⟨H3,I3,q3⟩=>?_;exact wpAny_release {(j),H3,I3,q3}
def GN(te:TE)(g:TG):TS:=λD σ H=>te σ H λx H1=>g x σ H1 D.nx
def ID{te:TE}{g:TG}(j:PE X e te)(l:PG X tg g)(hs:swapsWithSole [tg] e pos.line X.env=pure false:=by rfl)(hw:swappedStores [tg] e X.env=pure none:=by rfl)
 (h1:(assignEach [tg] X.env).map (·.2)=[assign tg X.env]:=by rfl):PS X (.Assign [tg] e pos) (GN te g):=by
 intro J s U H D I h;refine wpAny_Assign_stores (wy (j J s U H _ I h) λv o x p r t C=>?_) hs hw;rw[h1];exact w9 (l J o U p x v _ r t C) λ_ T q=>q
def P5{te:TE}(hN:X.N.Nodup)(hi:X.N[i]?=some x)(U:Loc X.env.scope x)(g:PE X e te)(hs:swapsWith e (some<|.Name x fm) pos.line X.env=pure false:=by rfl)(j:X.fn x=true\/X.env.scope.names.lookup x=some .local:=by first|exact .inl rfl|exact .inr rfl|assumption):
 PS X (.Assign [.Name x fm] e pos) (GN te<|dr i):=by
 intro J s l H D I h;refine wpAny_Assign_Name (wy (g J s l H _ I h) λv T y o p r t=>?_) hs;exact eX p hN hi U r (λs2 C=>{_,o,C,t}) j
def P6(i j:Nat)(ta:TA):TS:=λD σ H=>ta σ H λvs H1=>∃v w,vs=[v,w]/\D.nx ((σ.set i<|some v).set j<|some w) H1
def P7{y:Str}{a b:Expr}{ta:TA}{px py pt:Pos}{kt t U}(hc:X.calm=true)(hN:X.N.Nodup)(hi:X.N[i]?=some x)(hj:X.N[j]?=some y)(C:i≠j)
 (hx:X.env.scope.names.lookup x=some .local) (hy:X.env.scope.names.lookup y=some .local) (ha:PA X [a,b] ta)
 (hw:swappedStores [.Tuple [.Name x px,.Name y py] kt pt] (.Tuple [a,b] t U) X.env=pure (some [x,y]))
 (hs:swapsWithSole [.Tuple [.Name x px,.Name y py] kt pt] (.Tuple [a,b] t U) pos.line X.env=pure false:=by rfl):
 PS X (.Assign [.Tuple [.Name x px,.Name y py] kt pt] (.Tuple [a,b] t U) pos) (P6 i j ta):=by
 intro J s σ H D I h;rw[exec_Assign_arm];refine Aa<|wpAny_standAt ?_;rw[hs];refine Aa<|Am ?_;rw[Az (by decide)];refine Aa<|Tuple_<|y4 (ha _ J s σ H _ I h) λus g vs H1 I1 r1 T=>?_;obtain⟨v,w,e1,T⟩:=T;subst e1;obtain⟨l,r,rfl,rv,a0⟩:∃l r,us=[l,r]/\zg v l/\zg w r:=by
  cases r1 with
  |cons p q=>
   cases q with
   |cons p' q'=>
    cases q';exact{_,_,rfl,p,p'}
 refine Bt ?_ (by show 2<=sizeLine;decide);have I2:z0 X J σ H1 {g with heap:=g.heap.push {cls:=.type "tuple",data:=.seq [l,r].toArray}}:=I1.kept (t':=g.toks) λb o e=>wl _ e;rw[hw];refine Aa<|Am ?_;show _S X (do rule "assign.swapped-stores";let items <-unpackItems (.ref g.heap.objs.size) 2 none;assignInOrder [λv=>bindName X.env y v,λv=>bindName X.env x v] items.reverse;pure Flow.next) _ _ _;refine Aa<|BB<|Aa<|unpackItems_tuple (items:=#[l,r]) (I.ok.hd hc) (IsTup.new g.heap _) λh' a1=>?_;have I3:=I2.kept (h':=h') (t':=g.toks) λb o e=>a1 b o (A5<|xT e) e;show wpAny _ _ (assignInOrder [λv=>bindName X.env y v,λv=>bindName X.env x v] [r,l] >>= λ_=>pure Flow.next) _ _ _;refine Aa<|assignInOrder_cons<|wpAny_bindName<|eX I3 hN hj (.inl hy) a0 (λs2 I4=>?_)<|.inr hy;refine assignInOrder_cons<|wpAny_bindName<|eX I4 hN hi (.inl hx) rv (λs3 I5=>assignInOrder_nil<|Am ?_)<|.inr hx;rw[List.set_comm _ _<|AL C] at I5;exact{_,H1,I5,T}
def P8(i:Nat)(te:TE)(ti:FZ):TS:=λD σ H=>∃x,σ[i]?=some (some x)/\te σ H λy H1=>ti x y H1 λz H2=>D.nx (σ.set i<|some z) H2
def P9{te:TE}{op:Operator}{ti:FZ}(hN:X.N.Nodup)(hi:X.N[i]?=some x)(p:Loc X.env.scope x)(C:PE X e te)(T:E5 X op ti)(hf:X.fn x=true\/X.env.scope.names.lookup x=some .local:=by first|exact .inl rfl|exact .inr rfl|assumption):
 PS X (.AugAssign (.Name x fm) op e pos) (P8 i te ti):=by
 rintro J s t H D I⟨v,e1,h⟩;obtain⟨m,hn,hl⟩:=I.loc;have vis:D_ X.env.scope x:=by rcases p with k|k;exact .inl k;exact .inr<|.inl k
 obtain⟨u,r,l⟩:=hl i x v hi e1 vis;refine wpAny_AugAssign_Name ?_;have go:_S X (eval e X.env) (λw j=>_S X (inplaceOp op u w) (λr o=>_S X (storeName X.env x r) (λ_=>SP X J D .next) X.xe o) X.xe j) X.xe s:=by refine wy (C J s t H _ I h) λw s1 y H1 I1 r1 q1=>?_;refine wy (T J s1 t H1 v y u w _ I1 r r1 q1) λz s2 zv H2 I2 r2 q2=>?_;exact eX I2 hN hi p r2 (λs3 I3=>{_,H2,I3,q2}) hf
 rcases l with⟨U,hm⟩|⟨U,c,hc,g⟩
 .exact wpAny_loadName_local I.ok.kind U hn hm go
 .rcases U with U|U
  .exact wpAny_loadName_cell I.ok.kind U hc g go
  .rcases p with k|k
   .have:X.env.scope.names.lookup x=some .free:=U;rw[k] at this;cases this
   .have:X.env.scope.names.lookup x=some .free:=U;rw[k] at this;cases this
def IE(f:Int->Int->Int):FZ:=λx y H Q=>∃i j,x=.int i/\y=.int j/\Q (.int<|f i j) H
def P_:E5 X .Add (IE λi j=>i+j):=by rintro J s p H x y v u Q I U g⟨i,j,l,o,q⟩;subst l;subst o;obtain⟨t,rfl⟩:=U;obtain⟨r,rfl⟩:=g;exact iadd_int {.int _,H,I.tok _,{_,rfl},q}
def P'(c:TT)(tb:TS):TS:=λD σ H=>∃W:Nat->St->Hp->Prop,(∃m,W m σ H)/\∀m σ H,W m σ H->
 c σ H λb H1=>if b=true then ∃N:St->Hp->Prop,(∀gS H',N gS H'->∃I,I<m/\W I gS H')/\tb {D with nx:=N,ct:=N,bk:=D.nx} σ H1 else D.nx σ H1
def Qa{tc:TT}{tb:TS}(hp:PassesOwn (model X.prog X.w) X.A X.env X.xe)(hc:PT X c tc)(hb:mR X body tb):PS X (.While c body [] pos) (P' tc tb):=by
 rintro J s σ H D I⟨W,⟨m0,w0⟩,turn⟩;refine wpAny_While<|codeAny_whileLoop (λn s'=>∃j H',z0 X J j H' s'/\W n j H') ?_ m0 {(σ),H,I,w0};rintro n s1 ⟨g,H1,I1,w1⟩;refine wpAny_passesOwn hp<|w9 (hc J s1 g H1 _ I1<|turn n g H1 w1) λb s2 ⟨H2,I2,o⟩=>?_;cases b with
 |true=>
  obtain⟨N,hN,o⟩:=o;rw[AC rfl];refine wpAny_passesOwn hp<|w9 (hb J s2 g H2 _ I2 o) λf s3 p=>?_;cases f with
  |next=>
   obtain⟨U,l,r,t⟩:=p;obtain⟨C,T,w3⟩:=hN U l t;exact{(C),T,U,l,r,w3}
  |cont=>
   obtain⟨U,l,r,t⟩:=p;obtain⟨C,T,w3⟩:=hN U l t;exact{(C),T,U,l,r,w3}
  |brk=>exact p
  |ret v=>exact p
 |false=>
  rw[Az AN];exact wpAny_execs_nil {(g),H2,I2,o}
structure It where
 go:Nat->Hp->Prop
 yld:Nat->Hp->V->Hp->Prop
 stop:Nat->Hp->Prop
def qL(X:Cx)(pins:List<|Addr×Obj)(H:Hp)(b:Addr):Prop:=
 H b=none/\b≠X.env.locals/\b∉X.fs/\(b∈X.ex\/X.s₀.heap.objs.size<=b)/\(∀x c,X.env.cells.lookup x=some c->c≠b)/\∀p∈X.pn++pins,p.1≠b
def z0.fpOk{b:Addr}(I:z0 X pins σ H s)(J:s.heap.objs.size<=b)(U:H' b=none):qL X pins H' b:=by
 refine{U,CM<|AR I.lt J,I.nofs J,.inr<|AF I.sz J,λx c e z=>?_,λp g z=>?_}
 .obtain⟨v,q⟩:=I.cell x c e;exact absurd (AR q.lt (by rw[z];exact J))<|CT _
 .exact absurd (AR (xT (I.pin p g).1) (by rw[z];exact J))<|CT _
structure xX(P:aam)(w:aan)(K:Af)(tg:Expr)(J:It)(fp:List Addr)(it:Addr)(tn:Nat->aao->Prop):Prop where
 mem:it∈fp
 obj:∀i h,tn i h->∀b∈fp,∃o,h.get? b=some o/\∀v,o.data≠.cell v
 keep:∀i h h',tn i h->(∀b∈fp,∀o,h.get? b=some o->h'.get? b=some o)->tn i h'
 item:∀(X:Cx),X.prog=P->X.w=w->X.K=K->X.calm=true->∀(i:Nat) (pins:List<|Addr×Obj) (s:aal) (σ:St) (H:Hp) (E:Z5),z0 X pins σ H s->(∀b∈fp,qL X pins H b)->tn i s.heap->J.go i H->
  wpAny (model P w) X.A (pyNext<|.ref it) (λr s1=>∃u,r=some u/\
   wpAny (model P w) X.A (letOwnedTupleGo tg (.ref it) u) (λ_ s2=>∃x H',z0 X pins σ H' s2/\zg x u/\J.yld i H x H'/\tn (i+1) s2.heap/\∀b∈fp,H' b=none) E s1) E s
 done:∀(X:Cx),X.prog=P->X.w=w->X.K=K->X.calm=true->∀(i:Nat) (pins:List<|Addr×Obj) (s:aal) (σ:St) (H:Hp) (E:Z5),z0 X pins σ H s->(∀b∈fp,qL X pins H b)->tn i s.heap->J.stop i H->
  wpAny (model P w) X.A (pyNext<|.ref it) (λr s1=>r=none/\z0 X pins σ H s1) E s
 self:∀(A:Around) (i:Nat) (s:aal) (Q:Z5) (E:Z5),tn i s.heap->Q (.ref it) s->wpAny (model P w) A (pyIter<|.ref it) Q E s
abbrev TI:=St->Hp->(It->Hp->Prop)->Prop
def GO(X:Cx)(pins:List<|Addr×Obj)(σ:St)(tg:Expr)(R:It->Hp->Prop)(I:aak)(U:aal):Prop:=
 ∃(it:Addr) (fp:List Addr) (g:Nat->aao->Prop) (J:It) (H':Hp),I=.ref it/\z0 X pins σ H' U/\xX X.prog X.w X.K tg J fp it g/\g 0 U.heap/\(∀b∈fp,qL X pins H' b)/\R J H'
def PI(X:Cx)(tg iter:Expr)(wi:TI):Prop:=
 ∀(pins:List<|Addr×Obj) (s:aal) (σ:St) (H:Hp) (R:It->Hp->Prop),z0 X pins σ H s->wi σ H R->
  _S X (eval iter X.env) (λv I=>_S X (pyIter v) (GO X pins σ tg R) X.xe I) X.xe s
def F1{o:Obj}{n:aap}{vs:aaa}{Q:Z6}(J:s.heap.get? it=some o)(hc:o.cls=.type n)(hd:o.data=.fields vs)
 (U:["enumerate","zip","dict_itemiterator","dict_reverseitemiterator","odict_iterator","itertools.zip_longest","itertools.pairwise"].contains n=false) (I:Q () s):wpAny M A (letOwnedTupleGo tg (.ref it) u) Q E s:=by
 unfold letOwnedTupleGo;cases tg<;>first
  |exact Am I
  |(cases u<;>first
   |exact Am I
   |(refine Aa (wpAny_load J ?_)
     rw[hc,hd];show wpAny M A (if (["enumerate","zip","dict_itemiterator","dict_reverseitemiterator","odict_iterator","itertools.zip_longest","itertools.pairwise"].contains n&&vs[0]?==some (rawInt _))=true then _ else _) Q E s;rw[Az (by intro h;rw[U,Bool.false_and] at h;cases h)];exact Am I))
def GP(K:Af)(a:Addr):It:=
 ⟨λi H=>∃xs x,aV K H a xs/\xs[i]?=some x,λi H x H'=>H'=H/\∀xs,aV K H a xs->xs[i]?=some x,λi H=>∃xs,aV K H a xs/\xs.length<=i⟩
def GQ(K:Af)(a:Addr):It:=
 ⟨λi H=>∃xs x,db K H a xs/\xs[i]?=some x,λi H x H'=>H'=H/\∀xs,db K H a xs->xs[i]?=some x,λi H=>∃xs,db K H a xs/\xs.length<=i⟩
def Ft(lo:Int)(n:Nat):It:={λi _=>i<n,λi H x H'=>H'=H/\x=.int (lo+i),λi _=>n<=i}
def Qb{P:aam}{w:aan}{K:Af}(a it:Addr):xX P w K tg (GP K a) [it] it (λi h=>h.IsListIter it a i) where
 mem:=by simp
 obj:=λi h st b U=>by
  have e:b=it:=by simpa using U
  subst e;obtain⟨o,e,c,d⟩:=st;exact{o,e,λv z=>by rw[d] at z;cases z}
 keep:=λi h j st k=>st.at λo e=>k it (by simp) o e
 item:=by intro X t hw C hc i J s σ H E I l st T;subst t hw C;obtain⟨xs,x,r,hx⟩:=T;obtain⟨a0,rv,p,hz⟩:=I.list r;obtain⟨u,hu,ru⟩:=rv.get hx;obtain⟨f0,f1,f2,f3,f4,f5⟩:=l it (by simp);refine wpAny_pyNext_list_item st p.isList (x:=u) (by simpa using hu) λj g sb=>?_;have I1:z0 X J σ H {s with heap:=j}:=I.turned (t':=s.toks) (λb o U e=>(sb.2 b U).trans e) f0 f1 f3 f4 f5;obtain⟨o,e,c,d⟩:=id g;exact{u,rfl,F1 (s:={s with heap:=j}) e c d (by decide) {x,H,I1,ru,{rfl,λys hy=>by rw[I._e hy r];exact hx},g,λb U=>(l b U).1}}
 done:=by intro X t hw C hc i J s σ H E I l st T;subst t hw C;obtain⟨xs,r,hx⟩:=T;obtain⟨a0,rv,p,hz⟩:=I.list r;obtain⟨f0,f1,f2,f3,f4,f5⟩:=l it (by simp);have hl:=rv.length;exact wpAny_pyNext_list_end (I.ok.hd hc) st p.isList (by simp;lia) λj eb=>{rfl,I.turned (t':=s.toks) (λb o U e=>eb b o U e) f0 f1 f3 f4 f5}
 self:=λ_ _ _ _ _ st h=>wpAny_pyIter_listiter st h
def yR{P:aam}{w:aan}{K:Af}(a it:Addr):xX P w K tg (GQ K a) [it] it (λi h=>h.IsTupleIter it a i) where
 mem:=by simp
 obj:=λi h st b U=>by
  have e:b=it:=by simpa using U
  subst e;obtain⟨o,e,c,d⟩:=st;exact{o,e,λv z=>by rw[d] at z;cases z}
 keep:=λi h l st k=>st.at λo e=>k it (by simp) o e
 item:=by intro X C hw T hc i J s σ H E I r st hg;subst C hw T;obtain⟨xs,x,t,hx⟩:=hg;obtain⟨g,rv,p,hz⟩:=I.tuple t;obtain⟨u,hu,ru⟩:=rv.get hx;obtain⟨f0,f1,f2,f3,f4,f5⟩:=r it (by simp);refine wpAny_pyNext_tuple_item st (show s.heap.IsTuple a g.toArray from p) (x:=u) (by simpa using hu) λl j sb=>?_;have I1:z0 X J σ H {s with heap:=l}:=I.turned (t':=s.toks) (λb o U e=>(sb.2 b U).trans e) f0 f1 f3 f4 f5;obtain⟨o,e,c,d⟩:=id j;exact{u,rfl,F1 (s:={s with heap:=l}) e c d (by decide) {x,H,I1,ru,{rfl,λys hy=>by rw[I._l hy t];exact hx},j,λb U=>(r b U).1}}
 done:=by intro X C hw T hc i J s σ H E I r st hg;subst C hw T;obtain⟨xs,t,hx⟩:=hg;obtain⟨g,rv,p,hz⟩:=I.tuple t;obtain⟨f0,f1,f2,f3,f4,f5⟩:=r it (by simp);have hl:=rv.length;exact wpAny_pyNext_tuple_end (I.ok.hd hc) st (show s.heap.IsTuple a g.toArray from p) (by simp;lia) λl eb=>{rfl,I.turned (t':=s.toks) (λb o U e=>eb b o U e) f0 f1 f3 f4 f5}
 self:=λ_ _ _ _ _ st h=>wpAny_pyIter_tupleiter st h
theorem yb{P:aam}{w:aan}{K:Af}(it:Addr)(lo:Int)(n:Nat):xX P w K tg (Ft lo n) [it] it (λi h=>IsRangeIter h it (lo+(i:Nat)*1) ((n:Int)-(i:Nat)) 1) where
 mem:=by simp
 obj:=λi h st b U=>by
  have e:b=it:=by simpa using U
  subst e;exact{_,st,λv z=>by have z':Data.fields _=Data.cell v:=z;cases z'}
 keep:=λi h j st k=>k it (by simp) _ st
 item:=by intro X p hw r C i J s σ H E I l st T;subst p hw r;obtain⟨f0,f1,f2,f3,f4,f5⟩:=l it (by simp);have W:=Walks.range (prog:=X.prog) (w:=X.w) (I.ok.hd C) it lo 1 n;refine j6 I.tk<|W.item i s _ _ T st λv j tk hv g kk ht=>?_;obtain⟨t,rfl⟩:=hv;have I1:z0 X J σ H {s with heap:=j,toks:=tk}:=I.turned (λb o U e=>kk b o (by simpa using U) e) f0 f1 f3 f4 f5;refine{_,rfl,F1 (s:={s with heap:=j,toks:=tk}) (n:="range_iterator") g rfl rfl (by decide) {.int<|lo+i,H,I1,{t,?_},{(rfl),rfl},g,λb U=>(l b U).1}};rw[Int.mul_one]
 done:=by intro X p hw r C i J s σ H E I l st T;subst p hw r;obtain⟨f0,f1,f2,f3,f4,f5⟩:=l it (by simp);exact wpAny_pyNext_range_end (I.ok.hd C) st (by have:n<=i:=T;lia) λj eb=>{rfl,I.turned (t':=s.toks) (λb o U e=>eb b o U e) f0 f1 f3 f4 f5}
 self:=λ_ _ _ _ _ st h=>wpAny_pyIter_rangeiter st h
variable {wi:TI}
def Qc(K:Af)(tl:TE):TI:=λσ H R=>tl σ H λx H1=>∃a,x=.ref a/\(∃xs,aV K H1 a xs)/\R (GP K a) H1
def Qd(K:Af)(tl:TE):TI:=λσ H R=>tl σ H λx H1=>∃a,x=.ref a/\(∃xs,db K H1 a xs)/\R (GQ K a) H1
def Qe{l:Expr}{tl:TE}(j:PE X l tl):PI X tg l (Qc X.K tl):=by
 intro J s r H R I h;refine wy (j J s r H _ I h) λv U x t g C T=>?_;obtain⟨a,e,⟨xs,hq⟩,q⟩:=T;subst e;cases C;obtain⟨a0,rv,p,hz⟩:=g.list hq;refine wpAny_pyIter_list p.isList ?_;refine{U.heap.objs.size,[U.heap.objs.size],_,_,t,rfl,g.kept (t':=U.toks) λb o e=>wl _ e,Qb a _,{_,ya _ rfl,rfl,rfl},λb hb=>?_,q};have e:b=U.heap.objs.size:=by simpa using hb
 subst e;exact g.fpOk (Aj _)<|g.KB.fresh<|Aj _
def Qf{l:Expr}{tl:TE}(r:PE X l tl):PI X tg l (Qd X.K tl):=by
 intro J s t H R I h;refine wy (r J s t H _ I h) λv U x C g T q1=>?_;obtain⟨a,e,⟨xs,hq⟩,q⟩:=q1;subst e;cases T;obtain⟨j,rv,p,hz⟩:=g.tuple hq;refine wpAny_pyIter_tuple (show U.heap.IsTuple a j.toArray from p) ?_;refine{U.heap.objs.size,[U.heap.objs.size],_,_,C,rfl,g.kept (t':=U.toks) λb o e=>wl _ e,yR a _,{_,ya _ rfl,rfl,rfl},λb hb=>?_,q};have e:b=U.heap.objs.size:=by simpa using hb
 subst e;exact g.fpOk (Aj _)<|g.KB.fresh<|Aj _
def Qg{R:It->Hp->Prop}{hi:Int}{t u v:Tok}{tk:Nat}(I:z0 X pins σ H s)(h1 : -(2 ^ 62)<=lo)(h2:lo<2 ^ 62)(U : -(2 ^ 62)<=hi)(g:hi<2 ^ 62)
 (q:R (Ft lo (hi-lo).toNat) H) (r:0<tk:=by walk_at "t"):_S X (pyIter<|.ref s.heap.objs.size) (GO X pins σ tg R) E {s with heap:=s.heap.push {cls:=.type "range",data:=.fields #[.int lo t,.int hi u,.int 1 v]},toks:=tk}:=by
 refine wpAny_pyIter_range (IsRange.new ..) (small_one h1 h2 U g) ?_;have J:z0 X pins σ H {s with heap:=s.heap.push {cls:=.type "range",data:=.fields #[.int lo t,.int hi u,.int 1 v]},toks:=tk}:=I.kept λb o e=>wl _ e;refine{(s.heap.push {cls:=.type "range",data:=.fields #[.int lo t,.int hi u,.int 1 v]}).objs.size,[(s.heap.push {cls:=.type "range",data:=.fields #[.int lo t,.int hi u,.int 1 v]}).objs.size],_,_,H,rfl,
  J.kept (t':=tk) λb o e=>wl _ e,yb _ lo (hi-lo).toNat,?_,λb j=>?_,q}
 .have l:lo+((0:Nat):Int)*1=lo:=by simp
  have p:(((hi-lo).toNat:Nat):Int)-((0:Nat):Int)=Builtin.Range.rangeSize lo hi 1:=by rw[rangeSize_one];split<;>lia
  show IsRangeIter _ _ (lo+((0:Nat):Int)*1) ((((hi-lo).toNat:Nat):Int)-((0:Nat):Int)) 1;rw[l,p];exact ya _ rfl
 .have e:b=(s.heap.push {cls:=.type "range",data:=.fields #[.int lo t,.int hi u,.int 1 v]}).objs.size:=by simpa using j
  subst e;exact J.fpOk (Aj _)<|J.KB.fresh<|Aj _
def Qh(ta:TA):TI:=λσ H R=>ta σ H λvs H1=>∃j:Int,vs=[.int j] /\ -(2 ^ 62)<=j/\j<2 ^ 62/\R (Ft 0 j.toNat) H1
def Qi{a:Expr}{ta:TA}(g:Gl X "range")(l:X.mg "range"=none)(o:PA X [a] ta)(hs:starEach [a] X.env=[(false,eval a X.env)]:=by rfl):PI X tg (.Call (.Name "range" p) [a] [] pos) (Qh ta):=by
 intro J s C H R I h;refine Call_<|bH I g l boot_range<|BO (y4 (o pos J s C H _ I h) λus s1 vs H1 T r1 U=>?_) hs rfl;obtain⟨j,e,U,q2,q⟩:=U;subst e;cases r1 with
 |cons r rr=>
  cases rr;obtain⟨t,rfl⟩:=r;exact call_range_1<|Qg T (by lia) (by lia) U q2 (by simpa using q)
def Qj(wi:TI)(g:TG)(tb:TS):TS:=λD σ H=>wi σ H λJ H1=>∃W:Nat->Nat->St->Hp->Prop,(∃m,W 0 m σ H1)/\∀i m σ H,W i m σ H->
 (J.stop i H/\D.nx σ H)\/(J.go i H/\∃N:St->Hp->Prop,(∀gS H',N gS H'->∃U,U<m/\W (i+1) U gS H')/\∀x H',J.yld i H x H'->g x σ H' λI H2=>tb {D with nx:=N,ct:=N,bk:=D.nx} I H2)
def oG(fp:List Addr)(h:aao):List (Addr×Obj):=fp.filterMap λb=>(h.get? b).map λo=>(b,o)
def dM{b:Addr}{o:Obj}(I:b∈fp)(e:h.get? b=some o):(b,o)∈oG fp h:=List.mem_filterMap.mpr {b,I,by rw[e];rfl}
def Qk{p:Addr×Obj}(I:p∈oG fp h):p.1∈fp/\h.get? p.1=some p.2:=by
 obtain⟨b,J,e⟩:=List.mem_filterMap.mp I;cases q:h.get? b with
 |none=>rw[q] at e;cases e
 |some o=>
  rw[q] at e;have U:(b,o)=p:=A1 e;subst U;exact{(J),q}
def z0.pinned(I:z0 X pins σ H s)(g:∀b∈fp,qL X pins H b)(j:∀b∈fp,∃o,s.heap.get? b=some o/\∀v,o.data≠.cell v):z0 X (pins++oG fp s.heap) σ H s:=
 I.pins_of λp l=>(Ao.mp l).elim (λz=>I.pin p<|Ai _ z) λz=>by obtain⟨J,e⟩:=Qk z;obtain⟨r,f1,f2,_⟩:=g p.1 J;obtain⟨o,U,d⟩:=j p.1 J;rw[e] at U;cases U;exact{(e),r,f1,f2,d}
def z0._h{pl:List<|Addr×Obj}(I:z0 X (pins++pl) σ H s):z0 X pins σ H s:=I.pins_of λp J=>I.pin p<|Ai _<|Ay _ J
def Ql{iter:Expr}{g:TG}{tb:TS}(hp:PassesOwn (model X.prog X.w) X.A X.env X.xe)(hc:X.calm=true)(hi:PI X tg iter wi)(hg:PG X tg g)(l:mR X body tb)
 (hs:∀x,foldedSetIterable iter X.env x=pure x:=by intro _;rfl):PS X (.For tg iter body [] pos) (Qj wi g tb):=by
 intro U s σ H D I h;refine wpAny_For (w9 (hi U s σ H _ I h) λv s1 h1=>w9 h1 λab s2 h2=>?_) hs;obtain⟨it,fp,tn,J,H2,e,I2,T,a2,f2,W,⟨m0,w0⟩,turn⟩:=h2;subst e;have p:∀{H':Hp},(∀b∈fp,H' b=none)->∀b∈fp,qL X U H' b:=λhn b l=>{hn b l,(f2 b l).2};refine codeAny_forLoop_any (λn s'=>∃i t H',z0 X U t H' s'/\tn i s'.heap/\(∀b∈fp,H' b=none)/\W i n t H') ?_ m0 {0,σ,H2,I2,a2,λb l=>(f2 b l).1,w0};rintro n s3 ⟨i,C,H3,I3,aa,a1,w3⟩;rcases turn i n C H3 w3 with⟨stop,qn⟩|⟨go,N,hN,step⟩
 .refine wpAny_passesOwn hp<|w9 (T.done X rfl rfl rfl hc i U s3 C H3 X.xe I3 (p a1) aa stop) λr s4 ⟨hr,I4⟩=>?_;subst hr;exact wpAny_execs_nil {(C),H3,I4,qn}
 .refine wpAny_passesOwn hp<|w9 (T.item X rfl rfl rfl hc i U s3 C H3 X.xe I3 (p a1) aa go) λr s4 ⟨u,hr,h4⟩=>?_;subst hr;refine wpAny_passesOwn hp<|w9 h4 λ_ s5 ⟨x,H5,I5,r5,y5,a0,a3⟩=>?_;have a4:=I5.pinned (p a3)<|T.obj _ _ a0;refine wpAny_passesOwn hp<|w9 (hg _ s5 C H5 x u _ a4 r5<|step x H5 y5) λ_ s6 ⟨a5,H6,I6,q6⟩=>?_;refine wpAny_passesOwn hp<|w9 (l _ s6 a5 H6 _ I6 q6) λf s7 q7=>?_;have again:∀{j:St} {H7:Hp},z0 X (U++oG fp s5.heap) j H7 s7->N j H7->∃m,m<n/\∃i t H',z0 X U t H' s7/\tn i s7.heap/\(∀b∈fp,H' b=none)/\W i m t H':=λ{j H7} I7 n7=>by obtain⟨m',hm,w7⟩:=hN j H7 n7;refine{m',hm,i+1,j,H7,I7._h,T.keep _ _ _ a0 λb l o e=>(I7.pin (b,o)<|Ai _<|Ai _<|dM l e).1,λb l=>?_,w7};obtain⟨o,e,d⟩:=T.obj _ _ a0 b l;exact(I7.pin (b,o)<|Ai _<|Ai _<|dM l e).2.1
  cases f with
  |next=>obtain⟨j,H7,I7,n7⟩:=q7;exact again I7 n7
  |cont=>obtain⟨j,H7,I7,n7⟩:=q7;exact again I7 n7
  |brk=>obtain⟨j,H7,I7,q7⟩:=q7;exact{(j),H7,I7._h,q7}
  |ret v=>obtain⟨x7,j,H7,I7,r7,q7⟩:=q7;exact{(x7),j,H7,I7._h,r7,q7}
abbrev R2:=V->V->Hp->VK->Prop
def vi(X:Cx)(f:aak->aak->Sem aak)(r:R2):Prop:=
 ∀(pins:List<|Addr×Obj) (s:aal) (σ:St) (H:Hp) (x y:V) (v u:aak) (Q:VK),z0 X pins σ H s->zg x v->zg y u->r x y H Q->
  _S X (f v u) (EP X pins σ Q) X.xe s
def UnR(X:Cx)(f:aak->Sem aak)(r:V->Hp->VK->Prop):Prop:=
 ∀(pins:List<|Addr×Obj) (s:aal) (σ:St) (H:Hp) (x:V) (v:aak) (Q:VK),z0 X pins σ H s->zg x v->r x H Q->
  _S X (f v) (EP X pins σ Q) X.xe s
def zy(X:Cx)(f:aak)(r:GT->Hp->VK->Prop):Prop:=
 ∀(pins:List<|Addr×Obj) (s:aal) (σ:St) (H:Hp) (xs:GT) (us:Z_) (Q:VK),z0 X pins σ H s->ze xs us->r xs H Q->
  _S X (call f us) (EP X pins σ Q) X.xe s
def Fu(r:R2)(ta tb:TE):TE:=λσ H Q=>ta σ H λx H1=>tb σ H1 λy H2=>r x y H2 Q
def Qm(r:V->Hp->VK->Prop)(ta:TE):TE:=λσ H Q=>ta σ H λx H1=>r x H1 Q
def rI(C:Int->Int->Prop)(g:Int->Int->V):R2:=λx y H Q=>∃i j,x=.int i/\y=.int j/\C i j/\Q (g i j) H
def z_(g:Int->Int->V):R2:=λx y H Q=>∃i j,x=.int i/\y=.int j/\Q (g i j) H
def rU(g:Int->V):V->Hp->VK->Prop:=λx H Q=>∃i,x=.int i/\Q (g i) H
section
variable {a b:Expr}{ta tb tc:TE}
def GS(j:PE X a ta)(l:PE X b tb){R:V->V->Hp->Prop}(I:z0 X pins σ H s)
 (h:ta σ H λx H1=>tb σ H1 λy H2=>R x y H2) {f:aak->aak->Sem aak}
 (o:∀v u g x y H2,z0 X pins σ H2 g->zg x v->zg y u->R x y H2->_S X (f v u) Q X.xe g):
 _S X (eval a X.env) (λv J=>_S X (eval b X.env) (λu U=>_S X (f v u) Q X.xe U) X.xe J) X.xe s:=by
 refine wy (j pins s σ H _ I h) λv p x H1 r t C=>?_;refine wy (l pins p σ H1 _ r C) λu g y H2 T r2 q2=>?_;exact o v u g x y H2 T t r2 q2
def Qn{op:Operator}{r:R2}(U:vi X (binaryOp op) r)(g:PE X a ta)(j:PE X b tb):PE X (.BinOp a op b pos) (Fu r ta tb):=by intro J s l H Q I h;exact wpAny_BinOp<|GS g j I h λv u o x y p t C T q=>U J o l p x y v u Q t C T q
def Qo{op:UnaryOp}{r:V->Hp->VK->Prop}(g:UnR X (unaryOp op) r)(j:PE X a ta):PE X (.UnaryOp op a pos) (Qm r ta):=by intro J s U H Q I h;exact UnaryOp_<|wy (j J s U H _ I h) λv l x o p t C=>g J l U o x v Q p t C
def F2{f:aak->aak->Sem aak}{C:Int->Int->Prop}{g:Int->Int->Int}
 (rule:∀(i j:Int) (t u:Tok) (s:aal) (Q:Z5) (E:Z5),C i j->Q (.int (g i j) s.toks) {s with toks:=s.toks+1}->_S X (f (.int i t)<|.int j u) Q E s):
 vi X f (rI C λi j=>.int<|g i j):=by
 rintro J s r H x y v u Q I U l⟨i,j,rfl,rfl,o,q⟩;obtain⟨t,rfl⟩:=U;obtain⟨p,rfl⟩:=l;exact rule i j t p s _ _ o {.int<|g i j,H,I.tok _,{_,rfl},q}
def IF{f:aak->aak->Sem aak}{g:Int->Int->Int}
 (rule:∀(i j:Int) (t u:Tok) (s:aal) (Q:Z5) (E:Z5),Q (.int (g i j) s.toks) {s with toks:=s.toks+1}->_S X (f (.int i t)<|.int j u) Q E s):
 vi X f (z_ λi j=>.int<|g i j):=by
 rintro J s p H x y v u Q I U l⟨i,j,rfl,rfl,q⟩;obtain⟨t,rfl⟩:=U;obtain⟨o,rfl⟩:=l;exact rule i j t o s _ _ {.int<|g i j,H,I.tok _,{_,rfl},q}
def GU{f:aak->aak->Sem aak}{g:Int->Int->Bool}
 (rule:∀(i j:Int) (t u:Tok) (s:aal) (Q:Z5) (E:Z5),Q (.bool<|g i j) s->_S X (f (.int i t)<|.int j u) Q E s):
 vi X f (z_ λi j=>.bl<|g i j):=by
 rintro J s p H x y v u Q I U l⟨i,j,rfl,rfl,q⟩;obtain⟨t,rfl⟩:=U;obtain⟨o,rfl⟩:=l;exact rule i j t o s _ _ {.bl<|g i j,H,I,rfl,q}
def GV(i j:Int):Prop:=0<j/\j<1073741824
def GX(i j:Int):Prop:=0<=j/\j<=1000000/\i.natAbs<2 ^ 64
def aht(i j:Int):Prop:=(-(2 ^ 64)<i/\i<2 ^ 64)\/(-(2 ^ 64)<j/\j<2 ^ 64)
def aht.ok{i j:Int}(h:aht i j):IntMulOk i j:=by
 rcases h with⟨I,J⟩|⟨I,J⟩
 .exact .of_left<|intBits_le_64 I J
 .exact .of_right<|intBits_le_64 I J
def Qp:vi X (binaryOp .Add) (z_ λi j=>.int<|i+j):=IF λ_ _ _ _ _ _ _ q=>add_int q
def Qq:vi X (binaryOp .Sub) (z_ λi j=>.int<|i-j):=IF λ_ _ _ _ _ _ _ q=>sub_int q
def Qr:vi X (binaryOp .Mult) (rI aht λi j=>.int<|i*j):=F2 λ_ _ _ _ _ _ _ I q=>mul_int q I.ok
def Qs:vi X (binaryOp .FloorDiv) (rI GV λi j=>.int<|i / j):=F2 λi j _ _ _ _ _ I q=>by have J:(0:Int)<j:=I.1;have U:j<1073741824:=I.2;exact floordiv_int (by lia) (by rw[Int.fdiv_eq_ediv_of_nonneg i (by lia)];exact q)<|.inl<|PyProof.noPylong_small (by lia)
def Qt:vi X (binaryOp .Mod) (rI (λ_ j=>0<j) λi j=>.int<|i % j):=F2 λi j _ _ _ _ _ I q=>by have J:(0:Int)<j:=I;exact mod_int' (by lia) (by rw[Int.fmod_eq_emod_of_nonneg i (by lia)];exact q)
def Qu:vi X (binaryOp .Pow) (rI GX λi j=>.int<|i ^ j.toNat):=F2 λ_ _ _ _ _ _ _ I q=>pow_int_small I.1 I.2.1 I.2.2 q
def Qv{f:aak->Sem aak}{g:Int->Int}
 (rule:∀(i:Int) (t:Tok) (s:aal) (Q:Z5) (E:Z5),Q (.int (g i) s.toks) {s with toks:=s.toks+1}->_S X (f<|.int i t) Q E s):
 UnR X f (rU λi=>.int<|g i):=by
 rintro J s j H x v Q I U⟨i,rfl,q⟩;obtain⟨t,rfl⟩:=U;exact rule i t s _ _ {.int<|g i,H,I.tok _,{_,rfl},q}
def Qw:UnR X (unaryOp .USub) (rU λi=>.int<|-i):=Qv λ_ _ _ _ _ q=>neg_int q
end
def IG:V->V->Bool
 |.int _,.int _=>true
 |.bl _,.bl _=>true
 |.str _,.str _=>true
 |_,_=>false
def F4:Bool->CmpOp
 |true=>.NotEq
 |false=>.Eq
def Fv(ne b:Bool):Bool:=match ne with
 |true=>!b
 |false=>b
def Qx(ne:Bool):R2:=λx y H Q=>IG x y=true/\Q (.bl<|Fv ne<|decide<|x=y) H
def IH{i j:Int}:decide (V.int i=V.int j)=(i==j):=by rw[Ci];simp
def II{i j:Bool}:decide (V.bl i=V.bl j)=(i==j):=by rw[Ci];simp
def IJ{i j:Str}:decide (V.str i=V.str j)=(i==j):=by rw[Ci];simp
section
variable {a b:Expr}{ta tb tc:TE}
def gW{Q:VK}{k J:Bool}(I:z0 X pins σ H s)(q:Q (.bl k) H)(e:k=J):EP X pins σ Q (.bool J) s:=by subst e;exact{.bl k,H,I,rfl,q}
def IK(ne:Bool):vi X (compareOp<|F4 ne) (Qx ne):=by
 rintro l s o H x y v u Q I U g⟨J,q⟩;cases x with
 |bl i=>
  cases y with|bl j=>cases U;cases g;cases ne;exact eq_bool<|gW I q II;exact ne_bool (gW I q<|BA not II)|_=>exact(AN J).elim
 |int i=>
  cases y with
  |int j=>obtain⟨_,rfl⟩:=U;obtain⟨_,rfl⟩:=g;cases ne;exact eq_int<|gW I q IH;exact ne_int<|gW I q<|BA not IH
  |_=>exact(AN J).elim
 |str i=>
  cases y with
  |str j=>obtain⟨_,rfl⟩:=U;obtain⟨_,rfl⟩:=g;cases ne;exact eq_str<|gW I q IJ;exact ne_str<|gW I q<|BA not IJ
  |_=>exact(AN J).elim
 |_=>cases y<;>exact(AN J).elim
def Qy:vi X (compareOp .Lt) (z_ λi j=>.bl<|decide<|i<j):=GU λ_ _ _ _ _ _ _ q=>lt_int q
def Qz:vi X (compareOp .LtE) (z_ λi j=>.bl<|decide<|i<=j):=GU λ_ _ _ _ _ _ _ q=>le_int q
def QB:vi X (compareOp .Gt) (z_ λi j=>.bl<|decide<|j<i):=GU λ_ _ _ _ _ _ _ q=>gt_int q
def jy(b:Expr){op:CmpOp}(h:op≠.In:=by decide)(h2:op≠.NotIn:=by decide):behindInMarks op b=false:=by
 have I:(op==CmpOp.In)=false:=by cases op<;>first|rfl|exact absurd rfl h
 have J:(op==CmpOp.NotIn)=false:=by cases op<;>first|rfl|exact absurd rfl h2
 cases b<;>simp[behindInMarks,I,J]
def QC{op:CmpOp}{r:R2}(U:vi X (compareOp op) r)(g:PE X a ta)(j:PE X b tb)(l:behindInMarks op b=false):PE X (.Compare a [op] [b] pos) (Fu r ta tb):=by intro J s o H Q I h;exact wpAny_Compare1 (GS g j I h λv u p x y t C T ry q=>U J p o t x y v u Q C T ry q) l
def GY(t:TE):TT:=λσ H Q=>t σ H λx H'=>∃k,x=.bl k/\Q k H'
def IL{op:CmpOp}{r:R2}(g:vi X (compareOp op) r)(j:PE X a ta)(l:PE X b tb)(o:behindInMarks op b=false):PT X (.Compare a [op] [b] pos) (GY<|Fu r ta tb):=by
 intro J s U H Q I h;refine wpAny_isTrue_Compare1 (wy (j J s U H _ I h) λv p x t C T q1=>wy (l J p U t _ C q1) λu s2 y H2 I2 r2 q2=>
  w9 (g J s2 U H2 x y v u _ I2 T r2 q2) λc s3 ⟨z,H3,I3,r3,k,e,q3⟩=>?_) o
 subst e;cases r3;exact wpAny_truthy_bool {(H3),I3,q3}
def kE:(sizeLine:Nat)<2 ^ 63:=by rw[sizeLine_eq];decide
def yU:vi X (binaryOp .Add) (λx y H Q=>∃i j,x=.str i/\y=.str j/\i.length+j.length<=sizeLine/\Q (.str<|i++j) H):=by rintro J s p H x y v u Q I U g⟨i,j,rfl,rfl,l,q⟩;obtain⟨t,rfl⟩:=U;obtain⟨o,rfl⟩:=g;exact j6 I.tk<|add_str (λo r C=>{.str<|i++j,H,I.tok _,{_,rfl},q}) l
def fB{x:V}(r:ze [x] us):∃u,us=[u]/\zg x u:=by cases r with|cons I J=>cases J;exact{_,rfl,I}
def IM{x y:V}(r:ze [x,y] us):∃u I,us=[u,I]/\zg x u/\zg y I:=by
 cases r with
 |cons J U=>
  cases U with|cons g j=>cases j;exact{_,_,rfl,J,g}
def QD(hc:X.calm=true):zy X (.builtin "max") (λxs H Q=>∃i j,xs=[.int i,.int j]/\Q (.int<|if j > i then j else i) H):=by
 rintro U s g H xs l Q I r⟨i,j,rfl,q⟩;obtain⟨u,o,rfl,⟨t,rfl⟩,⟨p,rfl⟩⟩:=IM r;refine j6 I.tk<|max_two_ints (I.ok.hd hc) λC T k ht=>{_,H,I.kept k,?_,q};by_cases J:j > i
 .rw[AC J,AC J];exact{_,rfl}
 .rw[Az J,Az J];exact{_,rfl}
def QH(hc:X.calm=true):zy X (.builtin "min") (λxs H Q=>∃i j,xs=[.int i,.int j]/\Q (.int<|if j<i then j else i) H):=by
 rintro U s g H xs l Q I r⟨i,j,rfl,q⟩;obtain⟨u,o,rfl,⟨t,rfl⟩,⟨p,rfl⟩⟩:=IM r;refine j6 I.tk<|min_two_ints (I.ok.hd hc) λC T k ht=>{_,H,I.kept k,?_,q};by_cases J:j<i
 .rw[AC J,AC J];exact{_,rfl}
 .rw[Az J,Az J];exact{_,rfl}
end
structure yw(h:aao)(x dx C:Addr)(mA:Z7):Prop where
 obj:h.get? x=some (PySem.W.instObj C dx)
 ns:h.Ns1 dx mA
 ne:dx≠x
def QJ(n:h.Ns1 dx mA):∃od,h.get? dx=some od/\∀name,PySem.W.lookIn name od=some (mA name):=by
 obtain⟨o,J,r,U,hd,g,_,j⟩:=n;refine{o,U,λname=>?_};have e:=j name;unfold nsFind findBy at e;rw[<-Array.find?_toList] at e;unfold PySem.W.lookIn;rw[hd];dsimp only;split
 .rename_i y q;rw[q] at e;exact BA some e
 .rename_i q;rw[q] at e;have a:J.toList.any (·.refKey)=false:=by rw[List.any_eq_false];intro y l;obtain⟨z,t,I⟩:=g y<|Array.mem_toList_iff.mp l;simp[DictEntry.refKey,I]
  have p:¬J.toList.any (·.refKey)=true:=by rw[a];exact AN
  rw[Az p];exact BA some e
def yw.look{x:Addr}(I:yw h x dx C mA):∃od,PySem.W.InstAt h x (PySem.W.instObj C dx) C (some od)/\∀name,PySem.W.lookIn name od=some (mA name):=
 let ⟨od,J,U⟩:=QJ I.ns
 ⟨od,⟨I.obj,rfl,rfl,J⟩,U⟩
section
variable {w:aan}{K:Af}{x:Addr}{v:aak}
def QK{expr:Bool}(X:K.In s.heap)(I:yw s.heap x dx C mA)(g:PySem.W.plainGet K C name=true)(j:PySem.W.hasDictIn K C=true)
 (l:PySem.W.findIn K (.ref C) name=some none) (o:mA name=some v) (U:PySem.W.handedIn v=true) (h:Q v {s with toks:=s.toks+1}):
 wpAny (model prog w) A (getAttr (.ref x) name expr) Q E s:=by
 obtain⟨r,J,p⟩:=I.look;exact PySem.W.get_value X J (Dw g).1 (PySem.W.findObj_own j l rfl (by rw[p,o])) U h
def QL{pl:Sem Bool}{Q:aak×Z_->aal->Prop}(X:K.In s.heap)(I:yw s.heap x dx C mA)(U:PySem.W.plainGet K C name=true)
 (g:PySem.W.findIn K (.ref C) name=some (some<|.ref f)) (j:PySem.W.isFn K (.ref f)=true) (l:mA name=none) (h:Q (.ref f,[.ref x]) s):
 wpAny (model prog w) A (getMethod (.ref x) name pl) Q E s:=by
 obtain⟨o,J,p⟩:=I.look;exact PySem.W.method_fn X J (Dw U).1 (Dw U).2 g (beq_iff_eq.mp j) (by show(PySem.W.lookIn name o).map (·.isSome)=some false;rw[p,l];rfl) h
def QM{ns:aac}{Q:Z6}(X:K.In s.heap)(I:yw s.heap x dx C mA)
 (hs:PySem.W.findIn K (.ref C) "__setattr__"=some (some<|.builtin "object.__setattr__")) (t:PySem.W.plainOver K C=true) (T:PySem.W.takerIn K C name=some none) (hh:PySem.W.hasDictIn K C=true)
 (hw:PySem.Within mA ns) (hsz:ns.length<=sizeLine)
 (h:∀h',yw h' x dx C (λy=>if y=name then some v else mA y)->Heap.SameBut dx s.heap h'->Q () {s with heap:=h',toks:=s.toks+2}):
 wpAny (model prog w) A (setAttr (.ref x) name v) Q E s:=by
 obtain⟨od,J,hl⟩:=I.look;refine PySem.W.set_plain X J hs<|PySem.W.osa_open (s:={s with toks:=s.toks+1}) (r:=none) X J t T λb=>?_;obtain⟨cd,hc,j⟩:=PySem.W.any_some hh;have hx:s.heap.get? x=some ⟨.ref C,some dx,.plain,#[]⟩:=I.obj;refine Aa<|Am<|Aa<|Aa<|wpAny_loadPart hx<|Aa<|PySem.W.Looks.here (s:={s with toks:=s.toks+1}) (PySem.W.looks_clsIn X hc) ?_;rw[j];refine Am (a:=some dx)<|Aa<|Am<|Aa ?_;refine wpAny_nsSet1 (s:={s with toks:=s.toks+1}) I.ns λh' U g=>?_;obtain⟨oD,a0,a1,l,o,p⟩:=U.count<|PySem.Within.cons name v hw;refine Aa (wpAny_lookBehind l (by rw[o];exact pastItsLine_dict (AF p (by rw[Ap];lia))) ?_);exact Am<|h _ {(g.2 _<|AL I.ne).trans I.obj,U,I.ne} g
def QN{R:Result->aal->Prop}{vs:Z_}(X:K.In s.heap)(I:PySem.W.makesIn K C=true)
 (hi:PySem.W.findIn K (.ref C) "__init__"=some (some<|.ref f)) (J:PySem.W.typeIn K (.ref f)=some (.type "function"))
 (h:codeAny (model prog w) (A.under<|.builtin "type.__call__" {.ref C::vs,kw}) (.call (.ref f) ⟨.ref (s.heap.objs.size+1)::vs,kw⟩) (PySem.W.InitBack (s.heap.objs.size+1) R)
  {s with heap:=(s.heap.push PySem.W.emptyDict).push (PySem.W.instObj C s.heap.objs.size)}):
 codeAny (model prog w) A (.call (.ref C) ⟨vs,kw⟩) R s:=by
 obtain⟨U,g,d,t,os⟩:=s;exact PySem.W.make_core (PySem.W.makes_of X I) (PySem.W.looks_findIn X hi) (λself=>PySem.W.bind_fn X self J) (.inl rfl) h
end
def br(f:Str)(v:V):List (Str×V)->List (Str×V)
 |[]=>[(f,v)]
 |(g,x)::r=>if g=f then(g,v)::r else(g,x)::br f v r
theorem l7(f g:Str)(v:V):∀fs:List (Str×V),(br f v fs).lookup g=if g=f then some v else fs.lookup g
 |[]=>by
  show List.lookup g [(f,v)]=_;by_cases h:g=f
  .have I:(g==f)=true:=beq_iff_eq.mpr h;simp only[List.lookup,I,AC h]
  .have I:(g==f)=false:=beq_eq_false_iff_ne.mpr h;simp only[List.lookup,I,Az h]
 |(k,x)::r=>by
  have U:=l7 f g v r;rw[show br f v ((k,x)::r)=(if k=f then(k,v)::r else(k,x)::br f v r) from rfl];by_cases J:k=f
  .rw[AC J];by_cases h:g=k
   .have I:(g==k)=true:=beq_iff_eq.mpr h;simp only[List.lookup,I,AC<|h.trans J]
   .have I:(g==k)=false:=beq_eq_false_iff_ne.mpr h;simp only[List.lookup,I,Az (λe:g=f=>h<|e.trans J.symm)]
  .rw[Az J];by_cases h:g=k
   .have I:(g==k)=true:=beq_iff_eq.mpr h;simp only[List.lookup,I,Az (λe:g=f=>J<|h.symm.trans e)]
   .have I:(g==k)=false:=beq_eq_false_iff_ne.mpr h;simp only[List.lookup,I];exact U
theorem jV(f:Str)(v:V):∀fs:List (Str×V),f∈(br f v fs).map (·.1)/\∀g,g∈fs.map (·.1)->g∈(br f v fs).map (·.1)
 |[]=>{by simp[br],λg h=>by simp at h}
 |(k,x)::r=>by
  obtain⟨J,U⟩:=jV f v r;rw[show br f v ((k,x)::r)=(if k=f then(k,v)::r else(k,x)::br f v r) from rfl];by_cases I:k=f
  .rw[AC I];subst I;exact{by simp,λg h=>by simpa using h}
  .rw[Az I];refine{?_,λg h=>?_}
   .rw[AI];exact Ag _ J
   .rw[AI] at h ⊢;rcases Aq.mp h with e|e
    .exact Aq.mpr<|.inl e
    .exact Ag _<|U g e
theorem lZ(f:Str)(v:V):∀fs:List (Str×V),(br f v fs).length<=fs.length+1
 |[]=>by simp[br]
 |(k,x)::r=>by
  have J:=lZ f v r;rw[show br f v ((k,x)::r)=(if k=f then(k,v)::r else(k,x)::br f v r) from rfl];by_cases I:k=f
  .rw[AC I,Ap,Ap];lia
  .rw[Az I,Ap,Ap];lia
def dW.some_of{o:aag}(r:dW (some v) o):∃u,o=some u/\zg v u:=by cases o with|none=>exact(show False from r).elim|some u=>exact{(u),rfl,r}
abbrev EO:=@dW.some_of
def dW.none_of{o:aag}(r:dW none o):o=none:=by cases o with|none=>rfl|some u=>exact(show False from r).elim
def QP(r:zg v u):PySem.W.handedIn u=true:=by
 cases v with
 |KF=>cases (show u=Value.none from r);rfl
 |bl b=>cases (show u=Value.bool b from r);rfl
 |int i=>obtain⟨t,e⟩:=(show ∃t,u=Value.int i t from r);cases e;rfl
 |str x=>obtain⟨t,e⟩:=(show ∃t,u=Value.str x t from r);cases e;rfl
 |byt b=>obtain⟨t,e⟩:=(show ∃t,u=Value.bytes b t from r);cases e;rfl
 |flt b=>obtain⟨t,e⟩:=(show ∃t,u=Value.float b t from r);cases e;rfl
 |ref a=>cases (show u=Value.ref a from r);rfl
 |ty n=>cases (show u=Value.type n from r);rfl
section
variable {P:aam}{w:aan}{a:Addr}{fs sy:List<|Str×V}
def m9(KB:gG P w H h)(e:H a=some (.ins C dx fs)):∃mA,yw h a dx C mA/\(∀f,dW (fs.lookup f)<|mA f)/\PySem.Within mA (fs.map (·.1))/\fs.length<=1000/\H dx=some (.own a):=by obtain⟨d,z,ne,ob,mA,n,r,q⟩:=(show xl P w H h a (.ins C dx fs) from KB a _ e);exact{mA,{(ob),n,ne},r,q,z,d}
end
structure _D(K:Af)(C:Addr):Prop where
 pg:PySem.W.plainGet K C Str.empty=true
 hd:PySem.W.hasDictIn K C=true
 po:PySem.W.plainOver K C=true
 sa:PySem.W.findIn K (.ref C) "__setattr__"=some (some<|.builtin "object.__setattr__")
def _D.get{K:Af}(c:_D K C)(f:Str):PySem.W.plainGet K C f=true:=c.pg
def Os(K:Af)(C:Addr)(f:Str):Prop:=PySem.W.findIn K (.ref C) f=some none
def Os.taker{K:Af}{f:Str}(n:Os K C f):PySem.W.takerIn K C f=some none:=by unfold PySem.W.takerIn;rw[show PySem.W.findIn K (.ref C) f=some none from n];rfl
structure Fw(K:Af)(C:Addr)(m:Str)(f:Addr):Prop where
 at_:PySem.W.findIn K (.ref C) m=some (some<|.ref f)
 fn:PySem.W.isFn K (.ref f)=true
 kp:PySem.W.keepIn K (.ref f)=true
section
variable {a:Addr}{fs:List<|Str×V}{f:Str}
def pO{b:Bool}(I:z0 X pins σ H s)(e:H a=some (.ins C dx fs))(c:_D X.K C)(n:Os X.K C f)(l:fs.lookup f=some v)
 (h:∀u s',z0 X pins σ H s'->zg v u->Q u s'):wpAny (model X.prog X.w) A (getAttr (.ref a) f b) Q E s:=by
 obtain⟨U,O,r,_,_,_⟩:=m9 I.KB e;obtain⟨u,g,J⟩:=EO (v:=v) (o:=U f) (by rw[<-l];exact r f);exact QK I._w O (c.get f) c.hd n g (QP J)<|h u _ (I.tok _) J
def zE{m:Str}{g:Addr}{pl:Sem Bool}{Q:aak×Z_->aal->Prop}(I:z0 X pins σ H s)(e:H a=some (.ins C dx fs))(c:_D X.K C)(k:Fw X.K C m g)(l:fs.lookup m=none)
 (h:Q (.ref g,[.ref a]) s):wpAny (model X.prog X.w) A (getMethod (.ref a) m pl) Q E s:=by
 obtain⟨J,O,r,_,_,_⟩:=m9 I.KB e;have U:J m=none:=dW.none_of (by rw[<-l];exact r m);exact QL I._w O (c.get m) k.at_ k.fn U h
def oS{y:V}{Q:Z6}(I:z0 X pins σ H s)(e:H a=some (.ins C dx fs))(c:_D X.K C)(n:Os X.K C f)(hl:fs.length<1000)(p:zg y u)
 (h:∀s',z0 X pins σ (upd H a<|.ins C dx<|br f y fs) s'->Q () s'):wpAny (model X.prog X.w) A (setAttr (.ref a) f u) Q E s:=by
 obtain⟨U,O,r,j,_,l⟩:=m9 I.KB e;have t:(fs.map (·.1)).length<=sizeLine:=by rw[Ac,sizeLine_eq];lia
 refine QM I._w O c.sa c.po n.taker c.hd j t λT J sb=>h _ ?_;have hd:∃o,T.get? dx=some o:=let ⟨o,_,_,e',_⟩:=J.ns;⟨o,e'⟩;refine I.write (x:=a) (e:=dx) (by rw[e];exact True.intro) (.inr l) (λb q hb z=>(sb.2 b hb).trans z) hd ?_;refine{by rw[qp O.ne];exact l,?_,O.ne,J.obj,_,J.ns,λg=>?_,λg hg=>?_}
 .have:=lZ f y fs;lia
 .show dW ((br f y fs).lookup g) (if g=f then some u else U g);rw[l7];by_cases q:g=f
  .rw[AC q,AC q];exact p
  .rw[Az q,Az q];exact r g
 .by_cases q:g=f
  .rw[q];exact(jV f y fs).1
  .refine(jV f y fs).2 g (j g λz=>hg ?_);show(if g=f then some u else U g)=none;rw[Az q];exact z
def z0.made(I:z0 X pins σ H s):z0 X pins σ (upd (upd H s.heap.objs.size<|.own<|s.heap.objs.size+1) (s.heap.objs.size+1)<|.ins C s.heap.objs.size [])
 {s with heap:=(s.heap.push PySem.W.emptyDict).push (PySem.W.instObj C s.heap.objs.size)}:=by
 have J:(s.heap.push PySem.W.emptyDict).get? s.heap.objs.size=some PySem.W.emptyDict:=ya s.heap rfl;have U:((s.heap.push PySem.W.emptyDict).push<|PySem.W.instObj C s.heap.objs.size).get? (s.heap.objs.size+1)=some (PySem.W.instObj C s.heap.objs.size):=by have:=ya (s.heap.push PySem.W.emptyDict) (o:=PySem.W.instObj C s.heap.objs.size) rfl;rwa[Ew] at this
 have g:(s.heap.push PySem.W.emptyDict).Ns s.heap.objs.size (λ_=>none):={PySem.W.emptyDict,#[],_,J,rfl,(λe j=>absurd j (by simp)),λ_=>rfl};have l:=I.laid (a:=s.heap.objs.size) (o:=.own<|s.heap.objs.size+1) (h':=s.heap.push PySem.W.emptyDict) (t':=s.toks) (λb u q=>wl _ q) (Aj _) {_,J};refine l.laid (a:=s.heap.objs.size+1) (o:=.ins C s.heap.objs.size []) (t':=s.toks) (λb u q=>wl _ q) (DC<|Ew _ _) ?_;have ne:s.heap.objs.size≠s.heap.objs.size+1:=A5<|BN _;refine{by rw[qp ne,zm],Bb _,ne,U,λ_=>none,(Heap.Ns1.of_empty g).at λo q=>wl _ q,λ_=>True.intro,λy p=>absurd rfl p}
def QQ{w:aan}{f:Str}(J:attributeBase e f env (eval e env)=eval e env)
 (h:wpAny (model prog w) A (eval e env) (λo I=>wpAny (model prog w) A (getAttr o f true) Q E I) E s):wpAny (model prog w) A (eval (.Attribute e f pos) env) Q E s:=
 Attribute_any_ h (by rw[arm_eval_Attribute,J])
end
def QR(K:Af)(ta:TE)(f:Str):TE:=λσ H Q=>ta σ H λx H1=>∃a C dx fs v,x=.ref a/\H1 a=some (.ins C dx fs)/\_D K C/\Os K C f/\fs.lookup f=some v/\Q v H1
def QU(K:Af)(ta tv:TE)(f:Str):TS:=λD σ H=>tv σ H λy H1=>ta σ H1 λx H2=>∃a C dx fs,x=.ref a/\H2 a=some (.ins C dx fs)/\_D K C/\Os K C f/\fs.length<1000/\
 D.nx σ (upd H2 a<|.ins C dx<|br f y fs)
def IP(X:Cx)(op:Operator)(rd:V->V->Hp->VK->Prop):Prop:=
 ∀(pins:List<|Addr×Obj) (s:aal) (σ:St) (H:Hp) (x y:V) (u v:aak) (Q:VK),z0 X pins σ H s->zg x u->zg y v->rd x y H Q->_S X (inplaceOp op u v) (EP X pins σ Q) X.xe s
def QV(K:Af)(ta tv:TE)(rd:V->V->Hp->VK->Prop)(f:Str):TS:=λD σ H=>ta σ H λx H1=>∃a C dx fs v,x=.ref a/\H1 a=some (.ins C dx fs)/\_D K C/\Os K C f/\fs.lookup f=some v/\
 tv σ H1 λy H2=>rd v y H2 λz J=>∃I sy,J a=some (.ins C I sy)/\sy.length<1000/\D.nx σ (upd J a<|.ins C I<|br f z sy)
section
variable {f:Str}{ta tv:TE}
def QX(U:PE X e ta)(g:attributeBase e f X.env (eval e X.env)=eval e X.env):PE X (.Attribute e f pos) (QR X.K ta f):=by intro J s j H Q I h;refine QQ g<|w9 (U J s j H _ I h) λu s1 ⟨x,o,p,r,a,C,dx,fs,v,ex,ea,c,n,l,q⟩=>?_;subst ex;obtain rfl:u=Value.ref a:=r;exact pO p ea c n l λu' s2 t T=>{(v),o,t,T,q}
def QY(g:PE X o ta)(j:PE X value tv)(hs:swapsWith value (some<|.Attribute o f fm) pos.line X.env=pure false):PS X (.Assign [.Attribute o f fm] value pos) (QU X.K ta tv f):=by intro J s U H D I h;refine plainObj_wpAny_Assign_Attribute (wy (j J s U H _ I h) λu p y r t T q=>w9 (g J p U r _ t q) λov s2 ⟨x,H2,I2,rx,a,C,dx,fs,ex,ea,c,n,l,q2⟩=>?_) hs;subst ex;obtain rfl:ov=Value.ref a:=rx;exact oS I2 ea c n l T λs3 I3=>{U,_,I3,q2}
def QZ{op:Operator}{rd:V->V->Hp->VK->Prop}(p:PE X o ta)(r:PE X value tv)(g:IP X op rd):PS X (.AugAssign (.Attribute o f vb) op value pos) (QV X.K ta tv rd f):=by intro J s U H D I h;refine wpAny_AugAssign_AttributeAny<|w9 (p J s U H _ I h) λt s1 ⟨x,T,I1,rx,a,C,dx,fs,v,ex,ea,c,n,l,q⟩=>?_;subst ex;obtain rfl:t=Value.ref a:=rx;refine pO I1 ea c n l λu s2 I2 ru=>wy (r J s2 U T _ I2 q) λw3 s3 y H2 I3 ry q3=>w9 (g J s3 U H2 v y u w3 _ I3 ru ry q3) λw4 s4 ⟨z,H3,I4,rz,a0,a1,j,l',q4⟩=>?_;exact oS I4 j c n l' rz λs5 I5=>{U,_,I5,q4}
def Q0:V->V->Hp->VK->Prop:=λx y H Q=>∃i j,x=.int i/\y=.int j/\Q (.int<|i+j) H
def Q1:IP X .Add Q0:=by rintro J s o H x y u v Q I g l ⟨i,j,rfl,rfl,q⟩;obtain⟨t,rfl⟩:=(show ∃t,u=Value.int i t from g);obtain⟨U,rfl⟩:=(show ∃U,v=Value.int j U from l);exact PyProof.Rows.iadd_int {.int<|i+j,H,I.tok _,{_,rfl},q}
end
section
variable {c:aak}{b:Bool}
inductive mK(K:Af)(H:Hp):V->aak->Prop where
 |KF:mK K H .KF (.type "NoneType")
 |bl (x:Bool):mK K H (.bl x) (.type "bool")
 |int (i:Int):mK K H (.int i) (.type "int")
 |str (x:Str):mK K H (.str x) (.type "str")
 |flt (x:UInt64):mK K H (.flt x) (.type "float")
 |lst {a:Addr} {xs:GT} (e:H a=some (.lst xs)):mK K H (.ref a) (.type "list")
 |_F {a:Addr} {o:Obj} {xs:GT} (e:H a=some (._F o<|.lst xs)):mK K H (.ref a) (.type "list")
 |tup {a:Addr} {xs:GT} (e:H a=some (.tup xs)):mK K H (.ref a) (.type "tuple")
 |dK {a:Addr} {kvs:List<|zr×V} (e:H a=some (.dK kvs)):mK K H (.ref a) (.type "dict")
 |dT {a:Addr} {kvs:List<|_v×V} (e:H a=some (.dT kvs)):mK K H (.ref a) (.type "dict")
 |ins {a C dx:Addr} {fs:List<|Str×V} (e:H a=some (.ins C dx fs)) (cl:_D K C) (ha:PySem.W.findIn K (.ref C) "__class__"=some (some<|.builtin "object.__class__"))
  (hn:PySem.W.specialIn K (.builtin "object.__class__") "__get__"=some (some<|.builtin "getset_descriptor.__get__")) (htk:PySem.W.takesIn K (.builtin "object.__class__")=some true)
  (hm:PySem.W.mroIn K C (.type "object")=some true):mK K H (.ref a) (.ref C)
def bA{x:V}{t:aak}(I:z0 X pins σ H s)(U:zg x u)(ty:mK X.K H x t)(e:PySem.W.kitOne X.K t c=some b)(h:∀tk,Q (.bool b) {s with toks:=tk}):
 wpAny (model X.prog X.w) A (call (.builtin "isinstance") [u,c]) Q E s:=by
 cases ty with
 |KF=>cases (show u=Value.none from U);exact Bs PySem.W.kitx_none I._w True.intro e (λz=>nomatch z) h
 |bl y=>cases (show u=Value.bool y from U);exact Bs PySem.W.kitx_bool I._w True.intro e (λz=>nomatch z) h
 |int i=>obtain⟨t,q⟩:=(show ∃t,u=Value.int i t from U);cases q;exact Bs PySem.W.kitx_int I._w True.intro e (λz=>nomatch z) h
 |str y=>obtain⟨t,q⟩:=(show ∃t,u=Value.str y t from U);cases q;exact Bs PySem.W.kitx_str I._w True.intro e (λz=>nomatch z) h
 |flt y=>obtain⟨t,q⟩:=(show ∃t,u=Value.float y t from U);cases q;exact Bs PySem.W.kitx_float I._w True.intro e (λz=>nomatch z) h
 |@lst a l ea=>
  cases (show u=Value.ref a from U);obtain⟨_,_,n,_,g⟩:=(show xl X.prog X.w H s.heap a (.lst l) from I.KB a _ ea);exact Bs DJ I._w {_,g,rfl} e (λz=>nomatch z) h
 |@_F a ob l ea=>
  cases (show u=Value.ref a from U);obtain⟨_,_,_,n,_,g⟩:=(show xl X.prog X.w H s.heap a (._F ob<|.lst l) from I.KB a _ ea);exact Bs DJ I._w {_,g,rfl} e (λz=>nomatch z) h
 |@tup a l ea=>
  cases (show u=Value.ref a from U);obtain⟨_,_,_,p⟩:=(show xl X.prog X.w H s.heap a (.tup l) from I.KB a _ ea);obtain⟨o,g,r,_⟩:=p;exact Bs PySem.W.kitx_tuple I._w {(o),g,r} e (λz=>nomatch z) h
 |@dK a j ea=>
  cases (show u=Value.ref a from U);obtain⟨_,_,vs,_,p⟩:=(show xl X.prog X.w H s.heap a (.dK j) from I.KB a _ ea);obtain⟨o,es,ep,g,r,_⟩:=p;exact Bs PySem.W.kitx_dict I._w {(o),g,r.1} e (λz=>nomatch z) h
 |@dT a j ea=>
  cases (show u=Value.ref a from U);obtain⟨_,_,l,_,o,es,ep,g,r,_⟩:=(show xl X.prog X.w H s.heap a (.dT j) from I.KB a _ ea);exact Bs PySem.W.kitx_dict I._w {(o),g,r.1} e (λz=>nomatch z) h
 |@ins a C dx fs ea cl ha hn T hm=>
  cases (show u=Value.ref a from U);obtain⟨mA,O,_⟩:=m9 I.KB ea;obtain⟨od,J,_⟩:=O.look;exact Bs (PySem.W.kitx_own (cl.get _) cl.hd ha hn T hm) I._w J e (λz=>nomatch z) h
end
structure wf(k:Nat)(A:Around):Prop where
 hd:A.handled=none
 dp:A.depth+3*k+5<recursionLimit
 un:A.units+16*k+200<cLine
def wf.mono{k:Nat}(r:wf k A)(h:j<=k):wf j A:={r.hd,by have:=r.dp;lia,by have:=r.un;lia}
def wf.deeper{k:Nat}(r:wf (k+1) A)(env:Env):wf k (A.deeper env):=
 ⟨r.hd,by have:=r.dp;show A.depth+1+3*k+5<_;lia,by have:=r.un;show A.units+3+16*k+200<_;lia⟩
def yd :(A.under<|.builtin "type.__call__" {.ref C::us,kw}).depth=A.depth+1:=by first|rfl|simp[Around.under,Code.weight,Code.isCreation,Code.isGuard,Code.isCaller,Code.frames,Code.isFrame,guardIds]
def yc :(A.under<|.builtin "type.__call__" {.ref C::us,kw}).units=A.units+1:=by first|rfl|simp[Around.under,Code.cUnits,Code.frames,Code.isFrame]
def wf.make{k:Nat}(r:wf (k+1) A)(C:Addr)(us:Z_)(kw:List<|Str×aak):wf k (A.under<|.builtin "type.__call__" {.ref C::us,kw}):=
 ⟨r.hd,by have:=r.dp;rw[yd];lia,by have:=r.un;rw[yc];lia⟩
def wf.depth{k:Nat}(r:wf k A):A.depth<recursionLimit:=by have:=r.dp;lia
def IQ:TA:=λ_ H Q=>Q [] H
def Q2(ta:TE)(tr:TA):TA:=λσ H Q=>ta σ H λx H1=>tr σ H1 λxs H2=>Q (x::xs) H2
section
variable {te:TE}{t:TA}
def pM:PA X [] IQ:=λ_ _ _ _ H Q I h=>Ev {[],H,I,.nil,h}
abbrev Ep(e:Expr)(es:aad)(X:Cx):Prop:=starEach (e::es) X.env=(false,eval e X.env)::starEach es X.env
def fP(g:PE X e te)(j:PA X es t)(hs:Ep e es X:=by rfl):PA X (e::es) (Q2 te t):=by intro pos J s U H Q I h;rw[hs];show wpAny _ _ (spliced<|(false,eval e X.env)::backTo pos (starEach es X.env)) _ _ s;refine At<|wy (g J s U H _ I h) λu l x o p r C=>?_;exact y4 (j pos J l U o _ p C) λus s2 T H2 I2 r2 q2=>{x::T,H2,I2,.cons r r2,q2}
def Q4(t:TA):TE:=λσ H Q=>t σ H λxs H1=>xs.length<=sizeLine/\∀p,H1 p=none->Q (.ref p) (upd H1 p<|.tup xs)
def Q5(t:TA):TE:=λσ H Q=>t σ H λxs H1=>xs.length<=sizeLine/\∀p,H1 p=none->Q (.ref p) (upd H1 p<|.lst xs)
def Q6{x1}(h:PA X es t):PE X (.Tuple es x1 pos) (Q4 t):=by intro J s l H Q I o;refine wpAny_Tuple_spliced (w9 (h pos J s l H _ I o) λp U ⟨C,g,j,r,z,q⟩=>{by rw[<-r.length];exact z,?_});have T:g U.heap.objs.size=none:=j.KB.fresh<|Aj _;refine{.ref U.heap.objs.size,upd g U.heap.objs.size<|.tup C,j.laid (t':=U.toks) (λb u e=>wl _ e) (Aj _) ?_,rfl,q _ T};exact{z,p,r,{_,ya _ rfl,rfl,_,rfl}}
def Q7(h:PA X es t):PE X (.List es pos) (Q5 t):=by intro J s l H Q I o;refine wpAny_List_spliced (w9 (h pos J s l H _ I o) λp U ⟨C,g,j,r,z,q⟩=>{by rw[<-r.length];exact z,?_});have T:g U.heap.objs.size=none:=j.KB.fresh<|Aj _;refine{.ref U.heap.objs.size,upd g U.heap.objs.size<|.lst C,j.laid (t':=U.toks) (λb u e=>wl _ e) (Aj _) ?_,rfl,q _ T};exact{z,p,0,r,ya _ rfl}
end
abbrev Sp:=GT->Hp->VK->XK->Prop
abbrev d_:=List Env->Hp->aal->XK->Z5
structure zJ(P:aam)(w:aan)(K:Af)(mg:Z7)(base:aao)(A:Around)(outer:List Env)(s:aal)(H:Hp):Prop where
 frames:A.frames=some outer
 mod:Mod K mg base
 bs:∀b o,base.get? b=some o->s.heap.get? b=some o/\H b=none
 bsz:base.objs.size<=s.heap.objs.size
 _z:s.heap.FunFrames base outer
 frf:∀b∈frs outer,H b=none
 KB:gG P w H s.heap
 bare:AllBare s.gens
 tk:0<s.toks
def CE(outer:List Env)(P:aam)(w:aan)(H:Hp)(s:aal)(Q:VK)(u:aak)(s':aal):Prop:=
 ∃v H',s'.os=s.os/\AllBare s'.gens/\Un (frs outer) [] H H' s.heap s'.heap/\gG P w H' s'.heap/\zg v u/\Q v H'/\0<s'.toks
def CR(CX:d_)(outer:List Env)(P:aam)(w:aan)(H:Hp)(s:aal)(Q:VK)(E:XK)(r:Result)(s':aal):Prop:=
 match r with
 |.ok (.ret u)=>CE outer P w H s Q u s'
 |.ok _=>False
 |.error e=>CX outer H s E e s'
structure bE(P:aam)(w:aan)(K:Af)(mg:Z7)(base:aao)(CX:d_)(k:Nat)(f:Addr)(fd:FuncData)(ps:aac)(sp:Sp):Prop where
 len:∀vs H Q E,sp vs H Q E->vs.length=ps.length
 run:∀(A:Around) (outer:List Env) (s:aal) (H:Hp) (args:Args) (us:Z_) (vs:GT) (Q:VK) (E:XK),wf k A->zJ P w K mg base A outer s H->BindsTo s fd args (ps.zip us)->ze vs us->sp vs H Q E->
  codeAny (model P w) A (.call (.ref f) args) (CR CX outer P w H s Q E) s
theorem bE.mono{P:aam}{w:aan}{K:Af}{CX:d_}{k:Nat}{sp:Sp}(F:bE P w K mg base CX j f fd ps sp)(h:j<=k):
 bE P w K mg base CX k f fd ps sp:={F.len,λA I s H args J U Q E g=>F.run A I s H args J U Q E<|g.mono h}
def bE.imp{P:aam}{w:aan}{K:Af}{CX:d_}{k:Nat}{sp J:Sp}(F:bE P w K mg base CX k f fd ps sp)
 (h:∀vs H Q E,J vs H Q E->sp vs H Q E):bE P w K mg base CX k f fd ps J:=
 ⟨λvs H Q E q=>F.len vs H Q E<|h _ _ _ _ q,λA I s H args U vs Q E g j l o p=>F.run A I s H args U vs Q E g j l o<|h _ _ _ _ p⟩
def zJ.make{P:aam}{w:aan}{K:Af}{outer:List Env}(e:zJ P w K mg base A outer s H)(C:Addr)(us:Z_)(kw:List<|Str×aak):
 zJ P w K mg base (A.under<|.builtin "type.__call__" {.ref C::us,kw}) outer s H:={by first|exact e.frames|(simpa[Around.under,Code.envs,Code.isFrame,pushEnvs] using e.frames),e.mod,e.bs,e.bsz,e._z,e.frf,e.KB,e.bare,e.tk}
def z0.env0(I:z0 X pins σ H s):zJ X.prog X.w X.K X.mg X.base X.A X.stack s H:=
 ⟨I.ok.frames,I.ok.mod,I.bs,AF I.ok.bsz I.sz,I.stack,I.stkFree,I.KB,I.bare,I.tk⟩
def z0.after{Q:VK}(I:z0 X pins σ H s)(h:CE X.stack X.prog X.w H s Q u s'):EP X pins σ Q u s':=by obtain⟨v,j,os,bare,un,J,r,q,o⟩:=h;obtain⟨l,g,d,t,U⟩:=s';obtain rfl:U=s.os:=os;exact{v,j,I.call (h':=l) (g':=g) (d':=d) (t':=t) (ch:=[]) un J bare λb z=>absurd z (by simp),r,q}
def IR(sp:Sp)(kb:GT)(E:XK)(t:TA):TE:=λσ H Q=>t σ H λvs H1=>sp (vs++kb) H1 Q E
def Q8(C:Addr)(m:Str)(sp:Sp)(kb:GT)(E:XK)(ta:TE)(t:TA):TE:=λσ H Q=>ta σ H λx H1=>∃a dx fs,x=.ref a/\H1 a=some (.ins C dx fs)/\fs.lookup m=none/\
 t σ H1 λvs H2=>sp (x::(vs++kb)) H2 Q E
def Q9(C:Addr)(sp:Sp)(kb:GT)(E:XK)(t:TA):TE:=λσ H Q=>t σ H λvs H1=>∀x dx,H1 x=none->H1 dx=none->dx≠x->
 sp (.ref x::(vs++kb)) (upd (upd H1 dx<|.own x) x<|.ins C dx []) (λv H2=>v=.KF/\Q (.ref x) H2) E
def aI(K:Af)(fd:FuncData)(ps:aac)(ds:Z_):Prop:=
 ∀(s:aal) (us:Z_),K.In s.heap->(us++ds).length=ps.length->BindsTo s fd ⟨us,[]⟩ (ps.zip<|us++ds)
def aI.all{K:Af}(h:∀us:Z_,us.length=ps.length->bindArgs fd ⟨us,[]⟩=pure (ps.zip us)):aI K fd ps []:=λs us _ I=>by rw[AG] at I ⊢;exact .of_eq<|h us I
def jX(CX:d_)(X:Cx)(E:XK):Prop:=∀(pins:List<|Addr×Obj) (σ:St) (H:Hp) (s:aal) (e:aak) (s':aal),z0 X pins σ H s->CX X.stack H s E e s'->X.xe e s'
section
variable {CX:d_}{k:Nat}{sp:Sp}{kb:GT}{ds:Z_}{E:XK}{m:Str}{ta:TE}{t:TA}
def IS{Q:VK}(F:bE X.prog X.w X.K X.mg X.base CX k f fd ps sp)(g:wf k X.A)(j:aI X.K fd ps ds)(hd:ze kb ds)(l:jX CX X E)
 (I:z0 X pins σ H s) (r:ze vs us) (h:sp (vs++kb) H Q E):_S X (call (.ref f) us) (EP X pins σ Q) X.xe s:=by
 have U:ze (vs++kb) (us++ds):=r.append hd;have o:(us++ds).length=ps.length:=by rw[<-U.length];exact F.len _ _ _ _ h
 refine wpAny_call<|codeAny_mono (F.run X.A X.stack s H {us,[]} (us++ds) (vs++kb) Q E g I.env0 (j s us I._w o) U h) λr p J=>?_;cases r with
 |error e=>exact l pins σ H s e p I J
 |ok t=>
  cases t with|ret u=>exact I.after J|next=>exact False.elim J|brk=>exact False.elim J|cont=>exact False.elim J
abbrev Er(p:Pos)(es:aad)(X:Cx):Prop:=(backTo p<|starEach es X.env).any (·.1)=false
def Ra(F:bE X.prog X.w X.K X.mg X.base CX k f fd ps sp)(l:wf k X.A)(o:Gl X x)(C:X.mg x=some (.ref f))(T:PySem.W.keepIn X.K (.ref f)=true)(hb:aI X.K fd ps ds)(hd:ze kb ds)(hx:jX CX X E)
 (ha:PA X (e::es) t) (U:Es x:=by decide) (he:Ep e es X:=by rfl) (g:Er pos es X:=by rfl):
 PE X (.Call (.Name x p) (e::es) [] pos) (IR sp kb E t):=by
 intro J s σ H Q I h;refine wpAny_Call_Name_kw<|tT I o C ?_ U;refine PySem.W.callWith_K (h₀:=X.base) I.ok.mod.kin T (y4 (ha pos J s σ H _ I h) λus s1 vs H1 j r q=>{j._w,?_}) he g;exact IS F l hb hd hx j r q
def Rb{pl:Sem Bool}(p:PE X o ta)(c:_D X.K C)(g:Fw X.K C m f)(F:bE X.prog X.w X.K X.mg X.base CX k f fd ps sp)(r:wf k X.A)(t:aI X.K fd ps ds)(hd:ze kb ds)(T:jX CX X E)
 (ht:eval (.Call (.Attribute o m apos) [] [] pos) X.env=(do
  let j <-eval o X.env
  standAt apos.atName
  let (f,first) <-holding [j] (getMethod j m pl)
  callWith pos f first (backTo pos<|starEach [] X.env) (backToKw pos<|keywordEach [] X.env)):=by rfl):
 PE X (.Call (.Attribute o m apos) [] [] pos) (Q8 C m sp kb E ta IQ):=by
 intro J s σ H Q I h;refine PySem.W.methodCall_KW (pl:=pl) (w9 (p J s σ H _ I h) λu s1 ⟨x,H1,U,rx,a,dx,fs,ex,ea,l,q⟩=>?_) ht;subst ex;obtain rfl:u=Value.ref a:=rx;refine zE U ea c g l ?_;exact PySem.W.callWith_K0 (first:=[.ref a]) U._w g.kp<|IS (us:=[.ref a]) (vs:=[.ref a]) F r t hd T U (.cons rfl .nil) q
structure Mk(K:Af)(C f:Addr):Prop where
 makes:PySem.W.makesIn K C=true
 init:PySem.W.findIn K (.ref C) "__init__"=some (some<|.ref f)
 fn:PySem.W.isFn K (.ref f)=true
 kp:PySem.W.keepIn K (.ref C)=true
theorem Rc{Q:VK}(M:Mk X.K C f)(F:bE X.prog X.w X.K X.mg X.base CX k f fd ps sp)(l:wf (k+1) X.A)(o:aI X.K fd ps ds)(hd:ze kb ds)
 (p:jX CX X E) (I:z0 X pins σ H s) (r:ze vs us)
 (h:∀x dx,H x=none->H dx=none->dx≠x->sp (.ref x::(vs++kb)) (upd (upd H dx<|.own x) x<|.ins C dx []) (λv H2=>v=.KF/\Q (.ref x) H2) E):
 _S X (call (.ref C) us) (EP X pins σ Q) X.xe s:=by
 have g:=h (s.heap.objs.size+1) s.heap.objs.size (I.KB.fresh<|Cd _) (I.KB.fresh<|Aj _)<|A5<|BN _;have U:=z0.made (C:=C) I;have j:ze (V.ref (s.heap.objs.size+1)::(vs++kb)) (Value.ref (s.heap.objs.size+1)::(us++ds)):=.cons rfl<|r.append hd;have t:(Value.ref (s.heap.objs.size+1)::us++ds).length=ps.length:=by have e:=j.length;rw[F.len _ _ _ _ g] at e;exact e.symm
 refine wpAny_call (QN (f:=f) I._w M.makes M.init (beq_iff_eq.mp M.fn) (codeAny_mono (F.run _ X.stack _ _ {Value.ref (s.heap.objs.size+1)::us,[]} (Value.ref (s.heap.objs.size+1)::(us++ds)) _ _ E (l.make C us [])
  (U.env0.make C us []) (o _ (Value.ref (s.heap.objs.size+1)::us) U._w t) j g) λr T J=>?_))
 cases r with
 |error e=>exact p pins σ _ _ e T U J
 |ok fl=>
  cases fl with
  |ret u=>
   obtain⟨v,H',I3,rv,ev,q3⟩:=U.after J;subst ev;exact{rv,{V.ref<|s.heap.objs.size+1,H',I3,rfl,q3}}
  |next=>exact False.elim J
  |brk=>exact False.elim J
  |cont=>exact False.elim J
def Rf(M:Mk X.K C f)(F:bE X.prog X.w X.K X.mg X.base CX k f fd ps sp)(l:wf (k+1) X.A)(o:Gl X x)(T:X.mg x=some (.ref C))(hb:aI X.K fd ps ds)(hd:ze kb ds)(hx:jX CX X E)
 (ha:PA X (e::es) t) (U:Es x:=by decide) (he:Ep e es X:=by rfl) (g:Er pos es X:=by rfl):
 PE X (.Call (.Name x p) (e::es) [] pos) (Q9 C sp kb E t):=by
 intro J s σ H Q I h;refine wpAny_Call_Name_kw<|tT I o T ?_ U;refine PySem.W.callWith_K (h₀:=X.base) I.ok.mod.kin M.kp (y4 (ha pos J s σ H _ I h) λus s1 vs H1 j r q=>{j._w,?_}) he g;exact Rc M F l hb hd hx j r q
end
section
variable {CX:d_}{k:Nat}{ks:aac}{sp:Sp}{E:XK}{m:Str}{kws:List Keyword}{te ta:TE}{t tk:TA}{nm:Option Str}
variable {g:Z_->Z_->Z_}{gV:GT->GT->GT}
end
structure am(N P:aac)(sc:Scope):Prop where
 kind:sc.kind=.function
 co:sc.isCoroutine=false
 gen:sc.isGenerator=false
 nd:N.Nodup
 pre:N.take P.length=P
 par:∀x∈P,sc.names.lookup x=some .local\/sc.names.lookup x=some .cell
 nofree:∀y∈sc.names,y.2≠.free
theorem rQ{kindOf:Str->Option NameKind}{x:Str}:∀{I:List<|Str×aak} {m:Z7},(∀v,(x,v)∉I)->bindL kindOf I m x=m x
 |[],_,_=>rfl
 |(n,v)::r,m,h=>by
  unfold bindL;rw[rQ λw hw=>h w<|Ag _ hw];split
  .have:x≠n:=by rintro rfl;exact h v An
   simp[this]
  .rfl
theorem rC{kindOf:Str->Option NameKind}{x:Str}:∀{I:List<|Str×aak} {m:Z7},(∀v,(x,v)∉I)->bindC kindOf I m x=m x
 |[],_,_=>rfl
 |(n,v)::r,m,h=>by
  unfold bindC;rw[rC λw hw=>h w<|Ag _ hw];split
  .rfl
  .have:x≠n:=by rintro rfl;exact h v An
   simp[this]
theorem r6{kindOf:Str->Option NameKind}{x:Str}{v:aak}:∀{P:aac} {vs:Z_} {i:Nat} {m:Z7},P.Nodup->P[i]?=some x->vs[i]?=some v->kindOf x=some .local->
 bindL kindOf (P.zip vs) m x=some v
 |[],_,_,_,_,h,_,_=>by simp at h
 |_::_,[],_,_,_,_,h,_=>by simp at h
 |p::P,w::vs,0,m,nd,I,J,U=>by simp at I J;subst I;subst J;show bindL kindOf ((p,w)::P.zip vs) m p=_;unfold bindL;rw[rQ λv g=>(AQ.mp nd).1 (Dr g).1,AC U];simp
 |p::P,w::vs,i+1,m,nd,I,J,U=>by show bindL kindOf ((p,w)::P.zip vs) m x=_;unfold bindL;exact r6 (i:=i) (AQ.mp nd).2 (by simpa using I) (by simpa using J) U
theorem sM{kindOf:Str->Option NameKind}{x:Str}{v:aak}:∀{P:aac} {vs:Z_} {i:Nat} {m:Z7},P.Nodup->P[i]?=some x->vs[i]?=some v->kindOf x≠some .local->
 bindC kindOf (P.zip vs) m x=some v
 |[],_,_,_,_,h,_,_=>by simp at h
 |_::_,[],_,_,_,_,h,_=>by simp at h
 |p::P,w::vs,0,m,nd,I,J,U=>by simp at I J;subst I;subst J;show bindC kindOf ((p,w)::P.zip vs) m p=_;unfold bindC;rw[rC λv g=>(AQ.mp nd).1 (Dr g).1,Az U];simp
 |p::P,w::vs,i+1,m,nd,I,J,U=>by show bindC kindOf ((p,w)::P.zip vs) m x=_;unfold bindC;exact sM (i:=i) (AQ.mp nd).2 (by simpa using I) (by simpa using J) U
def start(N:aac)(vs:GT):St:=vs.map some++List.replicate (N.length-vs.length) none
def qN(CX:d_)(P:aam)(w:aan)(K:Af)(mg:Z7)(base:aao)(N:aac)(ee:Str)(scope:Scope)(f:Addr)(cd:aak)(A:Around)(outer:List Env)(s:aal)(H:Hp)(E:XK):Cx where
 prog:=P
 w:=w
 K:=K
 mg:=mg
 base:=base
 A:=A.deeper<|envOfC ee scope s.heap.objs.size f cd
 N:=N
 s₀:=s
 H₀:=H
 env:=envOfC ee scope s.heap.objs.size f cd
 outer:=outer
 stack:=envOfC ee scope s.heap.objs.size f cd::outer
 ex:=[]
 calm:=true
 fn:=λ_=>true
 pn:=[]
 xe:=λe s'=>wpAny (model P w) (A.deeper<|envOfC ee scope s.heap.objs.size f cd) (leaving (envOfC ee scope s.heap.objs.size f cd) e) (λ_ I=>CX outer H s E e I) (λJ I=>CX outer H s E J I) s'
def wE{I:Scope}{n:Nat}(h:I.names.lookup x=some .cell):∃c,(cellsFrom n I.names []).lookup x=some c:=by have q:=DZ I.names n []<|.inl h;exact Option.isSome_iff_exists.mp q
def Rg{CX:d_}{P:aam}{w:aan}{K:Af}{N:aac}{cd:aak}{outer:List Env}{C:aal}{E:XK}
 (S:am N ps scope) (hd:A.handled=none) (J:zJ P w K mg base A outer s H) (hl:vs.length=ps.length) (r:ze vs us)
 (x:InCallC s s.heap.objs.size (bindL (envOfC ee scope s.heap.objs.size f cd).kindOf (ps.zip us) λ_=>none) (cellsFrom (s.heap.objs.size+1) scope.names []) (bindC (envOfC ee scope s.heap.objs.size f cd).kindOf (ps.zip us) λ_=>none) C) (ht:0<C.toks):
 z0 (qN CX P w K mg base N ee scope f cd A outer s H E) [] (start N vs) H C:=by
 have a0:ps.length<=N.length:=by have:=BA List.length S.pre;rw[AS] at this;lia
 obtain⟨o,tk,rfl,T⟩:=x.done;have U:∀b:Addr,b∉(qN CX P w K mg base N ee scope f cd A outer s H E).ex:=λb z=>absurd (show b∈([]:List Addr) from z) (by simp);refine{{J.mod,S.kind,rfl,rfl,Aj _,λy z c o I=>?_,λy g=>?_,λy c _ h=>?_,λ_=>hd,Around.frames_deeper J.frames,.inr {(rfl),rfl},λb z=>absurd z<|U b,J.bs,J.bsz,λb _ _=>U b,λb z=>absurd z<|U b,J._z,J.frf},
  rfl,J.bare,Un.kept T,{_,x.toInCall.ns,λi y v o I h3=>?_},λy c h=>{_,x.cell y c h},J.KB.fresh<|Aj _,λy c h=>?_,λp j=>absurd (show p∈([]:List<|Addr×Obj) from j) (by simp),J.KB.kept T,?_,ht}
 .exact name_of_addr x.apart (BD o)<|BD I
 .have g:scope.names.lookup y=some .cell\/scope.names.lookup y=some .free:=g;rcases g with g|g
  .exact wE g
  .exact absurd rfl<|S.nofree _<|BD g
 .exact Bi<|x.above y c<|BD h
 .have t:i<vs.length:=by
   unfold start at I;by_cases t:i<vs.length
   .exact t
   .rw[AK (by simpa using t)] at I;rw[Ct] at I;split at I<;>cases I
  have ha:vs[i]?=some v:=by unfold start at I;rw[AH (by simpa using t),Al] at I;cases e:vs[i]? with|none=>rw[e] at I;cases I|some a=>rw[e] at I;cases I;rfl
  obtain⟨u,hu,rv⟩:=r.get ha;have j:ps[i]?=some y:=by rw[<-S.pre,DQ (by lia)];exact o
  have l:ps.Nodup:=by rw[<-S.pre];exact S.nd.sublist<|DK _ _
  refine{u,rv,?_};rcases S.par y (AE j) with k|k
  .exact .inl {k,r6 l j hu k}
  .obtain⟨c,e⟩:=wE (n:=s.heap.objs.size+1) k;refine .inr {.inl k,c,e,?_};have q:=x.cell y c e;rw[sM l j hu (by show scope.names.lookup y≠_;rw[k];decide)] at q;exact q
 .exact J.KB.fresh<|Bi<|x.above y c<|BD h
 .unfold start;show _=N.length;rw[Ab,Ac,A3];lia
theorem IT{CX:d_}{P:aam}{w:aan}{K:Af}{k:Nat}{U:Arguments}{dV kV:aak}
 {N:aac} {sp:Sp} (lk:K.lookup f=some ⟨oc,od,.func<|PySem.W.fnOf name ee U body scope dV kV fx pm an eK ct,oi⟩) (a0:PySem.W.codeIn K eK ee=true) (S:am N ps scope)
 (len:∀vs H Q E,sp vs H Q E->vs.length=ps.length)
 (j:∀(A:Around) (outer:List Env) (s:aal) (H:Hp) (vs:GT) (Q:VK) (E:XK),wf k (A.deeper<|envOfC ee scope s.heap.objs.size f eK)->sp vs H Q E->
  ∃t,mR (qN CX P w K mg base N ee scope f eK A outer s H E) body t/\t {nx:=λ_ H'=>Q .KF H',rt:=Q} (start N vs) H):
 bE P w K mg base CX (k+1) f (PySem.W.fnOf name ee U body scope dV kV fx pm an eK ct) ps sp:=by
 refine{len,λA outer s H args us vs Q E hr p hb r T=>?_};have hl:=len _ _ _ _ T;have KX:K.In s.heap:=p.mod.kin.keeps λb o e=>(p.bs b o e).1;have a1:s.heap.NoLimit:=p.mod.nolimit.keeps λb o e=>(p.bs b o e).1;have l:∀y∈ps.zip us,scope.names.lookup y.1=some .local\/(scope.names.lookup y.1=some .cell/\((cellsFrom (s.heap.objs.size+1) scope.names []).lookup y.1).isSome=true):=λ⟨n,v⟩ hy=>by
  rcases S.par n (Dr hy).1 with q|q
  .exact .inl q
  .exact .inr {q,DZ _ _ _<|.inl q}
 refine codeAny_call_function hr.depth (KX _ _ lk) rfl S.co S.gen rfl (PySem.W.codeRec_of KX a0)<|hb _ _ _ _ ?_;refine j6 p.tk<|wpAny_newFunctionEnv_cells S.kind l λa3 he s1 x a2=>?_;subst he;refine{a1.keeps x.toInCall.keep,codeAny_func ?_};obtain⟨t,ht,hq⟩:=j A outer s H vs Q E (hr.deeper _) T;have I:z0 (qN CX P w K mg base N ee scope f eK A outer s H E) [] (start N vs) H s1:=Rg S hr.hd p hl r x a2;refine A8 (ht [] s1 (start N vs) H _ I hq) (λfl s' C=>?_) λe s' C=>C;have jd:∀{g:St} {H':Hp} {v:V} {u:aak},z0 (qN CX P w K mg base N ee scope f eK A outer s H E) [] g H' s'->zg v u->Q v H'->CE outer P w H s Q u s':=
  λ{g H' v u} J rv q=>{(v),H',J.os,J.bare,J.base,J.KB,rv,q,J.tk}
 cases fl with
 |ret u=>
  obtain⟨v,g,H',J,rv,q⟩:=C;exact jd J rv q
 |next=>
  obtain⟨g,H',J,q⟩:=C;exact jd (v:=V.KF) (u:=Value.none) J rfl q
 |brk=>
  obtain⟨_,_,_,q⟩:=C;exact False.elim q
 |cont=>
  obtain⟨_,_,_,q⟩:=C;exact False.elim q
section
variable {t:TA}{id T:aap}{r:GT->Hp->VK->Prop}
def IU(r:GT->Hp->VK->Prop)(t:TA):TE:=λσ H Q=>t σ H λvs H1=>r vs H1 Q
def vV(hc:zy X (.builtin id) r)(l:Gl X x)(o:X.mg x=none)(C:bootBuiltins x=some (.builtin id))(T:PA X (e::es) t)(hn:x ≠ "__name__" := by decide)(U:Es x:=by decide)
 (he:Ep e es X:=by rfl) (g:Er pos es X:=by rfl):PE X (.Call (.Name x p) (e::es) [] pos) (IU r t):=by
 intro J s j H Q I h;refine wpAny_Call_Name_kw<|bH I l o C ?_ hn U;exact PyProof.Rows.callWith_builtin1 (y4 (T pos J s j H _ I h) λus s1 vs H1 I1 r1 q1=>hc J s1 j H1 vs us Q I1 r1 q1) he g
def jU(hc:zy X (.type T) r)(l:Gl X x)(o:X.mg x=none)(C:bootBuiltins x=some (.type T))(ha:PA X (e::es) t)(hn:x ≠ "__name__" := by decide)(U:Es x:=by decide)
 (he:Ep e es X:=by rfl) (g:Er pos es X:=by rfl):PE X (.Call (.Name x p) (e::es) [] pos) (IU r t):=by
 intro J s j H Q I h;refine wpAny_Call_Name_kw<|bH I l o C ?_ hn U;exact BO (y4 (ha pos J s j H _ I h) λus s1 vs H1 I1 r1 q1=>hc J s1 j H1 vs us Q I1 r1 q1) he g
end
section
variable [DecidableEq κ]
def aH(kvs:List<|κ×V)(k:κ):aar:=(kvs.find? λI=>decide<|I.1=k).map (·.2)
def eG(kvs:List<|κ×V)(k:κ)(v:V):List (κ×V):=
 if (kvs.any λI=>decide<|I.1=k)=true then kvs.map (λI=>if I.1=k then(I.1,v) else I) else kvs++[(k,v)]
def o8{p:κ×V}{r:List<|κ×V}{k:κ}(e:p.1=k):aH (p::r) k=some p.2:=by simp[aH,Bq,e]
def og{p:κ×V}{r:List<|κ×V}{k:κ}(e:¬p.1=k):aH (p::r) k=aH r k:=by simp[aH,Bq,e]
theorem xC(k:κ):∀kvs:List (κ×V),(kvs.any λI=>decide<|I.1=k)=(aH kvs k).isSome
 |[]=>rfl
 |p::r=>by
  rw[Cq];by_cases e:p.1=k
  .simp only[o8 e,AA e,Bool.true_or,Option.isSome_some]
  .rw[og e,Aw e,Bool.false_or];exact xC k r
def fD(kvs:List<|κ×V)(k:κ)(v:V):(eG kvs k v).length<=kvs.length+1:=by
 unfold eG;split
 .rw[Ac];lia
 .rw[Ab,Ap,BR];lia
def dW.P3{o:aar}{u:aag}(r:dW o u):o.isSome=u.isSome:=by
 cases o with
 |none=>cases u with|none=>rfl|some _=>exact(show False from r).elim
 |some _=>cases u with|none=>exact(show False from r).elim|some _=>rfl
def KV.val{kvs:List<|κ×V}{vs:List<|κ×aak}(r:KV kvs vs)(k:κ):dW (aH kvs k) (valueAt vs k):=by
 unfold KV at r
 induction r with
 |nil=>exact True.intro
 |@cons p q l I h t g=>
  obtain⟨U,j⟩:=h;by_cases e:p.1=k
  .have J:q.1=k:=U.symm.trans e;have b:valueAt (q::I) k=some q.2:=by simp[valueAt,Bq,J]
   rw[o8 e,b];exact j
  .have J:¬q.1=k:=λz=>e<|U.trans z;have b:valueAt (q::I) k=valueAt I k:=by simp[valueAt,Bq,J]
   rw[og e,b];exact g
def KV.any{kvs:List<|κ×V}{vs:List<|κ×aak}(r:KV kvs vs)(k:κ):(kvs.any λI=>decide<|I.1=k)=vs.any λI=>decide (I.1=k):=by
 unfold KV at r
 induction r with|nil=>rfl|cons h t J=>rw[Cq,Cq,J,h.1]
def KV.repl{kvs:List<|κ×V}{vs:List<|κ×aak}(r:KV kvs vs)(k:κ){y:V}(U:zg y u):
 KV (kvs.map λI=>if I.1=k then(I.1,y) else I) (vs.map λI=>if I.1=k then(I.1,u) else I):=by
 unfold KV at r ⊢
 induction r with
 |nil=>exact .nil
 |@cons p q l o h t g=>
  rw[AI,AI];refine .cons ?_ g;obtain⟨J,j⟩:=h;by_cases e:p.1=k
  .rw[AC e,AC<|J.symm.trans e];exact{(J),U}
  .rw[Az e,Az λz=>e<|J.trans z];exact{(J),j}
def KV.put{kvs:List<|κ×V}{vs:List<|κ×aak}(r:KV kvs vs)(k:κ){y:V}(I:zg y u):KV (eG kvs k y) (stored vs k u):=by
 unfold eG stored;rw[r.any k];by_cases e:(vs.any λJ=>decide<|J.1=k)=true
 .rw[AC e,AC e];exact r.repl k I
 .rw[Az e,Az e];exact Paired.snoc r {(rfl),I}
theorem KV.length{kvs:List<|κ×V}{vs:List<|κ×aak}(r:KV kvs vs):kvs.length=vs.length:=Paired.length r
end
def fv{P:aam}{w:aan}{k:zr}(r:zg (kV k) u):(xq P w).is k u=true:=by
 cases k with
 |inl i=>obtain⟨t,e⟩:=(show ∃t,u=Value.int i t from r);subst e;exact vI P w i t
 |inr x=>obtain⟨t,e⟩:=(show ∃t,u=Value.str x t from r);subst e;exact ud P w x t
theorem rE{P:aam}{w:aan}:∀{ks:_v} {us:Z_},ze (ks.map kV) us->ItemsAre (xq P w) ks us
 |[],_,r=>by rw[Cm] at r;cases r;exact .nil
 |k::ks,_,r=>by rw[AI] at r;cases r with|cons h t=>exact .cons (fv h)<|rE t
abbrev KT(H:Hp):List (_v×V)->List (_v×Addr×aak)->Prop:=Paired λp q=>p.1=q.1/\H q.2.1=some (.tup<|p.1.map kV)/\zg p.2 q.2.2
def KT.val{kvs:List<|_v×V}{xs:List<|_v×Addr×aak}(r:KT H kvs xs)(k:_v):dW (aH kvs k) ((atKey xs k).map (·.2)):=by
 induction r with
 |nil=>exact True.intro
 |@cons p q l I h t g=>
  obtain⟨U,_,j⟩:=h;by_cases e:p.1=k
  .have J:q.1=k:=U.symm.trans e;have b:atKey (q::I) k=some q.2:=by simp[atKey,Bq,J]
   rw[o8 e,b];exact j
  .have J:¬q.1=k:=λz=>e<|U.trans z;have b:atKey (q::I) k=atKey I k:=by simp[atKey,Bq,J]
   rw[og e,b];exact g
def KT.repl{kvs:List<|_v×V}{xs:List<|_v×Addr×aak}(r:KT H kvs xs)(k:_v){y:V}(g:zg y u):
 KT H (kvs.map λJ=>if J.1=k then(J.1,y) else J) (xs.map<|putAt k u):=by
 induction r with
 |nil=>exact .nil
 |@cons p q o C h t j=>
  rw[AI,AI];refine .cons ?_ j;obtain⟨I,U,l⟩:=h;unfold putAt;by_cases e:p.1=k
  .rw[AC e,AC<|I.symm.trans e];exact{(I),U,g}
  .rw[Az e,Az λz=>e<|I.trans z];exact{(I),U,l}
def KT.put{kvs:List<|_v×V}{xs:List<|_v×Addr×aak}(r:KT H kvs xs)(k:_v){b:Addr}{y:V}(J:H b=some (.tup<|k.map kV))(I:zg y u):
 KT H (eG kvs k y) (storedH xs k b u):=by
 have e:(kvs.any λU=>decide<|U.1=k)=(atKey xs k).isSome:=by rw[xC,(r.val k).P3,CD]
 unfold eG storedH;rw[e];by_cases q:(atKey xs k).isSome=true
 .rw[AC q,AC q];exact r.repl k I
 .rw[Az q,Az q];exact Paired.snoc r {(rfl),J,I}
def KT.keeps{kvs:List<|_v×V}{xs:List<|_v×Addr×aak}(r:KT H kvs xs)(I:∀b ys,H b=some (.tup ys)->H' b=some (.tup ys)):KT H' kvs xs:=
 EH r λ_ _ z=>{z.1,I _ _ z.2.1,z.2.2}
section
variable {P:aam}{w:aan}{a:Addr}
def IV{u:HO}(ok:gG P w H h)(e:Rd H a u):xl P w H h a u:=e.ok ok
def pW{kvs:List<|zr×V}(ok:gG P w H h)(e:Rd H a<|.dK kvs):kvs.length<=sizeLine/\(a==sysModules)=false/\∃vs,KV kvs vs/\h.DictOf (xq P w) a vs:=
 show xl P w H h a (.dK kvs) from IV ok e
def IW{kvs:List<|zr×V}(ok:gG P w H h)(e:H a=some (.dK kvs)):kvs.length<=sizeLine/\(a==sysModules)=false/\∃vs,KV kvs vs/\h.DictOf (xq P w) a vs:=pW ok<|.inl e
def pZ{ks:_v}(ok:gG P w H h)(e:H a=some (.tup<|ks.map kV)):(tupleKind<|xq P w).is h ks a:=by obtain⟨_,I,r,o,J,U,n,g⟩:=(show xl P w H h a (.tup<|ks.map kV) from ok a _ e);exact{o,I.toArray,n,J,U,g,by simpa using rE r}
def vC{kvs:List<|_v×V}(ok:gG P w H h)(e:Rd H a<|.dT kvs):kvs.length<=sizeLine/\(a==sysModules)=false/\
 ∃xs,KT H kvs xs/\h.DictOfH (tupleKind<|xq P w) a xs:=by
 obtain⟨z,y,xs,r,o,U,g,j,C,T,h4,h5⟩:=(show xl P w H h a (.dT kvs) from IV ok e);refine{z,y,xs,r,o,U,g,j,C,T,h4,λx I=>?_,h5};have all:∀{l:List<|_v×V} {m:List<|_v×Addr×aak},KT H l m->∀x∈m,(tupleKind<|xq P w).is h x.1 x.2.1:=by
  intro l m q
  induction q with
  |nil=>intro x I;exact nomatch I
  |@cons p q ps qs J t ih=>
   intro x I;rcases Aq.mp I with e|I
   .subst e;exact pZ ok (by rw[<-J.1];exact J.2.1)
   .exact ih x I
 exact all r x I
def Rh{kvs:List<|_v×V}(ok:gG P w H h)(e:H a=some (.dT kvs)):kvs.length<=sizeLine/\(a==sysModules)=false/\
 ∃xs,KT H kvs xs/\h.DictOfH (tupleKind<|xq P w) a xs:=vC ok<|.inl e
end
def sv(H:Hp)(a:Addr)(y:V)(r:aar):Prop:=
 (∃kvs k,Rd H a (.dK kvs)/\y=kV k/\r=aH kvs k)\/∃kvs k b,Rd H a (.dT kvs)/\y=.ref b/\H b=some (.tup<|k.map kV)/\r=aH kvs k
def IX(H:Hp)(a:Addr)(y v:V)(H':Hp):Prop:=
 (∃kvs k,H a=some (.dK kvs)/\y=kV k/\kvs.length<sizeLine/\H'=upd H a (.dK<|eG kvs k v))\/
 ∃kvs k b,H a=some (.dT kvs)/\y=.ref b/\H b=some (.tup<|k.map kV)/\kvs.length<sizeLine/\H'=upd H a (.dT<|eG kvs k v)
theorem sv.k{a:Addr}{kvs:List<|zr×V}{k:zr}(e:H a=some (.dK kvs)):sv H a (kV k) (aH kvs k):=.inl {kvs,k,.inl e,rfl,rfl}
section
variable {a:Addr}{y:V}{r:aak}{o:aar}
def z0.big(I:z0 X pins σ H s):sysModules<s.heap.objs.size:=by have h:mainGlobals<s.heap.objs.size:=(I.mod.glob.keeps I.bk).lt;exact Nat.lt_trans (by decide) h
def Ri(hu:A.units+1<cLine)(I:z0 X pins σ H s)(g:sv H a y<|some v)(T:zg y u)(h:∀U s',z0 X pins σ H s'->zg v U->Q U s'):
 wpAny (model X.prog X.w) A (getItem (.ref a) u) Q E s:=by
 rcases g with⟨j,k,e,r,l⟩|⟨j,k,b,e,r,eb,l⟩
 .subst r;obtain⟨z,hd,vs,rel,t⟩:=pW I.KB e;obtain⟨U,hw,J⟩:=EO (v:=v) (o:=valueAt vs k) (by rw[l];exact rel.val k);exact wpAny_getItem_of (fv T) t.mapOf hw<|h U _ (I.tok _) J
 .subst r;cases (show u=Value.ref b from T);obtain⟨z,hd,xs,rel,t⟩:=vC I.KB e;obtain⟨U,hw,J⟩:=EO (v:=v) (o:=(atKey xs k).map (·.2)) (by rw[l];exact rel.val k);obtain⟨p,hp,C⟩:=Ax.mp hw;refine wpAny_getItem_heap (tupleKind_room_in1 hu) (pZ I.KB eb) t hp ?_;rw[C];exact h U _ (I.tok _) J
def Rj(r:A.units+1<cLine)(I:z0 X pins σ H s)(g:sv H a y o)(p:zg y u)(h:∀s',z0 X pins σ H s'->Q (.bool o.isSome) s'):
 wpAny (model X.prog X.w) A (compareOp .In u<|.ref a) Q E s:=by
 rcases g with⟨J,k,e,U,l⟩|⟨J,k,b,e,U,eb,l⟩
 .subst U;obtain⟨z,hd,t,rel,j⟩:=pW I.KB e;refine wpAny_in_of (fv p) hd j.mapOf ?_;rw[<-(rel.val k).P3,<-l];exact h _<|I.tok _
 .subst U;cases (show u=Value.ref b from p);obtain⟨z,hd,C,rel,j⟩:=vC I.KB e;refine wpAny_in_heap (tupleKind_room_in1 r) (pZ I.KB eb) hd j ?_;have q:=(rel.val k).P3;rw[CD] at q;rw[<-q,<-l];exact h _<|I.tok _
def Rk(r:A.units+1<cLine)(I:z0 X pins σ H s)(g:sv H a y o)(p:zg y u)(h:∀s',z0 X pins σ H s'->Q (.bool<|!o.isSome) s'):
 wpAny (model X.prog X.w) A (compareOp .NotIn u<|.ref a) Q E s:=by
 rcases g with⟨J,k,e,U,l⟩|⟨J,k,b,e,U,eb,l⟩
 .subst U;obtain⟨z,hd,t,rel,j⟩:=pW I.KB e;refine wpAny_notIn_of (fv p) hd j.mapOf ?_;rw[<-(rel.val k).P3,<-l];exact h _<|I.tok _
 .subst U;cases (show u=Value.ref b from p);obtain⟨z,hd,C,rel,j⟩:=vC I.KB e;refine wpAny_notIn_heap (tupleKind_room_in1 r) (pZ I.KB eb) hd j ?_;have q:=(rel.val k).P3;rw[CD] at q;rw[<-q,<-l];exact h _<|I.tok _
def uR{ob:HO}(I:z0 X pins σ H s)(J:Fs<|H a)(hs:Heap.SameBut a s.heap h')(U:∃q,h'.get? a=some q)(new:xl X.prog X.w (upd H a ob) h' a ob)(j:0<t':=by walk_at "t"):
 z0 X pins σ (upd H a ob) {s with heap:=h',toks:=t'}:=
 I.write (x:=a) (e:=a) J (.inl rfl) (λb q g z=>(hs.2 b g).trans z) U new
def IY{P:aam}{w:aan}{kvs:List<|zr×V}{vs:List<|zr×aak}(z:kvs.length<=sizeLine)(hd:(a==sysModules)=false)(rel:KV kvs vs)(I:h'.DictOf (xq P w) a vs):
 xl P w H' h' a (.dK kvs):={(z),hd,vs,rel,I}
def Rl{Q:Z6}(hu:A.units+1<cLine)(I:z0 X pins σ H s)(g:IX H a y v H')(ry:zg y u)(rv:zg v r)(h:∀s',z0 X pins σ H' s'->Q () s'):
 wpAny (model X.prog X.w) A (setItem (.ref a) u r) Q E s:=by
 rcases g with⟨J,k,e,o,l,p⟩|⟨J,k,b,e,o,eb,l,p⟩
 .subst o p;obtain⟨z,hd,vs,rel,t⟩:=IW I.KB e;have C:vs.length<=sizeLine:=by rw[<-rel.length];exact z
  have T:(eG J k v).length<=sizeLine:=by have:=fD J k v;lia
  refine wpAny_setItem_pairs (hsz:=C) (fv ry) t λh' U hs=>h _ ?_;have he:∃q,h'.get? a=some q:=let ⟨q,_,_,j,_⟩:=U;⟨q,j⟩;exact uR I (by rw[e];exact True.intro) hs he<|IY T hd (rel.put k rv) U
 .subst o p;cases (show u=Value.ref b from ry);obtain⟨z,hd,xs,rel,t⟩:=Rh I.KB e;have C:xs.length<=sizeLine:=by rw[<-Paired.length rel];exact z
  have T:(eG J k v).length<=sizeLine:=by have:=fD J k v;lia
  refine wpAny_setItem_heap (hsz:=C) (tupleKind_room_in1 hu) (pZ I.KB eb) t λh' U hs=>h _ ?_;obtain⟨q,es,ep,j,h2,h3,h4,_,h5⟩:=U;refine uR I (by rw[e];exact True.intro) hs {(q),j} {T,hd,_,(rel.put k eb rv).keeps λc ys ec=>?_,q,es,ep,j,h2,h3,h4,h5};rw[qp<|O' ec e λz=>nomatch z];exact ec
end
section
variable {a:Addr}{kvs:List<|zr×V}{k:zr}
def Rm(I:z0 X pins σ H s)(e:Rd H a<|.dK kvs)(h:∀t s',z0 X pins σ H s'->Q (.int kvs.length t) s'):wpAny (model X.prog X.w) A (call (.builtin "len") [.ref a]) Q E s:=by obtain⟨z,hd,U,rel,J⟩:=pW I.KB e;refine call_len_dict hd J (by rw[<-rel.length];rw[sizeLine_eq] at z;lia) ?_;rw[<-rel.length];exact h _ _<|I.tok _
end
def GZ(i:Expr):Prop:=∀I J,subscripted i false I J=operate [I,J] (getItem I J)
def Rn{w:aan}{slice:Expr}{T id:aap}
 (t:typeLookup (.type T) "__getitem__" = pure (some<|.builtin id)) (hs:GZ slice)
 (h:wpAny (model prog w) A (eval value env) (λo U=>wpAny (model prog w) A (eval slice env) (λi I=>I.TypeIs o T/\wpAny (model prog w) A (getItem o i) Q E I) E U) E s):
 wpAny (model prog w) A (eval (.Subscript value slice pos) env) Q E s:=by
 refine Subscript_<|A8 h (λo U j=>A8 j (λi I J=>?_) λ_ _ x=>x) λ_ _ x=>x;obtain⟨p,J⟩:=J;unfold subscriptTail;refine Aa ?_;rw[getitemInPython_of_ne p.not_modules];refine Aa<|wpAny_specialOf p t ?_;have jd:wpAny (model prog w) A (subscripted slice false o i) (λr g=>wpAny (model prog w) A (letTemporaryGo value o r >>= λ_=>pure r) Q E g) E I:=by rw[hs o i];exact wpAny_operating<|A8 J (λr g l=>Aa<|wpAny_letTemporaryGo<|Am l) λ_ _ x=>x
 first
  |exact Am<|Aa jd
  |exact Aa<|Am<|Aa jd
  |exact Aa jd
def xB{a:Addr}{y:V}{o:aar}(I:z0 X pins σ H s)(g:sv H a y o):s.TypeIs (.ref a) "dict" := by
 rcases g with⟨J,k,e,_,_⟩|⟨J,k,b,e,_,_,_⟩
 .obtain⟨_,_,j,_,U⟩:=pW I.KB e;exact U.typeIs
 .obtain⟨_,_,l,_,U⟩:=vC I.KB e;exact U.typeIs
def Ro(td ty:TE):TE:=λσ H Q=>td σ H λx H1=>ty σ H1 λy H2=>∃a v,x=.ref a/\sv H2 a y (some v)/\Q v H2
def Rp(td ty tv:TE):TS:=λD σ H=>tv σ H λv H1=>td σ H1 λx H2=>ty σ H2 λy J=>∃a I,x=.ref a/\IX J a y v I/\D.nx σ I
section
variable {i:Expr}{td ty tv:TE}
def Rq(p:X.A.units+1<cLine)(r:PE X o td)(hi:PE X i ty)(hs:GZ i):PE X (.Subscript o i pos) (Ro td ty):=by intro J s j H Q I h;refine Rn DH.lookup hs<|wy (r J s j H _ I h) λu t x C T rx q1=>w9 (hi J t j C _ T q1) λiv s2 ⟨y,H2,l,ry,a,v,ex,g,q2⟩=>?_;subst ex;obtain rfl:u=Value.ref a:=rx;exact{xB l g,Ri p l g ry λw' s3 I3 U=>{(v),H2,I3,U,q2}}
def Rr(j:X.A.units+1<cLine)(l:PE X o td)(hi:PE X i ty)(p:PE X value tv)(hs:swapsWith value (some<|.Subscript o i fm) pos.line X.env=pure false):
 PS X (.Assign [.Subscript o i fm] value pos) (Rp td ty tv):=by
 intro J s U H D I h;refine wpAny_Assign_Subscript (wy (p J s U H _ I h) λr t v C T rv q1=>wy (l J t U C _ T q1) λu s2 x H2 I2 rx q2=>w9 (hi J s2 U H2 _ I2 q2) λiv s3 ⟨y,H3,I3,ry,a,H4,ex,g,q3⟩=>?_) hs;subst ex;obtain rfl:u=Value.ref a:=rx;exact Rl j I3 g ry rv λs4 I4=>{(U),H4,I4,q3}
end
def vH{P:aam}{w:aan}(h:aao)(I:sysModules<h.objs.size):xl P w H (h.push {cls:=.type "dict",data:=.dict #[]}) h.objs.size (.dK []):=
 ⟨Bb _,beq_eq_false_iff_ne.mpr<|AL<|A5 I,[],.nil,Heap.DictOf.new h⟩
def Rs:TE:=λ_ H Q=>∀p,H p=none->Q (.ref p) (upd H p<|.dK [])
def Rt:PE X (.Dict [] [] pos) Rs:=λJ s U H Q I h=>
 wpAny_Dict_empty ⟨.ref s.heap.objs.size,_,I.laid (a:=s.heap.objs.size) (o:=.dK []) (t':=s.toks) (λ_ _ q=>wl _ q) (Aj _)<|vH s.heap I.big,rfl,h _<|I.KB.fresh<|Aj _⟩
def si:List (TE×TE)->St->Hp->(List (V×V)->Hp->Prop)->Prop
 |[],_,H,Q=>Q [] H
 |(tk,tv)::r,σ,H,Q=>tk σ H λx H1=>tv σ H1 λy H2=>si r σ H2 λps I=>Q ((x,y)::ps) I
abbrev VV:List (V×V)->List (aak×aak)->Prop:=Paired λp q=>zg p.1 q.1/\zg p.2 q.2
def E7(X:Cx)(pos:Pos)(keys:List<|Option Expr)(values:aad)(I:List<|TE×TE):Prop:=
 ∀(pins:List<|Addr×Obj) (s:aal) (σ:St) (H:Hp) (Q:List (V×V)->Hp->Prop),z0 X pins σ H s->si I σ H Q->
  _S X (evalPairs<|pairTrees keys values X.env pos) (λvs s'=>∃ps H',z0 X pins σ H' s'/\VV ps vs/\Q ps H') X.xe s
def IZ :E7 X pos [] [] []:=λJ s U H Q I h=>pairTrees_nil_walk {[],H,I,.nil,h}
def cM{k v:Expr}{ks:List<|Option Expr}{vs:aad}{tk tv:TE}{U:List<|TE×TE}(j:PE X k tk)(l:PE X v tv)(o:E7 X pos ks vs U):
 E7 X pos (some k::ks) (v::vs) ((tk,tv)::U):=λJ s g H Q I h=>
 pairTrees_cons_walk (wy (j J s g H _ I h) λu p x r t C T=>wy (l J p g r _ t T) λw2 s2 y H2 I2 ry q2=>
  w9 (o J s2 g H2 _ I2 q2) λws s3 ⟨ps,H3,I3,rel,q3⟩=>{(x,y)::ps,H3,I3,.cons {(C),ry} rel,q3})
def gL(kvs more:List<|zr×V):List (zr×V):=more.foldl (λI J=>eG I J.1 J.2) kvs
def KV.merge:∀{more:List<|zr×V} {I:List<|zr×aak} {kvs:List<|zr×V} {vs:List<|zr×aak},KV more I->KV kvs vs->KV (gL kvs more) (merged vs I):=by
 intro more I kvs vs r;unfold KV at r
 induction r generalizing kvs vs with
 |nil=>intro q;exact q
 |@cons p q g j h t J=>
  intro U;have e:KV (eG kvs p.1 p.2) (stored vs q.1 q.2):=by have:=U.put p.1 h.2;rw[<-h.1];exact this
  exact J e
theorem gC:∀(more kvs:List<|zr×V),(gL kvs more).length<=kvs.length+more.length
 |[],kvs=>by show kvs.length<=kvs.length+0;lia
 |p::r,kvs=>by have I:=gC r<|eG kvs p.1 p.2;have J:=fD kvs p.1 p.2;show(gL (eG kvs p.1 p.2) r).length<=_;rw[Ap];lia
theorem ou{P:aam}{w:aan}:∀{kvs:List<|zr×V} {ws:List<|aak×aak},VV (kvs.map λJ=>(kV J.1,J.2)) ws->∃I,Carries (xq P w) ws I/\KV kvs I
 |[],_,r=>by rw[Cm] at r;cases r;exact{[],True.intro,.nil}
 |p::kvs,_,r=>by
  rw[AI] at r;cases r with
  |@cons a b as bs h t=>
   obtain⟨I,c,q⟩:=ou (P:=P) (w:=w) t;obtain⟨b1,b2⟩:=b;exact{(p.1,b2)::I,{fv h.1,rfl,c},.cons {(rfl),h.2} q}
def Rv(I:List<|TE×TE):TE:=λσ H Q=>∀p,H p=none->si I σ (upd H p<|.dK []) λps H2=>H2 p=some (.dK [])/\∃kvs:List (zr×V),ps=kvs.map (λJ=>(kV J.1,J.2))/\kvs.length<=15/\Q (.ref p) (upd H2 p<|.dK<|gL [] kvs)
def Rw{J:List<|TE×TE}(h:E7 X pos keys values J)(U:keys.all (·.isSome)=true)(t:keys.length=values.length)(C:keys≠[])
 (p:keys.length<=15):PE X (.Dict keys values pos) (Rv J):=by
 intro g s T H Q I q;have hn:=I.KB.fresh<|Aj s.heap.objs.size;have I1:=I.laid (a:=s.heap.objs.size) (o:=.dK []) (h':=s.heap.push {cls:=.type "dict",data:=.dict #[]}) (t':=s.toks) (λ_ _ q=>wl _ q) (Aj _)<|vH s.heap I.big;refine wpAny_Dict_walk (knd:=xq X.prog X.w) U t C p<|w9 (h g _ T _ _ I1<|q _ hn) λws s2 ⟨ps,H2,r,rel,e,j,ep,lk,q2⟩=>?_;subst ep;obtain⟨rs,c,rk⟩:=ou (P:=X.prog) (w:=X.w) rel;obtain⟨z,hd,a0,r0,dd⟩:=IW r.KB e;cases r0;refine{rs,c,dd,λh' l hs=>{.ref s.heap.objs.size,_,?_,rfl,q2}};have hz:(gL [] j).length<=sizeLine:=by have h1:=gC j [];rw[BR] at h1;rw[sizeLine_eq];lia
 have he:∃q,h'.get? s.heap.objs.size=some q:=let ⟨q,_,_,hq,_⟩:=l;⟨q,hq⟩;exact uR r (by rw[e];exact True.intro) hs he<|IY hz hd (rk.merge .nil) l
section
variable {a:Addr}{y d:V}{r:aak}{o:aar}
end
section
variable {f:Expr}{td ty tx:TE}
end
section
variable {a:Addr}{kvs:List<|zr×V}
end
section
variable {a:Addr}{y:V}
end
section
section
open PySem.SeqAt
open PySem.AutoSeq1 (wpAny_loadPart')
section
open PySem.MeetsSeq PySem.MeetsSeq2 PySem.MeetsSeq3
end
section
variable {w:aan}
def KM(n d:Nat):aah->Nat
 |none=>d
 |some v=>if v<0 then(v+(n:Int)).toNat else min v.toNat n
def _d(n d:Nat):KM n d none=d:=rfl
def SZ(n d k:Nat):KM n d (some (k:Int))=min k n:=by show(if (k:Int)<0 then((k:Int)+(n:Int)).toNat else min (k:Int).toNat n)=min k n;rw[Az (by lia),BF]
def sIx_le(n d:Nat)(hd:d<=n)(o:aah):KM n d o<=n:=by
 cases o with
 |none=>exact hd
 |some v=>
  show(if v<0 then(v+(n:Int)).toNat else min v.toNat n)<=n;by_cases I:v<0
  .rw[AC I];lia
  .rw[Az I];exact Nat.min_le_right _ _
def I0(v:Int)(n d:Nat):(if v<0 then max (v+(n:Int)) 0 else min v (n:Int))=((KM n d (some v):Nat):Int):=by
 show(if v<0 then max (v+(n:Int)) 0 else min v (n:Int))=(((if v<0 then(v+(n:Int)).toNat else min v.toNat n):Nat):Int);by_cases I:v<0
 .simp only[AC I];lia
 .simp only[Az I];lia
def yQ(lo hi:aah)(n:Nat):Builtin.Slice.sliceAdjust lo hi 1 (n:Int)=(((KM n 0 lo:Nat):Int),(KM n n hi:Int)):=by
 have I:¬((1:Int)<0):=by lia
 unfold Builtin.Slice.sliceAdjust;simp only[I,if_false];refine Prod.ext ?_ ?_
 .cases lo with|none=>rfl|some v=>exact I0 v n 0
 .cases hi with|none=>rfl|some v=>exact I0 v n n
def zM(i j:Nat):Builtin.Slice.slicePlaces (i:Int) (j:Int) 1=j-i:=by
 unfold Builtin.Slice.slicePlaces;have I:(1:Int) > 0:=by lia
 simp only[I,if_true,Int.ediv_one];split<;>lia
def oj{v:aak}{o:aah}{Q:aah->aal->Prop}(p:IsPart v o)(h:Q o s):wpAny (model prog w) A (Builtin.Slice.slicePartIndex v) Q E s:=by cases p with|none=>exact slicePart_none h|int i t=>exact slicePart_int h
def kG{j:Addr}{U g:aak}{lo hi:aah}{n:Nat}{Q:Int×Int×Nat->aal->Prop}(hs:s.heap.IsSliceOf j U g .none)(pl:IsPart U lo)(l:IsPart g hi)
 (h:Q (((KM n 0 lo:Nat):Int),1,KM n n hi-KM n 0 lo) s):wpAny (model prog w) A (Builtin.Slice.sliceApplied (.ref j)<|pure (n:Int)) Q E s:=by
 obtain⟨os,I,o,J⟩:=id hs;unfold Builtin.Slice.sliceApplied Builtin.Slice.sliceFields;refine Aa<|Aa<|Bk I J (x:=U) rfl<|Aa<|Bk I J (x:=g) rfl<|Aa<|Bk I J (x:=.none) rfl<|Am ?_;refine Aa<|slicePart_none ?_;show wpAny _ _ (if ((1:Int)==0)=true then _ else _) _ _ s;rw[Az (by decide)];refine Aa<|oj pl<|Aa<|oj l<|Aa<|Am ?_;show wpAny _ _ (match Builtin.Slice.sliceAdjust lo hi 1 (n:Int) with|(lo,hi)=>pure (lo,(1:Int),Builtin.Slice.slicePlaces lo hi 1)) _ _ s;rw[yQ lo hi n];show wpAny _ _ (pure (((KM n 0 lo:Nat):Int),(1:Int),Builtin.Slice.slicePlaces ((KM n 0 lo:Nat):Int) (KM n n hi:Int) 1)) _ _ s;rw[zM];exact Am h
def Rx(xs:aaa)(i k:Nat):((List.range k).filterMap λ(m:Nat)=>xs[((i:Int)+(m:Int)*1).toNat]?).toArray=((xs.toList.drop i).take k).toArray:=by
 have e:(λ(m:Nat)=>xs[((i:Int)+(m:Int)*1).toNat]?)=λm=>xs[i+m]?:=by
  funext m;have:((i:Int)+(m:Int)*1).toNat=i+m:=by lia
  rw[this]
 rw[e];have:=pick_run xs i k;rw[List.filterMap_map] at this;have I:((λx=>xs[x]?)∘λx=>i+x)=λm=>xs[i+m]?:=rfl;rw[I] at this;rw[this]
def _t{t U:Addr}{items:aaa}{p r:aak}{lo hi:aah}(J:IsTup s.heap t items)(hs:s.heap.IsSliceOf U p r .none)(pl:IsPart p lo)(C:IsPart r hi)
 (hw:¬(KM items.size 0 lo=0/\KM items.size items.size hi=items.size))
 (h:Q (.ref s.heap.objs.size) {s with heap:=s.heap.push {cls:=.type "tuple",data:=.seq ((items.toList.drop<|KM items.size 0 lo).take<|KM items.size items.size hi-KM items.size 0 lo).toArray}})
 (hsz:items.size<=sizeLine):wpAny (model prog w) A (getItem (.ref t)<|.ref U) Q E s:=by
 have I:sizeOk (.seq ((items.toList.drop<|KM items.size 0 lo).take<|KM items.size items.size hi-KM items.size 0 lo).toArray):=by show((items.toList.drop<|KM items.size 0 lo).take<|KM items.size items.size hi-KM items.size 0 lo).toArray.size<=sizeLine;rw[Au,AS,BH,A7];lia
 have hj:KM items.size items.size hi<=items.size:=sIx_le _ _ (Aj _) hi;obtain⟨os,g,j,T⟩:=id hs;have l:s.TypeIs (.ref U) "slice" := {(os),g,j};unfold getItem
 try with_reducible refine Bm ?_
 first|refine Aa (Am ?_)|skip
 refine Aa<|wpAny_sequenceKey J.typeIs (by decide) ?_;refine Aa (wpAny_callSpecial?_slot (name:=Str.ofString "__getitem__") J.typeIs Cr
  (wpAny_call_entry Cr J.typeIs entry_tuple_getitem ?_<|args_tuple_getitem _ _))
 show wpAny _ _ (Builtin.Tuple.tupleItemsOf (.ref t) >>= _) _ _ s;refine Aa<|tupleItemsOf_ J ?_;refine Aa<|wpAny_typeOf l ?_;rw[AC (by decide)];refine Aa<|kG hs pl C ?_;have o:¬((((KM items.size 0 lo:Nat):Int)==0&&(1:Int)==1&&(KM items.size items.size hi-KM items.size 0 lo)==items.size)=true):=by intro q;rw[Be,Be] at q;have q1:((KM items.size 0 lo:Nat):Int)=0:=eq_of_beq q.1.1;have q2:KM items.size items.size hi-KM items.size 0 lo=items.size:=eq_of_beq q.2;exact hw {by lia,by lia}
 show wpAny _ _ (if (((KM items.size 0 lo:Nat):Int)==0&&(1:Int)==1&&(KM items.size items.size hi-KM items.size 0 lo)==items.size)=true then _ else _) _ _ s;rw[Az o,Rx]
 first
  |exact Aa (m:=Builtin.Tuple.tupleExact _)<|Bt (Am {_,rfl,Am h}) I
  |exact Aa (m:=Builtin.Tuple.tupleExact _)<|Bt (Aa<|Am<|Am {_,rfl,Am h}) I
  |exact Aa<|Aa (m:=Builtin.Tuple.tupleExact _)<|Bt (Am<|Am {_,rfl,Am h}) I
  |exact Aa<|Aa (m:=Builtin.Tuple.tupleExact _)<|Bt (Am {_,rfl,Am h}) I
end
end
end
abbrev TO:=St->Hp->(aah->Hp->Prop)->Prop
def PO(X:Cx)(e:Option Expr)(t:TO):Prop:=
 ∀(pins:List<|Addr×Obj) (s:aal) (σ:St) (H:Hp) (Q:aah->Hp->Prop),z0 X pins σ H s->t σ H Q->
  _S X (evalPart e X.env) (λu s'=>∃o H',z0 X pins σ H' s'/\IsPart u o/\Q o H') X.xe s
def Ry:TO:=λ_ H Q=>Q none H
def Rz(t:TE):TO:=λσ H Q=>t σ H λx H1=>∃i,x=.int i/\Q (some i) H1
section
variable {te:TE}{lo hi:Option Expr}{tl th:TO}
def RA:PO X none Ry:=by intro J s U H Q I h;rw[evalPart_none];exact Am {none,H,I,.none,h}
def RB(h:PE X e te):PO X (some e) (Rz te):=by intro J s U H Q I hw;rw[evalPart_some];refine wy (h J s U H _ I hw) λu p x g j l o=>?_;obtain⟨i,rfl,q⟩:=o;obtain⟨t,rfl⟩:=l;exact{some i,g,j,.int i t,q}
def u4(X:Cx)(r:V->aah->aah->Hp->VK->Prop):Prop:=
 ∀(pins:List<|Addr×Obj) (s:aal) (σ:St) (H:Hp) (x:V) (v I J:aak) (lo hi:aah) (U:Addr) (Q:VK),z0 X pins σ H s->zg x v->s.heap.IsSliceOf U I J .none->IsPart I lo->IsPart J hi->r x lo hi H Q->
  ∃T id,typeLookup (.type T) "__getitem__" = pure (some<|.builtin id)/\s.TypeIs v T/\_S X (getItem v<|.ref U) (EP X pins σ Q) X.xe s
def u4.or{U:V->aah->aah->Hp->VK->Prop}(h:u4 X r)(h':u4 X U):u4 X (λx lo hi H Q=>r x lo hi H Q\/U x lo hi H Q):=by
 intro J s g H x v j l lo hi o Q I p t pl C q;rcases q with q|q
 .exact h J s g H x v j l lo hi o Q I p t pl C q
 .exact h' J s g H x v j l lo hi o Q I p t pl C q
def RC(r:V->aah->aah->Hp->VK->Prop)(te:TE)(tl th:TO):TE:=λσ H Q=>te σ H λx H1=>tl σ H1 λl H2=>th σ H2 λu I=>r x l u I Q
def RE(t:u4 X r)(C:PE X e te)(hl:PO X lo tl)(hu:PO X hi th):PE X (.Subscript e (.Slice lo hi none p2) pos) (RC r te tl th):=by intro J s g H Q I h;refine Subscript_<|w9 (C J s g H _ I h) λv s1 ⟨x,H1,I1,r1,q1⟩=>?_;refine wpAny_Slice<|w9 (hl J s1 g H1 _ I1 q1) λj s2 ⟨l,H2,I2,pl,q2⟩=>w9 (hu J s2 g H2 _ I2 q2) λo U ⟨u,p,I3,pu,q3⟩=>?_;rw[evalPart_none];refine Am ?_;have I4:z0 X J g p {U with heap:=U.heap.push {cls:=.type "slice",data:=.fields #[j,o,.none]}}:=I3.kept (t':=U.toks) λb ob q=>wl _ q;obtain⟨T,id,hT,ht,hg⟩:=t J {U with heap:=U.heap.push {cls:=.type "slice",data:=.fields #[j,o,.none]}} g p x v j o l u U.heap.objs.size Q I4 r1 (Heap.IsSliceOf.new ..) pl pu q3;show _S X (subscriptTail e (.Slice lo hi none p2) v<|.ref U.heap.objs.size) (EP X J g Q) X.xe {U with heap:=U.heap.push {cls:=.type "slice",data:=.fields #[j,o,.none]}};exact tail_any (ops:=[.ref U.heap.objs.size,v]) ht hT hg (by with_unfolding_all rfl)
def xH(xs:GT)(lo hi:aah):GT:=(xs.drop<|KM xs.length 0 lo).take<|KM xs.length xs.length hi-KM xs.length 0 lo
def lE(xs:GT)(lo hi:aah):(xH xs lo hi).length<=xs.length:=by unfold xH;rw[AS,BH];lia
def RF(K:Af):V->aah->aah->Hp->VK->Prop:=λx lo hi H Q=>∃a xs,x=.ref a/\db K H a xs/\
 ¬(KM xs.length 0 lo=0/\KM xs.length xs.length hi=xs.length)/\∀p,H p=none->Q (.ref p) (upd H p<|.tup<|xH xs lo hi)
def RG:u4 X (RF X.K):=by
 rintro l s σ H x v vl vu lo g sl Q I C T pl pu⟨a,U,rfl,hx,hw,q⟩;cases C;obtain⟨j,r,p,t⟩:=I.tuple hx;have J:j.toArray.size=U.length:=by rw[Au];exact r.length.symm
 refine{"tuple",_,Cr.lookup,p.typeIs,?_};refine _t p T pl pu (by rw[J];exact hw) ?_ (by rw[J];exact t);rw[J];refine{.ref s.heap.objs.size,_,I.laid (t':=s.toks) (o:=.tup<|xH U lo g) (λb ob q=>wl _ q) (Aj _) ?_,rfl,q _<|I.KB.fresh<|Aj _};exact{AF (lE U lo g) t,_,(r.drop<|KM U.length 0 lo).take<|KM U.length U.length g-KM U.length 0 lo,IsTup.new _ _}
end
def s_(n:Nat)(i:Int):Option Nat:=if 0<=i then(if i<n then some i.toNat else none) else if -(n:Int)<=i then some (i+n).toNat else none
def fS(xs:List α)(i:Int):Option α:=(s_ xs.length i).bind λj=>xs[j]?
def I9{n:Nat}{i:Int}(h:s_ n i=some j):seqIndex? i n=some j/\j<n /\ -(n:Int)<=i/\i<n:=by
 unfold s_ at h;by_cases J:0<=i
 .rw[AC J] at h;by_cases I:i<n
  .rw[AC I] at h;have e:i.toNat=j:=A1 h;exact{by rw[seqIndex_of J I,e],by lia,by lia,I}
  .rw[Az I] at h;cases h
 .rw[Az J] at h;by_cases I : -(n:Int)<=i
  .rw[AC I] at h;have e:(i+n).toNat=j:=A1 h;exact{by rw[seqIndex_neg (by lia) I,e],by lia,I,by lia}
  .rw[Az I] at h;cases h
def tS{xs:List α}{i:Int}{v:α}(h:fS xs i=some v):∃j,seqIndex? i xs.length=some j/\xs[j]?=some v/\j<xs.length /\ -(xs.length:Int)<=i/\i<xs.length:=by
 unfold fS at h;cases e:s_ xs.length i with
 |none=>rw[e] at h;cases h
 |some j=>
  rw[e] at h;obtain⟨I,J,U,g⟩:=I9 e;exact{(j),I,h,J,U,g}
def jk{xs:List α}{v:α}(h:xs[j]?=some v):fS xs (j:Int)=some v:=by
 have I:j<xs.length:=(AJ.mp h).1;have e:s_ xs.length (j:Int)=some j:=by unfold s_;rw[AC (by lia),AC (by lia)];simp
 unfold fS;rw[e];exact h
def i8(b:Expr):Prop:=∀o i,subscripted b false o i=operate [o,i] (getItem o i)
def IxR(X:Cx)(r:R2):Prop:=
 ∀(value slice:Expr) (pins:List<|Addr×Obj) (s:aal) (σ:St) (H:Hp) (x y:V) (v u:aak) (Q:VK),z0 X pins σ H s->zg x v->zg y u->r x y H Q->
  subscripted slice false v u=operate [v,u] (getItem v u)->_S X (subscriptTail value slice v u) (EP X pins σ Q) X.xe s
def Ja(X:Cx)(id:aap)(r:V->GT->Hp->VK->Prop):Prop:=
 ∀(pins:List<|Addr×Obj) (s:aal) (σ:St) (H:Hp) (x:V) (xs:GT) (v:aak) (us:Z_) (Q:VK),z0 X pins σ H s->zg x v->ze xs us->r x xs H Q->
  _S X (call (.builtin id)<|v::us) (EP X pins σ Q) X.xe s
section
variable {a b:Expr}{ta tb:TE}
def G1{r:R2}(U:IxR X r)(g:PE X a ta)(j:PE X b tb)(hs:i8 b):PE X (.Subscript a b pos) (Fu r ta tb):=by intro J s l H Q I h;exact Subscript_<|GS g j I h λv u o x y p t C T q=>U a b J o l p x y v u Q t C T q<|hs _ _
def RH(K:Af):R2:=λx y H Q=>∃p xs i v,x=.ref p/\y=.int i/\aV K H p xs/\fS xs i=some v/\Q v H
def RI(K:Af):R2:=λx y H Q=>∃p xs i v,x=.ref p/\y=.int i/\db K H p xs/\fS xs i=some v/\Q v H
def RJ:R2:=λx y H Q=>∃z i c,x=.str z/\y=.int i/\z.length<=sizeLine/\fS z.cps.toList i=some c/\Q (.str ⟨#[c]⟩) H
def RK:IxR X (RH X.K):=by
 intro value slice J s C H x y v u Q I rx ry h T;obtain⟨p,xs,i,z,rfl,rfl,hq,he,q⟩:=h;cases rx;obtain⟨t,rfl⟩:=ry;obtain⟨g,r,pl,hz⟩:=I.list hq;obtain⟨j,U,h2,h3,h4,h5⟩:=tS he;obtain⟨w,ew,l⟩:=r.get h2;have hl:=r.length;have hn:=kE;have jd:EP X J C Q w s:={(z),H,I,l,q};by_cases h0:0<=i
 .have o:i.toNat=j:=by rw[seqIndex_of h0 h5] at U;exact A1 U
  exact item_listR pl.isList h0 (by lia) (by rw[o];simpa using ew) jd T
 .have o:(i+(g.toArray.size:Int)).toNat=j:=by rw[seqIndex_neg (by lia) h4] at U;rw[Au,<-hl];exact A1 U
  exact subscriptTail_builtinR (x:=w) pl.isList.typeIs slot_list_getitem.lookup
   (wpAny_getItem_list_neg (Q:=λr s'=>r=w/\EP X J C Q r s') pl.isList (by lia) (by rw[Au]<;>lia) (by lia) (by rw[o];simpa using ew) ⟨rfl,jd⟩) T
def RL:IxR X (RI X.K):=by
 intro value slice J s g H x y v u Q I l o h C;obtain⟨p,xs,i,z,rfl,rfl,T,he,q⟩:=h;cases l;obtain⟨t,rfl⟩:=o;obtain⟨a0,r,pl,hz⟩:=I.tuple T;obtain⟨j,h1,h2,h3,h4,h5⟩:=tS he;obtain⟨w,ew,U⟩:=r.get h2;have hl:=r.length;have hn:=kE;have jd:EP X J g Q w s:={(z),H,I,U,q};exact subscriptTail_builtinR (x:=w) pl.typeIs slot_tuple_getitem.lookup
  (getItem_tuple (j:=j) (Q:=λr s'=>r=w/\EP X J g Q r s') pl (by lia) (by lia) (by rw[Au,<-hl];exact h1) (by simpa using ew) ⟨rfl,jd⟩) C
def RM:IxR X RJ:=by
 intro value slice J s σ H x y v u Q I g l h o;obtain⟨z,i,c,rfl,rfl,hz,p,q⟩:=h;obtain⟨t,rfl⟩:=g;obtain⟨t',rfl⟩:=l;obtain⟨j,U,r,h3,C,T⟩:=tS p;have hl:z.cps.toList.length=z.length:=by simp[Str.length]
 rw[hl] at U C T;have hn:=kE;exact tail_any (typeIs_str s z t) slot_str_getitem.lookup (getItem_str (c:=c) (by have e1:decide (i < -(2 ^ 63:Int))=false:=Aw (by lia);have e2:decide (i>=2 ^ 63)=false:=Aw (by lia);rw[e1,e2,Bool.or_false]) (by rw[U];simpa using r) {.str {#[c]},H,I.tok _,{_,rfl},q}) o
def xR(eA:Z_)(n j:Nat)(u:aak):Obj.mapSeq (·.setIfInBounds j u) {cls:=.type "list",data:=.seq eA.toArray n}={cls:=.type "list",data:=.seq (eA.set j u).toArray n}:=by simp[Obj.mapSeq]
def z0.lst{p:Addr}(I:z0 X pins σ H s)(h:H p=some (.lst xs)):
 ∃(eA:Z_) (n:Nat),ze xs eA/\s.heap.get? p=some {cls:=.type "list",data:=.seq eA.toArray n}/\xs.length<=sizeLine:=by
 obtain⟨z,eA,n,r,e⟩:=I.KB p _ h;exact{(eA),n,r,e,z}
def z0.lstUpd{p:Addr}{ys:GT}{its':Z_}{n J:Nat}{f:Obj->Obj}(I:z0 X pins σ H s)(h:H p=some (.lst xs))
 (g:s.heap.get? p=some {cls:=.type "list",data:=.seq eA.toArray n}) (U:f {cls:=.type "list",data:=.seq eA.toArray n}={cls:=.type "list",data:=.seq its'.toArray J}) (r:ze ys its') (hz:ys.length<=sizeLine) (t:Nat) (l:0<t:=by walk_at "t"):
 z0 X pins σ (upd H p<|.lst ys) {s with heap:=s.heap.update p f,toks:=t}:=by
 have e:(s.heap.update p f).get? p=some {cls:=.type "list",data:=.seq its'.toArray J}:=by rw[Ex f g (by rw[U]<;>rfl),U]
 refine I.write (x:=p) (e:=p) (by rw[h];trivial) (.inl rfl) (λb u j q=>(Ey _ _<|AL j).trans q) {_,e} ?_;exact{(hz),its',J,r,e}
def RN:V->V->V->Hp->(Hp->Prop)->Prop:=λo i v H Q=>∃p xs k j,o=.ref p/\i=.int k/\H p=some (.lst xs)/\s_ xs.length k=some j/\Q (upd H p<|.lst<|xs.set j v)
def RP:IA X RN:=by
 rintro J s σ H o i v ov iv u Q I ro ri rv⟨p,xs,k,j,rfl,rfl,hp,hj,q⟩;cases ro;obtain⟨t,rfl⟩:=ri;obtain⟨U,n,r,l,hz⟩:=I.lst hp;obtain⟨g,h2,h3,h4⟩:=I9 hj;have C:=r.length;have hn:=kE;have I':z0 X J σ (upd H p<|.lst<|xs.set j v) {s with heap:=s.heap.update p (Obj.mapSeq (·.setIfInBounds j u))}:=
  I.lstUpd hp l (xR U n j u) (r.set rv j) (by rw[List.length_set];exact hz) s.toks
 by_cases h0:0<=k
 .have T:k.toNat=j:=by rw[seqIndex_of h0 h4] at g;exact A1 g
  exact PySem.W.ki_setAt l h0 (by lia) (by rw[Au,<-C];exact h4) (by rw[T];exact{_,I',q})
 .have T:(k+(U.toArray.size:Int)).toNat=j:=by rw[seqIndex_neg (by lia) h3] at g;rw[Au,<-C];exact A1 g
  exact PySem.W.ki_setBack l (by lia) (by rw[Au,<-C];exact h3) (by lia) (by rw[T];exact{_,I',q})
def u3(lo hi:aah)(n:Nat):(sliceBounds lo hi none n).1=((KM n 0 lo:Nat):Int)/\(sliceBounds lo hi none n).2.1=((KM n n hi:Nat):Int)/\(sliceBounds lo hi none n).2.2=1:=by
 refine{?_,?_,rfl}
 .cases lo with
  |none=>simp[sliceBounds,KM]
  |some i=>
   simp only[sliceBounds,KM,Option.getD_none,show(1:Int) > 0 by decide,if_true];by_cases h:i<0
   .simp only[h,if_true]<;>lia
   .simp only[h,if_false]<;>lia
 .cases hi with
  |none=>simp[sliceBounds,KM]
  |some i=>
   simp only[sliceBounds,KM,Option.getD_none,show(1:Int) > 0 by decide,if_true];by_cases h:i<0
   .simp only[h,if_true]<;>lia
   .simp only[h,if_false]<;>lia
def qP(eA:Z_)(lo hi:aah):slicePick eA.toArray lo hi none=((eA.drop<|KM eA.length 0 lo).take<|KM eA.length eA.length hi-KM eA.length 0 lo).toArray:=by obtain⟨I,J,U⟩:=u3 lo hi eA.toArray.size;unfold slicePick;rw[I,J,U];simp only[sliceRange_one,pick_run,Au]<;>rfl
def RQ(K:Af):V->aah->aah->Hp->VK->Prop:=λx lo hi H Q=>∃a xs,x=.ref a/\aV K H a xs/\∀p,H p=none->Q (.ref p) (upd H p<|.lst<|xH xs lo hi)
def RS:u4 X (RQ X.K):=by rintro j s σ H x v vl vu lo g sl Q I p t pl C⟨a,J,rfl,T,q⟩;cases p;obtain⟨a0,r,l,hz⟩:=I.list T;have U:=r.length;refine{"list",_,slot_list_getitem.lookup,l.isList.typeIs,?_};refine wpAny_getItem_list_slice l.isList t pl C .none (by simp) ?_ (by rw[Au]<;>lia);rw[qP,<-U];refine{.ref s.heap.objs.size,_,I.laid (t':=s.toks) (o:=.lst<|xH J lo g) (λb ob q=>wl _ q) (Aj _) ?_,rfl,q _<|I.KB.fresh<|Aj _};exact{AF (lE J lo g) hz,_,0,(r.drop<|KM J.length 0 lo).take<|KM J.length J.length g-KM J.length 0 lo,ya _ rfl}
def ai:V->Bool
 |.KF=>true
 |.bl _=>true
 |.int _=>true
 |.str _=>true
 |_=>false
def gb:V->V->Bool
 |.KF,.KF=>true
 |.bl a,.bl b=>a==b
 |.bl a,.int b=>(if a then 1 else 0)==b
 |.int a,.bl b=>a==(if b then 1 else 0)
 |.int a,.int b=>a==b
 |.str a,.str b=>a==b
 |_,_=>false
def oU{y x:V}{v:aak}(U:zg y u)(I:zg x v)(j:ai y=true)(g:ai x=true):SeqAt.EqAt A s u v (gb y x):=by
 cases y with
 |KF=>
  cases U;cases x with
  |KF=>cases I;exact SeqAt.EqAt.same _
  |bl b=>cases I;exact SeqAt.EqAt.none_bool b
  |int b=>obtain⟨t,rfl⟩:=I;exact SeqAt.EqAt.none_int b t
  |str b=>obtain⟨t,rfl⟩:=I;exact SeqAt.EqAt.none_str b t
  |_=>exact absurd (show false=true from g) AN
 |bl a=>
  cases U;cases x with
  |KF=>cases I;exact SeqAt.EqAt.bool_none a
  |bl b=>cases I;exact SeqAt.EqAt.bool_bool a b
  |int b=>obtain⟨t,rfl⟩:=I;exact SeqAt.EqAt.bool_int a b t
  |str b=>obtain⟨t,rfl⟩:=I;exact SeqAt.EqAt.bool_str a b t
  |_=>exact absurd (show false=true from g) AN
 |int a=>
  obtain⟨J,rfl⟩:=U;cases x with
  |KF=>cases I;exact SeqAt.EqAt.int_none a J
  |bl b=>cases I;exact SeqAt.EqAt.int_bool a J b
  |int b=>obtain⟨t,rfl⟩:=I;exact SeqAt.EqAt.int_int a J b t
  |str b=>obtain⟨t,rfl⟩:=I;exact SeqAt.EqAt.int_str a J b t
  |_=>exact absurd (show false=true from g) AN
 |str a=>
  obtain⟨J,rfl⟩:=U;cases x with
  |KF=>cases I;exact SeqAt.EqAt.str_none a J
  |bl b=>cases I;exact SeqAt.EqAt.str_bool a J b
  |int b=>obtain⟨t,rfl⟩:=I;exact SeqAt.EqAt.str_int a J b t
  |str b=>obtain⟨t,rfl⟩:=I;exact SeqAt.EqAt.str_str a J b t
  |_=>exact absurd (show false=true from g) AN
 |_=>exact absurd (show false=true from j) AN
def xV(x:V)(u:aak):Bool:=match u with
 |.none=>gb .KF x
 |.bool b=>gb (.bl b) x
 |.int i _=>gb (.int i) x
 |.str z _=>gb (.str z) x
 |_=>false
def Jb{x y:V}(r:zg y u)(f:ai y=true):xV x u=gb y x:=by
 cases y with
 |KF=>cases r;rfl
 |bl b=>cases r;rfl
 |int i=>obtain⟨t,rfl⟩:=r;rfl
 |str z=>obtain⟨t,rfl⟩:=r;rfl
 |_=>exact absurd (show false=true from f) AN
theorem gg{x:V}:∀{xs:GT} {us:Z_},ze xs us->xs.all ai=true->us.any (xV x)=xs.any λy=>gb y x
 |_,_,.nil,_=>rfl
 |y::xs,u::us,.cons r t,f=>by rw[DR,Be] at f;rw[Cq,Cq,Jb r f.1,gg t f.2]
def hV{x:V}{v:aak}(J:zg x v)(U:ai x=true):∀{xs:GT} {us:Z_},ze xs us->xs.all ai=true->∀u∈us,SeqAt.EqAt A s u v (xV x u):=by
 intro xs us h
 induction h with
 |nil=>intro _ u I;cases I
 |cons r t g=>
  intro f j I;rw[DR,Be] at f;rcases Aq.mp I with rfl|I
  .rw[Jb r f.1];exact oU r J f.1 U
  .exact g f.2 j I
def xK(x:V)(xs:GT):Bool:=xs.any λy=>gb y x
def G2(K:Af)(neg:Bool):R2:=λx y H Q=>∃p xs,y=.ref p/\(aV K H p xs\/db K H p xs)/\ai x=true/\xs.all ai=true/\Q (.bl<|if neg then !xK x xs else xK x xs) H
def RT:vi X (compareOp .In) (G2 X.K false):=by
 rintro g s C H x y v u Q I j o⟨p,T,rfl,U,l,fs,q⟩;cases o;rcases U with U|U
 .obtain⟨J,r,pl,t⟩:=I.list U;refine SeqAt.in_listAt (xV x) pl.isList (λw hw=>hV j l r fs w (by simpa using hw)) {.bl _,H,I,rfl,?_};rw[show J.toArray.any (xV x)=J.any (xV x) by simp,gg r fs];exact q
 .obtain⟨J,r,pl,t⟩:=I.tuple U;refine SeqAt.in_tupleAt (xV x) pl (λw hw=>hV j l r fs w (by simpa using hw)) {.bl _,H,I,rfl,?_};rw[show J.toArray.any (xV x)=J.any (xV x) by simp,gg r fs];exact q
def tz:vi X (compareOp .NotIn) (G2 X.K true):=by
 rintro g s C H x y v u Q I j o⟨p,T,rfl,U,l,fs,q⟩;cases o;rcases U with U|U
 .obtain⟨J,r,pl,t⟩:=I.list U;refine SeqAt.notIn_listAt (xV x) pl.isList (λw hw=>hV j l r fs w (by simpa using hw)) {.bl _,H,I,rfl,?_};rw[show J.toArray.any (xV x)=J.any (xV x) by simp,gg r fs];exact q
 .obtain⟨J,r,pl,t⟩:=I.tuple U;refine SeqAt.notIn_tupleAt (xV x) pl (λw hw=>hV j l r fs w (by simpa using hw)) {.bl _,H,I,rfl,?_};rw[show J.toArray.any (xV x)=J.any (xV x) by simp,gg r fs];exact q
def tU:zy X (.builtin "len") (λxs H Q=>∃p ys,xs=[.ref p]/\(aV X.K H p ys\/db X.K H p ys)/\Q (.int ys.length) H):=by
 rintro l s C H xs T Q I r⟨p,ys,rfl,U,q⟩;obtain⟨u,rfl,o⟩:=fB r;cases o;have hn:=kE;rcases U with U|U
 .obtain⟨g,j,pl,t⟩:=I.list U;have J:=j.length;exact Calls.call_len_list pl.isList (by simp only[Au]<;>lia) {.int ys.length,H,I.tok _,{s.toks+1,by rw[Au,J]},q}
 .obtain⟨g,j,pl,t⟩:=I.tuple U;have J:=j.length;exact len_tuple pl (by simp only[Au]<;>lia) {.int ys.length,H,I.tok _,{s.toks+1,by rw[Au,J]},q}
def sj:zy X (.builtin "len") (λxs H Q=>∃z,xs=[.str z]/\z.length<=sizeLine/\Q (.int z.length) H):=by rintro J s U H xs g Q I r⟨z,rfl,j,q⟩;obtain⟨u,rfl,t,rfl⟩:=fB r;have l:=kE;exact len_str (by lia) {.int z.length,H,I.tok _,{_,rfl},q}
def sS:zy X (.type "list") (λxs H Q=>∃p ys,xs=[.ref p]/\(aV X.K H p ys\/db X.K H p ys)/\∀l,H l=none->Q (.ref l) (upd H l<|.lst ys)):=by
 rintro t s σ H xs us Q I r⟨p,ys,rfl,C,q⟩;obtain⟨u,rfl,rx⟩:=fB r;cases rx;have jd:∀(J:Z_),ze ys J->ys.length<=sizeLine->∀(U:aao) (g:Nat),(∀b o',s.heap.get? b=some o'->U.get? b=some o')->
  U.get? s.heap.objs.size=some {cls:=.type "list",dict:=none,data:=.seq J.toArray g,slots:=#[]}->EP X t σ Q (.ref s.heap.objs.size) {s with heap:=U}:=λJ j T U g kp e=>
  ⟨.ref s.heap.objs.size,_,I.laid (t':=s.toks) kp (Aj _)<|show xl X.prog X.w _ U _ (.lst ys) from{(T),J,g,j,e},rfl,q _<|I.KB.fresh<|Aj _⟩
 rcases C with C|C
 .obtain⟨J,j,pl,T⟩:=I.list C;have a0:=j.length;obtain⟨o,ho,hc,n,hd⟩:=pl.isList;exact call_list_seq p (.inl rfl) ho hc hd (λU g kp e=>jd J j T U g kp e) (by simp only[Au]<;>lia)
 .obtain⟨J,j,pl,T⟩:=I.tuple C;have a0:=j.length;obtain⟨o,ho,hc,n,hd⟩:=pl;exact call_list_seq p (.inr rfl) ho hc hd (λU g kp e=>jd J j T U g kp e) (by simp only[Au]<;>lia)
def qO:zy X (.type "tuple") (λxs H Q=>∃p ys,xs=[.ref p]/\((aV X.K H p ys/\∀l,H l=none->Q (.ref l) (upd H l<|.tup ys))\/(db X.K H p ys/\Q (.ref p) H))):=by
 rintro J s C H xs us Q I r⟨p,ys,rfl,h⟩;obtain⟨u,rfl,rx⟩:=fB r;cases rx;rcases h with⟨j,q⟩|⟨j,q⟩
 .obtain⟨U,t,pl,T⟩:=I.list j;have a0:=t.length;refine call_tuple_list pl.isList (λg kp=>?_) (by simp only[Au]<;>lia);have I1:z0 X J C H {s with heap:=g}:=I.kept (t':=s.toks) kp;have I2:z0 X J C (upd H g.objs.size<|.tup ys) {s with heap:=g.push {cls:=.type "tuple",data:=.seq U.toArray}}:=
   I1.laid (t':=s.toks) (λb o e=>wl _ e) (Aj _) (show xl X.prog X.w _ _ _ (.tup ys) from{T,U,t,IsTup.new _ _})
  exact{.ref g.objs.size,_,I2,rfl,q _<|I1.KB.fresh<|Aj _}
 .obtain⟨U,t,pl,T⟩:=I.tuple j;exact call_tuple_same pl {.ref p,H,I,rfl,q}
def F5(K:Af)(T:aap)(x:V)(H:Hp):Prop:=match x with
 |.str _=>T = "str"
 |.int _=>T = "int"
 |.ref p=>(T = "list" /\ ∃xs,aV K H p xs)\/(T = "tuple" /\ ∃o,K.lookup p=some o/\o.cls=.type "tuple" /\ o.dict=none)\/
  (T = "dict" /\ ((∃kvs,H p=some (.dK kvs))\/∃kvs,H p=some (.dT kvs)))\/(T = "set" /\ ∃S n,H p=some (.set S n))
 |_=>False
def Jc{T:aap}{x:V}{v:aak}(I:z0 X pins σ H s)(r:zg x v)(ty:F5 X.K T x H):
 s.TypeIs v T/\∀a,v=.ref a->∃ob,s.heap.get? a=some ob/\ob.dict=none:=by
 cases x with
 |str z=>
  obtain⟨t,rfl⟩:=r;cases (show T = "str" from ty);exact{typeIs_str s z t,λ_ e=>nomatch e}
 |int i=>
  obtain⟨t,rfl⟩:=r;cases (show T = "int" from ty);exact{typeIs_int s i t,λ_ e=>nomatch e}
 |ref p=>
  cases r;rcases ty with⟨rfl,xs,j⟩|⟨rfl,o,J,l,hd⟩|⟨rfl,J⟩|⟨rfl,S,n,J⟩
  .obtain⟨C,_,pl,_⟩:=I.list j;refine{pl.isList.typeIs,λa e=>?_};cases e;obtain⟨o,n,e,c,hd,_⟩:=pl;exact{(o),e,hd}
  .refine{{o,I._w p o J,l},λa e=>?_};cases e;exact{o,I._w _ o J,hd}
  .have z:∃o,s.heap.get? p=some o/\o.ExactDict:=by
    rcases J with⟨U,J⟩|⟨U,J⟩
    .obtain⟨_,_,_,_,o,_,_,e,ex,_⟩:=I.KB p _ J;exact{(o),e,ex}
    .obtain⟨_,_,_,_,o,_,_,e,ex,_⟩:=I.KB p _ J;exact{(o),e,ex}
   obtain⟨o,e,ex⟩:=z;refine{{(o),e,ex.1},λa g=>?_};cases g;exact{(o),e,ex.2.1}
  .obtain⟨o,_,_,_,e,ex,_⟩:=I.KB p _ J;refine{{(o),e,ex.1},λa g=>?_};cases g;exact{(o),e,ex.2.1}
 |_=>exact False.elim ty
def RU(K:Af)(T:aap)(r:V->GT->Hp->VK->Prop)(to:TE):TE:=λσ H Q=>to σ H λx H1=>F5 K T x H1/\r x [] H1 Q
def RW(K:Af)(T:aap)(r:V->GT->Hp->VK->Prop)(to:TE)(t:TA):TE:=λσ H Q=>to σ H λx H1=>F5 K T x H1/\t σ H1 λxs H2=>r x xs H2 Q
variable {to:TE}{t:TA}{T id:aap}{r:V->GT->Hp->VK->Prop}
def RX(pa:PlainAttrs T)(slot:Slot T name id)(j:typeOf (.builtin id)=pure (.type "method_descriptor"))(C:Ja X id r)(ho:PE X o to)
 (U:attributeBase o name X.env (eval o X.env)=eval o X.env:=by rfl) (g:(apos.endLine==eS.line)=true:=by rfl):PE X (.Call (.Attribute o name apos) [] [] eS) (RU X.K T r to):=by
 intro J s l H Q I h;refine wpAny_Call_method0_late U g<|w9 (ho J s l H _ I h) λv s1 ⟨x,H1,p,t,ty,q1⟩=>?_;obtain⟨h1,h2⟩:=Jc p t ty;exact{T,id,pa,slot,j,h1,h2,Calls.callWith_builtin rfl<|PySem.evalArgs_none<|C J s1 l H1 x [] v [] Q p t .nil q1}
def Jd(pa:PlainAttrs T)(slot:Slot T name id)(p:typeOf (.builtin id)=pure (.type "method_descriptor"))(hm:Ja X id r)(ho:PE X o to)(ha:PA X (e::es) t)
 (g:attributeBase o name X.env (eval o X.env)=eval o X.env:=by rfl)
 (l:((backTo eS<|starEach (e::es) X.env).all (λx=>!x.1)&&(backToKw eS<|keywordEach [] X.env).all (λx=>x.1.isSome)
  && decide ((e::es).length+([]:List Keyword).length+(if ([]:List Keyword).isEmpty then 0 else 1)<30))=true:=by rfl)
 (j:(apos.endLine==eS.line)=true:=by rfl) (hs:Ep e es X:=by rfl) (U:Er eS es X:=by rfl):
 PE X (.Call (.Attribute o name apos) (e::es) [] eS) (RW X.K T r to t):=by
 intro J s C H Q I h;refine wpAny_Call_method_late g l j rfl<|w9 (ho J s C H _ I h) λv s1 ⟨x,H1,I1,r1,ty,q1⟩=>?_;obtain⟨h1,h2⟩:=Jc I1 r1 ty;refine{T,id,pa,slot,p,h1,h2,?_};have hA:=ha eS J s1 C H1 _ I1 q1;rw[hs] at hA ⊢;refine Calls.callWith_builtin (by show(false||(backTo eS<|starEach es X.env).any (·.1))=false;rw[U]<;>rfl)<|Calls.evalArgs_plain ?_;exact w9 hA λus s2 ⟨vs,H2,I2,r2,q2⟩=>hm J s2 C H2 x vs v us Q I2 r1 r2 q2
end
def gc(X:Cx)(id:aap)(r:V->GT->Hp->VK->Prop):Prop:=
 ∀(pins:List<|Addr×Obj) (s:aal) (σ:St) (H:Hp) (x:V) (xs:GT) (v:aak) (us:Z_) (Q:VK),z0 X pins σ H s->zg x v->ze xs us->r x xs H Q->
  _S X (call (.builtin id)<|v::us) (EP X pins σ Q) X.xe s
def ze.one{x:V}(h:ze [x] us):∃u,us=[u]/\zg x u:=by cases h with|cons r t=>cases t;exact{_,rfl,r}
def ze.two{x y:V}(h:ze [x,y] us):∃u v,us=[u,v]/\zg x u/\zg y v:=by cases h with|cons r t=>cases t with|cons q t=>cases t;exact{_,_,rfl,r,q}
theorem ze.zero:∀{us:Z_},ze [] us->us=[]
 |_,.nil=>rfl
def ze.dropLast(h:ze xs us):ze xs.dropLast us.dropLast:=by
 induction h with
 |nil=>exact .nil
 |cons r t I=>
  cases t with|nil=>exact .nil|cons q J=>exact .cons r I
theorem ze.eraseIdx:∀{xs:GT} {us:Z_} (i:Nat),ze xs us->ze (xs.eraseIdx i) (us.eraseIdx i)
 |_,_,_,.nil=>.nil
 |_,_,0,.cons _ t=>t
 |_,_,i+1,.cons r t=>.cons r<|ze.eraseIdx i t
def y7(l:List α):l.eraseIdx (l.length-1)=l.dropLast:=by
 induction l with
 |nil=>rfl
 |cons a r I=>
  cases r with
  |nil=>rfl
  |cons b r=>
   have e:(a::b::r).length-1=((b::r).length-1)+1:=by have J:(a::b::r).length=r.length+2:=rfl;have U:(b::r).length=r.length+1:=rfl;lia
   rw[e,Cu,I]
   all_goals rfl
theorem rB{α:Type}:∀(l:List α) (i:Nat),(l.eraseIdx i).length<=l.length
 |[],_=>Aj _
 |_::_,0=>Cd _
 |_::r,i+1=>Nat.succ_le_succ<|rB r i
section
variable {b:Addr}{ys:GT}
def z0.lset{its':Z_}{n:Nat}{f:aaa->aaa}(I:z0 X pins σ H s)(J:H l=some (.lst xs))
 (e:s.heap.get? l=some {cls:=.type "list",data:=.seq eA.toArray n}) (U:f eA.toArray=its'.toArray) (g:ze ys its') (hz:ys.length<=sizeLine) (p:0<t':=by walk_at "t"):
 z0 X pins σ (upd H l<|.lst ys) {s with heap:=s.heap.update l<|Obj.mapSeq f,toks:=t'}:=by
 have q:=PySem.IsL.update e f;rw[U] at q;refine I.write (x:=l) (e:=l) (by rw[J];exact trivial) (.inl rfl) (λr u j o=>(Ey s.heap (Obj.mapSeq f)<|AL j).trans o) {_,q} ?_;exact{hz,its',_,g,q}
def z0.lnew(I:z0 X pins σ H s)(J:ze ys eA)(hz:ys.length<=sizeLine)(U:0<t':=by walk_at "t"):
 z0 X pins σ (upd H s.heap.objs.size<|.lst ys) {s with heap:=s.heap.push {cls:=.type "list",data:=.seq eA.toArray},toks:=t'}:=
 I.laid (λ_ _ q=>wl _ q) (Aj _) ⟨hz,eA,0,J,ya _ rfl⟩
theorem z0.fresh(I:z0 X pins σ H s):H s.heap.objs.size=none:=I.KB.fresh<|Aj _
def z0.lstM(I:z0 X pins σ H s)(J:H l=some (.lst xs)):xs.length<=sizeLine/\∃(eA:Z_) (n:Nat),ze xs eA/\xs.length=eA.length/\s.heap.get? l=some {cls:=.type "list",data:=.seq eA.toArray n}:=by obtain⟨z,eA,n,r,e⟩:=I.KB l _ J;exact{(z),eA,n,r,r.length,e}
def RY{n:Nat}(h:n<=sizeLine):Builtin.List.listTooLong n=false:=by unfold Builtin.List.listTooLong;exact Aw (by lia)
end
def RZ:V->GT->Hp->VK->Prop:=λx vs H Q=>∃l xs y,x=.ref l/\vs=[y]/\H l=some (.lst xs)/\xs.length<sizeLine/\Q .KF (upd H l<|.lst<|xs++[y])
def R4:gc X "list.append" RZ:=by rintro U s t H x C v T Q I j o⟨l,xs,y,rfl,rfl,g,hz,q⟩;cases j;obtain⟨u,rfl,p⟩:=o.one;obtain⟨z,J,n,r,hl,e⟩:=I.lstM g;refine call_meets F.slot_list_append {_,e,rfl} F.entry_list_append (F.args_list_append_2 _ _) (PySem.list_append l J.toArray n u (by rw[Au];lia)) {e,?_};refine{.KF,_,I.lset (its':=J++[u]) g e (by simp) (r.append<|.cons p .nil) ?_,rfl,q};rw[Ab,Dd];lia
def R5:V->GT->Hp->VK->Prop:=λx vs H Q=>∃l b xs zs,x=.ref l/\vs=[.ref b]/\H l=some (.lst xs)/\H b=some (.lst zs)/\xs.length+zs.length<=sizeLine/\Q .KF (upd H l<|.lst<|xs++zs)
def R6:gc X "list.extend" R5:=by
 rintro o s σ H x vs v us Q I t C⟨l,b,xs,zs,rfl,rfl,p,T,hz,q⟩;cases t;obtain⟨u,rfl,ru⟩:=C.one;cases ru;obtain⟨z,U,n,r,hl,e⟩:=I.lstM p;obtain⟨z2,J,n2,r2,a0,e2⟩:=I.lstM T;have j:U.toArray.size+J.toArray.size<=sizeLine:=by rw[Au,Au];lia
 have g:¬(!U.toArray.isEmpty&&Builtin.List.listTooLong (U.toArray.size+J.toArray.size))=true:=by rw[RY j,Bool.and_false];exact AN
 refine call_meets F.slot_list_extend {_,e,rfl} F.entry_list_extend (F.args_list_extend_2 _ _)
  (AutoSeq1.list_extend_list_list_0 l U.toArray n b J.toArray n2 g (by rw[Au];lia) (by lia)) ⟨e,e2,?_⟩
 refine{.KF,_,I.lset (its':=U++J) p e (by simp) (r.append r2) ?_,rfl,q};rw[Ab];lia
def R7:V->GT->Hp->VK->Prop:=λx vs H Q=>∃l xs y,x=.ref l/\vs=[]/\H l=some (.lst xs)/\xs[xs.length-1]?=some y/\Q y (upd H l<|.lst xs.dropLast)
def R8:gc X "list.pop" R7:=by
 rintro j s σ H x vs v us Q I p t⟨l,xs,y,rfl,rfl,o,C,q⟩;cases p;have U:=t.zero;subst U;obtain⟨z,J,n,r,T,e⟩:=I.lstM o;obtain⟨u,hu,ru⟩:=r.get C;have g:J.toArray[J.toArray.size-1]?=some u:=by show J.toArray[J.length-1]?=some u;rw[<-A4,<-T];exact hu
 refine call_meets F.slot_list_pop {_,e,rfl} F.entry_list_pop (F.args_list_pop_1 _) (MeetsSeq.list_pop_last l J.toArray n u g (by rw[Au];lia)) {e,?_};refine{y,_,I.lset (its':=J.dropLast) o e ?_ r.dropLast ?_,ru,q}
 .show J.toArray.eraseIdxIfInBounds (J.toArray.size-1)=J.dropLast.toArray;rw[Au,Dc,y7]
 .rw[List.length_dropLast];lia
def R9:V->GT->Hp->VK->Prop:=λx vs H Q=>∃l xs i k y,x=.ref l/\vs=[.int i]/\H l=some (.lst xs) /\ -(2 ^ 63)<=i/\i<2 ^ 63/\seqIndex? i xs.length=some k/\xs[k]?=some y/\Q y (upd H l<|.lst<|xs.eraseIdx k)
def Sa:gc X "list.pop" R9:=by
 rintro g s σ H x vs v us Q I o p⟨l,C,i,k,y,rfl,rfl,j,T,h2,hk,hy,q⟩;cases o;obtain⟨u,rfl,ru⟩:=p.one;obtain⟨t,rfl⟩:=ru;obtain⟨z,J,n,r,hl,e⟩:=I.lstM j;obtain⟨w,hw,U⟩:=r.get hy;refine call_meets F.slot_list_pop {_,e,rfl} F.entry_list_pop (F.args_list_pop_2 _ _)
  (MeetsSeq.list_pop_at l J.toArray n i t k w (fitsIndex_both T h2) (by rw[Au,<-hl];exact hk) (by rw[<-A4];exact hw) (by rw[Au];lia)) ⟨e,?_⟩
 refine{y,_,I.lset (its':=J.eraseIdx k) j e ?_ (r.eraseIdx k) ?_,U,q}
 .show J.toArray.eraseIdxIfInBounds k=(J.eraseIdx k).toArray;rw[Dc]
 .have:=rB C k;lia
def Sb:R2:=λx y H Q=>∃l b xs zs,x=.ref l/\y=.ref b/\H l=some (.lst xs)/\H b=some (.lst zs)/\xs.length+zs.length<=sizeLine/\∀p,H p=none->Q (.ref p) (upd H p<|.lst<|xs++zs)
def Sc:vi X (binaryOp .Add) Sb:=by
 rintro g s σ H x y v u Q I j o⟨l,b,xs,zs,rfl,rfl,p,t,hz,q⟩;cases j;cases o;obtain⟨z,U,n,r,hl,e⟩:=I.lstM p;obtain⟨z2,J,n2,C,T,e2⟩:=I.lstM t;refine PySem.P.add_list e e2 ?_ (by rw[Au,Au];lia);have ea:U.toArray++J.toArray=(U++J).toArray:=by simp
 rw[ea];exact{.ref _,_,I.lnew (t':=s.toks) (r.append C) (by rw[Ab];lia),rfl,q _ I.fresh}
section
variable {w:aan}
set_option maxRecDepth 100000 in
end
section
open PySem.W PySem.Calls
def mN{P:Params} :∀(ns:aaf) (vs:Z_),WellAll P h vs (ns.map WData.int)->IntsAre vs ns:=by
 intro ns
 induction ns with
 |nil=>
  intro vs w;rw[Cm] at w;cases w;exact .nil
 |cons n ns I=>
  intro vs w;rw[AI] at w;cases w with
  |cons a b=>
   cases a;exact .cons _ _<|I _ b
def Sd{l:OpenLaw}{n:Nat}(T:l.most=some n){P:Params}{args:List WData}{I:Z_}
 (J:l.row.toRowW.claim.pre args=true) (p:WellAll P h I args):
 ∃a vs ns,I=[Value.ref a]/\args=[WData.list<|ns.map WData.int]/\h.get? a=some {cls:=.type "list",data:=.seq vs.toArray}/\IntsAre vs ns/\ns.length<=n:=by
 have t:WShape.hasAll [] args [.list .int]=true:=(pre_splitW J).1;have C:l.pre.holds [] {args:=args}=true:=(pre_splitW J).2;obtain⟨d,r,rfl,h1,h2⟩:=hasAllW_cons t;obtain rfl:=hasAllW_nil h2;obtain⟨xs,rfl,h3⟩:=hasW_list h1;obtain⟨ns,rfl⟩:=items_int h3;have U:ns.length<=n:=by
  unfold OpenLaw.pre at C;have j:(WTm.not<|.lt (.lit<|.int (n:Int))<|.len<|.arg 0).holds [] {args:=[.list<|ns.map .int]}=true:=by have j:=(holds_andW C).1;rw[T] at j;exact j
  have o:=condW_of j<|w_not<|w_lt w_lit<|w_len_list<|w_arg rfl;rw[Ac] at o;refine Dh λq=>?_;have q':(n:Int)<((ns.length:Nat):Int):=by lia
  first
   |(rw[AA q'] at o;exact absurd o (by decide))
   |(simp at o;lia)
 cases p with
 |cons w1 w2=>
  cases w2;cases w1 with|list ho g=>exact{_,_,ns,rfl,rfl,ho,mN ns _ g,U}
def Se(l:OpenLaw)(args:List WData):l.row.toRowW.claim.post args (.bool true) args=true:=
 postW_of (r:=l.row.toRowW) (X:=(true==true))
  (show WShape.has [] (.bool true) .bool=true by first|rfl|decide|simp[WShape.has,WShape.arms,WShape.armsAll])
  (show(WTm.eq .res<|.lit<|.bool true).value [] {args:=args,res:=some<|.bool true,after:=args}=some (.bool<|true==true) from w_eq_bool (w_res rfl) w_lit) rfl
theorem attach_callZ{l:OpenLaw}{n:Nat}{q:aam}{loose:aac}{XP:(Z7)->aao->Prop}{as0:List Addr}{N t:Nat}{K:Params->Frag}{d:DefRec}
 (hn:l.most=some n) (p:d.params.defaults=[]) (ek:∀P,as0=(K P).map (·.1)) (C:0<t)
 (call:∀(w:aan) (s₀ I:aal) (mg T:Z7) (fa:Addr) (o:Obj) (pm cd fx:aak) (a:Addr) (vs:Z_) (ns:aaf),
  Ground q loose [] XP w s₀ mg T I.heap->(K w.params).In I.heap->0<I.toks->
  I.heap.get? fa=some o->o.data=.func (docDef d.name d.params d.body d.scope pm cd fx)->I.heap.CodeRec cd d.name->mg d.name=some (.ref fa)->
  I.heap.get? a=some {cls:=.type "list",data:=.seq vs.toArray}->IntsAre vs ns->ns.length<=n->I.gens=#[]->
  codeAny (model l.prog w) callerA (.call (.ref fa) ⟨[.ref a],[]⟩) (λr s'=>r=.ok (.ret<|.bool true)/\OldK I.heap s'.heap/\s'.os=I.os/\AllBare s'.gens) I):
 WalkX q loose XP (PySem.W.X.obsZ as0) (PySem.W.X.valZ K N t) l.row.toRowW d [] (λf vs=>PySem.call f vs):=by
 intro w s₀ I mg T G Y fa o pm cd fx dV kV ho hd a0 hD a1 hg args a4 as L U a5 ab a2 ac;obtain rfl:dV=.none:=Dflts.none hD p;obtain rfl:kV=.none:=Dflts.noKw hD;obtain⟨a,vs,ns,rfl,rfl,g,J,j⟩:=Sd hn U a2;obtain⟨_,zi,_,zt⟩:=X.z_facts ek Y;have eP:∀ns:aaf,ofPy (PyData.list<|ns.map PyData.int)=WData.list (ns.map WData.int):=λns=>by
  simp only[ofPy];congr 1
  induction ns with|nil=>simp[ofPys]|cons n r ih=>simp only[AI,ofPys,ofPy,ih]
 rw[<-eP] at L;have KX:=InK.keeps w s₀.heap I.heap zi L.keeps;have a3:0<I.toks:=AR C<|X.script_toks L zt;refine enter_call<|codeAny_mono (call w s₀ I mg T fa o pm cd fx a vs ns G KX a3 ho (fd_plain hd) a0 a1 g J j hg) λr s' hq=>?_;obtain⟨rfl,h2,h3,h4⟩:=hq;exact{.inl {.bool true,.bool true,[],rfl,λ_=>rfl,.bool true,Se l _,λ_=>{List.Pairwise.nil,λ_ hm=>(nomatch hm)}},h2,h3,h4}
section
variable {w:aan}{K:Frag}
end
end
theorem sO:∀{vs:Z_} {ns:aaf},IntsAre vs ns->ze (ns.map V.int) vs
 |_,_,.nil=>.nil
 |_,_,.cons n t h=>.cons {(t),rfl}<|sO h
def xo(s:Stmt):Arguments:=match s with
 |.FunctionDef _ a _ _ _ _ _ _ _ _=>a
 |_=>{posonlyargs:=[],args:=[],vararg:=none,kwonlyargs:=[],kw_defaults:=[],kwarg:=none,defaults:=[]}
def jl(s:Stmt):aae:=match s with
 |.FunctionDef _ _ b _ _ _ _ _ _ _=>b
 |_=>[]
def za(s:Stmt):Scope:=match s with
 |.FunctionDef _ _ _ _ _ _ I _ _ _=>I
 |_=>{kind:=.function,names:=[],isGenerator:=false,isCoroutine:=false}
abbrev CX0:d_:=λ_ _ _ _ _ _=>False
abbrev E0:XK:=λ_ _ _=>False
def G4 :jX CX0 X E0:=λ_ _ _ _ _ _ _ h=>h.elim
structure Fun(K:Af)(x ee:Str)(st:Stmt)(f:Addr)(fd:FuncData):Prop where
 ex:∃(oc:aak) (od:Option Addr) (kV fx pm:aak) (an:Option Addr) (eK ct:aak) (oi:Array<|aag),
  fd=PySem.W.fnOf x ee (xo st) (jl st) (za st) .none kV fx pm an eK ct/\K.lookup f=some ⟨oc,od,.func fd,oi⟩/\PySem.W.codeIn K eK ee=true
 kp:PySem.W.keepIn K (.ref f)=true
section
variable {P:aam}{w:aan}{K:Af}
def Fun.ok{N:aac}{k:Nat}{sp:Sp}(F:Fun K x ee st f fd)(S:am N ps<|za st)(len:∀vs H Q E,sp vs H Q E->vs.length=ps.length)
 (I:∀(eK:aak) (A:Around) (outer:List Env) (s:aal) (H:Hp) (vs:GT) (Q:VK) (E:XK),wf k (A.deeper<|envOfC ee (za st) s.heap.objs.size f eK)->sp vs H Q E->
  ∃t,mR (qN CX0 P w K mg base N ee (za st) f eK A outer s H E).nox (jl st) t/\t {nx:=λ_ H'=>Q .KF H',rt:=Q} (start N vs) H):bE P w K mg base CX0 (k+1) f fd ps sp:=by
 obtain⟨o,p,kV,g,pm,an,eK,r,j,rfl,lk,J⟩:=F.ex;refine IT lk J S len λA outer s H vs Q E l U=>?_;obtain⟨t,h,q⟩:=I eK A outer s H vs Q E l U;exact{(t),h.nox,q}
def Je{kV:aak}(l:K.lookup f=some ⟨oc,od,.func<|PySem.W.fnOf x ee (xo st) (jl st) (za st) .none kV fx pm an eK ct,oi⟩)
 (c:PySem.W.codeIn K eK ee=true) (k:PySem.W.keepIn K (.ref f)=true):Fun K x ee st f (PySem.W.fnOf x ee (xo st) (jl st) (za st) .none kV fx pm an eK ct):={{(oc),od,kV,fx,pm,an,eK,ct,oi,rfl,l,c},k}
end
def rP{n:Nat}(h:n<=1000):n<sizeLine:=Bo h (by decide)
def pv(i:Nat)(hN:X.N[i]?=some x:=by rfl)(J:D_ X.env.scope x:=by first|exact Or.inl rfl|exact Or.inr (Or.inl rfl)|exact Or.inr<|Or.inr rfl)(hd:Es x:=by decide)
 (I:Et x:=by decide):PE X (.Name x pos) (GI i):=Pf hN J hd I
section
variable [DecidableEq κ]
end
set_option maxHeartbeats 8000000
def Fx{a b c:Nat}(h:a<b:=by assumption)(k:b<=c:=by assumption):a<c:=AR h k
def qM{a b c:Nat}(h:a<=b:=by assumption)(k:b<c:=by assumption):a<c:=Bo h k
def G5{a b c:Nat}(h:a<=b:=by assumption)(k:b<=c:=by assumption):a<=c:=AF h k
def uj{a b c:Nat}(h:a<b:=by assumption)(k:b<c:=by assumption):a<c:=Nat.lt_trans h k
def Fy{a b c:Nat}(h:a<=b:=by assumption)(k:b<=c:=by decide):a<=c:=AF h k
def Sf{a b c:Nat}(h:a<=b:=by assumption)(k:b<c:=by decide):a<c:=Bo h k
def Fz{a b:Nat}(h:a<=b:=by assumption):a<b+1:=Nat.lt_succ_of_le h
def E8{a b:Nat}(h:a<=b:=by assumption):a<=b+1:=Cn h
def jO{a b:Nat}(h:a<b:=by assumption):a<=b:=Bi h
def Jf{a b:Nat}(h:a<b:=by assumption):a≠b:=A5 h
def Jg{a b:Nat}(h:b<a:=by assumption):a≠b:=CM h
def FA{a:Nat}(h:a≠0:=by assumption):0<a:=Nat.pos_of_ne_zero h
def Jh{a b c:Nat}(h:a<b:=by assumption)(k:b<=c:=by assumption):a<=c:=AF (Bi h) k
def Ji{a b c:Nat}(h:a<b:=by assumption):a<b+c:=AR h<|Bd _ _
def xY{a b:Nat}(h:a=b:=by assumption):a<=b:=DC h
def G6{a b:Nat}(h:¬a<b:=by assumption):b<=a:=Dh h
def Jj{a b:Nat}(h:¬b<=a:=by assumption):a<b:=Nat.lt_of_not_le h
def Jk{a b:Nat}(h:a<b+1:=by assumption):a<=b:=Nat.le_of_lt_succ h
def E9{a b:Nat}(h:0<a:=by assumption)(k:0<b:=by decide):a-b<a:=Nat.sub_lt h k
def Jl{a b c:Nat}(h:a<=c:=by assumption):a-b<=c:=AF (Nat.sub_le _ _) h
def uZ{a b c:Nat}(h:a<c:=by assumption):a-b<c:=Bo (Nat.sub_le _ _) h
def Fa{a b:Nat}(h:a<=b:=by assumption)(k:a≠b:=by assumption):a<b:=Nat.lt_of_le_of_ne h k
def Sg:R2:=λx y H Q=>match x,y with
 |.int i,.int j=>Q (.int<|i+j) H
 |.str a,.str b=>a.length+b.length<=sizeLine/\Q (.str<|a++b) H
 |.ref l,.ref b=>∃xs zs,H l=some (.lst xs)/\H b=some (.lst zs)/\xs.length+zs.length<=sizeLine/\∀p,H p=none->Q (.ref p) (upd H p<|.lst<|xs++zs)
 |_,_=>False
def Sh:vi X (binaryOp .Add) Sg:=by
 intro J s U H x y v u Q I g j h;cases x<;>cases y<;>first
  |exact False.elim h
  |exact Qp J s U H _ _ v u Q I g j {_,_,rfl,rfl,h}
  |exact yU J s U H _ _ v u Q I g j {_,_,rfl,rfl,h.1,h.2}
  |(obtain⟨l,o,p,r,t,C⟩:=h;exact Sc J s U H _ _ v u Q I g j {_,_,l,o,rfl,rfl,p,r,t,C})
def KD(K:Af)(P:aam)(w:aan)(a:Addr)(kvs:List<|zr×V):Prop:=
 (a==sysModules)=false/\kvs.length<=sizeLine/\∀h:aao,K.In h->∃vs,KV kvs vs/\h.DictOf (xq P w) a vs
def Jm(K:Af)(P:aam)(w:aan):R2:=λx y H Q=>match x,y with
 |.str z,.int i=>z.length<=sizeLine/\∃c,fS z.cps.toList i=some c/\Q (.str ⟨#[c]⟩) H
 |.ref p,.int i=>∃xs v,(aV K H p xs\/db K H p xs)/\fS xs i=some v/\Q v H
 |.ref p,.str k=>∃kvs v,(Rd H p (.dK kvs)\/KD K P w p kvs)/\aH kvs (Sum.inr k)=some v/\Q v H
 |_,_=>False
def Jn{slice:Expr}{a:Addr}{vs:List<|zr×aak}{k:zr}{J:aak}{Q:VK}(I:z0 X pins σ H s)(U:s.heap.DictOf (xq X.prog X.w) a vs)(g:oz k u=true)
 (hw:valueAt vs k=some J) (r:zg v J) (q:Q v H) (hs:subscripted slice false (.ref a) u=operate [.ref a,u] (getItem (.ref a) u)):_S X (subscriptTail value slice (.ref a) u) (EP X pins σ Q) X.xe s:=
 tail_any U.typeIs DH.lookup (wpAny_getItem_of g U.mapOf hw ⟨v,H,I.tok _,r,q⟩) hs
def Jo:IxR X (Jm X.K X.prog X.w):=by
 intro value slice U s σ H x y v u Q I rx ry q r;cases x with
 |str z=>
  cases y with
  |int i=>
   obtain⟨J,c,g,j⟩:=q;exact RM value slice U s σ H _ _ v u Q I rx ry {(z),i,c,rfl,rfl,J,g,j} r
  |_=>exact q.elim
 |ref p=>
  cases y with
  |int i=>
   obtain⟨xs,t,J,g,j⟩:=q;rcases J with J|J
   .exact RK value slice U s σ H _ _ v u Q I rx ry {(p),xs,i,t,rfl,rfl,J,g,j} r
   .exact RL value slice U s σ H _ _ v u Q I rx ry {(p),xs,i,t,rfl,rfl,J,g,j} r
  |str k=>
   obtain⟨a0,t,J,g,j⟩:=q;have C:zg (kV<|Sum.inr k) u:=ry;cases (show v=Value.ref p from rx);rcases J with J|J
   .obtain⟨z,hd,vs,rel,T⟩:=pW I.KB J;obtain⟨w2,hw,l⟩:=EO (v:=t) (o:=valueAt vs<|Sum.inr k) (by rw[<-g];exact rel.val _);exact Jn I T (fv (P:=X.prog) (w:=X.w) C) hw l j r
   .obtain⟨hd,z,T⟩:=J;obtain⟨vs,rel,T⟩:=T s.heap I._w;obtain⟨w2,hw,l⟩:=EO (v:=t) (o:=valueAt vs<|Sum.inr k) (by rw[<-g];exact rel.val _);exact Jn I T (fv (P:=X.prog) (w:=X.w) C) hw l j r
  |_=>exact q.elim
 |_=>cases y<;>exact q.elim
def Si(K:Af):GT->Hp->VK->Prop:=λxs H Q=>match xs with
 |[.str z]=>z.length<=sizeLine/\Q (.int z.length) H
 |[.ref p]=>∃ys,(aV K H p ys\/db K H p ys)/\Q (.int ys.length) H
 |_=>False
def Sj:zy X (.builtin "len") (Si X.K):=by
 intro J s U H j g Q I r h;obtain _|⟨x,_|⟨y,t⟩⟩:=j
 .exact h.elim
 .cases x with
  |str z=>exact sj J s U H _ g Q I r {(z),rfl,h.1,h.2}
  |ref p=>
   obtain⟨l,o,C⟩:=h;exact tU J s U H _ g Q I r {(p),l,rfl,o,C}
  |_=>exact h.elim
 .cases x<;>exact h.elim
inductive Da where
 |s (v:V)
 |tup (xs:List Da)
 |lst (xs:List Da)
mutual
def Da.eq:Da->Da->Bool
 |.s v,.s w=>gb v w
 |.tup xs,.tup ys=>Da.eqs xs ys
 |.lst xs,.lst ys=>Da.eqs xs ys
 |_,_=>false
def Da.eqs:List Da->List Da->Bool
 |[],[]=>true
 |x::xs,y::ys=>Da.eq x y&&Da.eqs xs ys
 |_,_=>false
end
def aN(K:Af)(H:Hp):Nat->V->Da->Prop
 |0,v,d=>d=.s v/\ai v=true
 |n+1,v,d=>(d=.s v/\ai v=true)\/(∃a xs ds,v=.ref a/\d=.tup ds/\db K H a xs/\Paired (aN K H n) xs ds)\/(∃a xs ds,v=.ref a/\d=.lst ds/\aV K H a xs/\Paired (aN K H n) xs ds)
theorem Da._B:∀(ds es:List Da),((List.range<|min ds.length es.length).all (λj=>Da.eq (ds.getD j<|.s .KF)<|es.getD j<|.s .KF)&&ds.length==es.length)=Da.eqs ds es
 |[],[]=>by simp[Da.eqs]
 |[],e::es=>by simp[Da.eqs]
 |d::ds,[]=>by simp[Da.eqs]
 |d::ds,e::es=>by
  have I:=Da._B ds es;rw[Da.eqs,<-I];have:min (d::ds).length (e::es).length=min ds.length es.length+1:=by simp only[Ap];lia
  rw[this,List.range_succ_eq_map,DR,List.all_map];have J:((d::ds).length==(e::es).length)=(ds.length==es.length):=by simp
  rw[J,Bool.and_assoc];rfl
theorem Paired.at{F:α->β->Prop}:∀{xs:List α} {ys:List β} {j:Nat} {x:α} {y:β},Paired F xs ys->xs[j]?=some x->ys[j]?=some y->F x y:=by
 intro xs ys j x y h
 induction h generalizing j with
 |nil=>intro h _;simp at h
 |cons r t U=>
  intro I J;cases j with|zero=>simp at I J;subst I J;exact r|succ j=>exact U (j:=j) (by simpa using I) (by simpa using J)
abbrev EJ:=@Paired.at
theorem jA:∀{v:V},ai v=true->gb v v=true
 |.KF,_=>rfl
 |.bl _,_=>by simp[gb]
 |.int _,_=>by simp[gb]
 |.str _,_=>by simp[gb]
def jm{a:Addr}(h:ai (.ref a)=true):False:=by simp[ai] at h
def z0.notBoth(I:z0 X pins σ H s){a:Addr}{ys:GT}(h:db X.K H a xs)(h':aV X.K H a ys):False:=by
 obtain⟨j,_,⟨o,e,c,_⟩,_⟩:=I.tuple h;obtain⟨U,_,⟨l,p,g,J,_⟩,_⟩:=I.list h';rw[e] at g;cases g;rw[c] at J;injection J with J
 exact absurd J (by decide)
theorem uV(I:z0 X pins σ H s):∀(n:Nat) {m:Nat} {x:V} {d e:Da},aN X.K H n x d->aN X.K H m x e->Da.eq d e=true
 |0,m,x,d,e,h1,g=>by
  obtain⟨rfl,f⟩:=h1;cases m with
  |zero=>obtain⟨rfl,_⟩:=g;exact jA f
  |succ m=>
   rcases g with⟨rfl,_⟩|⟨a,j,l,rfl,_⟩|⟨a,j,l,rfl,_⟩
   .exact jA f
   .exact(jm f).elim
   .exact(jm f).elim
 |n+1,m,x,d,e,h1,g=>by
  have both:∀{j:GT} {l o:List Da} {m:Nat},Paired (aN X.K H n) j l->Paired (aN X.K H m) j o->Da.eqs l o=true:=by
   intro j l o m p
   induction p generalizing o with
   |nil=>intro q;cases q;rfl
   |cons r t ih=>
    intro q;cases q with|cons r' t'=>rw[Da.eqs,uV I n r r',ih t'];rfl
  rcases h1 with⟨rfl,f⟩|⟨a,j,l,rfl,rfl,T,hp⟩|⟨a,j,l,rfl,rfl,T,hp⟩
  .cases m with
   |zero=>obtain⟨rfl,_⟩:=g;exact jA f
   |succ m=>
    rcases g with⟨rfl,_⟩|⟨a,j,l,rfl,_⟩|⟨a,j,l,rfl,_⟩
    .exact jA f
    .exact(jm f).elim
    .exact(jm f).elim
  .cases m with
   |zero=>exact(jm g.2).elim
   |succ m=>
    rcases g with⟨_,f⟩|⟨a',ys,o,C,rfl,J,U⟩|⟨a',ys,o,C,rfl,J,U⟩
    .exact(jm f).elim
    .cases C;cases I._l T J;exact both hp U
    .cases C;exact(I.notBoth T J).elim
  .cases m with
   |zero=>exact(jm g.2).elim
   |succ m=>
    rcases g with⟨_,f⟩|⟨a',ys,o,C,rfl,J,U⟩|⟨a',ys,o,C,rfl,J,U⟩
    .exact(jm f).elim
    .cases C;exact(I.notBoth J T).elim
    .cases C;cases I._e T J;exact both hp U
def jg{a:Addr}{eA:aaa}(p:PlainL h a eA):h.IsList a eA:=let ⟨o,n,e,c,_,d⟩:=p;⟨o,e,c,n,d⟩
def u8{n:Nat}{ys:GT}{ds es:List Da}{vs:Z_}(px:Paired (aN X.K H n) xs ds)(py:Paired (aN X.K H m) ys es)(I:ze xs us)(J:ze ys vs)
 (p:∀{x y:V} {d e:Da} {u v:aak},aN X.K H n x d->aN X.K H m y e->zg x u->zg y v->SeqAt.EqAt A.in1 s u v (Da.eq d e)):
 ∀j (h1:j<us.toArray.size) (h2:j<vs.toArray.size),SeqAt.EqAt A.in1 s us.toArray[j] vs.toArray[j] (Da.eq (ds.getD j<|.s .KF)<|es.getD j<|.s .KF):=by
 intro j h1 h2;have C:=px.length;have T:=py.length;have l3:=I.length;have l4:=J.length;rw[Au] at h1 h2;have U:xs[j]?=some xs[j]:=Ah (by lia);have g:ys[j]?=some ys[j]:=Ah (by lia);have l:ds[j]?=some ds[j]:=Ah (by lia);have o:es[j]?=some es[j]:=Ah (by lia);have r:us[j]?=some us[j]:=Ah (by lia);have t:vs[j]?=some vs[j]:=Ah (by lia);rw[Bp,Bp,l,o];exact p (EJ px U l) (EJ py g o) (EJ I U r)<|EJ J g t
def G7(ne:Bool)(A:Around)(s:aal)(u v:aak)(k:Bool):Prop:=match ne with
 |true=>SeqAt.RcNeAt A s u v<|!k
 |false=>SeqAt.RcAt A s u v k
def rJ(ne:Bool){n:Nat}{a b:Addr}{ys:GT}{ds es:List Da}(I:z0 X pins σ H s)(J:A.units<cLine)(l:db X.K H a xs)(o:db X.K H b ys)(px:Paired (aN X.K H n) xs ds)(py:Paired (aN X.K H m) ys es)
 (p:∀{x y:V} {d e:Da} {u v:aak},aN X.K H n x d->aN X.K H m y e->zg x u->zg y v->SeqAt.EqAt A.in1 s u v (Da.eq d e)):G7 ne A s (.ref a) (.ref b) (Da.eqs ds es):=by
 obtain⟨r,U,g,_⟩:=I.tuple l;obtain⟨t,j,ty,_⟩:=I.tuple o;have i:=u8 px py U j p;cases ne
 case' false=>have q:=SeqAt.RcAt.tuples g ty J i
 case' true=>have q:=SeqAt.RcNeAt.tuples g ty J i
 all_goals
  rw[Au,Au,<-U.length,<-j.length,px.length,py.length,Da._B] at q;exact q
def um(ne:Bool){n:Nat}{a b:Addr}{ys:GT}{ds es:List Da}(I:z0 X pins σ H s)(g:A.units<cLine)(C:aV X.K H a xs)(T:aV X.K H b ys)(px:Paired (aN X.K H n) xs ds)(py:Paired (aN X.K H m) ys es)
 (ih:∀{x y:V} {d e:Da} {u v:aak},aN X.K H n x d->aN X.K H m y e->zg x u->zg y v->SeqAt.EqAt A.in1 s u v (Da.eq d e)):G7 ne A s (.ref a) (.ref b) (Da.eqs ds es):=by
 obtain⟨l,o,J,_⟩:=I.list C;obtain⟨p,r,ty,_⟩:=I.list T;have J:=jg J;have ty:=jg ty;have e:=Da._B ds es;have j:ds.length=l.toArray.size:=by rw[<-px.length,o.length,Au]
 have t:es.length=p.toArray.size:=by rw[<-py.length,r.length,Au]
 by_cases U:l.toArray.size=p.toArray.size
 .have i:=u8 px py o r ih;rw[t,<-U,<-j,Nat.min_self,beq_self_eq_true,Bool.and_true] at e;cases ne
  case' false=>have q:=SeqAt.RcAt.lists J ty U g i
  case' true=>have q:=SeqAt.RcNeAt.lists J ty U g i
  all_goals
   rw[<-j,e] at q;exact q
 .rw[show(ds.length==es.length)=false by rw[j,t];simpa using U,Bool.and_false] at e;rw[<-e];cases ne
  .exact SeqAt.RcAt.lists_lengths J ty (by simpa using U) g
  .exact SeqAt.RcNeAt.lists_lengths J ty (by simpa using U) g
def zP(I:z0 X pins σ H s):∀(n:Nat) {m:Nat} {A:Around} {x y:V} {d e:Da} {u v:aak},A.units+n<cLine->aN X.K H n x d->aN X.K H m y e->zg x u->zg y v->SeqAt.EqAt A s u v (Da.eq d e):=by
 have J:∀{A:Around} {x:V} {u:aak} {b:Addr} {C:GT},A.units<cLine->ai x=true->zg x u->(db X.K H b C\/aV X.K H b C)->SeqAt.EqAt A s u (.ref b) false/\SeqAt.EqAt A s (.ref b) u false:=by
  intro A x u b C g f r h;have h':(∃T,s.heap.IsTuple b T)\/∃T,s.heap.IsList b T:=by
   rcases h with h|h
   .obtain⟨T,_,t,_⟩:=I.tuple h;exact .inl {_,t}
   .obtain⟨T,_,t,_⟩:=I.list h;exact .inr {_,jg t}
  cases x with
  |KF=>cases r;rcases h' with⟨_,t⟩|⟨_,t⟩;exact{.none_tuple t g,.tuple_none t g};exact{.none_list t g,.list_none t g}
  |bl k=>cases r;rcases h' with⟨_,t⟩|⟨_,t⟩;exact{.bool_tuple k t g,.tuple_bool k t g};exact{.bool_list k t g,.list_bool k t g}
  |int k=>obtain⟨tk,rfl⟩:=r;rcases h' with⟨_,t⟩|⟨_,t⟩;exact{.int_tuple k tk t g,.tuple_int k tk t g};exact{.int_list k tk t g,.list_int k tk t g}
  |str k=>obtain⟨tk,rfl⟩:=r;rcases h' with⟨_,t⟩|⟨_,t⟩;exact{.str_tuple k tk t g,.tuple_str k tk t g};exact{.str_list k tk t g,.list_str k tk t g}
  |_=>simp[ai] at f
 intro n
 induction n with
 |zero=>
  intro m A x y d e u v g h1 o rx j;obtain⟨rfl,f⟩:=h1;cases m with
  |zero=>obtain⟨rfl,l⟩:=o;exact oU rx j f l
  |succ m=>
   rcases o with⟨rfl,l⟩|⟨b,C,es,rfl,rfl,U,py⟩|⟨b,C,es,rfl,rfl,U,py⟩
   .exact oU rx j f l
   .cases j;exact(J (by lia) f rx<|.inl U).1
   .cases j;exact(J (by lia) f rx<|.inr U).1
 |succ n ih=>
  intro m A x y d e u v g h1 o rx j;have a1:A.in1.units+n<cLine:=by show A.units+1+n<cLine;lia
  rcases h1 with⟨rfl,f⟩|⟨a,xs,ds,rfl,rfl,p,px⟩|⟨a,xs,ds,rfl,rfl,p,px⟩
  .cases m with
   |zero=>obtain⟨rfl,l⟩:=o;exact oU rx j f l
   |succ m=>
    rcases o with⟨rfl,l⟩|⟨b,C,es,rfl,rfl,U,py⟩|⟨b,C,es,rfl,rfl,U,py⟩
    .exact oU rx j f l
    .cases j;exact(J (by lia) f rx<|.inl U).1
    .cases j;exact(J (by lia) f rx<|.inr U).1
  .cases rx;cases m with
   |zero=>obtain⟨rfl,l⟩:=o;exact(J (by lia) l j<|.inl p).2
   |succ m=>
    rcases o with⟨rfl,l⟩|⟨b,C,es,rfl,rfl,U,py⟩|⟨b,C,es,rfl,rfl,U,py⟩
    .exact(J (by lia) l j<|.inl p).2
    .cases j;by_cases a0:a=b
     .subst a0;cases I._l p U;have e:Da.eq (.tup ds) (.tup es)=true:=uV I (n+1) (m:=m+1) (x:=.ref a) (.inr<|.inl {(a),xs,ds,rfl,rfl,p,px})<|.inr<|.inl {(a),xs,es,rfl,rfl,U,py};rw[e];exact .same _
     .exact .of_refs a0<|rJ false I (by lia) p U px py λh1 o r1 r2=>ih a1 h1 o r1 r2
    .cases j;obtain⟨us,vx,tx,_⟩:=I.tuple p;obtain⟨vs,vy,ty,_⟩:=I.list U;exact .tuple_list tx (jg ty) (by lia)
  .cases rx;cases m with
   |zero=>obtain⟨rfl,l⟩:=o;exact(J (by lia) l j<|.inr p).2
   |succ m=>
    rcases o with⟨rfl,l⟩|⟨b,C,es,rfl,rfl,U,py⟩|⟨b,C,es,rfl,rfl,U,py⟩
    .exact(J (by lia) l j<|.inr p).2
    .cases j;obtain⟨us,vx,tx,_⟩:=I.list p;obtain⟨vs,vy,ty,_⟩:=I.tuple U;exact .list_tuple (jg tx) ty (by lia)
    .cases j;by_cases a0:a=b
     .subst a0;cases I._e p U;have e:Da.eq (.lst ds) (.lst es)=true:=uV I (n+1) (m:=m+1) (x:=.ref a) (.inr<|.inr {(a),xs,ds,rfl,rfl,p,px})<|.inr<|.inr {(a),xs,es,rfl,rfl,U,py};rw[e];exact .same _
     .exact .of_refs a0<|um false I (by lia) p U px py λh1 o r1 r2=>ih a1 h1 o r1 r2
def Sk(K:Af)(k:Nat)(ne:Bool):R2:=λx y H Q=>match x,y with
 |.ref a,.ref b=>∃n m d e,n<=k/\aN K H n (.ref a) d/\aN K H m (.ref b) e/\Q (.bl<|Fv ne<|Da.eq d e) H
 |x,y=>IG x y=true/\Q (.bl<|Fv ne<|decide<|x=y) H
def Sl(ne:Bool){k:Nat}(U:X.A.units+k<cLine):vi X (compareOp<|F4 ne) (Sk X.K k ne):=by
 intro J s T H x y v u Q I rx ry h;cases x with
 |ref a=>
  cases y with
  |ref b=>
   obtain⟨n,m,d,e,hn,o,g,q⟩:=h;cases rx;cases ry;have jd:G7 ne X.A s (.ref a) (.ref b) (Da.eq d e)->_S X (compareOp (F4 ne) (.ref a)<|.ref b) (EP X J T Q) X.xe s:=λr=>by cases ne<;>exact r X.prog X.w X.xe (EP X J T Q) {.bl _,H,I,rfl,q}
   cases n with
   |zero=>exact(jm o.2).elim
   |succ n=>
    cases m with
    |zero=>exact(jm g.2).elim
    |succ m=>
     have p:X.A.in1.units+n<cLine:=by show X.A.units+1+n<cLine;lia
     have U:X.A.units<cLine:=by lia
     rcases o with⟨_,f⟩|⟨a',xs,ds,e1,rfl,t,px⟩|⟨a',xs,ds,e1,rfl,t,px⟩
     .exact(jm f).elim
     .cases e1;rcases g with⟨_,f⟩|⟨b',ys,es,j,rfl,l,py⟩|⟨b',ys,es,j,rfl,l,py⟩
      .exact(jm f).elim
      .cases j;exact jd<|rJ ne I U t l px py λo g r1 r2=>zP I n p o g r1 r2
      .cases j;obtain⟨us,vx,C,_⟩:=I.tuple t;obtain⟨vs,vy,ty,_⟩:=I.list l;exact jd (by cases ne;exact SeqAt.RcAt.tuple_list C (jg ty) U;exact SeqAt.RcNeAt.tuple_list C (jg ty) U)
     .cases e1;rcases g with⟨_,f⟩|⟨b',ys,es,j,rfl,l,py⟩|⟨b',ys,es,j,rfl,l,py⟩
      .exact(jm f).elim
      .cases j;obtain⟨us,vx,C,_⟩:=I.list t;obtain⟨vs,vy,ty,_⟩:=I.tuple l;exact jd (by cases ne;exact SeqAt.RcAt.list_tuple (jg C) ty U;exact SeqAt.RcNeAt.list_tuple (jg C) ty U)
      .cases j;exact jd<|um ne I U t l px py λo g r1 r2=>zP I n p o g r1 r2
  |_=>exact IK ne J s T H _ _ v u Q I rx ry h
 |_=>cases y<;>exact IK ne J s T H _ _ v u Q I rx ry h
def Sm{c:Addr}(I:Gl X x)(J:X.mg x=some (.ref c))(hd:Es x:=by decide):PE X (.Name x pos) (tC<|.ref c):=mz I J (v:=.ref c) rfl hd
def Sn{T:aap}(I:Gl X x)(J:X.mg x=none)(U:bootBuiltins x=some (.type T))(g:x ≠ "__name__" := by decide)(hd:Es x:=by decide):PE X (.Name x pos) (tC<|.ty T):=Pk I J U (v:=.ty T) rfl g hd
structure Cal(P:aam)(w:aan)(K:Af)(mg:Z7)(base:aao)(k:Nat)(x:Str)(ps:aac)(sp:Sp):Prop where
 ex:∃f fd,bE P w K mg base CX0 k f fd ps sp/\aI K fd ps []/\PySem.W.keepIn K (.ref f)=true/\mg x=some (.ref f)
def So{k:Nat}{sp:Sp}{t:TA}(c:Cal X.prog X.w X.K X.mg X.base k x ps sp)(U:wf k X.A)(g:Gl X x)(j:PA X (e::es) t)(I:Es x:=by decide)
 (l:Ep e es X:=by rfl) (J:Er pos es X:=by rfl):PE X (.Call (.Name x p) (e::es) [] pos) (IR sp [] E0 t):=by
 obtain⟨f,fd,F,b,o,m⟩:=c.ex;exact Ra F U g m o b .nil G4 j I l J
theorem Cal.mono{P:aam}{w:aan}{K:Af}{k:Nat}{sp:Sp}(c:Cal P w K mg base j x ps sp)(h:j<=k):Cal P w K mg base k x ps sp:=by obtain⟨f,fd,F,b,I,m⟩:=c.ex;exact{f,fd,F.mono h,b,I,m}
variable {ds:List Da}
def nu(env:Env):List (Str×NameKind)->List (Str×Addr)->List (Str×Addr)
 |[],cs=>cs
 |(n,k)::r,cs=>nu env r<|if k==.free then(n,(env.cells.lookup n).getD 0)::cs else cs
def fi(scope:Scope)(env:Env):List (Str×Addr):=nu env scope.names []
theorem xE{env:Env}:∀{names:List<|Str×NameKind} {cs:List<|Str×Addr} {p:Str×Addr},p∈nu env names cs->p∈cs\/((p.1,NameKind.free)∈names/\p.2=(env.cells.lookup p.1).getD 0)
 |[],_,_,h=>.inl h
 |(n,k)::r,cs,p,h=>by
  rcases xE (names:=r) h with q|⟨q,e⟩
  .by_cases I:(k==NameKind.free)=true
   .rw[AC I] at q;rcases Aq.mp q with rfl|q
    .have:k=.free:=by simpa using I
     exact .inr {by rw[this];exact An,rfl}
    .exact .inl q
   .rw[Az I] at q;exact .inl q
  .exact .inr {Ag _ q,e}
theorem vP{env:Env}{x:Str}:∀{names:List<|Str×NameKind} {cs:List<|Str×Addr},((∃c,(x,c)∈cs)\/(x,NameKind.free)∈names)->∃c,(x,c)∈nu env names cs
 |[],_,.inl h=>h
 |[],_,.inr h=>by simp at h
 |(n,k)::r,cs,h=>by
  refine vP (names:=r) ?_;rcases h with⟨c,h⟩|h
  .left;by_cases I:(k==NameKind.free)=true
   .rw[AC I];exact{c,Ag _ h}
   .rw[Az I];exact{(c),h}
  .rcases Aq.mp h with e|h
   .left;injection e with J U
    subst J;subst U;exact{_,An}
   .exact .inr h
theorem gD{x:Str}:∀{l:List<|Str×Addr} {c:Addr},(x,c)∈l->∃I,l.lookup x=some I
 |(n,d)::r,c,h=>by
  rw[Bg];cases J:x==n with
  |true=>exact{(d),rfl}
  |false=>
   rcases Aq.mp h with e|h
   .injection e with U _;subst U;simp at J
   .exact gD h
def mP(h:∀n,(n,NameKind.free)∈scope.names->∃c,env.cells.lookup n=some c):closureFor scope env=pure (fi scope env):=by
 unfold closureFor fi;have key:∀(names:List<|Str×NameKind) (I:List<|Str×Addr),(∀n,(n,NameKind.free)∈names->∃c,env.cells.lookup n=some c)->
  (forIn names I λx (r:List<|Str×Addr)=>(match x with|(name,kind)=>if kind==NameKind.free then do let a <-cellOf env name;pure (ForInStep.yield<|(name,a)::r) else pure (ForInStep.yield r):Sem<|ForInStep<|List<|Str×Addr))=pure (nu env names I):=by
  intro names
  induction names with
  |nil=>intro I _;rfl
  |cons p r o=>
   intro I J;obtain⟨n,k⟩:=p;rw[Cj];cases U:k==NameKind.free with
   |true=>
    have g:k=.free:=by simpa using U
    subst g;obtain⟨c,t⟩:=J n An;have e:cellOf env n=pure c:=by unfold cellOf;rw[t]
    simp only[beq_self_eq_true,if_true,e];have j:nu env ((n,NameKind.free)::r) I=nu env r ((n,c)::I):=by show nu env r _=_;rw[t];rfl
    rw[j];exact o ((n,c)::I) λm l=>J m<|Ag _ l
   |false=>
    simp only[U,CW,if_false];have j:nu env ((n,k)::r) I=nu env r I:=by show nu env r (if (k==NameKind.free)=true then _ else _)=_;rw[U];rfl
    rw[j];exact o I λm l=>J m<|Ag _ l
 exact(BA (· >>= pure)<|key scope.names [] h)
theorem aA{env:Env}{x:Str}:∀{names:List<|Str×NameKind},
 (names.map λ(n,k)=>if (k==NameKind.free&&env.scope.kind==.function&&env.kindOf n==some .cell) then(n,NameKind.cell) else(n,k)).lookup x
  = (names.lookup x).map λk=>if (k==NameKind.free&&env.scope.kind==.function&&env.kindOf x==some .cell) then NameKind.cell else k
 |[]=>rfl
 |(n,k)::r=>by
  have g:=@aA env x r;show List.lookup x ((if (k==NameKind.free&&env.scope.kind==.function&&env.kindOf n==some .cell)=true then(n,NameKind.cell) else(n,k))::_)=_;cases J:x==n with
  |true=>
   have U:x=n:=by simpa using J
   subst U;by_cases I:(k==NameKind.free&&env.scope.kind==.function&&env.kindOf x==some .cell)=true
   .rw[AC I];simp only[Bg,beq_self_eq_true,Option.map_some];rw[AC I]
   .rw[Az I];simp only[Bg,beq_self_eq_true,Option.map_some];rw[Az I]
  |false=>
   by_cases I:(k==NameKind.free&&env.scope.kind==.function&&env.kindOf n==some .cell)=true
   .rw[AC I];simp only[Bg,J];exact g
   .rw[Az I];simp only[Bg,J];exact g
def Cx.comp(X:Cx)(scope:Scope)(T:aac)(C:Addr)(fp:List Addr)(s₀:aal)(H₀:Hp):Cx:=
 {X with N:=X.N++T,s₀:=s₀,H₀:=H₀,env:=compEnvC scope (fi scope X.env) C X.env,outer:=X.stack,ex:=fp,fn:=λ_=>false,xe:=λ_ _=>False}
structure j4(X:Cx)(scope:Scope):Prop where
 kind:scope.kind=.function
 nocell:∀y∈scope.names,y.2≠.cell
 names:∀y∈scope.names,y.2=.local->scope.names.lookup y.1=some .local
 free:∀n,scope.names.lookup n=some .free->X.env.kindOf n=some .cell\/X.env.kindOf n=some .free
 freeM:∀n,(n,NameKind.free)∈scope.names->X.env.kindOf n=some .cell\/X.env.kindOf n=some .free
 apart:∀x∈X.N,scope.names.lookup x≠some .local
def j4.clo(S:j4 X scope)(I:z0 X pins σ H s):closureFor scope X.env=pure (fi scope X.env):=
 mP λn h=>I.ok.has n<|S.freeM n h
def j4._p(S:j4 X scope)(I:z0 X pins σ H s){c:Addr}(h:(fi scope X.env).lookup x=some c):X.env.cells.lookup x=some c:=by
 rcases xE (BD h) with q|⟨q,e⟩
 .simp at q
 .obtain⟨d,hd⟩:=I.ok.has x<|S.freeM x q;have J:c=(X.env.cells.lookup x).getD 0:=e;rw[hd] at J ⊢;rw[J];rfl
def j4.cl_has(_:j4 X scope)(h:scope.names.lookup x=some .free):∃c,(fi scope X.env).lookup x=some c:=by obtain⟨c,I⟩:=vP (env:=X.env) (names:=scope.names) (cs:=[]) (x:=x)<|.inr<|BD h;exact gD I
theorem j4.kindOf(S:j4 X scope)(h:(compEnvC scope (fi scope X.env) C X.env).kindOf x=some .cell\/(compEnvC scope (fi scope X.env) C X.env).kindOf x=some .free):scope.names.lookup x=some .free:=by
 have e:(compEnvC scope (fi scope X.env) C X.env).kindOf x=(scope.names.lookup x).map λk=>if (k==NameKind.free&&X.env.scope.kind==.function&&X.env.kindOf x==some .cell) then NameKind.cell else k:=aA
 rw[e] at h;cases I:scope.names.lookup x with
 |none=>rw[I] at h;rcases h with h|h<;>cases h
 |some k=>
  rw[I] at h;cases k with|free=>rfl|cell=>exact absurd rfl (S.nocell _<|BD I)|_=>rcases h with h|h<;>cases h
def j4.vis(S:j4 X scope)(U:x∈X.N)(h:D_ (compEnvC scope (fi scope X.env) C X.env).scope x):scope.names.lookup x=some .free:=by
 rcases h with h|h|h
 .exfalso;have e:(compEnvC scope (fi scope X.env) C X.env).kindOf x=(scope.names.lookup x).map λk=>if (k==NameKind.free&&X.env.scope.kind==.function&&X.env.kindOf x==some .cell) then NameKind.cell else k:=aA
  have I:(compEnvC scope (fi scope X.env) C X.env).kindOf x=some .local:=h;rw[e] at I;cases J:scope.names.lookup x with
  |none=>rw[J] at I;cases I
  |some k=>
   rw[J] at I;have I:(if (k==NameKind.free&&X.env.scope.kind==.function&&X.env.kindOf x==some .cell)=true then NameKind.cell else k)=.local:=A1 I;split at I
   .cases I
   .subst I;exact S.apart x U J
 .exact S.kindOf (C:=C)<|.inl h
 .exact S.kindOf (C:=C)<|.inr h
def j4.back(S:j4 X scope)(h:scope.names.lookup x=some .free):(compEnvC scope (fi scope X.env) C X.env).kindOf x=some .cell\/(compEnvC scope (fi scope X.env) C X.env).kindOf x=some .free:=by
 have e:(compEnvC scope (fi scope X.env) C X.env).kindOf x=(scope.names.lookup x).map λk=>if (k==NameKind.free&&X.env.scope.kind==.function&&X.env.kindOf x==some .cell) then NameKind.cell else k:=aA
 rw[e,h];show some (if _ then _ else _)=_\/some (if _ then _ else _)=_;split
 .exact .inl rfl
 .exact .inr rfl
def PF(X:Cx)(ml:aad)(t:TT):Prop:=
 ∀(pins:List<|Addr×Obj) (s:aal) (σ:St) (H:Hp) (Q:Bool->Hp->Prop),z0 X pins σ H s->t σ H Q->
  _S X (forIn ml true λc r=>if r=true then do let ok <-isTrue c X.env (eval c X.env);pure (ForInStep.yield ok) else pure (ForInStep.yield r)) (TP X pins σ Q) X.xe s
def Sr:TT:=λ_ H Q=>Q true H
def Ss :PF X [] Sr:=λ_ _ _ H _ I h=>Am {(H),I,h}
def Su{t:TT}(hc:PT X c t):PF X [c] t:=by intro J s U H Q I h;rw[Cj];simp only[if_true];refine Aa<|Aa<|w9 (hc J s U H Q I h) λb g q=>Am ?_;exact Am q
def fj{w:aan}{R:Result->aal->Prop}{iter:Expr}{it C:aak}(I:Nat->aal->Prop)
 (turn:∀n s,I n s->wpAny (model prog w) A (pyNext it) (λr J=>match r with
  |none=>R (.ok .next) J
  |some v=>wpAny (model prog w) A (letOwnedTupleGo target it v) (λ_ J=>wpAny (model prog w) A (assign target env v) (λ_ l=>
   wpAny (model prog w) A (forIn ml true λc r=>if r=true then do let ok <-isTrue c env (eval c env);pure (ForInStep.yield ok) else pure (ForInStep.yield r)) (λok g=>
    if ok=true then wpAny (model prog w) A (eval nC env) (λx o=>
     wpAny (model prog w) A (call (.builtin "list.append") [C,x]) (λ_ p=>∃m,m<n/\I m p) (λ_ _=>False) o) (λ_ _=>False) g
    else ∃m,m<n/\I m g) (λ_ _=>False) l) (λ_ _=>False) J) (λ_ _=>False) J) (λ_ _=>False) s)
 (n:Nat) (h:I n s):
 codeAny (model prog w) A (.compLoop (.ListComp nC [{target,iter,ml,0}] scope pos) 0 it C env) R s:=by
 refine codeAny_loop rfl I (λn s hI=>?_) n h;show wpAny _ A ((compTurn (.ListComp nC [{target,iter,ml,0}] scope pos) 0 it C env).onRaise (λx=>do noteFrame x env;theTreesLotGoes x)) _ _ s;refine wpAny_noted ?_;rw[compTurn_list];refine Aa<|wpAny_standAt<|Aa<|A8 (turn n s hI) (λr J U=>?_) λ_ _ j=>j.elim;cases r with
 |none=>exact Am U
 |some v=>
  refine Aa<|A8 U (λ_ J U=>?_) λ_ _ j=>j.elim;refine Aa<|A8 U (λ_ l T=>Aa<|A8 T (λok g t=>?_) λ_ _ j=>j.elim) λ_ _ j=>j.elim;cases ok with
  |false=>exact Am {(rfl),t}
  |true=>
   exact Aa<|Aa<|A8 t (λx o a0=>Aa<|A8 a0 (λ_ p a1=>Am<|Am {(rfl),a1}) λ_ _ j=>j.elim) λ_ _ j=>j.elim
def G8(n:Nat)(wi:TI)(g:TG)(tc:TT)(te:TE):TE:=λσ H Q=>wi σ H λJ H1=>∃W:Nat->Nat->GT->Hp->Prop,(∃m,W 0 m [] H1)/\∀i m ys H,W i m ys H->
 (J.stop i H/\ys.length<=sizeLine/\∀D,H D=none->Q (.ref D) (upd H D<|.lst ys))\/
 (J.go i H/\ys.length<sizeLine/\∀x H',J.yld i H x H'->g x (σ++List.replicate n none) H' λI H2=>tc I H2 λb j=>
  if b=true then te I j λy l=>∃U,U<m/\W (i+1) U (ys++[y]) l else ∃U,U<m/\W (i+1) U ys j)
def sH(g:TG)(n k:Nat):Prop:=∀(σ:St),σ.length=n->∀x H Q,g x (σ++List.replicate k none) H Q->
 g x (σ++List.replicate k none) H λI H2=>((I.length=n+k/\∀(i:Nat) v,(σ++List.replicate k none)[i]?=some (some v)->I[i]?=some (some v))/\Q I H2)
section
variable {T:aac}{iter:Expr}{g:TG}{tc:TT}{te:TE}
def ltN{b:Addr}{o:Obj}(e:h.get? b=some o):@LT.lt Nat instLTNat b h.objs.size:=xT e
def xJ{a b:Addr}(h:@Ne Nat a b):a≠b:=h
def D'{a b:Addr}(h:@LE.le Nat instLENat a b):a<=b:=h
def Sv(eA:Z_)(n:Nat)(u:aak):∃I,Obj.mapSeq (·.push u) {cls:=.type "list",data:=.seq eA.toArray n}=({cls:=.type "list",data:=.seq (eA++[u]).toArray I}:Obj):=
 ⟨_,by simp[Obj.mapSeq];rfl⟩
def yA{w:aan}{D:Addr}{n:Nat}(I:s.heap.get? D=some {cls:=.type "list",data:=.seq eA.toArray n})
 (hz:eA.length<=sizeLine) (h:∀h' J,Heap.SameBut D s.heap h'->h'.get? D=some {cls:=.type "list",data:=.seq (eA++[u]).toArray J}->Q .none {s with heap:=h'}):
 wpAny (model prog w) A (call (.builtin "list.append") [.ref D,u]) Q E s:=by
 have g:s.heap.IsList D eA.toArray:={_,I,rfl,n,rfl};refine wpAny_call_entry slot_list_append g.typeIs entry_list_append ?_<|args_list_append _ _;show wpAny _ _ (updateSeq D (·.push u) >>= λ_=>ret .none) _ _ s;refine Aa ?_;obtain⟨J,U⟩:=Sv eA n u;refine wpAny_updateSeq (f:=(·.push u)) I rfl (Am {.none,rfl,h _ J (As ..) ?_}) (by rw[Au];exact hz) (by rw[Bn,Au];exact Nat.succ_le_succ hz);rw[<-U];exact Ex _ I (by rw[U];rfl)
theorem oP{Q:VK}{c2:aak}{I:aal}{RR:aak->Addr->Result->aal->Prop}
 (S:j4 X scope) (hc:X.calm=true)
 (hg:∀C fp s₀ H₀,PG (X.comp scope T C fp s₀ H₀) target g) (cB:sH g X.N.length T.length) (hf:∀C fp s₀ H₀,PF (X.comp scope T C fp s₀ H₀) ml tc) (he:∀C fp s₀ H₀,PE (X.comp scope T C fp s₀ H₀) nC te)
 (h:GO X pins σ target (λJ H1=>∃W:Nat->Nat->GT->Hp->Prop,(∃m,W 0 m [] H1)/\∀i m ys H,W i m ys H->
  (J.stop i H/\ys.length<=sizeLine/\∀D,H D=none->Q (.ref D) (upd H D<|.lst ys))\/
  (J.go i H/\ys.length<sizeLine/\∀x H',J.yld i H x H'->g x (σ++List.replicate T.length none) H' λc3 H2=>tc c3 H2 λb H3=>
   if b=true then te c3 H3 λy H4=>∃m',m'<m/\W (i+1) m' (ys++[y]) H4 else ∃m',m'<m/\W (i+1) m' ys H3)) c2 I)
 (cP:∀D C s' H' m',z0 X pins σ H' s'->qL X pins H' C->s'.heap.Ns C m'->Q (.ref D) H'->RR (.ref D) C (.ok .next) s'):
 _S X (newList []) (λc4 ag=>_S X (newFunctionEnv scope X.env.globals (fi scope X.env) [] X.env.qual none .none<|some X.env) (λbd c5=>
  codeAny (model X.prog X.w) X.A (.compStart (.ListComp nC [{target,iter,ml,0}] scope pos) 0 c2 c4 {bd with scope:=relabel scope X.env}) (RR c4 bd.locals) c5) E ag) E I:=by
 obtain⟨it,fp,tn,J,H2,rfl,U,Tn,bf,f2,W,⟨m0,w0⟩,turn⟩:=h;refine Bt (wpAny_newFunctionEnv S.nocell (by intro y hy;simp at hy) (λav ab t=>?_) S.kind);dsimp only at ab t ⊢;generalize bg:I.heap.push {cls:=.type "list",dict:=none,data:=.seq ([]:Z_).toArray}=G at ab t ⊢;have hC:G.objs.size=I.heap.objs.size+1:=by rw[<-bg,Ew]
 obtain⟨D,eD⟩:∃D,I.heap.objs.size=D:={_,rfl};obtain⟨C,eC⟩:∃C,G.objs.size=C:={_,rfl};rw[eD] at hC ⊢;rw[eC] at hC ab t ⊢;have bh:D≠C:=by lia
 have old:∀b o,I.heap.get? b=some o->av.get? b=some o:=λb o e=>by have j:=ltN e;exact t.extBut b o (xJ (by lia))<|wl _<|bg▸wl _ e
 have c6:av.get? D=some {cls:=.type "list",data:=.seq ([]:Z_).toArray 0}:=by refine t.extBut _ _ bh<|wl _ ?_;rw[<-bg,<-eD];exact ya _ rfl
 have bi:∀b∈fp,@LT.lt Nat instLTNat b I.heap.objs.size:=λb j=>by obtain⟨o,e,_⟩:=Tn.obj _ _ bf b j;exact ltN e
 have c7:@LT.lt Nat instLTNat X.env.locals I.heap.objs.size:=U.lt;have e9:X.s₀.heap.objs.size<=I.heap.objs.size:=U.sz;have HD:H2 D=none:=U.KB.fresh<|D' (by exact xY);have HC:H2 C=none:=U.KB.fresh<|D' (by lia);have d0:∀b:Addr,@LE.le Nat instLENat I.heap.objs.size b->b∉frs X.stack:=λb j z=>by
  have q:=U._H b z;rcases Aq.mp q with q|q
  .rw[<-q] at c7;exact absurd c7<|Eb.mpr j
  .exact U.nofs j q
 have aL:∀x c,X.env.cells.lookup x=some c->@LT.lt Nat instLTNat c I.heap.objs.size:=λx c e=>by obtain⟨v,q⟩:=U.cell x c e;exact q.lt
 let X':Cx:=X.comp scope T C fp I H2
 have bj:X'.Ok:={
  mod:=U.ok.mod,kind:=S.kind,glob:=U.ok.glob,blt:=U.ok.blt
  above:=D' (by show @LE.le Nat instLENat I.heap.objs.size C;lia)
  inj:=λx y c h1 h2=>U.ok.inj x y c (S._p U h1) (S._p U h2)
  has:=λx hx=>S.cl_has (S.kindOf hx)
  cab:=λx c hx=>absurd (show false=true from hx) (by simp)
  hd:=U.ok.hd,frames:=U.ok.frames,stk:=.inl rfl
  exf:=λb j=>{xJ (by have:=bi b j;show @Ne Nat b C;lia),λx c e=>(f2 b j).2.2.2.2.1 x c<|S._p U e}
  bs:=U.bs,bsz:=AF U.ok.bsz U.sz
  noex:=λb o e j=>by
   obtain⟨e0,n0⟩:=U.ok.bs b o e;rcases (f2 b j).2.2.2.1 with q|q
   .exact U.ok.noex b o e q
   .have q':@LE.le Nat instLENat X.s₀.heap.objs.size b:=q;have:=ltN e0;lia
  exfs:=λb j z=>by
   rcases Aq.mp (U._H b z) with q|q
   .exact(f2 b j).2.1 q
   .exact(f2 b j).2.2.1 q
  _z:=U.stack,frf:=U.stkFree}
 have I4:∀tk,0<tk->z0 X' pins (σ++List.replicate T.length none) H2 {I with heap:=av,toks:=tk}:=λtk dc=>{
  tk:=dc,ok:=bj,os:=rfl,bare:=U.bare,base:=Un.kept old
  loc:={_,ab,λi x v e1 e2 e3=>by
   have hi:i<σ.length:=by
    by_cases hi:i<σ.length
    .exact hi
    .rw[AK (by exact G6),Ct] at e2;split at e2<;>cases e2
   rw[AH hi] at e2;have dd:i<X.N.length:=by rw[<-U.len];exact hi
   have c8:X.N[i]?=some x:=by have:(X.N++T)[i]?=some x:=e1;rw[AH dd] at this;exact this
   have bm:=S.vis (AE c8) e3;obtain⟨m,hn,hl⟩:=U.loc;have hk:=S.free x bm;obtain⟨u,r,l⟩:=hl i x v c8 e2<|.inr hk;refine{u,r,.inr {S.back bm,?_}};rcases l with⟨l,_⟩|⟨_,c,e,z⟩
   .rw[l] at hk;rcases hk with q|q<;>cases q
   .obtain⟨c',e'⟩:=S.cl_has bm;have c9:=S._p U e';rw[e] at c9;cases c9;exact{c,e',z.keeps old}}
  cell:=λx c e=>by obtain⟨v,z⟩:=U.cell x c<|S._p U e;exact{v,z.keeps old}
  free:=HC,SB:=λx c e=>U.SB x c (S._p U e)
  pin:=λp hp=>by
   obtain⟨a,b,c,d,e⟩:=U.pin p hp;have de:=ltN a;refine{old _ _ a,b,xJ (by show @Ne Nat p.1 C;lia),λz=>?_,e};rcases Aq.mp (U._H _ z) with q|q
   .exact c q
   .exact d q
  KB:=U.KB.kept old
  len:=by show(σ++_).length=(X.N++T).length;rw[Ab,Ab,A3,U.len]}
 have bn:∀(al:List<|Addr×Obj) (H':Hp),(∀p∈al,p∈pins\/p.1=D)->(∀b∈fp,H' b=none)->∀b∈fp,qL X' al H' b:=λal H' hp hn b j=>by
  obtain⟨_,q1,q2,q3,q4,q5⟩:=f2 b j;have de:=bi b j;refine{hn b j,xJ (by show @Ne Nat b C;lia),bj.exfs b j,.inl j,(bj.exf b j).2,λp di=>?_};rcases Ao.mp di with z|z
  .exact q5 p<|Ay _ z
  .rcases hp p z with z|z
   .exact q5 p<|Ai _ z
   .rw[z];exact xJ (by lia)
 have _N:Tn.keep=Tn.keep:=rfl;have be:∀ag:aal,ag={I with heap:=av,toks:=I.toks+([]:List<|Str×aak).length}->
  codeAny (model X.prog X.w) X.A (.compLoop (.ListComp nC [{target,iter,ml,0}] scope pos) 0 (.ref it) (.ref D) X'.env) (RR (.ref D) C) ag:=by
  rintro ag rfl;refine fj (λn s'=>∃i c0 H' ys ac k,z0 X' pins c0 H' s'/\(c0.length=X.N.length+T.length/\∀(i:Nat) v,(σ++List.replicate T.length none)[i]?=some (some v)->c0[i]?=some (some v))/\
   s'.heap.get? D=some {cls:=.type "list",data:=.seq (ac:Z_).toArray k}/\ze ys ac/\H' D=none/\tn i s'.heap/\(∀b∈fp,H' b=none)/\W i n ys H') ?_ m0
   ⟨0,_,H2,[],[],0,I4 _ U.tk,⟨by rw[Ab,A3,U.len],λ_ _ e=>e⟩,c6,.nil,HD,Tn.keep _ _ _ bf λb _ o e=>old b o e,λb j=>(f2 b j).1,w0⟩
  rintro n s3 ⟨i,ec,H3,ys,ac,k,I3,⟨dj,dp⟩,dt,bb,bc,aa,ca,w3⟩;have e8:ac.length=ys.length:=bb.length.symm;have cc:D∉X'.fs:=d0 D (by exact xY);have ck:D≠X'.env.locals:=bh;have cm:z0 X' (pins++[(D,{cls:=.type "list",data:=.seq ac.toArray k})]) (σ++List.replicate T.length none) H3 s3:=
   (I3.weak (by rw[dj,Ab,A3,U.len]) dp).pins_of λp hp=>by
    rcases Ao.mp hp with z|z
    .exact I3.pin p<|Ai _ z
    .have e:=Ak.mp z;subst e;exact{dt,bc,ck,cc,λv z=>by cases z}
  have au:∀p∈pins++[(D,({cls:=.type "list",data:=.seq ac.toArray k}:Obj))],p∈pins\/p.1=D:=λp hp=>by
   rcases Ao.mp hp with z|z
   .exact .inl z
   .exact .inr (by rw[Ak.mp z])
  rcases turn i n ys H3 w3 with⟨stop,hz,qn⟩|⟨go,hz,step⟩
  .refine w9 (Tn.done X' rfl rfl rfl hc i _ s3 _ H3 _ cm (bn _ H3 au ca) aa stop) λr s4 ⟨hr,a0⟩=>?_;subst hr;obtain⟨dv,ed,_⟩:=a0.pin (D,_)<|Ai _<|Ai _ An;obtain⟨m',dV,_⟩:=a0.loc;have un:Un (frs X.stack) fp H2 (upd H3 D<|.lst ys) I.heap s4.heap:={
    keep:=a0.base.keep,slot:=a0.base.slot
    free:=λb o e n hx=>by have:=ltN e;rw[qp<|xJ (by lia)];exact a0.base.free b o e n hx
    there:=a0.base.there
    _A:=λb xs e=>by rw[qp (λz=>by rw[z,HD] at e;cases e)];exact a0.base._A b xs e
    _I:=λb o u e=>by rw[qp (λz=>by rw[z,HD] at e;cases e)];exact a0.base._I b o u e
    _J:=λb ps e=>by rw[qp (λz=>by rw[z,HD] at e;cases e)];exact a0.base._J b ps e}
   have e4:gG X.prog X.w (upd H3 D<|.lst ys) s4.heap:=λb u e=>by
    by_cases j:b=D
    .subst j;rw[zm] at e;cases e;exact{(hz),ac,k,bb,dv}
    .rw[qp j] at e;refine(a0.KB b u e)._N (λ_ _ _ q=>q) (λc q=>?_) λc xs q=>?_
     .rw[qp<|zu q bc];exact q
     .rw[qp<|zu q bc];exact q
   have I5:z0 X pins σ (upd H3 D<|.lst ys) s4:=U.call' (ch:=fp) a0.os un e4 a0.bare λb j=>{(f2 b j).2.2.2.1,(f2 b j).2.1,(f2 b j).2.2.2.2.1,(f2 b j).2.2.2.2.2};refine cP D C s4 _ m' I5 ?_ dV<|qn D bc;refine{by rw[qp<|AL bh];exact a0.free,?_,?_,.inr ?_,λx c e=>?_,λp hp=>?_}
   .exact xJ (by lia)
   .exact U.nofs<|D' (by lia)
   .exact D' (by lia)
   .exact xJ (by have:=aL x c e;lia)
   .exact xJ (by have:=ltN (U.pin p hp).1;lia)
  .refine w9 (Tn.item X' rfl rfl rfl hc i _ s3 _ H3 _ cm (bn _ H3 au ca) aa go) λr s4 ⟨u,hr,h4⟩=>?_;subst hr;refine w9 h4 λ_ s5 ⟨x,H5,I5,r5,y5,c1,e5⟩=>?_;have e6:=I5.pinned (bn _ H5 au e5)<|Tn.obj _ _ c1;refine A8 ((hg C fp I H2) _ s5 _ H5 x u _ e6 r5<|cB σ U.len x H5 _<|step x H5 y5) (λ_ s6 ⟨ba,H6,I6,⟨cn,cv⟩,q6⟩=>?_) λ_ _ z=>z;refine A8 ((hf C fp I H2) _ s6 ba H6 _ I6 q6) (λb s7 ⟨H7,I7,q7⟩=>?_) λ_ _ z=>z;have jd:∀{s8:aal} {H8:Hp} (I8:z0 X' ((pins++[(D,{cls:=.type "list",data:=.seq ac.toArray k})])++oG fp s5.heap) ba H8 s8),tn (i+1) s8.heap/\(∀b∈fp,H8 b=none)/\s8.heap.get? D=some {cls:=.type "list",data:=.seq ac.toArray k}/\H8 D=none/\z0 X' pins ba H8 s8:=λ{s8 H8} I8=>by
    refine{Tn.keep _ _ _ c1 λb j o e=>(I8.pin (b,o)<|Ai _<|Ai _<|dM j e).1,λb j=>?_,?_,?_,I8._h._h}
    .obtain⟨o,e,d⟩:=Tn.obj _ _ c1 b j;exact(I8.pin (b,o)<|Ai _<|Ai _<|dM j e).2.1
    .exact(I8.pin (D,_)<|Ai _<|Ay _<|Ai _ An).1
    .exact(I8.pin (D,_)<|Ai _<|Ay _<|Ai _ An).2.1
   cases b with
   |false=>
    rw[Az AN] at q7 ⊢;obtain⟨m',hm,w7⟩:=q7;obtain⟨a1,a2,a3,a4,a5⟩:=jd I7;exact{m',hm,i+1,ba,H7,ys,ac,k,a5,{(cn),cv},a3,bb,a4,a1,a2,w7}
   |true=>
    rw[AC rfl] at q7 ⊢;refine A8 ((he C fp I H2) _ s7 ba H7 _ I7 q7) (λv s8 ⟨y,H8,I8,r8,m',hm,w8⟩=>?_) λ_ _ z=>z;obtain⟨a1,a2,a3,a4,a5⟩:=jd I8;refine yA a3 (by lia) λh9 k9 cy e7=>?_;have nD:∀b∈fp,b≠D:=λb j=>xJ (by have:=bi b j;lia);refine{m',hm,i+1,ba,H8,ys++[y],ac++[v],k9,?_,{(cn),cv},e7,bb.append<|.cons r8 .nil,a4,Tn.keep _ _ _ a1 λb j o e=>(cy.2 b<|nD b j).trans e,a2,w8};exact a5.turned (t':=s8.toks) (it:=D) (λb o j e=>(cy.2 b j).trans e) a4 ck (.inr (D' (by show @LE.le Nat instLENat I.heap.objs.size D;exact xY))) (λx c e=>xJ (by have:=aL x c<|S._p U e;lia)) λp hp=>xJ (by have:=ltN (U.pin p hp).1;lia)
 exact codeAny_compStart_list (be _ rfl)<|Tn.self _ _ _ _ _ (Tn.keep _ _ _ bf λb _ o e=>old b o e)<|be _ rfl
end
section
variable {T:aac}{iter:Expr}{g:TG}{tc:TT}{te:TE}
def Sw(T:aac)(S:j4 X scope)(hc:X.calm=true)(hi:PI X target iter wi)(t:∀C fp s₀ H₀,PG (X.comp scope T C fp s₀ H₀) target g)(j:sH g X.N.length T.length)
 (hf:∀C fp s₀ H₀,PF (X.comp scope T C fp s₀ H₀) ml tc) (he:∀C fp s₀ H₀,PE (X.comp scope T C fp s₀ H₀) nC te)
 (hs:∀x,foldedSetIterable iter X.env x=pure x:=by intro _;rfl):PE X (.ListComp nC [{target,iter,ml,0}] scope pos) (G8 T.length wi g tc te):=by
 intro J s r H Q I h;rw[eval_ListComp];refine wpAny_comprehension_free (use:=none) rfl hs (S.clo I) S.kind S.names<|w9 (hi J s r H _ I h) λv s1 h1=>w9 h1 λa0 s2 h2=>?_;refine oP (RR:=λl C=>compPost (model X.prog X.w) X.A X.xe none (EP X J r Q) l C) S hc t j hf he h2 ?_;intro D C s' H' m' I' U hn q;exact{m',hn,λh' p=>{.ref D,H',I'.turned (t':=s'.toks) (it:=C) (λb o hb e=>(p.2 b hb).trans e) U.1 (AL<|AL U.2.1) U.2.2.2.1 U.2.2.2.2.1 U.2.2.2.2.2,rfl,q}}
theorem Sx(T:aac){px j:Pos}(hN:X.N.Nodup)(l:X.N[i]?=some x)(hx:Loc X.env.scope x)(S:j4 X scope)(hc:X.calm=true)(hi:PI X target iter wi)
 (hg:∀C fp s₀ H₀,PG (X.comp scope T C fp s₀ H₀) target g) (p:sH g X.N.length T.length)
 (hf:∀C fp s₀ H₀,PF (X.comp scope T C fp s₀ H₀) ml tc) (he:∀C fp s₀ H₀,PE (X.comp scope T C fp s₀ H₀) nC te)
 (r:swapsWith (.ListComp nC [{target,iter,ml,0}] scope j) (some<|.Name x px) pos.line X.env=pure true:=by rfl)
 (t:X.fn x=true\/X.env.scope.names.lookup x=some .local:=by first|exact .inl rfl|exact .inr rfl|assumption)
 (hs:∀x,foldedSetIterable iter X.env x=pure x:=by intro _;rfl):PS X (.Assign [.Name x px] (.ListComp nC [{target,iter,ml,0}] scope j) pos) (GN (G8 T.length wi g tc te)<|dr i):=by
 intro pins s σ H D I h;rw[exec_Assign_Name_used _ _ _ _ r];refine Aa<|wpAny_standAt<|Aa ?_;show wpAny _ X.A (do let _ <-comprehension (.ListComp nC [{target,iter,ml,0}] scope j) scope X.env _ (newList []) false (eval iter X.env) (some<|assign (.Name x px) X.env)) _ _ s;refine Aa (A8 (wpAny_comprehension_free (use:=some<|assign (.Name x px) X.env) (Q:=λ_ U=>SP X pins D .next U) rfl hs (S.clo I) S.kind S.names
  (w9 (hi pins s σ H _ I h) λv s1 h1=>w9 h1 λa5 s2 h2=>?_)) (λ_ U hq=>Am<|Am hq) λ_ _ e=>e)
 refine oP (RR:=λa0 C=>compPost (model X.prog X.w) X.A X.xe (some<|assign (.Name x px) X.env) (λ_ U=>SP X pins D .next U) a0 C) (pins:=pins) (σ:=σ) (Q:=λx H1=>dr i x σ H1 D.nx) S hc hg p hf he h2 ?_;intro A C U H' m' I' J hn q;show wpAny _ X.A (assign (.Name x px) X.env<|.ref A) _ _ U;refine wpAny_assign_Name<|rK I' hN l hx (v:=.ref A) rfl (λa1 a2 ⟨a,hs,ha⟩ _=>?_) t;have a3:C≠a:=by
  rcases ha with z|z
  .rw[z];exact J.2.1
  .exactλe=>J.2.2.2.2.1 x a z e.symm
 exact{m',hn.sameBut hs a3,λh' a4=>{_,H',a2.turned (t':=a1.toks) (it:=C) (λb o hb e=>(a4.2 b hb).trans e) J.1 J.2.1 J.2.2.2.1 J.2.2.2.2.1 J.2.2.2.2.2,q}}
end
def jz(outer:Scope)(N:aac)(I:Scope):Bool:=
 decide (I.kind=.function)&&I.names.all (λp=>decide (p.2≠.cell)&&(decide (p.2≠.local)||decide (I.names.lookup p.1=some .local))&&(decide (p.2≠.free)||(decide (outer.names.lookup p.1=some .cell)||decide (outer.names.lookup p.1=some .free))))
  && N.all (λx=>decide<|I.names.lookup x≠some .local)
def jz.mk{I:Scope}(h:jz X.env.scope X.N I=true):j4 X I:=by
 unfold jz at h;rw[Be,Be,Ce,Ce] at h;obtain⟨⟨l,J⟩,o⟩:=h;have j:∀n,(n,NameKind.free)∈I.names->X.env.kindOf n=some .cell\/X.env.kindOf n=some .free:=λn U=>by
  have q:=J _ U;simp only[Be,Ef,decide_eq_true_eq] at q;rcases q.2 with z|z
  .exact absurd rfl z
  .exact z
 refine{of_decide_eq_true l,λy g=>?_,λy g e=>?_,λn U=>j n<|BD U,j,λx p=>of_decide_eq_true<|o x p}
 .have q:=J _ g;simp only[Be,Ef,decide_eq_true_eq] at q;exact q.1.1
 .have q:=J _ g;simp only[Be,Ef,decide_eq_true_eq] at q;rcases q.1.2 with z|z
  .exact absurd e z
  .exact z
abbrev EL:=@jz.mk
def xN(n:Nat):sH (dr n) n 1:=by
 intro U I x H Q h;refine{{by simp[I],λi v e=>?_},h};by_cases J:i=n
 .subst J;rw[AK (by exact xY)] at e;simp[I] at e
 .rw[B4<|AL J];exact e
def qR:bootBuiltins "isinstance"=some (.builtin "isinstance"):=by decide +kernel
def ef:bootBuiltins "tuple"=some (.type "tuple"):=by decide +kernel
def bp:bootBuiltins "str"=some (.type "str"):=by decide +kernel
def uW:bootBuiltins "int"=some (.type "int"):=by decide +kernel
def bT:bootBuiltins "list"=some (.type "list"):=by decide +kernel
def zO:bootBuiltins "len"=some (.builtin "len"):=by decide +kernel
def Jp{k:Nat}(I:wf k A):A.units+128<cLine:=by have:=I.un;lia
def small{n:Nat}(h:n<=1000):n<=sizeLine:=Bi<|rP h
def Cal.of{P:aam}{w:aan}{K:Af}{k:Nat}{sp:Sp}(F:bE P w K mg base CX0 k f fd ps sp)(b:aI K fd ps [])(I:PySem.W.keepIn K (.ref f)=true)(m:mg x=some (.ref f)):
 Cal P w K mg base k x ps sp:={(f),fd,F,b,I,m}
def bE.never{P:aam}{w:aan}{K:Af}{k:Nat}{sp:Sp}(no:∀vs H Q E,¬sp vs H Q E):bE P w K mg base CX0 k f fd ps sp:=
 ⟨λvs H Q E h=>absurd h<|no vs H Q E,λA I s H args J vs Q E _ _ _ _ h=>absurd h<|no vs H Q E⟩
section
variable (K:Af)(P:aam)(w:aan)
end
structure zd(K:Af)(x:Str)(st:Stmt):Prop where
 ex:∃(f:Addr) (kV fx pm:aak) (an:Option Addr) (eK ct:aak),PySem.W.nsIn K mainGlobals x=some (some<|.ref f)/\Fun K x x st f (PySem.W.fnOf x x (xo st) (jl st) (za st) .none kV fx pm an eK ct)
def def_in{K:Af}{kV:aak}(a:PySem.W.nsIn K mainGlobals x=some (some<|.ref f))
 (l:K.lookup f=some ⟨oc,od,.func<|PySem.W.fnOf x x (xo st) (jl st) (za st) .none kV fx pm an eK ct,oi⟩) (c:PySem.W.codeIn K eK x=true) (k:PySem.W.keepIn K (.ref f)=true):zd K x st:=
 ⟨f,kV,fx,pm,an,eK,ct,a,Je (st:=st) l c k⟩
def zd.use{K:Af}(D:zd K x st)(X:K.In h)(G:h.Ns mainGlobals mg)
 (I:∀(kV fx pm:aak) (an:Option Addr) (eK ct:aak) (us:Z_),us.length=ps.length->bindArgs (PySem.W.fnOf x x (xo st) (jl st) (za st) .none kV fx pm an eK ct) ⟨us,[]⟩=pure (ps.zip us)):
 ∃f fd,Fun K x x st f fd/\aI K fd ps []/\mg x=some (.ref f):=by
 obtain⟨f,kV,fx,pm,an,eK,ct,a,F⟩:=D.ex;exact{f,_,F,aI.all<|I kV fx pm an eK ct,Bv X G a}
def sP(w:aan)(r:Str×Tok×Str×Tok):DictEntry:={hashStr w r.1,.str r.1 r.2.1,.str r.2.2.1 r.2.2.2}
def G9{K:Af}{P:aam}{w:aan}{c:Addr}{U:Nat}(rows:List<|Str×Tok×Str×Tok)(l:K.lookup c=some ⟨.type "dict",none,.dict (rows.map<|sP w).toArray U,#[]⟩)(hs:(c==sysModules)=false)(hz:rows.length<=1000)(nd:(rows.map λr=>(Sum.inr r.1:zr)).Nodup):
 KD K P w c (rows.map λr=>(Sum.inr r.1,.str r.2.2.1)):=by
 refine{hs,by rw[Ac];exact small hz,λh X=>{rows.map λr=>(Sum.inr r.1,.str r.2.2.1 r.2.2.2),?_,_,_,U,X c _ l,{(rfl),rfl,rfl},rfl,?_,?_,?_}}
 .unfold KV;clear l hz nd
  induction rows with|nil=>exact .nil|cons r t I=>exact .cons {rfl,_,rfl} I
 .intro e g;have J:e∈rows.map (sP w):=by simpa using g
  obtain⟨r,_,rfl⟩:=A2.mp J;exact{Sum.inr r.1,cL r.1 r.2.1,rfl}
 .show Pairs _ (rows.map<|sP w).toArray.toList _;rw[Dx];clear l hz nd
  induction rows with|nil=>exact .nil|cons r t I=>exact .cons (cL r.1 r.2.1) rfl I
 .rw[BI];exact nd
inductive Wd where
 |leaf (t:Bool) (n:Str)
 |node (e:Bool) (l r:Wd)
def kL:Bool->Str
 |false => "plain"
 |true => "turned"
def kN:Bool->Str
 |false => "both"
 |true => "either"
def Wd.turn:Wd->Wd
 |.leaf t n=>.leaf (!t) n
 |.node e l r=>.node (!e) l.turn r.turn
def Wd.depth:Wd->Nat
 |.leaf _ _=>1
 |.node _ l r=>max l.depth r.depth+1
def Wd.Re:Wd->Nat
 |.leaf _ _=>1
 |.node _ l r=>l.Re+r.Re
theorem Wd._K:∀w:Wd,1<=w.Re
 |.leaf _ _=>Aj _
 |.node _ l r=>by have:=Wd._K l;show 1<=l.Re+r.Re;exact Ji
abbrev ER:=@Wd._K
theorem Wd._L:∀w:Wd,w.depth<=w.Re
 |.leaf _ _=>Aj _
 |.node _ l r=>by have:=Wd._L l;have:=Wd._L r;have:=ER l;have:=ER r;show max l.depth r.depth+1<=l.Re+r.Re;lia
def oE:Wd->Da
 |.leaf t n=>.tup [.s<|.str<|kL t,.s<|.str n]
 |.node e l r=>.tup [.s<|.str<|kN e,oE l,oE r]
theorem iq:∀w:Wd,Da.eq (oE w) (oE w)=true
 |.leaf t n=>by simp[oE,Da.eq,Da.eqs,gb]
 |.node e l r=>by simp[oE,Da.eq,Da.eqs,gb,iq l,iq r]
def aJ(x:Str):Prop:=1<=x.length/\x.length<=8/\∀c∈x.cps.toList,97<=c/\c<=122
def Wd.ok:Wd->Prop
 |.leaf _ n=>aJ n
 |.node _ l r=>l.ok/\r.ok
def Paired.getP{F:α->β->Prop}:∀{xs:List α} {ys:List β} {i:Nat} {x:α},Paired F xs ys->xs[i]?=some x->∃y,ys[i]?=some y/\F x y:=by
 intro xs ys i x h
 induction h generalizing i with
 |nil=>intro h;simp at h
 |cons r t I=>
  intro h;cases i with
  |zero=>simp at h;subst h;exact{_,rfl,r}
  |succ i=>
   obtain⟨y,e,q⟩:=I (i:=i) (by simpa using h);exact{y,by simpa using e,q}
def Jq:bootBuiltins "max"=some (.builtin "max"):=by decide +kernel
def Sy:bootBuiltins "bool"=some (.type "bool"):=by decide +kernel
def Wd.size:Wd->Nat
 |.leaf _ _=>1
 |.node _ l r=>1+l.size+r.size
theorem Wd.size_eq:∀w:Wd,w.size+1=2*w.Re
 |.leaf _ _=>rfl
 |.node _ l r=>by have:=Wd.size_eq l;have:=Wd.size_eq r;show 1+l.size+r.size+1=2*(l.Re+r.Re);lia
section
variable {a:Addr}{tr:Option Addr}
end
section
variable {a b T:Addr}{tr:Option Addr}{E1:X1}
end
section
variable {k:Nat}{sp:Sp}{E1:X1}{t:TA}
end
section
variable {a T:Addr}{tr:Option Addr}
end
section
variable {a T:Addr}
end
section
open PySem.W
open Builtin.ObjectAttr in
section
variable {w:aan}{K:Frag}{a:Addr}
open Builtin Builtin.ObjectAttr Builtin.Getset_descriptor in
end
def Sz(K:Af)(H:Hp)(a C:Addr):Prop:=∃I,H a=some (._F I<|.own 0)/\I.cls=.ref C
def uK(H:Hp)(P:Addr)(q:Str):Prop:=∃ps,H P=some (.tbl ps)/\TriplesOk ps.toList/\∀pos I,codeAmong pos ps.toList=some I->∃J oc vs t,I=.ref J/\H J=some (._F oc<|.own 0)/\oc.data=.fields vs/\vs[1]?=some (.str q t)
def uK.keep{P:Addr}(h:uK H P q)(e:H' P=H P)(t:∀b o u,H b=some (._F o u)->H' b=some (._F o u)):uK H' P q:=by obtain⟨I,J,U,g⟩:=h;refine{I,e.trans J,U,λpos j z=>?_};obtain⟨l,p,r,C,T,e2,e3⟩:=g pos j z;exact{l,p,r,C,T,t _ _ _ e2,e3}
end
inductive Y where
 |KF|bl (b:Bool)|int (i:Int)|str (x:Str)|ref (a:Addr)|ty (n:aap)|cd (kvs:List<|Str×Str)|tup (ys:List Y)|sq (ys:List Y)
abbrev _T:=List Y
inductive LO where
 |lst (ys:_T)|_q (kvs:List<|zr×Y)|ins (C:Addr) (fs:List<|Str×Y)|exc (C:Addr)|tb (q:Str)
abbrev qh:=Addr->Option LO
def qg(L:qh)(a:Addr)(o:LO):qh:=λb=>if b=a then some o else L b
def q9{L:qh}{a:Addr}{o:LO}:qg L a o a=some o:=by unfold qg;rw[AC rfl]
def qb{L:qh}{a b:Addr}{o:LO}(h:b≠a):qg L a o b=L b:=by unfold qg;rw[Az h]
def jc{L:qh}{a:Addr}{o u:LO}:qg (qg L a o) a u=qg L a u:=by funext b;unfold qg;split<;>rfl
def v4{L:qh}{a b:Addr}{o:LO}(h:L a=some o)(h':L b=none):a≠b:=by intro e;subst e;rw[h] at h';cases h'
def SA{L:qh}{a b:Addr}{o u:LO}(h:L a=some o)(h':L b=some u)(d:o≠u):a≠b:=by intro e;subst e;rw[h] at h';exact d<|A1 h'
structure G3 where
 K:Af
 P:aam
 w:aan
abbrev Cx.g3(X:Cx):G3:={(X.K),X.prog,X.w}
def SqF(K:Af)(H:Hp)(a:Addr)(xs:GT):Prop:=(∃o,H a=some (._F o<|.lst xs))\/
 ∃(o:Obj) (eA:aaa) (n:Nat),K.lookup a=some o/\o.cls=.type "list" /\ o.dict=none/\o.data=.seq eA n/\eA.size<=sizeLine/\ze xs eA.toList
def SqF.sq{K:Af}{a:Addr}(h:SqF K H a xs):aV K H a xs:=by
 rcases h with⟨o,h⟩|h
 .exact .inl<|.inr {(o),h}
 .exact .inr h
mutual
def RV(G:G3)(H:Hp):Y->V->Prop
 |.KF,v=>v=.KF
 |.bl b,v=>v=.bl b
 |.int i,v=>v=.int i
 |.str x,v=>v=.str x
 |.ref a,v=>v=.ref a
 |.ty n,v=>v=.ty n
 |.cd kvs,v=>∃a,v=.ref a/\KD G.K G.P G.w a (kvs.map λp=>(Sum.inr p.1,V.str p.2))
 |.tup ys,v=>∃a xs,v=.ref a/\db G.K H a xs/\jw G H ys xs
 |.sq ys,v=>∃a xs,v=.ref a/\SqF G.K H a xs/\jw G H ys xs
def jw(G:G3)(H:Hp):_T->GT->Prop
 |[],xs=>xs=[]
 |y::ys,xs=>∃x I,xs=x::I/\RV G H y x/\jw G H ys I
end
def SD:HO->Bool
 |.tup _=>true
 |._F _ _=>true
 |_=>false
def zp(H H':Hp):Prop:=∀a u,SD u=true->H a=some u->H' a=some u
def zp.refl(H:Hp):zp H H:=λ_ _ _ h=>h
abbrev EF:=@zp.refl
def zp.trans{H1 H2:Hp}(a:zp H H1)(b:zp H1 H2):zp H H2:=λc u i h=>b c u i<|a c u i h
def zp.new{p:Addr}{o:HO}(h:H p=none):zp H (upd H p o):=λ_ _ _ q=>by rw[qp<|zu q h];exact q
abbrev EG:=@zp.new
def zp.lst{p:Addr}{o:HO}(h:H p=some (.lst zs)):zp H (upd H p o):=λa u i q=>by rw[qp ?_];exact q;rintro rfl;rw[h] at q;cases q;cases i
abbrev ES:=@zp.lst
def db.ts{K:Af}{a:Addr}(h:db K H a xs)(t:zp H H'):db K H' a xs:=by
 rcases h with(h|⟨o,h⟩)|h
 .exact .inl<|.inl<|t _ _ rfl h
 .exact .inl<|.inr {o,t _ _ rfl h}
 .exact .inr h
def SqF.ts{K:Af}{a:Addr}(h:SqF K H a xs)(t:zp H H'):SqF K H' a xs:=by
 rcases h with⟨o,h⟩|h
 .exact .inl {o,t _ _ rfl h}
 .exact .inr h
mutual
theorem RV.ts{G:G3}{H H':Hp}(t:zp H H'):∀{y:Y} {v:V},RV G H y v->RV G H' y v
 |.KF,_,h=>h
 |.bl _,_,h=>h
 |.int _,_,h=>h
 |.str _,_,h=>h
 |.ref _,_,h=>h
 |.ty _,_,h=>h
 |.cd _,_,h=>h
 |.tup _,_,⟨a,I,e,s,r⟩=>{a,I,e,db.ts s t,jw.ts t r}
 |.sq _,_,⟨a,I,e,s,r⟩=>{a,I,e,s.ts t,jw.ts t r}
theorem jw.ts{G:G3}{H H':Hp}(t:zp H H'):∀{ys:_T} {xs:GT},jw G H ys xs->jw G H' ys xs
 |[],_,h=>h
 |_::_,_,⟨x,I,e,r,s⟩=>{x,I,e,RV.ts t r,jw.ts t s}
end
theorem jw.length{G:G3}{H:Hp}:∀{ys:_T} {xs:GT},jw G H ys xs->ys.length=xs.length
 |[],_,h=>by cases h;rfl
 |_::_,_,⟨x,I,e,_,s⟩=>by subst e;simp[jw.length s]
theorem jw.get{G:G3}{H:Hp}:∀{ys:_T} {xs:GT} {i:Nat} {y:Y},jw G H ys xs->ys[i]?=some y->∃x,xs[i]?=some x/\RV G H y x
 |[],_,_,_,_,h=>by simp at h
 |_::_,_,0,_,⟨x,I,e,r,_⟩,h=>by subst e;simp at h;subst h;exact{(x),rfl,r}
 |_::_,_,i+1,_,⟨x,I,e,_,s⟩,h=>by subst e;obtain⟨J,q,r⟩:=jw.get (i:=i) s (by simpa using h);exact{J,by simpa using q,r}
theorem jw.app{G:G3}{H:Hp}:∀{ys zs:_T} {xs us:GT},jw G H ys xs->jw G H zs us->jw G H (ys++zs) (xs++us)
 |[],_,_,_,h,q=>by cases h;exact q
 |_::_,_,_,_,⟨x,I,e,r,s⟩,q=>by subst e;exact{x,I++_,rfl,r,jw.app s q}
def jw.one{G:G3}{y:Y}{x:V}(r:RV G H y x):jw G H [y] [x]:={x,[],rfl,r,rfl}
theorem jw.take{G:G3}{H:Hp}:∀{ys:_T} {xs:GT} (n:Nat),jw G H ys xs->jw G H (ys.take n) (xs.take n)
 |[],_,n,h=>by cases h;simp[jw]
 |_::_,_,0,_=>by simp[jw]
 |_::_,_,n+1,⟨x,I,e,r,s⟩=>by subst e;exact{x,I.take n,rfl,r,jw.take n s}
theorem jw.drop{G:G3}{H:Hp}:∀{ys:_T} {xs:GT} (n:Nat),jw G H ys xs->jw G H (ys.drop n) (xs.drop n)
 |[],_,n,h=>by cases h;simp[jw]
 |_::_,_,0,h=>h
 |_::_,_,n+1,⟨x,I,e,r,s⟩=>by subst e;exact jw.drop n s
theorem jw.setY{G:G3}{H:Hp}{y:Y}{x:V}(r:RV G H y x):∀{ys:_T} {xs:GT} (i:Nat),jw G H ys xs->jw G H (ys.set i y) (xs.set i x)
 |[],_,_,h=>by cases h;simp[jw]
 |_::_,_,0,⟨J,I,e,_,s⟩=>by subst e;exact{(x),I,rfl,r,s}
 |_::_,_,i+1,⟨J,I,e,q,s⟩=>by subst e;exact{J,I.set i x,rfl,q,jw.setY r i s}
def jw.dropLast{G:G3}{ys:_T}(h:jw G H ys xs):jw G H ys.dropLast xs.dropLast:=by rw[List.dropLast_eq_take,List.dropLast_eq_take,h.length];exact h.take _
theorem jw.eraseIdx{G:G3}{H:Hp}:∀{ys:_T} {xs:GT} (n:Nat),jw G H ys xs->jw G H (ys.eraseIdx n) (xs.eraseIdx n)
 |[],_,n,h=>by cases h;simp[jw]
 |_::_,_,0,⟨x,I,e,r,s⟩=>by subst e;exact s
 |_::_,_,n+1,⟨x,I,e,r,s⟩=>by subst e;exact{x,I.eraseIdx n,rfl,r,jw.eraseIdx n s}
def RO(G:G3)(H:Hp)(a:Addr):LO->Prop
 |.lst ys=>∃xs,H a=some (.lst xs)/\jw G H ys xs
 |._q kvs=>∃xs,H a=some (.dK xs)/\Paired (λ(p:zr×Y) (q:zr×V)=>p.1=q.1/\RV G H p.2 q.2) kvs xs
 |.ins C fs=>∃dx xs,H a=some (.ins C dx xs)/\Paired (λ(p:Str×Y) (q:Str×V)=>p.1=q.1/\RV G H p.2 q.2) fs xs
 |.exc C=>Sz G.K H a C
 |.tb q=>uK H a q
def zw(G:G3)(H:Hp)(L:qh):Prop:=∀a o,L a=some o->RO G H a o
theorem RO.ex{G:G3}{a:Addr}:∀{o:LO},RO G H a o->∃u,H a=some u
 |.lst _,⟨_,h,_⟩=>{_,h}
 |._q _,⟨_,h,_⟩=>{_,h}
 |.ins _ _,⟨_,_,h,_⟩=>{_,h}
 |.exc _,⟨_,h,_⟩=>{_,h}
 |.tb _,⟨_,h,_⟩=>{_,h}
theorem zw.none{G:G3}{L:qh}(h:zw G H L){p:Addr}(I:H p=none):L p=none:=by cases e:L p with|none=>rfl|some o=>obtain⟨u,q⟩:=(h p o e).ex;rw[I] at q;cases q
theorem RO.keep{G:G3}(t:zp H H'){a:Addr}(e:H' a=H a):∀{o:LO},RO G H a o->RO G H' a o
 |.lst _,⟨I,h,r⟩=>{I,e.trans h,r.ts t}
 |._q _,⟨I,h,r⟩=>{I,e.trans h,EH r λ_ _ ⟨a,b⟩=>{a,b.ts t}}
 |.ins _ _,⟨J,I,h,r⟩=>{J,I,e.trans h,EH r λ_ _ ⟨a,b⟩=>{a,b.ts t}}
 |.exc _,⟨o,h,c⟩=>{o,e.trans h,c}
 |.tb _,h=>uK.keep h e λb o u z=>t b _ rfl z
def zw.skip{G:G3}{L:qh}(h:zw G H L){p:Addr}{o:HO}(I:H p=.none):zw G (upd H p o) L:=λa u e=>by obtain⟨x,q⟩:=(h a u e).ex;exact(h a u e).keep (EG I) (qp<|zu q I)
def zw._P{G:G3}{L:qh}(h:zw G H L){p:Addr}{ys:_T}(I:H p=.none)(r:jw G H ys xs):zw G (upd H p<|.lst xs) (qg L p<|.lst ys):=λa u e=>by
 by_cases c:a=p
 .subst c;rw[q9] at e;cases e;exact{xs,zm,r.ts<|EG I}
 .rw[qb c] at e;exact(h a u e).keep (EG I) (qp c)
def zw.setL{G:G3}{L:qh}(h:zw G H L){p:Addr}{ys:_T}(I:H p=some (.lst zs))(r:jw G H ys xs):zw G (upd H p<|.lst xs) (qg L p<|.lst ys):=λa u e=>by
 by_cases c:a=p
 .subst c;rw[q9] at e;cases e;exact{xs,zm,r.ts<|ES I}
 .rw[qb c] at e;exact(h a u e).keep (ES I) (qp c)
def qf(L L':qh):Prop:=∀a o,L a=some o->L' a=some o
def qf.refl(L:qh):qf L L:=λ_ _ h=>h
abbrev EE:=@qf.refl
def qf.trans{L L1 L2:qh}(a:qf L L1)(b:qf L1 L2):qf L L2:=λc o h=>b c o<|a c o h
def qf.new{L:qh}{p:Addr}{o:LO}(h:L p=none):qf L (qg L p o):=λa u e=>by rw[qb<|v4 e h];exact e
abbrev By:=@qf.new
@[elab_as_elim] theorem bZ {L:qh} {p:Addr} {o:LO} {motive:qh->Prop} (h:L p=none) (k:∀L',qf L L'->L' p=some o->motive L'):motive (qg L p o):=k _ (By h) q9
def zw.sub{G:G3}{L L':qh}(h:zw G H L')(s:qf L L'):zw G H L:=λa o e=>h a o<|s a o e
abbrev j5:=List<|Option Y
structure ve(G:G3)(H:Hp)(σ:St)(τ:j5):Prop where
 len:σ.length=τ.length
 get:∀(i:Nat) y,τ[i]?=some (some y)->∃v,σ[i]?=some (some v)/\RV G H y v
theorem ve.ts{G:G3}{τ:j5}(h:ve G H σ τ)(t:zp H H'):ve G H' σ τ:=
 ⟨h.len,λi y e=>let ⟨v,a,b⟩:=h.get i y e;⟨v,a,b.ts t⟩⟩
def ve.set{G:G3}{τ:j5}(h:ve G H σ τ){y:Y}(r:RV G H y v):ve G H (σ.set i<|some v) (τ.set i<|some y):=by
 refine{by simp[h.len],λj z e=>?_};by_cases c:i=j
 .subst c;have I:i<τ.length:=by
   by_cases q:i<τ.length
   .exact q
   .rw[Br (by simp;omega)] at e;cases e
  rw[B9 I] at e;cases e;exact{v,B9 (by rw[h.len];exact I),r}
 .rw[B4 c] at e ⊢;exact h.get j z e
def ve.more{G:G3}{τ:j5}(h:ve G H σ τ)(n:Nat):ve G H (σ++List.replicate n none) (τ++List.replicate n none):=by
 refine{by simp[h.len],λj z e=>?_};by_cases c:j<τ.length
 .rw[AH c] at e;rw[AH (by rw[h.len];exact c)];exact h.get j z e
 .rw[AK (by omega),Ct] at e;split at e<;>cases e
def yY:j5->Nat->Option Y
 |[],_=>none
 |o::_,0=>o
 |_::r,i+1=>yY r i
theorem mY:∀(τ:j5) (i:Nat) {y:Y},yY τ i=some y->τ[i]?=some (some y)
 |[],_,_,h=>by cases h
 |o::_,0,_,h=>by simp[yY] at h;simp[h]
 |_::r,i+1,_,h=>by simp only[Cv];exact mY r i h
abbrev YK:=Y->qh->Prop
abbrev ji:=j5->qh->YK->Prop
abbrev kC:=j5->qh->(Bool->qh->Prop)->Prop
abbrev fF:=j5->qh->(_T->qh->Prop)->Prop
structure vd where
 nx:j5->qh->Prop
 rt:YK
 bk:j5->qh->Prop:=λ_ _=>False
 ct:j5->qh->Prop:=λ_ _=>False
abbrev fe:=vd->j5->qh->Prop
abbrev mO:=Y->j5->qh->(j5->qh->Prop)->Prop
abbrev wU:=_T->j5->qh->(j5->qh->Prop)->Prop
abbrev A_:=j5->qh->(_T->(qh->Prop)->qh->Prop)->Prop
abbrev nE:=Y->Y->qh->YK->Prop
def ui(G:G3)(H:Hp)(I:YK)(Q:VK):Prop:=∀v H' y L',zp H H'->zw G H' L'->RV G H' y v->I y L'->Q v H'
def ad1(G:G3)(H:Hp)(I:Bool->qh->Prop)(Q:Bool->Hp->Prop):Prop:=∀b H' L',zp H H'->zw G H' L'->I b L'->Q b H'
def Jr(G:G3)(H:Hp)(I:_T->qh->Prop)(Q:GT->Hp->Prop):Prop:=∀vs H' ys L',zp H H'->zw G H' L'->jw G H' ys vs->I ys L'->Q vs H'
def qQ(G:G3)(H:Hp)(I:j5->qh->Prop)(Q:St->Hp->Prop):Prop:=∀σ H' τ L',zp H H'->ve G H' σ τ->zw G H' L'->I τ L'->Q σ H'
def ui.ts{G:G3}{I:YK}{Q:VK}(h:ui G H I Q)(t:zp H H'):ui G H' I Q:=λv J y U g=>h v J y U<|t.trans g
def ad1.ts{G:G3}{I:Bool->qh->Prop}{Q:Bool->Hp->Prop}(h:ad1 G H I Q)(t:zp H H'):ad1 G H' I Q:=λv J U g=>h v J U<|t.trans g
def qQ.ts{G:G3}{I:j5->qh->Prop}{Q:St->Hp->Prop}(h:qQ G H I Q)(t:zp H H'):qQ G H' I Q:=λv J y U g=>h v J y U<|t.trans g
structure ac6(G:G3)(H:Hp)(D3:vd)(D:xU):Prop where
 nx:qQ G H D3.nx D.nx
 rt:ui G H D3.rt D.rt
 bk:qQ G H D3.bk D.bk
 ct:qQ G H D3.ct D.ct
theorem ac6.ts{G:G3}{I:vd}{D:xU}(h:ac6 G H I D)(t:zp H H'):ac6 G H' I D:={h.nx.ts t,h.rt.ts t,h.bk.ts t,h.ct.ts t}
def pQ(G:G3)(t:ji):TE:=λσ H Q=>∃τ L I,ve G H σ τ/\zw G H L/\t τ L I/\ui G H I Q
def n_(G:G3)(t:kC):TT:=λσ H Q=>∃τ L I,ve G H σ τ/\zw G H L/\t τ L I/\ad1 G H I Q
def Js(G:G3)(t:fF):TA:=λσ H Q=>∃τ L I,ve G H σ τ/\zw G H L/\t τ L I/\Jr G H I Q
def F6(G:G3)(t:fe):TS:=λD σ H=>∃τ L I,ve G H σ τ/\zw G H L/\t I τ L/\ac6 G H I D
def FC(G:G3)(g:mO):TG:=λv σ H Q=>∃y τ L I,RV G H y v/\ve G H σ τ/\zw G H L/\g y τ L I/\qQ G H I Q
def SE(G:G3)(g:wU):k_:=λvs σ H Q=>∃ys τ L I,jw G H ys vs/\ve G H σ τ/\zw G H L/\g ys τ L I/\qQ G H I Q
structure dw(G:G3)(H₀:Hp)(J:It)(ys:_T)(keep:qh->Prop):Prop where
 go:∀i H L,zp H₀ H->zw G H L->keep L->i<ys.length->J.go i H
 yld:∀i H L x H' y,zp H₀ H->zw G H L->keep L->ys[i]?=some y->J.yld i H x H'->zp H H'/\zw G H' L/\RV G H' y x
 stop:∀H L,zp H₀ H->zw G H L->keep L->J.stop ys.length H
def G'(G:G3)(wi:A_):TI:=λσ H R=>∃τ L I,ve G H σ τ/\zw G H L/\wi τ L I/\∀J H' ys keep L',zp H H'->zw G H' L'->dw G H' J ys keep->I ys keep L'->R J H'
def cf(G:G3)(U:nE):R2:=λx y H Q=>∃x3 I L J,RV G H x3 x/\RV G H I y/\zw G H L/\U x3 I L J/\ui G H J Q
def e_(G:G3)(J:_T->qh->YK->Prop):GT->Hp->VK->Prop:=λxs H Q=>∃ys L I,jw G H ys xs/\zw G H L/\J ys L I/\ui G H I Q
def Jt(G:G3)(J:Y->qh->YK->Prop):V->Hp->VK->Prop:=λx H Q=>∃y L I,RV G H y x/\zw G H L/\J y L I/\ui G H I Q
def PE.imp{t u:TE}(h:PE X e t)(q:∀σ H Q,u σ H Q->t σ H Q):PE X e u:=λJ s σ H Q I z=>h J s σ H Q I<|q σ H Q z
abbrev ET:=@PE.imp
def PE._c{G:G3}{t:TE}{u:ji}(h:PE X e t)(q:∀σ H Q τ L I,ve G H σ τ->zw G H L->u τ L I->ui G H I Q->t σ H Q):PE X e (pQ G u):=ET h λσ H Q ⟨τ,L,I,a,b,c,d⟩=>q σ H Q τ L I a b c d
abbrev EI:=@PE._c
def PT.imp{t u:TT}(h:PT X e t)(q:∀σ H Q,u σ H Q->t σ H Q):PT X e u:=λJ s σ H Q I z=>h J s σ H Q I<|q σ H Q z
def PT._c{G:G3}{t:TT}{u:kC}(h:PT X e t)(q:∀σ H Q τ L I,ve G H σ τ->zw G H L->u τ L I->ad1 G H I Q->t σ H Q):PT X e (n_ G u):=PT.imp h λσ H Q ⟨τ,L,I,a,b,c,d⟩=>q σ H Q τ L I a b c d
def PW.imp{t u:TT}(h:PW X e t)(q:∀σ H Q,u σ H Q->t σ H Q):PW X e u:=λU J s σ H Q I z=>h U J s σ H Q I<|q σ H Q z
def PW._c{G:G3}{t:TT}{u:kC}(h:PW X e t)(q:∀σ H Q τ L I,ve G H σ τ->zw G H L->u τ L I->ad1 G H I Q->t σ H Q):PW X e (n_ G u):=PW.imp h λσ H Q ⟨τ,L,I,a,b,c,d⟩=>q σ H Q τ L I a b c d
def PA.imp{e:aad}{t u:TA}(h:PA X e t)(q:∀σ H Q,u σ H Q->t σ H Q):PA X e u:=λpos J s σ H Q I z=>h pos J s σ H Q I<|q σ H Q z
def PA._c{G:G3}{e:aad}{t:TA}{u:fF}(h:PA X e t)(q:∀σ H Q τ L I,ve G H σ τ->zw G H L->u τ L I->Jr G H I Q->t σ H Q):PA X e (Js G u):=PA.imp h λσ H Q ⟨τ,L,I,a,b,c,d⟩=>q σ H Q τ L I a b c d
def PS.imp{e:Stmt}{t u:TS}(h:PS X e t)(q:∀D σ H,u D σ H->t D σ H):PS X e u:=λJ s σ H Q I z=>h J s σ H Q I<|q _ σ H z
def PS._c{G:G3}{e:Stmt}{t:TS}{u:fe}(h:PS X e t)(q:∀D σ H τ L I,ve G H σ τ->zw G H L->u I τ L->ac6 G H I D->t D σ H):PS X e (F6 G u):=PS.imp h λD σ H ⟨τ,L,I,a,b,c,d⟩=>q D σ H τ L I a b c d
abbrev EM:=@PS._c
def mR.imp{e:aae}{t u:TS}(h:mR X e t)(q:∀D σ H,u D σ H->t D σ H):mR X e u:=λJ s σ H Q I z=>h J s σ H Q I<|q _ σ H z
def mR._c{G:G3}{e:aae}{t:TS}{u:fe}(h:mR X e t)(q:∀D σ H τ L I,ve G H σ τ->zw G H L->u I τ L->ac6 G H I D->t D σ H):mR X e (F6 G u):=mR.imp h λD σ H ⟨τ,L,I,a,b,c,d⟩=>q D σ H τ L I a b c d
def PF.imp{e:aad}{t u:TT}(h:PF X e t)(q:∀σ H Q,u σ H Q->t σ H Q):PF X e u:=λJ s σ H Q I z=>h J s σ H Q I<|q σ H Q z
variable {g:mO}{G:G3}{y:Y}{D:vd}{tA tc:kC}{ta tb te ti to:ji}{kvs:List<|zr×Y}{ys:_T}{L L' L0 L1:qh}{τ:j5}{gs:wU}{tr:fF}
def qS:Y:=(.tup [(.str "plain"),(.str "turned")])
def mL:Y:=(.cd [("plain","turned"),("turned","plain"),("both","either"),("either","both")])
def ael:Y:=.int 8
structure F7(G:G3)(mg:Z7)(x:Str)(kvs:List<|Str×Int):Prop where
 ex:∃a,mg x=some (.ref a)/\KD G.K G.P G.w a (kvs.map λp=>(Sum.inr p.1,V.int p.2))
def jj:List (Str×Int):=[("link",2),("either",1),("both",1),("cut",2)]
def aem:Y:=.int 4
def qW:Y:=.cd [("plain","+"),("turned","-")]
def qX:Y:=.cd [("+","plain"),("-","turned")]
def qF:Y:=.tup [.str "both",.str "either"]
def nV:Y:=.int 150
def xw:List (Str×Int):=[("link",0),("either",1),("both",2),("cut",2)]
def wg(b:Bool)(A B:Prop):Prop:=match b with
 |true=>A
 |false=>B
def mv{b:Bool}{A B:Prop}(h:b=true->A)(k:b=false->B):wg b A B:=by cases b with|true=>exact h rfl|false=>exact k rfl
def kz{b:Bool}{A B:Prop}(e:b=true)(h:A):wg b A B:=by rw[e];exact h
def jv{b:Bool}{A B:Prop}(e:b=false)(h:B):wg b A B:=by rw[e];exact h
def jp{p:Prop} [Decidable p]{A B:Prop}(h:p->A)(k:¬p->B):wg (decide p) A B:=by
 by_cases c:p
 .rw[AA c];exact h c
 .rw[Aw c];exact k c
def oX{p:Prop} [Decidable p]{A B:Prop}(c:p)(h:A):wg (decide p) A B:=by rw[AA c];exact h
def SF{p:Prop} [Decidable p]{A B:Prop}(c:¬p)(h:B):wg (decide p) A B:=by rw[Aw c];exact h
def nb(neg b:Bool):Bool:=match neg with
 |true=>!b
 |false=>b
def qw(i:Nat)(τ:j5)(L:qh)(Q:YK):Prop:=match yY τ i with
 |some y=>Q y L
 |none=>False
def yC(y:Y)(_:j5)(L:qh)(Q:YK):Prop:=Q y L
def aZ(r:nE)(ta tb:ji)(τ:j5)(L:qh)(Q:YK):Prop:=ta τ L λx L1=>tb τ L1 λy L2=>r x y L2 Q
def Ju(r:Y->qh->YK->Prop)(ta:ji)(τ:j5)(L:qh)(Q:YK):Prop:=ta τ L λx L1=>r x L1 Q
def yI(C:Int->Int->Prop)(g:Int->Int->Y)(x y:Y)(L:qh)(Q:YK):Prop:=match x,y with
 |.int i,.int j=>C i j/\Q (g i j) L
 |_,_=>False
def t_(g:Int->Int->Y)(x y:Y)(L:qh)(Q:YK):Prop:=match x,y with
 |.int i,.int j=>Q (g i j) L
 |_,_=>False
def Jv(x:Y)(L:qh)(Q:YK):Prop:=match x with
 |.int i=>Q (.int<|-i) L
 |_=>False
def bK(L:qh):Y->Option _T
 |.tup ys=>some ys
 |.sq ys=>some ys
 |.ref a=>match L a with
  |some (.lst ys)=>some ys
  |_=>none
 |_=>none
@[irreducible] def dG (L:qh) (a:Addr) (k:_T->Prop):Prop:=match L a with
 |some (.lst ys)=>k ys
 |_=>False
def x9{a:Addr}{k:_T->Prop}(h:dG L a k):∃ys,L a=some (.lst ys)/\k ys:=by
 unfold dG at h;split at h
 .rename_i ys e;exact{(ys),e,h}
 .exact h.elim
def qi{a:Addr}{k:_T->Prop}(e:L a=some (.lst ys))(h:k ys):dG L a k:=by unfold dG;rw[e];exact h
def dZ(L:qh)(x:Y)(k:_T->Prop):Prop:=match x with
 |.tup ys=>k ys
 |.sq ys=>k ys
 |.ref a=>dG L a k
 |_=>False
def w6{a:Addr}(h:L a=some (.lst ys)):bK L (.ref a)=some ys:=by show(match L a with|some (.lst ys)=>some ys|_=>none)=some ys;rw[h]
def vf{x:Y}{k:_T->Prop}(h:dZ L x k):∃ys,bK L x=some ys/\k ys:=by
 cases x with
 |tup ys=>exact{(ys),rfl,h}
 |sq ys=>exact{(ys),rfl,h}
 |ref a=>obtain⟨ys,e,q⟩:=x9 h;exact{ys,w6 e,q}
 |_=>exact h.elim
def jI{a:Addr}(h:bK L (.ref a)=some ys):L a=some (.lst ys):=by
 have I:(match L a with|some (.lst ys)=>some ys|_=>none)=some ys:=h;split at I
 .rename_i e;cases I;exact e
 .cases I
def Jw{x:Y}{k:_T->Prop}(e:bK L x=some ys)(h:k ys):dZ L x k:=by cases x with|tup I=>cases e;exact h|sq I=>cases e;exact h|ref a=>exact qi (jI e) h|_=>cases e
def qc{a:Addr}{k:_T->Prop}(e:L a=some (.lst ys))(h:k ys):dZ L (.ref a) k:=Jw (w6 e) h
def yu(x y:Y)(L:qh)(Q:YK):Prop:=match x,y with
 |.int i,.int j=>Q (.int<|i+j) L
 |.str a,.str b=>a.length+b.length<=sizeLine/\Q (.str<|a++b) L
 |.ref a,.ref b=>∃ys zs,L a=some (.lst ys)/\L b=some (.lst zs)/\ys.length+zs.length<=sizeLine/\∀p,L p=none->Q (.ref p) (qg L p<|.lst<|ys++zs)
 |_,_=>False
def qC(L:qh)(Q:α->qh->Prop):Option α->Prop
 |some v=>Q v L
 |none=>False
def vq(kvs:List<|zr×Y)(k:zr):Option Y:=(kvs.find? λp=>decide<|p.1=k).map (·.2)
@[irreducible] def uT (L:qh) (a:Addr) (k:List (zr×Y)->Prop):Prop:=match L a with
 |some (._q kvs)=>k kvs
 |_=>False
def cW{a:Addr}{k:List (zr×Y)->Prop}(h:uT L a k):∃kvs,L a=some (._q kvs)/\k kvs:=by
 unfold uT at h;split at h
 .rename_i I e;exact{(I),e,h}
 .exact h.elim
def ju{a:Addr}{k:List (zr×Y)->Prop}(e:L a=some (._q kvs))(h:k kvs):uT L a k:=by unfold uT;rw[e];exact h
def u5(x y:Y)(L:qh)(Q:YK):Prop:=match x,y with
 |.str z,.int i=>z.length<=sizeLine/\qC L (λc L=>Q (.str {#[c]}) L) (fS z.cps.toList i)
 |.cd kvs,.str k=>qC L (λs L=>Q (.str s) L)<|kvs.lookup k
 |.ref a,.str k=>uT L a λkvs=>qC L Q<|vq kvs<|.inr k
 |x,.int i=>dZ L x λys=>qC L Q<|fS ys i
 |_,_=>False
def Fb(xs:_T)(L:qh)(Q:YK):Prop:=match xs with
 |[.str z]=>z.length<=sizeLine/\Q (.int z.length) L
 |[x]=>dZ L x λys=>Q (.int ys.length) L
 |_=>False
def Ha(xs:_T)(L:qh)(Q:YK):Prop:=match xs with
 |[.int i,.int j]=>Q (.int<|max i j) L
 |_=>False
def Jx(xs:_T)(L:qh)(Q:YK):Prop:=match xs with
 |[.int i,.int j]=>Q (.int<|min i j) L
 |_=>False
inductive u6 where
 |KF|bool|int|str|tuple|list|dict
def u6.nm:u6->aap
 |.KF => "NoneType"
 |.bool => "bool"
 |.int => "int"
 |.str => "str"
 |.tuple => "tuple"
 |.list => "list"
 |.dict => "dict"
def Fc(L:qh):Y->Option u6
 |.KF=>some .KF
 |.bl _=>some .bool
 |.int _=>some .int
 |.str _=>some .str
 |.tup _=>some .tuple
 |.sq _=>some .list
 |.ref a=>match L a with
  |some (.lst _)=>some .list
  |some (._q _)=>some .dict
  |_=>none
 |_=>none
def SG{a:Addr}(h:L a=some (.lst ys)):Fc L (.ref a)=some .list:=by show(match L a with|some (.lst _)=>some u6.list|some (._q _)=>some .dict|_=>none)=some .list;rw[h]
def Hb:u6->u6->Bool
 |.bool,.int=>true
 |.bool,.bool=>true
 |.int,.int=>true
 |.str,.str=>true
 |.tuple,.tuple=>true
 |.list,.list=>true
 |.dict,.dict=>true
 |.KF,.KF=>true
 |_,_=>false
@[irreducible] def FD (L:qh) (a:Addr) (k:u6->Prop):Prop:=match Fc L (.ref a) with
 |some T=>k T
 |none=>False
def SH{a:Addr}{k:u6->Prop}(h:FD L a k):∃T,Fc L (.ref a)=some T/\k T:=by
 unfold FD at h;split at h
 .rename_i T e;exact{(T),e,h}
 .exact h.elim
def fZ{a:Addr}{k:u6->Prop}(e:L a=some (.lst ys))(h:k .list):FD L a k:=by unfold FD;rw[SG e];exact h
def Jy(L:qh)(x:Y)(k:u6->Prop):Prop:=match x with
 |.KF=>k .KF
 |.bl _=>k .bool
 |.int _=>k .int
 |.str _=>k .str
 |.tup _=>k .tuple
 |.sq _=>k .list
 |.ref a=>FD L a k
 |_=>False
def SI{x:Y}{k:u6->Prop}(h:Jy L x k):∃T,Fc L x=some T/\k T:=by cases x with|ref a=>exact SH h|ty n=>exact h.elim|cd k=>exact h.elim|_=>exact{_,rfl,h}
def Jz(S:u6)(te:ji)(τ:j5)(L:qh)(Q:YK):Prop:=te τ L λx L1=>Jy L1 x λT=>Q (.bl<|Hb T S) L1
def lI:Y->Bool
 |.KF=>true
 |.bl _=>true
 |.int _=>true
 |.str _=>true
 |_=>false
def fk:Y->V
 |.KF=>.KF
 |.bl b=>.bl b
 |.int i=>.int i
 |.str x=>.str x
 |_=>.ty "?"
def RV.flat :∀{y:Y} {v:V},lI y=true->RV G H y v->v=fk y:=by intro y v e h;cases y<;>first|exact h|cases e
theorem iJ:∀{y:Y},lI y=true->ai (fk y)=true
 |.KF,_=>rfl
 |.bl _,_=>rfl
 |.int _,_=>rfl
 |.str _,_=>rfl
theorem jw.flat :∀{ys:_T} {xs:GT},ys.all lI=true->jw G H ys xs->xs=ys.map fk
 |[],_,_,h=>h
 |y::ys,_,f,⟨x,I,e,r,s⟩=>by rw[DR,Be] at f;rw[e,r.flat f.1,s.flat f.2];rfl
def rV:Y->Bool
 |.ref _=>true
 |.sq _=>true
 |_=>false
def j9(L:qh):Nat->Y->Da->Prop
 |0,y,d=>lI y=true/\d=.s (fk y)
 |n+1,y,d=>(lI y=true/\d=.s (fk y))\/(∃ys ds,y=.tup ys/\d=.tup ds/\Paired (j9 L n) ys ds)\/(∃ys ds,rV y=true/\d=.lst ds/\bK L y=some ys/\Paired (j9 L n) ys ds)
def Fe:Y->Bool
 |.ref _=>true
 |.tup _=>true
 |.sq _=>true
 |_=>false
def o_(neg:Bool)(x y:Y)(L:qh)(Q:YK):Prop:=match x,y with
 |.int i,.int j=>Q (.bl<|nb neg<|decide<|i=j) L
 |.str i,.str j=>Q (.bl<|nb neg<|decide<|i=j) L
 |.bl i,.bl j=>Q (.bl<|nb neg<|decide<|i=j) L
 |x,y=>Fe x=true/\Fe y=true/\∃n m d e,n<=128/\j9 L n x d/\j9 L m y e/\Q (.bl<|nb neg<|Da.eq d e) L
def uQ(neg:Bool)(ta:ji)(τ:j5)(L:qh)(Q:YK):Prop:=ta τ L λx L1=>match x with
 |.KF=>Q (.bl<|!neg) L1
 |_=>Q (.bl neg) L1
def yB(t:ji)(τ:j5)(L:qh)(Q:Bool->qh->Prop):Prop:=t τ L λx L1=>match x with
 |.bl c=>Q c L1
 |_=>False
def Hc(t u:kC)(τ:j5)(L:qh)(Q:Bool->qh->Prop):Prop:=t τ L λc L1=>wg c (u τ L1 Q)<|Q false L1
def Hd(t u:kC)(τ:j5)(L:qh)(Q:Bool->qh->Prop):Prop:=t τ L λc L1=>wg c (Q true L1)<|u τ L1 Q
def He(t:kC)(τ:j5)(L:qh)(Q:Bool->qh->Prop):Prop:=t τ L λc L1=>Q (!c) L1
def SJ(ta tb:ji)(τ:j5)(L:qh)(Q:YK):Prop:=ta τ L λx L1=>match x with
 |.bl c=>wg c (tb τ L1 Q)<|Q (.bl false) L1
 |_=>False
def SK(ta tb:ji)(τ:j5)(L:qh)(Q:YK):Prop:=ta τ L λx L1=>match x with
 |.bl c=>wg c (Q (.bl true) L1)<|tb τ L1 Q
 |_=>False
def SM(ta:ji)(τ:j5)(L:qh)(Q:YK):Prop:=ta τ L λx L1=>match x with
 |.bl c=>Q (.bl<|!c) L1
 |_=>False
def F8(t:kC)(ta tb:ji)(τ:j5)(L:qh)(Q:YK):Prop:=t τ L λc L1=>wg c (ta τ L1 Q)<|tb τ L1 Q
def vj(_:j5)(L:qh)(Q:_T->qh->Prop):Prop:=Q [] L
def zb(ta:ji)(tr:fF)(τ:j5)(L:qh)(Q:_T->qh->Prop):Prop:=ta τ L λx L1=>tr τ L1 λxs L2=>Q (x::xs) L2
def qV(t:fF)(τ:j5)(L:qh)(Q:YK):Prop:=t τ L λys L1=>match Nat.ble ys.length 1000 with
 |true=>Q (.tup ys) L1
 |false=>False
def pI(t:fF)(τ:j5)(L:qh)(Q:YK):Prop:=t τ L λys L1=>match Nat.ble ys.length 1000 with
 |true=>∀p,L1 p=none->Q (.ref p) (qg L1 p<|.lst ys)
 |false=>False
def u_(r:_T->qh->YK->Prop)(t:fF)(τ:j5)(L:qh)(Q:YK):Prop:=t τ L λvs L1=>r vs L1 Q
abbrev FE:=j5->qh->(aah->qh->Prop)->Prop
def mh(_:j5)(L:qh)(Q:aah->qh->Prop):Prop:=Q none L
def F9(t:ji)(τ:j5)(L:qh)(Q:aah->qh->Prop):Prop:=t τ L λx L1=>match x with
 |.int i=>Q (some i) L1
 |_=>False
def gR(xs:_T)(lo hi:aah):_T:=(xs.drop<|KM xs.length 0 lo).take<|KM xs.length xs.length hi-KM xs.length 0 lo
def JA(x:Y)(lo hi:aah)(L:qh)(Q:YK):Prop:=match x with
 |.ref a=>dG L a λys=>∀p,L p=none->Q (.ref p) (qg L p<|.lst<|gR ys lo hi)
 |.sq ys=>∀p,L p=none->Q (.ref p) (qg L p<|.lst<|gR ys lo hi)
 |_=>False
def F_(r:Y->aah->aah->qh->YK->Prop)(te:ji)(tl th:FE)(τ:j5)(L:qh)(Q:YK):Prop:=te τ L λx L1=>tl τ L1 λl L2=>th τ L2 λu L3=>r x l u L3 Q
def x4(t u:fe)(D:vd)(τ:j5)(L:qh):Prop:=t {D with nx:=u D} τ L
def cI(D:vd)(τ:j5)(L:qh):Prop:=D.nx τ L
def SN(D:vd)(τ:j5)(L:qh):Prop:=D.ct τ L
def dN(te:ji)(D:vd)(τ:j5)(L:qh):Prop:=te τ L λ_ L1=>D.nx τ L1
def oO(te:ji)(D:vd)(τ:j5)(L:qh):Prop:=te τ L D.rt
def JB(D:vd)(_:j5)(L:qh):Prop:=D.rt .KF L
def gK(c:kC)(t u:fe)(D:vd)(τ:j5)(L:qh):Prop:=c τ L λb L1=>wg b (t D τ L1)<|u D τ L1
def km(te:ji)(g:mO)(D:vd)(τ:j5)(L:qh):Prop:=te τ L λx L1=>g x τ L1 D.nx
def dY:j5->Nat->Y->j5
 |[],_,_=>[]
 |_::r,0,y=>some y::r
 |o::r,i+1,y=>o::dY r i y
theorem aY:∀(τ:j5) (i:Nat) (y:Y),dY τ i y=τ.set i (some y)
 |[],_,_=>rfl
 |_::_,0,_=>rfl
 |o::r,i+1,y=>by rw[dY,aY r i y];rfl
def qz(i:Nat)(y:Y)(τ:j5)(L:qh)(Q:j5->qh->Prop):Prop:=Q (dY τ i y) L
def gB(ys:_T)(τ:j5)(L:qh)(Q:j5->qh->Prop):Prop:=match ys with
 |[]=>Q τ L
 |_=>False
def v5(t:mO)(u:wU)(ys:_T)(τ:j5)(L:qh)(Q:j5->qh->Prop):Prop:=match ys with
 |[]=>False
 |y::r=>t y τ L λI L'=>u r I L' Q
def lv(n:Nat)(t:wU)(y:Y)(τ:j5)(L:qh)(Q:j5->qh->Prop):Prop:=match y with
 |.tup ys=>match ys.length==n with
  |true=>t ys τ L Q
  |false=>False
 |_=>False
def JC(i j:Nat)(ta:fF)(D:vd)(τ:j5)(L:qh):Prop:=ta τ L λvs L1=>match vs with
 |[v,w]=>D.nx (dY (dY τ i v) j w) L1
 |_=>False
def JD(f:Int->Int->Int)(x y:Y)(L:qh)(Q:YK):Prop:=match x,y with
 |.int i,.int j=>Q (.int<|f i j) L
 |_,_=>False
def JE(i:Nat)(te:ji)(ti:nE)(D:vd)(τ:j5)(L:qh):Prop:=match yY τ i with
 |some x=>te τ L λy L1=>ti x y L1 λz L2=>D.nx (dY τ i z) L2
 |none=>False
inductive jD{α:Type}(W:α->qh->Prop)(x:α)(L:qh):Prop
 |mk:∀L',qf L' L->W x L'->jD W x L
def JF{W:α->qh->Prop}{x:α}(h:W x L):jD W x L:={L,EE L,h}
inductive JG(c:kC)(tb:fe)(D:vd)(τ:j5)(L:qh):Prop
 |mk:∀W:Nat->j5->qh->Prop,(∃m,W m τ L)->(∀m τ L,W m τ L->
 c τ L λb L1=>wg b (∃N:j5->qh->Prop,(∀τ' L',N τ' L'->∃m',m'<m/\W m' τ' L')/\tb {D with nx:=jD N,ct:=jD N,bk:=D.nx} τ L1)<|D.nx τ L1)->JG c tb D τ L
inductive tZ(ys:_T)(keep:qh->Prop)(g:mO)(tb:fe)(D:vd)(τ:j5)(L1:qh):Prop
 |mk:∀W:Nat->j5->qh->Prop,W 0 τ L1->(∀i τ L,W i τ L->keep L)->
 (∀i y τ L,ys[i]?=some y->W i τ L->g y τ L λτ2 L2=>tb {D with nx:=jD<|W<|i+1,ct:=jD<|W<|i+1,bk:=D.nx} τ2 L2)->(∀τ L,W ys.length τ L->D.nx τ L)->tZ ys keep g tb D τ L1
def vk{keep:qh->Prop}{tb:fe}(h:tZ ys keep g tb D τ L1):tZ ys keep g tb D τ L1:=h
def SO{keep:qh->Prop}{tb:fe}(h:tZ ys keep g tb D τ L1):tZ ys keep g tb D τ L1:=h
def Ff(wi:A_)(g:mO)(tb:fe)(D:vd)(τ:j5)(L:qh):Prop:=wi τ L λys keep L1=>tZ ys keep g tb D τ L1
@[irreducible] def uw (L:qh) (a:Addr) (R:_T->(qh->Prop)->qh->Prop):Prop:=match L a with
 |some (.lst ys)=>R ys (λL=>L a=some (.lst ys)) L
 |_=>False
def jb{a:Addr}{R:_T->(qh->Prop)->qh->Prop}(h:L a=some (.lst ys))(q:∀keep:qh->Prop,(∀L',L' a=L a->keep L')->R ys keep L):uw L a R:=by unfold uw;rw[h];exact q _ λL' I=>I.trans h
def wV{a:Addr}{R:_T->(qh->Prop)->qh->Prop}(h:uw L a R):∃ys keep,bK L (.ref a)=some ys/\keep L/\(∀L',keep L'->bK L' (.ref a)=some ys)/\R ys keep L:=by
 unfold uw at h;split at h
 .rename_i ys e;exact{ys,_,w6 e,e,λL' I=>w6 I,h}
 .exact h.elim
def yE(tl:ji)(τ:j5)(L:qh)(R:_T->(qh->Prop)->qh->Prop):Prop:=tl τ L λx L1=>match x with
 |.ref a=>uw L1 a R
 |.sq ys=>R ys (λ_=>True) L1
 |_=>False
def SQ(tl:ji)(τ:j5)(L:qh)(R:_T->(qh->Prop)->qh->Prop):Prop:=tl τ L λx L1=>match x with
 |.tup ys=>R ys (λ_=>True) L1
 |_=>False
def ah(lo:Int)(n:Nat):_T:=(List.range n).map λk=>.int<|lo+(k:Nat)
def ph(ta:fF)(τ:j5)(L:qh)(R:_T->(qh->Prop)->qh->Prop):Prop:=ta τ L λvs L1=>match vs with
 |[.int j]=>(-(2 ^ 62)<=j/\j<2 ^ 62)/\R (ah 0 j.toNat) (λ_=>True) L1
 |_=>False
def JH(_:j5)(L:qh)(Q:Bool->qh->Prop):Prop:=Q true L
inductive f'(ys:_T)(keep:qh->Prop)(n:Nat)(g:mO)(tc:kC)(te:ji)(τ:j5)(L1:qh)(Q:YK):Prop
 |mk:ys.length<sizeLine->∀W:Nat->_T->qh->Prop,W 0 [] L1->(∀i zs L,W i zs L->keep L)->
 (∀i y zs L,ys[i]?=some y->W i zs L->g y (τ++List.replicate n none) L λτ2 L2=>tc τ2 L2 λb L3=>wg b (te τ2 L3 λz L4=>jD (W<|i+1) (zs++[z]) L4)<|jD (W<|i+1) zs L3)->
 (∀zs L,W ys.length zs L->∀p,L p=none->Q (.ref p) (qg L p<|.lst zs))->f' ys keep n g tc te τ L1 Q
def se{keep:qh->Prop}{n:Nat}{Q:YK}(h:f' ys keep n g tc te τ L1 Q):f' ys keep n g tc te τ L1 Q:=h
def SS{keep:qh->Prop}{n:Nat}{Q:YK}(h:f' ys keep n g tc te τ L1 Q):f' ys keep n g tc te τ L1 Q:=h
def FF(n:Nat)(wi:A_)(g:mO)(tc:kC)(te:ji)(τ:j5)(L:qh)(Q:YK):Prop:=wi τ L λys keep L1=>f' ys keep n g tc te τ L1 Q
abbrev jf:=_T->qh->YK->Prop
def vh(sp:jf)(t:fF)(τ:j5)(L:qh)(Q:YK):Prop:=t τ L λys L1=>sp ys L1 Q
def wb(x:Y)(vs:_T)(L:qh)(Q:YK):Prop:=match x,vs with
 |.ref a,[v]=>dG L a λys=>ys.length<sizeLine/\Q .KF (qg L a<|.lst<|ys++[v])
 |_,_=>False
def sh(x:Y)(vs:_T)(L:qh)(Q:YK):Prop:=match x,vs with
 |.ref a,[.ref b]=>dG L a λys=>dG L b λzs=>ys.length+zs.length<=sizeLine/\Q .KF (qg L a<|.lst<|ys++zs)
 |_,_=>False
def Ga(x:Y)(vs:_T)(L:qh)(Q:YK):Prop:=match x,vs with
 |.ref a,[]=>dG L a λys=>qC L (λv L=>Q v<|qg L a<|.lst ys.dropLast)<|ys[ys.length-1]?
 |_,_=>False
variable {sp:jf}
def vi.imp{f:aak->aak->Sem aak}{r U:R2}(h:vi X f r)(q:∀x y H Q,U x y H Q->r x y H Q):vi X f U:=λJ s g H x y v u Q I j l z=>h J s g H x y v u Q I j l<|q x y H Q z
def vi._c{f:aak->aak->Sem aak}{r:R2}{u:nE}(h:vi X f r)(q:∀x y H Q x3 I L J,RV G H x3 x->RV G H I y->zw G H L->u x3 I L J->ui G H J Q->r x y H Q):vi X f (cf G u):=vi.imp h λx y H Q ⟨x3,I,L,J,a,b,c,d,e⟩=>q x y H Q x3 I L J a b c d e
abbrev EV:=@vi._c
def UnR.imp{f:aak->Sem aak}{r U:V->Hp->VK->Prop}(h:UnR X f r)(q:∀x H Q,U x H Q->r x H Q):UnR X f U:=λJ s g H x v Q I j z=>h J s g H x v Q I j<|q x H Q z
def zy.imp{f:aak}{r U:GT->Hp->VK->Prop}(h:zy X f r)(q:∀x H Q,U x H Q->r x H Q):zy X f U:=λJ s g H x v Q I j z=>h J s g H x v Q I j<|q x H Q z
def zy._c{f:aak}{r:GT->Hp->VK->Prop}{u:_T->qh->YK->Prop}(h:zy X f r)(q:∀xs H Q ys L I,jw G H ys xs->zw G H L->u ys L I->ui G H I Q->r xs H Q):zy X f (e_ G u):=zy.imp h λxs H Q ⟨ys,L,I,a,b,c,d⟩=>q xs H Q ys L I a b c d
abbrev EU:=@zy._c
def IxR.imp{r U:R2}(h:IxR X r)(q:∀x y H Q,U x y H Q->r x y H Q):IxR X U:=λvalue slice J s g H x y v u Q I j l z=>h value slice J s g H x y v u Q I j l<|q x y H Q z
def gc.imp{id:aap}{r U:V->GT->Hp->VK->Prop}(h:gc X id r)(q:∀x xs H Q,U x xs H Q->r x xs H Q):gc X id U:=λJ s g H x xs v j Q I l o z=>h J s g H x xs v j Q I l o<|q x xs H Q z
def tN(U:zw G H L)(r:RV G H y v)(h:bK L y=some ys):∃p xs,v=.ref p/\(aV G.K H p xs\/db G.K H p xs)/\jw G H ys xs:=by
 cases y with
 |tup J=>
  obtain⟨a,xs,e,s,q⟩:=r;cases h;exact{a,xs,e,.inr s,q}
 |sq J=>
  obtain⟨a,xs,e,s,q⟩:=r;cases h;exact{a,xs,e,.inl s.sq,q}
 |ref a=>
  cases (show v=.ref a from r);have I:(match L a with|some (.lst ys)=>some ys|_=>none)=some ys:=h;split at I
  .rename_i J e;cases I;obtain⟨xs,g,q⟩:=U a _ e;exact{a,xs,rfl,.inl<|Eo g,q}
  .cases I
 |_=>cases h
def SU{i:Int}(s:jw G H ys xs)(h:fS ys i=some y):∃x,fS xs i=some x/\RV G H y x:=by
 unfold fS at h ⊢;rw[<-s.length];cases e:s_ ys.length i with
 |none=>rw[e] at h;cases h
 |some j=>
  rw[e] at h;exact s.get (i:=j) h
section
variable {a b:Expr}{tc:ji}
abbrev QE(X:Cx)(e:Expr)(t:ji):Prop:=PE X e<|pQ X.g3 t
abbrev QT(X:Cx)(e:Expr)(t:kC):Prop:=PT X e<|n_ X.g3 t
abbrev QW(X:Cx)(e:Expr)(t:kC):Prop:=PW X e<|n_ X.g3 t
abbrev QA(X:Cx)(es:aad)(t:fF):Prop:=PA X es<|Js X.g3 t
abbrev QS(X:Cx)(st:Stmt)(t:fe):Prop:=PS X st<|F6 X.g3 t
abbrev b_(X:Cx)(st:aae)(t:fe):Prop:=mR X st<|F6 X.g3 t
abbrev QG(X:Cx)(e:Expr)(g:mO):Prop:=PG X e<|FC X.g3 g
abbrev FH(X:Cx)(es:aad)(g:wU):Prop:=PGs X es<|SE X.g3 g
abbrev QI(X:Cx)(tg it:Expr)(w:A_):Prop:=PI X tg it<|G' X.g3 w
abbrev QF(X:Cx)(es:aad)(t:kC):Prop:=PF X es<|n_ X.g3 t
def QE.of_var(h:PE X e<|GI i):QE X e (qw i):=EI h λj H Q l L o I J z k=>by
 unfold qw at z;split at z
 .rename_i y U;obtain⟨v,ev,g⟩:=I.get i y<|mY _ _ U;exact{v,ev,k v H y L (EF _) J g z}
 .exact z.elim
def QE.of_c(h:PE X e<|tC v)(q:∀H,RV X.g3 H y v):QE X e (yC y):=EI h λJ H Q U L g j I z k=>k v H y L (EF _) I (q H) z
abbrev EX:=@QE.of_c
def qv(i:Nat)(hN:X.N[i]?=some x:=by rfl)(J:D_ X.env.scope x:=by first|exact Or.inl rfl|exact Or.inr (Or.inl rfl)|exact Or.inr<|Or.inr rfl)(hd:Es x:=by decide)
 (I:Et x:=by decide):QE X (.Name x pos) (qw i):=QE.of_var<|pv i hN J hd I
def tf :QE X (.Constant .none j pos) (yC .KF):=EX Pj λ_=>rfl
def bX{b:Bool} :QE X (.Constant (.bool b) j pos) (yC<|.bl b):=EX Ph λ_=>rfl
def qe{i:Int} :QE X (.Constant (.int i) j pos) (yC<|.int i):=EX Pg λ_=>rfl
def qo :QE X (.Constant (.str x) j pos) (yC<|.str x):=EX aQ λ_=>rfl
def SV{c:Addr}(I:Gl X x)(J:X.mg x=some (.ref c))(q:∀H,RV X.g3 H y<|.ref c)(hd:Es x:=by decide):QE X (.Name x pos) (yC y):=EX (Sm I J hd) q
def zY{r:nE}(σ:St)(H:Hp)(Q:VK):pQ G (aZ r ta tb) σ H Q->Fu (cf G r) (pQ G ta) (pQ G tb) σ H Q:=λ⟨j,L,t,l,C,z,k⟩=>
 ⟨j,L,_,l,C,z,λv H1 y T o I J z1=>{j,T,_,l.ts o,I,z1,λv2 H2 y2 L2 p U g z2=>{y,y2,L2,t,J.ts p,g,U,z2,k.ts<|o.trans p}}⟩
def qk{op:Operator}{r:nE}(h:vi X (binaryOp op)<|cf X.g3 r)(I:QE X a ta)(J:QE X b tb):QE X (.BinOp a op b pos) (aZ r ta tb):=ET (Qn h I J) zY
def SW{r:nE}(h:IxR X<|cf X.g3 r)(I:QE X a ta)(J:QE X b tb)(U:i8 b):QE X (.Subscript a b pos) (aZ r ta tb):=ET (G1 h I J U) zY
def ke{op:CmpOp}{r:nE}(h:vi X (compareOp op)<|cf X.g3 r)(I:QE X a ta)(J:QE X b tb)(U:behindInMarks op b=false):QE X (.Compare a [op] [b] pos) (aZ r ta tb):=ET (QC h I J U) zY
def Hf{t:ji}(σ:St)(H:Hp)(Q:Bool->Hp->Prop):n_ G (yB t) σ H Q->GY (pQ G t) σ H Q:=λ⟨g,L,C,j,l,z,k⟩=>
 ⟨g,L,_,j,l,z,λv o y p r I J U=>by cases y with|bl b=>exact{b,J,k b o p r I U}|_=>exact U.elim⟩
def JI{t:ji}(σ:St)(H:Hp)(Q:Bool->Hp->Prop):n_ G (yB t) σ H Q->tB (pQ G t) σ H Q:=Hf σ H Q
def jo{op:CmpOp}{r:nE}(h:vi X (compareOp op)<|cf X.g3 r)(J:QE X a ta)(U:QE X b tb)(g:behindInMarks op b=false):QT X (.Compare a [op] [b] pos) (yB<|aZ r ta tb):=
 PT.imp (IL h J U g) λI H Q q=>by have j:=Hf I H Q q;obtain⟨l,L,o,p,t,z,k⟩:=j;exact zY I H _ {(l),L,o,p,t,z,k}
def w5(h:QE X e te)(I:∀whole,isTrue e X.env whole=(do let v <-whole;standAt e.pos;holding [v] (truthy v)):=by intro _;rfl):QT X e (yB te):=PT.imp (Pl h I) JI
def Gb{f:aak->aak->Sem aak}{C:Int->Int->Prop}{g:Int->Int->V}{g3:Int->Int->Y}(h:vi X f<|rI C g)(e:∀i j H,RV X.g3 H (g3 i j)<|g i j):vi X f (cf X.g3<|yI C g3):=EV h λx y H Q J I L p U l o z k=>by
 cases J with
 |int i=>
  cases I with|int j=>exact{i,j,U,l,z.1,k _ H _ L (EF _) o (e i j H) z.2}|_=>exact z.elim
 |_=>cases I<;>exact z.elim
def Gc{f:aak->aak->Sem aak}{g:Int->Int->V}{g3:Int->Int->Y}(h:vi X f<|z_ g)(e:∀i j H,RV X.g3 H (g3 i j)<|g i j):vi X f (cf X.g3<|t_ g3):=EV h λx y H Q J I L p U l o z k=>by
 cases J with
 |int i=>
  cases I with|int j=>exact{i,j,U,l,k _ H _ L (EF _) o (e i j H) z}|_=>exact z.elim
 |_=>cases I<;>exact z.elim
def cX:vi X (binaryOp .Sub) (cf X.g3<|t_ λi j=>.int<|i-j):=Gc Qq λ_ _ _=>rfl
def kR:vi X (binaryOp .Mult) (cf X.g3<|yI aht λi j=>.int<|i*j):=Gb Qr λ_ _ _=>rfl
def vm:vi X (binaryOp .FloorDiv) (cf X.g3<|yI GV λi j=>.int<|i / j):=Gb Qs λ_ _ _=>rfl
def jn:vi X (binaryOp .Mod) (cf X.g3<|yI (λ_ j=>0<j) λi j=>.int<|i % j):=Gb Qt λ_ _ _=>rfl
def SX:vi X (binaryOp .Pow) (cf X.g3<|yI GX λi j=>.int<|i ^ j.toNat):=Gb Qu λ_ _ _=>rfl
def qJ:vi X (compareOp .Lt) (cf X.g3<|t_ λi j=>.bl<|decide<|i<j):=Gc Qy λ_ _ _=>rfl
def yH:vi X (compareOp .LtE) (cf X.g3<|t_ λi j=>.bl<|decide<|i<=j):=Gc Qz λ_ _ _=>rfl
def zQ:vi X (compareOp .Gt) (cf X.g3<|t_ λi j=>.bl<|decide<|j<i):=Gc QB λ_ _ _=>rfl
def zj:vi X (binaryOp .Add) (cf X.g3 yu):=EV Sh λx y H Q t J L Q3 U g I z k=>by
 cases t with
 |int i=>
  cases J with|int j=>cases U;cases g;exact k _ H _ L (EF _) I (by rfl) z|_=>exact z.elim
 |str i=>
  cases J with|str j=>cases U;cases g;exact{z.1,k _ H _ L (EF _) I (by rfl) z.2}|_=>exact z.elim
 |ref a=>
  cases J with
  |ref b=>
   cases U;cases g;obtain⟨ys,zs,C,T,hz,q⟩:=z;obtain⟨xs,h1,o⟩:=I a _ C;obtain⟨us,h2,r⟩:=I b _ T;refine{xs,us,h1,h2,by rw[<-o.length,<-r.length];exact hz,λp l=>?_};exact k _ _ _ _ (EG l) (I._P l<|o.app r) (by rfl)<|q p<|I.none l
  |_=>exact z.elim
 |_=>cases J<;>exact z.elim
def kZ{kvs:List<|Str×Str}{k:Str}(h:kvs.lookup k=some x):aH (kvs.map λp=>((Sum.inr p.1:zr),V.str p.2)) (Sum.inr k)=some (V.str x):=by
 induction kvs with
 |nil=>simp at h
 |cons p r I=>
  obtain⟨a,b⟩:=p;unfold aH;rw[AI,Bq];rw[Bg] at h;by_cases c:k=a
  .subst c;simp at h;simp[h]
  .have J:(k==a)=false:=by simpa using c
   rw[J] at h;have U:decide ((Sum.inr a:zr)=Sum.inr k)=false:=Aw λz=>c (E4 z).symm;simp only[U];exact I h
def rD{xs:List<|zr×V}{k:zr}(p:Paired (λ(p:zr×Y) (q:zr×V)=>p.1=q.1/\RV G H p.2 q.2) kvs xs)(h:vq kvs k=some y):∃x,aH xs k=some x/\RV G H y x:=by
 induction p with
 |nil=>cases h
 |@cons a b _ _ r t U=>
  obtain⟨I,l⟩:=a;obtain⟨g,j⟩:=b;obtain⟨e,r⟩:=r;cases (show I=g from e);unfold vq at h;unfold aH;rw[Bq] at h ⊢;by_cases c:I=k
  .have J:decide (I=k)=true:=AA c;simp only[J] at h ⊢;cases h;exact{(j),rfl,r}
  .have J:decide (I=k)=false:=Aw c;simp only[J] at h ⊢;exact U h
def JJ(K:Af)(P:aam)(w:aan)(hK:X.K=K:=by rfl)(hP:X.prog=P:=by rfl)(hw:X.w=w:=by rfl):IxR X (cf ⟨K,P,w⟩ u5):=by
 subst hK hP hw;refine IxR.imp Jo λx y H Q ⟨x3,j,L,Q3,I,l,o,z,k⟩=>?_;have seq:∀{i:Int} {x3:Y},RV X.g3 H x3 x->y=.int i->(dZ L x3 λg=>qC L Q3<|fS g i)->Jm X.K X.prog X.w x y H Q:=by
  intro i x3 I ey z;subst ey;obtain⟨g,es,z⟩:=vf z;obtain⟨p,C,e,sq,rv⟩:=tN o I es;subst e;cases ea:fS g i with
  |none=>rw[ea] at z;exact z.elim
  |some y=>
   rw[ea] at z;obtain⟨x,ex,T⟩:=SU rv ea;exact{C,x,sq,ex,k _ H _ L (EF _) o T z}
 cases x3 with
 |str s=>
  cases j with
  |int i=>
   cases I;cases l;obtain⟨z1,r⟩:=z;cases ea:fS s.cps.toList i with
   |none=>rw[ea] at r;exact r.elim
   |some c=>rw[ea] at r;exact{z1,c,ea,k _ H _ L (EF _) o (by rfl) r}
  |_=>exact z.elim
 |cd J=>
  cases j with
  |str s=>
   obtain⟨a,ea,kd⟩:=I;cases ea;cases l;have U:qC L (λs L=>Q3 (.str s) L) (J.lookup s):=z;cases el:J.lookup s with
   |none=>rw[el] at U;exact U.elim
   |some t=>rw[el] at U;exact{_,_,.inr kd,kZ el,k _ H _ L (EF _) o (by rfl) U}
  |int i=>exact z.elim
  |_=>exact z.elim
 |ref a=>
  cases j with
  |int i=>exact seq (x3:=.ref a) I l z
  |str s=>
   cases I;cases l;obtain⟨J,e,U⟩:=cW z;obtain⟨C,e2,pr⟩:=o a _ e;cases ev:vq J (Sum.inr s) with
   |none=>rw[ev] at U;exact U.elim
   |some y=>
    rw[ev] at U;obtain⟨x,ex,I⟩:=rD pr ev;exact{C,x,.inl<|.inl e2,ex,k _ H _ L (EF _) o I U}
  |_=>exact z.elim
 |tup g=>
  cases j with|int i=>exact seq (x3:=.tup g) I l z|_=>exact z.elim
 |sq g=>
  cases j with|int i=>exact seq (x3:=.sq g) I l z|_=>exact z.elim
 |_=>cases j<;>exact z.elim
def jw.inv1(h:jw G H [y] xs):∃x,xs=[x]/\RV G H y x:=by obtain⟨x,I,e,r,s⟩:=h;cases (show I=[] from s);exact{(x),e,r}
def jw.inv2{J:Y}(h:jw G H [y,J] xs):∃x I,xs=[x,I]/\RV G H y x/\RV G H J I:=by obtain⟨x,U,e,r,s⟩:=h;obtain⟨I,g,j⟩:=s.inv1;exact{x,I,by rw[e,g],r,j}
def SY(K:Af)(P:aam)(w:aan)(g:X.K=K:=by rfl)(j:X.prog=P:=by rfl)(hw:X.w=w:=by rfl):zy X (.builtin "len") (e_ ⟨K,P,w⟩ Fb):=by
 subst g j hw;refine EU Sj λC H Q l L T U I z k=>?_;unfold Fb at z;split at z
 .obtain⟨x,rfl,r⟩:=U.inv1;cases r;exact{z.1,k _ H _ L (EF _) I (by rfl) z.2}
 .rename_i y _;obtain⟨x,rfl,r⟩:=U.inv1;obtain⟨l,o,z⟩:=vf z;obtain⟨p,t,e,sq,J⟩:=tN I r o;subst e;refine{t,sq,?_};rw[<-J.length];exact k _ H _ L (EF _) I (by rfl) z
 .exact z.elim
def S1(i j:Int):(if j > i then j else i)=max i j:=by split<;>lia
def S2(i j:Int):(if j<i then j else i)=min i j:=by split<;>lia
def JK(hc:X.calm=true:=by rfl):zy X (.builtin "max") (e_ X.g3 Ha):=EU (QD hc) λl H Q o L p I J z k=>by
 unfold Ha at z;split at z
 .rename_i i j;obtain⟨x,r,rfl,U,g⟩:=I.inv2;cases U;cases g;refine{i,j,rfl,?_};rw[S1];exact k _ H _ L (EF _) J (by rfl) z
 .exact z.elim
def S3(hc:X.calm=true:=by rfl):zy X (.builtin "min") (e_ X.g3 Jx):=EU (QH hc) λl H Q o L p I J z k=>by
 unfold Jx at z;split at z
 .rename_i i j;obtain⟨x,r,rfl,U,g⟩:=I.inv2;cases U;cases g;refine{i,j,rfl,?_};rw[S2];exact k _ H _ L (EF _) J (by rfl) z
 .exact z.elim
def S4:UnR X (unaryOp .USub) (Jt X.g3 Jv):=UnR.imp Qw λx H Q ⟨y,L,U,I,J,z,k⟩=>by cases y with|int i=>exact{i,I,k _ H _ L (EF _) J (by rfl) z}|_=>exact z.elim
def S5{op:UnaryOp}{r:Y->qh->YK->Prop}(h:UnR X (unaryOp op)<|Jt X.g3 r)(U:QE X a ta):QE X (.UnaryOp op a pos) (Ju r ta):=EI (Qo h U) λT H Q g L j l o z k=>
 ⟨g,L,_,l,o,z,λv H1 y p t I J C=>{y,p,j,J,I,C,k.ts t}⟩
end
section
variable {a b:Expr}{tc:ji}
def cb{a:Addr}(J:zw G H L)(h:bK L (.ref a)=some ys):∃xs,aV G.K H a xs/\jw G H ys xs:=by
 have I:(match L a with|some (.lst ys)=>some ys|_=>none)=some ys:=h;split at I
 .rename_i e;cases I;obtain⟨xs,U,q⟩:=J a _ e;exact{xs,Eo U,q}
 .cases I
def cA(I:zw G H L)(r:RV G H y v)(J:rV y=true)(h:bK L y=some ys):∃a xs,v=.ref a/\aV G.K H a xs/\jw G H ys xs:=by
 cases y with
 |ref a=>obtain⟨xs,s,q⟩:=cb I h;exact{(a),xs,r,s,q}
 |sq U=>obtain⟨a,xs,e,s,q⟩:=r;cases h;exact{(a),xs,e,s.sq,q}
 |_=>cases J
def S6{G:G3}{T:u6}{σ:St}(I:z0 X pins σ H s)(rl:zw X.g3 H L)(r:RV X.g3 H y v)(J:zg v u)(h:Fc L y=some T)
 {c:aak} {b:Bool} (e:PySem.W.kitOne X.K (.type T.nm) c=some b) (U:∀tk,Q (.bool b) {s with toks:=tk}):
 wpAny (model X.prog X.w) A (call (.builtin "isinstance") [u,c]) Q E s:=by
 cases y with
 |KF=>cases h;cases r;exact bA I J .KF e U
 |bl b=>cases h;cases r;exact bA I J (.bl _) e U
 |int i=>cases h;cases r;exact bA I J (.int _) e U
 |str x=>cases h;cases r;exact bA I J (.str _) e U
 |tup ys=>
  cases h;obtain⟨a,j,rfl,sq,_⟩:=r;cases (show u=Value.ref a from J);obtain⟨l,_,⟨o,p,t,_⟩,_⟩:=I.tuple sq;exact Bs PySem.W.kitx_tuple I._w {(o),p,t} e (λz=>nomatch z) U
 |sq ys=>
  cases h;obtain⟨a,j,rfl,sq,_⟩:=r;cases (show u=Value.ref a from J);obtain⟨l,_,⟨o,n,p,t,_⟩,_⟩:=I.list sq.sq;exact Bs DJ I._w {(o),p,t} e (λz=>nomatch z) U
 |ref a=>
  cases (show v=.ref a from r);have g:(match L a with|some (.lst _)=>some u6.list|some (._q _)=>some .dict|_=>none)=some T:=h;split at g
  .rename_i ys C;cases g;obtain⟨j,e2,_⟩:=rl a _ C;exact bA I J (.lst e2) e U
  .rename_i a0 C;cases g;obtain⟨j,e2,_⟩:=rl a _ C;exact bA I J (.dK e2) e U
  .cases g
 |_=>cases h
def S7(K:Af):∀T S:u6,PySem.W.kitOne K (.type T.nm) (.type S.nm)=some (Hb T S):=by intro T S;cases T<;>cases S<;>rfl
def S8(G:G3)(S:u6):GT->Hp->VK->Prop:=λxs H Q=>∃y v L I T,xs=[v,.ty S.nm]/\RV G H y v/\zw G H L/\Fc L y=some T/\I (.bl<|Hb T S) L/\ui G H I Q
def S9(S:u6):zy X (.builtin "isinstance") (S8 X.g3 S):=by rintro J s o H p t Q I r⟨y,v,L,C,T,rfl,g,U,ty,q,k⟩;obtain⟨u,c,rfl,j,l⟩:=ze.two r;cases (show c=Value.type S.nm from l);exact j6 I.tk<|S6 (G:=X.g3) I U g j ty (S7 _ T S) λtk ht=>{.bl _,H,I.tok _,rfl,k _ H _ L (EF _) U (by rfl) q}
def wu{I:Str}(S:u6)(t:Gl X "isinstance")(C:X.mg "isinstance"=none)(J:Gl X I)(U:X.mg I=none)(g:bootBuiltins I=some (.type S.nm))(ha:QE X a ta)
 (hn:I ≠ "__name__" := by decide) (hd:(I==("__debug__" : Str))=false:=by decide)
 (hs:starEach [a,.Name I p1] X.env=(false,eval a X.env)::starEach [.Name I p1] X.env:=by rfl) (j:starEach [.Name I p1] X.env=(false,eval (.Name I p1) X.env)::starEach [] X.env:=by rfl)
 (hp:(backTo pos<|starEach [.Name I p1] X.env).any (·.1)=false:=by rfl):
 QE X (.Call (.Name "isinstance" p) [a,.Name I p1] [] pos) (Jz S ta):=by
 refine ET (vV (S9 S) t C qR (fP ha (fP (Sn J U g hn hd) pM j) hs) (by decide) (by decide) hs hp) ?_;rintro σ H Q ⟨τ,L,Q3,rs,rl,z,k⟩;refine{τ,L,_,rs,rl,z,λv H1 y L1 t1 l o r=>?_};obtain⟨T,et,r⟩:=SI r;exact{y,v,L1,Q3,T,rfl,o,l,et,r,k.ts t1}
def FI(neg:Bool)(x y:Y)(L:qh)(Q:YK):Prop:=dZ L y λys=>lI x=true/\ys.all lI=true/\Q (.bl<|nb neg<|xK (fk x)<|ys.map fk) L
def JL(neg:Bool){op:CmpOp}(h:vi X (compareOp op)<|G2 X.K neg):vi X (compareOp op) (cf X.g3<|FI neg):=EV h λx y H Q I t L C g j U z k=>by
 obtain⟨J,l,f1,f2,q⟩:=vf z;obtain⟨p,T,e,sq,o⟩:=tN U j l;rw[g.flat f1];rw[o.flat f2] at sq;refine{p,_,e,sq,iJ f1,?_,?_}
 .rw[List.all_map,Ce];intro y r;exact iJ<|Ce.mp f2 y r
 .have:(if neg=true then !xK (fk I) (J.map fk) else xK (fk I) (J.map fk))=(nb neg<|xK (fk I)<|J.map fk):=by cases neg<;>simp[nb]
  rw[this];exact k _ H _ L (EF _) U (by rfl) q
def Hg(K:Af)(P:aam)(w:aan)(I:X.K=K:=by rfl)(J:X.prog=P:=by rfl)(hw:X.w=w:=by rfl):vi X (compareOp .In) (cf ⟨K,P,w⟩<|FI false):=by subst I J hw;exact JL false RT
def o4(K:Af)(P:aam)(w:aan)(I:X.K=K:=by rfl)(J:X.prog=P:=by rfl)(hw:X.w=w:=by rfl):vi X (compareOp .NotIn) (cf ⟨K,P,w⟩<|FI true):=by subst I J hw;exact JL true tz
theorem j9.rep{G:G3}{H:Hp}{L:qh}(j:zw G H L):∀{n:Nat} {y:Y} {d:Da} {v:V},j9 L n y d->RV G H y v->aN G.K H n v d
 |0,y,d,v,⟨f,e⟩,r=>by rw[r.flat f];exact{e,iJ f}
 |n+1,y,d,v,h,r=>by
  have both:∀{U:_T} {J:List Da} {I:GT},Paired (j9 L n) U J->jw G H U I->Paired (aN G.K H n) I J:=by
   intro U J I p
   induction p generalizing I with
   |nil=>intro r;cases (show I=[] from r);exact .nil
   |cons q t l=>
    rintro⟨x,o,rfl,C,T⟩;exact .cons (j9.rep j q C)<|l T
  rcases h with⟨f,e⟩|⟨U,J,rfl,rfl,p⟩|⟨U,J,hy,rfl,es,p⟩
  .rw[r.flat f];exact .inl {e,iJ f}
  .obtain⟨a,I,rfl,sq,g⟩:=r;exact .inr<|.inl {a,I,J,rfl,rfl,sq,both p g}
  .obtain⟨a,I,rfl,sq,g⟩:=cA j r hy es;exact .inr<|.inr {a,I,J,rfl,rfl,sq,both p g}
def JM(h:Fe y=true)(r:RV G H y v):∃a,v=.ref a:=by
 cases y with
 |ref a=>exact{(a),r}
 |tup I=>obtain⟨a,J,e,_⟩:=r;exact{(a),e}
 |sq I=>obtain⟨a,J,e,_⟩:=r;exact{(a),e}
 |_=>cases h
def JN(neg:Bool)(K:Af)(P:aam)(w:aan)(g:X.A.units+128<cLine)(l:X.K=K)(o:X.prog=P)(hw:X.w=w):vi X (compareOp<|F4 neg) (cf ⟨K,P,w⟩<|o_ neg):=by
 subst l o hw;refine EV (Sl neg g) λx y H Q x3 y3 L r J U I z k=>?_;have t:∀{p q:Prop} [Decidable p] [Decidable q],(p↔q)->Fv neg (decide p)=nb neg (decide q):=λh=>by rw[Di.mpr h];cases neg<;>rfl
 unfold o_ at z;split at z
 any_goals
  rename_i i j;cases J;cases U;refine{rfl,?_};rw[t (q:=i=j) (by simp)];exact k _ H _ L (EF _) I (by rfl) z
 obtain⟨f1,f2,n,m,d,e,C,T,h2,q⟩:=z;obtain⟨a,rfl⟩:=JM f1 J;obtain⟨b,rfl⟩:=JM f2 U;have q:r (.bl<|Fv neg<|Da.eq d e) L:=by cases neg<;>exact q
 exact{n,m,d,e,C,T.rep I J,h2.rep I U,k _ H _ L (EF _) I (by rfl) q}
def iz(K:Af)(P:aam)(w:aan)(I:X.A.units+128<cLine)(J:X.K=K:=by rfl)(U:X.prog=P:=by rfl)(hw:X.w=w:=by rfl):vi X (compareOp .Eq) (cf ⟨K,P,w⟩<|o_ false):=JN false K P w I J U hw
def JO(K:Af)(P:aam)(w:aan)(I:X.A.units+128<cLine)(J:X.K=K:=by rfl)(U:X.prog=P:=by rfl)(hw:X.w=w:=by rfl):vi X (compareOp .NotEq) (cf ⟨K,P,w⟩<|o_ true):=JN true K P w I J U hw
def RV.non_iff(r:RV G H y v):decide (v=.KF)=(match y with|.KF=>true|_=>false):=by
 cases y with
 |KF=>cases r;rfl
 |cd I=>obtain⟨a,rfl,_⟩:=r;rfl
 |tup J=>obtain⟨a,U,rfl,_⟩:=r;rfl
 |sq J=>obtain⟨a,U,rfl,_⟩:=r;rfl
 |_=>cases r;rfl
def JP(σ:St)(H:Hp)(Q:VK):pQ G (uQ false ta) σ H Q->Iu (pQ G ta) σ H Q:=λ⟨U,L,t,g,j,z,k⟩=>
 ⟨U,L,_,g,j,z,λv l y o p I J r=>by dsimp only;rw[J.non_iff];cases y<;>exact k _ l _ o p I (by rfl) r⟩
def JQ(σ:St)(H:Hp)(Q:VK):pQ G (uQ true ta) σ H Q->Iv (pQ G ta) σ H Q:=λ⟨U,L,t,g,j,z,k⟩=>
 ⟨U,L,_,g,j,z,λv l y o p I J r=>by dsimp only;rw[J.non_iff];cases y<;>exact k _ l _ o p I (by rfl) r⟩
def S'(h:QE X a ta):QE X (.Compare a [.Is] [.Constant .none j fm] pos) (uQ false ta):=ET (Iy<|Iw h) JP
def mx(h:QE X a ta):QE X (.Compare a [.IsNot] [.Constant .none j fm] pos) (uQ true ta):=ET (Iy<|Ix h) JQ
def JR{t:TE}(h:∀σ H Q,pQ G te σ H Q->t σ H Q)(σ:St)(H:Hp)(Q:Bool->Hp->Prop):n_ G (yB te) σ H Q->tB t σ H Q:=λq=>h σ H _<|JI σ H Q q
def gM(h:QE X a ta):QT X (.Compare a [.Is] [.Constant .none j fm] pos) (yB<|uQ false ta):=PT.imp (Iz<|Iw h)<|JR JP
def Ta(h:QE X a ta):QT X (.Compare a [.IsNot] [.Constant .none j fm] pos) (yB<|uQ true ta):=PT.imp (Iz<|Ix h)<|JR JQ
end
section
variable {a b:Expr}{rest:aad}{tc:ji}{tB:kC}
def cz(h:QT X a tA):QW X (.BoolOp .And [a] pos) tA:=Pp h
def eY(h:QT X a tA):QW X (.BoolOp .Or [a] pos) tA:=Pq h
def gY(h:QT X a tA)(k:QW X (.BoolOp .And (b::rest) pos) tB):QW X (.BoolOp .And (a::b::rest) pos) (Hc tA tB):=PW._c (Pr h k) λt H Q U L o g p z k=>
 ⟨U,L,_,g,p,z,λc r j J I l=>by cases c with|true=>rw[AC rfl];exact{U,j,o,g.ts J,I,l,k.ts J}|false=>rw[Az AN];exact k _ r j J I l⟩
def i3(h:QT X a tA)(k:QW X (.BoolOp .Or (b::rest) pos) tB):QW X (.BoolOp .Or (a::b::rest) pos) (Hd tA tB):=PW._c (Ps h k) λt H Q U L o g p z k=>
 ⟨U,L,_,g,p,z,λc r j J I l=>by cases c with|true=>rw[AC rfl];exact k _ r j J I l|false=>rw[Az AN];exact{U,j,o,g.ts J,I,l,k.ts J}⟩
def bQ(h:QW X a tA):QT X a tA:=PW.pt h
def cg(h:QT X a tA):QT X (.UnaryOp .Not a pos) (He tA):=PT._c (Pu h) λr H Q J L t U g z k=>
 ⟨J,L,_,U,g,z,λc j l o I p=>k _ j l o I p⟩
def bB{op:BoolOp}(h:QE X a ta):QE X (.BoolOp op [a] pos) ta:=Pz h
def ae(h:QE X a ta)(k:QE X (.BoolOp .And (b::rest) pos) tb):QE X (.BoolOp .And (a::b::rest) pos) (SJ ta tb):=EI (PB h k) λT H Q U L g o t z k=>
 ⟨U,L,_,o,t,z,λv C y J j I l p=>by
  cases y with
  |bl c=>
   refine{c,l,?_};have r:wg c (tb U J g) (g (.bl false) J):=p;cases c with|true=>rw[AC rfl];exact{U,J,g,o.ts j,I,r,k.ts j}|false=>rw[Az AN];exact k _ C _ J j I (by rfl) r
  |_=>exact p.elim⟩
def Tb(h:QE X a ta)(k:QE X (.BoolOp .Or (b::rest) pos) tb):QE X (.BoolOp .Or (a::b::rest) pos) (SK ta tb):=EI (PD h k) λT H Q U L g o t z k=>
 ⟨U,L,_,o,t,z,λv C y J j I l p=>by
  cases y with
  |bl c=>
   refine{c,l,?_};have r:wg c (g (.bl true) J) (tb U J g):=p;cases c with|true=>rw[AC rfl];exact k _ C _ J j I (by rfl) r|false=>rw[Az AN];exact{U,J,g,o.ts j,I,r,k.ts j}
  |_=>exact p.elim⟩
def Tc(h:QE X a ta):QE X (.UnaryOp .Not a pos) (SM ta):=EI (PH h) λt H Q g L C j l z k=>
 ⟨g,L,_,j,l,z,λv o y p r I J U=>by cases y with|bl c=>exact{c,J,k _ o _ p r I (by rfl) U}|_=>exact U.elim⟩
def dq(h:QT X c tA)(p:QE X a ta)(r:QE X b tb):QE X (.IfExp c a b pos) (F8 tA ta tb):=EI (PL h p r) λC H Q U L j g t z k=>
 ⟨U,L,_,g,t,z,λc T l J I o=>by cases c with|true=>rw[AC rfl];exact{U,l,j,g.ts J,I,o,k.ts J}|false=>rw[Az AN];exact{U,l,j,g.ts J,I,o,k.ts J}⟩
def x5:QA X [] vj:=PA._c pM λJ H Q U L g j I z k=>k _ H _ L (EF _) I (by rfl) z
def kg(h:QE X e te)(t:QA X es tr)(hs:Ep e es X:=by rfl):QA X (e::es) (zb te tr):=PA._c (fP h t hs) λσ H Q j L Q3 l C z k=>
 ⟨j,L,_,l,C,z,λv H1 y T o I J z1=>{j,T,_,l.ts o,I,z1,λp H2 ys L2 r U g z2=>k (v::p) H2 (y::ys) L2 (o.trans r) U {v,p,rfl,J.ts r,g} z2}⟩
def zo(h:QA X es tr):QE X (.Tuple es x1 pos) (qV tr):=EI (Q6 h) λσ H Q l L Q3 o r z k=>
 ⟨l,L,_,o,r,z,λt H1 j C T U I J=>by
  cases e:Nat.ble j.length 1000 with
  |false=>rw[e] at J;exact J.elim
  |true=>
   rw[e] at J;have:=Cg e;refine{small (by rw[<-I.length];exact this),λp g=>?_};exact k _ _ (.tup j) C (T.trans<|EG g) (U.skip g) {p,t,rfl,db.of zm,I.ts<|EG g} J⟩
def zc(h:QA X es tr):QE X (.List es pos) (pI tr):=EI (Q7 h) λC H Q j L T l o z k=>
 ⟨j,L,_,l,o,z,λvs H1 r L1 t I J U=>by
  cases e:Nat.ble r.length 1000 with
  |false=>rw[e] at U;exact U.elim
  |true=>
   rw[e] at U;have:=Cg e;refine{small (by rw[<-J.length];exact this),λp g=>?_};exact k _ _ _ _ (t.trans<|EG g) (I._P g J) (by rfl)<|U p<|I.none g⟩
def vv{id:aap}{r:_T->qh->YK->Prop}(hc:zy X (.builtin id)<|e_ X.g3 r)(U:Gl X x)(g:X.mg x=none)(j:bootBuiltins x=some (.builtin id))(h:QA X (e::es) tr)
 (l:x ≠ "__name__" := by decide) (hd:Es x:=by decide) (hs:Ep e es X:=by rfl) (o:Er pos es X:=by rfl):
 QE X (.Call (.Name x p) (e::es) [] pos) (u_ r tr):=EI (vV hc U g j h l hd hs o) λσ H Q t L C T rl z k=>
 ⟨t,L,_,T,rl,z,λvs H1 ys L1 t1 I J z1=>{ys,L1,C,J,I,z1,k.ts t1}⟩
def JS(G:G3)(t:FE):TO:=λσ H Q=>∃τ L I,ve G H σ τ/\zw G H L/\t τ L I/\∀(o:aah) H' L',zp H H'->zw G H' L'->I o L'->Q o H'
abbrev QO(X:Cx)(e:Option Expr)(t:FE):Prop:=PO X e<|JS X.g3 t
def PO.imp{e:Option Expr}{t u:TO}(h:PO X e t)(q:∀σ H Q,u σ H Q->t σ H Q):PO X e u:=λJ s σ H Q I z=>h J s σ H Q I<|q σ H Q z
def PO._c{e:Option Expr}{t:TO}{u:FE}(h:PO X e t)(q:∀σ H Q τ L I,ve G H σ τ->zw G H L->u τ L I->(∀(o:aah) H' L',zp H H'->zw G H' L'->I o L'->Q o H')->t σ H Q):PO X e (JS G u):=PO.imp h λσ H Q ⟨τ,L,I,a,b,c,d⟩=>q σ H Q τ L I a b c d
def u4.imp{U:V->aah->aah->Hp->VK->Prop}(h:u4 X r)(q:∀x lo hi H Q,U x lo hi H Q->r x lo hi H Q):u4 X U:=by intro J s g H x v j l lo hi o Q I p t pl C z;exact h J s g H x v j l lo hi o Q I p t pl C<|q _ _ _ _ _ z
def kc:QO X none mh:=PO._c RA λJ H Q U L g j I z k=>k _ H L (EF _) I z
def jr(h:QE X e te):QO X (some e) (F9 te):=PO._c (RB h) λt H Q g L C j l z k=>
 ⟨g,L,_,j,l,z,λv o y p r I J U=>by cases y with|int i=>exact{i,J,k _ o p r I U}|_=>exact U.elim⟩
def Gd(G:G3)(r:Y->aah->aah->qh->YK->Prop):V->aah->aah->Hp->VK->Prop:=λx lo hi H Q=>∃y L I,RV G H y x/\zw G H L/\r y lo hi L I/\ui G H I Q
def jq{lo hi:Option Expr}{tl th:FE}{r:Y->aah->aah->qh->YK->Prop}(h:u4 X<|Gd X.g3 r)(T:QE X a ta)(hl:QO X lo tl)(hh:QO X hi th):QE X (.Subscript a (.Slice lo hi none p2) pos) (F_ r ta tl th):=
 EI (RE h T hl hh) λσ H Q I L Q3 J rl z k=>
 ⟨I,L,_,J,rl,z,λv H1 y L1 U g j z1=>{I,L1,_,J.ts U,g,z1,λo H2 L2 l p z2=>{I,L2,_,J.ts<|U.trans l,p,z2,λo' H3 L3 C t z3=>{y,L3,Q3,j.ts<|l.trans C,t,z3,k.ts<|U.trans<|l.trans C}}}⟩
def tD(r:jw G H ys xs)(lo hi:aah):jw G H (gR ys lo hi) (xH xs lo hi):=by unfold gR xH;rw[r.length];exact(r.drop _).take _
def Td(K:Af)(P:aam)(w:aan)(l:X.K=K:=by rfl)(o:X.prog=P:=by rfl)(hw:X.w=w:=by rfl):u4 X (Gd ⟨K,P,w⟩ JA):=by
 subst l o hw;refine u4.imp RS λx lo g H Q ⟨y,L,Q3,j,J,z,k⟩=>?_;cases y with
 |ref a=>
  obtain⟨t,C,T⟩:=x9 z;obtain⟨U,sq,r⟩:=cb J<|w6 C;exact{a,U,j,sq,λp I=>k _ _ _ _ (EG I) (J._P I<|tD r lo g) (by rfl)<|T p<|J.none I}
 |sq t=>
  obtain⟨a,U,e,sf,r⟩:=j;exact{a,U,e,sf.sq,λp I=>k _ _ _ _ (EG I) (J._P I<|tD r lo g) (by rfl)<|z p<|J.none I}
 |_=>exact z.elim
end
section
variable {a b iter:Expr}{tc:ji}{tB:kC}{rest pR:aae}{t u:fe}
def qx:b_ X [] cI:=mR._c amp λD U H g L j I J z k=>k.nx _ H _ L (EF _) I J z
def qd(h:QS X st t):b_ X [st] t:=PQ h
def qa(h:QS X st t)(k:b_ X rest u):b_ X (st::rest) (x4 t u):=mR._c (uz h k) λD σ H j L I l o z k=>
 ⟨j,L,{I with nx:=u I},l,o,z,λp H1 J r C U g T=>{J,r,I,U,g,T,k.ts C},k.rt,k.bk,k.ct⟩
def vR:QS X (.Continue pos) SN:=EM u9 λD U H g L j I J z k=>k.ct _ H _ L (EF _) I J z
def qt(h:QE X e te)(hs:swapsWith e none pos.line X.env=pure false:=by rfl):QS X (.Expr e pos) (dN te):=EM (PV h hs) λD t H g L C J j z k=>
 ⟨g,L,_,J,j,z,λv l y o U I p r=>k.nx _ l _ o U (J.ts U) I r⟩
def ql(h:QE X e te):QS X (.Return (some e) pos) (oO te):=EM (PY h) λD g H I L j J U z k=>{I,L,_,J,U,z,k.rt}
def JT:QS X (.Return none pos) JB:=EM P0 λD J H U L g j I z k=>k.rt _ H _ L (EF _) I (by rfl) z
def zf(h:QT X c tA)(p:b_ X body t)(r:b_ X pR u):QS X (.If c body pR pos) (gK tA t u):=EM (aug h p r) λD T H U L j g C z k=>
 ⟨U,L,_,g,C,z,λc H1 l J I o=>by cases c with|true=>rw[AC rfl];exact{U,l,j,g.ts J,I,o,k.ts J}|false=>rw[Az AN];exact{U,l,j,g.ts J,I,o,k.ts J}⟩
def bq(hN:X.N.Nodup)(I:X.N[i]?=some x)(r:Loc X.env.scope x)(h:QE X e te)(J:swapsWith e (some<|.Name x fm) pos.line X.env=pure false:=by rfl)
 (U:X.fn x=true\/X.env.scope.names.lookup x=some .local:=by first|exact .inl rfl|exact .inr rfl|assumption):QS X (.Assign [.Name x fm] e pos) (km te<|qz i):=EM (P5 hN I r h J U) λD σ H l L D3 o t z k=>
 ⟨l,L,_,o,t,z,λv C y T p g j z1=>k.nx _ C _ T p (show ve _ _ _ (dY l i y) by rw[aY];exact(o.ts p).set j) g z1⟩
def nr(h:QE X e te)(o:QG X tg g)(h1:swapsWithSole [tg] e pos.line X.env=pure false:=by rfl)(h2:swappedStores [tg] e X.env=pure none:=by rfl)
 (p:(assignEach [tg] X.env).map (·.2)=[assign tg X.env]:=by rfl):QS X (.Assign [tg] e pos) (km te g):=EM (ID h o h1 h2 p) λD T H U L D3 j r z k=>
 ⟨U,L,_,j,r,z,λv H1 y t l I J C=>{y,U,t,_,J,j.ts l,I,C,k.nx.ts l}⟩
def PG.imp{t u:TG}(h:PG X e t)(q:∀v σ H Q,u v σ H Q->t v σ H Q):PG X e u:=λJ s σ H x v Q I r z=>h J s σ H x v Q I r<|q _ _ _ _ z
def PGs.imp{e:aad}{t u:k_}(h:PGs X e t)(q:∀v σ H Q,u v σ H Q->t v σ H Q):PGs X e u:=λJ s σ H x v Q I r z=>h J s σ H x v Q I r<|q _ _ _ _ z
def fO(hN:X.N.Nodup)(I:X.N[i]?=some x)(U:Loc X.env.scope x)(J:X.fn x=true\/X.env.scope.names.lookup x=some .local:=by first|exact .inl rfl|exact .inr rfl|assumption):QG X (.Name x pos) (qz i):=
 PG.imp (m5 hN I U J) λv p H Q ⟨y,g,L,r,j,l,o,z,k⟩=>k _ H _ L (EF _) (show ve _ _ _ (dY g i y) by rw[aY];exact l.set j) o z
def wo:FH X [] gB:=PGs.imp IB λj l H Q ⟨I,o,L,p,J,U,g,z,k⟩=>by cases I with|nil=>exact{J,k _ H _ L (EF _) U g z}|cons y r=>exact z.elim
def zh(h:QG X e g)(hs:FH X es gs)(l:(assignEach (e::es) X.env).map (·.2)=assign e X.env::(assignEach es X.env).map (·.2):=by rfl):FH X (e::es) (v5 g gs):=
 PGs.imp (oq h hs l) λvs σ H Q ⟨o,p,L,t,C,T,rl,z,k⟩=>by
 cases o with
 |nil=>exact z.elim
 |cons y r=>
  obtain⟨x,xs,rfl,r1,r2⟩:=C;exact{x,xs,rfl,y,p,L,_,r1,T,rl,z,λa0 H1 I L1 j J U z1=>{r,I,L1,t,r2.ts j,J,U,z1,k.ts j}}
def af{j n:Nat}(hc:X.calm=true)(h:FH X es gs)(h1:(assignEach es X.env).length=n:=by rfl)(h2:(assignEach es X.env).findIdx? (·.1)=none:=by rfl):QG X (.Tuple es j pos) (lv n gs):=
 PG.imp (IC hc h h1 h2) λv C H Q ⟨y,U,L,g,l,o,p,z,k⟩=>by
 cases y with
 |tup I=>
  obtain⟨a,t,rfl,sq,r⟩:=l;have J:(match I.length==n with|true=>gs I U L g|false=>False):=z;split at J
  .rename_i e;exact{a,t,rfl,sq,by rw[<-r.length];exact beq_iff_eq.mp e,I,U,L,g,r,o,p,J,k}
  .exact J.elim
 |_=>exact z.elim
def yh{y:Str}{px py pt:Pos}{J:Nat}{I:Pos}(hc:X.calm=true)(hN:X.N.Nodup)(hi:X.N[i]?=some x)(C:X.N[j]?=some y)(U:i≠j)(T:X.env.scope.names.lookup x=some .local)(ly:X.env.scope.names.lookup y=some .local)
 (h:QA X [a,b] tr) (h1:swappedStores [.Tuple [.Name x px,.Name y py] kt pt] (.Tuple [a,b] J I) X.env=pure (some [x,y])) (h2:swapsWithSole [.Tuple [.Name x px,.Name y py] kt pt] (.Tuple [a,b] J I) pos.line X.env=pure false:=by rfl):
 QS X (.Assign [.Tuple [.Name x px,.Name y py] kt pt] (.Tuple [a,b] J I) pos) (JC i j tr):=EM (P7 hc hN hi C U T ly h h1 h2) λD σ H p L D3 r rl z k=>
 ⟨p,L,_,r,rl,z,λvs H1 ys L1 t g l o=>by
  split at o
  .rename_i v w;obtain⟨x',y',rfl,r1,r2⟩:=l.inv2;exact{x',y',rfl,k.nx _ H1 _ L1 t (show ve _ _ _ (dY (dY p i v) j w) by rw[aY,aY];exact((r.ts t).set r1).set r2) g o}
  .exact o.elim⟩
def Te{op:Operator}{f:Int->Int->Int}(h:E5 X op<|IE f):E5 X op (cf X.g3<|JD f):=λJ s g H x y v u Q I l o ⟨p,U,L,T,r,t,C,z,k⟩=>by
 refine h J s g H x y v u Q I l o ?_;cases p with
 |int i=>
  cases U with|int j=>exact{i,j,r,t,k _ H _ L (EF _) C (by rfl) z}|_=>exact z.elim
 |_=>cases U<;>exact z.elim
def Tf{op:Operator}{r:nE}(hN:X.N.Nodup)(I:X.N[i]?=some x)(T:Loc X.env.scope x)(h:QE X e te)(hp:E5 X op<|cf X.g3 r)
 (J:X.fn x=true\/X.env.scope.names.lookup x=some .local:=by first|exact .inl rfl|exact .inr rfl|assumption):QS X (.AugAssign (.Name x fm) op e pos) (JE i te r):=EM (P9 hN I T h hp J) λD σ H t L D3 U rl z k=>by
 unfold JE at z;split at z
 .rename_i y ey;obtain⟨v,ev,rv⟩:=U.get i y<|mY _ _ ey;exact{v,ev,t,L,_,U,rl,z,λv1 H1 y1 L1 g j l z1=>{y,y1,L1,_,rv.ts g,l,j,z1,λv2 H2 y2 L2 C o p z2=>
   k.nx _ H2 _ L2 (g.trans C) (show ve _ _ _ (dY t i y2) by rw[aY];exact(U.ts<|g.trans C).set p) o z2}}
 .exact z.elim
def cU(hp:PassesOwn (model X.prog X.w) X.A X.env X.xe)(h:QT X c tA)(hb:b_ X body t):QS X (.While c body [] pos) (JG tA t):=PS.imp (Qa hp h hb) λD σ H ⟨τ,L,D3,rs,rl,⟨W,⟨m0,w0⟩,turn⟩,k⟩=>by
 refine{λm r H1=>∃J C,zp H H1/\ve X.g3 H1 r J/\zw X.g3 H1 C/\W m J C,{m0,τ,L,EF _,rs,rl,w0},?_};rintro m r H1 ⟨J,C,t1,l,a1,w1⟩;refine{J,C,_,l,a1,turn m J C w1,λb H2 L2 T a0 z2=>?_};cases b with
 |false=>rw[Az AN];exact k.nx _ H2 _ L2 (t1.trans T) (l.ts T) a0 z2
 |true=>
  rw[AC rfl];obtain⟨N,hN,z2⟩:=z2;refine{λU g=>∃I j,zp H g/\ve X.g3 g U I/\zw X.g3 g j/\N I j,?_,?_}
  .rintro U g ⟨I,j,t',o,p,n'⟩;obtain⟨m',hm,w'⟩:=hN I j n';exact{(m'),hm,I,j,t',o,p,w'}
  .have nx:qQ X.g3 H2 (jD N) (λU g=>∃I j,zp H g/\ve X.g3 g U I/\zw X.g3 g j/\N I j):=λU g I j t' o p ⟨L5,s5,n'⟩=>{I,L5,(t1.trans T).trans t',o,p.sub s5,n'};have k2:=k.ts<|t1.trans T;exact{J,L2,_,l.ts T,a0,z2,nx,k2.rt,k2.nx,nx}
def k8{wi:A_}(hp:PassesOwn (model X.prog X.w) X.A X.env X.xe)(hc:X.calm=true)(hi:QI X tg iter wi)(hg:QG X tg g)(hb:b_ X body t)(hs:∀x,foldedSetIterable iter X.env x=pure x:=by intro _;rfl):
 QS X (.For tg iter body [] pos) (Ff wi g t):=EM (Ql hp hc hi hg hb hs) λD σ H τ L D3 rs rl z k=>by
 refine{τ,L,_,rs,rl,z,λJ H1 r keep L1 t1 a2 yl zz=>?_};obtain⟨W,w0,wk,turn,jd⟩:=SO zz;refine{λi m U j=>∃I o,i+m=r.length/\zp H1 j/\ve X.g3 j U I/\zw X.g3 j o/\W i I o,{r.length,τ,L1,by omega,EF _,rs.ts t1,a2,w0},?_};rintro i m ag H2 ⟨l,L2,al,t2,a0,p,w2⟩;by_cases a1:i<r.length
 .refine .inr {yl.go i H2 L2 t2 p (wk i l L2 w2) a1,λU j=>∃I o,zp H1 j/\ve X.g3 j U I/\zw X.g3 j o/\W (i+1) I o,?_,?_}
  .rintro U j ⟨I,o,t',C,T,w'⟩;exact{m-1,by omega,I,o,by omega,t',C,T,w'}
  .intro x H3 y3;have ey:r[i]?=some r[i]:=Ah a1;obtain⟨t3,a3,a4⟩:=yl.yld i H2 L2 x H3 _ t2 p (wk i l L2 w2) ey y3;refine{r[i],l,L2,_,a4,a0.ts t3,a3,turn i _ l L2 ey w2,λau H4 a5 L4 t4 ab ac z4=>?_};have nx:qQ X.g3 H4 (jD<|W<|i+1) (λU j=>∃I o,zp H1 j/\ve X.g3 j U I/\zw X.g3 j o/\W (i+1) I o):=λU j I o t' C T ⟨L5,s5,n'⟩=>{I,L5,((t2.trans t3).trans t4).trans t',C,T.sub s5,n'};have k2:=k.ts<|t1.trans<|(t2.trans t3).trans t4;exact{a5,L4,_,ab,ac,z4,nx,k2.rt,k2.nx,nx}
 .have e:i=r.length:=by omega
  subst e;exact .inl {yl.stop H2 L2 t2 p<|wk _ l L2 w2,k.nx _ H2 _ L2 (t1.trans t2) a0 p<|jd l L2 w2}
def PI.imp{t u:TI}(h:PI X tg e t)(q:∀σ H Q,u σ H Q->t σ H Q):PI X tg e u:=λJ s σ H Q I z=>h J s σ H Q I<|q σ H Q z
def PI._c{t:TI}{u:A_}(h:PI X tg e t)(q:∀σ H R τ L I,ve G H σ τ->zw G H L->u τ L I->(∀J H' ys keep L',zp H H'->zw G H' L'->dw G H' J ys keep->I ys keep L'->R J H')->t σ H R):PI X tg e (G' G u):=PI.imp h λσ H R ⟨τ,L,I,a,b,c,d⟩=>q σ H R τ L I a b c d
def lK{a:Addr}{keep:qh->Prop}(h:∀H L,zp H₀ H->zw G H L->keep L->∃xs,aV G.K H a xs/\jw G H ys xs):dw G H₀ (GP G.K a) ys keep where
 go:=λi H L t I J U=>by
  obtain⟨xs,sq,r⟩:=h H L t I J;have:i<xs.length:=by rw[<-r.length];exact U
  exact{xs,xs[i],sq,Ah this}
 yld:=λi H L x o y t I J g ⟨e,f⟩=>by subst e;obtain⟨xs,sq,r⟩:=h _ L t I J;obtain⟨p,j,l⟩:=r.get g;have:=f xs sq;rw[j] at this;cases this;exact{EF _,I,l}
 stop:=λH L t I J=>by obtain⟨xs,sq,r⟩:=h H L t I J;exact{xs,sq,by rw[r.length];exact Aj _}
def xc(h:QE X e te):QI X tg e (yE te):=PI._c (Qe h) λσ H R τ L R3 rs l z k=>by
 refine{τ,L,_,rs,l,z,λv g y o C I U p=>?_};cases y with
 |ref a=>
  obtain⟨j,keep,es,kp,hk,z2⟩:=wV p;have T:∀H L,zp g H->zw X.g3 H L->keep L->∃J,aV X.K H a J/\jw X.g3 H j J:=λH L _ l e=>cb l<|hk L e;obtain⟨J,sq,_⟩:=T g o (EF _) I kp;exact{a,U,{(J),sq},k _ g j _ o C I (lK T) z2}
 |sq j=>
  obtain⟨a,J,e,sf,r⟩:=U;exact{a,e,{(J),sf.sq},k _ g j (λ_=>True) o C I (lK λH L t _ _=>{J,(sf.ts t).sq,r.ts t}) p}
 |_=>exact p.elim
def vJ(lo:Int)(n:Nat):dw G H₀ (Ft lo n) (ah lo n) (λ_=>True) where
 go:=λi H L t J g j=>show i<n by simpa[ah] using j
 yld:=λi H L x l y t J g U ⟨e,f⟩=>by
  subst e f;refine{EF _,J,?_};unfold ah at U;rw[Al] at U;obtain⟨z,I,e⟩:=Ax.mp U;have:=Dy (i:=i) (n:=n) (by
   by_cases c:i<n
   .exact c
   .rw[Br (by simp;omega)] at I;cases I)
  rw[this] at I;cases I;subst e;rfl
 stop:=λH L t J g=>by simp[ah,Ft]
def aS(g:Gl X "range")(l:X.mg "range"=none)(h:QA X [a] tr)(hs:starEach [a] X.env=[(false,eval a X.env)]:=by rfl):QI X tg (.Call (.Name "range" p) [a] [] pos) (ph tr):=
 PI._c (Qi g l h hs) λσ H R o L R3 t C z k=>by
 refine{o,L,_,t,C,z,λvs T ys L1 t1 J U I=>?_};split at I
 .rename_i j;obtain⟨x,rfl,r⟩:=U.inv1;cases r;exact{j,rfl,I.1.1,I.1.2,k _ T _ _ L1 t1 J (vJ 0 _) I.2}
 .exact I.elim
end
section
variable {T:aac}{iter:Expr}{wi:A_}
def aM:QF X [] JH:=PF.imp Ss λJ H Q ⟨U,L,g,j,I,z,k⟩=>k _ H L (EF _) I z
def eV(h:QT X c tA):QF X [c] tA:=Su h
def JU{n:Nat}{g2:TG}(a0:∀v σ H Q,FC G g v σ H Q->g2 v σ H Q)(σ:St)(H:Hp)(Q:VK):pQ G (FF n wi g tA te) σ H Q->G8 n (G' G wi) g2 (n_ G tA) (pQ G te) σ H Q:=λ⟨τ,L,Q3,rs,rl,z,k⟩=>by
 refine{τ,L,_,rs,rl,z,λJ H1 l keep L1 t1 a1 yl zz=>?_};obtain⟨hz,W,w0,wk,turn,jd⟩:=SS zz;refine{λi m vs H'=>∃I L',i+m=l.length/\I.length<=i/\zp H1 H'/\jw G H' I vs/\zw G H' L'/\W i I L',{l.length,[],L1,by exact CA _ _,Aj _,EF _,rfl,a1,w0},?_};rintro i m vs H2 ⟨I,L2,ac,ag,o,U,j,p⟩;by_cases r:i<l.length
 .refine .inr {yl.go i H2 L2 o j (wk i I L2 p) r,by rw[<-U.length];lia,?_};intro x H3 y3;have ey:l[i]?=some l[i]:=Ah r;obtain⟨t3,a2,a3⟩:=yl.yld i H2 L2 x H3 _ o j (wk i I L2 p) ey y3;refine a0 _ _ _ _ {l[i],_,L2,_,a3,(rs.ts<|(t1.trans o).trans t3).more n,a2,turn i _ I L2 ey p,λal H4 t L4 t4 C a4 z4=>?_};refine{t,L4,_,C,a4,z4,λb H5 L5 t5 T z5=>?_};cases b with
  |true=>
   rw[AC rfl];refine{t,L5,_,C.ts t5,T,z5,λv6 H6 y6 L6 t6 a5 ab ⟨L7,s7,z6⟩=>?_};have tt:=((t3.trans t4).trans t5).trans t6;exact{m-1,by omega,I++[y6],L7,by lia,by rw[Ab,Dd];exact Fz,o.trans tt,(U.ts tt).app<|jw.one ab,a5.sub s7,z6}
  |false=>
   rw[Az AN];have tt:=(t3.trans t4).trans t5;obtain⟨L7,s7,z6⟩:=z5;exact{m-1,by lia,I,L7,by lia,by exact E8,o.trans tt,U.ts tt,T.sub s7,z6}
 .have ei:i=l.length:=by lia
  subst ei;refine .inl {yl.stop H2 L2 o j<|wk _ I L2 p,by rw[<-U.length];lia,λD hD=>?_};exact k _ _ _ _ ((t1.trans o).trans<|EG hD) (j._P hD U) (by rfl)<|jd I L2 p D<|j.none hD
structure Fg(X:Cx)(scope:Scope)(T:aac)(target:Expr)(g:mO):Prop where
 ex:∃g2:TG,(∀C fp s₀ H₀,PG (X.comp scope T C fp s₀ H₀) target g2)/\sH g2 X.N.length T.length/\∀v σ H Q,FC X.g3 g v σ H Q->g2 v σ H Q
def Tg(i:Nat)(v:V)(σ:St)(H:Hp)(Q:St->Hp->Prop):FC G (qz i) v σ H Q->dr i v σ H Q:=λ⟨y,I,L,j,J,U,g,z,k⟩=>
 k _ H _ L (EF _) (show ve _ _ _ (dY I i y) by rw[aY];exact U.set J) g z
def oB(hN:(X.N++[x]).Nodup)(J:∀C fp s₀ H₀,Loc (X.comp scope [x] C fp s₀ H₀).env.scope x)(I:∀C fp s₀ H₀,(X.comp scope [x] C fp s₀ H₀).env.scope.names.lookup x=some .local):Fg X scope [x] (.Name x p) (qz X.N.length):=
 ⟨dr X.N.length,λC fp s₀ H₀=>m5 (X:=X.comp scope [x] C fp s₀ H₀) hN (by show(X.N++[x])[X.N.length]?=some x;simp) (J C fp s₀ H₀)<|.inr<|I C fp s₀ H₀,xN _,Tg _⟩
def Th{K:Af}(n:Nat):sH (GL K 2<|wM (dr n)<|wM (dr<|n+1) GK) n 2:=by
 rintro o I x H Q ⟨a,J,e,sq,len,v,r,U,w,g,j,l,q⟩;refine{a,J,e,sq,len,v,r,U,w,g,j,l,{by simp[I],λi u ei=>?_},q};have p:i<n:=by
  by_cases c:i<n
  .exact c
  .rw[AK (by lia),Ct] at ei;split at ei<;>cases ei
 rw[B4 (by lia),B4 (by exact Jg)];exact ei
def Ti(i j:Nat)(v:V)(σ:St)(H:Hp)(Q:St->Hp->Prop):FC G (lv 2<|v5 (qz i)<|v5 (qz j) gB) v σ H Q->GL G.K 2 (wM (dr i)<|wM (dr j) GK) v σ H Q:=λ⟨y,U,L,g,o,p,t,z,k⟩=>by
 cases y with
 |tup I=>
  obtain⟨a,xs,rfl,sq,r⟩:=o;have J:(match I.length==2 with|true=>v5 (qz i) (v5 (qz j) gB) I U L g|false=>False):=z;split at J
  .rename_i e;have C:I.length=2:=beq_iff_eq.mp e
   match I,C with
   |[T,y2],_=>
    obtain⟨x1,l,rfl,r1,r2⟩:=r.inv2;have z2:g (dY (dY U i T) j y2) L:=J;exact{a,_,rfl,sq,rfl,x1,[l],rfl,l,[],rfl,rfl,k _ H _ L (EF _) (by rw[aY,aY];exact(p.set r1).set r2) t z2}
  .exact J.elim
 |_=>exact z.elim
def Tj{y:Str}{I pt:Pos}(hc:X.calm=true)(hN:(X.N++[x,y]).Nodup)(U:∀C fp s₀ H₀,(X.comp scope [x,y] C fp s₀ H₀).env.scope.names.lookup x=some .local)(J:∀C fp s₀ H₀,(X.comp scope [x,y] C fp s₀ H₀).env.scope.names.lookup y=some .local)
 (h1:∀env,(assignEach [.Name x p,.Name y I] env).length=2:=by intro _;rfl) (h2:∀env,(assignEach [.Name x p,.Name y I] env).findIdx? (·.1)=none:=by intro _;rfl)
 (g:∀env,(assignEach [.Name x p,.Name y I] env).map (·.2)=assign (.Name x p) env::(assignEach [.Name y I] env).map (·.2):=by intro _;rfl) (j:∀env,(assignEach [.Name y I] env).map (·.2)=assign (.Name y I) env::(assignEach [] env).map (·.2):=by intro _;rfl):
 Fg X scope [x,y] (.Tuple [.Name x p,.Name y I] kt pt) (lv 2<|v5 (qz X.N.length)<|v5 (qz<|X.N.length+1) gB):=
 ⟨_,λC fp s₀ H₀=>IC (X:=X.comp scope [x,y] C fp s₀ H₀) hc (oq (m5 hN (by show(X.N++[x,y])[X.N.length]?=some x;simp) (.inl<|U C fp s₀ H₀)<|.inr<|U C fp s₀ H₀) (oq (m5 hN (by show(X.N++[x,y])[X.N.length+1]?=some y;simp) (.inl<|J C fp s₀ H₀)<|.inr<|J C fp s₀ H₀) IB<|j _)<|g _) (h1 _)<|h2 _,Th _,Ti _ _⟩
def a6(T:aac)(S:j4 X scope)(hc:X.calm=true)(hi:QI X target iter wi)(I:Fg X scope T target g)
 (J:∀C fp s₀ H₀,QF (X.comp scope T C fp s₀ H₀) ml tA) (U:∀C fp s₀ H₀,QE (X.comp scope T C fp s₀ H₀) nC te)
 (hs:∀x,foldedSetIterable iter X.env x=pure x:=by intro _;rfl):QE X (.ListComp nC [{target,iter,ml,0}] scope pos) (FF T.length wi g tA te):=by
 obtain⟨g2,j,l,o⟩:=I.ex;exact ET (Sw T S hc hi j l J U hs)<|JU o
def gf(T:aac){px o:Pos}(hN:X.N.Nodup)(I:X.N[i]?=some x)(hx:Loc X.env.scope x)(S:j4 X scope)(hc:X.calm=true)(hi:QI X target iter wi)
 (hg:Fg X scope T target g) (hf:∀C fp s₀ H₀,QF (X.comp scope T C fp s₀ H₀) ml tA) (he:∀C fp s₀ H₀,QE (X.comp scope T C fp s₀ H₀) nC te)
 (J:swapsWith (.ListComp nC [{target,iter,ml,0}] scope o) (some<|.Name x px) pos.line X.env=pure true:=by rfl)
 (U:X.fn x=true\/X.env.scope.names.lookup x=some .local:=by first|exact .inl rfl|exact .inr rfl|assumption)
 (hs:∀x,foldedSetIterable iter X.env x=pure x:=by intro _;rfl):QS X (.Assign [.Name x px] (.ListComp nC [{target,iter,ml,0}] scope o) pos) (km (FF T.length wi g tA te)<|qz i):=by
 obtain⟨g2,h1,h2,h3⟩:=hg.ex;refine PS.imp (Sx (tc:=n_ X.g3 tA) (te:=pQ X.g3 te) T hN I hx S hc hi h1 h2 hf he J U hs) λD σ H ⟨p,L,D3,r,rl,z,k⟩=>?_;refine JU h3 σ H _ {p,L,_,r,rl,z,λv H1 y L1 t j l z1=>?_};exact k.nx _ H1 _ L1 t (show ve _ _ _ (dY p i y) by rw[aY];exact(r.ts t).set l) j z1
def dn(G:G3)(sp:jf):Sp:=λvs H Q _=>∃ys L I,jw G H ys vs/\zw G H L/\sp ys L I/\ui G H I Q
abbrev Hh(P:aam)(w:aan)(K:Af)(mg:Z7)(base:aao)(k:Nat)(x:Str)(ps:aac)(sp:jf):Prop:=Cal P w K mg base k x ps<|dn {(K),P,w} sp
abbrev Fn3(P:aam)(w:aan)(K:Af)(mg:Z7)(base:aao)(k:Nat)(f:Addr)(fd:FuncData)(ps:aac)(sp:jf):Prop:=bE P w K mg base CX0 k f fd ps<|dn {(K),P,w} sp
def Tk{k:Nat}(c:Hh X.prog X.w X.K X.mg X.base k x ps sp)(j:wf k X.A)(l:Gl X x)(o:QA X (e::es) tr)(I:Es x:=by decide)
 (r:Ep e es X:=by rfl) (J:Er pos es X:=by rfl):QE X (.Call (.Name x p) (e::es) [] pos) (vh sp tr):=
 EI (So c j l o I r J) λσ H Q t L C T rl z k=>
 ⟨t,L,_,T,rl,z,λvs H1 ys L1 t1 U g z1=>{ys,L1,C,by rw[AG];exact g,U,z1,k.ts t1}⟩
def dH(Q:YK):YK:=λy L=>∃L2,qf L2 L/\Q y L2
def jW(N:aac)(ys:_T):j5:=ys.map some++List.replicate (N.length-ys.length) none
def qY{N:aac}(r:jw G H ys vs):ve G H (start N vs) (jW N ys):=by unfold start jW;rw[<-r.length];refine ve.more {by simp[r.length],λi y e=>?_} _;rw[Al] at e;obtain⟨g,I,J⟩:=Ax.mp e;cases J;obtain⟨x,ex,U⟩:=r.get I;exact{x,by rw[Al,ex];rfl,U}
def To{P:aam}{w:aan}{K:Af}{N:aac}{k:Nat}(F:Fun K x ee st f fd)(S:am N ps<|za st)(len:∀ys L Q,sp ys L Q->ys.length=ps.length)
 (I:∀(eK:aak) (A:Around) (outer:List Env) (s:aal) (H:Hp) (E:XK),wf k (A.deeper<|PyProof.Rows.envOfC ee (za st) s.heap.objs.size f eK)->
  ∃t,b_ (qN CX0 P w K mg base N ee (za st) f eK A outer s H E).nox (jl st) t/\∀ys L Q,sp ys L Q->t {nx:=λ_ L'=>dH Q .KF L',rt:=dH Q} (jW N ys) L):Fn3 P w K mg base (k+1) f fd ps sp:=by
 refine F.ok S (λT H Q E ⟨ys,L,U,g,C,z,_⟩=>by rw[<-g.length];exact len ys L U z) λeK A outer s H T Q E hr ⟨ys,L,U,g,C,z,k⟩=>?_;obtain⟨t,ht,q⟩:=I eK A outer s H E hr;refine{_,ht,jW N ys,L,_,qY g,C,q ys L U z,?_};refine{λσ j τ L' l a0 J ⟨L2,o,p⟩=>k .KF j .KF L2 l (J.sub o) (by rfl) p,λv j y L' l J r ⟨L2,o,p⟩=>k v j y L2 l (J.sub o) r p,λ_ _ _ _ _ _ _ z=>z.elim,λ_ _ _ _ _ _ _ z=>z.elim}
def l_(G:G3)(r:Y->_T->qh->YK->Prop):V->GT->Hp->VK->Prop:=λx xs H Q=>∃y ys L I,RV G H y x/\jw G H ys xs/\zw G H L/\r y ys L I/\ui G H I Q
def gc._c{id:aap}{r:V->GT->Hp->VK->Prop}{u:Y->_T->qh->YK->Prop}(h:gc X id r)(q:∀x xs H Q y ys L I,RV G H y x->jw G H ys xs->zw G H L->u y ys L I->ui G H I Q->r x xs H Q):gc X id (l_ G u):=gc.imp h λx xs H Q ⟨y,ys,L,I,a,b,c,d,e⟩=>q x xs H Q y ys L I a b c d e
def Tp:gc X "list.append" (l_ X.g3 wb):=gc._c R4 λx p H Q y t L C U g J z k=>by
 unfold wb at z;split at z
 .rename_i a v;obtain⟨T,e,z⟩:=x9 z;obtain⟨j,I,r⟩:=J a _ e;obtain⟨l,rfl,o⟩:=g.inv1;exact{a,j,l,U,rfl,I,by rw[<-r.length];exact z.1,k _ _ _ _ (ES I) (J.setL I<|r.app<|jw.one o) (by rfl) z.2}
 .exact z.elim
def Tq:gc X "list.extend" (l_ X.g3 sh):=gc._c R6 λx T H Q y ys L Q3 g j I z k=>by
 unfold sh at z;split at z
 .rename_i a b;obtain⟨zs,e,z⟩:=x9 z;obtain⟨us,l,z⟩:=x9 z;obtain⟨o,J,r⟩:=I a _ e;obtain⟨p,t,U⟩:=I b _ l;obtain⟨v',rfl,C⟩:=j.inv1;cases C;exact{a,b,o,p,g,rfl,J,t,by rw[<-r.length,<-U.length];exact z.1,k _ _ _ _ (ES J) (I.setL J<|r.app U) (by rfl) z.2}
 .exact z.elim
def Ts:gc X "list.pop" (l_ X.g3 Ga):=gc._c R8 λx l H Q y T L Q3 o p U z k=>by
 unfold Ga at z;split at z
 .rename_i a;obtain⟨g,e,z⟩:=x9 z;obtain⟨t,I,r⟩:=U a _ e;cases (show l=[] from p);cases J:g[g.length-1]? with
  |none=>rw[J] at z;exact z.elim
  |some v=>
   rw[J] at z;obtain⟨u,j,C⟩:=r.get J;rw[r.length] at j;exact{a,t,u,o,rfl,I,j,k _ _ _ _ (ES I) (U.setL I r.dropLast) (C.ts<|ES I) z}
 .exact z.elim
def JV{a:Addr}(I:zw G H L)(h:bK L (.ref a)=some ys):F5 G.K "list" (.ref a) H:=by obtain⟨J,sq,_⟩:=cb I h;exact .inl {(rfl),J,sq}
def tL(r:Y->_T->qh->YK->Prop)(to:ji)(t:fF)(τ:j5)(L:qh)(Q:YK):Prop:=to τ L λx L1=>match x with
 |.ref a=>dZ L1 (.ref a) λ_=>t τ L1 λxs L2=>r (.ref a) xs L2 Q
 |_=>False
structure A'(X:Cx)(o e:Expr)(es:aad)(name:Str)(apos eS:Pos):Prop where
 h4:attributeBase o name X.env (eval o X.env)=eval o X.env
 h5:((backTo eS<|starEach (e::es) X.env).all (λx=>!x.1)&&(backToKw eS<|keywordEach [] X.env).all (λx=>x.1.isSome)&&decide ((e::es).length+([]:List Keyword).length+(if ([]:List Keyword).isEmpty=true then 0 else 1)<30))=true
 h6:(apos.endLine==eS.line)=true
 h7:Ep e es X
 h8:Er eS es X
def uU{id:aap}{r:Y->_T->qh->YK->Prop}(h2:Slot "list" name id)(h3:typeOf (.builtin id)=pure (.type "method_descriptor"))(hm:gc X id<|l_ X.g3 r)(ho:QE X o to)(ha:QA X (e::es) tr)
 (I:A' X o e es name apos eS:=by exact{(rfl),rfl,rfl,rfl,rfl}):
 QE X (.Call (.Attribute o name apos) (e::es) [] eS) (tL r to tr):=EI (Jd DU h2 h3 hm ho ha I.h4 I.h5 I.h6 I.h7 I.h8) λσ H Q p L Q3 t rl z k=>
 ⟨p,L,_,t,rl,z,λv H1 y L1 C J U g=>by
  split at g
  .rename_i a;obtain⟨T,es,g⟩:=vf g;exact{by cases U;exact JV J es,p,L1,_,t.ts C,J,g,λvs H2 T L2 t2 j l z2=>{.ref a,T,L2,Q3,U.ts t2,l,j,z2,k.ts<|C.trans t2}}
  .exact g.elim⟩
def Tt{id:aap}{r:Y->_T->qh->YK->Prop}(h2:Slot "list" name id)(g:typeOf (.builtin id)=pure (.type "method_descriptor"))(j:gc X id<|l_ X.g3 r)(l:QE X o to)
 (p:attributeBase o name X.env (eval o X.env)=eval o X.env:=by rfl) (t:(apos.endLine==eS.line)=true:=by rfl):
 QE X (.Call (.Attribute o name apos) [] [] eS) (tL r to vj):=EI (RX DU h2 g j l p t) λσ H Q C L T rs rl z k=>
 ⟨C,L,_,rs,rl,z,λv H1 y L1 t1 I J U=>by
  split at U
  .rename_i a;obtain⟨ys,es,U⟩:=vf U;exact{by cases J;exact JV I es,.ref a,[],L1,T,J,rfl,I,U,k.ts t1}
  .exact U.elim⟩
def z9(I:QE X o to)(J:QA X (e::es) tr)(U:A' X o e es "append" apos eS:=by exact{(rfl),rfl,rfl,rfl,rfl}):
 QE X (.Call (.Attribute o "append" apos) (e::es) [] eS) (tL wb to tr):=uU PySem.F.slot_list_append PySem.F.type_list_append Tp I J U
def wx(I:QE X o to)(J:QA X (e::es) tr)(U:A' X o e es "extend" apos eS:=by exact{(rfl),rfl,rfl,rfl,rfl}):
 QE X (.Call (.Attribute o "extend" apos) (e::es) [] eS) (tL sh to tr):=uU PySem.F.slot_list_extend PySem.F.type_list_extend Tq I J U
def yN(I:QE X o to)(J:attributeBase o "pop" X.env (eval o X.env)=eval o X.env:=by rfl)(U:(apos.endLine==eS.line)=true:=by rfl):
 QE X (.Call (.Attribute o "pop" apos) [] [] eS) (tL Ga to vj):=Tt PySem.F.slot_list_pop PySem.F.type_list_pop Ts I J U
end
abbrev Fh:nE:=t_ λi j=>.int<|i-j
abbrev Tu:nE:=yI aht λi j=>.int<|i*j
abbrev Hi:nE:=yI GV λi j=>.int<|i / j
abbrev vZ:nE:=yI (λ_ j=>0<j) λi j=>.int<|i % j
abbrev Tv:nE:=yI GX λi j=>.int<|i ^ j.toNat
abbrev yLt:nE:=t_ λi j=>.bl<|decide<|i<j
abbrev yLe:nE:=t_ λi j=>.bl<|decide<|i<=j
abbrev JW:nE:=t_ λi j=>.bl<|decide<|j<i
abbrev Tw:nE:=JD λi j=>i+j
def Tz :E5 X .Add (cf X.g3 Tw):=Te P_
structure Fi(G:G3)(mg:Z7)(x:Str)(y:Y):Prop where
 ex:∃c,mg x=some (.ref c)/\∀H,RV G H y<|.ref c
def jK(t:Fi X.g3 X.mg x y)(I:Gl X x)(hd:Es x:=by decide):QE X (.Name x pos) (yC y):=by obtain⟨c,J,q⟩:=t.ex;exact SV I J q hd
def rF(kvs:List<|Str×Str):LO:=._q<|kvs.map λp=>(Sum.inr p.1,Y.str p.2)
def TC(kvs:List<|Str×Str)(_:j5)(L:qh)(Q:YK):Prop:=∀p,L p=none->Q (.ref p) (qg L p<|rF kvs)
def v_(kvs:List<|Str×Str):List (zr×V):=kvs.map λp=>(Sum.inr p.1,V.str p.2)
theorem vM{σ:St}{H:Hp}{Q:List (V×V)->Hp->Prop}:∀{kvs:List<|Str×Str},Q (kvs.map λp=>(V.str p.1,V.str p.2)) H->si (kvs.map λp=>(tC<|.str p.1,tC<|.str p.2)) σ H Q
 |[],h=>h
 |_::r,h=>vM (kvs:=r) h
theorem JX{G:G3}{H:Hp}:∀kvs:List (Str×Str),Paired (λ(p:zr×Y) (q:zr×V)=>p.1=q.1/\RV G H p.2 q.2) (kvs.map λp=>(Sum.inr p.1,Y.str p.2))<|v_ kvs
 |[]=>.nil
 |_::r=>.cons {(rfl),rfl}<|JX r
def JY(kvs:List<|Str×Str)(h:E7 X pos keys values<|kvs.map λp=>(tC<|.str p.1,tC<|.str p.2))(h1:(keys.all λx=>x.isSome)=true)(h2:keys.length=values.length)(U:keys≠[])(g:keys.length<=15)
 (j:kvs.length<=15:=by decide) (nd:gL [] (v_ kvs)=v_ kvs:=by decide +kernel):QE X (.Dict keys values pos) (TC kvs):=EI (Rw h h1 h2 U g) λl H Q o L r t J z k=>by
 intro p I;refine vM {zm,v_ kvs,by simp[v_,kV],by simpa[v_] using j,?_};rw[nd,O_];refine k _ _ _ (qg L p<|rF kvs) (EG I) ?_ (by rfl)<|z p<|J.none I;intro a u e;by_cases c:a=p
 .subst c;rw[q9] at e;cases e;exact{v_ kvs,zm,JX kvs}
 .rw[qb c] at e;exact(J a u e).keep (EG I) (qp c)
def TD(s:qf L L')(h:bK L y=some ys):bK L' y=some ys:=by
 cases y with
 |tup J=>exact h
 |sq J=>exact h
 |ref a=>
  have I:(match L a with|some (.lst ys)=>some ys|_=>none)=some ys:=h;split at I
  .rename_i e;cases I;exact w6<|s _ _ e
  .cases I
 |_=>cases h
def rO(t:ji):Prop:=∀τ L Q,t τ L Q->∃v,Q v L/\∀L' I,qf L L'->I v L'->t τ L' I
def TF(i:Nat):rO (qw i):=λI L Q h=>by
 unfold qw at h ⊢;split at h
 .rename_i y e;exact{y,h,λJ U _ q=>q}
 .exact h.elim
def TH(y:Y):rO (yC y):=λ_ _ _ h=>{y,h,λ_ _ _ q=>q}
def wc{Q:α->qh->Prop}{o:Option α}(h:qC L Q o):∃v,o=some v/\Q v L:=by cases o with|none=>exact h.elim|some v=>exact{(v),rfl,h}
def TJ{x:Y}{Q:YK}(h:u5 x y L Q):∃v,Q v L/\∀(L':qh) (I:YK),qf L L'->I v L'->u5 x y L' I:=by
 have seq:∀{x:Y} {i:Int},(dZ L x λJ=>qC L Q<|fS J i)->∃v,Q v L/\∀(L':qh) (I:YK),qf L L'->I v L'->(dZ L' x λJ=>qC L' I<|fS J i):=by intro x i h;obtain⟨J,l,h⟩:=vf h;obtain⟨v,e,q⟩:=wc h;exact{v,q,λL' I s U=>Jw (TD s l) (by rw[e];exact U)}
 cases x with
 |str z=>
  cases y with
  |int i=>
   obtain⟨v,e,q⟩:=wc h.2;exact{_,q,λL' I s U=>{h.1,by rw[e];exact U}}
  |_=>exact h.elim
 |cd g=>
  cases y with
  |str k=>
   have j:qC L (λs L=>Q (.str s) L) (g.lookup k):=h;obtain⟨v,e,q⟩:=wc j;refine{_,q,λL' I s U=>?_};show qC L' (λs L=>I (.str s) L) (g.lookup k);rw[e];exact U
  |_=>exact h.elim
 |ref a=>
  cases y with
  |int i=>exact seq (x:=.ref a) (i:=i) h
  |str k=>
   obtain⟨g,e,j⟩:=cW h;obtain⟨v,o,q⟩:=wc j;exact{v,q,λL' I s U=>ju (s _ _ e) (by rw[o];exact U)}
  |_=>exact h.elim
 |tup J=>
  cases y with|int i=>exact seq (x:=.tup J) (i:=i) h|_=>exact h.elim
 |sq J=>
  cases y with|int i=>exact seq (x:=.sq J) (i:=i) h|_=>exact h.elim
 |_=>cases y<;>exact h.elim
def TK(U:rO ta)(g:rO tb):rO (aZ u5 ta tb):=λJ L Q h=>by obtain⟨x,j,l⟩:=U J L _ h;obtain⟨y,o,p⟩:=g J L _ j;obtain⟨v,q,r⟩:=TJ o;exact{v,q,λI t s C=>l I _ s<|p I _ s<|r I t s C}
def TL(kvs:List<|Str×Str)(ti:ji)(τ:j5)(L:qh)(Q:YK):Prop:=ti τ L λi L2=>match i with
 |.str k=>qC L2 (λx L=>Q (.str x) L)<|kvs.lookup k
 |_=>False
def fC{kvs:List<|Str×Str}{k:Str}(h:kvs.lookup k=some x):vq (kvs.map λp=>((Sum.inr p.1:zr),Y.str p.2)) (Sum.inr k)=some (Y.str x):=by
 induction kvs with
 |nil=>simp at h
 |cons p r I=>
  obtain⟨a,b⟩:=p;unfold vq;rw[AI,Bq];rw[Bg] at h;by_cases c:k=a
  .subst c;simp at h;simp[h]
  .have J:(k==a)=false:=by simpa using c
   rw[J] at h;have U:decide ((Sum.inr a:zr)=Sum.inr k)=false:=Aw λz=>c (E4 z).symm;simp only[U];exact I h
def TM{C:Pos}{b:Expr}(kvs:List<|Str×Str)(h:E7 X C keys values<|kvs.map λp=>(tC<|.str p.1,tC<|.str p.2))(h1:(keys.all λx=>x.isSome)=true)(h2:keys.length=values.length)(h3:keys≠[])(h4:keys.length<=15)
 (hb:QE X b tb) (pu:rO tb) (I:i8 b) (h5:kvs.length<=15:=by decide) (nd:gL [] (v_ kvs)=v_ kvs:=by decide +kernel):QE X (.Subscript (.Dict keys values C) b pos) (TL kvs tb):=
 EI (G1 (JJ X.K X.prog X.w) (JY kvs h h1 h2 h3 h4 h5 nd) hb I) λσ H Q U L Q3 T rl z k=>by
 obtain⟨v,zv,kv⟩:=pu U L _ z;refine{U,L,λy J=>∃p,L p=none/\y=.ref p/\J=qg L p (rF kvs),T,rl,λp I=>{(p),I,rfl,rfl},?_};rintro v1 H1 y1 L1 t1 g j ⟨p,I,rfl,rfl⟩;have sb:qf L (qg L p<|rF kvs):=By I;refine{U,_,λv' J=>v'=v/\J=qg L p (rF kvs),T.ts t1,g,kv _ _ sb {(rfl),rfl},?_};rintro v2 H2 y2 L2 t2 l o ⟨rfl,rfl⟩;refine{.ref p,y2,_,λy J=>J=qg L p (rF kvs)/\Q3 y L,j.ts t2,o,l,?_,?_}
 .cases y2 with
  |str i=>
   obtain⟨u,eu,qu⟩:=wc zv;refine ju (kvs:=kvs.map λp=>(Sum.inr p.1,Y.str p.2)) q9 ?_;rw[fC eu];exact{(rfl),qu}
  |_=>exact zv.elim
 .rintro v3 H3 y3 L3 t3 r t ⟨rfl,q3⟩;exact k v3 H3 y3 L (t1.trans<|t2.trans t3) (r.sub sb) t q3
def JZ{n:Nat}(h:(ah lo n)[i]?=some y):i<n/\y=.int (lo+i):=by
 unfold ah at h;rw[Al] at h;obtain⟨z,I,e⟩:=Ax.mp h;have J:i<n:=by
  by_cases c:i<n
  .exact c
  .rw[Br (by simp;exact G6)] at I;cases I
 rw[Dy J] at I;cases I;exact{(J),e.symm}
def oN(lo:Int)(n:Nat):(ah lo n).length=n:=by simp[ah]
def jB{n:Nat}{tb:fe}(W:Nat->j5->qh->Prop)(J:W 0 τ L)
 (hs:∀i τ L,i<n->W i τ L->g (.int<|lo+i) τ L λI L2=>tb {D with nx:=jD<|W<|i+1,ct:=jD<|W<|i+1,bk:=D.nx} I L2) (hd:∀τ L,W n τ L->D.nx τ L):tZ (ah lo n) (λ_=>True) g tb D τ L:=by
 refine vk {W,J,λ_ _ _ _=>trivial,λi y τ L e w=>?_,λτ L w=>hd τ L (by rw[oN] at w;exact w)};obtain⟨U,rfl⟩:=JZ e;exact hs i τ L U w
def xZ{a:Addr}{v:Y}{Q:YK}(e:L a=some (.lst<|ys++[v]))(q:Q v<|qg L a<|.lst ys):dZ L (.ref a) (λ_=>vj τ L λxs L2=>Ga (.ref a) xs L2 Q):=by
 refine qc e<|qi e ?_;have:(ys++[v])[(ys++[v]).length-1]?=some v:=by simp
 rw[this,List.dropLast_concat];exact q
def TN{tb:fe}{a:Addr}(h:bK L (.ref a)=some ys)(W:Nat->j5->qh->Prop)(J:W 0 τ L)(U:∀i τ L',W i τ L'->L' a=L a)
 (hs:∀i y τ L,ys[i]?=some y->W i τ L->g y τ L λI L2=>tb {D with nx:=jD<|W<|i+1,ct:=jD<|W<|i+1,bk:=D.nx} I L2) (hd:∀τ L,W ys.length τ L->D.nx τ L):
 uw L a λys keep L1=>tZ ys keep g tb D τ L1:=jb (jI h) λkeep j=>vk {W,J,λi τ L' w=>j L'<|U i τ L' w,hs,hd}
def aC{keep:qh->Prop}{n:Nat}{Q:YK}(I:Nat->_T->Prop)(hz:ys.length<sizeLine)(j:keep L)(l:I 0 [])
 (turn:∀(i:Nat) y zs,ys[i]?=some y->I i zs->g y (τ++List.replicate n none) L λJ L2=>tc J L2 λb L3=>wg b (te J L3 λz o=>jD (λzs L'=>L'=L/\I (i+1) zs) (zs++[z]) o)<|jD (λzs L'=>L'=L/\I (i+1) zs) zs L3)
 (r:∀zs,I ys.length zs->∀p,L p=none->Q (.ref p) (qg L p<|.lst zs)):f' ys keep n g tc te τ L Q:=by
 refine se {hz,λi zs L'=>L'=L/\I i zs,{(rfl),l},?_,?_,?_}
 .rintro i zs L' ⟨rfl,_⟩;exact j
 .rintro i y zs L' t ⟨rfl,U⟩;exact turn i y zs t U
 .rintro zs L' ⟨rfl,U⟩ p C;exact r zs U p C
def zG{n:Nat}{Q:YK}(I:Nat->_T->Prop)(hz:m<sizeLine)(j:I 0 [])
 (turn:∀(i:Nat) zs,i<m->I i zs->g (.int<|lo+i) (τ++List.replicate n none) L λJ L2=>tc J L2 λb L3=>wg b (te J L3 λz l=>jD (λzs L'=>L'=L/\I (i+1) zs) (zs++[z]) l)<|jD (λzs L'=>L'=L/\I (i+1) zs) zs L3)
 (o:∀zs,I m zs->∀p,L p=none->Q (.ref p) (qg L p<|.lst zs)):f' (ah lo m) (λ_=>True) n g tc te τ L Q:=by
 refine aC (keep:=λ_=>True) I (by rw[oN];exact hz) trivial j (λi y zs e U=>?_) λzs U=>o zs (by rw[oN] at U;exact U);obtain⟨r,rfl⟩:=JZ e;exact turn i zs r U
def jT(ys:_T)(n:Nat):gR ys (some ((n:Nat):Int)) none=ys.drop n:=by
 unfold gR;rw[SZ,_d];by_cases h:n<=ys.length
 .rw[BL h,AM (by rw[BH];simp +arith only)]
 .rw[Dj (by lia),C3<|Aj _,C3 (by lia),List.take_nil]
def TQ(ys:_T)(n:Nat):gR ys none (some ((n:Nat):Int))=ys.take n:=by
 unfold gR;rw[SZ,_d,C4,Ec];by_cases h:n<=ys.length
 .rw[BL h]
 .rw[Dj (by lia),AM<|Aj _,AM (by lia)]
def xp{ws:List α}{f:α->Y}{w:α}(h:ws[i]?=some w):fS (ws.map f) (i:Int)=some (f w):=jk (by rw[Al,h];rfl)
def J0{keep:qh->Prop}{n:Nat}{Q:YK}(f:Y->Option Y)(hz:ys.length<sizeLine)(j:keep L)
 (turn:∀(i:Nat) y (W:_T->qh->Prop) zs,ys[i]?=some y->W (zs++(f y).toList) L->g y (τ++List.replicate n none) L λI L2=>tc I L2 λb L3=>wg b (te I L3 λz l=>jD W (zs++[z]) l)<|jD W zs L3)
 (o:∀p,L p=none->Q (.ref p) (qg L p<|.lst<|ys.filterMap f)):f' ys keep n g tc te τ L Q:=by
 refine se {hz,λi zs J=>J=L/\zs=(ys.take i).filterMap f,{rfl,by simp},?_,?_,?_}
 .rintro i zs J ⟨rfl,_⟩;exact j
 .rintro i y zs J U ⟨rfl,rfl⟩;refine turn i y _ _ U {rfl,?_};rw[AW,U,List.filterMap_append];congr 1
 .rintro zs J ⟨rfl,rfl⟩ p r;rw[AZ];exact o p r
def j3(t:fe)(n:Nat)(ys:_T)(L:qh)(Q:YK):Prop:=t {nx:=λ_ L'=>dH Q .KF L',rt:=dH Q} (ys.map some++List.replicate (n-ys.length) none) L
abbrev _f(sp:_T->qh->YK->Prop)(t:fe)(n:Nat):Prop:=∀ys L Q,sp ys L Q->j3 t n ys L Q
def jd{Q:YK}(h:Q y L):dH Q y L:={L,EE L,h}
def aB{Q:YK}(s:qf L L')(h:Q y L):dH Q y L':={(L),s,h}
theorem Fn3.never{P:aam}{w:aan}{K:Af}{k:Nat}(no:∀ys L Q,¬sp ys L Q):Fn3 P w K mg base k f fd ps sp:=
 bE.never λJ H Q E ⟨ys,L,I,_,_,z,_⟩=>no ys L I z
def qf.upd{a:Addr}{o:LO}(s:qf L L')(h:L a=none):qf L (qg L' a o):=λb u e=>by rw[qb<|v4 e h];exact s b u e
def qf.put{a:Addr}{o:LO}(s:qf L L')(h:L' a=some o):qf (qg L a o) L':=λb u e=>by
 by_cases c:b=a
 .subst c;rw[q9] at e;cases e;exact h
 .rw[qb c] at e;exact s b u e
abbrev EZ:=@qf.put
theorem wT{G:G3}{H:Hp}:∀ns:aaf,jw G H (ns.map Y.int)<|ns.map V.int
 |[]=>rfl
 |_::r=>{_,_,rfl,rfl,wT r}
section
variable {σ:St}
def oT(I:z0 X pins σ H s)(U:∀b∈fp,H b=none)(k:∀b o,b∉fp->s.heap.get? b=some o->h'.get? b=some o):gG X.prog X.w H h':=λb u e=>by
 refine(I.KB b u e)._N (λc v g q=>k c v (λz=>?_) q) (λ_ q=>q) λ_ _ q=>q;have J:=U c z;rcases g with w|w
 .rw[w,e] at J;cases J
 .rw[w] at J;cases J
def TR{fs:List Addr}(k:∀b o,b∉fp->h.get? b=some o->h'.get? b=some o):Un fs fp H H h h':=
 ⟨λb o q _ _ x=>k b o x q,λb o q _ _ x=>{o.slots,k b o x q},λ_ _ _ n _=>n,λb o q x=>{o,k b o x q},λ_ _ q=>q,λ_ _ _ q=>q,λb I q=>{#[],by rw[q];simp}⟩
def z0.turnedL(I:z0 X pins σ H s)(k:∀b o,b∉fp->s.heap.get? b=some o->h'.get? b=some o)(U:∀b∈fp,qL X pins H b)(g:0<t':=by walk_at "t"):z0 X pins σ H {s with heap:=h',toks:=t'}:=
 I.call' (s':={s with heap:=h',toks:=t'}) (ch:=fp) rfl (TR k) (oT I (λb J=>(U b J).1) k) I.bare λb J=>{(U b J).2.2.2.1,(U b J).2.1,(U b J).2.2.2.2.1,(U b J).2.2.2.2.2}
def z0.turnedN{a:Addr}{o:HO}(I:z0 X pins σ H s)(k:∀b o,b∉fp->s.heap.get? b=some o->h'.get? b=some o)(U:∀b∈fp,qL X pins H b)(j:s.heap.objs.size<=a)
 (new:xl X.prog X.w (upd H a o) h' a o) (p:0<t':=by walk_at "t"):z0 X pins σ (upd H a o) {s with heap:=h',toks:=t'}:=by
 have g:H a=none:=I.KB.fresh j;have lt:∀b ob,s.heap.get? b=some ob->b≠a:=λb ob q=>A5<|AR (xT q) j;refine I.call' (s':={s with heap:=h',toks:=t'}) (ch:=fp) rfl ?_ ?_ I.bare λb J=>{(U b J).2.2.2.1,(U b J).2.1,(U b J).2.2.2.2.1,(U b J).2.2.2.2.2}
 .exact{λb ob q _ _ x=>k b ob x q,λb ob q _ _ x=>{ob.slots,k b ob x q},λb ob q n _=>by rw[qp<|lt b ob q];exact n,λb ob q x=>{ob,k b ob x q},
   λb l q=>by rw[qp<|zu q g];exact q,λb ob u q=>by rw[qp<|zu q g];exact q,λb r q=>{#[],by rw[qp<|zu q g,q];simp}}
 .intro b u e;by_cases J:b=a
  .subst J;rw[zm] at e;cases e;exact new
  .rw[qp J] at e;have ok:=oT I (h':=h') (λb J=>(U b J).1) k b u e;exact ok._N (λ_ _ _ q=>q) (λc q=>by rw[qp<|zu q g];exact q) λc l q=>by rw[qp<|zu q g];exact q
end
def Hj(K:Af)(a:Addr):It:=
 ⟨λi H=>∃xs x,aV K H a xs/\xs[i]?=some x,λi H v H'=>∃p x,H p=none/\v=.ref p/\H'=upd H p (.tup [.int i,x])/\∀xs,aV K H a xs->xs[i]?=some x,λi H=>∃xs,aV K H a xs/\xs.length<=i⟩
def TU{P:aam}{w:aan}{K:Af}(a e it:Addr)(l:e≠it):xX P w K (.Tuple ir x1 tp) (Hj K a) [e,it] e (λi h=>(∃old,IsEnum h e it i old)/\h.IsListIter it a i) where
 mem:=by simp
 obj:=λi h ⟨⟨old,J⟩,U⟩ b g=>by
  rcases Aq.mp g with rfl|g
  .exact{_,J,λv z=>by cases z}
  .cases Ak.mp g;obtain⟨o,T,hc,hd⟩:=U;exact{o,T,λv z=>by rw[hd] at z;cases z}
 keep:=λi h h' ⟨⟨old,J⟩,U⟩ k=>{{old,k e (by simp) _ J},U.at λo q=>k it (by simp) o q}
 item:=by
  intro X hP hw hK hc i r s σ H E I t ⟨⟨old,J⟩,U⟩ hg;subst hP hw hK;obtain⟨xs,x,C,hx⟩:=hg;obtain⟨a0,rv,p,hz⟩:=I.list C;obtain⟨u,hu,ru⟩:=rv.get hx;refine wpAny_pyNext_enum_item J U p.isList (x:=u) (by simpa using hu) l λh1 a1 a2 ht a5 hk=>{.ref s.heap.objs.size,rfl,wpAny_letOwnedTupleGo_enum a1 λh2 a3 j=>?_};have el:e<s.heap.objs.size:=xT J;have il:it<s.heap.objs.size:=by obtain⟨o,T,_⟩:=U;exact xT T
  have kk:∀b o,b∉[e,it]->s.heap.get? b=some o->h2.get? b=some o:=λb o nb q=>by have n1:b≠e:=λz=>nb (by simp[z]);have n2:b≠it:=λz=>nb (by simp[z]);exact j.extBut b o n1<|hk b o n1 n2 q
  have tg:h2.get? s.heap.objs.size=some {cls:=.type "tuple",data:=.seq #[.int i s.toks,u]}:=j.extBut _ _ (CM el) ht;refine{.ref s.heap.objs.size,upd H s.heap.objs.size<|.tup [.int i,x],?_,rfl,{_,x,I.KB.fresh<|Aj _,rfl,rfl,λys hy=>by rw[I._e hy C];exact hx},{{_,a3},a2.at λo q=>j.extBut _ _ (AL l) q},λb g=>?_}
  .exact I.turnedN (t':=s.toks+1) kk t (Aj _) {by show 2<=sizeLine;decide,[.int i s.toks,u],.cons {_,rfl}<|.cons ru .nil,{_,tg,rfl,_,rfl}}
  .have a4:b<s.heap.objs.size:=by rcases Aq.mp g with rfl|g;exact el;cases Ak.mp g;exact il
   rw[qp<|A5 a4];exact(t b g).1
 done:=by intro X hP hw hK hc i r s σ H E I t ⟨⟨old,J⟩,U⟩ hg;subst hP hw hK;obtain⟨xs,C,hx⟩:=hg;obtain⟨a0,rv,p,hz⟩:=I.list C;have hl:=rv.length;exact wpAny_pyNext_enum_end (I.ok.hd hc) J U p.isList (by simp;omega) λh1 eb=>{rfl,I.turnedL (t':=s.toks) (fp:=[e,it]) (λb o nb q=>eb b o (λz=>nb (by simp[z])) q) t}
 self:=λ_ _ _ _ _ ⟨⟨_,J⟩,_⟩ h=>wpAny_pyIter_enum J h
def TX(K:Af)(ta:TA):TI:=λσ H R=>ta σ H λvs H1=>∃a,vs=[.ref a]/\(∃xs,aV K H1 a xs)/\R (Hj K a) H1
def tE:bootBuiltins "enumerate"=some (.type "enumerate"):=by decide +kernel
def TY{a:Expr}{ta:TA}(hg:Gl X "enumerate")(hm:X.mg "enumerate"=none)(ha:PA X [a] ta)(hs:starEach [a] X.env=[(false,eval a X.env)]:=by rfl):
 PI X (.Tuple ir x1 tp) (.Call (.Name "enumerate" p) [a] [] pos) (TX X.K ta):=by
 intro J s r H R I h;refine Call_<|bH I hg hm tE<|BO (w9 (ha pos J s r H _ I h) λus U ⟨vs,t,j,r1,q1⟩=>?_) hs rfl;obtain⟨l,e,⟨xs,hq⟩,q⟩:=q1;subst e;obtain⟨u,rfl,ru⟩:=fB r1;cases ru;obtain⟨a0,rv,pl,hz⟩:=j.list hq;refine call_enumerate_list pl.isList λC T hi a1 hk=>?_;have I2:z0 X J r t {U with heap:=C}:=j.kept (t':=U.toks) hk;refine wpAny_pyIter_enum (s:={U with heap:=C}) T ?_;refine{U.heap.objs.size+1,[U.heap.objs.size+1,U.heap.objs.size],_,_,t,rfl,I2,TU l _ _<|Nat.succ_ne_self _,{{_,T},hi},λb o=>?_,q};have g:U.heap.objs.size<=b:=by rcases Aq.mp o with rfl|o;exact Cd _;cases Ak.mp o;exact Aj _
 exact j.fpOk g<|j.KB.fresh g
theorem lV{a:Addr}{keep:qh->Prop}(h:∀H L,zp H₀ H->zw G H L->keep L->∃xs,aV G.K H a xs/\jw G H ys xs):dw G H₀ (Hj G.K a) (ys.zipIdx.map λp=>Y.tup [.int (p.2:Nat),p.1]) keep where
 go:=λi H L t I J o=>by
  obtain⟨xs,sq,r⟩:=h H L t I J;have:i<xs.length:=by rw[<-r.length];simpa using o
  exact{xs,xs[i],sq,Ah this}
 yld:=λi H L x H' y t I J l ⟨p,z,U,C,T,f⟩=>by subst C T;obtain⟨xs,sq,r⟩:=h H L t I J;rw[Al,List.getElem?_zipIdx] at l;obtain⟨⟨y',j⟩,ey,e3⟩:=Ax.mp l;obtain⟨a0,g,e4⟩:=Ax.mp ey;cases e4;subst e3;obtain⟨x',e',rv⟩:=r.get g;have:=f xs sq;rw[e'] at this;cases this;refine{EG U,I.skip U,p,_,rfl,db.of zm,{_,_,rfl,?_,_,_,rfl,rv.ts<|EG U,rfl}};show V.int _=V.int _;congr 1;simp
 stop:=λH L t I J=>by obtain⟨xs,sq,r⟩:=h H L t I J;exact{xs,sq,by rw[Ac,List.length_zipIdx,r.length];exact Aj _}
def ni(ys:_T):_T:=ys.zipIdx.map λp=>Y.tup [.int (p.2:Nat),p.1]
def a7(h:(ni ys)[i]?=some y):∃z,ys[i]?=some z/\y=.tup [.int i,z]:=by unfold ni at h;rw[Al,List.getElem?_zipIdx] at h;obtain⟨⟨J,j⟩,U,g⟩:=Ax.mp h;obtain⟨l,I,o⟩:=Ax.mp U;cases o;exact{J,I,by rw[<-g];simp}
def we(ys:_T):(ni ys).length=ys.length:=by simp[ni]
def J1(tl:ji)(τ:j5)(L:qh)(R:_T->(qh->Prop)->qh->Prop):Prop:=tl τ L λx L1=>match x with
 |.ref a=>uw L1 a λys keep L=>R (ni ys) keep L
 |.sq ys=>R (ni ys) (λ_=>True) L1
 |_=>False
def bY{a:Expr}(hg:Gl X "enumerate")(hm:X.mg "enumerate"=none)(ha:QE X a te)(hs:starEach [a] X.env=[(false,eval a X.env)]:=by rfl)
 (j:starEach [a] X.env=(false,eval a X.env)::starEach [] X.env:=by rfl):QI X (.Tuple ir x1 tp) (.Call (.Name "enumerate" p) [a] [] pos) (J1 te):=PI._c (TY hg hm (fP ha pM j) hs) λσ H R τ L R3 rs l z k=>by
 refine{τ,L,_,rs,l,z,λv g y o T I U C=>?_};cases y with
 |ref a=>
  obtain⟨ys,keep,es,kp,hk,z2⟩:=wV C;have hy:∀H L,zp g H->zw X.g3 H L->keep L->∃J,aV X.K H a J/\jw X.g3 H ys J:=λH L _ l e=>cb l<|hk L e;obtain⟨J,sq,_⟩:=hy g o (EF _) I kp;cases U;exact{a,rfl,{(J),sq},k _ g _ _ o T I (lV hy) z2}
 |sq ys=>
  obtain⟨a,J,e,sf,r⟩:=U;subst e;exact{a,rfl,{(J),sf.sq},k _ g _ (λ_=>True) o T I (lV λH L t _ _=>{J,(sf.ts t).sq,r.ts t}) C}
 |_=>exact C.elim
def jC(t:Bool)(h:aao)(it l:Addr)(k:Nat):Prop:=match t with
 |false=>h.IsListIter it l k
 |true=>h.IsTupleIter it l k
def rH(t:Bool)(h:aao)(l:Addr)(xs:aaa):Prop:=match t with
 |false=>h.IsList l xs
 |true=>h.IsTuple l xs
def jC.on{k:Nat}(x:jC t h it l k)(e:∀o,h.get? it=some o->h'.get? it=some o):jC t h' it l k:=by cases t with|false=>exact Heap.IsListIter.at x e|true=>exact Heap.IsTupleIter.at x e
def rH.on{xs:aaa}(x:rH t h l xs)(e:∀o,h.get? l=some o->h'.get? l=some o):rH t h' l xs:=by cases t with|false=>exact Heap.IsList.at x e|true=>exact Heap.IsTuple.at x e
def jC.ob{k:Nat}(x:jC t h it l k):∃o,h.get? it=some o/\∀v,o.data≠.cell v:=by
 cases t with
 |false=>obtain⟨o,e,c,d⟩:=x;exact{o,e,λv z=>by rw[d] at z;cases z}
 |true=>obtain⟨o,e,c,d⟩:=x;exact{o,e,λv z=>by rw[d] at z;cases z}
def J2(l:Addr):¬((Value.ref l==Value.none)=true):=AN
section
variable {w:aan}
def yy{xs:aaa}{x:aak}(hi:s.heap.IsTupleIter it l i)(U:s.heap.IsTuple l xs)(g:xs[i]?=some x)
 (q:∀h',h'.IsTupleIter it l (i+1)->Heap.SameBut it s.heap h'->Q x {s with heap:=h'}):wpAny (model prog w) A (Builtin.SmallTypes.nextOf<|.ref it) Q E s:=by
 obtain⟨o,J,ci,I⟩:=id hi;obtain⟨u,ul,_,n,dl⟩:=U;unfold Builtin.SmallTypes.nextOf;refine Aa<|wpAny_callSpecial?_slot (name:="__next__") hi.typeIs Db<|wpAny_call_entry Db hi.typeIs F.entry_tuple_iterator_next ?_<|F.args_tuple_iterator_next_1 _;refine Aa (m:=field (.ref it) 0)<|Bk J I (x:=.ref l) rfl ?_;rw[Az<|J2 l];refine Aa (m:=field (.ref it) 1)<|Bk J I (x:=.int i 0) rfl<|Aa (m:=seqItems?<|.ref l)<|Bx ul dl ?_;simp only[BF,g];refine Aa<|wpAny_setField J I (by simp)<|Am {x,rfl,Am<|q _ {_,Ex _ J<|Obj.isFreed_of_fields<|Obj.data_mapFields I _,(Obj.cls_mapFields ..).trans ci,?_}<|As ..};rw[Obj.data_mapFields I];simp[rawInt]
def TZ{xs:aaa}(U:A.handled=none)(hi:s.heap.IsTupleIter it l i)(g:s.heap.IsTuple l xs)(j:xs[i]?=none)
 (q:∀h' e,Heap.ExtBut it s.heap h'->(∃o,h'.get? e=some o/\o.cls=.type "StopIteration")->E (.ref e) {s with heap:=h'}):wpAny (model prog w) A (Builtin.SmallTypes.nextOf<|.ref it) Q E s:=by
 obtain⟨o,I,ci,J⟩:=id hi;obtain⟨u,ul,_,n,dl⟩:=g;unfold Builtin.SmallTypes.nextOf;refine Aa<|wpAny_callSpecial?_slot (name:="__next__") hi.typeIs Db<|wpAny_call_entry Db hi.typeIs F.entry_tuple_iterator_next ?_<|F.args_tuple_iterator_next_1 _;refine Aa (m:=field (.ref it) 0)<|Bk I J (x:=.ref l) rfl ?_;rw[Az<|J2 l];refine Aa (m:=field (.ref it) 1)<|Bk I J (x:=.int i 0) rfl<|Aa (m:=seqItems?<|.ref l)<|Bx ul dl ?_;simp only[BF,j];refine Aa<|BB<|Aa<|wpAny_setField I J (by simp) ?_;refine Aa (m:=newExc (.type "StopIteration") []) ?_;simp only[newExc,newTuple];refine Aa (Bt (Aa (m:=firstArgMember _ _) (wpAny_of_eq (a:=Value.none) (by first|rfl|(simp only[firstArgMember];rfl))<|Bt ?_ (by size_fits))) (by size_fits));simp only[raiseNew];refine Aa<|wpAny_handled ?_
 first|rw[show A.in1.handled=none from U]|rw[U]
 exact Aa<|Am<|wpAny_throw<|q _ _ (((As ..).extBut.push _).push _) {_,ya _ rfl,rfl}
def jC.next{xs:aaa}{x:aak}(hi:jC t s.heap it l i)(I:rH t s.heap l xs)(J:xs[i]?=some x)
 (q:∀h',jC t h' it l (i+1)->Heap.SameBut it s.heap h'->Q x {s with heap:=h'}):wpAny (model prog w) A (Builtin.SmallTypes.nextOf<|.ref it) Q E s:=by
 cases t with|false=>exact wpAny_nextOf_list_item hi I J q|true=>exact yy hi I J q
def jC.stop{xs:aaa}(I:A.handled=none)(hi:jC t s.heap it l i)(J:rH t s.heap l xs)(U:xs[i]?=none)
 (q:∀h' e,Heap.ExtBut it s.heap h'->(∃o,h'.get? e=some o/\o.cls=.type "StopIteration")->E (.ref e) {s with heap:=h'}):wpAny (model prog w) A (Builtin.SmallTypes.nextOf<|.ref it) Q E s:=by
 cases t with|false=>exact wpAny_nextOf_list_end I hi J U q|true=>exact TZ I hi J U q
structure Hk(z TI TO i1 i2 l1 l2:Addr):Prop where
 n1:TI≠z
 n2:TO≠z
 n3:i1≠z
 n4:i2≠z
 n5:TO≠i1
 n6:TO≠i2
 n7:i1≠i2
 n8:l1≠z
 n9:l1≠TO
 n10:l1≠i1
 n11:l1≠i2
 n12:l2≠z
 n13:l2≠TO
 n14:l2≠i1
 n15:l2≠i2
def T0{z TI TO:Addr}{k:Nat}{xs ys:aaa}{x y a b:aak}(D:Hk z TI TO i1 i2 l1 l2)(hz:IsZip s.heap z TI TO .none)(hI:IsPair s.heap TI (.ref i1)<|.ref i2)(hO:IsPair s.heap TO a b)
 (h1:jC t1 s.heap i1 l1 k) (h2:jC t2 s.heap i2 l2 k) (q1:rH t1 s.heap l1 xs) (q2:rH t2 s.heap l2 ys) (hx:xs[k]?=some x) (hy:ys[k]?=some y)
 (q:∀h',IsZip h' z TI TO (rawInt s.heap.objs.size)->IsPair h' TO x y->jC t1 h' i1 l1 (k+1)->jC t2 h' i2 l2 (k+1)->IsPair h' s.heap.objs.size x y->
  (∀c o,c≠z->c≠TO->c≠i1->c≠i2->s.heap.get? c=some o->h'.get? c=some o)->Q (.ref s.heap.objs.size) {s with heap:=h'}):
 wpAny (model prog w) A (Builtin.«zip.__next__» ⟨[.ref z],[]⟩) (λjd s'=>∃v,jd=.done (.ret v)/\Q v s') E s:=by
 refine Aa (m:=field (.ref z) 2)<|Bk hz rfl (x:=.bool false) rfl<|Aa (m:=field (.ref z) 3)<|Bk hz rfl (x:=.ref TI) rfl<|Aa<|Bx hI rfl ?_;refine Aa (m:=Builtin.SmallTypes.ownedTupleIsFree<|.ref z) ?_;unfold Builtin.SmallTypes.ownedTupleIsFree;refine Aa<|Bk hz rfl (x:=.none) rfl<|Am ?_;simp only[if_true];refine Aa<|BB<|Aa<|Bk hz rfl (x:=.ref TO) rfl<|Aa<|wpAny_setField_rec hz (by simp) λg1 z1 J=>?_;have a0:IsZip g1 z TI TO .ellipsis:=z1;refine Aa ?_;simp only[DV,List.zipIdx_nil,Cj,Em];refine Aa<|Aa<|wpAny_onRaise<|Aa (m:=Builtin.SmallTypes.nextOf<|.ref i1)<|(h1.on λo e=>J.extBut _ _ D.n3 e).next (q1.on λo e=>J.extBut _ _ D.n8 e) hx λg2 a5 g=>Am ?_;have O2:IsPair g2 TO a b:=g.extBut _ _ D.n5<|J.extBut _ _ D.n2 hO;refine Aa<|Bx O2 rfl<|Aa<|wpAny_updateSeq_pair O2 λg3 O3 j=>Aa<|wpAny_letGo<|Am ?_;have ab:IsPair g3 TO x b:=O3;refine Aa (Aa (wpAny_onRaise (Aa (m:=Builtin.SmallTypes.nextOf<|.ref i2) (jC.next (l:=l2) (i:=k) (xs:=ys) (x:=y) (t:=t2) (h2.on λo e=>j.extBut _ _ (AL D.n6)<|g.extBut _ _ (AL D.n7)<|J.extBut _ _ D.n4 e)
  (q2.on λo e=>j.extBut _ _ D.n13<|g.extBut _ _ D.n14<|J.extBut _ _ D.n12 e) hy λg4 ac p=>Am ?_))))
 have O4:IsPair g4 TO x b:=p.extBut _ _ D.n6 ab;refine Aa<|Bx O4 rfl<|Aa<|wpAny_updateSeq_pair O4 λI O5 r=>Aa<|wpAny_letGo<|Am<|Am ?_;have C:IsPair I TO x y:=O5;refine Aa<|Bx C rfl<|Aa<|wpAny_newTuple ?_;have sz:I.objs.size=s.heap.objs.size:=by rw[r.1,p.1,j.1,g.1,J.1]
 have z5:IsZip I z TI TO .ellipsis:=r.extBut _ _ (AL D.n2)<|p.extBut _ _ (AL D.n4)<|j.extBut _ _ (AL D.n2)<|g.extBut _ _ (AL D.n3) a0;have k5:∀c o,c≠z->c≠TO->c≠i1->c≠i2->s.heap.get? c=some o->I.get? c=some o:=λc o U T a3 a4 e=>r.extBut _ _ T<|p.extBut _ _ a4<|j.extBut _ _ T<|g.extBut _ _ a3<|J.extBut _ _ U e;have zl:z<I.objs.size:=xT z5;refine Aa (m:=Builtin.SmallTypes.ownedTupleHandOut (.ref z)<|.ref I.objs.size) ?_;unfold Builtin.SmallTypes.ownedTupleHandOut;refine Aa<|wpAny_setField_rec (show IsZip (I.push {cls:=.type "tuple",data:=.seq #[x,y]}) z TI TO .ellipsis from wl _ z5) (by simp) λg7 z7 e7=>?_;have ag:IsZip g7 z TI TO (rawInt I.objs.size):=z7;refine wpAny_setField_rec ag (by simp) λg8 z8 e8=>Am {_,rfl,?_};have al:IsZip g8 z TI TO (rawInt I.objs.size):=z8;have up:∀c o,c≠z->I.get? c=some o->g8.get? c=some o:=λc o U e=>e8.extBut _ _ U<|e7.extBut _ _ U<|wl _ e;have T8:IsPair g8 I.objs.size x y:=e8.extBut _ _ (CM zl)<|e7.extBut _ _ (CM zl)<|ya _ rfl;have jd:=q g8 (by rw[<-sz];exact al) (up _ _ D.n2 C) (a5.on λo e=>up _ o D.n3<|r.extBut _ _ (AL D.n5)<|p.extBut _ _ D.n7<|j.extBut _ _ (AL D.n5) e) (ac.on λo e=>up _ o D.n4<|r.extBut _ _ (AL D.n6) e)
  (by rw[<-sz];exact T8) λc o U T a3 a4 e=>up c o U<|k5 c o U T a3 a4 e
 show Q (.ref I.objs.size) _;rw[sz];exact jd
def T3{z TI TO:Addr}{k:Nat}{xs ys:aaa}{a b:aak}{Q:Fin->aal->Prop}(hh:A.handled=none)(D:Hk z TI TO i1 i2 l1 l2)(hz:IsZip s.heap z TI TO .none)(hI:IsPair s.heap TI (.ref i1)<|.ref i2)(hO:IsPair s.heap TO a b)
 (h1:jC t1 s.heap i1 l1 k) (h2:jC t2 s.heap i2 l2 k) (q1:rH t1 s.heap l1 xs) (q2:rH t2 s.heap l2 ys) (J:xs[k]?=none\/ys[k]?=none)
 (q:∀h' e,(∀c o,c≠z->c≠TO->c≠i1->c≠i2->s.heap.get? c=some o->h'.get? c=some o)->(∃o,h'.get? e=some o/\o.cls=.type "StopIteration")->E (.ref e) {s with heap:=h'}):
 wpAny (model prog w) A (Builtin.«zip.__next__» ⟨[.ref z],[]⟩) Q E s:=by
 refine Aa (m:=field (.ref z) 2)<|Bk hz rfl (x:=.bool false) rfl<|Aa (m:=field (.ref z) 3)<|Bk hz rfl (x:=.ref TI) rfl<|Aa<|Bx hI rfl ?_;refine Aa (m:=Builtin.SmallTypes.ownedTupleIsFree<|.ref z) ?_;unfold Builtin.SmallTypes.ownedTupleIsFree;refine Aa<|Bk hz rfl (x:=.none) rfl<|Am ?_;simp only[if_true];refine Aa<|BB<|Aa<|Bk hz rfl (x:=.ref TO) rfl<|Aa<|wpAny_setField_rec hz (by simp) λg1 z1 I=>?_;have U:IsZip g1 z TI TO .ellipsis:=z1;refine Aa ?_;simp only[DV,List.zipIdx_nil,Cj,Em];refine Aa<|Aa<|wpAny_onRaise<|Aa (m:=Builtin.SmallTypes.nextOf<|.ref i1) ?_;have g:=h1.on λo e=>I.extBut _ _ D.n3 e;have j:=q1.on λo e=>I.extBut _ _ D.n8 e;cases T:xs[k]? with
 |none=>
  refine jC.stop hh g j T λg2 e s2 he=>?_;obtain⟨oe,ge,ce⟩:=he;have z2:IsZip g2 z TI TO .ellipsis:=s2 _ _ (AL D.n3) U;have nz:e≠z:=λw=>by subst w;rw[z2] at ge;cases ge;simp at ce
  exact wpAny_setField_rec z2 (by simp) λg3 _ s3=>q g3 e (λc o p _ a3 _ w=>s3.extBut _ _ p<|s2 _ _ a3<|I.extBut _ _ p w) {oe,s3.extBut _ _ nz ge,ce}
 |some x=>
  have hy:ys[k]?=none:=by rcases J with h|h;rw[T] at h;cases h;exact h
  refine jC.next g j T λg2 a0 r=>Am ?_;have O2:IsPair g2 TO a b:=r.extBut _ _ D.n5<|I.extBut _ _ D.n2 hO;refine Aa<|Bx O2 rfl<|Aa<|wpAny_updateSeq_pair O2 λg3 O3 C=>Aa<|wpAny_letGo<|Am ?_;refine Aa (Aa (wpAny_onRaise (Aa (m:=Builtin.SmallTypes.nextOf<|.ref i2) (jC.stop (t:=t2) (l:=l2) (i:=k) (xs:=ys) hh (h2.on λo e=>C.extBut _ _ (AL D.n6)<|r.extBut _ _ (AL D.n7)<|I.extBut _ _ D.n4 e)
   (q2.on λo e=>C.extBut _ _ D.n13<|r.extBut _ _ D.n14<|I.extBut _ _ D.n12 e) hy λg4 e s4 he=>?_))))
  obtain⟨oe,ge,ce⟩:=he;have z4:IsZip g4 z TI TO .ellipsis:=s4 _ _ (AL D.n4)<|C.extBut _ _ (AL D.n2)<|r.extBut _ _ (AL D.n3) U;have nz:e≠z:=λw=>by subst w;rw[z4] at ge;cases ge;simp at ce
  exact wpAny_setField_rec z4 (by simp) λg5 _ s5=>q g5 e (λc o p a2 a3 a4 w=>s5.extBut _ _ p<|s4 _ _ a4<|C.extBut _ _ a2<|r.extBut _ _ a3<|I.extBut _ _ p w) {oe,s5.extBut _ _ nz ge,ce}
end
def FJ(t:Bool):aap:=if t then "tuple_iterator" else "list_iterator"
section
variable {w:aan}
def rH.iter{xs:aaa}(I:rH t s.heap l xs)(q:Q (.ref s.heap.objs.size) {s with heap:=s.heap.push {cls:=.type<|FJ t,data:=.fields #[.ref l,.int 0 0]}}):wpAny (model prog w) A (pyIter<|.ref l) Q E s:=by cases t with|false=>exact wpAny_pyIter_list I q|true=>exact wpAny_pyIter_tuple I q
end
def jC.new(e:h.get? it=some {cls:=.type<|FJ t,data:=.fields #[.ref l,.int 0 0]}):jC t h it l 0:=by cases t with|false=>exact{_,e,rfl,rfl}|true=>exact{_,e,rfl,rfl}
abbrev Ge(t1:Bool)(h:aao)(l1:Addr):aao:=h.push {cls:=.type<|FJ t1,data:=.fields #[.ref l1,.int 0 0]}
abbrev Gf(t1 t2:Bool)(h:aao)(l1 l2:Addr):aao:=(Ge t1 h l1).push {cls:=.type<|FJ t2,data:=.fields #[.ref l2,.int 0 0]}
abbrev Gg(t1 t2:Bool)(h:aao)(l1 l2:Addr):aao:=(Gf t1 t2 h l1 l2).push {cls:=.type "tuple",data:=.seq #[.ref h.objs.size,.ref (Ge t1 h l1).objs.size]}
abbrev Gh(t1 t2:Bool)(h:aao)(l1 l2:Addr):aao:=(Gg t1 t2 h l1 l2).push {cls:=.type "tuple",data:=.seq #[.none,.none]}
abbrev Fj(t1 t2:Bool)(h:aao)(l1 l2:Addr):aao:=(Gh t1 t2 h l1 l2).push {cls:=.type "zip",data:=.fields #[.none,.bool false,.bool false,.ref (Gf t1 t2 h l1 l2).objs.size,.ref (Gg t1 t2 h l1 l2).objs.size]}
def yT(t1 t2:Bool)(l1 l2:Addr)(xs ys:aaa):Meets (Builtin.«zip.__new__» ⟨[.type "zip",.ref l1,.ref l2],[]⟩) (λ_ R s=>rH t1 s.heap l1 xs/\rH t2 s.heap l2 ys/\R (.ok<|.ret<|.ref (Gh t1 t2 s.heap l1 l2).objs.size) {s with heap:=Fj t1 t2 s.heap l1 l2}):=
 .of_wp λI w A R s h=>by
  obtain⟨J,g,d,U,os⟩:=s;obtain⟨l,p,h⟩:=h;have j:=sub_zip;have r:rH t1 (Shared.heap ⟨J,g,d,U,os⟩) l1 xs:=l;have t:rH t2 (Shared.heap ⟨J.push {cls:=.type<|FJ t1,data:=.fields #[.ref l1,.int 0 0]},g,d,U,os⟩) l2 ys:=p.on λo e=>wl _ e
  wp_walk using rH.iter r,rH.iter t
  exact{_,rfl,h}
def T4{w:aan}{xs ys:aaa}(p:rH t1 s.heap l1 xs)(r:rH t2 s.heap l2 ys)
 (q:∀h',IsZip h' (s.heap.objs.size+4) (s.heap.objs.size+2) (s.heap.objs.size+3) .none->IsPair h' (s.heap.objs.size+2) (.ref s.heap.objs.size) (.ref<|s.heap.objs.size+1)->IsPair h' (s.heap.objs.size+3) .none .none->
  jC t1 h' s.heap.objs.size l1 0->jC t2 h' (s.heap.objs.size+1) l2 0->(∀c o,s.heap.get? c=some o->h'.get? c=some o)->Q (.ref<|s.heap.objs.size+4) {s with heap:=h'}):
 wpAny (model prog w) A (call (.type "zip") [.ref l1,.ref l2]) Q E s:=by
 refine callType_new F.called_zip (by decide) (F.typeCall_zip_2 _ _) (F.newCall_zip_2 _ _) (λobj=>F.args_object_init_3 obj _ _) F.entry_zip_new (yT t1 t2 l1 l2 xs ys) {p,r,?_};have I:(Ge t1 s.heap l1).objs.size=s.heap.objs.size+1:=Ew ..;have J:(Gf t1 t2 s.heap l1 l2).objs.size=s.heap.objs.size+2:=by rw[Ew,I]
 have U:(Gg t1 t2 s.heap l1 l2).objs.size=s.heap.objs.size+3:=by rw[Ew,J]
 have j:(Gh t1 t2 s.heap l1 l2).objs.size=s.heap.objs.size+4:=by rw[Ew,U]
 have g:(Fj t1 t2 s.heap l1 l2).get? (Gh t1 t2 s.heap l1 l2).objs.size=some _:=ya _ rfl;have l:(Fj t1 t2 s.heap l1 l2).get? (Gg t1 t2 s.heap l1 l2).objs.size=some _:=wl _<|ya _ rfl;have g3:(Fj t1 t2 s.heap l1 l2).get? (Gf t1 t2 s.heap l1 l2).objs.size=some _:=wl _<|wl _<|ya _ rfl;have g2:(Fj t1 t2 s.heap l1 l2).get? (Ge t1 s.heap l1).objs.size=some _:=wl _<|wl _<|wl _<|ya _ rfl;have g1:(Fj t1 t2 s.heap l1 l2).get? s.heap.objs.size=some _:=wl _<|wl _<|wl _<|wl _<|ya _ rfl;show _/\_;rw[J,U,j] at g;rw[I,J] at g3;rw[U] at l;rw[I] at g2;rw[j];exact{{_,g,rfl},q _ g g3 l (jC.new g1) (jC.new g2) λc o e=>wl _<|wl _<|wl _<|wl _<|wl _ e}
def Sq(t:Bool)(K:Af)(H:Hp)(a:Addr)(xs:GT):Prop:=match t with
 |false=>aV K H a xs
 |true=>db K H a xs
section
variable {σ:St}
def z0.seq{a:Addr}(I:z0 X pins σ H s)(h:Sq t X.K H a xs):∃eA:Z_,ze xs eA/\rH t s.heap a eA.toArray/\xs.length<=sizeLine:=by
 cases t with
 |false=>obtain⟨eA,v,p,z⟩:=I.list h;exact{(eA),v,p.isList,z}
 |true=>obtain⟨eA,v,p,z⟩:=I.tuple h;exact{(eA),v,p,z}
def z0.seq_inj{a:Addr}{ys:GT}(I:z0 X pins σ H s)(h:Sq t X.K H a xs)(h':Sq t X.K H a ys):xs=ys:=by cases t with|false=>exact I._e h h'|true=>exact I._l h h'
end
def Hl(t1 t2:Bool)(K:Af)(a b:Addr):It:=
 ⟨λi H=>∃xs ys x y,Sq t1 K H a xs/\Sq t2 K H b ys/\xs[i]?=some x/\ys[i]?=some y,
  λi H v H'=>∃p x y,H p=none/\v=.ref p/\H'=upd H p (.tup [x,y])/\(∀xs,Sq t1 K H a xs->xs[i]?=some x)/\∀ys,Sq t2 K H b ys->ys[i]?=some y,
  λi H=>∃xs ys,Sq t1 K H a xs/\Sq t2 K H b ys/\(xs.length<=i\/ys.length<=i)⟩
def T5{P:aam}{w:aan}{K:Af}(a b z TI TO i1 i2:Addr)(D:Hk z TI TO i1 i2 a b)(d1:TI≠TO)(d2:TI≠i1)(d3:TI≠i2):
 xX P w K (.Tuple ir x1 tp) (Hl t1 t2 K a b) [z,TI,TO,i1,i2] z (λi h=>IsZip h z TI TO .none/\IsPair h TI (.ref i1) (.ref i2)/\(∃u v,IsPair h TO u v)/\jC t1 h i1 a i/\jC t2 h i2 b i) where
 mem:=by simp
 obj:=λi h ⟨U,l,⟨u,v,p⟩,r,t⟩ c j=>by
  simp only[Aq,BC,or_false] at j;rcases j with rfl|rfl|rfl|rfl|rfl
  .exact{_,U,λv z=>by cases z}
  .exact{_,l,λv z=>by cases z}
  .exact{_,p,λv z=>by cases z}
  .exact r.ob
  .exact t.ob
 keep:=λi h h' ⟨U,l,⟨u,v,p⟩,r,t⟩ k=>{k z (by simp) _ U,k TI (by simp) _ l,{u,v,k TO (by simp) _ p},r.on λo q=>k i1 (by simp) o q,t.on λo q=>k i2 (by simp) o q}
 item:=by
  intro X hP hw hK j i a1 s σ H E I hf ⟨U,l,⟨u,v,p⟩,r,t⟩ hg;subst hP hw hK;obtain⟨xs,ys,x,y,q1,q2,hx,hy⟩:=hg;obtain⟨a2,C,p1,_⟩:=I.seq q1;obtain⟨a3,a0,p2,_⟩:=I.seq q2;obtain⟨ux,a4,a5⟩:=C.get hx;obtain⟨uy,ab,ac⟩:=a0.get hy;have hT:s.TypeIs (.ref z) "zip" := {_,U,rfl};unfold pyNext;refine Aa (wpAny_attempt (wpAny_callSpecial?_slot (name:="__next__") hT EC (wpAny_call_entry EC hT F.entry_zip_next
   (T0 D U l p r t p1 p2 (x:=ux) (y:=uy) (by simpa using a4) (by simpa using ab) λg1 gz gO ag al gT gk=>Am {.ref s.heap.objs.size,rfl,wpAny_letOwnedTupleGo_zip gz λg2 au J=>?_}) (F.args_zip_next_1 _))))
  have lz:z<s.heap.objs.size:=xT U;have av:∀c∈[z,TI,TO,i1,i2],c<s.heap.objs.size:=λc j=>by
   simp only[Aq,BC,or_false] at j;rcases j with rfl|rfl|rfl|rfl|rfl
   .exact lz
   .exact xT l
   .exact xT p
   .obtain⟨o,e,_⟩:=r.ob;exact xT e
   .obtain⟨o,e,_⟩:=t.ob;exact xT e
  have kk:∀c o,c∉[z,TI,TO,i1,i2]->s.heap.get? c=some o->g2.get? c=some o:=λc o g q=>by simp only[Aq,BC,or_false,not_or] at g;exact J.extBut c o g.1<|gk c o g.1 g.2.2.1 g.2.2.2.1 g.2.2.2.2 q
  have tg:g2.get? s.heap.objs.size=some {cls:=.type "tuple",data:=.seq #[ux,uy]}:=J.extBut _ _ (CM lz) gT;refine{.ref s.heap.objs.size,upd H s.heap.objs.size<|.tup [x,y],?_,rfl,{_,x,y,I.KB.fresh<|Aj _,rfl,rfl,λzs hq=>by rw[I.seq_inj hq q1];exact hx,λzs hq=>by rw[I.seq_inj hq q2];exact hy},?_,λc j=>?_}
  .exact I.turnedN (t':=s.toks) kk hf (Aj _) {by show 2<=sizeLine;decide,[ux,uy],.cons a5<|.cons ac .nil,{_,tg,rfl,_,rfl}}
  .exact{au,J.extBut _ _ D.n1<|gk _ _ D.n1 d1 d2 d3 l,{_,_,J.extBut _ _ D.n2 gO},ag.on λo q=>J.extBut _ _ D.n3 q,al.on λo q=>J.extBut _ _ D.n4 q}
  .rw[qp<|A5<|av c j];exact(hf c j).1
 done:=by
  intro X hP hw hK j i a1 s σ H E I hf ⟨U,l,⟨u,v,p⟩,r,t⟩ hg;subst hP hw hK;obtain⟨xs,ys,q1,q2,hl⟩:=hg;obtain⟨a2,C,p1,_⟩:=I.seq q1;obtain⟨a3,a0,p2,_⟩:=I.seq q2;have l1:=C.length;have l2:=a0.length;have hT:s.TypeIs (.ref z) "zip" := {_,U,rfl};unfold pyNext;refine Aa (wpAny_attempt (wpAny_callSpecial?_slot (name:="__next__") hT EC (wpAny_call_entry EC hT F.entry_zip_next
   (T3 (I.ok.hd j) D U l p r t p1 p2 (by rcases hl with h|h;exact .inl (by simp;lia);exact .inr (by simp;lia)) λg1 e gk he=>?_) (F.args_zip_next_1 _))))
  obtain⟨o,ho,aL⟩:=he;refine Aa<|wpAny_isInstance (T:="StopIteration") (b:=true) {(o),ho,aL} isSubtype_stop<|Am {rfl,?_};exact I.turnedL (t':=s.toks) (fp:=[z,TI,TO,i1,i2]) (λc o g q=>by simp only[Aq,BC,or_false,not_or] at g;exact gk c o g.1 g.2.2.1 g.2.2.2.1 g.2.2.2.2 q) hf
 self:=λ_ _ _ _ _ ⟨U,_⟩ h=>wpAny_pyIter_zip U h
def T6(K:Af)(ta:TA):TI:=λσ H R=>ta σ H λvs H1=>∃t1 t2 a b,vs=[.ref a,.ref b]/\(∃xs,Sq t1 K H1 a xs)/\(∃xs,Sq t2 K H1 b xs)/\R (Hl t1 t2 K a b) H1
def T7:bootBuiltins "zip"=some (.type "zip"):=by decide +kernel
def T9{a b:Expr}{ta:TA}(hg:Gl X "zip")(hm:X.mg "zip"=none)(ha:PA X [a,b] ta)(hs:starEach [a,b] X.env=[(false,eval a X.env),(false,eval b X.env)]:=by rfl)
 (g:starEach [b] X.env=[(false,eval b X.env)]:=by rfl):PI X (.Tuple ir x1 tp) (.Call (.Name "zip" p) [a,b] [] pos) (T6 X.K ta):=by
 intro U s σ H R I h;refine Call_ (bH I hg hm T7 (BO (w9 (ha pos U s σ H _ I h) λus J ⟨vs,H1,j,r1,q1⟩=>?_) (by rw[hs,g]) (by rw[g];rfl)));obtain⟨t1,t2,r,t,e,⟨xs,hx⟩,⟨ys,hy⟩,q⟩:=q1;subst e;obtain⟨u1,u2,rfl,C,T⟩:=ze.two r1;cases C;cases T;obtain⟨a5,_,p1,_⟩:=j.seq hx;obtain⟨ab,_,p2,_⟩:=j.seq hy;have Fl:r<J.heap.objs.size:=by
  cases t1 with
  |false=>obtain⟨o,e,_⟩:=p1;exact xT e
  |true=>obtain⟨o,e,_⟩:=p1;exact xT e
 have a0:t<J.heap.objs.size:=by
  cases t2 with
  |false=>obtain⟨o,e,_⟩:=p2;exact xT e
  |true=>obtain⟨o,e,_⟩:=p2;exact xT e
 refine T4 p1 p2 λg1 gz gI gO a1 a2 gk=>?_;have I2:z0 X U σ H1 {J with heap:=g1}:=j.kept (t':=J.toks) gk;refine wpAny_pyIter_zip (s:={J with heap:=g1}) gz ?_;refine{_,[_,J.heap.objs.size+2,J.heap.objs.size+3,J.heap.objs.size,J.heap.objs.size+1],_,_,H1,rfl,I2,T5 r t _ _ _ _ _ ?_ (xJ (by lia)) (xJ (by lia))<|xJ (by lia),{gz,gI,{_,_,gO},a1,a2},λc hc=>?_,q}
 .have a3:@LT.lt Nat instLTNat r J.heap.objs.size:=Fl;have a4:@LT.lt Nat instLTNat t J.heap.objs.size:=a0;constructor<;>exact xJ (by lia)
 .have l:J.heap.objs.size<=c:=by simp only[Aq,BC,or_false] at hc;rcases hc with rfl|rfl|rfl|rfl|rfl<;>exact D' (by simp +arith only)
  exact j.fpOk l<|j.KB.fresh l
def uX(I:qh):Y->qh->Prop
 |.ref a,L=>L a=I a
 |_,_=>True
theorem lw(L:qh):∀y:Y,uX L y L
 |.ref _=>rfl
 |.KF=>trivial
 |.bl _=>trivial
 |.int _=>trivial
 |.str _=>trivial
 |.ty _=>trivial
 |.cd _=>trivial
 |.tup _=>trivial
 |.sq _=>trivial
def J3{H1:Hp}(r:RV G H1 y v)(h:bK L1 y=some ys):∃t p,v=.ref p/\∀H L,zp H1 H->zw G H L->uX L1 y L->∃xs,Sq t G.K H p xs/\jw G H ys xs:=by
 cases y with
 |tup I=>
  obtain⟨a,xs,e,s,q⟩:=r;cases h;exact{true,a,e,λH L t _ _=>{xs,db.ts s t,q.ts t}}
 |sq I=>
  obtain⟨a,xs,e,s,q⟩:=r;cases h;exact{false,a,e,λH L t _ _=>{xs,(s.ts t).sq,q.ts t}}
 |ref a=>
  have e:=jI h;exact{false,a,r,λH L _ J U=>let ⟨xs,g,q⟩:=J a _<|U.trans e;⟨xs,Eo g,q⟩}
 |_=>cases h
def ym(xs ys:_T):_T:=List.zipWith (λa b=>Y.tup [a,b]) xs ys
def zX{xs:_T}(h:(ym xs ys)[i]?=some y):∃a b,xs[i]?=some a/\ys[i]?=some b/\y=.tup [a,b]:=by
 unfold ym at h;rw[List.getElem?_zipWith] at h;cases I:xs[i]? with
 |none=>rw[I] at h;simp at h
 |some a=>
  cases J:ys[i]? with|none=>rw[I,J] at h;simp at h|some b=>rw[I,J] at h;simp at h;exact{(a),b,rfl,rfl,h.symm}
def oA(xs ys:_T):(ym xs ys).length=min xs.length ys.length:=by simp[ym]
def yX{a b:Addr}{xs:_T}{keep:qh->Prop}(h1:∀H L,zp H₀ H->zw G H L->keep L->∃us,Sq t1 G.K H a us/\jw G H xs us)(h2:∀H L,zp H₀ H->zw G H L->keep L->∃us,Sq t2 G.K H b us/\jw G H ys us):
 dw G H₀ (Hl t1 t2 G.K a b) (ym xs ys) keep where
 go:=λi H L t I J hi=>by obtain⟨us,g,j⟩:=h1 H L t I J;obtain⟨U,l,o⟩:=h2 H L t I J;rw[oA] at hi;have l1:=j.length;have l2:=o.length;exact{us,U,us[i]'(by lia),U[i]'(by lia),g,l,Ah _,Ah _}
 yld:=λi H L x H' y t I J hy ⟨p,u,v,r,e1,e2,f1,f2⟩=>by subst e1 e2;obtain⟨us,g,j⟩:=h1 H L t I J;obtain⟨U,l,o⟩:=h2 H L t I J;obtain⟨c,d,ec,ed,rfl⟩:=zX hy;obtain⟨u',eu,ru⟩:=j.get ec;obtain⟨v',ev,rv⟩:=o.get ed;have C:=f1 us g;rw[eu] at C;cases C;have T:=f2 U l;rw[ev] at T;cases T;exact{EG r,I.skip r,p,_,rfl,db.of zm,{_,_,rfl,ru.ts<|EG r,_,_,rfl,rv.ts<|EG r,rfl}}
 stop:=λH L t I J=>by obtain⟨us,g,j⟩:=h1 H L t I J;obtain⟨U,l,o⟩:=h2 H L t I J;have l1:=j.length;have l2:=o.length;exact{us,U,g,l,by rw[oA];lia}
def Ua(ta:fF)(τ:j5)(L:qh)(R:_T->(qh->Prop)->qh->Prop):Prop:=ta τ L λvs L1=>match vs with
 |[x,y]=>dZ L1 x λxs=>dZ L1 y λys=>R (ym xs ys) (λL=>uX L1 x L/\uX L1 y L) L1
 |_=>False
def Ub{a b:Expr}(hg:Gl X "zip")(hm:X.mg "zip"=none)(ha:QA X [a,b] tr)(hs:starEach [a,b] X.env=[(false,eval a X.env),(false,eval b X.env)]:=by rfl)
 (g:starEach [b] X.env=[(false,eval b X.env)]:=by rfl):QI X (.Tuple ir x1 tp) (.Call (.Name "zip" p) [a,b] [] pos) (Ua tr):=PI._c (T9 hg hm ha hs g) λσ H R τ L R3 rs U z k=>by
 refine{τ,L,_,rs,U,z,λvs j ys l t1 I o J=>?_};split at J
 .rename_i x y;obtain⟨u,v,rfl,ru,rv⟩:=o.inv2;obtain⟨xs,ex,J⟩:=vf J;obtain⟨zs,ez,J⟩:=vf J;obtain⟨r,p1,rfl,k1⟩:=J3 ru ex;obtain⟨C,p2,rfl,k2⟩:=J3 rv ez;obtain⟨us,s1,_⟩:=k1 j l (EF _) I<|lw _ _;obtain⟨ws,s2,_⟩:=k2 j l (EF _) I<|lw _ _;exact{r,C,p1,p2,rfl,{(us),s1},{(ws),s2},k _ j _ _ l t1 I (yX (λH L t U T=>k1 H L t U T.1) λH L t U T=>k2 H L t U T.2) J}
 .exact J.elim
def tK(xs:_T)(L:qh)(Q:YK):Prop:=match xs with
 |[x]=>dZ L x λys=>∀p,L p=none->Q (.ref p) (qg L p<|.lst ys)
 |_=>False
def iu :zy X (.type "list") (e_ X.g3 tK):=EU sS λt H Q C L T U I z k=>by
 unfold tK at z;split at z
 .rename_i x;obtain⟨u,rfl,g⟩:=U.inv1;obtain⟨zs,j,z⟩:=vf z;obtain⟨p,o,e,sq,r⟩:=tN I g j;subst e;exact{p,o,rfl,sq,λl J=>k _ _ _ _ (EG J) (I._P J r) (by rfl)<|z l<|I.none J}
 .exact z.elim
def xr{T:aap}{r:_T->qh->YK->Prop}(hc:zy X (.type T)<|e_ X.g3 r)(U:Gl X x)(g:X.mg x=none)(j:bootBuiltins x=some (.type T))(h:QA X (e::es) tr)
 (l:x ≠ "__name__" := by decide) (hd:Es x:=by decide) (hs:Ep e es X:=by rfl) (o:Er pos es X:=by rfl):
 QE X (.Call (.Name x p) (e::es) [] pos) (u_ r tr):=EI (jU hc U g j h l hd hs o) λσ H Q t L C rs rl z k=>
 ⟨t,L,_,rs,rl,z,λvs H1 ys L1 t1 I J z1=>{ys,L1,C,J,I,z1,k.ts t1}⟩
def sn(x:Y)(vs:_T)(L:qh)(Q:YK):Prop:=match x,vs with
 |.ref a,[.int i]=>dG L a λys=>0<=i/\i<ys.length/\qC L (λv L=>Q v<|qg L a<|.lst<|ys.eraseIdx i.toNat) (ys[i.toNat]?)
 |_,_=>False
def Uc :gc X "list.pop" (l_ X.g3 sn):=λJ s l H x xs v o Q I p t ⟨y,ys,L,Q3,C,T,j,z,k⟩=>by
 unfold sn at z;split at z
 .rename_i a i;obtain⟨zs,e,h0,h1,z⟩:=x9 z;obtain⟨ws,U,r⟩:=j a _ e;obtain⟨i',rfl,ri⟩:=T.inv1;cases ri;cases g:zs[i.toNat]? with
  |none=>rw[g] at z;exact z.elim
  |some w=>
   rw[g] at z;obtain⟨u,eu,ru⟩:=r.get g;obtain⟨_,_,_,hz⟩:=I.list<|Eo U;have hl:=r.length;have hs:sizeLine<2 ^ 62:=by decide
   refine Sa J s l H x _ v o Q I p t {a,ws,i,i.toNat,u,C,rfl,U,by lia,by lia,?_,eu,k _ _ _ _ (ES U) (j.setL U<|r.eraseIdx _) (ru.ts<|ES U) z};unfold seqIndex?;rw[Az (show ¬i<0 by lia),AC (by simp;lia)]
 .exact z.elim
def cV(I:QE X o to)(J:QA X (e::es) tr)(U:A' X o e es "pop" apos eS:=by exact{(rfl),rfl,rfl,rfl,rfl}):
 QE X (.Call (.Attribute o "pop" apos) (e::es) [] eS) (tL sn to tr):=uU PySem.F.slot_list_pop PySem.F.type_list_pop Uc I J U
def Gi(i:Int)(n d:Nat):max 0 (min (if i<0 then i+(n:Int) else i) n)=((KM n d (some i):Nat):Int):=by
 simp only[KM];by_cases h:i<0
 .simp only[h,if_true]<;>lia
 .simp only[h,if_false]<;>lia
def Ud(l u:aah)(n:Nat):Builtin.Str.strSliceIndices l u 1 n=(List.range<|KM n n u-KM n 0 l).map (KM n 0 l+·):=by
 have z:(0:Int)=((KM n 0 none:Nat):Int):=rfl;have y:(n:Int)=((KM n n none:Nat):Int):=rfl;unfold Builtin.Str.strSliceIndices;cases l with
 |none=>
  cases u with
  |none=>exact sliceRange_one 0 n
  |some j=>
   show sliceRange 0 (max 0<|min (if j<0 then j+(n:Int) else j) n) 1=_;rw[Gi j n n];exact sliceRange_one 0 _
 |some i=>
  cases u with
  |none=>
   show sliceRange (max 0<|min (if i<0 then i+(n:Int) else i) n) n 1=_;rw[Gi i n 0];exact sliceRange_one _ n
  |some j=>
   show sliceRange (max 0<|min (if i<0 then i+(n:Int) else i) n) (max 0<|min (if j<0 then j+(n:Int) else j) n) 1=_;rw[Gi i n 0,Gi j n n];exact sliceRange_one _ _
def fg(x:Str)(l u:aah):(Txt.slice x l u).cps.toList=(x.cps.toList.drop<|KM x.length 0 l).take (KM x.length x.length u-KM x.length 0 l):=by
 have U:x.length=x.cps.toList.length:=by simp[Str.length]
 have I:=pick_run x.cps (KM x.length 0 l)<|KM x.length x.length u-KM x.length 0 l;unfold Txt.slice;rw[Ud];split
 .rename_i h;simp only[beq_self_eq_true,Bool.true_and,Ac,B6,beq_iff_eq] at h;have g:=sIx_le x.length 0 (Bb _) l;have j:=sIx_le x.length x.length (Aj _) u;have J:KM x.length 0 l=0:=by lia
  rw[h,J,C4,AM (by exact xY)]
 .show(List.filterMap (λi=>x.cps[i]?) _).toArray.toList=_;rw[Dx];exact I
def Ue:V->aah->aah->Hp->VK->Prop:=λx lo hi H Q=>∃z,x=.str z/\z.length<=sizeLine/\Q (.str<|Txt.slice z lo hi) H
def aqu:u4 X Ue:=by
 rintro J s σ H x v U g lo j sl Q I o p pl r⟨z,rfl,C,q⟩;obtain⟨t,rfl⟩:=o;obtain⟨l,rfl,T⟩:∃l:Option (Int×Tok),U=partValue l/\l.map (·.1)=lo:=by cases pl with|none=>exact{(none),rfl,rfl}|int i t=>exact{some (i,t),rfl,rfl}
 obtain⟨u,rfl,hu⟩:∃u:Option (Int×Tok),g=partValue u/\u.map (·.1)=j:=by cases r with|none=>exact{(none),rfl,rfl}|int i t=>exact{some (i,t),rfl,rfl}
 subst T hu;refine{"str",_,F.slot_str_getitem.lookup,typeIs_str _ _ _,j6 I.tk<|wpAny_getItem_str_slice (l:=l) (u:=u) (st:=none) p rfl ?_};exact post_val_or_str {AF (Txt.slice_le z _ _) C,λt' k ht=>{.str _,H,I.tok _,{(t'),rfl},q}}
def ye{zs:aac}:∀{us:Z_},ze (zs.map V.str) us->StrsAre us zs:=by
 induction zs with
 |nil=>intro us r;rw[Cm] at r;cases r;exact .nil
 |cons z zs I=>
  intro us r;rw[AI] at r;cases r with
  |cons J U=>
   obtain⟨t,e⟩:=J;subst e;exact .cons z t<|I U
def Uf(K:Af):V->GT->Hp->VK->Prop:=λx vs H Q=>∃z a zs,x=.str z/\vs=[.ref a]/\aV K H a ((zs:aac).map V.str)/\(zs.map (·.length)).sum+zs.length*z.length<=16777216/\Q (.str<|Txt.join z zs) H
def Ug:gc X "str.join" (Uf X.K):=by rintro J s σ H x vs v us Q I U g⟨z,a,zs,rfl,rfl,j,l,q⟩;obtain⟨t,rfl⟩:=U;obtain⟨u,rfl,o⟩:=g.one;cases o;obtain⟨C,r,p,_⟩:=I.list j;exact j6 I.tk<|PyProof.Rows.join_list p.isList (by simpa using ye r) l λT k ht=>{.str _,H,I.tok _,{(T),rfl},q}
def Gj(x:Y)(lo hi:aah)(L:qh)(Q:YK):Prop:=match x with
 |.str z=>z.length<=sizeLine/\Q (.str<|Txt.slice z lo hi) L
 |x=>JA x lo hi L Q
def fI(K:Af)(P:aam)(w:aan)(U:X.K=K:=by rfl)(g:X.prog=P:=by rfl)(hw:X.w=w:=by rfl):u4 X (Gd ⟨K,P,w⟩ Gj):=by refine u4.imp (aqu.or<|Td K P w U g hw) λx lo l H Q ⟨y,L,j,I,J,z,k⟩=>?_;cases y with|str s=>exact .inl {s,I,z.1,k _ H _ L (EF _) J (by rfl) z.2}|_=>exact .inr {_,L,j,I,J,z,k}
def FK(r:Y->_T->qh->YK->Prop)(to:ji)(t:fF)(τ:j5)(L:qh)(Q:YK):Prop:=to τ L λx L1=>match x with
 |.str z=>t τ L1 λxs L2=>r (.str z) xs L2 Q
 |_=>False
def J4{id:aap}{r:Y->_T->qh->YK->Prop}(h2:Slot "str" name id)(T:typeOf (.builtin id)=pure (.type "method_descriptor"))(hm:gc X id<|l_ X.g3 r)(ho:QE X o to)(ha:QA X (e::es) tr)
 (I:A' X o e es name apos eS:=by exact{(rfl),rfl,rfl,rfl,rfl}):
 QE X (.Call (.Attribute o name apos) (e::es) [] eS) (FK r to tr):=EI (Jd PySem.F.plainAttrs_str h2 T hm ho ha I.h4 I.h5 I.h6 I.h7 I.h8) λσ H Q p L Q3 t rl z k=>
 ⟨p,L,_,t,rl,z,λv H1 y L1 C J U g=>by
  split at g
  .rename_i s;cases U;exact{rfl,p,L1,_,t.ts C,J,g,λvs H2 ys L2 t2 j l z2=>{.str s,ys,L2,Q3,rfl,l,j,z2,k.ts<|C.trans t2}}
  .exact g.elim⟩
theorem wS{G:G3}{H:Hp}:∀{zs:aac} {xs:GT},jw G H (zs.map Y.str) xs->xs=zs.map V.str
 |[],_,h=>h
 |z::r,_,⟨x,I,e,q,s⟩=>by rw[e,show x=V.str z from q,wS s];rfl
def wK(x:Y)(vs:_T)(L:qh)(Q:YK):Prop:=match x,vs with
 |.str z,[.ref a]=>dG L a λys=>∃zs,ys=zs.map Y.str/\(zs.map (·.length)).sum+zs.length*z.length<=16777216/\Q (.str<|Txt.join z zs) L
 |_,_=>False
def Uh :gc X "str.join" (l_ X.g3 wK):=gc._c Ug λx p H Q y t L C U g I z k=>by
 unfold wK at z;split at z
 .rename_i s a;obtain⟨T,e,j,rfl,l,z⟩:=x9 z;obtain⟨ws,J,r⟩:=I a _ e;obtain⟨u,rfl,o⟩:=g.inv1;cases o;rw[wS r] at J;exact{s,a,j,U,rfl,Eo J,l,k _ H _ L (EF _) I (by rfl) z}
 .exact z.elim
def iW(I:QE X o to)(J:QA X (e::es) tr)(U:A' X o e es "join" apos eS:=by exact{(rfl),rfl,rfl,rfl,rfl}):
 QE X (.Call (.Attribute o "join" apos) (e::es) [] eS) (FK wK to tr):=J4 PySem.F.slot_str_join PySem.F.type_str_join Uh I J U
def iY(zs:aac):(Txt.join "" zs).cps.toList=zs.flatMap λz=>z.cps.toList:=by
 have e:∀zs:aac,(Str.join "" zs).cps.toList=zs.flatMap λz=>z.cps.toList:=by
  intro zs
  induction zs with
  |nil=>rfl
  |cons z r I=>
   cases r with
   |nil=>simp[Str.join]
   |cons y r=>
    show(z ++ "" ++ Str.join "" (y::r)).cps.toList=_;have:(z ++ "" ++ Str.join "" (y::r)).cps=z.cps++#[]++(Str.join ""<|y::r).cps:=rfl;rw[this];simp only[A9,I,Bc,Array.append_empty]
 exact(BA (λx:Str=>x.cps.toList)<|StrLaws.glued_eq_join "" zs).trans (e zs)
inductive rj(t u:fe)(D:vd)(τ:j5)(L:qh):Prop
 |mk:∀J:j5->qh->Prop,t {D with nx:=J} τ L->(∀τ' L',J τ' L'->u D τ' L')->rj t u D τ L
def wn{rest:aae}{t u:fe}(h:QS X st t)(k:b_ X rest u):b_ X (st::rest) (rj t u):=mR.imp (uz h k) λD σ H ⟨o,L,j,p,r,⟨J,z,q⟩,k⟩=>
 ⟨o,L,{j with nx:=J},p,r,z,λC H1 I l T U g z1=>{I,l,j,U,g,q I l z1,k.ts T},k.rt,k.bk,k.ct⟩
def Ui{a b:Addr}{o u:LO}(h:a≠b):qg (qg L a o) b u=qg (qg L b u) a o:=by
 funext c;by_cases I:c=a
 .subst I;rw[qb h,q9,q9]
 .by_cases J:c=b
  .subst J;rw[q9,qb I,q9]
  .rw[qb J,qb I,qb I,qb J]
section
variable {E3:X3}
end
section
variable {cp:Pos}
end
section
variable {a:Expr}{pt:Pos}
end
def tM(_:vd)(_:j5)(_:qh):Prop:=False
def aE :QS X st tM:=λ_ _ _ _ _ _ ⟨_,_,_,_,_,z,_⟩=>z.elim
section
open PySem.W
section
variable {K:Frag}{D:Addr}{t c:aak}{b:Bool}
end
end
def PCh(X:Cx)(ops:List CmpOp)(es:aad)(t:V->TE):Prop:=∀(pos:Pos) (pins:List<|Addr×Obj) (s:aal) (σ:St) (H:Hp) (x:V) (v:aak) (Q:VK),z0 X pins σ H s->zg x v->t x σ H Q->_S X (compareChain pos v ops<|evalEach es X.env) (EP X pins σ Q) X.xe s
def jZ(X:Cx)(ops:List CmpOp)(es:aad)(t:V->TE):Prop:=∀(pos:Pos) (pins:List<|Addr×Obj) (s:aal) (σ:St) (H:Hp) (x:V) (v:aak) (Q:Bool->Hp->Prop),z0 X pins σ H s->zg x v->(t x σ H λz H'=>∃k,z=.bl k/\Q k H')->_S X (testChain pos v ops<|evalEach es X.env) (TP X pins σ Q) X.xe s
def Hm(r:R2)(tb:TE):V->TE:=λx σ H Q=>tb σ H λy H1=>r x y H1 Q
def Ho(r:R2)(tb:TE)(u:V->TE):V->TE:=λx σ H Q=>tb σ H λy H1=>r x y H1 λz H2=>∃k,z=.bl k/\(if k=true then u y σ H2 Q else Q (.bl false) H2)
section
variable {a b:Expr}{ta tb:TE}{op hQ:CmpOp}{ops:List CmpOp}{r:R2}{u:V->TE}
def Uj(g:vi X (compareOp op) r)(j:PE X b tb):PCh X [op] [b] (Hm r tb):=by intro pos J s U H x v Q I l h;exact chain_last<|w9 (j J s U H _ I h) λo p ⟨y,t,C,T,q1⟩=>g J p U t x y v o Q C l T q1
def Uk(t:vi X (compareOp op) r)(C:PE X b tb)(T:PCh X (hQ::ops) (c::es) u):PCh X (op::hQ::ops) (b::c::es) (Ho r tb u):=by intro pos J s U H x v Q I rx h;refine chain_link<|w9 (C J s U H _ I h) λg s1 ⟨y,H1,I1,j,q1⟩=>w9 (t J s1 U H1 x y v g _ I1 rx j q1) λd s2 ⟨z,l,o,r2,k,e,p⟩=>?_;subst e;cases r2;refine wpAny_truthy_bool ?_;cases k with|false=>exact ite_ff {.bl false,l,o,rfl,p}|true=>exact ite_tt<|T pos J s2 U l y g Q o j p
def Ul(U:PE X a ta)(h:PCh X (op::hQ::ops) (b::c::es) u)(g:lastMarks (op::hQ::ops) (b::c::es)=false):PE X (.Compare a (op::hQ::ops) (b::c::es) pos) (λσ H Q=>ta σ H λx H1=>u x σ H1 Q):=by intro J s σ H Q I j;exact Compare_chain (w9 (U J s σ H _ I j) λv l ⟨x,H1,o,p,r⟩=>h pos J l σ H1 x v Q o p r) g
def Um(g:vi X (compareOp op) r)(j:PE X b tb):jZ X [op] [b] (Hm r tb):=by intro pos J s U H x v Q I l h;refine test_last<|w9 (j J s U H _ I h) λo p ⟨y,t,C,T,q1⟩=>w9 (g J p U t x y v o _ C l T q1) λd s2 ⟨z,H2,I2,r2,k,e,q2⟩=>?_;subst e;cases r2;exact wpAny_truthy_bool {(H2),I2,q2}
def Uo(t:vi X (compareOp op) r)(C:PE X b tb)(T:jZ X (hQ::ops) (c::es) u):jZ X (op::hQ::ops) (b::c::es) (Ho r tb u):=by
 intro pos J s U H x v Q I rx h;refine test_link<|w9 (C J s U H _ I h) λg s1 ⟨y,H1,I1,j,q1⟩=>w9 (t J s1 U H1 x y v g _ I1 rx j q1) λd s2 ⟨z,l,o,r2,k,e,p⟩=>?_;subst e;cases r2;refine wpAny_truthy_bool ?_;cases k with
 |false=>
  obtain⟨k',e',q'⟩:=p;cases e';exact ite_ff {(l),o,q'}
 |true=>exact ite_tt<|T pos J s2 U l y g Q o j p
def Uq(U:PE X a ta)(h:jZ X (op::hQ::ops) (b::c::es) u)(g:lastMarks (op::hQ::ops) (b::c::es)=false):PT X (.Compare a (op::hQ::ops) (b::c::es) pos) (GY λσ H Q=>ta σ H λx H1=>u x σ H1 Q):=by intro J s σ H Q I j;exact isTrue_chain (w9 (U J s σ H _ I j) λv l ⟨x,H1,o,p,r⟩=>h pos J l σ H1 x v Q o p r) g
end
def yK(ta:ji)(u:Y->ji)(τ:j5)(L:qh)(Q:YK):Prop:=ta τ L λx L1=>u x τ L1 Q
def Hq(r:nE)(tb:ji)(x:Y)(τ:j5)(L:qh)(Q:YK):Prop:=tb τ L λy L1=>r x y L1 Q
def Hr(r:nE)(tb:ji)(u:Y->ji)(x:Y)(τ:j5)(L:qh)(Q:YK):Prop:=tb τ L λy L1=>r x y L1 λz L2=>match z with
 |.bl k=>wg k (u y τ L2 Q)<|Q (.bl false) L2
 |_=>False
def g_(G:G3)(u:Y->ji):V->TE:=λx σ H Q=>∃y τ L I,RV G H y x/\ve G H σ τ/\zw G H L/\u y τ L I/\ui G H I Q
def PCh.imp{ops:List CmpOp}{t u:V->TE}(h:PCh X ops es t)(q:∀x σ H Q,u x σ H Q->t x σ H Q):PCh X ops es u:=λpos J s σ H x v Q I r z=>h pos J s σ H x v Q I r<|q _ _ _ _ z
def jZ.imp{ops:List CmpOp}{t u:V->TE}(h:jZ X ops es t)(q:∀x σ H Q,u x σ H Q->t x σ H Q):jZ X ops es u:=λpos J s σ H x v Q I r z=>h pos J s σ H x v Q I r<|q _ _ _ _ z
def zR{r:nE}(x:V)(σ:St)(H:Hp)(Q:VK):g_ G (Hq r tb) x σ H Q->Hm (cf G r) (pQ G tb) x σ H Q:=λ⟨y,g,L,j,l,o,p,z,k⟩=>
 ⟨g,L,_,o,p,z,λv H1 t C U I J T=>{y,t,C,j,l.ts U,J,I,T,k.ts U}⟩
def J5{r:nE}{u:Y->ji}(x:V)(σ:St)(H:Hp)(Q:VK):g_ G (Hr r tb u) x σ H Q->Ho (cf G r) (pQ G tb) (g_ G u) x σ H Q:=λ⟨y,j,L,l,rv,T,rl,z,k⟩=>
 ⟨j,L,_,T,rl,z,λv H1 o L1 U p I z1=>{y,o,L1,_,rv.ts U,I,p,z1,λv2 H2 y2 L2 g J t z2=>by
  cases y2 with
  |bl C=>
   refine{C,t,?_};have z3:wg C (u o j L2 l) (l (.bl false) L2):=z2;cases C with|true=>rw[AC rfl];exact{o,j,L2,l,I.ts g,T.ts<|U.trans g,J,z3,k.ts<|U.trans g}|false=>rw[Az AN];exact k _ H2 _ L2 (U.trans g) J (by rfl) z3
  |_=>exact z2.elim}⟩
section
variable {a b:Expr}{op hQ:CmpOp}{ops:List CmpOp}{r:nE}{u:Y->ji}
def fJ(I:vi X (compareOp op)<|cf X.g3 r)(J:QE X b tb):PCh X [op] [b] (g_ X.g3<|Hq r tb):=PCh.imp (Uj I J) zR
def fH(I:vi X (compareOp op)<|cf X.g3 r)(J:QE X b tb)(U:PCh X (hQ::ops) (c::es)<|g_ X.g3 u):PCh X (op::hQ::ops) (b::c::es) (g_ X.g3<|Hr r tb u):=PCh.imp (Uk I J U) J5
def rL(I:vi X (compareOp op)<|cf X.g3 r)(J:QE X b tb):jZ X [op] [b] (g_ X.g3<|Hq r tb):=jZ.imp (Um I J) zR
def jG(I:vi X (compareOp op)<|cf X.g3 r)(J:QE X b tb)(U:jZ X (hQ::ops) (c::es)<|g_ X.g3 u):jZ X (op::hQ::ops) (b::c::es) (g_ X.g3<|Hr r tb u):=jZ.imp (Uo I J U) J5
def vB(σ:St)(H:Hp)(Q:VK):pQ G (yK ta u) σ H Q->(λσ H Q=>pQ G ta σ H λx H1=>g_ G u x σ H1 Q) σ H Q:=λ⟨U,L,l,g,o,z,k⟩=>
 ⟨U,L,_,g,o,z,λv H1 y p j I J r=>{y,U,p,l,J,g.ts j,I,r,k.ts j}⟩
def dy(I:QE X a ta)(h:PCh X (op::hQ::ops) (b::c::es)<|g_ X.g3 u)(J:lastMarks (op::hQ::ops) (b::c::es)=false:=by with_unfolding_all rfl):QE X (.Compare a (op::hQ::ops) (b::c::es) pos) (yK ta u):=ET (Ul I h J) vB
def vG(J:QE X a ta)(h:jZ X (op::hQ::ops) (b::c::es)<|g_ X.g3 u)(U:lastMarks (op::hQ::ops) (b::c::es)=false:=by with_unfolding_all rfl):QT X (.Compare a (op::hQ::ops) (b::c::es) pos) (yB<|yK ta u):=
 PT.imp (Uq J h U) λI H Q q=>vB I H _<|Hf I H Q q
end
theorem uN:∀{bs:List Bool} {us:Z_},ze (bs.map V.bl) us->us=bs.map Value.bool
 |[],_,.nil=>rfl
 |b::bs,_,.cons r t=>by cases (show _=Value.bool b from r);rw[uN t];rfl
def Ur(hc:X.calm=true:=by rfl):zy X (.builtin "all") (λxs H Q=>∃(a:Addr) (bs:List Bool),xs=[.ref a]/\aV X.K H a (bs.map V.bl)/\Q (.bl<|bs.all id) H):=by
 rintro l s σ H xs us Q I r⟨a,bs,rfl,sq,q⟩;obtain⟨u,rfl,o⟩:=fB r;cases o;obtain⟨p,t,pl,_⟩:=I.list sq;cases uN t;have g:=jg pl;have j:a<s.heap.objs.size:=by obtain⟨_,e,_⟩:=g;exact xT e
 refine j6 I.tk<|call_all_walk<|wpAny_pyIter_list g ?_;refine{s.heap.objs.size,[s.heap.objs.size,a],[s.heap.objs.size],(bs.map Value.bool).toArray.size,_,_,λi=>(bs[i]?).getD true,rfl,Walks.list (A:=X.A.in1) (I.ok.hd hc) _ a (A5 j) (bs.map Value.bool).toArray,
  ⟨⟨_,ya _ rfl,rfl,rfl⟩,g.push _⟩,λi v C T E' J U=>?_,λh' tk hk ht=>?_}
 .have J:(bs.map Value.bool).toArray[i]?=some v:=J;rw[De,Al] at J;obtain⟨b,e,rfl⟩:=Ax.mp J;have U:T ((bs[i]?).getD true) C:=U;rw[e] at U;exact wpAny_truthy_bool U
 .have e:((List.range (bs.map Value.bool).toArray.size).all λi=>(bs[i]?).getD true)=bs.all id:=by rw[Au,Ac];exact PyProof.Rows.LSm.range_all bs
  rw[e];exact{.bl _,H,I.kept (h':=h') (t':=tk)<|DE hk,rfl,q}
def Us(hc:X.calm=true:=by rfl):zy X (.builtin "any") (λxs H Q=>∃(a:Addr) (bs:List Bool),xs=[.ref a]/\aV X.K H a (bs.map V.bl)/\Q (.bl<|bs.any id) H):=by
 rintro l s σ H xs us Q I r⟨a,bs,rfl,sq,q⟩;obtain⟨u,rfl,o⟩:=fB r;cases o;obtain⟨p,t,pl,_⟩:=I.list sq;cases uN t;have g:=jg pl;have j:a<s.heap.objs.size:=by obtain⟨_,e,_⟩:=g;exact xT e
 refine j6 I.tk<|call_any_walk<|wpAny_pyIter_list g ?_;refine{s.heap.objs.size,[s.heap.objs.size,a],[s.heap.objs.size],(bs.map Value.bool).toArray.size,_,_,λi=>(bs[i]?).getD false,rfl,Walks.list (A:=X.A.in1) (I.ok.hd hc) _ a (A5 j) (bs.map Value.bool).toArray,
  ⟨⟨_,ya _ rfl,rfl,rfl⟩,g.push _⟩,λi v C T E' J U=>?_,λh' tk hk ht=>?_}
 .have J:(bs.map Value.bool).toArray[i]?=some v:=J;rw[De,Al] at J;obtain⟨b,e,rfl⟩:=Ax.mp J;have U:T ((bs[i]?).getD false) C:=U;rw[e] at U;exact wpAny_truthy_bool U
 .have e:((List.range (bs.map Value.bool).toArray.size).any λi=>(bs[i]?).getD false)=bs.any id:=by rw[Au,Ac];exact PyProof.Rows.LSm.range_any bs
  rw[e];exact{.bl _,H,I.kept (h':=h') (t':=tk)<|DE hk,rfl,q}
def zI:_T->Option (List Bool)
 |[]=>some []
 |.bl b::r=>(zI r).map (b::·)
 |_::_=>none
def bJ(bs:List Bool):zI (bs.map Y.bl)=some bs:=by induction bs with|nil=>rfl|cons b r I=>show(zI<|r.map Y.bl).map (b::·)=_;rw[I];rfl
theorem oy{G:G3}{H:Hp}:∀{ys:_T} {xs:GT} {bs:List Bool},zI ys=some bs->jw G H ys xs->xs=bs.map V.bl
 |[],_,_,h,r=>by cases h;exact r
 |y::ys,_,bs,h,⟨x,I,e,J,U⟩=>by
  cases y with
  |bl b=>
   have g:(zI ys).map (b::·)=some bs:=h;obtain⟨l,j,rfl⟩:=Ax.mp g;cases (show x=V.bl b from J);rw[e,oy j U];rfl
  |_=>cases h
def J6(xs:_T)(L:qh)(Q:YK):Prop:=match xs with
 |[y]=>rV y=true/\dZ L y λys=>qC L (λbs L=>Q (.bl<|List.all bs id) L)<|zI ys
 |_=>False
def J7(xs:_T)(L:qh)(Q:YK):Prop:=match xs with
 |[y]=>rV y=true/\dZ L y λys=>qC L (λbs L=>Q (.bl<|List.any bs id) L)<|zI ys
 |_=>False
def rS(hc:X.calm=true:=by rfl):zy X (.builtin "all") (e_ X.g3 J6):=EU (Ur hc) λj H Q l L o J I z k=>by
 unfold J6 at z;split at z
 .rename_i y;obtain⟨x,rfl,r⟩:=J.inv1;obtain⟨U,z⟩:=z;obtain⟨p,g,z⟩:=vf z;obtain⟨bs,eb,z⟩:=wc z;obtain⟨a,t,rfl,sq,rr⟩:=cA I r U g;cases oy eb rr;exact{a,bs,rfl,sq,k _ H _ L (EF _) I (by rfl) z}
 .exact z.elim
def Ut(hc:X.calm=true:=by rfl):zy X (.builtin "any") (e_ X.g3 J7):=EU (Us hc) λj H Q l L o J I z k=>by
 unfold J7 at z;split at z
 .rename_i y;obtain⟨x,rfl,r⟩:=J.inv1;obtain⟨U,z⟩:=z;obtain⟨p,g,z⟩:=vf z;obtain⟨bs,eb,z⟩:=wc z;obtain⟨a,t,rfl,sq,rr⟩:=cA I r U g;cases oy eb rr;exact{a,bs,rfl,sq,k _ H _ L (EF _) I (by rfl) z}
 .exact z.elim
def kD:bootBuiltins "all"=some (.builtin "all"):=by decide +kernel
def Uu:bootBuiltins "any"=some (.builtin "any"):=by decide +kernel
def Gk:Y->Option zr
 |.int i=>some<|.inl i
 |.str x=>some<|.inr x
 |_=>none
def oF{k:zr}(h:Gk y=some k)(r:RV G H y v):v=kV k:=by cases y with|int i=>cases h;exact r|str x=>cases h;exact r|_=>cases h
def iw(kvs:List<|zr×Y)(k:zr)(y:Y):List (zr×Y):=
 if (kvs.any λI=>decide<|I.1=k)=true then kvs.map (λI=>if I.1=k then(I.1,y) else I) else kvs++[(k,y)]
def zp._q{p:Addr}{zs:List<|zr×V}{o:HO}(h:H p=some (.dK zs)):zp H (upd H p o):=λa u i q=>by rw[qp ?_];exact q;rintro rfl;rw[h] at q;cases q;cases i
def Uv{xs:List<|zr×V}(p:Paired (λ(p:zr×Y) (q:zr×V)=>p.1=q.1/\RV G H p.2 q.2) kvs xs)(k:zr):(kvs.any λI=>decide<|I.1=k)=xs.any λI=>decide (I.1=k):=by induction p with|nil=>rfl|cons r t J=>rw[Cq,Cq,J,r.1]
def Uw{xs:List<|zr×V}(p:Paired (λ(p:zr×Y) (q:zr×V)=>p.1=q.1/\RV G H p.2 q.2) kvs xs)(k:zr)(r:RV G H y v):
 Paired (λ(p:zr×Y) (q:zr×V)=>p.1=q.1/\RV G H p.2 q.2) (kvs.map λI=>if I.1=k then(I.1,y) else I) (xs.map λI=>if I.1=k then(I.1,v) else I):=by
 induction p with
 |nil=>exact .nil
 |@cons a b _ _ J t U=>
  refine .cons ?_ U;obtain⟨e,q⟩:=J;dsimp only;by_cases c:a.1=k
  .rw[AC c,AC<|e▸c];exact{(e),r}
  .rw[Az c,Az λz=>c<|e.trans z];exact{(e),q}
def Ux{xs:List<|zr×V}(p:Paired (λ(p:zr×Y) (q:zr×V)=>p.1=q.1/\RV G H p.2 q.2) kvs xs)(k:zr)(r:RV G H y v):
 Paired (λ(p:zr×Y) (q:zr×V)=>p.1=q.1/\RV G H p.2 q.2) (kvs++[(k,y)]) (xs++[(k,v)]):=by
 induction p with|nil=>exact .cons {(rfl),r} .nil|cons I t J=>exact .cons I J
def Uy{xs:List<|zr×V}(p:Paired (λ(p:zr×Y) (q:zr×V)=>p.1=q.1/\RV G H p.2 q.2) kvs xs)(k:zr)(r:RV G H y v):
 Paired (λ(p:zr×Y) (q:zr×V)=>p.1=q.1/\RV G H p.2 q.2) (iw kvs k y) (eG xs k v):=by
 unfold iw eG;rw[Uv p k];by_cases c:(xs.any λI=>decide<|I.1=k)=true
 .rw[AC c,AC c];exact Uw p k r
 .rw[Az c,Az c];exact Ux p k r
def cH{R:α->β->Prop}{l:List α}{m:List β}(p:Paired R l m):l.length=m.length:=by induction p with|nil=>rfl|cons _ _ I=>rw[Ap,Ap,I]
def Uz(_:j5)(L:qh)(Q:YK):Prop:=∀p,L p=none->Q (.ref p) (qg L p<|._q [])
def UA(td ti:ji)(τ:j5)(L:qh)(Q:YK):Prop:=td τ L λx L1=>ti τ L1 λy L2=>match x,Gk y with
 |.ref a,some k=>uT L2 a λkvs=>qC L2 Q<|vq kvs k
 |_,_=>False
def UB(td ti tv:ji)(D:vd)(τ:j5)(L:qh):Prop:=tv τ L λv L1=>td τ L1 λx L2=>ti τ L2 λy L3=>match x,Gk y with
 |.ref a,some k=>uT L3 a λkvs=>kvs.length<sizeLine/\D.nx τ (qg L3 a<|._q<|iw kvs k v)
 |_,_=>False
section
variable {i:Expr}{td tv:ji}
def tJ:QE X (.Dict [] [] pos) Uz:=EI Rt λU H Q g L j l J z k=>λp I=>by
 refine k _ _ _ (qg L p<|._q []) (EG I) (λa u e=>?_) (by rfl)<|z p<|J.none I;by_cases c:a=p
 .subst c;rw[q9] at e;cases e;exact{[],zm,.nil}
 .rw[qb c] at e;exact(J a u e).keep (EG I) (qp c)
def dE(hu:X.A.units+128<cLine)(t:QE X o td)(hi:QE X i ti)(hs:GZ i):QE X (.Subscript o i pos) (UA td ti):=EI (Rq (by omega) t hi hs) λσ H Q l L Q3 p C z k=>
 ⟨l,L,_,p,C,z,λv H1 x T r J U z1=>{l,T,_,p.ts r,J,z1,λw H2 y L2 t2 I g j=>by
  split at j
  .rename_i a kk ek;obtain⟨a0,e,z3⟩:=cW j;obtain⟨yv,ev,q⟩:=wc z3;obtain⟨xs,e2,pr⟩:=I a _ e;obtain⟨xv,ex,rx⟩:=rD pr ev;exact{a,xv,U,.inl {xs,kk,.inl e2,oF ek g,ex.symm},k _ H2 _ L2 (r.trans t2) I rx q}
  .exact j.elim}⟩
theorem iE(hu:X.A.units+128<cLine)(ho:QE X o td)(hi:QE X i ti)(hv:QE X value tv)(hs:swapsWith value (some<|.Subscript o i fm) pos.line X.env=pure false:=by rfl):QS X (.Assign [.Subscript o i fm] value pos) (UB td ti tv):=
 EM (Rr (by omega) ho hi hv hs) λD σ H l L D3 J rl z k=>
 ⟨l,L,_,J,rl,z,λv H1 vy L1 U p r z1=>{l,L1,_,J.ts U,p,z1,λx H2 xy L2 g t C z2=>{l,L2,_,J.ts<|U.trans g,t,z2,λw H3 y L3 T I a0 z3=>by
  split at z3
  .rename_i a kk ek;obtain⟨a1,e,hl,q⟩:=cW z3;obtain⟨xs,e2,pr⟩:=I a _ e;have j:zp H3 (upd H3 a<|.dK<|eG xs kk v):=zp._q e2;cases (show x=V.ref a from C);refine{a,_,rfl,.inl {xs,kk,e2,oF ek a0,by rw[<-cH pr];exact hl,rfl},?_};refine k.nx _ _ _ _ (((U.trans g).trans T).trans j) (J.ts<|((U.trans g).trans T).trans j) (λb u eb=>?_) q;by_cases c:b=a
   .subst c;rw[q9] at eb;cases eb;exact{_,zm,EH (Uy pr kk<|r.ts<|g.trans T) λ_ _ ⟨h1,h2⟩=>{h1,h2.ts j}}
   .rw[qb c] at eb;exact(I b u eb).keep j (qp c)
  .exact z3.elim}}⟩
end
def UC(to ti tv:ji)(D:vd)(τ:j5)(L:qh):Prop:=tv τ L λv L1=>to τ L1 λx L2=>ti τ L2 λy L3=>match x,y with
 |.ref a,.int i=>dG L3 a λys=>qC L3 (λj L=>D.nx τ<|qg L a<|.lst<|ys.set j v)<|s_ ys.length i
 |_,_=>False
section
variable {i:Expr}{tv:ji}
theorem UD(ho:QE X o to)(hi:QE X i ti)(hv:QE X value tv)
 (ha:∀v,assign (.Subscript o i fm) X.env v=(do
  let J <-holding [v] (eval o X.env)
  let p <-holding [v,J] (eval i X.env)
  standAt fm
  holding [v,J,p] (setItem J p v)
  release [v,J,p] []):=by intro _;rfl)
 (h1:swapsWithSole [.Subscript o i fm] value pos.line X.env=pure false:=by rfl) (h2:swappedStores [.Subscript o i fm] value X.env=pure none:=by rfl)
 (h3:(assignEach [.Subscript o i fm] X.env).map (·.2)=[assign (.Subscript o i fm) X.env]:=by rfl):QS X (.Assign [.Subscript o i fm] value pos) (UC to ti tv):=
 EM (ID hv (P4 ho hi RP ha) h1 h2 h3) λD σ H t L D3 U rl z k=>
 ⟨t,L,_,U,rl,z,λv H1 vy L1 g C T z1=>{t,L1,_,U.ts g,C,z1,λx H2 xy L2 l a0 a1 z2=>{t,L2,_,U.ts<|g.trans l,a0,z2,λw H3 y L3 t3 I a2 z3=>by
  split at z3
  .rename_i a ii;obtain⟨ys,e,z4⟩:=x9 z3;obtain⟨j,ej,q⟩:=wc z4;obtain⟨xs,e2,r⟩:=I a _ e;cases (show x=V.ref a from a1);cases (show w=V.int ii from a2);have tt:zp H3 (upd H3 a<|.lst<|xs.set j v):=ES e2;exact{a,xs,ii,j,rfl,rfl,e2,by rw[<-r.length];exact ej,k.nx _ _ _ _ (((g.trans l).trans t3).trans tt) (U.ts<|((g.trans l).trans t3).trans tt) (I.setL e2<|jw.setY (T.ts<|l.trans t3) j r) q}
  .exact z3.elim}}⟩
end
def UE(te:TE):TE:=λσ H Q=>te σ H λx H1=>∃y,x=.str y/\y.length<=sizeLine/\Q (.str y) H1
def PJ(X:Cx)(es:aad)(t:Str->TE):Prop:=∀(pins:List<|Addr×Obj) (s:aal) (σ:St) (H:Hp) (eH:Str) (Q:VK),z0 X pins σ H s->t eH σ H Q->_S X (joinParts eH<|evalEach es X.env) (EP X pins σ Q) X.xe s
def UF:Str->TE:=λeH _ H Q=>eH.length<=sizeLine/\Q (.str eH) H
def UG(te:TE)(u:Str->TE):Str->TE:=λeH σ H Q=>te σ H λx H1=>∃y,x=.str y/\(eH++y).length<=sizeLine/\u (eH++y) σ H1 Q
section
variable {pj r4:Expr}{te:TE}{u:Str->TE}
def UH(h:PE X e te):PE X (.FormattedValue e (-1) none pos) (UE te):=by intro J s g H Q I j;refine FormattedValue_plain<|w9 (h J s g H _ I j) λv T ⟨x,l,U,o,y,p,r,q⟩=>?_;subst p;obtain⟨t,rfl⟩:=(show ∃t,v=Value.str y t from o);exact j6 U.tk<|formatField_str (λC tk ht=>{.str y,l,U.tok _,{(C),rfl},q}) r
def UI:PJ X [] UF:=λU s j H J Q I ⟨g,q⟩=>joinParts_nil {.str J,H,I.tok _,{_,rfl},q} g
def UJ(h:PE X e te)(t:PJ X es u):PJ X (e::es) (UG te u):=by intro J s U H g Q I j;refine joinParts_cons<|w9 (h J s U H _ I j) λv l ⟨x,o,p,r,y,C,T,q⟩=>?_;subst C;obtain⟨tk,rfl⟩:=(show ∃t,v=Value.str y t from r);exact{T,t J l U o _ Q p q}
def UK(h:PJ X (pj::r4::es) u):PE X (.JoinedStr (pj::r4::es) pos) (u Str.empty):=λJ s U H Q I g=>JoinedStr_many<|h J s U H _ Q I g
end
def UL(te:ji)(τ:j5)(L:qh)(Q:YK):Prop:=te τ L λx L1=>match x with
 |.str y=>y.length<=sizeLine/\Q (.str y) L1
 |_=>False
def UM(eH:Str)(_:j5)(L:qh)(Q:YK):Prop:=eH.length<=sizeLine/\Q (.str eH) L
def UN(te:ji)(u:Str->ji)(eH:Str)(τ:j5)(L:qh)(Q:YK):Prop:=te τ L λx L1=>match x with
 |.str y=>(eH++y).length<=sizeLine/\u (eH++y) τ L1 Q
 |_=>False
def UO(u:Str->ji)(τ:j5)(L:qh)(Q:YK):Prop:=u Str.empty τ L Q
def PJ.imp{t u:Str->TE}(h:PJ X es t)(q:∀eH σ H Q,u eH σ H Q->t eH σ H Q):PJ X es u:=λJ s σ H eH Q I z=>h J s σ H eH Q I<|q _ _ _ _ z
section
variable {pj r4:Expr}{u:Str->ji}
def yj(h:QE X e te):QE X (.FormattedValue e (-1) none pos) (UL te):=EI (UH h) λt H Q g L C j l z k=>
 ⟨g,L,_,j,l,z,λv o y p r I J U=>by cases y with|str s=>exact{s,J,U.1,k _ o _ p r I (by rfl) U.2}|_=>exact U.elim⟩
def zL:PJ X [] (λeH=>pQ X.g3<|UM eH):=PJ.imp UI λeH J H Q ⟨U,L,g,j,I,z,k⟩=>{z.1,k _ H _ L (EF _) I (by rfl) z.2}
def wm(h:QE X e te)(t:PJ X es λeH=>pQ X.g3<|u eH):PJ X (e::es) (λeH=>pQ X.g3<|UN te u eH):=PJ.imp (UJ h t) λeH C H Q ⟨g,L,o,j,p,z,k⟩=>
 ⟨g,L,_,j,p,z,λv T y r l I J U=>by cases y with|str s=>exact{s,J,U.1,g,r,o,j.ts l,I,U.2,k.ts l}|_=>exact U.elim⟩
def uA(h:PJ X (pj::r4::es) λeH=>pQ X.g3<|u eH):QE X (.JoinedStr (pj::r4::es) pos) (UO u):=UK h
end
@[irreducible] def sT (L:qh) (a:Addr) (k:Addr->List (Str×Y)->Prop):Prop:=match L a with
 |some (.ins C fs)=>k C fs
 |_=>False
def wz{a:Addr}{fs:List<|Str×Y}{k:Addr->List (Str×Y)->Prop}(e:L a=some (.ins C fs))(h:k C fs):sT L a k:=by unfold sT;rw[e];exact h
def dh{a:Addr}{k:Addr->List (Str×Y)->Prop}(h:sT L a k):∃C fs,L a=some (.ins C fs)/\k C fs:=by
 unfold sT at h;split at h
 .rename_i C fs e;exact{(C),fs,e,h}
 .exact h.elim
abbrev Gm(G:G3)(H:Hp):List (Str×Y)->List (Str×V)->Prop:=Paired λ(p:Str×Y) (q:Str×V)=>p.1=q.1/\RV G H p.2 q.2
def J8{fs:List<|Str×Y}{xs:List<|Str×V}(p:Gm G H fs xs){f:Str}(h:fs.lookup f=some y):∃v,xs.lookup f=some v/\RV G H y v:=by
 induction p with
 |nil=>cases h
 |@cons a b _ _ r t J=>
  obtain⟨I,j⟩:=a;obtain⟨U,g⟩:=b;obtain⟨e,r⟩:=r;cases (show I=U from e);rw[Bg] at h ⊢;cases c:(f==I) with
  |true=>rw[c] at h;cases h;exact{(g),rfl,r}
  |false=>rw[c] at h;exact J h
def UP{fs:List<|Str×Y}{xs:List<|Str×V}(p:Gm G H fs xs){f:Str}(h:fs.lookup f=none):xs.lookup f=none:=by
 induction p with
 |nil=>rfl
 |@cons a b _ _ r t J=>
  obtain⟨I,g⟩:=a;obtain⟨U,j⟩:=b;obtain⟨e,r⟩:=r;cases (show I=U from e);rw[Bg] at h ⊢;cases c:(f==I) with
  |true=>rw[c] at h;cases h
  |false=>rw[c] at h;exact J h
def lL(f:Str)(y:Y):List (Str×Y)->List (Str×Y)
 |[]=>[(f,y)]
 |(g,x)::r=>if g=f then(g,y)::r else(g,x)::lL f y r
def J9{fs:List<|Str×Y}{xs:List<|Str×V}(p:Gm G H fs xs)(f:Str)(r:RV G H y v):Gm G H (lL f y fs) (br f v xs):=by
 induction p with
 |nil=>exact .cons {(rfl),r} .nil
 |@cons a b _ _ J t U=>
  obtain⟨I,j⟩:=a;obtain⟨g,l⟩:=b;obtain⟨e,q⟩:=J;cases (show I=g from e);unfold lL br;by_cases c:I=f
  .rw[AC c,AC c];exact .cons {(rfl),r} t
  .rw[Az c,Az c];exact .cons {(rfl),q} U
def zp.ins{p:Addr}{zs:List<|Str×V}{o:HO}(h:H p=some (.ins C dx zs)):zp H (upd H p o):=λa u i q=>by rw[qp ?_];exact q;rintro rfl;rw[h] at q;cases q;cases i
def FM(K:Af)(f:Str)(te:ji)(τ:j5)(L:qh)(Q:YK):Prop:=te τ L λx L1=>match x with
 |.ref a=>sT L1 a λC fs=>_D K C/\Os K C f/\qC L1 Q (fs.lookup f)
 |_=>False
def Hs(K:Af)(f:Str)(to tv:ji)(D:vd)(τ:j5)(L:qh):Prop:=tv τ L λv L1=>to τ L1 λx L2=>match x with
 |.ref a=>sT L2 a λC fs=>_D K C/\Os K C f/\fs.length<1000/\D.nx τ (qg L2 a<|.ins C<|lL f v fs)
 |_=>False
def oJ(C:Addr)(m:Str)(sp:jf)(to:ji)(τ:j5)(L:qh)(Q:YK):Prop:=to τ L λx L1=>match x with
 |.ref a=>sT L1 a λI fs=>I=C/\fs.lookup m=none/\sp [.ref a] L1 Q
 |_=>False
def Ht(C:Addr)(sp:jf)(t:fF)(τ:j5)(L:qh)(Q:YK):Prop:=t τ L λys L1=>∀x,L1 x=none->sp (.ref x::ys) (qg L1 x<|.ins C []) λv L2=>v=.KF/\Q (.ref x) L2
section
variable {tv:ji}{f m:Str}{g:Addr}
def tj(h:QE X e te)(j:attributeBase e f X.env (eval e X.env)=eval e X.env:=by rfl):QE X (.Attribute e f pos) (FM X.K f te):=EI (QX h j) λσ H Q l L Q3 o p z k=>
 ⟨l,L,_,o,p,z,λv r y t T I J U=>by
  split at U
  .rename_i a;obtain⟨C,fs,e,c,n,z2⟩:=dh U;obtain⟨y,ey,q⟩:=wc z2;obtain⟨dx,xs,e2,pr⟩:=I a _ e;obtain⟨w,ew,g⟩:=J8 pr ey;exact{a,C,dx,xs,w,J,e2,c,n,ew,k _ r _ t T I g q}
  .exact U.elim⟩
def J'(ho:QE X o to)(hv:QE X value tv)(hs:swapsWith value (some<|.Attribute o f fm) pos.line X.env=pure false:=by rfl):QS X (.Assign [.Attribute o f fm] value pos) (Hs X.K f to tv):=EM (QY ho hv hs) λD σ H τ L D3 U rl z k=>
 ⟨τ,L,_,U,rl,z,λv H1 vy L1 g j l z1=>{τ,L1,_,U.ts g,j,z1,λw H2 y L2 p I r t=>by
  split at t
  .rename_i a;obtain⟨C,fs,e,c,n,hl,q⟩:=dh t;obtain⟨T,xs,e2,pr⟩:=I a _ e;have J:zp H2 (upd H2 a<|.ins C T<|br f v xs):=zp.ins e2;refine{a,C,T,xs,r,e2,c,n,by rw[<-cH pr];exact hl,k.nx _ _ _ _ ((g.trans p).trans J) (U.ts<|(g.trans p).trans J) (λb u eb=>?_) q};by_cases cc:b=a
   .subst cc;rw[q9] at eb;cases eb;exact{T,_,zm,EH (J9 pr f<|l.ts p) λ_ _ ⟨h1,h2⟩=>{h1,h2.ts J}}
   .rw[qb cc] at eb;exact(I b u eb).keep J (qp cc)
  .exact t.elim}⟩
theorem UQ{pl:Sem Bool}{k:Nat}(l:QE X o to)(c:_D X.K C)(p:Fw X.K C m g)(F:Fn3 X.prog X.w X.K X.mg X.base k g fd ps sp)(r:wf k X.A)(t:aI X.K fd ps [])
 (T:eval (.Call (.Attribute o m apos) [] [] pos) X.env=(do
  let j <-eval o X.env
  standAt apos.atName
  let (f,first) <-holding [j] (getMethod j m pl)
  callWith pos f first (backTo pos<|starEach [] X.env) (backToKw pos<|keywordEach [] X.env)):=by rfl):
 QE X (.Call (.Attribute o m apos) [] [] pos) (oJ C m sp to):=ET (Rb (pl:=pl) l c p F r t .nil G4 T) λσ H Q ⟨τ,L,Q3,rs,rl,z,k⟩=>
 ⟨τ,L,_,rs,rl,z,λv H1 y L1 t1 I J U=>by
  split at U
  .rename_i a;obtain⟨C',fs,e,ec,n,q⟩:=dh U;subst ec;obtain⟨dx,xs,e2,pr⟩:=I a _ e;cases (show v=V.ref a from J);exact{a,dx,xs,rfl,e2,UP pr n,[.ref a],L1,Q3,jw.one rfl,I,q,k.ts t1}
  .exact U.elim⟩
def UR{k:Nat}(M:Mk X.K C g)(F:Fn3 X.prog X.w X.K X.mg X.base k g fd ps sp)(hr:wf (k+1) X.A)(hg:Gl X x)(hm:X.mg x=some (.ref C))(hb:aI X.K fd ps [])(ha:QA X (e::es) tr)
 (l:Es x:=by decide) (he:Ep e es X:=by rfl) (o:Er pos es X:=by rfl):
 QE X (.Call (.Name x p) (e::es) [] pos) (Ht C sp tr):=EI (Rf M F hr hg hm hb .nil G4 ha l he o) λσ H Q τ L Q3 rs rl z k=>
 ⟨τ,L,_,rs,rl,z,λvs U ys L1 t1 I r z1=>λx J hx j ne=>by
  have ta:zp U (upd U J<|.own x):=EG j;have t:upd U J (.own x) x=none:=by rw[qp<|AL ne];exact hx
  have T:zp U (upd (upd U J<|.own x) x<|.ins C J []):=ta.trans<|EG t;refine{.ref x::ys,qg L1 x<|.ins C [],_,{.ref x,vs++[],by simp,rfl,by rw[AG];exact r.ts T},λb u eb=>?_,z1 x<|I.none hx,λv H2 y L2 t2 a0 a1 ⟨ev,q⟩=>?_}
  .by_cases cc:b=x
   .subst cc;rw[q9] at eb;cases eb;exact{J,[],zm,.nil}
   .rw[qb cc] at eb;have nd:b≠J:=λz=>by obtain⟨w,ew⟩:=(I b u eb).ex;rw[z,j] at ew;cases ew
    exact(I b u eb).keep T (by rw[qp cc,qp nd])
  .subst ev;exact{a1,k _ H2 _ L2 (t1.trans<|T.trans t2) a0 (by rfl) q}⟩
end
def Ka(K:Af)(f:Str)(to tv:ji)(D:vd)(τ:j5)(L:qh):Prop:=to τ L λx L1=>match x with
 |.ref a=>sT L1 a λC fs=>_D K C/\Os K C f/\qC L1 (λv L1=>match v with
  |.int i=>tv τ L1 λy L2=>match y with
   |.int j=>sT L2 a λI sy=>I=C/\sy.length<1000/\D.nx τ (qg L2 a<|.ins C<|lL f (.int<|i+j) sy)
   |_=>False
  |_=>False) (fs.lookup f)
 |_=>False
theorem US{tv:ji}{f:Str}(ho:QE X o to)(hv:QE X value tv):QS X (.AugAssign (.Attribute o f vb) .Add value pos) (Ka X.K f to tv):=EM (QZ ho hv Q1) λD σ H τ L D3 r rl z k=>
 ⟨τ,L,_,r,rl,z,λv H1 y L1 t J T z1=>by
  split at z1
  .rename_i a;obtain⟨C,fs,e,c,n,z2⟩:=dh z1;obtain⟨y,ey,z3⟩:=wc z2;obtain⟨dx,xs,e2,pr⟩:=J a _ e;obtain⟨w,ew,a0⟩:=J8 pr ey;split at z3
   .rename_i i;cases (show w=V.int i from a0);refine{a,C,dx,xs,.int i,T,e2,c,n,ew,τ,L1,_,r.ts t,J,z3,λv2 H2 y2 L2 t2 U a1 z4=>?_};split at z4
    .rename_i j;obtain⟨C',a2,e',ec,hl,q⟩:=dh z4;subst ec;obtain⟨I,g,e3,l⟩:=U a _ e';have p:zp H2 (upd H2 a<|.ins C' I<|br f (.int<|i+j) g):=zp.ins e3;refine{i,j,rfl,a1,I,g,e3,by rw[<-cH l];exact hl,k.nx _ _ _ _ ((t.trans t2).trans p) (r.ts<|(t.trans t2).trans p) (λb u eb=>?_) q};by_cases cc:b=a
     .subst cc;rw[q9] at eb;cases eb;exact{I,_,zm,EH (J9 l f (y:=.int<|i+j) rfl) λ_ _ ⟨h1,h2⟩=>{h1,h2.ts p}}
     .rw[qb cc] at eb;exact(U b u eb).keep p (qp cc)
    .exact z4.elim
   .exact z3.elim
  .exact z1.elim⟩
structure Gn(mg:Z7)(x:Str)(y:Y):Prop where
 ex:∃u,mg x=some u/\zg (fk y) u/\∀G H,RV G H y<|fk y
def uJ(t:Gn X.mg x y)(I:Gl X x)(hd:Es x:=by decide):QE X (.Name x pos) (yC y):=by obtain⟨u,J,r,q⟩:=t.ex;exact EX (mz I J r hd) λH=>q X.g3 H
open PySem.AutoSeq1 (wpAny_loadPart')
section
open MeetsSeq MeetsSeq2 MeetsSeq3 SeqRoads2
theorem jw.rev{G:G3}{H:Hp}:∀{ys:_T} {xs:GT},jw G H ys xs->jw G H ys.reverse xs.reverse
 |[],xs,r=>by cases (show xs=[] from r);exact rfl
 |y::t,xs,r=>by obtain⟨x,I,rfl,J,U⟩:=r;rw[C5,C5];exact jw.app (jw.rev U)<|jw.one J
def Kb(x y:Y)(L:qh)(Q:YK):Prop:=dZ L x λxs=>dZ L y λys=>rV x=true/\rV y=true/\xs.length+ys.length<=sizeLine/\∀p,L p=none->Q (.ref p) (qg L p<|.lst<|xs++ys)
def UT(K:Af)(P:aam)(w:aan)(hK:X.K=K:=by rfl)(hP:X.prog=P:=by rfl)(hw:X.w=w:=by rfl):vi X (binaryOp .Add) (cf ⟨K,P,w⟩ Kb):=by
 subst hK hP hw;intro a0 s σ H x y v u Q I rx ry ⟨x3,y3,L,Q3,r1,r2,r,z,k⟩;obtain⟨xs,ex,z⟩:=vf z;obtain⟨ys,ey,z⟩:=vf z;obtain⟨lx,ly,hz,q⟩:=z;obtain⟨a,ws,rfl,s1,g⟩:=cA r r1 lx ex;obtain⟨b,a2,rfl,s2,j⟩:=cA r r2 ly ey;cases rx;cases ry;obtain⟨J,vx,tx,_⟩:=I.list s1;obtain⟨U,vy,ty,_⟩:=I.list s2;obtain⟨⟨cls,dd,data,sl⟩,ho,hc,n,hd⟩:=id<|jg tx;obtain⟨⟨a1,t,data2,C⟩,l,o,n2,p⟩:=id<|jg ty;simp only at hc hd o p;subst hc hd o p;have l1:=vx.length;have l2:=vy.length;have l3:=g.length;have l4:=j.length;have T:J.toArray.size+U.toArray.size<=sizeLine:=by rw[Au,Au];lia
 refine concat_meets {_,ho,rfl} {_,l,rfl} noFill_list_add seq_list_add PySem.F.slot_list_add PySem.F.entry_list_add (PySem.F.args_list_add_2 _ _) (PyProof.Rows.list_addW a b J.toArray U.toArray n n2 dd t sl C T) {ho,l,?_};have e:J.toArray++U.toArray=(J++U).toArray:=by simp
 rw[e];exact{.ref _,_,I.lnew (t':=s.toks) (vx.append vy) (by rw[Ab];lia),rfl,k _ _ _ _ (EG I.fresh) (r._P I.fresh<|g.app j) (by rfl)<|q _<|r.none I.fresh}
end
def Hu(x:Str):It:={λi _=>i<x.cps.size,λi H v H'=>H'=H/\∃c,x.cps[i]?=some c/\v=.str ⟨#[c]⟩,λi _=>x.cps.size<=i}
def UU{P:aam}{w:aan}{K:Af}(x:Str)(t:Tok)(it:Addr):xX P w K tg (Hu x) [it] it (λi h=>h.IsStrIter it "str_ascii_iterator" x t i) where
 mem:=by simp
 obj:=λi h st b U=>by
  have e:b=it:=by simpa using U
  subst e;obtain⟨o,e,c,d⟩:=st;exact{o,e,λv z=>by rw[d] at z;cases z}
 keep:=λi h l st k=>let ⟨o,e,r⟩:=st;⟨o,k it (by simp) o e,r⟩
 item:=by intro X C hw T hc i J s σ H E I p st g;subst C hw T;have g:i<x.cps.size:=g;obtain⟨f0,f1,f2,f3,f4,f5⟩:=p it (by simp);refine wpAny_pyNext_ascii_item st (c:=x.cps[i]) (by simp[g]) λl j sb=>?_;have I1:z0 X J σ H {s with heap:=l,toks:=s.toks+1}:=I.turned (λb o U e=>(sb.2 b U).trans e) f0 f1 f3 f4 f5;obtain⟨o,e,c,d⟩:=id j;exact{_,rfl,F1 (s:={s with heap:=l,toks:=s.toks+1}) e c d (by decide) {.str {#[x.cps[i]]},H,I1,{_,rfl},{rfl,_,by simp[g],rfl},j,λb U=>(p b U).1}}
 done:=by intro X C hw T hc i J s σ H E I p st g;subst C hw T;have g:x.cps.size<=i:=g;obtain⟨f0,f1,f2,f3,f4,f5⟩:=p it (by simp);exact wpAny_pyNext_ascii_end (I.ok.hd hc) st (by simp;omega) λl eb=>{rfl,I.turned (t':=s.toks) (λb o U e=>eb b o U e) f0 f1 f3 f4 f5}
 self:=λ_ _ _ _ _ st h=>wpAny_pyIter_striter_ascii st h
def UV(te:TE):TI:=λσ H R=>te σ H λv H1=>∃x,v=.str x/\x.cps.all (· < 128)=true/\R (Hu x) H1
def UW{te:TE}(j:PE X e te):PI X tg e (UV te):=by
 intro J s l H R I h;refine w9 (j J s l H _ I h) λv U ⟨y,p,g,r,x,C,T,q⟩=>?_;subst C;obtain⟨t,rfl⟩:=(show ∃t,v=Value.str x t from r);refine wpAny_pyIter_ascii T ?_;refine{U.heap.objs.size,[U.heap.objs.size],_,_,p,rfl,g.kept (t':=U.toks) λb o e=>wl _ e,UU x t _,{_,ya _ rfl,rfl,rfl},λb hb=>?_,q};have e:b=U.heap.objs.size:=by simpa using hb
 subst e;exact g.fpOk (Aj _)<|g.KB.fresh<|Aj _
def UX{w:aan}{y:Str}{t u:Tok}(j:(y.length==0)=false)
 (g:∀l k,l.map (·.1)=Txt.split x y->Q (.ref s.heap.objs.size) {s with heap:=s.heap.push {cls:=.type "list",data:=.seq (strValues l).toArray},toks:=k})
 (hsz:x.length<=sizeLine) (J:(Builtin.Str.partsBetween x (Builtin.Str.occurrences x y 0 x.length<|x.length+1) y.length).length<=sizeLine):
 wpAny (model prog w) A (call (.builtin "str.split") [.str x t,.str y u]) Q E s:=by
 cases I:(decide (x.length<y.length)||decide (Builtin.Str.strKind x<Builtin.Str.strKind y))
 .cases U:(Builtin.Str.occurrences x y 0 x.length<|x.length+1).isEmpty
  .refine call_meets F.slot_str_split (typeIs_str _ _ _) F.entry_str_split (EQ _ _) (meets_str_split_sep x y t u I j U hsz J) ?_;show wants Q E _ {s with toks:=_,heap:=s.heap.push {cls:=.type "list",data:=.seq (strsFrom s.toks<|Builtin.Str.partsBetween x (Builtin.Str.occurrences x y 0 x.length<|x.length+1) y.length).toArray}};rw[strsFrom_eq];exact g (numbered s.toks _) _<|(numbered_texts _ _).trans ((Az<|ne_true_of_eq_false I).trans<|Az<|ne_true_of_eq_false U).symm
  .exact call_meets F.slot_str_split (typeIs_str _ _ _) F.entry_str_split (EQ _ _) (meets_str_split_not_found x y t u I j U)
    (g [(x,t)] s.toks ((Az<|ne_true_of_eq_false I).trans<|AC U).symm)
 .exact call_meets F.slot_str_split (typeIs_str _ _ _) F.entry_str_split (EQ _ _) (meets_str_split_cannot_occur x y t u I)
   (g [(x,t)] s.toks (AC I).symm)
def asg:V->GT->Hp->VK->Prop:=λv vs H Q=>∃x y,v=.str x/\vs=[.str y]/\(y.length==0)=false/\x.length<=100000/\∀p,H p=none->Q (.ref p) (upd H p<|.lst<|(Txt.split x y).map V.str)
theorem rf:∀l:List (Str×Tok),ze ((l.map (·.1)).map V.str)<|strValues l
 |[]=>.nil
 |(x,t)::r=>.cons {(t),rfl}<|rf r
def cR(x:Str)(I:aab)(w:Nat):(Builtin.Str.partsBetween x I w).length=I.length+1:=by unfold Builtin.Str.partsBetween;simp
theorem UY :gc X "str.split" asg:=by
 intro g s T H v vs u us Q I o p ⟨x,y,ev,U,r,hz,q⟩;subst ev U;obtain⟨t,rfl⟩:=(show ∃t,u=Value.str x t from o);obtain⟨u',rfl,t',rfl⟩:=p.one;have j:=StrLaws.occ_length_le x y 0 x.length<|x.length+1;have J:∀n,n<=200000->n<=sizeLine:=λn h=>AF h (by decide);refine j6 I.tk (UX r (λl k e ht=>?_) (J _ (by exact Fy)) (J _ (by rw[cR];lia)));have C:((Txt.split x y).map V.str).length<=sizeLine:=by
  refine J _ ?_;rw[Ac];unfold Txt.split;split
  .show 1<=200000;decide
  .split
   .show 1<=200000;decide
   .rw[cR];lia
 refine{.ref s.heap.objs.size,_,I.lnew (t':=k) ?_ C,rfl,q _ I.fresh};rw[<-e];exact rf l
section
open PySem.Builtin.Str
def _i(c:Nat):aab->List (aab)
 |[]=>[[]]
 |d::r=>if d=c then []::_i c r else match _i c r with
  |[]=>[[d]]
  |h::t=>(d::h)::t
theorem _o(c:Nat):∀l,∃h t,_i c l=h::t
 |[]=>{_,_,rfl}
 |d::r=>by
  unfold _i;by_cases e:d=c
  .rw[AC e];exact{_,_,rfl}
  .rw[Az e];obtain⟨h,t,q⟩:=_o c r;rw[q];exact{_,_,rfl}
def _k{c:Nat}{r:aab}(e:d=c):_i c (d::r)=[]::_i c r:=by rw[_i,AC e]
def _y{c:Nat}{r h:aab}{t:List<|aab}(e:¬d=c)(q:_i c r=h::t):_i c (d::r)=(d::h)::t:=by rw[_i,Az e,q]
theorem _s(c:Nat):∀a b,_i c (a++c::b)=_i c a++_i c b
 |[],b=>by rw[BS,_k rfl];rfl
 |d::a,b=>by
  rw[DW];have I:=_s c a b;by_cases e:d=c
  .rw[_k e,_k e,I];rfl
  .obtain⟨h,t,q⟩:=_o c a;rw[q] at I;rw[_y e q,_y e (h:=h) (t:=t++_i c b) I];rfl
theorem _j{c:Nat}:∀{l:aab},c∉l->_i c l=[l]
 |[],_=>rfl
 |d::r,h=>by have q:=_j (c:=c) (l:=r) λz=>h<|Ag _ z;exact _y (λe=>h (by rw[e];exact An ..)) q
def idx(c:Nat):Nat->aab->aab
 |_,[]=>[]
 |a,d::r=>if d=c then a::idx c (a+1) r else idx c (a+1) r
def m4(c:Nat):(⟨#[c]⟩:Str).length=1:=rfl
def UZ(x:Str)(c a:Nat):subAt x ⟨#[c]⟩ a=((x.cps.toList.drop a).take 1==[c]):=by rw[StrLaws.subAt_eq];rfl
theorem yx(x:Str)(c:Nat):∀(r:aab) (a:Nat) (st:Array Nat×Nat),x.cps.toList.drop a=r->a+r.length=x.length->st.snd<=a->st.fst.size<=a->
 (forIn (List.range' a<|r.length+1) st<|StrLaws.occBody x {#[c]} x.length<|x.length+1).run.fst.toList=st.fst.toList++idx c a r
 |[],a,st,g,I,l,p=>by
  have I:a=x.length:=by simpa using I
  rw[BR,CN,Cj];unfold StrLaws.occBody;rw[Az (by rw[m4];omega)];simp[idx]
 |d::r,a,st,g,I,l,p=>by
  have J:x.cps.toList.drop (a+1)=r:=by rw[<-List.tail_drop,g];rfl
  have U:a+1+r.length=x.length:=by rw[<-I,Ap];simp +arith only
  rw[Ap,CN,Cj];have o:subAt x ⟨#[c]⟩ a=(d==c):=by rw[UZ,g];simp
  unfold idx;by_cases e:d=c
  .rw[AC e];have go:=yx x c r (a+1) (st.fst.push a,a+1) J U (Aj _) (by rw[Bn];exact Fz);have j:StrLaws.occBody x ⟨#[c]⟩ x.length (x.length+1) a st=pure (ForInStep.yield (st.fst.push a,a+1)):=by unfold StrLaws.occBody;rw[AC {{{by rw[Ap] at I;lia,l},by rw[m4];rw[Ap] at I;lia},by rw[o];simpa using e}];rfl
   rw[j];refine Eq.trans go ?_;rw[CF,Av];rfl
  .rw[Az e];have go:=yx x c r (a+1) st J U (by exact E8) (by exact E8);have j:StrLaws.occBody x ⟨#[c]⟩ x.length (x.length+1) a st=pure (ForInStep.yield (st.fst,st.snd)):=by unfold StrLaws.occBody;rw[Az (by rintro⟨_,z⟩;rw[o] at z;exact e (by simpa using z))]
   rw[j];exact go
def len_list(x:Str):x.cps.toList.length=x.length:=by simp[Str.length]
def Kc(x:Str)(c:Nat):occurrences x ⟨#[c]⟩ 0 x.length (x.length+1)=idx c 0 x.cps.toList:=by rw[StrLaws.occ_eq];have:=yx x c x.cps.toList 0 (#[],0) (by simp) (by rw[len_list];exact CA _ _) (Aj _)<|Aj _;rw[len_list] at this;rw[Ec,this];simp
def Kd(p:aab):List (aab)->List (aab)
 |[]=>[]
 |h::t=>(p++h)::t
theorem oK(x:Str)(c:Nat):∀(r:aab) (a b:Nat),x.cps.toList.drop b=r->b+r.length=x.length->a<=b->
 (StrLaws.partsFrom x 1 a<|idx c b r).map (λs=>s.cps.toList)=Kd ((x.cps.toList.drop a).take<|b-a) (_i c r)
 |[],a,b,g,I,j=>by
  have I:b=x.length:=by simpa using I
  show [(strSub x a x.length).cps.toList]=[(x.cps.toList.drop a).take (b-a)++[]];rw[StrLaws.strSub_toList,I,AG]
 |d::r,a,b,g,I,j=>by
  have J:x.cps.toList.drop (b+1)=r:=by rw[<-List.tail_drop,g];rfl
  have U:b+1+r.length=x.length:=by rw[<-I,Ap];simp +arith only
  unfold idx;by_cases e:d=c
  .rw[AC e,_k e];have go:=oK x c r (b+1) (b+1) J U<|Aj _;show(strSub x a b).cps.toList::(StrLaws.partsFrom x 1 (b+1)<|idx c (b+1) r).map (λs=>s.cps.toList)=((x.cps.toList.drop a).take (b-a)++[])::_i c r;rw[go,StrLaws.strSub_toList,AG,CO,CH];obtain⟨h,t,q⟩:=_o c r;rw[q];rfl
  .rw[Az e];have go:=oK x c r a (b+1) J U (by exact E8);obtain⟨h,t,q⟩:=_o c r;rw[go,q,_y e q];have l:(x.cps.toList.drop a).take (b+1-a)=(x.cps.toList.drop a).take (b-a)++[d]:=by
    have o:(x.cps.toList.drop a)[b-a]?=some d:=by
     rw[CY];have:(x.cps.toList.drop b)[0]?=some d:=by rw[g];rfl
     rw[CY] at this;have p:a+(b-a)=b+0:=by lia
     rw[p];exact this
    have C:b+1-a=(b-a)+1:=by lia
    rw[C,AW,o];rfl
   rw[l];show((x.cps.toList.drop a).take (b-a)++[d]++h)::t=((x.cps.toList.drop a).take (b-a)++d::h)::t;rw[Av];rfl
def U0(x:Str)(c:Nat):(partsBetween x (occurrences x ⟨#[c]⟩ 0 x.length<|x.length+1) 1).map (λs=>s.cps.toList)=_i c x.cps.toList:=by rw[StrLaws.partsBetween_eq,Kc];have:=oK x c x.cps.toList 0 0 (by simp) (by rw[len_list];lia)<|Aj _;rw[this];obtain⟨h,t,q⟩:=_o c x.cps.toList;rw[q];simp[Kd]
theorem Ke{c:Nat}:∀{l:aab} {a:Nat},idx c a l=[]->c∉l
 |[],_,_=>by simp
 |d::r,a,h=>by
  unfold idx at h;by_cases e:d=c
  .rw[AC e] at h;cases h
  .rw[Az e] at h;intro z;rcases Aq.mp z with z|z
   .exact e z.symm
   .exact Ke h z
def U3(x:Str)(c:Nat)(hc:c<256):¬Builtin.Str.strKind x<Builtin.Str.strKind ⟨#[c]⟩:=by
 have I:Builtin.Str.strKind ⟨#[c]⟩=1:=by unfold Builtin.Str.strKind;simp[hc]
 have J:1<=Builtin.Str.strKind x:=by unfold Builtin.Str.strKind;split<;>(try split)<;>decide
 lia
def _Q(x:Str)(c:Nat)(hc:c<256):(Txt.split x ⟨#[c]⟩).map (λs=>s.cps.toList)=_i c x.cps.toList:=by
 unfold Txt.split;have U:=U3 x c hc;by_cases J:x.length<1
 .have e:x.cps.toList=[]:=DX.mp (by rw[len_list];lia);rw[AC (by rw[m4];simp[J])];simp[e,_i]
 .rw[Az (by rw[m4];simp[J,U])];by_cases I:(occurrences x ⟨#[c]⟩ 0 x.length<|x.length+1).isEmpty=true
  .rw[AC I];rw[Kc] at I;rw[_j<|Ke<|List.isEmpty_iff.mp I];rfl
  .rw[Az I];exact U0 x c
def gl(z:aab):List (aab)->aab
 |[]=>[]
 |p::r=>p++r.flatMap λq=>z++q
theorem xF(z:Str):∀(r:aac) (I:Array Nat),(r.foldl (λI p=>I++z.cps++p.cps) I).toList=I.toList++(r.map λs=>s.cps.toList).flatMap λq=>z.cps.toList++q
 |[],I=>by simp
 |p::r,I=>by rw[Eg,xF z r];simp[Av]
def glued_list(z:Str)(ps:aac):(glued z ps).cps.toList=gl z.cps.toList (ps.map λs=>s.cps.toList):=by
 cases ps with
 |nil=>rfl
 |cons p r=>
  show((r.foldl (λI p=>I++z.cps++p.cps) p.cps)).toList=_;rw[xF];rfl
def _x(l:aab):List (aab):=(_i 32 l).filter λw=>!w.isEmpty
def _u(a b:aab):_x (a++32::b)=_x a++_x b:=by unfold _x;rw[_s,BW]
def wds_one{l:aab}(h:32∉l)(I:l≠[]):_x l=[l]:=by unfold _x;rw[_j h];cases l with|nil=>exact absurd rfl I|cons d r=>rfl
end
section
variable {isp imk c j1 j2:Nat}{sp mk:Str}{u:Tok}{m:Z7}{p6 p7 p8 p9 p10:Pos}{Q:Flow->aal->Prop}
end
def h_(x:Str):_T:=x.cps.toList.map λc=>Y.str {#[c]}
def yn(x:Str):dw G H₀ (Hu x) (h_ x) (λ_=>True) where
 go:=λi H L t I U j=>show i<x.cps.size by simpa[h_] using j
 yld:=λi H L v o y t I U J ⟨e,c,l,ev⟩=>by subst e ev;refine{EF _,I,?_};unfold h_ at J;rw[Al] at J;obtain⟨z,g,e⟩:=Ax.mp J;rw[A4,l] at g;cases g;subst e;rfl
 stop:=λH L t I U=>by show x.cps.size<=(h_ x).length;simp[h_]
def U4(te:ji)(τ:j5)(L:qh)(R:_T->(qh->Prop)->qh->Prop):Prop:=te τ L λx L1=>match x with
 |.str z=>z.cps.all (· < 128)=true/\R (h_ z) (λ_=>True) L1
 |_=>False
def Kf(h:QE X e te):QI X tg e (U4 te):=PI._c (UW h) λt H R g L C j l z k=>by refine{g,L,_,j,l,z,λv o y p r I J U=>?_};cases y with|str x=>exact{x,J,U.1,k _ o _ _ p r I (yn x) U.2}|_=>exact U.elim
def yM(x:Y)(vs:_T)(L:qh)(Q:YK):Prop:=match x,vs with
 |.str z,[.str y]=>(y.length==0)=false/\z.length<=100000/\∀p,L p=none->Q (.ref p) (qg L p<|.lst<|(Txt.split z y).map Y.str)
 |_,_=>False
theorem uf{G:G3}{H:Hp}:∀zs:aac,jw G H (zs.map Y.str)<|zs.map V.str
 |[]=>rfl
 |_::r=>{_,_,rfl,rfl,uf r}
def alt :gc X "str.split" (l_ X.g3 yM):=gc._c UY λx l H Q y o L r U g J z k=>by
 unfold yM at z;split at z
 .rename_i a b;obtain⟨t,rfl,j⟩:=g.inv1;cases j;cases U;exact{a,b,rfl,rfl,z.1,z.2.1,λp I=>k _ _ _ _ (EG I) (J._P I<|uf _) (by rfl)<|z.2.2 p<|J.none I}
 .exact z.elim
def pq(I:QE X o to)(J:QA X (e::es) tr)(U:A' X o e es "split" apos eS:=by exact{(rfl),rfl,rfl,rfl,rfl}):
 QE X (.Call (.Attribute o "split" apos) (e::es) [] eS) (FK yM to tr):=J4 PySem.F.slot_str_split PySem.F.type_str_split alt I J U
def U5:vi X (compareOp .LtE) (λx y H Q=>∃i j,x=.str i/\y=.str j/\Q (.bl<|!decide (j.cps.toList<i.cps.toList)) H):=by rintro J s l H x y v u Q I U g⟨i,j,rfl,rfl,q⟩;obtain⟨t,rfl⟩:=U;obtain⟨o,rfl⟩:=g;exact PySem.P.le_str<|gW I q rfl
def wI(neg:Bool):vi X (compareOp<|if neg then .NotIn else .In) (λx y H Q=>∃k a kvs,x=.str k/\y=.ref a/\KD X.K X.prog X.w a kvs/\Q (.bl<|if neg then !(aH kvs<|Sum.inr k).isSome else(aH kvs<|Sum.inr k).isSome) H):=by
 intro g s r H x y v u Q I j l ⟨k,a,kvs,ex,o,p,q⟩;subst ex o;cases (show u=Value.ref a from l);have J:zg (kV<|Sum.inr k) v:=j;obtain⟨hd,z,U⟩:=p;obtain⟨t,rel,U⟩:=U s.heap I._w;have e:=(rel.val<|Sum.inr k).P3;cases neg with
 |false=>
  refine wpAny_in_of (fv (P:=X.prog) (w:=X.w) J) hd U.mapOf ?_;rw[<-e];exact{.bl _,H,I.tok _,rfl,q}
 |true=>
  refine wpAny_notIn_of (fv (P:=X.prog) (w:=X.w) J) hd U.mapOf ?_;rw[<-e];exact{.bl _,H,I.tok _,rfl,q}
abbrev qE(i j:Str):Bool:=!decide (j.cps.toList<i.cps.toList)
def Kg(x y:Y)(L:qh)(Q:YK):Prop:=match x,y with
 |.str i,.str j=>Q (.bl<|qE i j) L
 |_,_=>False
def Go :vi X (compareOp .LtE) (cf X.g3 Kg):=EV U5 λx y H Q g j L l I J U z k=>by
 unfold Kg at z;split at z
 .cases I;cases J;exact{_,_,rfl,rfl,k _ H _ L (EF _) U (by rfl) z}
 .exact z.elim
def uc(kvs:List<|Str×Str)(k:Str):(aH (kvs.map λp=>((Sum.inr p.1:zr),V.str p.2))<|Sum.inr k).isSome=(kvs.lookup k).isSome:=by
 cases h:kvs.lookup k with
 |some x=>rw[kZ h];rfl
 |none=>
  induction kvs with
  |nil=>rfl
  |cons p r I=>
   obtain⟨a,b⟩:=p;rw[Bg] at h;unfold aH;rw[AI,Bq];by_cases c:k=a
   .subst c;simp at h
   .have J:(k==a)=false:=by simpa using c
    rw[J] at h;have U:decide ((Sum.inr a:zr)=Sum.inr k)=false:=Aw λz=>c (E4 z).symm;simp only[U];exact I h
def Kh(neg:Bool)(x y:Y)(L:qh)(Q:YK):Prop:=match x,y with
 |.str k,.cd kvs=>Q (.bl<|nb neg (kvs.lookup k).isSome) L
 |_,_=>False
def U6(K:Af)(P:aam)(w:aan)(I:X.K=K:=by rfl)(J:X.prog=P:=by rfl)(hw:X.w=w:=by rfl):vi X (compareOp .NotIn) (cf ⟨K,P,w⟩<|Kh true):=by
 subst I J hw;refine EV (wI true) λx y H Q r t L C U g j z k=>?_;unfold Kh at z;split at z
 .rename_i l o;cases U;obtain⟨a,rfl,p⟩:=g;refine{l,a,_,rfl,rfl,p,?_};rw[AC rfl,uc];exact k _ H _ L (EF _) j (by rfl) z
 .exact z.elim
def tR(s:Stmt):aae:=match s with
 |.ClassDef _ _ _ b _ _ _ _ _ _ _=>b
 |_=>[]
structure ah5(P:aam)(w:aan)(K:Af)(mg:Z7)(base:aao)(k:Nat)(C:Addr)(m:Str)(ps:aac)(sp:jf):Prop where
 ex:∃g fd,Fw K C m g/\Fn3 P w K mg base k g fd ps sp/\aI K fd ps []
structure agd(P:aam)(w:aan)(K:Af)(mg:Z7)(base:aao)(k:Nat)(C:Addr)(ps:aac)(sp:jf):Prop where
 ex:∃g fd,Mk K C g/\(∃j,k=j+1/\Fn3 P w K mg base j g fd ps sp)/\aI K fd ps []
theorem ah5.mono{P:aam}{w:aan}{K:Af}{k:Nat}{m:Str}(c:ah5 P w K mg base j C m ps sp)(h:j<=k):ah5 P w K mg base k C m ps sp:=by obtain⟨g,fd,M,F,b⟩:=c.ex;exact{g,fd,M,F.mono h,b}
theorem agd.mono{P:aam}{w:aan}{K:Af}{k:Nat}(c:agd P w K mg base j C ps sp)(h:j<=k):agd P w K mg base k C ps sp:=by obtain⟨g,fd,M,⟨i,e,F⟩,b⟩:=c.ex;subst e;exact{g,fd,M,{k-1,by omega,F.mono (by omega)},b}
section
variable {m:Str}{k:Nat}
def Hv{pl:Sem Bool}(J:ah5 X.prog X.w X.K X.mg X.base k C m ps sp)(U:wf k X.A)(c:_D X.K C)(j:QE X o to)
 (l:eval (.Call (.Attribute o m apos) [] [] pos) X.env=(do
  let I <-eval o X.env
  standAt apos.atName
  let (f,first) <-holding [I] (getMethod I m pl)
  callWith pos f first (backTo pos<|starEach [] X.env) (backToKw pos<|keywordEach [] X.env)):=by rfl):
 QE X (.Call (.Attribute o m apos) [] [] pos) (oJ C m sp to):=by
 obtain⟨g,fd,M,F,b⟩:=J.ex;exact UQ (pl:=pl) j c M F U b l
def U7(ci:agd X.prog X.w X.K X.mg X.base k C ps sp)(U:wf k X.A)(l:Gl X x)(o:X.mg x=some (.ref C))(r:QA X (e::es) tr)
 (I:Es x:=by decide) (t:Ep e es X:=by rfl) (J:Er pos es X:=by rfl):
 QE X (.Call (.Name x p) (e::es) [] pos) (Ht C sp tr):=by
 obtain⟨g,fd,M,⟨j,T,F⟩,b⟩:=ci.ex;subst T;exact UR M F U l o b r I t J
end
structure gJ(K:Af)(C:Addr)(x ee:Str)(st:Stmt):Prop where
 ex:∃(f:Addr) (kV fx pm:aak) (an:Option Addr) (eK ct:aak),PySem.W.findIn K (.ref C) x=some (some<|.ref f)/\PySem.W.isFn K (.ref f)=true/\Fun K x ee st f (PySem.W.fnOf x ee (xo st) (jl st) (za st) .none kV fx pm an eK ct)
def meth_in{K:Af}{kV:aak}(a:PySem.W.findIn K (.ref C) x=some (some<|.ref f))
 (l:K.lookup f=some ⟨oc,od,.func<|PySem.W.fnOf x ee (xo st) (jl st) (za st) .none kV fx pm an eK ct,oi⟩) (c:PySem.W.codeIn K eK ee=true) (k:PySem.W.keepIn K (.ref f)=true) (i:PySem.W.isFn K (.ref f)=true):gJ K C x ee st:=
 ⟨f,kV,fx,pm,an,eK,ct,a,i,Je (st:=st) l c k⟩
def gJ.use{K:Af}(D:gJ K C x ee st)
 (I:∀(kV fx pm:aak) (an:Option Addr) (eK ct:aak) (us:Z_),us.length=ps.length->bindArgs (PySem.W.fnOf x ee (xo st) (jl st) (za st) .none kV fx pm an eK ct) ⟨us,[]⟩=pure (ps.zip us)):
 ∃f fd,Fun K x ee st f fd/\aI K fd ps []/\Fw K C x f:=by
 obtain⟨f,kV,fx,pm,an,eK,ct,a,i,F⟩:=D.ex;exact{f,_,F,aI.all<|I kV fx pm an eK ct,{(a),i,F.kp}}
def top(i:Nat):Stmt:=PySem.Challenge.pw_oncewise_k24_texts_and_back.main.body.getD i<|.Pass {0,0,0,0}
abbrev rX:Stmt:=top 8
abbrev sL:Stmt:=top 9
abbrev wJ:Stmt:=top 10
abbrev rg:Stmt:=top 12
abbrev ig:Stmt:=top 13
abbrev du:Stmt:=top 14
abbrev pH:Stmt:=top 15
abbrev oQ:Stmt:=top 16
abbrev kW:Stmt:=top 17
abbrev lD:Stmt:=top 18
abbrev kY:Stmt:=top 19
abbrev rc:Stmt:=top 20
abbrev gm:Stmt:=top 21
abbrev uo:Stmt:=top 22
abbrev kU:Stmt:=top 26
abbrev rA:Stmt:=top 27
abbrev nU:Stmt:=top 28
abbrev rM:Stmt:=top 29
abbrev nQ:Stmt:=top 30
abbrev wN:Stmt:=top 31
abbrev sE:Stmt:=top 32
abbrev bF:Stmt:=top 33
abbrev Ki:Stmt:=top 34
abbrev dm:Stmt:=top 35
abbrev hE:Stmt:=top 41
abbrev dU:Stmt:=top 42
abbrev o9:Stmt:=top 43
abbrev sQ:Stmt:=top 44
abbrev gj:Stmt:=top 45
abbrev kJ:Stmt:=top 46
abbrev gA:Stmt:=top 47
abbrev mJ:Stmt:=top 48
abbrev lF:Stmt:=top 49
abbrev gx:Stmt:=top 50
abbrev cD:Stmt:=(tR<|top 52).getD 0<|.Pass {0,0,0,0}
abbrev cO:Stmt:=(tR<|top 52).getD 1<|.Pass {0,0,0,0}
abbrev hU:Stmt:=top 55
abbrev fG:Stmt:=top 56
abbrev ug:Stmt:=top 57
abbrev kH:Stmt:=top 58
abbrev lC:Stmt:=top 59
abbrev pJ:Stmt:=top 61
abbrev lO:Stmt:=top 62
abbrev mE:Stmt:=top 63
abbrev mG:Stmt:=top 64
abbrev gF:Stmt:=top 65
abbrev qK:Stmt:=top 66
abbrev lu:Stmt:=top 67
abbrev kI:Stmt:=top 68
abbrev xQ:Stmt:=top 69
abbrev SC:Stmt:=top 70
abbrev iZ:Stmt:=top 71
abbrev fE:Stmt:=top 72
abbrev mD:Stmt:=top 73
abbrev lW:Stmt:=top 74
abbrev dO:Stmt:=top 75
abbrev i5:Stmt:=top 76
abbrev bS:Stmt:=top 77
abbrev hJ:Stmt:=top 78
abbrev gv:Stmt:=top 79
abbrev gH:Stmt:=top 80
abbrev wH:Stmt:=top 81
structure V_ where
 (P:aam) (w:aan) (K:Af) (mg:Z7) (base:aao) (Pt:Addr) (Ca:Addr)
structure B0_(V:V_):Prop where
 b_all:V.mg "all"=none
 ba:V.mg "len"=none
 bg:V.mg "enumerate"=none
 b_set:V.mg "set"=none
 bf:V.mg "range"=none
 b_any:V.mg "any"=none
 bh:V.mg "list"=none
 b_zip:V.mg "zip"=none
 b_int:V.mg "int"=none
 be:V.mg "str"=none
 bi:V.mg "tuple"=none
 bj:V.mg "max"=none
 bn:V.mg "sorted"=none
 b_min:V.mg "min"=none
 bb:V.mg "isinstance"=none
 b_reversed:V.mg "reversed"=none
 b_bool:V.mg "bool"=none
 zA0:Gn V.mg "MOST_LETTERS" (Y.int 8)
 zB3:Fi ⟨V.K,V.P,V.w⟩ V.mg "LEAF_KINDS" qS
 zA1:Fi ⟨V.K,V.P,V.w⟩ V.mg "TURNED_KINDS" mL
 zA2:F7 ⟨V.K,V.P,V.w⟩ V.mg "PLACE_COUNTS" jj
 zB4:Fi ⟨V.K,V.P,V.w⟩ V.mg "LEAF_SIGNS" qW
 zA3:Gn V.mg "MOST_FIGURES" (Y.int 4)
 zB5:Fi ⟨V.K,V.P,V.w⟩ V.mg "SIGN_KINDS" qX
 zB6:Fi ⟨V.K,V.P,V.w⟩ V.mg "KNOT_KINDS" qF
 zA4:Gn V.mg "MOST_WITHIN" (Y.int 150)
 zB7:F7 ⟨V.K,V.P,V.w⟩ V.mg "ARM_COUNTS" xw
abbrev Q_(V:V_)(k:Nat)(x:Str)(ps:aac)(sp:jf):Prop:=Hh V.P V.w V.K V.mg V.base k x ps sp
def I_{a b:Expr}(I:QE X a ta)(J:QE X b tb)(U:i8 b:=by exactλ_ _=>rfl):QE X (.Subscript a b pos) (aZ u5 ta tb):=SW (JJ X.K X.prog X.w) I J U
def zn{t:ji}(h:QE X e t)(s:starEach [e] X.env=[(false,eval e X.env)]:=by rfl):QA X [e] (zb t vj):=kg h x5 s
def vo{f:Expr}{t u:ji}(h:QE X e t)(g:QE X f u)(s:starEach [e,f] X.env=[(false,eval e X.env),(false,eval f X.env)]:=by rfl)(r:starEach [f] X.env=[(false,eval f X.env)]:=by rfl):QA X [e,f] (zb t<|zb u vj):=kg h (zn g r) (by show _=_;rw[s,r])
def df{f d:Expr}{t u v:ji}(h:QE X e t)(g:QE X f u)(i:QE X d v)(s:starEach [e,f,d] X.env=[(false,eval e X.env),(false,eval f X.env),(false,eval d X.env)]:=by rfl)(r:starEach [f,d] X.env=[(false,eval f X.env),(false,eval d X.env)]:=by rfl)(q:starEach [d] X.env=[(false,eval d X.env)]:=by rfl):QA X [e,f,d] (zb t<|zb u<|zb v vj):=kg h (vo g i r q) (by show _=_;rw[s,r])
def E_{a b:Expr}(I:X.A.units+128<cLine)(J:QE X a ta)(U:QE X b tb):QT X (.Compare a [.Eq] [b] pos) (yB<|aZ (o_ false) ta tb):=jo (iz X.K X.prog X.w I) J U<|jy _
def N_{a b:Expr}(I:X.A.units+128<cLine)(J:QE X a ta)(U:QE X b tb):QT X (.Compare a [.NotEq] [b] pos) (yB<|aZ (o_ true) ta tb):=jo (JO X.K X.prog X.w I) J U<|jy _
def S_(i:Nat)(hN:X.N.Nodup)(h:QE X e te)(I:X.N[i]?=some x:=by rfl)(g:Loc X.env.scope x:=by exact Or.inl rfl)(J:swapsWith e (some<|.Name x fm) pos.line X.env=pure false:=by rfl)(U:X.fn x=true\/X.env.scope.names.lookup x=some .local:=by first|exact .inl rfl|exact .inr rfl|assumption):QS X (.Assign [.Name x fm] e pos) (km te<|qz i):=bq (i:=i) hN I g h J U
def G_(i:Nat)(hN:X.N.Nodup)(I:X.N[i]?=some x:=by rfl)(U:Loc X.env.scope x:=by exact Or.inl rfl)(J:X.fn x=true\/X.env.scope.names.lookup x=some .local:=by first|exact .inl rfl|exact .inr rfl|assumption):QG X (.Name x pos) (qz i):=fO (i:=i) hN I U J
def C_{k:Nat}(c:Hh X.prog X.w X.K X.mg X.base j x ps sp)(U:wf k X.A)(g:QA X (e::es) tr)(l:j<=k:=by first|decide|exact Aj _|exact AF (by decide)<|Ds _ _)(o:Gl X x:=by rfl)(I:Es x:=by decide)(r:Ep e es X:=by rfl)(J:Er pos es X:=by rfl):QE X (.Call (.Name x p) (e::es) [] pos) (vh sp tr):=Tk (Cal.mono c l) U o g I r J
def J_{n:Int}{k:Nat}{q:Pos}(i:Nat)(hN:X.N[i]?=some x:=by rfl)(I:D_ X.env.scope x:=by first|exact Or.inl rfl|exact Or.inr (Or.inl rfl)|exact Or.inr<|Or.inr rfl)(hd:Es x:=by decide)(hc:Et x:=by decide):QE X (.Subscript (.Name x p) (.Constant (.int n) k q) pos) (aZ u5 (qw i)<|yC<|.int n):=I_ (qv i hN I hd hc) qe λ_ _=>rfl
def L_{t:ji}(I:X.mg "len"=none)(h:QE X e t)(s:starEach [e] X.env=[(false,eval e X.env)]:=by rfl)(J:Gl X "len" := by rfl):QE X (.Call (.Name "len" p) [e] [] pos) (u_ Fb<|zb t vj):=vv (SY X.K X.prog X.w) J I zO (zn h s) (hs:=s)
def Gp{l:aac}(h:decide l.Nodup=true:=by kernel_rfl):l.Nodup:=of_decide_eq_true h
abbrev Kj(V:V_):=Q_ V 1 "is_name" ["text"]
abbrev Fk(V:V_):=Q_ V 1 "is_leaf" ["word"]
abbrev Hw(V:V_):=Q_ V 122 "turned" ["word"]
abbrev Kk(V:V_):=Q_ V 122 "word_at" ["knots","place"]
abbrev Kl(V:V_):=Q_ V 2 "holds_leaf" ["knot"]
abbrev Km(V:V_):=Q_ V 1 "places_there" ["knots"]
abbrev Gq(V:V_):=Q_ V 2 "parts_of" ["knot"]
abbrev Hx(V:V_):=Q_ V 3 "parts_in" ["knots"]
abbrev Hy(V:V_):=Q_ V 1 "each_once" ["places"]
abbrev Ko(V:V_):=Q_ V 3 "parts_fit" ["knots","place"]
abbrev Kq(V:V_):=Q_ V 4 "are_knots" ["knots"]
abbrev Kr(V:V_):=Q_ V 123 "is_link" ["knots","p","q"]
abbrev Ks(V:V_):=Q_ V 4 "can_be_cut" ["knots","place"]
abbrev Kt(V:V_):=Q_ V 123 "is_cut" ["knots","p","q"]
abbrev Hz(V:V_):=Q_ V 1 "places_of" ["rule"]
abbrev Gr(V:V_):=Q_ V 1 "arms_of" ["rule"]
abbrev HA(V:V_):=Q_ V 122 "rules_in" ["rule"]
abbrev HB(V:V_):=Q_ V 2 "told_by" ["rule"]
abbrev Ku(V:V_):=Q_ V 3 "taken_by" ["knots","rule"]
abbrev Gs(V:V_):=Q_ V 1 "demand" ["holds","words"]
abbrev Kv(V:V_):=Q_ V 124 "ends_by" ["knots","rule"]
abbrev Kw(V:V_):=Q_ V 3 "demand_told_once" ["knots","rule"]
abbrev Kx(V:V_):=Q_ V 124 "fits" ["knots","rule"]
abbrev Ky(V:V_):=Q_ V 125 "checked_tree" ["tree"]
abbrev Kz(V:V_):=Q_ V 2 "shown_knot" ["knot"]
abbrev KA(V:V_):=Q_ V 3 "written_knots" ["knots"]
abbrev KC(V:V_):=Q_ V 1 "words_in" ["line"]
abbrev KE(V:V_):=Q_ V 2 "rows_in" ["text"]
abbrev KG(V:V_):=Q_ V 1 "rows_ahead" ["rows","word"]
abbrev KH(V:V_):=Q_ V 1 "is_number" ["word"]
abbrev HE(V:V_):=Q_ V 2 "number_from" ["word"]
abbrev KI(V:V_):=Q_ V 2 "leaf_from" ["word"]
abbrev KJ(V:V_):=Q_ V 3 "knot_from" ["words"]
abbrev KL(V:V_):=Q_ V 4 "knots_from" ["rows"]
abbrev KN(V:V_):=Q_ V 123 "shown_rule" ["rule"]
abbrev U8(V:V_):=Q_ V 124 "written_tree" ["tree"]
abbrev U9(V:V_):=Q_ V 123 "rule_from" ["walk","within"]
abbrev KO(V:V_):=Q_ V 124 "outermost_from" ["words"]
abbrev U_(V:V_):=Q_ V 126 "read_tree" ["text"]
abbrev HF(V:V_):=Q_ V 1 "_law_mix" ["_law_cell","_law_k","_law_factor"]
abbrev KP(V:V_):=Q_ V 1 "_law_name" ["_law_seed","_law_which"]
abbrev Va(V:V_):=Q_ V 121 "_law_word" ["_law_knots","_law_p"]
abbrev Vb(V:V_):=Q_ V 121 "_law_flip" ["_law_word_here"]
abbrev Vc(V:V_):=Q_ V 121 "_law_weight" ["_law_word_here"]
abbrev Vd(V:V_):=Q_ V 127 "_law_mirror" ["_law_knots","_law_word_here"]
abbrev KQ(V:V_):=Q_ V 1 "_law_join" ["_law_knots","_law_forest","_law_one","_law_two"]
abbrev KR(V:V_):=Q_ V 1 "_law_fold" ["_law_knots","_law_tree_here","_law_one","_law_two"]
abbrev KS(V:V_):=Q_ V 128 "_law_cut" ["_law_knots","_law_forest","_law_one","_law_two"]
abbrev KU(V:V_):=Q_ V 2 "_law_order" ["_law_knots","_law_seed"]
abbrev KY(V:V_):=Q_ V 121 "_law_moved" ["_law_rule","_law_at"]
abbrev KZ(V:V_):=Q_ V 122 "_law_renamed" ["_law_knots","_law_rule","_law_seed"]
abbrev Ve(V:V_):=Q_ V 129 "_law_tree" ["_law_cells","_law_seed","_law_room"]
abbrev Gu(V:V_):=Q_ V 1 "_law_arms" ["_law_rule"]
abbrev Vf(V:V_):=Q_ V 2 "_law_gathered" ["_law_rule"]
abbrev Vg(V:V_):=Q_ V 1 "_law_lines" ["_law_knots"]
abbrev Vh(V:V_):=Q_ V 2 "_law_rule_words" ["_law_rule"]
abbrev Vi(V:V_):=Q_ V 125 "_law_alike" ["_law_found","_law_due"]
abbrev Vj(V:V_):=Q_ V 2 "_law_loose" ["_law_lines_here","_law_cells"]
abbrev Vk(V:V_):=Q_ V 2 "_law_within" ["_law_rule","_law_number"]
abbrev FO(V:V_)(k:Nat)(N:aac)(x:Str)(st:Stmt)(f:Addr)(t:fe):Prop:=∀(eK:aak) (A:Around) (outer:List Env) (s:aal) (H:Hp) (E:XK),wf k (A.deeper<|PyProof.Rows.envOfC x (za st) s.heap.objs.size f eK)->N.Nodup->(A.deeper<|PyProof.Rows.envOfC x (za st) s.heap.objs.size f eK).units+128<cLine->b_ (qN CX0 V.P V.w V.K V.mg V.base N x (za st) f eK A outer s H E).nox (jl st) t
abbrev HG(x:Str)(st:Stmt)(ps:aac):Prop:=∀(kV fx pm:aak) (an:Option Addr) (eK ct:aak) (us:Z_),us.length=ps.length->bindArgs (PySem.W.fnOf x x (xo st) (jl st) (za st) .none kV fx pm an eK ct) ⟨us,[]⟩=pure (ps.zip us)
abbrev RD(x:Str)(st:Stmt)(k:Nat)(N:aac)(h:V_->Prop):=PSigma λt:fe=>∀V:V_,B0_ V->h V->∀f:Addr,FO V k N x st f t
abbrev RR(x:Str)(st:Stmt)(k:Nat)(ps N:aac)(p:jf)(h:V_->Prop):=PSigma λt:fe=>∀V:V_,B0_ V->h V->∀(n:Nat) (f:Addr),Q_ V (n+k) x ps p->FO V (n+k) N x st f t
def dX(i:Nat)(hi:X.N.length=i:=by rfl)(hN:(X.N++[x]).Nodup:=by exact Gp)(J:∀C fp s₀ H₀,Loc (X.comp scope [x] C fp s₀ H₀).env.scope x:=by exactλ_ _ _ _=>Or.inl rfl)(I:∀C fp s₀ H₀,(X.comp scope [x] C fp s₀ H₀).env.scope.names.lookup x=some .local:=by exactλ_ _ _ _=>rfl):Fg X scope [x] (.Name x p) (qz i):=hi▸oB hN J I
def Vl{y:Str}{I pt:Pos}(i:Nat)(hi:X.N.length=i:=by rfl)(hc:X.calm=true:=by rfl)(hN:(X.N++[x,y]).Nodup:=by exact Gp)(U:∀C fp s₀ H₀,(X.comp scope [x,y] C fp s₀ H₀).env.scope.names.lookup x=some .local:=by exactλ_ _ _ _=>rfl)(J:∀C fp s₀ H₀,(X.comp scope [x,y] C fp s₀ H₀).env.scope.names.lookup y=some .local:=by exactλ_ _ _ _=>rfl)(h1:∀env,(assignEach [.Name x p,.Name y I] env).length=2:=by intro _;rfl)(h2:∀env,(assignEach [.Name x p,.Name y I] env).findIdx? (·.1)=none:=by intro _;rfl)(g:∀env,(assignEach [.Name x p,.Name y I] env).map (·.2)=assign (.Name x p) env::(assignEach [.Name y I] env).map (·.2):=by intro _;rfl)(j:∀env,(assignEach [.Name y I] env).map (·.2)=assign (.Name y I) env::(assignEach [] env).map (·.2):=by intro _;rfl):Fg X scope [x,y] (.Tuple [.Name x p,.Name y I] kt pt) (lv 2<|v5 (qz i)<|v5 (qz<|i+1) gB):=hi▸Tj hc hN U J h1 h2 g j
def qU(z:Str)(n:Nat):aab:=(List.replicate n z.cps.toList).flatten
def sm(z:Str)(n:Nat):Str:={(qU z n).toArray}
def xM(xs:List<|Array Nat):∀I:Array Nat,(xs.foldl (· ++ ·) I).toList=I.toList++(xs.map Array.toList).flatten:=by induction xs with|nil=>intro I;simp|cons a r J=>intro I;rw[Eg,J];simp[Av]
def Vm(z:Str)(n:Nat):(⟨(List.replicate n z.cps).foldl (· ++ ·) #[]⟩:Str)=sm z n:=by apply Str.ext';apply Dk.mp;show((List.replicate n z.cps).foldl (· ++ ·) #[]).toList=(qU z n).toArray.toList;rw[xM];simp[qU]
def Vn(z:Str)(n:Nat):(qU z n).length=n*z.length:=by
 unfold qU
 induction n with|zero=>simp|succ n I=>rw[List.replicate_succ,List.flatten_cons,Ab,I,len_list,Nat.succ_mul,CA]
def xW :vi X (binaryOp .Mult) (λx y H Q=>∃z,∃n:Nat,x=.str z/\y=.int n/\n<=1000/\z.length<=100/\Q (.str<|sm z n) H):=by
 intro U s p H x y v u Q I r C ⟨z,n,ex,T,hn,hz,q⟩;subst ex T;obtain⟨t,rfl⟩:=(show ∃t,v=Value.str z t from r);obtain⟨t',rfl⟩:=(show ∃t,u=Value.int n t from C);have J:z.length*n<=100000:=Nat.mul_le_mul (by omega:z.length<=100) hn;refine PySem.P.mul_str ?_ ?_ ?_ ?_
 .rw[Aw (by lia),Aw (by lia)];rfl
 .intro h1 _ o;have:(1000:Int)<=(2 ^ 63-1) / ((n:Int)):=Int.le_ediv_of_mul_le (by omega) (by lia);lia
 .intro _ _;unfold Builtin.Str.tooLong;exact Aw (by have e:(n:Int).toNat=n:=rfl;rw[e];exact Eb.mpr<|AF J (by decide))
 .split
  .rename_i h;have:n=0:=by lia
   subst this;have e:Str.empty=sm z 0:=rfl;rw[e];exact{by show 0<=_;exact Bb _,{.str<|sm z 0,H,I.tok _,{_,rfl},q}}
  .split
   .rename_i h1 o;have e:z=sm z n:=by
     rcases Bool.or_eq_true_iff.mp o with h|h
     .have j:n=1:=by have e:=(show(n:Int)=1 by simpa using h);lia
      subst j;apply Str.ext';show z.cps=(qU z 1).toArray;simp[qU]
     .have g:z.cps.toList=[]:=DX.mp (by rw[len_list];simpa using h);apply Str.ext';apply Dk.mp;show z.cps.toList=(qU z n).toArray.toList;rw[g];simp only[qU,g];simp
    have l:EP X U p Q (.str z t) s:={.str<|sm z n,H,I,{t,by rw[<-e]},q};exact l
   .have en:(n:Int).toNat=n:=rfl;rw[en,Vm];refine{?_,{.str<|sm z n,H,I.tok _,{_,rfl},q}};show(qU z n).toArray.size<=sizeLine;rw[Au,Vn,Nat.mul_comm];exact AF J (by decide)
def K2(x y:Y)(L:qh)(Q:YK):Prop:=match x,y with
 |.str z,.int n=>(0<=n/\n<=1000/\z.length<=100)/\Q (.str<|sm z n.toNat) L
 |_,_=>False
def uO :vi X (binaryOp .Mult) (cf X.g3 K2):=EV xW λx y H Q l o L p I J U z k=>by
 unfold K2 at z;split at z
 .rename_i s n;cases I;cases J;obtain⟨⟨r,t,g⟩,q⟩:=z;have j:n=((n.toNat:Nat):Int):=by lia
  exact{s,n.toNat,rfl,by rw[<-j],by lia,g,k _ H _ L (EF _) U (by rfl) q}
 .exact z.elim
def Vo(te:TE):TE:=λσ H Q=>te σ H λx H1=>∃i:Int,x=.int i/\i.natAbs.log2<1920/\Q (.str<|toString i) H1
section
variable {te:TE}
def Vp(h:PE X e te):PE X (.FormattedValue e (-1) none pos) (Vo te):=by intro J s U H Q I g;refine FormattedValue_plain<|w9 (h J s U H _ I g) λv C ⟨x,j,l,o,i,p,r,q⟩=>?_;subst p;obtain⟨t,rfl⟩:=(show ∃t,v=Value.int i t from o);exact formatField_int_small r {.str _,j,l.tok _,{_,rfl},q}
end
def Vq(te:ji)(τ:j5)(L:qh)(Q:YK):Prop:=te τ L λx L1=>match x with
 |.int i=>i.natAbs.log2<1920/\Q (.str<|toString i) L1
 |_=>False
def u0(h:QE X e te):QE X (.FormattedValue e (-1) none pos) (Vq te):=EI (Vp h) λt H Q g L C j l z k=>
 ⟨g,L,_,j,l,z,λv o y p r I J U=>by cases y with|int i=>exact{i,J,U.1,k _ o _ p r I (by rfl) U.2}|_=>exact U.elim⟩
section
variable {a T:Addr}{tr:Option Addr}
end
section
variable {T:aac}{iter:Expr}{g:TG}{tc:TT}{te:TE}
end
section
variable {a b T:Addr}{tr:Option Addr}{E1:X1}
end
section
variable {k:Nat}{sp:Sp}{E1:X1}{t:TA}
end
section
variable {T:aac}{iter:Expr}{wi:A_}{E3:X3}{Ea:Addr->qh->Prop}
end
section
variable {w:aan}
theorem xD{it t:Addr}{eA:aaa}(I:t≠it):∀(n i:Nat) (s:aal) (Q:Z_->aal->Prop),s.heap.IsListIter it t i->s.heap.IsList t eA->i+n<=eA.size->
 (∀h',h'.IsListIter it t (i+n)->Heap.SameBut it s.heap h'->Q ((eA.toList.drop i).take n) {s with heap:=h'})->wpAny (model prog w) A (draw (.ref it) n) Q E s
 |0,i,s,Q,hit,_,_,g=>by unfold draw;exact Am (by simpa using g s.heap hit (Heap.SameBut.refl ..))
 |n+1,i,s,Q,hit,p,r,g=>by
  have J:i<eA.size:=by omega
  unfold draw;refine Aa<|wpAny_pyNext_list_item hit p (x:=eA[i]) (by simp[J]) λg1 j U=>?_;refine Aa<|Bm<|xD I n (i+1) _ _ j (p.extBut U.extBut I) (by lia) λg2 l o=>Am ?_;have e:eA.toList.drop i=eA[i]::eA.toList.drop (i+1):=by simp[BK,J]
  have q:=g g2 (by rw[show i+(n+1)=i+1+n by simp +arith only];exact l)
   (U.trans o)
  rw[e,List.take_succ_cons] at q;exact q
def Vr{t:Addr}{eA:aaa}{Q:Z6}(T:A.handled=none)(I:s.heap.IsList t eA)(hn:(assignEach ir env).length=eA.size)(j:(assignEach ir env).findIdx? (·.1)=none)
 (h:∀g,Heap.ExtBut s.heap.objs.size s.heap g->wpAny (model prog w) A (assignInOrder ((assignEach ir env).map (·.2)) eA.toList) Q E {s with heap:=g}):wpAny (model prog w) A (assign (.Tuple ir x1 pos) env<|.ref t) Q E s:=by
 have J:t≠s.heap.objs.size:=by obtain⟨o,ho,_⟩:=I;exact A5<|xT ho
 rw[arm_assign_Tuple];refine Aa<|wpAny_standAt ?_;unfold unpack;rw[hn,j];refine Aa<|Bm ?_;unfold unpackItems notIterableAtAll;refine Aa<|Aa<|wpAny_specialOf I.typeIs slot_list_iter.lookup ?_;refine Am ?_;rw[Az (by simp)];refine Aa<|Bm<|wpAny_pyIter_list I ?_;refine Aa<|Bm<|xD J eA.size 0 _ _ {_,ya _ rfl,rfl,rfl} (I.push _) (by simp +arith only) λg1 l U=>?_;have all:List.take eA.size (List.drop 0 eA.toList)=eA.toList:=by rw[C4];exact AM (by simp)
 rw[all,Az (by simp)];have p:g1.IsList t eA:=(I.push _).extBut U.extBut J;refine Aa<|Bm<|wpAny_pyNext_list_end T l p (by simp) λg2 r=>?_;rw[Az (by simp)];exact Am<|h g2 λb o C e=>r b o C<|U.extBut b o C<|wl _ e
end
def Vs(K:Af)(n:Nat)(t:k_):TG:=λv σ H Q=>∃a xs,v=.ref a/\aV K H a xs/\xs.length=n/\t xs σ H Q
def Vt{k:Nat}{t:k_}{n:Nat}(hc:X.calm=true)(h:PGs X es t)
 (l:(assignEach es X.env).length=n:=by rfl) (U:(assignEach es X.env).findIdx? (·.1)=none:=by rfl):PG X (.Tuple es k pos) (Vs X.K n t):=by
 rintro J s g H v u Q I r⟨a,p,C,T,hl,hw⟩;subst C;cases r;obtain⟨a0,j,pl,hz⟩:=I.list T;have ht:=jg pl;refine Vr (I.ok.hd hc) ht (by simp[l,<-hl,j.length]) U λh' hx=>?_;have I1:z0 X J g H {s with heap:=h'}:=I.kept (t':=s.toks) λb o e=>hx b o (A5<|xT e) e;exact h J _ g H p _ Q I1 (by simpa using j) hw
def Vu(l:Addr)(eA:aaa)(n:Nat)(x:aak)(b:Nat->Bool)(j:Nat)(C:j<eA.size)(hit:b j=true)(hz:eA.size<=sizeLine):∀(k i:Nat),j-i=k->i<=j->(∀m,i<=m->m<j->b m=false)->
 Meets (Builtin.«list.remove.loop» ⟨[.ref l,x,rawInt i],[]⟩) (λA R s=>s.heap.get? l=some {cls:=.type "list",dict:=none,data:=.seq eA n,slots:=#[]}/\(∀m (hm:m<eA.size),SeqAt.EqAt A.in1 s eA[m] x<|b m)/\R (.ok<|.ret .none) {s with heap:=s.heap.update l (Obj.mapSeq λxs=>xs.eraseIdxIfInBounds j)}):=by
 intro k
 induction k with
 |zero=>
  intro i T p J I w A R s h;obtain⟨hp,g,d,tk,os⟩:=s;obtain⟨U,eq,h⟩:=h;have e:i=j:=by lia
  subst e
  (wp_walk using wpAny_loadPart' U)
  have r:eA[((i:Nat):Int).toNat]?=some eA[i]:=by simp[C]
  rw[r];refine Aa<|eq i C I w _ _ ?_;rw[hit];have t:(eA.eraseIdxIfInBounds i).size<=sizeLine+1:=AF (MeetsSeq.size_erased eA _)<|Cn hz
  (wp_walk using (wpAny_updateSeq U rfl (hz:=hz) (_hz':=t)),wpAny_loadPart' U)
  simpa using h
 |succ k ih=>
  intro i T p J I w A R s h;obtain⟨hp,g,d,tk,os⟩:=s;obtain⟨U,eq,h⟩:=h;have o:i<eA.size:=by exact qM
  (wp_walk using wpAny_loadPart' U)
  have r:eA[((i:Nat):Int).toNat]?=some eA[i]:=by simp[o]
  have hc:((i:Int)+1)=((i+1:Nat):Int):=by rfl
  rw[r];refine Aa<|eq i o I w _ _ ?_;rw[J i (Aj _) (by omega)]
  wp_walk
  rw[hc];refine{plainId_quiet DT _,codeAny_builtin MeetsSeq.entry_remove_loop ?_};rw[Around.under_plainId DT _];exact ih (i+1) (by omega) (by omega) (λm h1 h2=>J m (by exact jO) h2) I w A R _ {(U),eq,h}
def Vv(l:Addr)(eA:aaa)(n:Nat)(x:aak)(b:Nat->Bool)(j:Nat)(o:j<eA.size)(hit:b j=true)(hz:eA.size<=sizeLine)(J:∀m,m<j->b m=false):
 Meets (Builtin.«list.remove» ⟨[.ref l,x],[]⟩) (λA R s=>s.heap.get? l=some {cls:=.type "list",dict:=none,data:=.seq eA n,slots:=#[]}/\(∀m (r:m<eA.size),SeqAt.EqAt A.in1 s eA[m] x<|b m)/\R (.ok<|.ret .none) {s with heap:=s.heap.update l (Obj.mapSeq λxs=>xs.eraseIdxIfInBounds j)}):=by
 intro I w A R s h;obtain⟨t,g,d,C,os⟩:=s;obtain⟨U,eq,h⟩:=h
 (wp_walk using wpAny_loadPart' U)
 refine{plainId_quiet DT _,codeAny_builtin MeetsSeq.entry_remove_loop ?_};rw[Around.under_plainId DT _];exact Vu l eA n x b j o hit hz _ 0 rfl (Bb _) (λm _ p=>J m p) I w A R _ {(U),eq,h}
theorem ze.eraseN:∀{xs:GT} {us:Z_} (n:Nat),ze xs us->ze (xs.eraseIdx n) (us.eraseIdx n)
 |[],_,n,.nil=>by simp;exact .nil
 |_::_,_,0,.cons _ t=>t
 |_::_,_,n+1,.cons r t=>.cons r<|ze.eraseN n t
def Vw(X:Cx):V->GT->Hp->VK->Prop:=λx vs H Q=>∃l xs y ds e,∃n m j:Nat,x=.ref l/\vs=[y]/\H l=some (.lst xs)/\n<=126/\Paired (aN X.K H n) xs ds/\aN X.K H m y e/\j<ds.length/\(∃d,ds[j]?=some d/\Da.eq d e=true)/\
 (∀(k:Nat) d,k<j->ds[k]?=some d->Da.eq d e=false)/\Q .KF (upd H l<|.lst<|xs.eraseIdx j)
def Vx(hu:X.A.units+128<cLine):gc X "list.remove" (Vw X):=by
 rintro a4 s σ H x vs v us Q I rx rv⟨l,o,y,g,e,n,m,j,rfl,rfl,hH,hn,pd,ry,hj,⟨dj,t,C⟩,T,q⟩;cases rx;obtain⟨u,rfl,ru⟩:=rv.one;obtain⟨z,J,nn,r,hl,eo⟩:=I.lstM hH;have l1:o.length=g.length:=pd.length;have l2:J.length=o.length:=r.length.symm;obtain⟨arr,U⟩:∃arr:aaa,arr=J.toArray:={_,rfl};have a0:arr.size=J.length:=by rw[U,Au]
 have b:Nat->Bool:=λ_=>true;have a1:arr.size<=sizeLine:=by rw[a0];lia
 have M:=Vv l arr nn u (λk=>((g[k]?).map λd=>Da.eq d e).getD false) j (by lia) (by show((g[j]?).map λd=>Da.eq d e).getD false=true;rw[t];exact C) a1 (λk p=>by show((g[k]?).map λd=>Da.eq d e).getD false=false;cases ek:g[k]? with|none=>rfl|some d=>exact T k d p ek)
 rw[U] at M;refine call_meets F.slot_list_remove {_,eo,rfl} F.entry_list_remove (F.args_list_remove_2 _ _) M {eo,λk p=>?_,?_}
 .have a5:k<J.length:=by rw[Au] at p;exact p
  obtain⟨d,ed,rd⟩:=Paired.getP pd<|Ah (by lia:k<o.length);show SeqAt.EqAt _ s _ u (((g[k]?).map λd=>Da.eq d e).getD false);rw[ed];obtain⟨u',a2,a3⟩:=Paired.getP r<|Ah (by lia:k<o.length);have eg:J.toArray[k]=u':=by have:=(AJ.mp a2).2;simpa using this
  rw[eg];exact zP I n (by show X.A.units+1+n<cLine;lia) rd ry a3 ru
 .refine{.KF,_,I.lset (its':=J.eraseIdx j) hH eo ?_ (r.eraseN j) ?_,rfl,q}
  .have:j<J.length:=by lia
   simp[Array.eraseIdxIfInBounds,this]
  .have:=C0 o j;exact G5
def K3(n:Nat)(t:wU)(y:Y)(τ:j5)(L:qh)(Q:j5->qh->Prop):Prop:=match y with
 |.ref a=>dG L a λys=>match ys.length==n with
  |true=>t ys τ L Q
  |false=>False
 |_=>False
def Vy{U n:Nat}(hc:X.calm=true)(h:FH X es gs)(h1:(assignEach es X.env).length=n:=by rfl)(h2:(assignEach es X.env).findIdx? (·.1)=none:=by rfl):QG X (.Tuple es U pos) (K3 n gs):=
 PG.imp (Vt hc h h1 h2) λv σ H Q ⟨y,g,L,j,l,o,J,z,k⟩=>by
 cases y with
 |ref a=>
  cases (show v=.ref a from l);obtain⟨p,e,I⟩:=x9 z;obtain⟨t,C,r⟩:=J a _ e;split at I
  .rename_i T;exact{a,t,rfl,Eo C,by rw[<-r.length];exact beq_iff_eq.mp T,p,g,L,j,r,o,J,I,k}
  .exact I.elim
 |_=>exact z.elim
def nH(x:Y)(vs:_T)(L:qh)(Q:YK):Prop:=match x,vs with
 |.ref a,[v]=>dG L a λys=>∃ds e,∃n m j:Nat,n<=126/\Paired (j9 L n) ys ds/\j9 L m v e/\j<ds.length/\(∃d,ds[j]?=some d/\Da.eq d e=true)/\(∀(k:Nat) d,k<j->ds[k]?=some d->Da.eq d e=false)/\Q .KF (qg L a<|.lst<|ys.eraseIdx j)
 |_,_=>False
def Vz(C:X.A.units+128<cLine):gc X "list.remove" (l_ X.g3 nH):=gc._c (Vx C) λx I H Q y U L Q3 T r2 g z k=>by
 unfold nH at z;split at z
 .rename_i a v;obtain⟨zs,e,J,de,n,m,j,hn,pd,dv,hj,hit,l,z⟩:=x9 z;obtain⟨us,o,r⟩:=g a _ e;obtain⟨v',rfl,rv⟩:=r2.inv1;have both:∀{U:_T} {J:List Da} {I:GT},Paired (j9 L n) U J->jw X.g3 H U I->Paired (aN X.K H n) I J:=by
   intro U J I p
   induction p generalizing I with
   |nil=>intro q;cases (show I=[] from q);exact .nil
   |cons h t ih=>
    rintro⟨x,a0,rfl,q1,q2⟩;exact .cons (j9.rep g h q1)<|ih q2
  exact{a,us,v',J,de,n,m,j,T,rfl,o,hn,both pd r,j9.rep g dv rv,hj,hit,l,k _ _ _ _ (ES o) (g.setL o<|r.eraseIdx j) (by rfl) z}
 .exact z.elim
def VA(I:X.A.units+128<cLine)(J:QE X o to)(U:QA X (e::es) tr)(g:A' X o e es "remove" apos eS:=by exact{(rfl),rfl,rfl,rfl,rfl}):
 QE X (.Call (.Attribute o "remove" apos) (e::es) [] eS) (tL nH to tr):=uU PySem.F.slot_list_remove PySem.F.type_list_remove (Vz I) J U g
def VB:GT->Hp->VK->Prop:=λxs H Q=>∃n:Int,xs=[.int n]/\∀p,H p=none->Q (.ref p) (upd H p<|.rng 0 n)
def VC:zy X (.type "range") VB:=by rintro J s g H j l Q I r⟨n,rfl,q⟩;obtain⟨u,rfl,U⟩:=r.one;obtain⟨t,rfl⟩:=(show ∃t,u=Value.int n t from U);refine call_range_1 ?_;refine{.ref s.heap.objs.size,_,I.laid (t':=s.toks+1+1) (o:=.rng 0 n) (λb ob q=>wl _ q) (Aj _) ?_,rfl,q _<|I.KB.fresh<|Aj _};exact{s.toks,t,s.toks+1,ya _ rfl}
def zH{n:Nat}{I:aaa}(h:ItemsOf (λi v=>∃t,v=.int (0+(i:Int)*1) t) I n):ze ((List.range n).map λi:Nat=>V.int<|0+(i:Int)) I.toList:=by
 have len:I.toList.length=n:=by rw[A7];exact h.1
 have key:∀(l:Z_) (k:Nat),(∀(j:Nat) v,l[j]?=some v->∃t,v=Value.int (0+((k+j:Nat):Int)*1) t)->ze ((List.range' k l.length).map λi:Nat=>V.int<|0+(i:Int)) l:=by
  intro l
  induction l with
  |nil=>intro k _;exact .nil
  |cons v r g=>
   intro k U;rw[Ap,CN,AI];obtain⟨t,e⟩:=U 0 v rfl;refine .cons ?_<|g (k+1) λj o J=>?_
   .exact{t,by rw[e];simp}
   .have:=U (j+1) o J;rw[show k+1+j=k+(j+1) by simp +arith only];exact this
 have:=key I.toList 0 λj v J=>by rw[B1];exact h.2 j v (by simpa using J)
 rw[len,<-List.range_eq_range'] at this;exact this
def VD:GT->Hp->VK->Prop:=λxs H Q=>∃a,∃n:Nat,xs=[.ref a]/\H a=some (.rng 0 n)/\n<=100000/\∀p,H p=none->Q (.ref p) (upd H p<|.lst ((List.range n).map λi:Nat=>V.int<|0+(i:Int)))
theorem VE(hc:X.calm=true):zy X (.type "list") VD:=by
 rintro g s σ H xs us Q I r⟨a,n,rfl,j,l,q⟩;obtain⟨u,rfl,p⟩:=r.one;cases (show u=Value.ref a from p);obtain⟨t,u,v,e⟩:=I.KB a _ j;have hb:(100000:Nat)<=sizeLine:=by decide
 have C:Builtin.Range.rangeSize 0 (n:Int) 1=((n:Nat):Int):=by rw[rangeSize_one];split<;>lia
 refine j6 I.tk<|call_list_range (I.ok.hd hc) (show IsRange s.heap a 0 (n:Int) 1 t u v from e) (small_one (by decide) (by decide) (by exact Bf _) (by omega)) C (AF l (by decide)) λh' T U c hk hS J ht=>?_;refine{.ref s.heap.objs.size,_,I.laid (t':=T) (o:=.lst ((List.range n).map λi:Nat=>V.int<|0+(i:Int))) hk (Aj _) ?_,rfl,q _<|I.KB.fresh<|Aj _};refine{by rw[Ac,B6];exact G5,U.toList,c,zH J,?_};rw[hS]
theorem ze.rev:∀{xs:GT} {us:Z_},ze xs us->ze xs.reverse us.reverse
 |_,_,.nil=>.nil
 |_,_,.cons r t=>by rw[C5,C5];exact(ze.rev t).append (.cons r .nil)
def VF:bootBuiltins "range"=some (.type "range"):=by decide +kernel
def uv(te:ji)(τ:j5)(L:qh)(Q:YK):Prop:=te τ L λy L1=>match y with
 |.int n=>(0<=n/\n<=100000)/\∀p,L1 p=none->Q (.ref p) (qg L1 p<|.lst<|ah 0 n.toNat)
 |_=>False
def VG(n:Nat):jw G H (ah 0 n) ((List.range n).map λi:Nat=>V.int<|0+(i:Int)):=by
 unfold ah;generalize List.range n=l
 induction l with|nil=>rfl|cons k r I=>exact{_,_,rfl,rfl,I}
theorem yO{I:Pos}(hc:X.calm=true)(T:Gl X "list")(hm:X.mg "list"=none)(j:Gl X "range")(l:X.mg "range"=none)(h:QE X e te)
 (h1:starEach [.Call (.Name "range" p2) [e] [] I] X.env=(false,eval (.Call (.Name "range" p2) [e] [] I) X.env)::starEach [] X.env:=by rfl) (h2:(backTo pos<|starEach [] X.env).any (·.1)=false:=by rfl)
 (C:starEach [e] X.env=(false,eval e X.env)::starEach [] X.env:=by rfl) (h4:(backTo I<|starEach [] X.env).any (·.1)=false:=by rfl):
 QE X (.Call (.Name "list" p) [.Call (.Name "range" p2) [e] [] I] [] pos) (uv te):=
 EI (jU (VE hc) T hm bT (fP (jU VC j l VF (fP h pM C) (by decide) (by decide) C h4) pM h1) (by decide) (by decide) h1 h2) λσ H Q τ L Q3 rs rl z k=>
 ⟨τ,L,_,rs,rl,z,λv H1 y L1 t1 J o U=>by
  cases y with
  |int n=>
   obtain⟨⟨h0,h5⟩,U⟩:=U;cases (show v=V.int n from o);obtain⟨m,rfl⟩:∃m:Nat,n=(m:Int):={n.toNat,by lia};refine{_,rfl,λq r=>{q,m,rfl,zm,by lia,λp g=>?_}};have t:H1 p=none:=by
    by_cases c:p=q
    .subst c;exact r
    .rw[qp c] at g;exact g
   exact k _ _ _ _ (t1.trans<|(EG r).trans<|EG g) ((J.skip r)._P g<|VG m) (by rfl) (U p<|J.none t)
  |_=>exact U.elim⟩
section
variable {m:Str}{g:Addr}
end
abbrev _r:=Keyed->Int
abbrev _b:=Array Keyed
abbrev Z':=List Keyed
def VH:Bool->Keyed->_b->Nat->Nat->Nat->StateT SortSt Sem (Option Nat):=sortPriv% PySem.Builtin.gallop
section
variable {w:aan}
structure Ord(prog:aam)(w:aan)(A:Around)(s:aal)(κ:SortKind)(Ok:Keyed->Prop)(f:_r):Prop where
 lt:∀x y,Ok x->Ok y->∀{E:Z5} {Q:Bool->aal->Prop},Q (decide<|f x<f y) s->wpAny (model prog w) A (keyLt' κ x.1 y.1) Q E s
variable {κ:SortKind}{Ok:Keyed->Prop}{f:_r}
def w_lt(O:Ord prog w A s κ Ok f){st:SortSt}{x y:Keyed}{Q:Option Bool->SortSt->Prop}(I:kindOf st=κ)(J:Ok x)(U:Ok y)(h:Q (some<|decide<|f x<f y) st):wpS (model prog w) A E s (lt' x y) Q st:=by rw[lt'_eq];refine Ad<|wpS_get ?_;rw[I];refine Ad<|wpS_lift<|wpAny_attempt<|O.lt x y J U {rfl,?_};exact Ae h
def x8{arr:_b}{x:Keyed}{st:SortSt}{Q:Keyed->SortSt->Prop}(h:arr[i]?=some x)(q:Q x st):wpS (model prog w) A E s (elem' arr i) Q st:=by rw[elem'_eq,h];exact Ae q
def K4(left:Bool)(key:Keyed)(arr:_b)(i:Nat):StateT SortSt Sem (Option Bool):=elem' arr i >>= λx=>if left=true then lt' x key else lt' key x >>= λr=>pure<|r.map λb=>!b
def VI(O:Ord prog w A s κ Ok f){left:Bool}{key x:Keyed}{arr:_b}{st:SortSt}{Q:Option Bool->SortSt->Prop}(J:kindOf st=κ)(I:Ok key)(U:Ok x)(hi:arr[i]?=some x)
 (q:Q (some<|if left=true then decide (f x<f key) else !decide (f key<f x)) st):wpS (model prog w) A E s (K4 left key arr i) Q st:=by
 refine Ad<|x8 hi ?_;cases left with|true=>exact w_lt O J U I q|false=>exact Ad<|w_lt O J I U<|Ae q
def cT(O:Ord prog w A s κ Ok f){left:Bool}{key:Keyed}{arr:_b}{base n hint:Nat}{st:SortSt}{Q:Option Nat->SortSt->Prop}(hk:kindOf st=κ)(a2:Ok key)(hh:hint<n)
 (it:Nat->Keyed) (hit:∀i,i<n->arr[base+i]?=some (it i)/\Ok (it i)) (o:Nat->Bool) (a3:∀i,i<n->o i=if left=true then decide (f (it i)<f key) else !decide (f key<f (it i)))
 (mono:∀i j,i<=j->j<n->o j=true->o i=true)
 (q:∀k,k<=n->(∀i,i<k->o i=true)->(∀i,k<=i->i<n->o i=false)->Q (some k) st):wpS (model prog w) A E s (VH left key arr base n hint) Q st:=by
 have go:∀i,i<n->∀Q':Option Bool->SortSt->Prop,Q' (some<|o i) st->wpS (model prog w) A E s (K4 left key arr<|base+i) Q' st:=λi U Q' h=>VI O hk a2 (hit i U).2 (hit i U).1 (by rw[<-a3 i U];exact h);refine Ad<|go hint hh _ ?_;dsimp only;cases hb:o hint with
 |true=>
  rw[AC rfl];refine Ad (AX (AO (I:=λx c g=>g=st/\∃l J,c=(none,l,J)/\l<J/\l<n-hint/\o (hint+l)=true/\x+1<=J)
   (Q:=λc g=>g=st/\∃l J,c=(none,l,J)/\l<J/\l<n-hint/\o (hint+l)=true/\(n-hint<=J\/o (hint+J)=false)) ?_ ?_ ⟨rfl,0,1,rfl,by exact BN _,by omega,hb,by exact BN _⟩) ?_)
  .rintro x c g _ hx ⟨rfl,l,J,rfl,h1,h2,r,t⟩;dsimp only;by_cases c:J>=n-hint
   .rw[AC c];exact Ae {rfl,l,J,rfl,h1,h2,r,.inl c}
   .rw[Az c];refine Ad<|go (hint+J) (by lia) _ ?_;dsimp only;cases C:o (hint+J) with
    |true=>
     rw[Az (by simp)];exact Ae {rfl,J,2*J+1,rfl,by simp +arith only,by exact Jj,C,by lia}
    |false=>
     rw[AC (by simp)];exact Ae {rfl,l,J,rfl,h1,h2,r,.inr C}
  .rintro c g ⟨rfl,l,J,rfl,h1,h2,r,t⟩;exact{rfl,l,J,rfl,h1,h2,r,.inl (by lia)}
  .rintro c g ⟨rfl,l,J,rfl,h1,h2,r,t⟩;dsimp only;obtain⟨lo,a0⟩:∃lo,lo=hint+l+1:={_,rfl};obtain⟨U,a1⟩:∃U,U=hint+min J (n-hint):={_,rfl};rw[<-a0,<-a1];have g1:lo<=U:=by omega
   have g2:U<=n:=by lia
   have g3:∀i,i<lo->o i=true:=λi U=>mono i (hint+l) (by lia) (by lia) r;have g4:∀i,U<=i->i<n->o i=false:=λi h5 h6=>by
    rcases t with t|t
    .omega
    .cases e:o i with
     |false=>rfl
     |true=>
      by_cases c:J<n-hint
      .rw[mono (hint+J) i (by omega) h6 e] at t;cases t
      .omega
   refine Ad (AX (AO (I:=λx c sx=>sx=g/\∃lo U,c=(none,lo,U)/\lo<=U/\U<=n/\(∀i,i<lo->o i=true)/\(∀i,U<=i->i<n->o i=false)/\U-lo+x<=n)
    (Q:=λc sx=>sx=g/\∃U,c=(none,U,U)/\U<=n/\(∀i,i<U->o i=true)/\(∀i,U<=i->i<n->o i=false)) ?_ ?_ ⟨rfl,lo,U,rfl,g1,g2,g3,g4,by exact Jl⟩) ?_)
   .rintro x c p _ hx ⟨rfl,lo,U,rfl,k1,T,k3,k4,k5⟩;dsimp only;by_cases c:lo>=U
    .rw[AC c];have:lo=U:=by lia
     subst this;exact Ae {(rfl),lo,rfl,T,k3,k4}
    .rw[Az c];refine Ad<|go (lo+(U-lo) / 2) (by lia) _ ?_;dsimp only;cases C:o (lo+(U-lo) / 2) with
     |true=>
      rw[AC rfl];exact Ae {rfl,lo+(U-lo) / 2+1,U,rfl,by lia,T,λi h5=>mono i _ (by exact Jk) (by lia) C,k4,by lia}
     |false=>
      rw[Az (by simp)];refine Ae {rfl,lo,lo+(U-lo) / 2,rfl,by exact Bd _ _,by lia,k3,λi h5 h6=>?_,by omega};cases e:o i with|false=>rfl|true=>rw[mono _ i h5 h6 e] at C;cases C
   .rintro c p ⟨rfl,lo,U,rfl,k1,T,k3,k4,k5⟩;have:lo=U:=by lia
    subst this;exact{(rfl),lo,rfl,T,k3,k4}
   .rintro c p ⟨rfl,U,rfl,T,k3,k4⟩;exact Ae<|q U T k3 k4
 |false=>
  rw[Az (by simp)];refine Ad (AX (AO (I:=λx c g=>g=st/\∃l J,c=(none,l,J)/\l<J/\l<hint+1/\o (hint-l)=false/\x+1<=J)
   (Q:=λc g=>g=st/\∃l J,c=(none,l,J)/\l<J/\l<hint+1/\o (hint-l)=false/\(hint+1<=J\/o (hint-J)=true)) ?_ ?_ ⟨rfl,0,1,rfl,by lia,by exact BZ _,hb,by lia⟩) ?_)
  .rintro x c g _ hx ⟨rfl,l,J,rfl,h1,h2,r,t⟩;dsimp only;by_cases c:J>=hint+1
   .rw[AC c];exact Ae {rfl,l,J,rfl,h1,h2,r,.inl c}
   .rw[Az c];refine Ad<|go (hint-J) (by exact uZ) _ ?_;dsimp only;cases C:o (hint-J) with
    |true=>
     rw[AC rfl];exact Ae {rfl,l,J,rfl,h1,h2,r,.inr C}
    |false=>
     rw[Az (by simp)];exact Ae {rfl,J,2*J+1,rfl,by lia,by exact Jj,C,by lia}
  .rintro c g ⟨rfl,l,J,rfl,h1,h2,r,t⟩;exact{rfl,l,J,rfl,h1,h2,r,.inl (by exact uj)}
  .rintro c g ⟨rfl,l,J,rfl,h1,h2,r,t⟩;dsimp only;obtain⟨lo,a0⟩:∃lo,lo=hint+1-min J (hint+1):={_,rfl};obtain⟨U,a1⟩:∃U,U=hint-l:={_,rfl};rw[<-a0,<-a1];have g1:lo<=U:=by omega
   have g2:U<=n:=by omega
   have g3:∀i,i<lo->o i=true:=λi h5=>by
    rcases t with t|t
    .omega
    .exact mono i (hint-J) (by omega) (by exact uZ) t
   have g4:∀i,U<=i->i<n->o i=false:=λi h5 h6=>by cases e:o i with|false=>rfl|true=>rw[mono (hint-l) i (by lia) h6 e] at r;cases r
   refine Ad (AX (AO (I:=λx c sx=>sx=g/\∃lo U,c=(none,lo,U)/\lo<=U/\U<=n/\(∀i,i<lo->o i=true)/\(∀i,U<=i->i<n->o i=false)/\U-lo+x<=n)
    (Q:=λc sx=>sx=g/\∃U,c=(none,U,U)/\U<=n/\(∀i,i<U->o i=true)/\(∀i,U<=i->i<n->o i=false)) ?_ ?_ ⟨rfl,lo,U,rfl,g1,g2,g3,g4,by exact Jl⟩) ?_)
   .rintro x c p _ hx ⟨rfl,lo,U,rfl,k1,T,k3,k4,k5⟩;dsimp only;by_cases c:lo>=U
    .rw[AC c];have:lo=U:=by lia
     subst this;exact Ae {(rfl),lo,rfl,T,k3,k4}
    .rw[Az c];refine Ad<|go (lo+(U-lo) / 2) (by lia) _ ?_;dsimp only;cases C:o (lo+(U-lo) / 2) with
     |true=>
      rw[AC rfl];exact Ae {rfl,lo+(U-lo) / 2+1,U,rfl,by lia,T,λi h5=>mono i _ (by lia) (by lia) C,k4,by lia}
     |false=>
      rw[Az (by simp)];refine Ae {rfl,lo,lo+(U-lo) / 2,rfl,by lia,by lia,k3,λi h5 h6=>?_,by lia};cases e:o i with|false=>rfl|true=>rw[mono _ i h5 h6 e] at C;cases C
   .rintro c p ⟨rfl,lo,U,rfl,k1,T,k3,k4,k5⟩;have:lo=U:=by lia
    subst this;exact{(rfl),lo,rfl,T,k3,k4}
   .rintro c p ⟨rfl,U,rfl,T,k3,k4⟩;exact Ae<|q U T k3 k4
end
def VJ:_b->_b->StateT SortSt Sem (_b):=sortPriv% PySem.Builtin.mergeLo
def VL:_b->_b->StateT SortSt Sem (_b):=sortPriv% PySem.Builtin.mergeHi
structure MI(f:_r)(la lb eH ra rb:Z'):Prop where
 perm:(eH++(ra++rb)).Perm (la++lb)
 so:eH.Pairwise λx y=>f x<=f y
 sa:ra.Pairwise λx y=>f x<=f y
 sb:rb.Pairwise λx y=>f x<=f y
 oa:∀x∈eH,∀y∈ra,f x<=f y
 ob:∀x∈eH,∀y∈rb,f x<=f y
def MI.a{f:_r}{g j eH seg l U:Z'}(h:MI f g j eH (seg++l) U)(hs:∀x∈seg,∀y∈U,f x<=f y):MI f g j (eH++seg) l U:=by
 have sa:=AV.mp h.sa;refine{?_,AV.mpr {h.so,sa.1,λx I y J=>h.oa x I y<|Ay _ J},sa.2.1,h.sb,λx I y J=>?_,λx I y J=>?_}
 .have:=h.perm;rw[Av] at this ⊢;exact this
 .rcases Ao.mp I with I|I
  .exact h.oa x I y<|Ai _ J
  .exact sa.2.2 x I y J
 .rcases Ao.mp I with I|I
  .exact h.ob x I y J
  .exact hs x I y J
def MI.b{f:_r}{l o eH seg U g:Z'}(h:MI f l o eH U<|seg++g)(hs:∀x∈seg,∀y∈U,f x<=f y):MI f l o (eH++seg) U g:=by
 have j:=AV.mp h.sb;refine{?_,AV.mpr {h.so,j.1,λx I y J=>h.ob x I y<|Ay _ J},h.sa,j.2.1,λx I y J=>?_,λx I y J=>?_}
 .refine List.Perm.trans ?_ h.perm;rw[Av];exact(Bz eH).mpr (by rw[<-Av,<-Av];exact(Bu g).mpr BV)
 .rcases Ao.mp I with I|I
  .exact h.oa x I y J
  .exact hs x I y J
 .rcases Ao.mp I with I|I
  .exact h.ob x I y<|Ai _ J
  .exact j.2.2 x I y J
def kq(f:_r)(I J r:Z'):Prop:=r.Perm (I++J)/\r.Pairwise λx y=>f x<=f y
def MI.ea{f:_r}{I J eH U:Z'}(h:MI f I J eH U []):kq f I J (eH++U):={by have:=h.perm;rwa[AG] at this,AV.mpr {(h.so),h.sa,h.oa}}
def MI.eb{f:_r}{g j eH J U:Z'}(h:MI f g j eH J U)(hs:∀x∈U,∀y∈J,f x<=f y):kq f g j (eH++U++J):=by
 refine{List.Perm.trans ?_ h.perm,?_}
 .rw[Av];exact(Bz eH).mpr BV
 .rw[Av];refine AV.mpr {h.so,AV.mpr {(h.sb),h.sa,hs},λx l y I=>?_};rcases Ao.mp I with I|I
  .exact h.ob x l y I
  .exact h.oa x l y I
structure MP(f:_r)(a b eH:_b)(ia ib:Nat):Prop where
 mi:MI f a.toList b.toList eH.toList (a.toList.drop ia) (b.toList.drop ib)
 sz:eH.size=ia+ib
 la:ia<=a.size
 lb:ib<=b.size
def K5(a:_b)(h:i<a.size):a.toList.drop i=a[i]::a.toList.drop (i+1):=by rw[BK (by simpa using h)];simp
def gh(a:_b)(i j:Nat):(a.extract i j).toList=(a.toList.drop i).take (j-i):=by rw[Array.toList_extract,List.extract_eq_drop_take]
def K6(l:Z')(i k:Nat):(l.drop i).take k++l.drop (i+k)=l.drop i:=by rw[<-List.drop_drop,AU]
def uS{a:_b}{k:Nat}{x:Keyed}(h:x∈(a.toList.drop i).take k):∃j,∃I:i+j<a.size,j<k/\a[i+j]=x:=by
 obtain⟨j,I,e⟩:=BE h;rw[AS,BH] at I;have J:i+j<a.size:=by have:a.toList.length=a.size:=A7;omega
 refine{j,J,by omega,?_};rw[<-e];simp
def i4{a:_b}{x:Keyed}(h:x∈a.toList.drop i):∃j,∃I:j<a.size,i<=j/\a[j]=x:=by
 obtain⟨j,I,e⟩:=BE h;rw[BH] at I;have J:i+j<a.size:=by have:a.toList.length=a.size:=A7;omega
 refine{i+j,J,by exact Bd _ _,?_};rw[<-e];simp
def w4{f:_r}{a:_b}(s:a.toList.Pairwise λx y=>f x<=f y)(I:i<=j)(J:j<a.size):f (a[i]'(by exact qM))<=f a[j]:=by
 rcases DF I with h|h
 .have:=CQ.mp s i j (by simpa using (by exact qM:i<a.size)) (by simpa using J) h;simpa using this
 .subst h;exact C1 _
section
variable {f:_r}{a b eH:_b}{ia ib:Nat}
def MP.segA(M:MP f a b eH ia ib){k:Nat}(J:ia+k<=a.size)(h:∀i (hi:ia+i<a.size),i<k->∀j (I:j<b.size),ib<=j->f a[ia+i]<=f b[j]):MP f a b (eH++a.extract ia (ia+k)) (ia+k) ib:=by
 refine{?_,?_,J,M.lb}
 .rw[A9,gh,show ia+k-ia=k by omega];refine MI.a (by rw[K6];exact M.mi) λx U y g=>?_;obtain⟨i,hi,l,rfl⟩:=uS U;obtain⟨j,I,o,rfl⟩:=i4 g;exact h i hi l j I o
 .rw[BP,CZ,M.sz];lia
def MP.segB(M:MP f a b eH ia ib){k:Nat}(J:ib+k<=b.size)(h:∀i (hi:ib+i<b.size),i<k->∀j (I:j<a.size),ia<=j->f b[ib+i]<=f a[j]):MP f a b (eH++b.extract ib (ib+k)) ia (ib+k):=by
 refine{?_,?_,M.la,J}
 .rw[A9,gh,show ib+k-ib=k by lia];refine MI.b (by rw[K6];exact M.mi) λx U y g=>?_;obtain⟨i,hi,l,rfl⟩:=uS U;obtain⟨j,I,o,rfl⟩:=i4 g;exact h i hi l j I o
 .rw[BP,CZ,M.sz];lia
def MP.oneA(M:MP f a b eH ia ib)(hi:ia<a.size)(h:∀j (I:j<b.size),ib<=j->f a[ia]<=f b[j]):MP f a b (eH.push a[ia]) (ia+1) ib:=by refine{?_,by rw[Bn,M.sz];simp +arith only,hi,M.lb};rw[CF];refine MI.a (seg:=[a[ia]]) (by rw[List.singleton_append,<-K5 a hi];exact M.mi) λx J y U=>?_;obtain⟨j,I,g,rfl⟩:=i4 U;rw[Ak.mp J];exact h j I g
def MP.oneB(M:MP f a b eH ia ib)(hi:ib<b.size)(h:∀j (I:j<a.size),ia<=j->f b[ib]<=f a[j]):MP f a b (eH.push b[ib]) ia (ib+1):=by refine{?_,by rw[Bn,M.sz];exact B3 _ _ _,M.la,hi};rw[CF];refine MI.b (seg:=[b[ib]]) (by rw[List.singleton_append,<-K5 b hi];exact M.mi) λx J y U=>?_;obtain⟨j,I,g,rfl⟩:=i4 U;rw[Ak.mp J];exact h j I g
def MP.done(M:MP f a b eH ia ib)(h:ib=b.size):kq f a.toList b.toList (eH++a.extract ia++b.extract ib).toList:=by have e:b.toList.drop ib=[]:=Ed (by rw[A7];lia);have m:=M.mi;rw[e] at m;have:=m.ea;rw[A9,A9,gh,gh,e,List.take_nil,AG,AM (by simp)];exact this
def MP.last(M:MP f a b eH ia ib)(h:ia+1=a.size)(I:∀x∈b.toList,f x<f (a[a.size-1]'(by omega))):kq f a.toList b.toList (eH++b.extract ib++a.extract ia).toList:=by
 have:=M.mi.eb λx J y U=>by
  obtain⟨j,g,l,rfl⟩:=i4 U;have e:j=a.size-1:=by omega
  subst e;exact BJ<|I x<|CI J
 rw[A9,A9,gh,gh,AM (by simp),AM (by simp)];exact this
end
section
variable {w:aan}{κ:SortKind}{Ok:Keyed->Prop}{f:_r}
abbrev iN(st:SortSt)(g:Nat):SortSt:=SortSt.mk' (kindOf st) (arrOf st) (pendingOf st) g<|failedOf st
def wY{c:Prop}{_:Decidable c}{K:β->StateT SortSt Sem α}{y:β}{Q:α->SortSt->Prop}{st:SortSt}(key:∀z,wpS (model prog w) A E s (K z) Q st):∀x,wpS (model prog w) A E s (if c then K x else K y) Q st:=λx=>by
 by_cases h:c
 .rw[AC h];exact key x
 .rw[Az h];exact key y
def mZ{I:Type}{c:Prop}{_:Decidable c}{K T:β->I->StateT SortSt Sem α}{P:β->I->Prop}{x:β}{i:I}{Q:α->SortSt->Prop}{st:SortSt}(key:∀o j,P o j->wpS (model prog w) A E s (K o j) Q st)(J:¬c->P x i)
 (U:c->(∀o j,P o j->wpS (model prog w) A E s (K o j) Q st)->wpS (model prog w) A E s (T x i) Q st):∀o,x=o->∀j,i=j->wpS (model prog w) A E s (if c then T o j else K o j) Q st:=by
 rintro _ rfl _ rfl;by_cases h:c
 .rw[AC h];exact U h key
 .rw[Az h];exact key x i<|J h
def xg{c:Prop} [Decidable c]{x y:StateT SortSt Sem α}{Q:α->SortSt->Prop}{st:SortSt}(h:c)(k:wpS M A E s x Q st):wpS M A E s (if c then x else y) Q st:=by rw[AC h];exact k
def jt{c:Prop} [Decidable c]{x y:StateT SortSt Sem α}{Q:α->SortSt->Prop}{st:SortSt}(h:¬c)(k:wpS M A E s y Q st):wpS M A E s (if c then x else y) Q st:=by rw[Az h];exact k
def f9{c:Prop} [Decidable c]{x y:StateT SortSt Sem α}{Q:α->SortSt->Prop}{st:SortSt}(h:c->wpS M A E s x Q st)(k:¬c->wpS M A E s y Q st):wpS M A E s (if c then x else y) Q st:=by
 by_cases d:c
 .rw[AC d];exact h d
 .rw[Az d];exact k d
def Gv{a:_b}(ok:∀x∈a.toList,Ok x)(sa:a.toList.Pairwise λx y=>f x<=f y)(d:Keyed):∃t:Nat->Keyed,(∀i (hi:i<a.size),t i=a[i])/\(∀i,i<a.size->a[i]?=some (t i))/\(∀i,i<a.size->Ok (t i))/\∀{i j},i<=j->j<a.size->f (t i)<=f (t j):=by
 have e:∀i (hi:i<a.size),(a[i]?).getD d=a[i]:=λi hi=>by simp[hi]
 exact{λi=>(a[i]?).getD d,e,λi hi=>by simp[hi],λi hi=>by show Ok ((a[i]?).getD d);rw[e i hi];exact ok _ (by simp),λ{i j} I J=>by show f ((a[i]?).getD d)<=f ((a[j]?).getD d);rw[e i (by exact qM),e j J];exact w4 sa I J}
theorem VM(O:Ord prog w A s κ Ok f){a b:_b}{st:SortSt}{Q:_b->SortSt->Prop}(hk:kindOf st=κ)(bh:∀x∈a.toList,Ok x)(bi:∀x∈b.toList,Ok x)
 (sa:a.toList.Pairwise λx y=>f x<=f y) (sb:b.toList.Pairwise λx y=>f x<=f y) (ha:0<a.size) (hb:0<b.size) (h0:∀x∈a.toList,f b[0]<f x) (hl:∀x∈b.toList,f x<f a[a.size-1])
 (q:∀r g,kq f a.toList b.toList r.toList->Q r (iN st g)):wpS (model prog w) A E s (VJ a b) Q st:=by
 refine Ad<|wpS_lift<|BB {rfl,?_};refine Ad<|x8 (x:=b[0]) (by simp[hb]) ?_;dsimp only;have M0:MP f a b #[b[0]] 0 1:=by have M:MP f a b #[] 0 0:={{by simp,by simp,by simpa using sa,by simpa using sb,by simp,by simp},rfl,Bb _,Bb _};have:=M.oneB hb λj hj _=>BJ<|h0 a[j] (by simp);simpa using this
 by_cases c1:(1==b.size)=true
 .refine xg c1 ?_;exact Ae<|q _ (gallopOf st)<|M0.done (by simpa using c1)
 refine jt c1 ?_;by_cases c2:(0+1==a.size)=true
 .refine xg c2 ?_;exact Ae<|q _ (gallopOf st)<|M0.last (by simpa using c2) hl
 refine jt c2 ?_;have c1:¬1=b.size:=by simpa using c1
 have c2:¬1=a.size:=by simpa using c2
 refine Ad<|wpS_get ?_;have bj:∀i (hi:i<a.size),Ok a[i]:=λi hi=>bh _ (by simp);have bm:∀i (hi:i<b.size),Ok b[i]:=λi hi=>bi _ (by simp);have ab:∀i (hi:i<a.size),a[i]?=some a[i]:=λi hi=>by simp[hi]
 have ag:∀i (hi:i<b.size),b[i]?=some b[i]:=λi hi=>by simp[hi]
 obtain⟨tA,bd,c5,c6,c7⟩:=Gv (f:=f) bh sa b[0];obtain⟨tB,bn,c8,c9,ca⟩:=Gv (f:=f) bi sb b[0];refine Ad (AX (AO (I:=λx c p=>(∃g,p=iN st g)/\∃a2 l U mg,c=(none,a2,l,U,mg)/\MP f a b a2 l U/\l+1<a.size/\U<b.size/\x+1<=a2.size)
  (Q:=λc p=>(∃g,p=iN st g)/\∃r,c.1=some r/\kq f a.toList b.toList r.toList) ?_ ?_ ⟨⟨gallopOf st,rfl⟩,_,_,_,_,rfl,M0,by exact Fa,by exact Fa,by simp⟩) ?_)
 .rintro x c p _ hx ⟨⟨g,rfl⟩,a2,l,U,mg,rfl,M,T,t,hs⟩;dsimp only;refine Ad (AX (AO (I:=λy c p=>p=iN st g/\∃J l U ac bc,c=(none,J,l,U,ac,bc)/\MP f a b J l U/\l+1<a.size/\U<b.size/\a2.size+y<=J.size)
   (Q:=λc p=>p=iN st g/\((∃r,c.1=some r/\kq f a.toList b.toList r.toList)\/∃J l U ac bc,c=(none,J,l,U,ac,bc)/\MP f a b J l U/\l+1<a.size/\U<b.size/\a2.size+1<=J.size)) ?_ ?_ ⟨rfl,_,_,_,_,_,rfl,M,T,t,Aj _⟩) ?_)
  .rintro y c p _ hy ⟨rfl,J,l,U,ac,bc,rfl,M,T,t,c0⟩;have al:l<a.size:=by exact jO
   dsimp only;refine Ad<|x8 (ag U t) ?_;refine Ad<|x8 (ab l al) ?_;refine Ad<|w_lt O hk (bm U t) (bj l al) ?_;dsimp only;by_cases c:f b[U]<f a[l]
   .refine xg (AA c) ?_;refine Ad<|x8 (ag U t) ?_;have M':=M.oneB t λj hj a0=>BJ<|Int.lt_of_lt_of_le c<|w4 sa a0 hj;have s2:(J.push b[U]).size=J.size+1:=Bn _;by_cases e1:(U+1==b.size)=true
    .refine xg e1 ?_;exact Ae {rfl,.inl {_,rfl,M'.done (by simpa using e1)}}
    .refine jt e1 ?_;have e1:¬U+1=b.size:=by simpa using e1
     refine f9 (λ_=>?_) λ_=>?_
     .exact Ae {rfl,.inr {_,_,_,_,_,rfl,M',T,by exact Fa,by lia}}
     .exact Ae {rfl,_,_,_,_,_,rfl,M',T,by lia,by lia}
   .refine jt (by rw[Aw c];decide) ?_;refine Ad<|x8 (ab l al) ?_;have M':=M.oneA (by lia) λj hj a0=>BM (by omega)<|w4 sb a0 hj;have s2:(J.push a[l]).size=J.size+1:=Bn _;by_cases e1:(l+1+1==a.size)=true
    .refine xg e1 ?_;exact Ae {rfl,.inl {_,rfl,M'.last (by simpa using e1) hl}}
    .refine jt e1 ?_;have e1:¬l+1+1=a.size:=by simpa using e1
     refine f9 (λ_=>?_) λ_=>?_
     .exact Ae {rfl,.inr {_,_,_,_,_,rfl,M',by exact Fa,t,by lia}}
     .exact Ae {rfl,_,_,_,_,_,rfl,M',by lia,t,by lia}
  .rintro c p ⟨rfl,J,l,U,ac,bc,rfl,M,T,t,c0⟩;have:=M.sz;omega
  .rintro c p ⟨rfl,h⟩;rcases h with⟨r,er,hr⟩|⟨aL,l,U,ac,bc,rfl,M,T,t,c0⟩
   .obtain⟨c1,c2⟩:=c;cases er;exact Ae {{(g),rfl},r,rfl,hr}
   .dsimp only;refine Ad<|wpS_lift<|BB {rfl,?_};refine Ad (AX (AO (I:=λy c p=>(∃g,p=iN st g)/\∃J l U mg ac bc,c=(none,J,l,U,mg,ac,bc)/\MP f a b J l U/\l+1<a.size/\U<b.size/\aL.size+y<=J.size)
     (Q:=λc p=>(∃g,p=iN st g)/\((∃r,c.1=some r/\kq f a.toList b.toList r.toList)\/∃J l U mg ac bc,c=(none,J,l,U,mg,ac,bc)/\MP f a b J l U/\l+1<a.size/\U<b.size/\aL.size<=J.size)) ?_ ?_ ⟨⟨g,rfl⟩,_,_,_,_,_,_,rfl,M,T,t,Aj _⟩) ?_)
    .rintro y c p _ hy ⟨⟨g',rfl⟩,J,l,U,be,ac,bc,rfl,M,T,t,ba⟩;have al:l<a.size:=by exact jO
     dsimp only;generalize be-1=cc;revert cc;refine wY (y:=be) λcm=>?_
     all_goals
      refine Ad<|wpS_modify ?_;refine Ad<|x8 (ag U t) ?_;refine Ad<|cT O hk (bm U t) (by lia) (λi=>tA<|l+i) (λi hi=>{c5 _ (by lia),c6 _ (by lia)}) (λi=>!decide (f b[U]<f (tA<|l+i))) (λi hi=>by rw[Az (by simp)]) (λi j a0 hj h=>?_) λk cn a5 au=>?_
      .have:=c7 (i:=l+i) (j:=l+j) (by lia) (by lia);simp at h ⊢;lia
      have a5:∀i,i<k->f (tA<|l+i)<=f b[U]:=λi hi=>by have:=a5 i hi;simpa using this
      have au:∀i,k<=i->i<a.size-l->f b[U]<f (tA<|l+i):=λi hi hj=>by have:=au i hi hj;simpa using this
      have kl:k<a.size-l:=by
       rcases DF cn with h|h
       .exact h
       .exfalso;have h1:=a5 (a.size-1-l) (by lia);have h2:=hl b[U] (by simp);rw[show l+(a.size-1-l)=a.size-1 by lia,bd _ (by exact E9)] at h1;omega
      have M1:MP f a b (J++a.extract l (l+k)) (l+k) U:=M.segA (by lia) λi hi bf j hj a0=>by have h1:=a5 i bf;rw[bd _ hi] at h1;exact BM h1<|w4 sb a0 hj
      have pB:∀j (hj:j<a.size),l+k<=j->f b[U]<=f a[j]:=λj hj a0=>by have h1:=au (j-l) (by lia) (by lia);rw[show l+(j-l)=j by lia,bd _ hj] at h1;lia
      dsimp only;generalize cv:J=o0;generalize cy:l=j0;revert j0;revert o0;refine mZ (P:=λ(o:_b) (j:Nat)=>MP f a b o j U/\J.size<=o.size/\j+1<a.size/\∀j' (hj:j'<a.size),j<=j'->f b[U]<=f a[j']) (x:=J) (i:=l) (λa1 C hP=>?tail) (λck=>?hN) λck key=>?hY
      case hN=>
       obtain rfl:k=0:=by lia
       exact{M,Aj _,T,λj hj a0=>pB j hj (by lia)}
      case hY=>
       by_cases e1:(l+k+1==a.size)=true
       .refine xg e1 ?_;exact Ae {{_,rfl},.inl {_,rfl,M1.last (by simpa using e1) hl}}
       .refine jt e1 (jt (show ¬(l+k==a.size)=true by simp;lia) ?_);have e1:¬l+k+1=a.size:=by simpa using e1
        exact key _ _ {M1,by rw[BP];exact Bd _ _,by lia,pB}
      clear pB M1 a5 au;obtain⟨M1,h3,l3,pB⟩:=hP;have bg:C<a.size:=by exact jO
      all_goals
       refine Ad<|x8 (ag U t) ?_;have M2:=M1.oneB t pB;have s2:(a1.push b[U]).size=a1.size+1:=Bn _;by_cases e2:(U+1==b.size)=true
       case' pos=>
        refine xg e2 ?_;exact Ae {{_,rfl},.inl {_,rfl,M2.done (by simpa using e2)}}
       case' neg=>
        refine jt e2 ?_;have e2:¬U+1=b.size:=by simpa using e2
        refine Ad<|x8 (ab C bg) ?_;refine Ad<|cT O hk (bj C bg) (by lia) (λi=>tB<|U+1+i) (λi hi=>{c8 _ (by omega),c9 _ (by lia)}) (λi=>decide<|f (tB<|U+1+i)<f a[C]) (λi hi=>by rw[AC rfl]) (λi j a0 hj h=>?_) λk2 cB a3 a4=>?_
        .have:=ca (i:=U+1+i) (j:=U+1+j) (by lia) (by omega);simp at h ⊢;lia
        have a3:∀i,i<k2->f (tB<|U+1+i)<f a[C]:=λi hi=>by have:=a3 i hi;simpa using this
        have a4:∀i,k2<=i->i<b.size-(U+1)->f a[C]<=f (tB<|U+1+i):=λi hi hj=>by have:=a4 i hi hj;simpa using this
        have M3:MP f a b (a1.push b[U]++b.extract (U+1) (U+1+k2)) C (U+1+k2):=M2.segB (by omega) λi hi bf j hj a0=>by have h1:=a3 i bf;rw[bn _ hi] at h1;exact BM (BJ h1)<|w4 sa a0 hj
        have pA:∀j (hj:j<b.size),U+1+k2<=j->f a[C]<=f b[j]:=λj hj a0=>by have h1:=a4 (j-(U+1)) (by lia) (by omega);rw[show U+1+(j-(U+1))=j by lia,bn _ hj] at h1;exact h1
        dsimp only;obtain⟨o3,c3⟩:∃o,o=a1.push b[U]:={_,rfl};obtain⟨av,c4⟩:∃i,i=U+1:={_,rfl};rw[<-c3] at s2;rw[<-c3,<-c4] at M2 M3 ⊢;rw[<-c4] at pA cB;generalize cv:o3=o0;generalize cy:av=j0;revert j0;revert o0;refine mZ (P:=λ(o:_b) (j:Nat)=>MP f a b o C j/\a1.size+1<=o.size/\j<b.size/\∀j' (hj:j'<b.size),j<=j'->f a[C]<=f b[j']) (x:=o3) (i:=av) (λbb d0 hP=>?tail2) (λck=>?hN) λck key=>?hY
        case hN=>
         obtain rfl:k2=0:=by lia
         exact{M2,by lia,by lia,λj hj a0=>pA j hj (by lia)}
        case hY=>
         by_cases e3:(av+k2==b.size)=true
         .refine xg e3 ?_;exact Ae {{_,rfl},.inl {_,rfl,M3.done (by simpa using e3)}}
         .refine jt e3 ?_;have e3:¬av+k2=b.size:=by simpa using e3
          exact key _ _ {M3,by rw[BP];lia,by lia,pA}
        clear pA M3 a3 a4;obtain⟨M3,h4,l4,pA⟩:=hP
        all_goals
         refine Ad<|x8 (ab C bg) ?_;have M4:=M3.oneA (by lia) pA;have s4:(bb.push a[C]).size=bb.size+1:=Bn _;by_cases e4:(C+1+1==a.size)=true
         .refine xg e4 ?_;exact Ae {{_,rfl},.inl {_,rfl,M4.last (by simpa using e4) hl}}
         .refine jt e4 ?_;have e4:¬C+1+1=a.size:=by simpa using e4
          refine f9 (λ_=>?_) λ_=>?_
          .exact Ae {{_,rfl},.inr {_,_,_,_,_,_,rfl,M4,by exact Fa,l4,by lia}}
          .exact Ae {{_,rfl},_,_,_,_,_,_,rfl,M4,by lia,l4,by lia}
    .rintro c p ⟨⟨g',rfl⟩,J,l,U,be,ac,bc,rfl,M,T,t,ba⟩;have:=M.sz;omega
    .rintro c p ⟨⟨g',rfl⟩,h⟩;rcases h with⟨r,er,hr⟩|⟨cP,l,U,cm,ac,bc,rfl,M,T,t,ba⟩
     .obtain⟨c1,c2⟩:=c;cases er;exact Ae {{(g'),rfl},r,rfl,hr}
     .dsimp only;refine Ad<|wpS_modify ?_;exact Ae {{_,rfl},_,_,_,_,rfl,M,T,t,by lia}
 .rintro c p ⟨⟨g,rfl⟩,a2,l,U,mg,rfl,M,T,t,hs⟩;have:=M.sz;lia
 .rintro c p ⟨⟨g,rfl⟩,r,er,hr⟩;obtain⟨c1,c2⟩:=c;cases er;exact Ae<|q r g hr
end
structure MH(f:_r)(la lb ra rb o:Z'):Prop where
 perm:(ra++rb++o).Perm (la++lb)
 so:o.Pairwise λx y=>f x<=f y
 sa:ra.Pairwise λx y=>f x<=f y
 sb:rb.Pairwise λx y=>f x<=f y
 oa:∀x∈ra,∀y∈o,f x<=f y
 ob:∀x∈rb,∀y∈o,f x<=f y
def MH.a{f:_r}{j l o seg U g:Z'}(h:MH f j l (U++seg) g o)(hs:∀x∈g,∀y∈seg,f x<=f y):MH f j l U g (seg++o):=by
 have sa:=AV.mp h.sa;refine{List.Perm.trans ?_ h.perm,AV.mpr {sa.2.1,h.so,λx J y I=>h.oa x (Ai _ J) y I},sa.1,h.sb,λx J y I=>?_,λx J y I=>?_}
 .rw[<-Av];refine(Bu o).mpr ?_;rw[Av,Av];exact(Bz U).mpr BV
 .rcases Ao.mp I with I|I
  .exact sa.2.2 x J y I
  .exact h.oa x (Ay _ J) y I
 .rcases Ao.mp I with I|I
  .exact hs x J y I
  .exact h.ob x J y I
def MH.b{f:_r}{l p o seg U g:Z'}(h:MH f l p U (g++seg) o)(hs:∀x∈U,∀y∈seg,f x<=f y):MH f l p U g (seg++o):=by
 have j:=AV.mp h.sb;refine{?_,AV.mpr {j.2.1,h.so,λx J y I=>h.ob x (Ai _ J) y I},h.sa,j.1,λx J y I=>?_,λx J y I=>?_}
 .have:=h.perm;rw[<-Av,Av U g seg];exact this
 .rcases Ao.mp I with I|I
  .exact hs x J y I
  .exact h.oa x J y I
 .rcases Ao.mp I with I|I
  .exact j.2.2 x J y I
  .exact h.ob x (Ay _ J) y I
def MH.ea{f:_r}{I J o U:Z'}(h:MH f I J [] U o):kq f I J (U++o):={by have:=h.perm;rwa[BS] at this,AV.mpr {(h.sb),h.so,h.ob}}
def MH.eb{f:_r}{g j o J U:Z'}(h:MH f g j J U o)(hs:∀x∈U,∀y∈J,f x<=f y):kq f g j (U++J++o):=by
 refine{List.Perm.trans ?_ h.perm,?_}
 .exact(Bu o).mpr BV
 .refine AV.mpr {AV.mpr {(h.sb),h.sa,hs},h.so,λx I y l=>?_};rcases Ao.mp I with I|I
  .exact h.ob x I y l
  .exact h.oa x I y l
structure HP(f:_r)(a b eH:_b)(na nb:Nat):Prop where
 mi:MH f a.toList b.toList (a.toList.take na) (b.toList.take nb) eH.toList.reverse
 sz:eH.size+na+nb=a.size+b.size
 la:na<=a.size
 lb:nb<=b.size
def K7(a:_b)(h:i<a.size):a.toList.take (i+1)=a.toList.take i++[a[i]]:=by rw[AW];simp[h]
def hX{a:_b}{x:Keyed}(h:x∈a.toList.take i):∃j,∃I:j<a.size,j<i/\a[j]=x:=by
 obtain⟨j,I,e⟩:=BE h;rw[AS] at I;have J:j<a.size:=by have:a.toList.length=a.size:=A7;omega
 refine{j,J,by omega,?_};rw[<-e];simp
def Gw(l:Z'){k:Nat}(h:i<=k):l.take i++(l.drop i).take (k-i)=l.take k:=by have:=List.take_add (l:=l) (i:=i) (j:=k-i);rw[show i+(k-i)=k by omega] at this;exact this.symm
section
variable {f:_r}{a b eH:_b}{nb:Nat}
def HP.segA(M:HP f a b eH na nb){k:Nat}(J:k<=na)(h:∀i (hi:i<a.size),k<=i->i<na->∀j (I:j<b.size),j<nb->f b[j]<=f a[i]):HP f a b (eH++(a.extract k na).reverse) k nb:=by
 have o:=M.la;refine{?_,?_,by exact G5,M.lb}
 .rw[A9,B8,CK,Dp,gh];refine MH.a (by rw[Gw _ J];exact M.mi) λx U y g=>?_;obtain⟨j,I,l,rfl⟩:=hX U;obtain⟨i,hi,p,rfl⟩:=uS g;exact h (k+i) hi (by exact Bd _ _) (by lia) j I l
 .have:=M.sz;rw[BP,Array.size_reverse,CZ];lia
def HP.segB(M:HP f a b eH na nb){k:Nat}(J:k<=nb)(h:∀i (hi:i<b.size),k<=i->i<nb->∀j (I:j<a.size),j<na->f a[j]<=f b[i]):HP f a b (eH++(b.extract k nb).reverse) na k:=by
 have o:=M.lb;refine{?_,?_,M.la,by lia}
 .rw[A9,B8,CK,Dp,gh];refine MH.b (by rw[Gw _ J];exact M.mi) λx U y g=>?_;obtain⟨j,I,l,rfl⟩:=hX U;obtain⟨i,hi,p,rfl⟩:=uS g;exact h (k+i) hi (by lia) (by lia) j I l
 .have:=M.sz;rw[BP,Array.size_reverse,CZ];lia
def HP.oneA(M:HP f a b eH (na+1) nb)(hi:na<a.size)(h:∀j (I:j<b.size),j<nb->f b[j]<=f a[na]):HP f a b (eH.push a[na]) na nb:=by refine{?_,by have:=M.sz;rw[Bn];lia,by exact jO,M.lb};rw[CF,B8];refine MH.a (seg:=[a[na]]) (by rw[<-K7 a hi];exact M.mi) λx J y U=>?_;obtain⟨j,I,g,rfl⟩:=hX J;rw[Ak.mp U];exact h j I g
def HP.oneB(M:HP f a b eH na<|nb+1)(hi:nb<b.size)(h:∀j (I:j<a.size),j<na->f a[j]<=f b[nb]):HP f a b (eH.push b[nb]) na nb:=by refine{?_,by have:=M.sz;rw[Bn];lia,M.la,by lia};rw[CF,B8];refine MH.b (seg:=[b[nb]]) (by rw[<-K7 b hi];exact M.mi) λx J y U=>?_;obtain⟨j,I,g,rfl⟩:=hX J;rw[Ak.mp U];exact h j I g
def HP.done(M:HP f a b eH na nb)(h:na=0):kq f a.toList b.toList (a.extract 0 na++b.extract 0 nb++eH.reverse).toList:=by subst h;have:=M.mi;rw[CH] at this;have:=this.ea;rw[A9,A9,gh,gh,CK];simpa using this
def HP.last(M:HP f a b eH na nb)(h:nb=1)(g:0<b.size)(I:∀x∈a.toList,f b[0]<f x):kq f a.toList b.toList (b.extract 0 nb++a.extract 0 na++eH.reverse).toList:=by
 have:=M.mi.eb λx J y U=>by
  obtain⟨j,l,o,rfl⟩:=hX J;have e:j=0:=by lia
  subst e;exact BJ<|I y<|BG U
 rw[A9,A9,gh,gh,CK];simpa using this
end
def HP.preA{f:_r}{a b eH:_b}{nb:Nat}(M:HP f a b eH na nb)(I:0<na)(h:∀j (J:j<b.size),j<nb->f b[j]<=f (a[na-1]'(by have:=M.la;omega))):HP f a b (eH.push (a[na-1]'(by have:=M.la;omega))) (na-1) nb:=by obtain⟨n,rfl⟩:∃n,na=n+1:={na-1,by lia};have U:=M.la;exact HP.oneA M (by assumption) h
def HP.preB{f:_r}{a b eH:_b}{nb:Nat}(M:HP f a b eH na nb)(I:0<nb)(h:∀j (J:j<a.size),j<na->f a[j]<=f (b[nb-1]'(by have:=M.lb;omega))):HP f a b (eH.push (b[nb-1]'(by have:=M.lb;lia))) na (nb-1):=by obtain⟨n,rfl⟩:∃n,nb=n+1:={nb-1,by lia};have U:=M.lb;exact HP.oneB M (by lia) h
section
variable {w:aan}{κ:SortKind}{Ok:Keyed->Prop}{f:_r}
theorem VN(O:Ord prog w A s κ Ok f){a b:_b}{st:SortSt}{Q:_b->SortSt->Prop}(hk:kindOf st=κ)(bi:∀x∈a.toList,Ok x)(bj:∀x∈b.toList,Ok x)
 (sa:a.toList.Pairwise λx y=>f x<=f y) (sb:b.toList.Pairwise λx y=>f x<=f y) (ha:0<a.size) (hb:0<b.size) (h0:∀x∈a.toList,f b[0]<f x) (hl:∀x∈b.toList,f x<f a[a.size-1])
 (q:∀r g,kq f a.toList b.toList r.toList->Q r (iN st g)):wpS (model prog w) A E s (VL a b) Q st:=by
 have bm:∀i (p:i<a.size),Ok a[i]:=λi p=>bi _ (by simp);have bn:∀i (p:i<b.size),Ok b[i]:=λi p=>bj _ (by simp);have a5:∀i (p:i<a.size),a[i]?=some a[i]:=λi p=>by simp[p]
 have ag:∀i (p:i<b.size),b[i]?=some b[i]:=λi p=>by simp[p]
 obtain⟨tA,c0,be,c6,c7⟩:=Gv (f:=f) bi sa b[0];obtain⟨tB,bf,bg,c8,c9⟩:=Gv (f:=f) bj sb b[0];have be:∀i,i<a.size->a[0+i]?=some (tA i):=λi p=>by rw[B1];exact be i p
 have bg:∀i,i<b.size->b[0+i]?=some (tB i):=λi p=>by rw[B1];exact bg i p
 refine Ad<|wpS_lift<|BB {rfl,?_};refine Ad<|x8 (x:=a[a.size-1]) (a5 _ (by exact E9)) ?_;dsimp only;obtain⟨n0,di⟩:∃n,a.size=n+1:={a.size-1,by lia};have M0:HP f a b #[a[a.size-1]] (a.size-1) b.size:=by
  have M:HP f a b #[] (a.size-1+1) b.size:=by
   refine{{?_,by simp,?_,?_,by simp,by simp},by simp;lia,by exact E9,Aj _}
   .rw[AM (by simp;lia),AM (by simp)];simp
   .rw[AM (by simp;lia)];exact sa
   .rw[AM (by simp)];exact sb
  have:=M.oneA (by lia) λj hj _=>BJ<|hl b[j] (by simp);simpa using this
 by_cases c1:(a.size-1==0)=true
 .refine xg c1 ?_;exact Ae<|q _ (gallopOf st)<|M0.done (by simpa using c1)
 refine jt c1 ?_;by_cases c2:(b.size==1)=true
 .refine xg c2 ?_;exact Ae<|q _ (gallopOf st)<|M0.last (by simpa using c2) hb h0
 refine jt c2 ?_;have c1:¬a.size-1=0:=by simpa using c1
 have c2:¬b.size=1:=by simpa using c2
 refine Ad<|wpS_get ?_;refine Ad (AX (AO (I:=λx c U=>(∃g,U=iN st g)/\∃na nb a3 mg,c=(none,na,nb,a3,mg)/\HP f a b a3 na nb/\0<na/\1<nb/\x+1<=a3.size)
  (Q:=λc U=>(∃g,U=iN st g)/\∃r,c.1=some r/\kq f a.toList b.toList r.toList) ?_ ?_ ⟨⟨gallopOf st,rfl⟩,_,_,_,_,rfl,M0,by exact FA,by lia,by simp⟩) ?_)
 .rintro x c U _ hx ⟨⟨g,rfl⟩,na,nb,a3,mg,rfl,M,t,T,hs⟩;dsimp only;refine Ad (AX (AO (I:=λy c U=>U=iN st g/\∃na nb J ac bc,c=(none,na,nb,J,ac,bc)/\HP f a b J na nb/\0<na/\1<nb/\a3.size+y<=J.size)
   (Q:=λc U=>U=iN st g/\((∃r,c.1=some r/\kq f a.toList b.toList r.toList)\/∃na nb J ac bc,c=(none,na,nb,J,ac,bc)/\HP f a b J na nb/\0<na/\1<nb/\a3.size+1<=J.size)) ?_ ?_ ⟨rfl,_,_,_,_,_,rfl,M,t,T,Aj _⟩) ?_)
  .rintro y c U _ hy ⟨rfl,na,nb,J,ac,bc,rfl,M,t,T,c3⟩;have ca:=M.la;have cc:=M.lb;have a0:nb-1<b.size:=by omega
   have ab:na-1<a.size:=by lia
   dsimp only;refine Ad<|x8 (ag (nb-1) a0) ?_;refine Ad<|x8 (a5 (na-1) ab) ?_;refine Ad<|w_lt O hk (bn (nb-1) a0) (bm (na-1) ab) ?_;dsimp only;by_cases c:f b[nb-1]<f a[na-1]
   .refine xg (AA c) ?_;refine Ad<|x8 (a5 (na-1) ab) ?_;have M':=M.preA t λj hj C=>BJ<|Int.lt_of_le_of_lt (w4 sb (i:=j) (j:=nb-1) (CL C) a0) c;have s2:(J.push a[na-1]).size=J.size+1:=Bn _;by_cases e1:(na-1==0)=true
    .refine xg e1 ?_;exact Ae {rfl,.inl {_,rfl,M'.done (by simpa using e1)}}
    .refine jt e1 ?_;have e1:¬na-1=0:=by simpa using e1
     refine f9 (λ_=>?_) λ_=>?_
     .exact Ae {rfl,.inr {_,_,_,_,_,rfl,M',by exact FA,T,by lia}}
     .exact Ae {rfl,_,_,_,_,_,rfl,M',by lia,T,by lia}
   .refine jt (by rw[Aw c];decide) ?_;refine Ad<|x8 (ag (nb-1) a0) ?_;have M':=M.preB (by exact jO) λj hj C=>BM (w4 sa (i:=j) (j:=na-1) (CL C) ab) (by omega);have s2:(J.push b[nb-1]).size=J.size+1:=Bn _;by_cases e1:(nb-1==1)=true
    .refine xg e1 ?_;exact Ae {rfl,.inl {_,rfl,M'.last (by simpa using e1) hb h0}}
    .refine jt e1 ?_;have e1:¬nb-1=1:=by simpa using e1
     refine f9 (λ_=>?_) λ_=>?_
     .exact Ae {rfl,.inr {_,_,_,_,_,rfl,M',t,by lia,by lia}}
     .exact Ae {rfl,_,_,_,_,_,rfl,M',t,by lia,by lia}
  .rintro c U ⟨rfl,na,nb,J,ac,bc,rfl,M,t,T,c3⟩;have:=M.sz;omega
  .rintro c U ⟨rfl,h⟩;rcases h with⟨r,er,hr⟩|⟨na,nb,ba,ac,bc,rfl,M,t,T,c3⟩
   .obtain⟨c1,c2⟩:=c;cases er;exact Ae {{(g),rfl},r,rfl,hr}
   .dsimp only;refine Ad<|wpS_lift<|BB {rfl,?_};refine Ad (AX (AO (I:=λy c U=>(∃g,U=iN st g)/\∃na nb J mg ac bc,c=(none,na,nb,J,mg,ac,bc)/\HP f a b J na nb/\0<na/\1<nb/\ba.size+y<=J.size)
     (Q:=λc U=>(∃g,U=iN st g)/\((∃r,c.1=some r/\kq f a.toList b.toList r.toList)\/∃na nb J mg ac bc,c=(none,na,nb,J,mg,ac,bc)/\HP f a b J na nb/\0<na/\1<nb/\ba.size<=J.size)) ?_ ?_ ⟨⟨g,rfl⟩,_,_,_,_,_,_,rfl,M,t,T,Aj _⟩) ?_)
    .rintro y c U _ hy ⟨⟨g',rfl⟩,na,nb,J,bh,ac,bc,rfl,M,t,T,bb⟩;have ca:=M.la;have cc:=M.lb;have a0:nb-1<b.size:=by omega
     have ab:na-1<a.size:=by lia
     dsimp only;generalize bh-1=cm;revert cm;refine wY (y:=bh) λcv=>?_
     all_goals
      refine Ad<|wpS_modify ?_;refine Ad<|x8 (ag (nb-1) a0) ?_;refine Ad<|cT O hk (bn (nb-1) a0) (by exact E9) tA (λi p=>{be _ (by exact Fx),c6 _ (by lia)}) (λi=>!decide (f b[nb-1]<f (tA i))) (λi p=>by rw[Az (by simp)]) (λi j C hj h=>?_) λk cy al au=>?_
      .have:=c7 (i:=i) (j:=j) (by lia) (by exact Fx);simp at h ⊢;lia
      have al:∀i,i<k->f (tA i)<=f b[nb-1]:=λi p=>by have:=al i p;simpa using this
      have au:∀i,k<=i->i<na->f b[nb-1]<f (tA i):=λi p hj=>by have:=au i p hj;simpa using this
      have M1:HP f a b (J++(a.extract k na).reverse) k nb:=M.segA cy λi p h1 h2 j hj C=>by have h3:=au i h1 h2;rw[c0 _ p] at h3;exact BM (w4 sb (i:=j) (j:=nb-1) (CL C) a0)<|BJ h3
      have pB:∀j (hj:j<a.size),j<k->f a[j]<=f b[nb-1]:=λj hj C=>by have h1:=al j C;rw[c0 _ hj] at h1;exact h1
      dsimp only;generalize dj:na-k=cn;generalize cB:J=o0;generalize cP:na=j0;revert j0;revert o0;refine mZ (P:=λ(o:_b) (j:Nat)=>HP f a b o j nb/\J.size<=o.size/\0<j/\∀j' (hj:j'<a.size),j'<j->f a[j']<=f b[nb-1]) (x:=J) (i:=na) (λa1 l hP=>?tail) (λck=>?hN) λck key=>?hY
      case hN=>
       obtain rfl:k=na:=by lia
       exact{M,Aj _,by lia,pB}
      case hY=>
       by_cases e1:(k==0)=true
       .refine xg e1 ?_;exact Ae {{_,rfl},.inl {_,rfl,M1.done (by simpa using e1)}}
       .refine jt e1 ?_;have e1:¬k=0:=by simpa using e1
        exact key _ _ {M1,by rw[BP];exact Bd _ _,by exact FA,pB}
      clear pB M1 al au;obtain⟨M1,h3,l3,pB⟩:=hP
      all_goals
       have dd:=M1.la;have av:l-1<a.size:=by lia
       refine Ad<|x8 (ag (nb-1) a0) ?_;have M2:=M1.preB (by exact jO) pB;have s2:(a1.push b[nb-1]).size=a1.size+1:=Bn _;by_cases e2:(nb-1==1)=true
       case' pos=>
        refine xg e2 ?_;exact Ae {{_,rfl},.inl {_,rfl,M2.last (by simpa using e2) hb h0}}
       case' neg=>
        refine jt e2 ?_;have e2:¬nb-1=1:=by simpa using e2
        refine Ad<|x8 (a5 (l-1) av) ?_;refine Ad<|cT O hk (bm (l-1) av) (by lia) tB (λi p=>{bg _ (by exact uj),c8 _ (by lia)}) (λi=>decide<|f (tB i)<f a[l-1]) (λi p=>by rw[AC rfl]) (λi j C hj h=>?_) λk2 c4 a4 a2=>?_
        .have:=c9 (i:=i) (j:=j) (by lia) (by exact uj);simp at h ⊢;lia
        have a4:∀i,i<k2->f (tB i)<f a[l-1]:=λi p=>by have:=a4 i p;simpa using this
        have a2:∀i,k2<=i->i<nb-1->f a[l-1]<=f (tB i):=λi p hj=>by have:=a2 i p hj;simpa using this
        have k1:0<k2:=by
         rcases Nat.eq_zero_or_pos k2 with h|h
         .exfalso;have h5:=a2 0 (by exact xY) (by lia);rw[bf _ hb] at h5;have h6:=h0 a[l-1] (by simp);lia
         .exact h
        have M3:HP f a b (a1.push b[nb-1]++(b.extract k2<|nb-1).reverse) l k2:=M2.segB c4 λi p h1 h2 j hj C=>by have h5:=a2 i h1 h2;rw[bf _ p] at h5;exact BM (w4 sa (i:=j) (j:=l-1) (CL C) av) h5
        have pA:∀j (hj:j<b.size),j<k2->f b[j]<=f a[l-1]:=λj hj C=>by have h5:=a4 j C;rw[bf _ hj] at h5;exact BJ h5
        dsimp only;generalize d0:nb-1-k2=dp;obtain⟨o3,dc⟩:∃o,o=a1.push b[nb-1]:={_,rfl};obtain⟨aL,c5⟩:∃i,i=nb-1:={_,rfl};have eb:b[nb-1]=b[aL]'(by lia):=by subst c5;rfl
        rw[<-dc] at s2 M2 M3 ⊢;rw[<-c5] at M2 M3 d0 c4 ⊢;generalize cB:o3=o0;generalize cP:aL=j0;revert j0;revert o0;refine mZ (P:=λ(o:_b) (j:Nat)=>HP f a b o l j/\a1.size+1<=o.size/\1<j/\∀j' (hj:j'<b.size),j'<j->f b[j']<=f a[l-1]) (x:=o3) (i:=aL) (λbd dt hP=>?tail2) (λck=>?hN) λck key=>?hY
        case hN=>
         obtain rfl:k2=aL:=by lia
         exact{M2,by lia,by lia,pA}
        case hY=>
         by_cases e3:(k2==1)=true
         .refine xg e3 ?_;exact Ae {{_,rfl},.inl {_,rfl,M3.last (by simpa using e3) hb h0}}
         .refine jt e3 (jt (show ¬(k2==0)=true by simp;exact Jg) ?_);have e3:¬k2=1:=by simpa using e3
          exact key _ _ {M3,by rw[BP];lia,by lia,pA}
        clear pA M3 a4 a2;obtain⟨M3,h4,l4,pA⟩:=hP
        all_goals
         refine Ad<|x8 (a5 (l-1) av) ?_;have M4:=M3.preA l3 pA;have s4:(bd.push a[l-1]).size=bd.size+1:=Bn _;by_cases e4:(l-1==0)=true
         .refine xg e4 ?_;exact Ae {{_,rfl},.inl {_,rfl,M4.done (by simpa using e4)}}
         .refine jt e4 ?_;have e4:¬l-1=0:=by simpa using e4
          refine f9 (λ_=>?_) λ_=>?_
          .exact Ae {{_,rfl},.inr {_,_,_,_,_,_,rfl,M4,by exact FA,l4,by lia}}
          .exact Ae {{_,rfl},_,_,_,_,_,_,rfl,M4,by lia,l4,by lia}
    .rintro c U ⟨⟨g',rfl⟩,na,nb,J,bh,ac,bc,rfl,M,t,T,bb⟩;have:=M.sz;omega
    .rintro c U ⟨⟨g',rfl⟩,h⟩;rcases h with⟨r,er,hr⟩|⟨na,nb,de,cv,ac,bc,rfl,M,t,T,bb⟩
     .obtain⟨c1,c2⟩:=c;cases er;exact Ae {{(g'),rfl},r,rfl,hr}
     .dsimp only;refine Ad<|wpS_modify ?_;exact Ae {{_,rfl},_,_,_,_,rfl,M,t,T,by lia}
 .rintro c U ⟨⟨g,rfl⟩,na,nb,a3,mg,rfl,M,t,T,hs⟩;have:=M.sz;lia
 .rintro c U ⟨⟨g,rfl⟩,r,er,hr⟩;obtain⟨c1,c2⟩:=c;cases er;exact Ae<|q r g hr
end
def VO{σ:Type}{st I:σ}{Q:PUnit->σ->Prop}(h:Q ⟨⟩ I):wpS M A E s (set I:StateT σ Sem PUnit) Q st:=by unfold wpS;rw[StateT.run_set];exact Am {(rfl),h}
theorem nv{α:Type}:∀(m:List α) (arr:Array α) (i k:Nat),i+k+m.length<=arr.size->((m.zipIdx k).foldl (λ(a:Array α) (I:α×Nat)=>a.setIfInBounds (i+I.2) I.1) arr).toList=arr.toList.take (i+k)++(m++arr.toList.drop (i+k+m.length))
 |[],arr,i,k,h=>by simp
 |x::m,arr,i,k,h=>by
  rw[DV,Eg];simp only[Ap] at h;rw[nv m _ i (k+1) (by simp;lia)];have e:(arr.setIfInBounds (i+k) x).toList=arr.toList.set (i+k) x:=by simp
  have l:arr.toList.length=arr.size:=A7;rw[e,List.drop_set,AC (by exact Bd _ _),<-B3,AW,B9 (by lia),List.take_set_of_le (by simp +arith only),Ap];simp;congr 1;simp +arith only
section
variable {w:aan}{κ:SortKind}{Ok:Keyed->Prop}{f:_r}
def wX{l:Z'}(s:l.Pairwise λx y=>f x<=f y)(I:i<=j)(J:j<l.length):f (l[i]'(by exact qM))<=f l[j]:=by
 rcases DF I with h|h
 .exact CQ.mp s i j (by exact qM) J h
 .subst h;exact C1 _
def HH{l:Z'}{x:Keyed}(h:x∈l):∃i,∃hi:i<l.length,l[i]=x:=BE h
def HI{l:Z'}{x:Keyed}(h:x∈l.take m):∃i,∃hi:i<l.length,i<m/\l[i]=x:=by obtain⟨i,hi,rfl⟩:=BE h;rw[AS] at hi;exact{i,by lia,by lia,Bw.symm}
def Gx{l:Z'}{x:Keyed}{k:Nat}(h:x∈l.drop k):∃i,∃hi:i<l.length,k<=i/\l[i]=x:=by obtain⟨i,hi,rfl⟩:=BE h;rw[BH] at hi;exact{k+i,by lia,Bd _ _,DL.symm}
theorem VP(O:Ord prog w A s κ Ok f){st:SortSt}{X Y:Z'}{w1 w2:Nat}{Q:Bool->SortSt->Prop}(hk:kindOf st=κ)(hf:failedOf st=none)(hp:pendingOf st=#[(0,X.length,w1),(X.length,Y.length,w2)])(ea:(arrOf st).toList=X++Y)(ok:∀x∈X++Y,Ok x)
 (lX:0<X.length) (lY:0<Y.length) (sX:X.Pairwise λx y=>f x<=f y) (sY:Y.Pairwise λx y=>f x<=f y) (q:∀T,failedOf T=none->(pendingOf T).size=1->(arrOf T).toList.Perm (X++Y)->((arrOf T).toList.Pairwise λx y=>f x<=f y)->Q true T):wpS (model prog w) A E s (mergeAt' 0) Q st:=by
 have a1:(pendingOf st)[0]?=some (0,X.length,w1):=by rw[hp];rfl
 have a2:(pendingOf st)[0+1]?=some (X.length,Y.length,w2):=by rw[hp];rfl
 have a3:(((pendingOf st).setIfInBounds 0 (0,X.length+Y.length,w1)).eraseIdxIfInBounds<|0+1).size=1:=by simp[hp]
 refine Ad<|wpS_get ?_;rw[show(sortPriv% PySem.Builtin.SortState.pending) st=pendingOf st from rfl,a1,a2];dsimp only;refine Ad<|VO ?_;generalize ((pendingOf st).setIfInBounds 0 (0,X.length+Y.length,w1)).eraseIdxIfInBounds (0+1)=pn at a3 ⊢;have al:∀i (I:i<X.length),(arrOf st)[i]?=some X[i]:=λi I=>by rw[<-A4,ea,AH I];simp
 have au:∀i (I:i<Y.length),(arrOf st)[X.length+i]?=some Y[i]:=λi I=>by rw[<-A4,ea,AK<|Bd _ _,Bh];simp
 have ab:∀x∈X,Ok x:=λx l=>ok x<|Ay _ l;have ac:∀x∈Y,Ok x:=λx l=>ok x<|Ai _ l;obtain⟨tX,av⟩:∃t:Nat->Keyed,t=λi=>(X[i]?).getD X[0]:={_,rfl};have p:∀i (I:i<X.length),tX i=X[i]:=λi I=>by rw[av];simp[I]
 obtain⟨tY,aL⟩:∃t:Nat->Keyed,t=λi=>(Y[i]?).getD X[0]:={_,rfl};have C:∀i (I:i<Y.length),tY i=Y[i]:=λi I=>by rw[aL];simp[I]
 refine Ad<|x8 (x:=Y[0]) (au 0 lY) ?_;refine Ad (cT O hk (ac _<|BX _) lX tX (λi I=>{by rw[p i I,B1];exact al i I,by rw[p i I];exact ab _<|BX _}) (λi=>!decide (f Y[0]<f (tX i))) (λi I=>by rw[Az (by simp)]) (λi j ag J h=>?_) λk ba a4 a5=>?_)
 .have:=wX sX ag J;rw[p j J] at h;rw[p i (by exact qM)];simp at h ⊢;omega
 have a4:∀i (I:i<k),f (X[i]'(by exact Fx))<=f Y[0]:=λi I=>by have:=a4 i I;rw[p i (by lia)] at this;simpa using this
 have a5:∀i (J:i<X.length),k<=i->f Y[0]<f X[i]:=λi J I=>by have:=a5 i I J;rw[p i J] at this;simpa using this
 dsimp only;rw[B1];by_cases c:(X.length-k==0)=true
 .rw[AC c];have c:X.length-k=0:=by simpa using c
  refine Ae (q _ hf a3 (by show(arrOf st).toList.Perm _;rw[ea]) (by show(arrOf st).toList.Pairwise _;rw[ea];refine AV.mpr {sX,sY,λx l y hy=>?_};obtain⟨i,I,rfl⟩:=HH l;obtain⟨j,J,rfl⟩:=HH hy;exact BM (a4 i (by lia))<|wX sY (Bb _) J))
 rw[Az c];have c:k<X.length:=by
  have:¬X.length-k=0:=by simpa using c
  lia
 refine Ad (x8 (x:=X[X.length-1]) (by rw[show k+(X.length-k)-1=X.length-1 by lia];exact al _ (by lia)) ?_);refine Ad (cT O hk (ab _<|BX _) (by lia) tY (λi I=>{by rw[C i I];exact au i I,by rw[C i I];exact ac _<|BX _}) (λi=>decide<|f (tY i)<f X[X.length-1]) (λi I=>by rw[AC rfl]) (λi j ag J h=>?_) λm bb a0 o=>?_)
 .have:=wX sY ag J;rw[C j J] at h;rw[C i (by exact qM)];simp at h ⊢;omega
 have a0:∀i (I:i<m),f (Y[i]'(by exact Fx))<f X[X.length-1]:=λi I=>by have:=a0 i I;rw[C i (by lia)] at this;simpa using this
 have o:∀i (J:i<Y.length),m<=i->f X[X.length-1]<=f Y[i]:=λi J I=>by have:=o i I J;rw[C i J] at this;simpa using this
 have m0:0<m:=Nat.pos_of_ne_zero λh=>by have h5:=o 0 lY (by lia);have h6:=a5 (X.length-1) (by lia) (by lia);omega
 dsimp only;rw[Az (show ¬(m==0)=true by simp;lia)];have ex:((arrOf st).extract k X.length).toList=X.drop k:=by rw[gh,ea,List.drop_append_of_le_length (by lia),Cz (by simp),AM (by simp)]
 have ey:((arrOf st).extract X.length<|X.length+m).toList=Y.take m:=by rw[gh,ea,List.drop_left,Bh]
 have jd:∀(r:_b) (g:Nat),kq f (X.drop k) (Y.take m) r.toList->Q (failedOf st).isNone (SortSt.mk' (kindOf st) (r.toList.zipIdx.foldl (λa x=>a.setIfInBounds (k+x.2) x.1)<|arrOf st) pn g<|failedOf st):=by
  rintro r g ⟨hm,hs⟩;have lr:r.toList.length=X.length-k+m:=by rw[hm.length_eq];simp;lia
  have pt:=nv r.toList (arrOf st) k 0 (by rw[lr,<-A7,ea,Ab];lia);rw[ea,lr,Nat.add_zero,show k+(X.length-k+m)=X.length+m by lia,Cz (by lia),List.drop_length_add_append] at pt;rw[hf];refine q _ rfl a3 ((Eh pt).trans ?_)<|Eq.subst (motive:=List.Pairwise λx y=>f x<=f y) pt.symm ?_
  .have h1:=(Bz<|X.take k).mpr<|(Bu<|Y.drop m).mpr hm;rwa[Av<|X.drop k,AU,<-Av (X.take k) (X.drop k),AU] at h1
  .refine AV.mpr {sX.sublist<|DK _ _,AV.mpr {hs,sY.sublist<|List.drop_sublist _ _,λx l y hy=>?_},λx l y hy=>?_}
   .obtain⟨j,J,h2,rfl⟩:=Gx hy;rcases Ao.mp (hm.mem_iff.mp l) with h|h
    .obtain⟨i,I,_,rfl⟩:=Gx h;exact BM (wX sX (by lia) (by lia))<|o j J h2
    .obtain⟨i,I,h1,rfl⟩:=HI h;exact wX sY (by lia) J
   .obtain⟨i,I,h1,rfl⟩:=HI l;have low:∀z∈Y,f X[i]<=f z:=λz hz=>by obtain⟨j,J,rfl⟩:=HH hz;exact BM (a4 i h1) (wX sY (Bb _) J)
    rcases Ao.mp hy with h|h
    .rcases Ao.mp (hm.mem_iff.mp h) with h|h
     .obtain⟨j,J,h2,rfl⟩:=Gx h;exact wX sX (by lia) J
     .exact low y<|BG h
    .exact low y<|CI h
 generalize (arrOf st).extract k X.length=U at ex ⊢;generalize (arrOf st).extract X.length (X.length+m)=V at ey ⊢;have zU:U.size=X.length-k:=by rw[<-A7,ex];simp
 have zV:V.size=m:=by rw[<-A7,ey];simp;lia
 have q5:0<U.size:=by lia
 have q6:0<V.size:=by lia
 have v0:V[0]=Y[0]:=by
  have:V.toList[0]?=(Y.take m)[0]?:=by rw[ey]
  rw[A4,List.getElem?_take,AC m0] at this;simpa[q6,lY] using this
 have ul:U[U.size-1]=X[X.length-1]:=by
  have:U.toList[U.size-1]?=(X.drop k)[U.size-1]?:=by rw[ex]
  rw[A4,CY,show k+(U.size-1)=X.length-1 by lia] at this;rw[CS (by lia),Ah (by lia)] at this;exact A1 this
 have q1:∀x∈U.toList,Ok x:=λx l=>ab x (CI (by rw[ex] at l;exact l));have q2:∀x∈V.toList,Ok x:=λx l=>ac x (BG (by rw[ey] at l;exact l));have q3:U.toList.Pairwise λx y=>f x<=f y:=by rw[ex];exact sX.sublist<|List.drop_sublist _ _
 have q4:V.toList.Pairwise λx y=>f x<=f y:=by rw[ey];exact sY.sublist<|DK _ _
 have q7:∀x∈U.toList,f V[0]<f x:=λx l=>by rw[v0];rw[ex] at l;obtain⟨i,I,h1,rfl⟩:=Gx l;exact a5 i I h1
 have q8:∀x∈V.toList,f x<f U[U.size-1]:=λx l=>by rw[ul];rw[ey] at l;obtain⟨i,I,h1,rfl⟩:=HI l;exact a0 i h1
 rw[<-ex,<-ey] at jd;split
 .exact Ad<|VM O hk q1 q2 q3 q4 q5 q6 q7 q8 λr g h=>Ad<|wpS_modify<|Ad<|wpS_get<|Ae<|jd r g h
 .exact Ad<|VN O hk q1 q2 q3 q4 q5 q6 q7 q8 λr g h=>Ad<|wpS_modify<|Ad<|wpS_get<|Ae<|jd r g h
end
def lM{arr:Array α}{P R:List α}{n:Nat}(h:arr.toList=P++R)(J:n<=R.length):(mirror arr P.length (P.length+n)<|(P.length+n-P.length) / 2).toList=P++((R.take n).reverse++R.drop n):=by
 have U:P.length+n<=arr.size:=by rw[<-A7,h,Ab];exact Nat.add_le_add_left J _
 have ap:∀(B:List α) (t:Nat),(P++B)[P.length+t]?=B[t]?:=λB t=>by rw[AK<|Bd ..,Bh]
 have I:(R.take n).length=n:=Cb J;refine C6 λk=>?_;rw[A4,getElem?_mirror_all U,<-A4,<-A4,h];rcases Co k P.length with c|c
 .rw[Az λz=>Eb.mpr z.1 c,AH c,AH c]
 obtain⟨j,rfl⟩:=B7 c;rw[ap ((R.take n).reverse++R.drop n) j];rcases Co j n with d|d
 .rw[AC {c,Nat.add_lt_add_left d _},show P.length+(P.length+n)-1-(P.length+j)=P.length+(n-1-j) by lia,ap,AH (by rw[BQ,I];exact d),List.getElem?_reverse (by rw[I];exact d),I,List.getElem?_take,AC (by lia)]
 .obtain⟨t,rfl⟩:=B7 d;rw[Az λz=>Eb.mpr (Bd n t)<|Nat.lt_of_add_lt_add_left z.2,ap,AK (by rw[BQ,I];exact d),BQ,I,Bh,CY]
def VQ{arr:Array α}{A Y Z:List α}{r:α}(h:arr.toList=A++(Y++r::Z)):(bubble arr (A.length+Y.length) Y.length).toList=A++r::(Y++Z):=by
 have J:A.length+Y.length<arr.size:=by rw[<-A7,h,Ab,Ab];exact Nat.add_lt_add_left (C2<|BZ _) _
 refine C6 λi=>?_;rw[A4,getElem?_bubble J _<|Ds ..,Nat.add_sub_cancel,<-A4,<-A4,<-A4,h];rcases Co i A.length with c|c
 .rw[Az<|A5 c,Az λz=>Nat.lt_asymm z.1 c,AH c,AH c]
 obtain⟨j,rfl⟩:=B7 c;have ap:∀(B:List α) (t:Nat),(A++B)[A.length+t]?=B[t]?:=λB t=>by rw[AK<|Bd ..,Bh]
 have I:∀(B:List α) (t:Nat),(Y++B)[Y.length+t]?=B[t]?:=λB t=>by rw[AK<|Bd ..,Bh]
 rw[ap (r::(Y++Z)) j];cases j with
 |zero=>rw[AC<|Nat.add_zero _,ap,List.getElem?_cons_zero];exact I _ 0
 |succ j=>
  rw[Az<|CM<|C2<|BZ _,Cv,show A.length+(j+1)-1=A.length+j from rfl,ap _ j,ap _<|j+1];rcases Co j Y.length with d|d
  .rw[AC {C2<|BZ _,Nat.add_le_add_left d _},AH d,AH d]
  .obtain⟨t,rfl⟩:=B7 d;rw[Az λz=>Eb.mpr d<|Nat.le_of_add_le_add_left z.2,I,show Y.length+t+1=Y.length+(t+1) from rfl,I,Cv]
def uu{arr:Array α}{P R:List α}{k l:Nat}(h:arr.toList=P++R)(I:k<R.length)(J:l<=k):(bubble arr (P.length+k)<|P.length+k-(P.length+l)).toList=P++(R.take l++R[k]::((R.drop l).take (k-l)++R.drop (k+1))):=by
 obtain⟨d,rfl⟩:=B7 J;have U:R.take l++((R.drop l).take d++R[l+d]::R.drop (l+d+1))=R:=by rw[<-BK I,<-List.drop_drop,AU,AU]
 have g:(R.take l).length=l:=Cb<|AF J<|Bi I;have j:((R.drop l).take d).length=d:=Cb (by rw[BH];lia);have b:=VQ (arr:=arr) (A:=P++R.take l) (Y:=(R.drop l).take d) (Z:=R.drop<|l+d+1) (r:=R[l+d]) (by rw[Av,U];exact h);rw[Ab,g,j,Av] at b;rw[Bh,show P.length+(l+d)=P.length+l+d from(B3 _ _ _).symm,Bh];exact b
section
variable {w:aan}{κ:SortKind}{Ok:Keyed->Prop}{f:_r}
structure Tl(κ:SortKind)(Ok:Keyed->Prop)(st:SortSt)(P R:Z'):Prop where
 kind:kindOf st=κ
 arr:(arrOf st).toList=P++R
 ok:∀x∈R,Ok x
def jS(O:Ord prog w A s κ Ok f){st:SortSt}{P R:Z'}(T:Tl κ Ok st P R)(hi:i<R.length)(I:j<R.length){a b:Nat}(ea:a=P.length+i)(eb:b=P.length+j){Q:Option Bool->SortSt->Prop}(q:Q (some<|decide<|f R[i]<f R[j]) st):wpS (model prog w) A E s (ltAt' a b) Q st:=by
 have at_:∀i (hi:i<R.length),(arrOf st)[P.length+i]?=some R[i]:=λi hi=>by rw[<-A4,T.arr,AK (by exact Bd _ _),Bh];simp
 subst ea eb;rw[ltAt'_eq];refine Ad<|wpS_get ?_;refine Ad<|x8 (at_ i hi)<|Ad<|x8 (at_ j I) ?_;exact w_lt O T.kind (T.ok _<|BX _) (T.ok _<|BX _) q
def Up(f:_r)(R:Z')(n:Nat):Prop:=∀i j (_:i<=j) (_:j<R.length),j<n->f (R[i]'(by exact qM))<=f R[j]
def Up.snoc{R:Z'}{n:Nat}(h:Up f R n)(h1:1<=n)(l:n<R.length)(hs:f (R[n-1]'(by exact uZ))<=f R[n]):Up f R (n+1):=λi j I J U=>by
 rcases Co j n with c|c
 .exact h i j I J c
 .have e:j=n:=by lia
  subst e;rcases Co i j with g|g
  .exact BM (h i (j-1) (by omega) (by exact uZ) (by exact E9)) hs
  .have e:i=j:=by lia
   subst e;exact C1 _
def Up.pair{R:Z'}{n:Nat}(h:Up f R n)(g:n<=R.length):(R.take n).Pairwise λx y=>f x<=f y:=by rw[CQ];intro i j I J U;rw[AS] at I J;rw[Bw,Bw];exact h i j (by exact jO) (by lia) (by lia)
end
section
variable {w:aan}{κ:SortKind}{Ok:Keyed->Prop}{f:_r}
def Tl.same{st:SortSt}{P R R':Z'}(T:Tl κ Ok st P R)(p:R'.Perm R){arr:_b}(h:arr.toList=P++R'):Tl κ Ok (setArr st arr) P R':={T.kind,h,λx I=>T.ok x<|p.mem_iff.mp I}
def Up.one{R:Z'}:Up f R 1:=λi j I J h=>by
 have:i=j:=by lia
 subst this;exact C1 _
def jH{c:Prop}{_:Decidable c}{K T:StateT SortSt Sem α}{P:SortSt->Prop}{Q:α->SortSt->Prop}{st:SortSt}(J:¬c->P st)(key:∀I,P I->wpS (model prog w) A E s K Q I)
 (U:c->(∀I,P I->wpS (model prog w) A E s K Q I)->wpS (model prog w) A E s T Q st):wpS (model prog w) A E s (if c then T else K) Q st:=by
 by_cases h:c
 .rw[AC h];exact U h key
 .rw[Az h];exact key st<|J h
def g0(f:_r)(R:Z')(n:Nat):Prop:=∀i j (_:i<=j) (_:j<R.length),j<n->f R[j]<=f (R[i]'(by exact qM))
def K8{R R':Z'}(e:R'.map f=R.map f)(h1:i<R'.length)(h2:i<R.length):f R'[i]=f R[i]:=by
 have:(R'.map f)[i]?=(R.map f)[i]?:=by rw[e]
 rw[Al,Al,Ah h1,Ah h2] at this;exact A1 this
def g0.same{R R':Z'}{n:Nat}(D:g0 f R n)(e:R'.map f=R.map f):g0 f R' n:=λi j I U J=>by
 have l:R'.length=R.length:=by have:=BA List.length e;rwa[Ac,Ac] at this
 rw[K8 e U (by lia),K8 e (by lia) (by lia)];exact D i j I (by lia) J
def g0.snoc{R:Z'}{n:Nat}(h:g0 f R n)(h1:1<=n)(l:n<R.length)(hs:f R[n]<=f (R[n-1]'(by exact uZ))):g0 f R (n+1):=λi j I J U=>by
 rcases Co j n with c|c
 .exact h i j I J c
 .have e:j=n:=by lia
  subst e;rcases Co i j with g|g
  .exact BM hs<|h i (j-1) (by omega) (by exact uZ) (by exact E9)
  .have e:i=j:=by lia
   subst e;exact C1 _
def pG{arr:_b}{P R:Z'}{a b:Nat}{v:Int}(h:arr.toList=P++R)(U:a<=b)(o:b<=R.length)(g:∀i (_:i<R.length),a<=i->i<b->f R[i]=v):
 ∃R',(mirror arr (P.length+a) (P.length+b)<|(P.length+b-(P.length+a)) / 2).toList=P++R'/\R'.Perm R/\R'.map f=R.map f:=by
 have j:(P++R.take a).length=P.length+a:=by simp;lia
 have I:R=R.take a++((R.drop a).take (b-a)++(R.drop a).drop (b-a)):=by rw[AU,AU]
 have m:=lM (P:=P++R.take a) (R:=R.drop a) (n:=b-a) (by rw[h,Av,AU]) (by simp;lia);rw[j,show P.length+a+(b-a)=P.length+b by lia,Av] at m;refine{_,m,?_,?_}
 .refine List.Perm.trans ?_<|Eh I.symm;exact(Bz _).mpr ((Bu _).mpr<|DM _)
 .have r:((R.drop a).take<|b-a).map f=List.replicate (b-a) v:=by refine List.ext_getElem (by simp;lia) λi p l=>?_;rw[List.getElem_map,Bw,DL,List.getElem_replicate];rw[A3] at l;exact g _ _ (by lia) (by lia)
  have J:=BA (List.map f) I;rw[Ar,Ar,r] at J;rw[Ar,Ar,DY,r,List.reverse_replicate,J]
theorem VR(O:Ord prog w A s κ Ok f){st:SortSt}{P R:Z'}(T:Tl κ Ok st P R)(h1:1<=R.length){Q:Option Nat->SortSt->Prop}
 (q:∀n R' arr,1<=n->n<=R.length->R'.Perm R->arr.toList=P++R'->Up f R' n->Q (some n) (setArr st arr)):wpS (model prog w) A E s (countRun' P.length R.length) Q st:=by
 have aL:setArr st (arrOf st)=st:=rfl;refine Ad (AX (AO (I:=λx c g=>g=st/\c=(none,x)/\Up f R x)
  (Q:=λc g=>g=st/\∃n,c=(none,n)/\1<=n/\n<=R.length/\Up f R n/\(n=R.length\/∃h:n<R.length,f R[n]<f (R[n-1]'(by exact uZ)))) ?_ ?_ ⟨rfl,rfl,Up.one⟩) ?_)
 .rintro x c g t hx ⟨rfl,rfl,U⟩;dsimp only;refine Ad<|jS O T (i:=x) (j:=x-1) hx (by exact uZ) rfl (by lia) ?_;dsimp only;by_cases c:f R[x]<f (R[x-1]'(by omega))
  .rw[AA c,AC rfl];exact Ae {rfl,x,rfl,t,by exact jO,U,.inr {(hx),c}}
  .rw[Aw c,Az (by simp)];exact Ae {rfl,rfl,U.snoc t hx (by omega)}
 .rintro c g ⟨rfl,rfl,U⟩;exact{rfl,_,rfl,by lia,by lia,by rw[Dl h1] at *;exact U,.inl (by lia)}
 .rintro c g ⟨rfl,n,rfl,a0,a3,U,a5⟩;dsimp only;by_cases c1:(n==R.length)=true
  .rw[AC c1];exact Ae<|q n R (arrOf g) a0 a3 (C7 _) T.arr U
  rw[Az c1];have c1:¬n=R.length:=by simpa using c1
  have ab:n<R.length:=by exact Fa
  have hd:f R[n]<f (R[n-1]'(by omega)):=by
   rcases a5 with h|⟨h,h'⟩
   .exact absurd h c1
   .exact h'
  refine jH (P:=λo=>∃arr R',o=setArr g arr/\arr.toList=P++R'/\R'.Perm R/\g0 f R' (n+1)) (λc2=>{arrOf g,R,rfl,T.arr,C7 _,?_}) ?_ λc2 key=>?_
  .obtain rfl:n=1:=by lia
   exact g0.snoc (λi j ac hj a4=>by (have e:i=j:=by lia);(subst e;exact C1 _)) (Aj _) ab<|BJ hd
  rotate_left
  .refine Ad<|jS O T (i:=0) (j:=n-1) (by assumption) (by exact uZ) rfl (by omega) ?_;dsimp only;by_cases c3:f R[0]<f (R[n-1]'(by omega))
   .rw[AA c3,AC rfl];exact Ae<|q n R (arrOf g) a0 a3 (C7 _) T.arr U
   rw[Aw c3,Az (by simp)];have al:∀i (_:i<R.length),0<=i->i<n->f R[i]=f R[0]:=λi hi _ av=>by have a1:=U 0 i (Bb _) hi av;have a2:=U i (n-1) (by lia) (by lia) (by lia);lia
   obtain⟨R',m1,m2,m3⟩:=pG (f:=f) T.arr (Bb n) a3 al;refine Ad<|wpS_modify<|key _ {_,R',rfl,m1,m2,g0.same (g0.snoc (λi j ac hj a4=>?_) a0 ab<|BJ hd) m3};rw[al j hj (Bb _) a4,al i (by lia) (Bb _) (by lia)];exact C1 _
  rintro _ ⟨arr,R0,rfl,r,ag,D0⟩;refine Ad<|wpS_lift<|BB {rfl,?_};have l0:R0.length=R.length:=ag.length_eq;refine Ad (AX (AO (I:=λx c o=>∃J arr R',c=(none,x,J)/\o=setArr g arr/\arr.toList=P++R'/\R'.Perm R/\g0 f R' x/\J+1<=x/\∃v,∀i (_:i<R'.length),x-(J+1)<=i->i<x->f R'[i]=v)
   (Q:=λc o=>∃n J arr R',c=(none,n,J)/\o=setArr g arr/\arr.toList=P++R'/\R'.Perm R/\g0 f R' n/\J+1<=n/\n<=R.length/\∃v,∀i (_:i<R'.length),n-(J+1)<=i->i<n->f R'[i]=v) ?_ ?_ ⟨0,arr,R0,rfl,rfl,r,ag,D0,by lia,f<|R0[n]'(by lia),λi hi h2 h3=>by (have e:i=n:=by lia);(subst e;rfl)⟩) ?_)
  .rintro x c o t hx ⟨J,arr,p,rfl,rfl,r,l,D,hq,v,C⟩;have l1:p.length=R.length:=l.length_eq;have T1:=T.same l r;dsimp only;refine Ad<|jS O T1 (i:=x) (j:=x-1) (by lia) (by lia) rfl (by lia) ?_;dsimp only;by_cases c:f (p[x]'(by lia))<f (p[x-1]'(by omega))
   .rw[AA c,AC rfl];refine jH (P:=λo=>∃arr R',o=setArr g arr/\arr.toList=P++R'/\R'.Perm R/\g0 f R' (x+1)) (λ_=>{arr,p,rfl,r,l,D.snoc (by lia) (by lia)<|BJ c}) ?_ λc2 key=>?_
    .rintro _ ⟨arr,R',rfl,r,l,D⟩;exact Ae {0,arr,R',rfl,rfl,r,l,D,by lia,f (R'[x]'(by have:=l.length_eq;lia)),λi hi h2 h3=>by (have e:i=x:=by lia);(subst e;rfl)}
    .obtain⟨R',m1,m2,m3⟩:=pG (f:=f) (a:=x-(J+1)) (b:=x) r (by lia) (by lia) C;refine Ad<|wpS_modify<|key _ {_,R',rfl,?_,m2.trans l,g0.same (D.snoc (by lia) (by lia)<|BJ c) m3};rw[<-m1];show(mirror arr (P.length+x-(J+1)) (P.length+x)<|(P.length+x-(P.length+x-(J+1))) / 2).toList=_;rw[show P.length+x-(J+1)=P.length+(x-(J+1)) by lia]
   .rw[Aw c,Az (by simp)];refine Ad<|jS O T1 (i:=x-1) (j:=x) (by omega) (by lia) (by lia) rfl ?_;dsimp only;by_cases c3:f (p[x-1]'(by omega))<f (p[x]'(by lia))
    .rw[AA c3,AC rfl];exact Ae {x,J,arr,p,rfl,rfl,r,l,D,hq,by lia,v,C}
    .rw[Aw c3,Az (by simp)];refine Ae {J+1,arr,p,rfl,rfl,r,l,D.snoc (by lia) (by lia) (by lia),by lia,v,λi hi h2 h3=>?_};rcases Co i x with h|h
     .exact C i hi (by lia) h
     .have:i=x:=by lia
      subst this;rw[<-C (i-1) (by lia) (by lia) (by lia)];lia
  .rintro c o ⟨J,arr,p,rfl,rfl,r,l,D,hq,v,C⟩;exact{_,J,arr,p,rfl,rfl,r,l,D,hq,by lia,v,C}
  .rintro c o ⟨n,J,arr,p,rfl,rfl,r,l,D,hq,g2,v,C⟩;have l1:p.length=R.length:=l.length_eq;dsimp only;refine jH (P:=λo=>∃arr R',o=setArr g arr/\arr.toList=P++R'/\R'.Perm R/\g0 f R' n) (λ_=>{(arr),p,rfl,r,l,D}) ?_ (λc2 key=>?_)
   rotate_left
   .obtain⟨R',m1,m2,m3⟩:=pG (f:=f) (a:=n-(J+1)) (b:=n) r (by lia) (by lia) C;refine Ad<|wpS_modify<|key _ {_,R',rfl,?_,m2.trans l,D.same m3};rw[<-m1];show(mirror arr (P.length+n-(J+1)) (P.length+n)<|(P.length+n-(P.length+n-(J+1))) / 2).toList=_;rw[show P.length+n-(J+1)=P.length+(n-(J+1)) by lia]
   clear C D r l l1;rintro _ ⟨arr,p,rfl,r,l,D⟩;have l1:p.length=R.length:=l.length_eq;have T1:=T.same l r;have T':=T1.same (R':=(p.take n).reverse++p.drop n) (((Bu _).mpr<|DM _).trans (by rw[AU]))<|lM r (by lia);obtain⟨R',eR⟩:∃R',R'=(p.take n).reverse++p.drop n:={_,rfl};have au:R'.Perm R:=by rw[eR];exact(((Bu _).mpr<|DM _).trans (by rw[AU])).trans l
   have lR:R'.length=R.length:=au.length_eq;have U':Up f R' n:=λi j ac hj a4=>by
    subst eR;rw[DS (by simp;lia),DS (by simp;lia),List.getElem_reverse,List.getElem_reverse,Bw,Bw];refine D _ _ ?_ (by simp;omega) ?_
    .simp;omega
    .simp;omega
   rw[<-eR] at T';refine Ad<|wpS_modify ?_;refine Ad (AX (AO (I:=λx c o=>o=setArr g (mirror arr P.length (P.length+n)<|(P.length+n-P.length) / 2)/\c=(none,x)/\Up f R' x)
    (Q:=λc o=>o=setArr g (mirror arr P.length (P.length+n)<|(P.length+n-P.length) / 2)/\∃n,c=(none,n)/\1<=n/\n<=R.length/\Up f R' n) ?_ ?_ ⟨rfl,rfl,U'⟩) ?_)
   .rintro x c o t hx ⟨rfl,rfl,U⟩;dsimp only;refine Ad<|jS O T' (i:=x) (j:=x-1) (by lia) (by omega) rfl (by lia) ?_;dsimp only;by_cases c:f (R'[x]'(by omega))<f (R'[x-1]'(by omega))
    .rw[AA c,AC rfl];exact Ae {rfl,x,rfl,by lia,by exact jO,U}
    .rw[Aw c,Az (by simp)];exact Ae {rfl,rfl,U.snoc (by omega) (by lia) (by omega)}
   .rintro c o ⟨rfl,rfl,U⟩;exact{rfl,_,rfl,by lia,by lia,U}
   .rintro c o ⟨rfl,n,rfl,k1,k2,U⟩;exact Ae<|q n R' _ k1 k2 au T'.arr U
end
section
variable {w:aan}{κ:SortKind}{Ok:Keyed->Prop}{f:_r}
def Up.of{R:Z'}{n:Nat}(h:(R.take n).Pairwise λx y=>f x<=f y):Up f R n:=λi j I U J=>by have:=wX h (i:=i) (j:=j) I (by simp;lia);rw[Bw,Bw] at this;exact this
def VS{R:Z'}{k l:Nat}(I:k<R.length)(J:l<=k):(R.take l++R[k]::((R.drop l).take (k-l)++R.drop (k+1))).Perm R:=by
 have e:R=R.take l++((R.drop l).take (k-l)++(R[k]::R.drop (k+1))):=by rw[<-Av,Gw _ J,<-BK I,AU]
 refine List.Perm.trans ?_<|Eh e.symm;exact(Bz _).mpr CP.symm
def VT{R:Z'}{k l:Nat}(p:k<R.length)(r:l<=k)(U:Up f R k)(lo:∀i (_:i<l),f (R[i]'(by lia))<=f R[k])(hi:∀i (_:i<k),l<=i->f R[k]<=f (R[i]'(by exact uj))):
 Up f (R.take l++R[k]::((R.drop l).take (k-l)++R.drop (k+1))) (k+1):=by
 apply Up.of;have e:R.take l++R[k]::((R.drop l).take (k-l)++R.drop (k+1))=(R.take l++R[k]::(R.drop l).take (k-l))++R.drop (k+1):=by simp
 rw[e,List.take_left' (by simp;lia)];have I:=U.pair<|Bi p;rw[<-Gw R r] at I;have I:=AV.mp I;have t:∀y∈(R.drop l).take (k-l),f R[k]<=f y:=λy J=>by obtain⟨j,o,rfl⟩:=BE J;rw[AS,BH] at o;rw[Bw,DL];exact hi (l+j) (by lia) (by exact Bd _ _)
 have C:∀x∈R.take l,f x<=f R[k]:=λx g=>by obtain⟨j,o,rfl⟩:=BE g;rw[AS] at o;rw[Bw];exact lo j (by lia)
 refine AV.mpr {I.1,List.pairwise_cons.mpr {(t),I.2.1},λx g y J=>?_};rcases Aq.mp J with rfl|J
 .exact C x g
 .exact I.2.2 x g y J
def VU(O:Ord prog w A s κ Ok f){st:SortSt}{P R:Z'}(T:Tl κ Ok st P R){n ok:Nat}(hn:n<=R.length)(h1:1<=ok)(ho:ok<=n)(U:Up f R ok){Q:Bool->SortSt->Prop}
 (q:∀R' arr,R'.Perm R->arr.toList=P++R'->Up f R' n->Q true (setArr st arr)):wpS (model prog w) A E s (binarySort' P.length n ok) Q st:=by
 have a0:setArr st (arrOf st)=st:=rfl;refine Ad (AX (AO (I:=λx c J=>c=(none,())/\∃R' arr,J=setArr st arr/\R'.Perm R/\arr.toList=P++R'/\Up f R' x)
  (Q:=λc J=>c=(none,())/\∃R' arr,J=setArr st arr/\R'.Perm R/\arr.toList=P++R'/\Up f R' n) ?_ ?_ ⟨rfl,R,arrOf st,rfl,C7 _,T.arr,by rw[Dt h1];exact U⟩) ?_)
 .rintro x c J a1 hx ⟨rfl,R',arr,rfl,p,t,o⟩;have T':=T.same p t;have lR:R'.length=R.length:=p.length_eq;have g:x<R'.length:=by lia
  dsimp only;refine Ad (AX (AO (I:=λy c J=>J=setArr st arr/\∃l r,c=(none,l,r)/\l<=r/\r<=x/\r-l+y<=x/\(∀i (_:i<l) (_:i<R'.length),f R'[i]<=f R'[x])/\(∀i (_:i<x),r<=i->f R'[x]<=f (R'[i]'(by exact uj))))
   (Q:=λc J=>J=setArr st arr/\∃l,c=(none,l,l)/\l<=x/\(∀i (_:i<l) (_:i<R'.length),f R'[i]<=f R'[x])/\(∀i (_:i<x),l<=i->f R'[x]<=f (R'[i]'(by lia)))) ?_ ?_ ⟨rfl,0,x,rfl,Bb _,Aj _,by exact Nat.sub_le _ _,λi h=>by lia,λi h h'=>by omega⟩) ?_)
  .rintro y c J _ hy ⟨rfl,l,r,rfl,g1,g2,g3,C,g5⟩;dsimp only;by_cases c:l>=r
   .rw[AC c];obtain rfl:l=r:=by lia
    exact Ae {(rfl),l,rfl,g2,C,g5}
   .rw[Az c];refine Ad<|jS O T' (i:=x) (j:=(l+r) / 2) g (by lia) rfl rfl ?_;dsimp only;by_cases e:f R'[x]<f (R'[(l+r) / 2]'(by lia))
    .rw[AA e,AC rfl];refine Ae {rfl,l,(l+r) / 2,rfl,by lia,by lia,by omega,C,λi h h'=>?_};exact BM (BJ e)<|o _ _ h' (by exact uj) h
    .rw[Aw e,Az (by simp)];refine Ae {rfl,(l+r) / 2+1,r,rfl,by lia,g2,by omega,λi h h'=>?_,g5};exact BM (o i ((l+r) / 2) (by exact Jk) (by lia) (by lia)) (by omega)
  .rintro c J ⟨rfl,l,r,rfl,g1,g2,g3,C,g5⟩;obtain rfl:l=r:=by lia
   exact{(rfl),l,rfl,g2,C,g5}
  .rintro c J ⟨rfl,l,rfl,g2,C,g5⟩;dsimp only;refine Ad<|wpS_modify ?_;exact Ae {rfl,_,_,rfl,(VS g g2).trans p,uu t g g2,VT g g2 o (λi h=>C i h (by lia)) g5}
 .rintro c J ⟨rfl,R',arr,rfl,p,t,o⟩;exact{rfl,R',arr,rfl,p,t,by rw[Dt h1,Dl ho] at o;exact o}
 .rintro c J ⟨rfl,R',arr,rfl,p,t,o⟩;exact Ae<|q R' arr p t o
end
section
variable {w:aan}{κ:SortKind}{Ok:Keyed->Prop}{f:_r}
def VW{N:Nat}(h:N<128):N<=2*(sortPriv% PySem.Builtin.minRun) N N 0:=by
 show N<=2*minRun' N N 0;cases N with
 |zero=>exact Bb _
 |succ r=>
  rw[minRun'_succ];split
  .lia
  .cases r with|zero=>lia|succ r=>rw[minRun'_succ,AC (by lia)];lia
def HJ(f:_r)(I:Nat)(pn:Array<|Nat×Nat×Nat)(X Y R:Z'):Prop:=
 (pn=#[]/\X=[]/\Y=[])\/(∃w,pn=#[(0,X.length,w)]/\Y=[]/\(I<=X.length\/R=[])/\X.Pairwise λx y=>f x<=f y)\/
  ∃w v,pn=#[(0,X.length,w),(X.length,Y.length,v)]/\0<X.length/\0<Y.length/\R=[]/\(X.Pairwise λx y=>f x<=f y)/\Y.Pairwise λx y=>f x<=f y
theorem VX(O:Ord prog w A s κ Ok f){st:SortSt}{Q:Unit->SortSt->Prop}(a2:(arrOf st).size<128)(hk:kindOf st=κ)(hp:pendingOf st=#[])(hf:failedOf st=none)(ok:∀x∈(arrOf st).toList,Ok x)
 (q:∀J,failedOf J=none->(arrOf J).toList.Perm (arrOf st).toList->((arrOf J).toList.Pairwise λx y=>f x<=f y)->Q () J):wpS (model prog w) A E s sortRuns' Q st:=by
 refine Ad<|wpS_get ?_;dsimp only;have lN:(arrOf st).toList.length=(arrOf st).size:=A7;obtain⟨N,eN⟩:∃N,N=(arrOf st).size:={_,rfl};rw[<-eN] at a2 lN ⊢;obtain⟨Z,eZ⟩:∃Z,Z=(arrOf st).toList:={_,rfl};rw[<-eZ] at lN ok q;have ac:=VW a2;generalize (sortPriv% PySem.Builtin.minRun) N N 0=mr at ac ⊢;refine Ad (AX (AO (I:=λx c J=>∃X Y R lo,c=(none,lo)/\kindOf J=κ/\failedOf J=none/\(arrOf J).toList=X++Y++R/\(X++Y++R).Perm Z/\lo=(X++Y).length/\HJ f mr (pendingOf J) X Y R/\x<=lo)
  (Q:=λc J=>∃X Y lo,c=(none,lo)/\kindOf J=κ/\failedOf J=none/\(arrOf J).toList=X++Y/\(X++Y).Perm Z/\HJ f mr (pendingOf J) X Y []) ?_ ?_ ⟨[],[],Z,0,rfl,hk,hf,eZ.symm,.refl _,rfl,.inl ⟨hp,rfl,rfl⟩,Aj _⟩) ?_)
 .rintro x c J _ hx ⟨X,Y,R,lo,rfl,k1,C,r,o,rfl,k6,k7⟩;dsimp only;have lt:=o.length_eq;rw[Ab,lN] at lt;by_cases c:(X++Y).length>=N
  .rw[AC c];cases B5 (show R.length=0 by lia);rw[AG] at r o;exact Ae {X,Y,_,rfl,k1,C,r,o,k6}
  rw[Az c,show N-(X++Y).length=R.length by lia];have T:Tl κ Ok J (X++Y) R:={k1,r,λx hx=>ok x<|o.mem_iff.mp<|Ai _ hx};refine Ad<|VR O T (by lia) λn R1 a3 g1 g2 a0 a5 U1=>?_;dsimp only;have l1:=a0.length_eq;have jd:∀{aa:SortSt} {R2:Z'} {g:Nat} {pn:Array<|Nat×Nat×Nat},kindOf aa=κ->failedOf aa=none->(arrOf aa).toList=X++Y++R2->pendingOf aa=pn.push ((X++Y).length,g,0)->((pendingOf J=#[]/\pn=#[])\/∃v,pn=(pendingOf J).modify ((pendingOf J).size-1) λp=>(p.1,p.2.1,v))->R2.Perm R->1<=g->g<=R.length->(mr<=g\/g=R.length)->Up f R2 g->
   ∃X' Y' R' lo,((none,(X++Y).length+g):Option Unit×Nat)=(none,lo)/\kindOf aa=κ/\failedOf aa=none/\(arrOf aa).toList=X'++Y'++R'/\(X'++Y'++R').Perm Z/\lo=(X'++Y').length/\HJ f mr (pendingOf aa) X' Y' R'/\x+1<=lo:=λ{aa R2 g pn} h1 h2 h3 h4 hn p2 h5 h6 h7 U=>by
   have l2:=p2.length_eq;have ag:(R2.take g).length=g:=by rw[AS];lia
   have U':=U.pair (by lia);have pz:(X++Y++R2).Perm Z:=((Bz _).mpr p2).trans o;rcases k6 with⟨l,rfl,rfl⟩|⟨w,l,rfl,h8,h9⟩|⟨w,v',l,_,_,rfl,_⟩
   .have e2:pn=#[]:=by
     rcases hn with⟨_,h⟩|⟨v,h⟩
     .exact h
     .rw[h,l];rfl
    refine{R2.take g,[],R2.drop g,_,rfl,h1,h2,by rw[h3];simp,by simpa using pz,by simp;lia,.inr (.inl {0,by rw[h4,e2,ag];rfl,rfl,?_,U'}),by lia};rcases h7 with h|h
    .exact .inl (by lia)
    .exact .inr<|Ed (by lia)
   .have e2:∃v,pn=#[(0,X.length,v)]:=by
     rcases hn with⟨h,_⟩|⟨v,h⟩
     .rw[l] at h;cases h
     .exact{v,by rw[h,l];rfl}
    obtain⟨v,e2⟩:=e2;have r0:R≠[]:=λe=>by rw[e] at h6;exact absurd h6 (by simp;lia)
    have h8:=h8.resolve_right r0;rw[AG] at h3 h4 pz lt c ⊢;have en:g=R2.length:=by rcases h7 with h'|h'<;>lia
    rw[AM (by lia)] at U';exact{X,R2,[],_,rfl,h1,h2,by rw[h3];simp,by simpa using pz,by rw[Ab,en],.inr (.inr {v,0,by rw[h4,e2,en];rfl,by lia,by lia,rfl,h9,U'}),by lia}
   .exact absurd h6 (by simp;lia)
  have sz:(pendingOf J).size<=1:=by
   rcases k6 with⟨l,_⟩|⟨w,l,_⟩|⟨w,v',l,_,_,rfl,_⟩
   .rw[l];exact Bb _
   .rw[l];exact Aj _
   .exact absurd lt (by simp at c ⊢;lia)
  by_cases cm:n<mr
  case' pos=>
   rw[AC cm];refine Ad<|wpS_lift<|BB {rfl,?_};refine Ad<|VU O (T.same a0 a5) (by lia) g1 (by lia) U1 λR2 ab al au U2=>?_;rw[Az (by simp)];obtain⟨g,a1⟩:∃g,g=min R.length mr:={_,rfl};rw[<-a1] at U2 ⊢;have p2:R2.Perm R:=al.trans a0;have h7:mr<=g\/g=R.length:=by lia
   obtain⟨j,t⟩:∃j,j=setArr (setArr J a3) ab:={_,rfl}
  case' neg=>
   rw[Az cm];obtain⟨g,a1⟩:∃g,g=n:={_,rfl};obtain⟨R2,a4⟩:∃R2,R2=R1:={_,rfl};rw[<-a1,<-a4] at U1;rw[<-a1];have U2:=U1;have p2:R2.Perm R:=by rw[a4];exact a0
   have h7:mr<=g\/g=R.length:=by lia
   obtain⟨j,t⟩:∃j,j=setArr J a3:={_,rfl}
  all_goals
   have n1:1<=g:=by lia
   have n3:g<=R.length:=by lia
   have l:kindOf j=κ:=by rw[t];exact k1
   have e2:failedOf j=none:=by rw[t];exact C
   have e3:(arrOf j).toList=X++Y++R2:=by rw[t];first|exact au|(rw[a4];exact a5)
   have e4:pendingOf j=pendingOf J:=by rw[t]
   rw[<-t];refine Ad<|wpS_get ?_;split
   .refine Ad<|AX (AO (I:=λy c aa=>c=(none,())/\aa=j) (Q:=λc aa=>c=(none,())/\aa=j) ?_ ?_ {(rfl),rfl}) ?_
    .rintro y c aa _ hy ⟨rfl,rfl⟩;refine Ad<|wpS_get ?_;rw[Az (show ¬(pendingOf aa).size > 1 by rw[e4];lia)];exact Ae {(rfl),rfl}
    .exactλc aa h=>h
    .rintro c aa ⟨rfl,rfl⟩;dsimp only;refine Ad<|wpS_modify<|Ad<|wpS_modify<|Ae ?_;exact jd l e2 e3 rfl (.inr {_,by rw[<-e4]}) p2 n1 n3 h7 U2
   .rename_i hb;have hb:(pendingOf j).back?=none:=Option.eq_none_iff_forall_ne_some.mpr λp=>hb p.1 p.2.1 p.2.2;rw[e4,Array.back?_eq_none_iff] at hb;exact Ad<|wpS_modify<|Ae<|jd l e2 e3 rfl (.inl {hb,e4.trans hb}) p2 n1 n3 h7 U2
 .rintro c J ⟨X,Y,R,lo,rfl,k1,C,r,o,rfl,k6,k7⟩;have lt:=o.length_eq;rw[Ab,lN] at lt;cases B5 (show R.length=0 by lia);rw[AG] at r o;exact{X,Y,_,rfl,k1,C,r,o,k6}
 .rintro c J ⟨X,Y,lo,rfl,k1,C,r,o,k6⟩;dsimp only;have lt:=o.length_eq;rw[lN] at lt;refine Ad (AX (AO (I:=λy c aa=>c=(none,())/\((y=0/\aa=J)\/(failedOf aa=none/\(pendingOf aa).size<=1/\(arrOf aa).toList.Perm Z/\(arrOf aa).toList.Pairwise λx y=>f x<=f y)))
   (Q:=λc aa=>c=(none,())/\failedOf aa=none/\(arrOf aa).toList.Perm Z/\(arrOf aa).toList.Pairwise λx y=>f x<=f y) ?_ ?_ ⟨rfl,.inl ⟨rfl,rfl⟩⟩) ?_)
  .rintro y c aa _ hy ⟨rfl,h⟩;refine Ad<|wpS_get ?_;rcases h with⟨rfl,rfl⟩|⟨h1,h2,h3⟩
   .rcases k6 with⟨l,rfl,rfl⟩|⟨w,l,rfl,_,h9⟩|⟨w,v,l,lX,lY,_,sX,sY⟩
    .rw[AC (show(pendingOf aa).size<=1 by rw[l];exact Bb _)];exact Ae {rfl,C,by rw[r];exact o,by rw[r];exact .nil}
    .rw[AC (show(pendingOf aa).size<=1 by rw[l];exact Aj _)];exact Ae {rfl,C,by rw[r];exact o,by rw[r,AG];exact h9}
    .rw[Az (show ¬(pendingOf aa).size<=1 by rw[l];exact Nat.not_succ_le_self 1)];have gen:∀b:Bool,(if b=true then(pendingOf aa).size-2-1 else(pendingOf aa).size-2)=0:=λb=>by cases b<;>rw[l]<;>rfl
     refine Ad ?_;show wpS _ _ _ _ (mergeAt'<|if _=true then(pendingOf aa).size-2-1 else(pendingOf aa).size-2) _ _;rw[gen];refine VP O k1 C l r (λx hx=>ok x<|o.mem_iff.mp hx) lX lY sX sY λav b1 b2 b3 b4=>?_;rw[Az (by simp)];exact Ae {rfl,.inr {b1,by rw[b2];exact Aj _,b3.trans o,b4}}
   .rw[AC h2];exact Ae {(rfl),h1,h3}
  .rintro c aa ⟨rfl,h⟩;rcases h with⟨h0,rfl⟩|⟨h1,_,h3⟩
   .have e:X++Y=[]:=B5 (by lia);rw[e] at r o;exact{rfl,C,by rw[r];exact o,by rw[r];exact .nil}
   .exact{(rfl),h1,h3}
  .rintro c aa ⟨rfl,h1,h2,h3⟩;exact Ae<|q aa h1 h2 h3
end
section
open PySem.W
def K9(h:aao)(B:Int)(x:Keyed):Prop:=∃a o n r p t u,x.1=.ref a/\h.get? a=some o/\o.data=.seq #[.int r t,.int p u] n/\0<=p/\p<B
noncomputable def num(h:aao)(B:Int)(x:Keyed):Int:=match x.1 with
 |.ref a=>match h.get? a with
  |some o=>match o.data with
   |.seq xs _=>match xs.toList with
    |[.int r _,.int p _]=>r*B+p
    |_=>0
   |_=>0
  |none=>0
 |_=>0
def zC{B:Int}{x:Keyed}{a:Addr}{o:Obj}{n:Nat}{r p:Int}{t u:Tok}(I:x.1=.ref a)(J:h.get? a=some o)(U:o.data=.seq #[.int r t,.int p u] n):num h B x=r*B+p:=by unfold num;simp[I,J,U]
def VY{w:aan}{B:Int}:Ord prog w A s (tuples' true) (K9 s.heap B) (num s.heap B):=by
 constructor;rintro x y ⟨a1,o1,n1,I,J,r,t,l,g1,d1,b1,c1⟩ ⟨a2,o2,n2,U,g,C,T,o,g2,d2,b2,c2⟩ E Q h;rw[zC l g1 d1,zC o g2 d2] at h;rw[l,o];refine kat_lt g1 d1 g2 d2 ?_;show KatLex prog w A true _ Q [(.int I r,.int U C),(.int J t,.int g T)] 0 s;refine kat_cons<|wpAny_eqBool_int ?_;by_cases c:I=U
 .subst c;rw[beq_self_eq_true];refine kat_yes<|kat_cons<|wpAny_eqBool_int ?_;by_cases p:J=g
  .subst p;rw[beq_self_eq_true];refine kat_yes<|kat_nil ?_;have e:decide (I*B+J<I*B+J)=false:=Aw (by lia);rw[e] at h;exact h
  .rw[Ei p];refine kat_no<|kat_one _ _<|PyProof.Rows.lt_int ?_;have e:decide (I*B+J<I*B+g)=decide (J<g):=by
    by_cases z:J<g
    .rw[AA z];exact AA (by lia)
    .rw[Aw z];exact Aw (by lia)
   rw[e] at h;exact h
 .rw[Ei c];refine kat_no<|oneLt_int ?_;have e:decide (I*B+J<U*B+g)=decide (I<U):=by
   by_cases z:I<U
   .rw[AA z];have j:(I+1)*B<=U*B:=Dm (by assumption) (by lia);rw[Int.add_mul,Int.one_mul] at j;exact AA (by omega)
   .rw[Aw z];have j:(U+1)*B<=I*B:=Dm (by lia) (by lia);rw[Int.add_mul,Int.one_mul] at j;exact Aw (by lia)
  rw[e] at h;exact h
section
variable {w:aan}
def acg(h:aao)(B:Int)(v:aak):Prop:=∃a o n r p t u,v=.ref a/\h.get? a=some o/\o.cls=.type "tuple" /\ o.data=.seq #[.int r t,.int p u] n/\0<=p/\p<B
def acg.pair{B:Int}{x:Keyed}(k:acg h B x.1):K9 h B x:=by obtain⟨a,o,n,r,p,t,u,I,J,_,U,g,j⟩:=k;exact{(a),o,n,r,p,t,u,I,J,U,g,j}
theorem _A{h:aao}{B:Int}:∀{ks:Z_},(∀v∈ks,acg h B v)->∃fs,KatTups h ks fs/\fs.length=ks.length/\∀v∈fs,∃r t,v=Value.int r t
 |[],_=>{[],trivial,rfl,λv I=>by simp at I}
 |k::ks,J=>by
  obtain⟨fs,U,g,j⟩:=_A (ks:=ks) λv I=>J v<|Ag _ I;obtain⟨a,o,n,r,p,t,u,rfl,l,C,T,_,_⟩:=J k<|An ..;refine{.int r t::fs,KatTups.cons l C T rfl U,by simp[g],λv I=>?_};rcases Aq.mp I with rfl|I
  .exact{(r),t,rfl}
  .exact j v I
def VZ{B:Int}{ks:Z_}{Q:SortKind->aal->Prop}(I:∀v∈ks,acg s.heap B v)(j:0<ks.length)(q:Q (tuples' true) s):wpAny (model prog w) A (keyKind' ks.toArray) Q E s:=by
 obtain⟨fs,J,l,U⟩:=_A I;refine kat_kind (T:=.type "int") J (by lia) (λv g=>?_) (by decide) ?_
 .obtain⟨r,t,rfl⟩:=U v g;exact .now
 .exact q
theorem V0{R:α->α->Prop}:∀{l:List α},l.length<2->l.Pairwise R
 |[],_=>List.Pairwise.nil
 |[_],_=>List.pairwise_singleton _ _
 |_::_::_,h=>absurd h (by simp)
def V1{a kS:Addr}{vs ks:Z_}{e l:Nat}{B:Int}{P:PySem.Fin->aal->Prop}(r:s.heap.get? kS=some (seqObj "list" ks.toArray e))(ha:s.heap.get? a=some (seqObj "list" #[] l))(t:kS≠a)(hl:ks.length=vs.length)(g:vs.length<=127)
 (hk:∀v∈ks,acg s.heap B v)
 (h:∀h' tk (xs:Z') c,(∀b,b≠kS->b≠a->h'.get? b=s.heap.get? b)->h'.get? a=some (seqObj "list" (List.toArray (xs.map (·.2))) c)->xs.Perm (ks.zip vs)->(xs.Pairwise λx y=>num s.heap B x<=num s.heap B y)->P (.done<|.ret .none) {s with heap:=h',toks:=tk}):
 wpAny (model prog w) A (ksk_end a false vs.toArray l (.ref kS) ks.toArray) P E s:=by
 have hz:vs.length<=sizeLine:=AF g (by decide);have o:(ks.toArray.zip vs.toArray).toList=ks.zip vs:=by simp
 have tail:∀st:SortSt,failedOf st=none->(arrOf st).toList.Perm (ks.zip vs)->((arrOf st).toList.Pairwise λx y=>num s.heap B x<=num s.heap B y)->wpAny (model prog w) A (ksk_tail a false l (.ref kS) st) P E s:=by
  intro st hf hp hs;have s1:=As s.heap kS<|Obj.mapSeq λ_=>(#[]:aaa);have J:(s.heap.update kS<|Obj.mapSeq λ_=>(#[]:aaa)).get? a=some (seqObj "list" #[] l):=(s1.2 a t.symm).trans ha;have s2:=As (s.heap.update kS<|Obj.mapSeq λ_=>(#[]:aaa)) a (Obj.mapSeq λ_=>(arrOf st).map (·.2));have len:((arrOf st).map (·.2)).size<=sizeLine:=by have:=hp.length_eq;rw[Ej,A7] at this;rw[Array.size_map];lia
  unfold ksk_tail
  try dsimp only
  refine Aa (listUpdate_at r rfl ?_ (by rw[Au];lia)<|Bb _);refine Aa<|wpAny_letGo ?_;refine Aa<|seqEpoch_at J rfl ?_;refine Aa (listUpdate_at J rfl ?_ (Bb _) (by simp only[CW,if_false];exact Cn len));rw[hf];simp only[bne_self_eq_false,CW,if_false];obtain⟨C,j⟩:∃C,((s.heap.update kS<|Obj.mapSeq λ_=>(#[]:aaa)).update a (Obj.mapSeq λ_=>(arrOf st).map (·.2))).get? a=some (seqObj "list" ((arrOf st).map (·.2)) C):={_,get?_update_seq J λ_=>(arrOf st).map (·.2)};refine Am<|h _ _ (arrOf st).toList C (λb T a0=>?_) ?_ hp hs
  .exact(s2.2 b a0).trans (s1.2 b T)
  .have em:(arrOf st).map (·.2)=List.toArray ((arrOf st).toList.map (·.2)):=by apply Dk.mp;rw[Array.toList_map]
   rw[em] at j ⊢;exact j
 unfold ksk_end;simp only[CW,if_false];by_cases U:vs.toArray.size<2
 .rw[AC U,AC U];refine Aa<|Am ?_;rw[StateT.run_pure];refine Aa<|Am ?_;refine tail _ rfl (by show(ks.toArray.zip vs.toArray).toList.Perm _;rw[o]) ?_;show(ks.toArray.zip vs.toArray).toList.Pairwise _;rw[o];rw[Au] at U;have:(ks.zip vs).length<2:=by rw[Ej];lia
  exact V0 this
 .rw[Az U,Az U];rw[Au] at U;refine Aa<|VZ hk (by omega) ?_;refine Aa (A8 (VX (E:=E) (VY (B:=B)) (st:=SortSt.mk' (tuples' true) (ks.toArray.zip vs.toArray) #[] 7 none)
   (Q:=λ_ I=>failedOf I=none/\(arrOf I).toList.Perm (ks.zip vs)/\((arrOf I).toList.Pairwise λx y=>num s.heap B x<=num s.heap B y)) (by show(ks.toArray.zip vs.toArray).size<128;simp;lia) rfl rfl rfl (λx p=>?_) λI b1 b2 b3=>{b1,?_,b3}) ?_ λ_ _ e=>e)
  .have p:x∈(ks.toArray.zip vs.toArray).toList:=p;rw[o] at p;exact acg.pair<|hk _ (Dr (a:=x.1) (b:=x.2) p).1
  .have b2:(arrOf I).toList.Perm (ks.toArray.zip vs.toArray).toList:=b2;rw[o] at b2;exact b2
  .rintro⟨⟨⟩,I⟩ s' ⟨rfl,b1,b2,b3⟩;exact tail I b1 b2 b3
end
def V2(f:α->β):∀{l m:List β},l.Perm m->∀{T:List α},T.map f=m->∃U:List α,U.Perm T/\U.map f=l:=by
 intro l m p
 induction p with
 |nil=>intro T e;exact{T,C7 _,e}
 |cons x _ o=>
  intro T e;cases T with
  |nil=>cases e
  |cons t r=>
   rw[AI] at e;obtain⟨I,J⟩:=En e;obtain⟨U,C,e'⟩:=o J;exact{t::U,C.cons t,by rw[AI,e',I]}
 |swap x y l=>
  intro T e
  match T,e with
  |t::u::r,e=>
   rw[AI,AI] at e;obtain⟨I,J⟩:=En e;obtain⟨e3,e4⟩:=En J;exact{u::t::r,List.Perm.swap t u r,by rw[AI,AI,I,e3,e4]}
 |trans _ _ g j=>
  intro T e;obtain⟨T1,p1,I⟩:=j e;obtain⟨T2,p2,J⟩:=g I;exact{T2,p2.trans p1,J}
section
variable {w:aan}
end
end
theorem vA{α β:Type}{f:α->β}:∀{l:List α},(∀x∈l,∀y∈l,f x=f y->x=y)->l.Nodup->(l.map f).Nodup
 |[],_,_=>Cw
 |a::r,h,n=>by obtain⟨J,U⟩:=AQ.mp n;rw[AI];refine AQ.mpr {λz=>?_,vA (λx g y I=>h x (Ag _ g) y<|Ag _ I) U};obtain⟨y,I,e⟩:=A2.mp z;have:=h y (Ag _ I) a (An ..) e;exact J<|this▸I
def bO:Wd->Y
 |.leaf t n=>.tup [.str<|kL t,.str n]
 |.node e l r=>.tup [.str<|kN e,bO l,bO r]
def qj{Q:α->qh->Prop}{o:Option α}{v:α}(e:o=some v)(h:Q v L):qC L Q o:=by rw[e];exact h
def sC:RD "is_leaf" sL 0 ["word"] (λ_=>True):={_,λV B c _ _ _ _ _ _ _ I hN J=>(qd<|ql<|ke (Hg _ _ _) (J_ 0) (jK B.zB3 rfl) (by with_unfolding_all rfl))}
def kX:Bool->Bool->Str
 |true,t=>kL t
 |false,e=>kN e
inductive ky(ys:_T)(L:qh)(Q:YK):Prop
 |mk:∀lf b rest,(ys=[.tup<|.str (kX lf b)::rest])->(Q (.bl lf) L)->ky ys L Q
def V3(t:Bool):xK (.str<|kL t) [.str "plain",.str "turned"]=true:=by cases t<;>decide +kernel
def V4(t:Bool):xK (.str<|kN t) [.str "plain",.str "turned"]=false:=by cases t<;>decide +kernel
def yV:_f ky sC.1 1:=by
 rintro ys L Q ⟨lf,b,rest,rfl,q⟩;have I:fS (Y.str (kX lf b)::rest) 0=some (Y.str<|kX lf b):=jk (xs:=Y.str (kX lf b)::rest) (j:=0) rfl;walk_at "w";rw[I];refine{rfl,rfl,jd ?_};cases lf with
 |true=>
  rw[show nb false (xK (fk<|.str<|kX true b)<|[Y.str "plain",.str "turned"].map fk)=true from V3 b];exact q
 |false=>
  rw[show nb false (xK (fk<|.str<|kX false b)<|[Y.str "plain",.str "turned"].map fk)=false from V4 b];exact q
def wD(J U:jf):RR "turned" wJ 2 ["word"] ["word","kind"] U (λV=>Fk V J):={_,λV B c _ _ I _ _ _ _ _ _ g hN j=>(qa (S_ 1 hN<|I_ (jK B.zA1 rfl)<|J_ 0)<|qa (zf (w5<|C_ c g<|zn<|qv 0) (qd<|ql<|zo<|vo (qv 1)<|J_ 0) qx)<|qd<|ql<|zo<|df (qv 1) (C_ I g<|zn<|J_ 0)<|C_ I g<|zn<|J_ 0)}
inductive aR(n:Nat)(ys:_T)(L:qh)(Q:YK):Prop
 |mk:∀wd,(ys=[bO wd])->(wd.depth<=n)->(Q (bO wd.turn) L)->aR n ys L Q
def rZ(t:Bool):List.lookup (kL t) [(("plain" : Str),("turned" : Str)),("turned","plain"),("both","either"),("either","both")]=some (kL<|!t):=by cases t<;>decide +kernel
def sJ(t:Bool):List.lookup (kN t) [(("plain" : Str),("turned" : Str)),("turned","plain"),("both","either"),("either","both")]=some (kN<|!t):=by cases t<;>decide +kernel
def V5(n:Nat):_f (aR (n+1)) (wD ky<|aR n).1 2:=by
 rintro ys L Q ⟨I,rfl,hd,q⟩;cases I with
 |leaf t nm=>
  exact qj (rZ t) {true,t,_,rfl,jd q}
 |node e l r=>
  have J:max l.depth r.depth+1<=n+1:=hd;refine qj (sJ e) {false,e,_,rfl,l,rfl,by lia,r,rfl,by lia,?_};exact jd q
def V6(s:qf L L'){p:Addr}(h:L' p=none):L p=none:=by cases e:L p with|none=>rfl|some o=>rw[s _ _ e] at h;cases h
def j9.str{n:Nat}(x:Str):j9 L n (.str x) (.s<|.str x):=by cases n with|zero=>exact{(rfl),rfl}|succ n=>exact .inl {(rfl),rfl}
abbrev EN:=@j9.str
def j9.int{n:Nat}(x:Int):j9 L n (.int x) (.s<|.int x):=by cases n with|zero=>exact{(rfl),rfl}|succ n=>exact .inl {(rfl),rfl}
abbrev EW:=@j9.int
theorem iK{L:qh}:∀{wd:Wd} {n:Nat},wd.depth<=n->j9 L n (bO wd) (oE wd)
 |.leaf t nm,n+1,_=>.inr<|.inl {_,_,rfl,rfl,.cons (EN _)<|.cons (EN _) .nil}
 |.node e l r,n+1,h=>by have I:max l.depth r.depth+1<=n+1:=h;exact .inr<|.inl {_,_,rfl,rfl,.cons (EN _)<|.cons (iK (by lia))<|.cons (iK (by lia)) .nil}
def az{n:Nat}{a:Addr}(e:L a=some (.lst ys))(p:Paired (j9 L n) ys ds):j9 L (n+1) (.ref a) (.lst ds):=.inr<|.inr {ys,ds,rfl,rfl,w6 e,p}
def bv{n:Nat}(p:Paired (j9 L n) ys ds):j9 L (n+1) (.tup ys) (.tup ds):=.inr<|.inl {(ys),ds,rfl,rfl,p}
def qA{neg:Bool}{u v:Wd}{Q:YK}(J:u.depth<=128)(q:Q (.bl<|nb neg<|Da.eq (oE u)<|oE v) L):o_ neg (bO u) (bO v) L Q:=by
 have I:∀w:Wd,Fe (bO w)=true:=λw=>by cases w<;>rfl
 have:Fe (bO u)=true/\Fe (bO v)=true/\∃n m d e,n<=128/\j9 L n (bO u) d/\j9 L m (bO v) e/\Q (.bl<|nb neg<|Da.eq d e) L:=
  ⟨I u,I v,u.depth,v.depth,oE u,oE v,J,iK<|Aj _,iK<|Aj _,q⟩
 cases u<;>cases v<;>exact this
def a9{neg:Bool}{a b:Addr}{zs:_T}{es:List Da}{n:Nat}{Q:YK}(I:n<128)(ea:L a=some (.lst ys))(eb:L b=some (.lst zs))(pa:Paired (j9 L n) ys ds)(pb:Paired (j9 L m) zs es)(q:Q (.bl<|nb neg<|Da.eqs ds es) L):
 o_ neg (.ref a) (.ref b) L Q:={rfl,rfl,n+1,m+1,_,_,I,az ea pa,az eb pb,q}
def acl:∀ys L Q,¬aR 0 ys L Q:=by rintro ys L Q ⟨I,_,hd,_⟩;cases I<;>simp[Wd.depth] at hd
def nY(hs:aab):_T:=hs.map λn:Nat=>.int (n:Int)
def ku(hs:aab):(nY hs).length=hs.length:=by unfold nY;rw[Ac]
def j8{a p:Addr}{o:LO}(h:qg L a o p=none):L p=none:=by
 by_cases c:p=a
 .subst c;rw[q9] at h;cases h
 .rw[qb c] at h;exact h
def xx{l:List α}{x:α}(h:l[i]?=some x):i<l.length:=(AJ.mp h).1
def oo:RD "_law_mix" pJ 0 ["_law_cell","_law_k","_law_factor"] (λ_=>True):={_,λV B c _ _ _ _ _ _ _ I hN J=>(qd<|ql<|qk vm (qk jn (qk kR (qk zj (qk zj (qk kR (qk jn (qv 0) qe) qe)<|qk kR (qv 1)<|qv 1) qe)<|qv 2) qe) qe)}
def gE(J:jf):RR "_law_weight" gF 1 ["_law_word_here"] ["_law_word_here"] J (λ_=>True):={_,λV B c _ _ I _ _ _ _ _ _ U hN g=>(qa (zf (E_ g (L_ B.ba<|qv 0) qe) (qd<|ql qe) qx)<|qd<|ql<|qk zj (qk zj qe<|C_ I U<|zn<|J_ 0)<|C_ I U<|zn<|J_ 0)}
def kK(J:jf):RR "_law_word" mE 1 ["_law_knots","_law_p"] ["_law_knots","_law_p","_law_knot"] J (λ_=>True):={_,λV B c _ _ I _ _ _ _ _ _ U hN g=>(qa (S_ 2 hN<|I_ (qv 0)<|qv 1)<|qa (zf (E_ g (L_ B.ba<|qv 2) qe) (qd<|ql<|qv 2) qx)<|qd<|ql<|zo<|df (J_ 2) (C_ I U<|vo (qv 0)<|J_ 2)<|C_ I U<|vo (qv 0)<|J_ 2)}
def rY(J U:jf):RR "word_at" rg 2 ["knots","place"] ["knots","place","knot"] U (λV=>Fk V J):={_,λV B c _ _ I _ _ _ _ _ _ g hN j=>(qa (S_ 2 hN<|I_ (qv 0)<|qv 1)<|qa (zf (w5<|C_ c g<|zn<|qv 2) (qd<|ql<|qv 2) qx)<|qd<|ql<|zo<|df (J_ 2) (C_ I g<|vo (qv 0)<|J_ 2)<|C_ I g<|vo (qv 0)<|J_ 2)}
inductive jN(ys:_T)(L:qh)(Q:YK):Prop
 |mk:∀c k f:Int,(ys=[.int c,.int k,.int f])->(0<=k)->(k<1000000)->(0<f)->(f<1000000)->(∀v,0<=v->v<134217728->Q (.int v) L)->jN ys L Q
def V7:_f jN oo.1 3:=by
 rintro ys L Q ⟨c,k,f,rfl,I,J,U,g,q⟩;refine{(by decide:(0:Int)<1000003),.inr {by decide,by decide},.inl {by lia,by lia},.inr {by lia,by lia},(by decide:(0:Int)<2147483647),{by decide,by decide},jd<|q _ ?_ ?_}
 all_goals
  generalize ((c % 1000003*7+k*k+1)*f)=z;lia
def V8(cs:aab):(Txt.join ""<|cs.map λc=>({#[c]}:Str)).cps.toList=cs:=by
 rw[iY]
 induction cs with|nil=>rfl|cons c r I=>rw[AI,Bc,I];rfl
inductive ay(n:Nat)(ys:_T)(L:qh)(Q:YK):Prop
 |mk:∀wd,(ys=[bO wd])->(wd.depth<=n)->(Q (.int wd.size) L)->ay n ys L Q
def pN:∀ys L Q,¬ay 0 ys L Q:=by rintro ys L Q ⟨I,_,hd,_⟩;cases I<;>simp[Wd.depth] at hd
def V9(n:Nat):_f (ay (n+1)) (gE<|ay n).1 1:=by
 rintro ys L Q ⟨I,rfl,hd,q⟩;cases I with
 |leaf t n=>exact jd q
 |node e l r=>
  have J:max l.depth r.depth+1<=n+1:=hd;refine{l,rfl,by lia,r,rfl,by lia,jd ?_};have e:(1+(l.size:Int)+(r.size:Int))=(((Wd.node e l r).size:Nat):Int):=by show _=((1+l.size+r.size:Nat):Int);rfl
  rw[e];exact q
def V'{xs:_T}{keep:qh->Prop}{tb:fe}(W:Nat->j5->qh->Prop)(J:W 0 τ L)(U:∀i τ L',W i τ L'->keep L')
 (hs:∀i x y τ L,xs[i]?=some x->ys[i]?=some y->W i τ L->g (.tup [x,y]) τ L λI L2=>tb {D with nx:=jD<|W<|i+1,ct:=jD<|W<|i+1,bk:=D.nx} I L2) (hd:∀τ L,W (min xs.length ys.length) τ L->D.nx τ L):
 tZ (ym xs ys) keep g tb D τ L:=vk {W,J,U,λi y τ L e w=>by obtain⟨a,b,ea,eb,rfl⟩:=zX e;exact hs i a b τ L ea eb w,λτ L w=>hd τ L (by rw[oA] at w;exact w)}
def KW(ks:_T):Nat->Wd->Prop
 |p,.leaf t n=>ks[p]?=some (.tup [.str<|kL t,.str n])
 |p,.node e l r=>∃i j:Nat,ks[p]?=some (.tup [.str<|kN e,.int i,.int j])/\KW ks i l/\KW ks j r
theorem KW.more{ks:_T}(ms:_T):∀{wd:Wd} {p:Nat},KW ks p wd->KW (ks++ms) p wd
 |.leaf _ _,p,h=>by have I:ks[p]?=some _:=h;show(ks++ms)[p]?=some _;rw[AH (AJ.mp I).1];exact I
 |.node _ _ _,p,⟨i,j,h,a,b⟩=>{i,j,by rw[AH (AJ.mp h).1];exact h,KW.more ms a,KW.more ms b}
inductive x6(n:Nat)(ys:_T)(L:qh)(Q:YK):Prop
 |mk:∀k ks p wd,(ys=[.ref k,.int ((p:Nat):Int)])->(L k=some (.lst ks))->(KW ks p wd)->(wd.depth<=n)->(Q (bO wd) L)->x6 n ys L Q
def nZ:∀ys L Q,¬x6 0 ys L Q:=by rintro ys L Q ⟨k,J,p,I,_,_,_,hd,_⟩;cases I<;>simp[Wd.depth] at hd
def uL:∀ys L Q,¬x6 0 ys L Q:=nZ
def yZ(n:Nat):_f (x6 (n+1)) (rY ky<|x6 n).1 3:=by
 rintro ys L Q ⟨k,J,p,U,rfl,I,h,hd,q⟩;cases U with
 |leaf t nm=>exact qc I<|qj (jk h) {true,t,_,rfl,jd q}
 |node e l r=>
  obtain⟨i,j,h,g,o⟩:=h;have C:max l.depth r.depth+1<=n+1:=hd;exact qc I<|qj (jk h) {false,e,_,rfl,k,J,i,l,rfl,I,g,by lia,k,J,j,r,rfl,I,o,by lia,jd q}
def wL(n:Nat):_f (x6 (n+1)) (kK<|x6 n).1 3:=by
 rintro ys L Q ⟨k,J,p,U,rfl,I,h,hd,q⟩;cases U with
 |leaf t nm=>exact qc I<|qj (jk h)<|jd q
 |node e l r=>
  obtain⟨i,j,h,g,o⟩:=h;have C:max l.depth r.depth+1<=n+1:=hd;exact qc I<|qj (jk h) {k,J,i,l,rfl,I,g,by lia,k,J,j,r,rfl,I,o,by lia,jd q}
def sI:RD "is_name" rX 0 ["text"] (λ_=>True):={_,λV B c _ _ _ _ _ _ _ I hN J=>(qd<|ql<|ae (dy qe<|fH yH (L_ B.ba<|qv 0)<|fJ yH<|uJ B.zA0 rfl)<|bB<|vv rS rfl B.b_all kD<|zn<|a6 ["sign"] (EL (by rfl)) rfl (Kf<|qv 0) (dX 1) (λ_ _ _ _=>aM) λ_ _ _ _=>(dy qo<|fH Go (qv 1)<|fJ Go qo))}
abbrev dS(i:Int):ji:=yC<|.int i
abbrev i_(x:Str):ji:=yC<|.str x
abbrev qT(i:Nat)(n:Int):ji:=aZ u5 (qw i)<|yC<|.int n
abbrev j_(i:Nat):ji:=u_ Fb<|zb (qw i) vj
abbrev w_(a b:ji):kC:=yB<|aZ (o_ false) a b
abbrev HK(a b:ji):kC:=yB<|aZ (o_ true) a b
abbrev FP(a b:ji):ji:=qV<|zb a<|zb b vj
abbrev mS(a:ji):fF:=zb a vj
abbrev zD(a b:ji):fF:=zb a<|zb b vj
def kF(K:Af):fe:=(x4 (Hs K "tokens" (qw 0)<|qw 1)
 (Hs K "at" (qw 0)<|dS 0))
def jL(K:Af):fe:=(x4 (gK (w_ (FM K "at"<|qw 0)<|u_ Fb<|zb (FM K "tokens"<|qw 0) vj) (oO<|i_ "") cI)
 (x4 (km (aZ u5 (FM K "tokens"<|qw 0)<|FM K "at"<|qw 0)<|qz 1)
 (x4 (Ka K "at" (qw 0)<|dS 1)
 (oO<|qw 1))))
def Gy(c:Nat):Bool:=decide (97<=c)&&decide (c<=122)
def lH(z:Str):Bool:=(decide (1<=z.length)&&decide (z.length<=8))&&z.cps.toList.all Gy
def Fl(a b:Nat):decide ([a]<[b])=decide (a<b):=by rw[StrLaws.lt_cons_cons,StrLaws.lt_nil_nil];simp
def Wa(c:Nat):qE "a" ⟨#[c]⟩=decide (97<=c):=by show(!decide ([c]<[97]))=decide (97<=c);rw[Fl,Ci];simp
def Wb(c:Nat):qE ⟨#[c]⟩ "z" = decide (c<=122):=by show(!decide ([122]<[c]))=decide (c<=122);rw[Fl,Ci];simp
inductive dI(ys:_T)(L:qh)(Q:YK):Prop
 |mk:∀z:Str,(ys=[.str z])->(z.cps.all (· < 128)=true)->(z.length<=40000)->(Q (.bl<|lH z) L)->dI ys L Q
def yF:_f dI sI.1 1:=by
 rintro ys L Q ⟨z,rfl,ha,C,q⟩;refine{AF C (by decide),?_};have zl:((z.length:Nat):Int)=(z.length:Int):=rfl;have I:lH z=false->dH Q (.bl false) L:=λe=>by rw[e] at q;exact jd q
 refine jp (λg=>?_) λg=>?_
 .refine jp (λj=>?_) λj=>?_
  .have l:(1:Int)<=z.length:=g;have o:(z.length:Int)<=8:=j;refine{ha,J0 (λy=>match y with|.str s=>some (.bl<|qE "a" s&&qE s "z")|_=>none) (Bo (m:=40000) ?_ (by decide)) trivial ?_ λp hp=>?_}
   .unfold h_;rw[Ac,len_list];exact C
   .intro i y W T t J;unfold h_ at t;rw[Al] at t;obtain⟨c,ec,rfl⟩:=Ax.mp t;cases U:qE "a" ⟨#[c]⟩ with
    |true=>
     refine kz U {L,EE _,?_};have:W (T++[.bl<|qE {#[c]} "z"]) L:=by
      have e:(match (Y.str ⟨#[c]⟩:Y) with|.str s=>some (Y.bl<|qE "a" s&&qE s "z")|_=>none)=some (.bl<|qE {#[c]} "z"):=by show some (Y.bl<|qE "a" {#[c]}&&qE ⟨#[c]⟩ "z")=_;rw[U];rfl
      rw[e] at J;exact J
     exact this
    |false=>
     refine jv U {L,EE _,?_};have:W (T++[.bl false]) L:=by
      have e:(match (Y.str ⟨#[c]⟩:Y) with|.str s=>some (Y.bl<|qE "a" s&&qE s "z")|_=>none)=some (.bl false):=by show some (Y.bl<|qE "a" {#[c]}&&qE ⟨#[c]⟩ "z")=_;rw[U];rfl
      rw[e] at J;exact J
     exact this
   .have el:(h_ z).filterMap (λy=>match y with|.str s=>some (.bl<|qE "a" s&&qE s "z")|_=>none)=(z.cps.toList.map Gy).map Y.bl:=by
     unfold h_
     induction z.cps.toList with
     |nil=>rfl
     |cons c r ih=>
      rw[AI,AI,AI,<-ih];show(Y.bl<|qE "a" {#[c]}&&qE ⟨#[c]⟩ "z")::_=_;rw[Wa,Wb];rfl
    rw[el];refine{rfl,qc q9<|qj (bJ _)<|aB (By hp) ?_};have e:List.all (z.cps.toList.map Gy) id=lH z:=by unfold lH;rw[AA (by lia:1<=z.length),AA (by lia:z.length<=8),List.all_map];rfl
    rw[e];exact q
  .refine I ?_;have o:¬(z.length:Int)<=8:=j;unfold lH;rw[Aw (by lia:¬z.length<=8)];simp
 .refine I ?_;have l:¬(1:Int)<=z.length:=g;unfold lH;rw[Aw (by lia:¬1<=z.length)];simp
def c_(tl:Addr)(i:Nat):List (Str×Y):=[("tokens",.ref tl),("at",.int i)]
structure XFW(K:Af)(C:Addr):Prop where
 cl:_D K C
 nt:Os K C "tokens"
 na:Os K C "at"
inductive mW(C:Addr)(ys:_T)(L:qh)(Q:YK):Prop
 |mk:∀x tl,(ys=[.ref x,.ref tl])->(L x=some (.ins C []))->(Q .KF<|qg L x<|.ins C<|c_ tl 0)->mW C ys L Q
def Wc{K:Af}(xf:XFW K C):_f (mW C) (kF K) 2:=by rintro ys L Q ⟨x,J,rfl,I,q⟩;refine wz I {xf.cl,xf.nt,by decide,?_};refine wz q9 {xf.cl,xf.na,(show 1<1000 by decide),?_};rw[jc];exact jd q
inductive fN(C:Addr)(ys:_T)(L:qh)(Q:YK):Prop
 |mk:∀a tl,∀ts:aac,∀i:Nat,(ys=[.ref a])->(L a=some (.ins C<|c_ tl i))->(L tl=some (.lst<|ts.map Y.str))->((i=ts.length->Q (.str "") L))->((i≠ts.length->∃t,ts[i]?=some t/\Q (.str t) (qg L a<|.ins C<|c_ tl<|i+1)))->fN C ys L Q
def We{K:Af}(xf:XFW K C):_f (fN C) (jL K) 2:=by
 rintro ys L Q ⟨a,J,ts,i,rfl,I,U,q0,g⟩;refine wz I {xf.cl,xf.na,?_};refine wz I {xf.cl,xf.nt,?_};refine qc U ?_;rw[Ac];show wg (nb false<|decide<|((i:Nat):Int)=((ts.length:Nat):Int)) _ _;by_cases h:i=ts.length
 .refine kz (by show decide _=true;exact AA (by lia)) ?_;exact jd<|q0 h
 .refine jv (by show decide _=false;exact Aw (by lia)) ?_;obtain⟨t,j,q⟩:=g h;refine wz I {xf.cl,xf.nt,?_};refine wz I {xf.cl,xf.na,?_};refine qc U<|qj (xp (f:=Y.str) j) ?_;refine wz I {xf.cl,xf.na,?_};refine wz I {rfl,(show 2<1000 by decide),?_};have e:lL "at" (.int<|(i:Int)+1) (c_ J i)=c_ J (i+1):=by
   unfold c_ lL;rw[Az (by decide)];unfold lL;rw[AC rfl];have:((i:Int)+1)=((i+1:Nat):Int):=by rfl
   rw[this]
  rw[e];exact jd q
def jh(l:aab):Str:={(l.toArray)}
def vn(x:Str):jh x.cps.toList=x:=by cases x;rfl
def o7(y:Str):Txt.split y " " = (_i 32 y.cps.toList).map jh:=by
 have h:=_Q y 32 (by decide);have e:(" " : Str)=⟨#[32]⟩:=by decide +kernel
 rw[e,<-h,BI]
 conv=>lhs;rw[<-List.map_id (Txt.split y ⟨#[32]⟩)]
 apply Dz;intro a _;exact(vn a).symm
def Wf(l:aab):decide (jh l=("" : Str))=l.isEmpty:=by
 cases l with
 |nil=>rfl
 |cons a r=>
  apply Aw;intro h;have:=BA (λs:Str=>s.cps.size) h;have e:(jh<|a::r).cps.size=r.length+1:=by show(a::r).toArray.size=_;simp
  have I:(("" : Str)).cps.size=0:=rfl;simp only[e,I] at this;lia
def FQ:Y->Option Y
 |.str s=>if s = "" then none else some (.str s)
 |_=>none
def Wg(s:Str)(r:_T):(Y.str s::r).filterMap FQ=if s = "" then r.filterMap FQ else .str s::r.filterMap FQ:=by
 by_cases h:s = ""
 .rw[List.filterMap_cons_none (by show(if s = "" then none else some (Y.str s))=none;rw[AC h]),AC h]
 .rw[List.filterMap_cons_some (b:=.str s) (by show(if s = "" then none else some (Y.str s))=_;rw[Az h]),Az h]
def Wh(ls:List<|aab):((ls.map jh).map Y.str).filterMap FQ=((ls.filter λw=>!w.isEmpty).map jh).map Y.str:=by
 induction ls with
 |nil=>rfl
 |cons l r J=>
  rw[AI,AI,Wg,Dn,J];have I:=Wf l;cases l with
  |nil=>
   have h:jh [] = "" := by simpa using I
   rw[AC h];rfl
  |cons a U=>
   have h:¬jh (a::U) = "" := by simpa using I
   rw[Az h];rfl
def Wi{n:Str}(h:aJ n):lH n=true:=by unfold lH;rw[AA h.1,AA h.2.1];simp only[Bool.and_self,Bool.true_and,Ce];intro c I;obtain⟨J,U⟩:=h.2.2 c I;unfold Gy;rw[AA J,AA U];rfl
def yW{n:Str}(h:aJ n):n.cps.all (· < 128)=true:=by rw[<-Array.all_toList,Ce];intro c I;have:=(h.2.2 c I).2;exact AA (by exact Sf)
def sW(tl:Addr)(i:Nat):(c_ tl i).lookup ("take" : Str)=none:=by unfold c_;rw[Bg,show((("take" : Str)==("tokens" : Str)))=false by decide +kernel,Bg,show((("take" : Str)==("at" : Str)))=false by decide +kernel];rfl
theorem tG(c:Nat):∀(l w:aab),w∈_i c l->(∀x∈w,x∈l/\x≠c)/\w.length<=l.length
 |[],w,h=>by
  have:w=[]:=by simpa[_i] using h
  subst this;exact{λx I=>absurd I (by simp),Aj _}
 |d::r,w,h=>by
  by_cases e:d=c
  .rw[_k e] at h;rcases Aq.mp h with rfl|h
   .exact{λx I=>absurd I (by simp),by simp}
   .obtain⟨J,j⟩:=tG c r w h;exact{λx I=>{Ag _ (J x I).1,(J x I).2},by rw[Ap];exact E8}
  .obtain⟨g,t,q⟩:=_o c r;rw[_y e q] at h;have U:=tG c r;rw[q] at U;rcases Aq.mp h with rfl|h
   .obtain⟨J,j⟩:=U g<|An ..;refine{λx I=>?_,by rw[Ap,Ap];exact Fz};rcases Aq.mp I with rfl|I
    .exact{An ..,e}
    .exact{Ag _ (J x I).1,(J x I).2}
   .obtain⟨J,j⟩:=U w<|Ag _ h;exact{λx I=>{Ag _ (J x I).1,(J x I).2},by rw[Ap];exact E8}
def str_list{a b:Str}(h:a.cps.toList=b.cps.toList):a=b:=by apply Str.ext';exact Dk.mp h
def io(a b:Str):(a++b).cps.toList=a.cps.toList++b.cps.toList:=by rw[Str.cps_append,A9]
abbrev bl(n:Nat):aab:=List.replicate n 32
def vt(z p q:aab)(r:List<|aab):gl z (p::q::r)=p++(z++gl z (q::r)):=by show p++(q::r).flatMap (λq=>z++q)=p++(z++(q++r.flatMap λq=>z++q));rw[Bc,Av]
def cr(z p:aab):gl z [p]=p:=by show p++([]:List<|aab).flatMap _=p;simp
theorem K_(z:aab)(M:Nat):∀ls:List (aab),(∀l∈ls,l.length<=M)->(gl z ls).length<=ls.length*(M+z.length)
 |[],_=>by simp[gl]
 |[p],h=>by have:=h p<|An ..;rw[cr];simp;lia
 |p::q::r,h=>by have J:=h p<|An ..;have U:=K_ z M (q::r) λl I=>h l<|Ag _ I;rw[vt,Ab,Ab,Ap,Nat.succ_mul];lia
theorem K'{z:aab}{c:Nat}:∀{ls:List<|aab},c∈gl z ls->c∈z\/∃l∈ls,c∈l
 |[],h=>by simp[gl] at h
 |[p],h=>by rw[cr] at h;exact .inr {p,An ..,h}
 |p::q::r,h=>by
  rw[vt] at h;rcases Ao.mp h with h|h
  .exact .inr {p,An ..,h}
  .rcases Ao.mp h with h|h
   .exact .inl h
   .rcases K' h with h|⟨l,I,h⟩
    .exact .inl h
    .exact .inr {l,Ag _ I,h}
def La(J:jf):RR "_law_flip" mG 1 ["_law_word_here"] ["_law_word_here","_law_sides"] J (λ_=>True):={_,λV B c _ _ I _ _ _ _ _ _ U hN g=>(qa (S_ 1 hN<|JY [ ("plain" ,"turned") ,("turned" ,"plain") ,("both" ,"either") ,("either" ,"both") ] (cM aQ aQ<|cM aQ aQ<|cM aQ aQ<|cM aQ aQ IZ) rfl rfl (List.cons_ne_nil _ _)<|Cg rfl)<|qa (zf (E_ g (L_ B.ba<|qv 0) qe) (qd<|ql<|zo<|vo (I_ (qv 1)<|J_ 0)<|J_ 0) qx)<|qd<|ql<|zo<|df (I_ (qv 1)<|J_ 0) (C_ I U<|zn<|J_ 0)<|C_ I U<|zn<|J_ 0)}
def Wj(I:jf)(p1:jf):fe:=(x4 (gK (w_ (j_ 1)<|dS 2) (x4 (dN<|tL wb (qw 0)<|zb (vh I<|mS<|qw 1) vj)
 (x4 (dN<|tL wb (qw 0)<|mS<|qw 1)
 (oO<|pI<|zb (qV<|zb (i_ "link")<|zb (aZ Fh (j_ 0)<|dS 2)<|zb (aZ Fh (j_ 0)<|dS 1) vj)<|zb (aZ Fh (j_ 0)<|dS 2)<|zb (aZ Fh (j_ 0)<|dS 1) vj))) cI)
 (x4 (km (vh p1<|zD (qw 0)<|qT 1 1)<|qz 2)
 (x4 (km (vh p1<|zD (qw 0)<|qT 1 2)<|qz 3)
 (x4 (dN<|tL wb (qw 0)<|zb (qV<|zb (aZ u5 (vh I<|mS<|qw 1)<|dS 0)<|zD (qT 2 1)<|qT 3 1) vj)
 (x4 (dN<|tL wb (qw 0)<|zb (qV<|zb (qT 1 0)<|zD (qT 2 2)<|qT 3 2) vj)
 (x4 (JC 4 5<|zb (aZ Fh (j_ 0)<|dS 2)<|zb (aZ Fh (j_ 0)<|dS 1) vj)
 (x4 (km (F8 (w_ (qT 1 0)<|i_ "either") (qw 4)<|qw 5)<|qz 6)
 (x4 (km (F8 (w_ (qT 1 0)<|i_ "either") (qw 5)<|qw 4)<|qz 7)
 (oO<|pI<|zb (qV<|zb (i_ "either")<|zb (qw 7)<|zb (qV<|zb (i_ "both")<|zb (qw 6)<|zD (qT 2 0)<|qT 3 0) vj)<|zD (qw 4)<|qw 5)))))))))
inductive Kn where
 |lf (t:Bool) (n:Str)|nd (e:Bool) (i j:Nat)
abbrev HT:=Option Kn
abbrev Pi:=List Kn
def nW:Kn->Y
 |.lf t n=>.tup [.str<|kL t,.str n]
 |.nd e i j=>.tup [.str<|kN e,.int ((i:Nat):Int),.int ((j:Nat):Int)]
inductive Ru where
 |link (p q:Nat)|ei (r:Nat) (A:Ru)|bo (r:Nat) (A B:Ru)|cu (p q:Nat) (A B:Ru)
abbrev aay:=List Ru
def qr:Ru->Y
 |.link p q=>.tup [.str "link",.int ((p:Nat):Int),.int ((q:Nat):Int)]
 |.ei r A=>.tup [.str "either",.int ((r:Nat):Int),qr A]
 |.bo r A B=>.tup [.str "both",.int ((r:Nat):Int),qr A,qr B]
 |.cu p q A B=>.tup [.str "cut",.int ((p:Nat):Int),.int ((q:Nat):Int),qr A,qr B]
def qm:Ru->aab
 |.link p q=>[p,q]
 |.ei r A=>r::qm A
 |.bo r A B=>r::(qm A++qm B)
 |.cu _ _ A B=>qm A++qm B
abbrev xz(ks:Pi):_T:=ks.map nW
def dF(ks:Pi)(p:Nat)(w:Wd):Prop:=KW (xz ks) p w
theorem dF.more{ks:Pi}{p:Nat}{w:Wd}(h:dF ks p w)(ms:Pi):dF (ks++ms) p w:=by unfold dF xz;rw[Ar];exact KW.more _ h
def cQ(ks:Pi):Prop:=∀(p:Nat) (k:Kn),ks[p]?=some k->match k with
 |.lf _ n=>aJ n
 |.nd _ i j=>i<p/\j<p
def cQ.snoc{ks:Pi}{k:Kn}(h:cQ ks)(I:match k with|.lf _ n=>aJ n|.nd _ i j=>i<ks.length/\j<ks.length):cQ (ks++[k]):=by
 intro p J e;by_cases c:p<ks.length
 .rw[AH c] at e;exact h p J e
 .rw[AK (by exact G6)] at e;have U:p=ks.length:=by
   by_cases g:p-ks.length=0
   .omega
   .rw[Br (by simp;exact FA)] at e;cases e
  subst U;rw[CO] at e;cases e;exact I
def eQ(l:List α)(x:α)(r:List α):(l++x::r)[l.length]?=some x:=by rw[AK<|Aj _,CO];rfl
def pY{l r:List α}{p:Nat}{x:α}(h:l[p]?=some x):(l++r)[p]?=some x:=by rw[AH (AJ.mp h).1];exact h
inductive SR(ks:Pi):Ru->aab->Prop
 |link {p q:Nat} {t:Bool} {n:Str} {E:aab}:p<q->ks[p]?=some (.lf t n)->ks[q]?=some (.lf (!t) n)->(∀x,x∈E↔x=p\/x=q)->E.Nodup->SR ks (.link p q) E
 |ei {r i j:Nat} {A:Ru} {EA E:aab}:ks[r]?=some (.nd true i j)->SR ks A EA->i∈EA->j∈EA->i≠j->(∀x,x∈E↔(x∈EA/\x≠i/\x≠j)\/x=r)->E.Nodup->SR ks (.ei r A) E
 |bo {r i j:Nat} {A B:Ru} {EA EB E:aab}:ks[r]?=some (.nd false i j)->SR ks A EA->SR ks B EB->i∈EA->j∈EB->(∀x,x∈E↔(x∈EA/\x≠i)\/(x∈EB/\x≠j)\/x=r)->E.Nodup->SR ks (.bo r A B) E
 |cu {p q:Nat} {A B:Ru} {EA EB E:aab} {w:Wd}:SR ks A EA->SR ks B EB->p∈EA->q∈EB->dF ks p w->dF ks q w.turn->(∀x,x∈E↔(x∈EA/\x≠p)\/(x∈EB/\x≠q))->E.Nodup->SR ks (.cu p q A B) E
theorem SR.more{ks:Pi}{R:Ru}{E:aab}(h:SR ks R E)(ms:Pi):SR (ks++ms) R E:=by induction h with|link j r l I J=>exact .link j (pY r) (pY l) I J|ei j _ l I J o p t=>exact .ei (pY j) t l I J o p|bo j _ _ I J o p U g=>exact .bo (pY j) U g I J o p|cu _ _ l I J o p C U g=>exact .cu U g l I (J.more ms) (o.more ms) p C
def SR.sub{ks:Pi}{R:Ru}{E:aab}(h:SR ks R E):∀x∈E,x∈qm R:=by
 induction h with
 |link _ _ _ j _=>intro x I;rcases (j x).mp I with rfl|rfl<;>simp[qm]
 |ei _ _ _ _ _ g _ l=>intro x I;rcases (g x).mp I with⟨h,_⟩|rfl;exact Ag _<|l x h;exact An ..
 |bo _ _ _ _ _ g _ J U=>
  intro x I;rcases (g x).mp I with⟨h,_⟩|⟨h,_⟩|rfl
  .exact Ag _<|Ay _<|J x h
  .exact Ag _<|Ai _<|U x h
  .exact An ..
 |cu _ _ _ _ _ _ o _ J U=>
  intro x I;rcases (o x).mp I with⟨h,_⟩|⟨h,_⟩
  .exact Ay _<|J x h
  .exact Ai _<|U x h
inductive aF(n:Nat)(ys:_T)(L:qh)(Q:YK):Prop
 |mk:∀wd,(ys=[bO wd])->(wd.depth<=n)->(Q (bO wd.turn) L)->aF n ys L Q
def Wk:∀ys L Q,¬aF 0 ys L Q:=by rintro ys L Q ⟨I,_,hd,_⟩;cases I<;>simp[Wd.depth] at hd
def yt(t:Bool):vq ([(("plain" : Str),("turned" : Str)),("turned","plain"),("both","either"),("either","both")].map λp=>((Sum.inr p.1:zr),Y.str p.2)) (Sum.inr<|kL t)=some (.str<|kL<|!t):=fC<|rZ t
def yL(t:Bool):vq ([(("plain" : Str),("turned" : Str)),("turned","plain"),("both","either"),("either","both")].map λp=>((Sum.inr p.1:zr),Y.str p.2)) (Sum.inr<|kN t)=some (.str<|kN<|!t):=fC<|sJ t
def Wl(n:Nat):_f (aF (n+1)) (La<|aF n).1 2:=by
 rintro ys L Q ⟨J,rfl,hd,q⟩;intro p I;cases J with
 |leaf t nm=>
  refine ju q9<|qj (yt t) ?_;exact aB (By I) q
 |node e l r=>
  have U:max l.depth r.depth+1<=n+1:=hd;refine ju q9<|qj (yL e) ?_;refine{l,rfl,by lia,r,rfl,by lia,?_};exact aB (By I) q
structure Fm(ks:Pi)(w:Wd)(ms:Pi)(R:Ru)(tp sp:Nat):Prop where
 len:ms.length=2*w.size
 sr:SR (ks++ms) R [tp,sp]
 wt:dF (ks++ms) tp w.turn
 ws:dF (ks++ms) sp w
 tm:∀x,x∈qm R↔ks.length<=x/\x<ks.length+ms.length
 nd:(qm R).Nodup
 ok:cQ (ks++ms)
def dF.leaf{ks:Pi}{p:Nat}{n:Str}(h:ks[p]?=some (.lf t n)):dF ks p (.leaf t n):=by show(xz ks)[p]?=_;rw[Al,h];rfl
def dF.node{ks:Pi}{p:Nat}{e:Bool}{l r:Wd}(h:ks[p]?=some (.nd e i j))(I:dF ks i l)(J:dF ks j r):dF ks p (.node e l r):=by refine{i,j,?_,I,J};rw[Al,h];rfl
abbrev EY:=@dF.node
def uk{ks:Pi}(g:cQ ks){n:Str}(I:aJ n):Fm ks (.leaf t n) [.lf (!t) n,.lf t n] (.link ks.length<|ks.length+1) ks.length (ks.length+1):=by
 have J:(ks++[Kn.lf (!t) n,.lf t n])[ks.length]?=some (.lf (!t) n):=eQ _ _ _;have U:(ks++[Kn.lf (!t) n,.lf t n])[ks.length+1]?=some (.lf t n):=by have:=eQ (ks++[Kn.lf (!t) n]) (Kn.lf t n) [];rw[Ab,Av] at this;exact this
 refine{rfl,.link (t:=!t) (n:=n) (by exact BN _) J (by rw[Bool.not_not];exact U) (by simp) (by simp),dF.leaf J,dF.leaf U,λx=>?_,by simp[qm],?_}
 .show x∈[ks.length,ks.length+1]↔ks.length<=x/\x<ks.length+2;simp;lia
 .have:=(g.snoc (k:=.lf (!t) n) I).snoc (k:=.lf t n) I;rw[Av] at this;exact this
def SR._M{ks:Pi}{R:Ru}{E:aab}(h:SR ks R E):E.Nodup:=by cases h<;>assumption
def Wm{x h lo a r N:Nat}(I:(h=N/\lo=N+1)\/(h=N+1/\lo=N))(hN:N=a+m+r):x=h\/x=lo\/(a<=x/\x<a+m)\/a+m<=x/\x<a+m+r↔a<=x/\x<N+2:=by subst hN;rcases I with⟨rfl,rfl⟩|⟨rfl,rfl⟩<;>lia
def Wn{x a b c N:Nat}(h:a≠b)(k:c≠d):x∈[b,d,N]↔(x∈[a,b]/\x≠a)\/(x∈[c,d]/\x≠c)\/x=N:=by simp only[Aq,BC,or_false];lia
def Wo{x a b c N:Nat}(h:a≠b)(k:c≠d):x∈[a,c,N]↔(x∈[a,b]/\x≠b)\/(x∈[c,d]/\x≠d)\/x=N:=by simp only[Aq,BC,or_false];lia
def Wp{x a b N M:Nat}(h:a<N)(k:b<N):x∈[N,M]↔(x∈[a,b,N]/\x≠a/\x≠b)\/x=M:=by simp only[Aq,BC,or_false];lia
def Wq{x a b N M:Nat}(h:a<N)(k:b<N):x∈[M,N]↔(x∈[a,b,N]/\x≠a/\x≠b)\/x=M:=by simp only[Aq,BC,or_false];lia
def Lb{a b N:Nat}(h:a<N)(k:b<N)(d:a≠b):[a,b,N].Nodup:=by rw[AQ,AQ];simp;lia
def Wr{a r N t s u v:Nat}(I:a<=t/\t<a+m)(J:a<=s/\s<a+m)(b1:a+m<=u/\u<a+m+r)(b2:a+m<=v/\v<a+m+r)(hN:N=a+m+r):t<N/\s<N/\u<N/\v<N/\t≠u/\s≠v:=by lia
def Lc{h lo a r N:Nat}(I:(h=N/\lo=N+1)\/(h=N+1/\lo=N))(hN:N=a+m+r):¬(h=lo\/(a<=h/\h<a+m)\/a+m<=h/\h<a+m+r)/\¬((a<=lo/\lo<a+m)\/a+m<=lo/\lo<a+m+r):=by lia
def Ws{x y a r:Nat}(h1:a<=x/\x<a+m)(h2:a+m<=y/\y<a+m+r)(e:x=y):False:=by lia
def Wt{ks I g:Pi}{e:Bool}{l r:Wd}{A B:Ru}{tl J tr U:Nat}(p:Fm ks l I A tl J)(o:Fm (ks++I) r g B tr U){N:Nat}(hN:N=ks.length+(I++g).length):
 Fm ks (.node e l r) (I++g++[.nd (!e) tl tr,.nd e J U]) (.ei (if e=true then N+1 else N)<|.bo (if e=true then N else N+1) A B) N (N+1):=by
 have hA:∀x∈[tl,J],ks.length<=x/\x<ks.length+I.length:=λx T=>(p.tm x).mp<|p.sr.sub x T;have hB:∀x∈[tr,U],ks.length+I.length<=x/\x<ks.length+I.length+g.length:=λx T=>by have:=(o.tm x).mp<|o.sr.sub x T;rw[Ab] at this;exact this
 have a1:=hA tl (by simp);have a2:=hA J (by simp);have b1:=hB tr (by simp);have b2:=hB U (by simp);have nA:tl≠J:=by have:=p.sr._M;simpa using this
 have nB:tr≠U:=by have:=o.sr._M;simpa using this
 have t:N=ks.length+I.length+g.length:=by rw[hN,Ab];simp +arith only
 obtain⟨d1,d2,d3,d4,d5,d6⟩:=Wr a1 a2 b1 b2 t;generalize j:ks++(I++g++[Kn.nd (!e) tl tr,.nd e J U])=K;have k1:K=(ks++I)++(g++[Kn.nd (!e) tl tr,.nd e J U]):=by rw[<-j];simp
 have k2:K=((ks++I)++g)++[Kn.nd (!e) tl tr,.nd e J U]:=by rw[<-j];simp
 have k3:K=(((ks++I)++g)++[Kn.nd (!e) tl tr])++[.nd e J U]:=by rw[<-j];simp
 have l2:((ks++I)++g).length=N:=by rw[Ab,Ab];lia
 have g1:K[N]?=some (.nd (!e) tl tr):=by rw[k2,<-l2];exact eQ _ _ _
 have g2:K[N+1]?=some (.nd e J U):=by
  have l3:(((ks++I)++g)++[Kn.nd (!e) tl tr]).length=N+1:=by rw[Ab,l2];rfl
  rw[k3,<-l3];exact eQ _ _ _
 have sA:SR K A [tl,J]:=by rw[k1];exact p.sr.more _
 have sB:SR K B [tr,U]:=by rw[k2];exact o.sr.more _
 have a0:cQ K:=by have o1:=o.ok.snoc (k:=.nd (!e) tl tr) (by show tl<((ks++I)++g).length/\tr<((ks++I)++g).length;rw[l2];exact{(d1),d3});have o2:=o1.snoc (k:=.nd e J U) (by show J<_/\U<_;rw[Ab,l2];exact{Cp d2,Cp d4});rw[k3];exact o2
 have tA:=p.tm;have tB:=o.tm;rw[Ab] at tB;have wt:dF K N (Wd.node e l r).turn:=EY g1 (by rw[k1];exact p.wt.more _) (by rw[k2];exact o.wt.more _);have a3:dF K (N+1) (Wd.node e l r):=EY g2 (by rw[k1];exact p.ws.more _) (by rw[k2];exact o.ws.more _);have C:(I++g++[Kn.nd (!e) tl tr,.nd e J U]).length=2*(Wd.node e l r).size:=by have h1:=p.len;have h2:=o.len;show _=2*(1+l.size+r.size);rw[Ab,Ab];simp;lia
 have lt:ks.length+(I++g++[Kn.nd (!e) tl tr,.nd e J U]).length=N+2:=by rw[Ab];simp[hN];rfl
 have tt:∀h lo:Nat,(h=N/\lo=N+1)\/(h=N+1/\lo=N)->(∀x,x∈qm (.ei h<|.bo lo A B)↔ks.length<=x/\x<ks.length+(I++g++[Kn.nd (!e) tl tr,.nd e J U]).length)/\(qm<|.ei h<|.bo lo A B).Nodup:=by
  intro h lo hh;constructor
  .intro x;rw[lt];show x∈h::lo::(qm A++qm B)↔_;rw[Aq,Aq,Ao,tA,tB];exact Wm hh t
  .show(h::lo::(qm A++qm B)).Nodup;rw[AQ,AQ,AB];refine{?_,?_,p.nd,o.nd,λx T y hy e=>?_}
   .rw[Aq,Ao,tA,tB];exact(Lc hh t).1
   .rw[Ao,tA,tB];exact(Lc hh t).2
   .exact Ws ((tA x).mp T) ((tB y).mp hy) e
 cases e with
 |true=>
  have s1:SR K (.bo N A B) [J,U,N]:=by exact .bo g1 sA sB (by simp) (by simp) (λx=>Wn nA nB)<|Lb d2 d4 d6
  have s2:SR K (.ei (N+1)<|.bo N A B) [N,N+1]:=by exact .ei g2 s1 (by simp) (by simp) d6 (λx=>Wp d2 d4) (by simp)
  obtain⟨t1,t2⟩:=tt (N+1) N<|.inr {(rfl),rfl};exact{C,by rw[j];exact s2,by rw[j];exact wt,by rw[j];exact a3,t1,t2,by rw[j];exact a0}
 |false=>
  have s1:SR K (.bo (N+1) A B) [tl,tr,N+1]:=by exact .bo g2 sA sB (by simp) (by simp) (λx=>Wo nA nB)<|Lb (Cp d1) (Cp d3) d5
  have s2:SR K (.ei N<|.bo (N+1) A B) [N,N+1]:=by exact .ei g1 s1 (by simp) (by simp) d5 (λx=>Wq (Cp d1)<|Cp d3) (by simp)
  obtain⟨t1,t2⟩:=tt N (N+1)<|.inl {(rfl),rfl};exact{C,by rw[j];exact s2,by rw[j];exact wt,by rw[j];exact a3,t1,t2,by rw[j];exact a0}
inductive aO(n:Nat)(ys:_T)(L:qh)(Q:YK):Prop
 |mk:∀a,∀ks:Pi,∀w:Wd,(ys=[.ref a,bO w])->(L a=some (.lst<|xz ks))->(w.depth<=n)->(n<=120)->(w.ok)->(cQ ks)->(ks.length+2*w.size<=10000)->(∀ms R tp sp p,L p=none->Fm ks w ms R tp sp->Q (.ref p) (qg (qg L a<|.lst<|xz<|ks++ms) p<|.lst [qr R,.int ((tp:Nat):Int),.int ((sp:Nat):Int)]))->aO n ys L Q
def Wu:∀ys L Q,¬aO 0 ys L Q:=by rintro ys L Q ⟨a,J,I,_,_,hd,_⟩;cases I<;>simp[Wd.depth] at hd
def Ld{a p:Addr}{o x y:LO}(J:L a=some o)(I:L p=none):qg (qg L a x) p y a=some x/\qg (qg L a x) p y p=some y/\∀b u,b≠a->L b=some u->qg (qg L a x) p y b=some u:=
 ⟨(qb<|v4 J I).trans q9,q9,λ_ _ n e=>(qb<|v4 e I).trans<|(qb n).trans e⟩
def vY{a p:Addr}{o x:LO}(J:L a=some o)(I:qg L a x p=none):L p=none:=by
 have:p≠a:=λe=>by rw[e,q9] at I;cases I
 rw[qb this] at I;exact I
def a_:∀m:Nat,m<=20000->m<sizeLine:=λm h=>Bo h (by decide)
def Wv{FS:jf}(hF:∀ys L Q,aF 120 ys L Q->FS ys L Q)(n:Nat):_f (aO (n+1)) (Wj FS<|aO n) 8:=by
 rintro ys L Q ⟨a,I,w,rfl,ha,hd,hn,T,hk,hb,q⟩;have big:=a_;cases w with
 |leaf t nm=>
  have hb:I.length+2*1<=10000:=hb;refine qc ha (hF _ _ _ {.leaf t nm,rfl,by exact BZ _,qi ha {big _ (by rw[Ac];lia),?_}});refine qc q9 (qi q9 {big _ (by rw[Ab,Ac];simp;lia),?_});rw[jc];obtain⟨W,j⟩:∃W,W=xz (I++[Kn.lf (!t) nm,.lf t nm]):={_,rfl};have e1:(xz I++[bO (Wd.leaf t nm).turn])++[bO<|.leaf t nm]=W:=by rw[j];unfold xz;rw[Ar,Av];rfl
  have e2:W.length=I.length+2:=by rw[j,Ac,Ab];rfl
  have i1:((W.length:Nat):Int)-2=((I.length:Nat):Int):=by rw[e2];lia
  have i2:((W.length:Nat):Int)-1=((I.length+1:Nat):Int):=by rw[e2];lia
  have ac:(xz I++[bO (Wd.leaf t nm).turn])++[.tup [.str<|kL t,.str nm]]=W:=e1
  first|rw[e1]|rw[ac]
  refine qc q9<|qc q9<|qc q9<|qc q9 λp J=>?_;have np:L p=none:=vY ha J;have:=q _ _ _ _ p np<|uk hk T;rw[<-j] at this;show dH Q (.ref p) (qg _ p<|.lst [.tup [.str "link",.int<|((W.length:Nat):Int)-2,.int<|((W.length:Nat):Int)-1],.int<|((W.length:Nat):Int)-2,.int<|((W.length:Nat):Int)-1]);rw[i1,i2];exact jd this
 |node e l r=>
  have al:max l.depth r.depth+1<=n+1:=hd;have hb:I.length+2*(1+l.size+r.size)<=10000:=hb;refine{a,I,l,rfl,ha,by lia,by exact jO,T.1,hk,by lia,λU A tl sl p1 a4 ML=>?_};obtain⟨g,g1,o1⟩:=Ld (x:=.lst<|xz<|I++U) (y:=.lst [qr A,.int ((tl:Nat):Int),.int ((sl:Nat):Int)]) ha a4;have a5:p1≠a:=AL<|v4 ha a4;have au:=ML.len;generalize qg (qg L a<|.lst<|xz<|I++U) p1 _=L1 at g g1 o1 ⊢;refine{a,I++U,r,rfl,g,by lia,by exact jO,T.2,ML.ok,by rw[Ab];lia,λC B tr sr p2 ab MR=>?_};obtain⟨a0,h2,o2⟩:=Ld (x:=.lst<|xz<|(I++U)++C) (y:=.lst [qr B,.int ((tr:Nat):Int),.int ((sr:Nat):Int)]) g ab;have ag:p2≠a:=AL<|v4 g ab;have h1:=o2 _ _ a5 g1;have av:=MR.len;generalize qg (qg L1 a<|.lst<|xz<|(I++U)++C) p2 _=L2 at a0 h1 h2 o2 ⊢;have aL:(xz<|(I++U)++C).length=I.length+U.length+C.length:=by rw[Ac,Ab,Ab]
  refine qc a0 (hF _ _ _ {.node e l r,rfl,by show max l.depth r.depth+1<=120;exact Fx,qc h1<|qc h2<|qi a0 {big _ (by lia),?_}});have a1:=λo=>(qb (L:=L2) (o:=o) a5).trans h1;have a2:=λo=>(qb (L:=L2) (o:=o) ag).trans h2;refine qc q9 (qc (a1 _) (qc (a2 _) (qi q9 {big _ (by rw[Ab];simp;lia),?_})));rw[jc];obtain⟨N,hN⟩:∃N,N=I.length+(U++C).length:={_,rfl};have M:=Wt (e:=e) ML MR hN;obtain⟨W,j⟩:∃W,W=xz (I++(U++C++[.nd (!e) tl tr,.nd e sl sr])):={_,rfl};have e1:(xz ((I++U)++C)++[.tup [.str<|kN<|!e,.int ((tl:Nat):Int),.int ((tr:Nat):Int)]])++[.tup [.str<|kN e,.int ((sl:Nat):Int),.int ((sr:Nat):Int)]]=W:=by rw[j];unfold xz;simp[nW]
  rw[e1];have lN:W.length=N+2:=by rw[j,Ac,Ab,Ab,hN];simp;rfl
  have i1:((W.length:Nat):Int)-2=((N:Nat):Int):=by rw[lN];lia
  have i2:((W.length:Nat):Int)-1=((N+1:Nat):Int):=by rw[lN];lia
  refine qc q9<|qc q9 ?_;have done:∀p,qg L2 a (.lst W) p=none->∀R,Fm I (.node e l r) (U++C++[Kn.nd (!e) tl tr,.nd e sl sr]) R N (N+1)->
   dH Q (.ref p) (qg (qg L2 a<|.lst W) p<|.lst [qr R,.int ((N:Nat):Int),.int ((N+1:Nat):Int)]):=λp J R MM=>by
   have a3:p≠a:=λz=>by rw[z,q9] at J;cases J
   rw[qb a3] at J;have np:L p=none:=by cases z:L p with|none=>rfl|some o=>rw[o2 p o a3<|o1 p o a3 z] at J;cases J
   refine aB ?_<|q _ _ _ _ p np MM;rw[<-j];intro b o z;by_cases c1:b=p
   .subst c1;rw[q9] at z ⊢;exact z
   .rw[qb c1] at z ⊢;by_cases c2:b=a
    .subst c2;rw[q9] at z ⊢;exact z
    .rw[qb c2] at z ⊢;exact o2 b o c2<|o1 b o c2 z
  clear j e1;cases e with
  |true=>
   walk_at "w";refine qc (a1 _)<|qc (a2 _) λp J=>?_;show dH Q (.ref p) (qg _ p<|.lst [.tup [.str "either",.int<|((W.length:Nat):Int)-1,.tup [.str "both",.int<|((W.length:Nat):Int)-2,qr A,qr B]],.int<|((W.length:Nat):Int)-2,.int<|((W.length:Nat):Int)-1]);rw[i1,i2];exact done p J _ M
  |false=>
   walk_at "w";refine qc (a1 _)<|qc (a2 _) λp J=>?_;show dH Q (.ref p) (qg _ p<|.lst [.tup [.str "either",.int<|((W.length:Nat):Int)-2,.tup [.str "both",.int<|((W.length:Nat):Int)-1,qr A,qr B]],.int<|((W.length:Nat):Int)-2,.int<|((W.length:Nat):Int)-1]);rw[i1,i2];exact done p J _ M
variable {R:Ru}{ks fy ms:List Kn}{eH wd:List<|Option Kn}
def oh(I:jf):RD "parts_of" pH 1 ["knot"] (λV=>Fk V I):={_,λV B c _ _ _ _ _ _ _ J hN U=>(qa (zf (bQ<|i3 (gM<|qv 0)<|eY<|w5<|C_ c J<|zn<|qv 0) (qd<|ql<|zc x5) qx)<|qd<|ql<|zc<|vo (J_ 0)<|J_ 0)}
def eM:RD "places_there" du 0 ["knots"] (λ_=>True):={_,λV B c _ _ _ _ _ _ _ I hN J=>(qd<|ql<|a6 ["place","knot" ] (EL (by rfl)) rfl (bY rfl B.bg<|qv 0) (Vl 1) (λ_ _ _ _=>eV<|Ta<|qv 2) λ_ _ _ _=>(qv 1))}
def i0:HT->Y
 |none=>.KF
 |some k=>nW k
abbrev wq(ks:List<|HT):_T:=ks.map i0
def j7:HT->aab
 |some (.nd _ i j)=>[i,j]
 |_=>[]
inductive cJ(ys:_T)(L:qh)(Q:YK):Prop
 |mk:∀k:HT,(ys=[i0 k])->(∀p,L p=none->Q (.ref p) (qg L p<|.lst<|nY<|j7 k))->cJ ys L Q
def Ww:_f cJ (oh ky).1 1:=by
 rintro ys L Q ⟨k,rfl,q⟩;cases k with
 |none=>exactλp I=>jd<|q p I
 |some k=>
  cases k with|lf t n=>exact{true,t,_,rfl,λp I=>jd<|q p I}|nd e i j=>exact{false,e,_,rfl,λp I=>jd<|q p I}
def f_(f:HT->Bool)(ks:List<|HT)(i:Nat):aab:=(List.range i).filter λp=>match ks[p]? with
 |some k=>f k
 |none=>false
def uh{f:HT->Bool}{ks:List<|HT}{k:HT}(h:ks[i]?=some k):f_ f ks (i+1)=f_ f ks i++if f k=true then [i] else []:=by unfold f_;rw[List.range_succ,BW];congr 1;rw[Dn];simp only[h,Ek]
def Wx{f:HT->Bool}{ks:List<|HT}{p:Nat}(h:p∈f_ f ks i):p<i/\∃k,ks[p]?=some k/\f k=true:=by
 unfold f_ at h;obtain⟨J,I⟩:=A6.mp h;refine{Bj.mp J,?_};split at I
 .rename_i k e;exact{(k),e,I}
 .cases I
def Le(f:HT->Bool)(ks:List<|HT)(i:Nat):(f_ f ks i).length<=i:=by unfold f_;exact AF (List.length_filter_le _ _) (by rw[B6];simp +arith only)
def bC:HT->Bool
 |some _=>true
 |none=>false
abbrev aW(ks:List<|HT):aab:=f_ bC ks ks.length
def ox(a b:aab):nY (a++b)=nY a++nY b:=by unfold nY;rw[Ar]
def cj{hs:aab}(h:(nY hs)[i]?=some y):∃n,hs[i]?=some n/\y=.int (n:Int):=by unfold nY at h;rw[Al] at h;obtain⟨n,I,J⟩:=Ax.mp h;exact{(n),I,J.symm}
def Wy{f:HT->Bool}{ks:List<|HT}{keep:qh->Prop}{Q:YK}(hz:ks.length<=1000)(j:keep L)
 (turn:∀(i:Nat) (k:HT) (R:_T->qh->Prop) zs,ks[i]?=some k->(f k=true->R (zs++[.int (i:Int)]) L)->(f k=false->R zs L)->g (.tup [.int (i:Nat),i0 k]) (τ++List.replicate 2 none) L λI L2=>tc I L2 λb L3=>wg b (te I L3 λz l=>R (zs++[z]) l)<|R zs L3)
 (o:∀p,L p=none->Q (.ref p) (qg L p<|.lst<|nY<|f_ f ks ks.length)):f' (ni<|wq ks) keep 2 g tc te τ L Q:=by
 refine aC (λi zs=>zs=nY (f_ f ks i)) (by rw[we,Ac];exact Bo hz (by decide)) j rfl ?_ ?_
 .rintro i y zs r rfl;obtain⟨z,U,rfl⟩:=a7 r;rw[Al] at U;obtain⟨k,J,rfl⟩:=Ax.mp U;refine turn i k _ _ J (λh=>{L,EE _,rfl,?_}) λh=>{L,EE _,rfl,?_}
  .rw[uh J,AC h,ox];rfl
  .rw[uh J,Az (by rw[h];exact AN),AG]
 .rintro zs rfl;rw[we,Ac];exact o
inductive i6(ys:_T)(L:qh)(Q:YK):Prop
 |mk:∀a,∀ks:List (HT),(ys=[.ref a])->(L a=some (.lst<|wq ks))->(ks.length<=1000)->(∀p,L p=none->Q (.ref p) (qg L p<|.lst<|nY<|aW ks))->i6 ys L Q
def Wz:_f i6 eM.1 1:=by
 rintro ys L Q ⟨a,o,rfl,I,J,q⟩;refine jb I λkeep U=>Wy (f:=bC) J (U L rfl) (λi k R r t g j=>?_) λp l=>jd<|q p l;cases k with
 |none=>exact j rfl
 |some k=>cases k<;>exact g rfl
def WA(a b:Nat):min (a:Int) (b:Int)=((min a b:Nat):Int):=by omega
def WB(a b:Nat):max (a:Int) (b:Int)=((max a b:Nat):Int):=by omega
def Lf(p:aaj):Y:=.tup [.int ((p.1:Nat):Int),.int ((p.2:Nat):Int)]
abbrev qB(l:Z8):_T:=l.map Lf
def GE(k:HT):(j7 k).length<=2:=by unfold j7;split<;>simp
section
open PySem.W PySem.Calls
section
variable {w:aan}
abbrev On(kx px:Str)(p1 p2 p3 p4 p5:Pos)(n:Nat):Expr:=.Tuple [.Subscript (.Name kx p1) (.Name px p2) p3,.Name px p4] n p5
structure nj(h:aao)(f:Addr)(kx px:Str)(scope:Scope)(kvs:Z_):Prop where
 ex:∃(name ee:Str) (params:Arguments) (p1 p2 p3 p4 p5:Pos) (n:Nat) (pm ctv:aak) (c' cell k:Addr),h.get? f=some (kla_obj name ee params (On kx px p1 p2 p3 p4 p5 n) scope [(kx,cell)] pm c' ctv)/\h.CodeRec (.ref c') ee/\
  h.IsCell cell (some<|.ref k)/\h.IsList k kvs.toArray/\∀v:aak,bindArgs (kla_fn name ee params (On kx px p1 p2 p3 p4 p5 n) scope [(kx,cell)] pm (.ref c') ctv) ⟨[v],[]⟩=pure [(px,v)]
 lim:h.NoLimit
structure _G(scope:Scope)(kx px:Str):Prop where
 kind:scope.kind=.function
 co:scope.isCoroutine=false
 gen:scope.isGenerator=false
 nc:∀x∈scope.names,x.2≠.cell
 lp:scope.names.lookup px=some .local
 lk:scope.names.lookup kx=some .free
 d1:(kx==("__debug__" : Str))=false
 d2:(px==("__debug__" : Str))=false
 d3:(kx==("__classdict__" : Str))=false
theorem nj.keeps{kvs:Z_}(k:nj h f kx px scope kvs)(J:∀b o,h.get? b=some o->h'.get? b=some o):nj h' f kx px scope kvs:=by
 obtain⟨name,U,I,p,r,t,C,T,n,pm,l,c',cell,kk,g1,g2,g3,g4,g5⟩:=k.ex;refine{{name,U,I,p,r,t,C,T,n,pm,l,c',cell,kk,J _ _ g1,?_,?_,?_,g5},k.lim.keeps J}
 .obtain⟨c,oc,vs,tq,g,j,e3⟩:=g2;exact{c,oc,vs,tq,g,J _ _ j,e3}
 .obtain⟨o,g,j⟩:=g3;exact{o,J _ _ g,j}
 .obtain⟨o,g,j⟩:=g4;exact{o,J _ _ g,j}
def WC{kvs:Z_}{u t:Tok}{r:Int}(K:nj s.heap f kx px scope kvs)(S:_G scope kx px)(U:A.depth<recursionLimit)(hi:kvs[i]?=some (.int r t))(a0:i<2 ^ 40)
 (h:∀h' tk a,(∀b o,s.heap.get? b=some o->h'.get? b=some o)->h'.get? a=some {cls:=.type "tuple",data:=.seq #[.int r t,.int (i:Int) u]}->Q (.ref a) {s with heap:=h',toks:=tk}):
 wpAny (model prog w) A (call (.ref f) [.int (i:Int) u]) Q E s:=by
 obtain⟨name,I,l,p1,p2,p3,p4,p5,n,pm,a1,p,cell,kk,g1,g2,g3,g4,g5⟩:=K.ex;refine wpAny_call<|kla_callFunE U g1 rfl S.co S.gen rfl g2 ?_;rw[g5];refine Am (wpAny_newFunctionEnv S.nc (λx hx=>by rw[Ak.mp hx];exact S.lp) (λJ g j=>{K.lim.fresh _ j,?_}) S.kind);have C:∀b o,s.heap.get? b=some o->J.get? b=some o:=λb o e=>j.extBut b o (A5<|xT e)<|wl _ e;show codeAny _ _ (.expr _<|envX I scope s.heap.objs.size f (.ref p) [(kx,cell)]) _ _;refine kla_codeExpr ?_;have look:(([(px,Value.int (i:Int) u)]:List<|Str×aak).reverse.lookup px)=some (.int (i:Int) u):=by simp
 have kf:(envX I scope s.heap.objs.size f (.ref p) [(kx,cell)]).kindOf kx=some .free:=S.lk;have kp:(envX I scope s.heap.objs.size f (.ref p) [(kx,cell)]).kindOf px=some .local:=S.lp;have cl:(envX I scope s.heap.objs.size f (.ref p) [(kx,cell)]).cells.lookup kx=some cell:=by show([(kx,cell)]:List<|Str×Addr).lookup kx=_;simp
 have ic:J.IsCell cell (some<|.ref kk):=by obtain⟨o,T,e2⟩:=g3;exact{o,C _ _ T,e2}
 have il:J.IsList kk kvs.toArray:=by obtain⟨o,T,e2⟩:=g4;exact{o,C _ _ T,e2}
 refine wpAny_Tuple_spliced<|At<|Subscript_<|wpAny_Name (wpAny_loadName_free S.kind kf cl ic (wpAny_Name (wpAny_loadName_local S.kind kp g look ?_) S.d2) S.d3) S.d1;refine item_listL il (by exact Bf _) (by omega) (by rw[show((i:Nat):Int).toNat=i from rfl];exact hi) ?_;refine At<|wpAny_Name (wpAny_loadName_local S.kind kp g look ?_) S.d2;refine Ev {by show 2<=sizeLine;decide,?_};exact h _ _ _ (λb o e=>wl _<|C b o e)<|ya _ rfl
end
def _C(x:Nat×Tok):aak:=.int (x.1:Int) x.2
def HL(h:aao)(kS:Addr)(rk:Nat->Int)(k:aak)(x:Nat×Tok):Prop:=∃a t u,k=.ref a/\a≠kS/\h.get? a=some {cls:=.type "tuple",data:=.seq #[.int (rk x.1) t,.int (x.1:Int) u]}
def kQ(h:aao)(kS:Addr)(rk:Nat->Int):Z_->List (Nat×Tok)->Prop
 |[],[]=>True
 |k::ks,x::xs=>HL h kS rk k x/\kQ h kS rk ks xs
 |_,_=>False
theorem kQ.len{h:aao}{kS:Addr}{rk:Nat->Int}:∀{ks:Z_} {xs:List<|Nat×Tok},kQ h kS rk ks xs->ks.length=xs.length
 |[],[],_=>rfl
 |_::_,_::_,⟨_,b⟩=>by rw[Ap,Ap,kQ.len b]
 |[],_::_,z=>z.elim
 |_::_,[],z=>z.elim
theorem kQ.mem{h:aao}{kS:Addr}{rk:Nat->Int}:∀{ks:Z_} {xs:List<|Nat×Tok},kQ h kS rk ks xs->∀t∈ks.zip xs,HL h kS rk t.1 t.2
 |[],[],_,t,I=>by cases I
 |_::_,_::_,⟨a,b⟩,t,I=>by
  rw[List.zip_cons_cons] at I;rcases Aq.mp I with rfl|I
  .exact a
  .exact kQ.mem b t I
 |[],_::_,z,_,_=>z.elim
 |_::_,[],z,_,_=>z.elim
section
variable {w:aan}
theorem Lg{g:aao}{f:Addr}{kx px:Str}{scope:Scope}{kvs:Z_}{kS:Addr}{rk:Nat->Int}{body:aak->PUnit->Sem (ForInStep PUnit)}(K:nj g f kx px scope kvs)(S:_G scope kx px)(I:A.depth<recursionLimit)(hn:g.get? kS=none)
 (hb:∀(x:aak) (s:aal) (Q':ForInStep PUnit->aal->Prop),wpAny (model prog w) A (call (.ref f) [x]) (λk s'=>wpAny (model prog w) A (Builtin.List.listUpdate (.ref kS) (·.push k)) (λ_ T=>Q' (.yield ⟨⟩) T) E s') (λ_ _=>False) s->wpAny (model prog w) A (body x ⟨⟩) Q' E s):
 ∀(ps:List<|Nat×Tok) (ks:Z_) (e:Nat) (s:aal) (Q:PUnit->aal->Prop),(∀b o,g.get? b=some o->s.heap.get? b=some o)->s.heap.get? kS=some (seqObj "list" ks.toArray e)->ks.length+ps.length<=100000->
  (∀x∈ps,x.1<2 ^ 40/\∃t,kvs[x.1]?=some (.int (rk x.1) t))->
  (∀h' tk j e',(∀b o,b≠kS->s.heap.get? b=some o->h'.get? b=some o)->h'.get? kS=some (seqObj "list" (ks++j).toArray e')->kQ h' kS rk j ps->Q ⟨⟩ {s with heap:=h',toks:=tk})->
  wpAny (model prog w) A (forIn (ps.map _C) PUnit.unit body) Q E s
 |[],ks,e,s,Q,hg,hk,hz,hp,q=>by rw[Cm,Em];exact Am (q s.heap s.toks [] e (λ_ _ _ h=>h) (by rw[AG];exact hk) trivial)
 |x::r,ks,e,s,Q,hg,hk,hz,hp,q=>by
  rw[AI,Cj];rw[Ap] at hz;obtain⟨a0,t,ht⟩:=hp x<|An ..;have big:(100000:Nat)+1<=sizeLine:=by rw[sizeLine_eq];exact Ds _ _
  refine Aa<|hb (_C x) s _<|WC (K.keeps hg) S I ht a0 λl p a k1 ha=>?_;have J:l.get? kS=some (seqObj "list" ks.toArray e):=k1 _ _ hk;have s1:=As l kS (Obj.mapSeq (·.push (.ref a)));have ea:ks.toArray.push (.ref a)=List.toArray (ks++[.ref a]):=by simp
  obtain⟨c2,a1⟩:∃c2,(l.update kS (Obj.mapSeq (·.push (.ref a)))).get? kS=some (seqObj "list" (List.toArray<|ks++[.ref a]) c2):={_,by rw[<-ea];exact get?_update_seq J (·.push (.ref a))};have C:a≠kS:=λz=>by
   rw[z,J] at ha;have:=BA (λo:Option Obj=>o.map (·.cls)) ha;have z2:some (Value.type "list")=some (Value.type "tuple"):=this;injection z2 with z3
   injection z3 with z4
   exact absurd z4 (by decide)
  refine listUpdate_at (s:={s with heap:=l,toks:=p}) J rfl ?_ (by rw[Au];lia) (AF (DC<|Bn ..) (by rw[Au];lia));refine Lg K S I hn hb r (ks++[.ref a]) c2 {s with heap:=l.update kS (Obj.mapSeq (·.push (.ref a))),toks:=p} Q (λb o e=>?_) a1 (by rw[Ab,Dd];lia) (λy hy=>hp y<|Ag _ hy) λh' tk j e' kk a2 vs=>?_
  .have nb:b≠kS:=λz=>by rw[z,hn] at e;cases e
   exact(s1.2 b nb).trans (k1 b o<|hg b o e)
  .have U:∀b o,b≠kS->l.get? b=some o->h'.get? b=some o:=λb o nb e=>kk b o nb<|(s1.2 b nb).trans e;refine q h' tk (.ref a::j) e' (λb o nb e=>U b o nb<|k1 b o e) (by rw[a2,Av];rfl) {{a,t,x.2,rfl,C,U a _ C ha},vs}
end
section
variable {w:aan}
def WD{g:aao}{kvs:Z_}{kS a:Addr}{rk:Nat->Int}{ps:List<|Nat×Tok}{e1 e0:Nat}{B:Int}{P:PySem.Fin->aal->Prop}(K:nj g f kx px scope kvs)(S:_G scope kx px)(I:A.depth<recursionLimit)(hn:g.get? kS=none)
 (hg:∀b o,g.get? b=some o->s.heap.get? b=some o) (hk:s.heap.get? kS=some (seqObj "list" #[] e0)) (ha:s.heap.get? a=some (seqObj "list" #[] e1)) (l:kS≠a) (hz:ps.length<=127)
 (hp:∀x∈ps,x.1<2 ^ 40/\∃t,kvs[x.1]?=some (.int (rk x.1) t)) (hB:∀x∈ps,((x.1:Nat):Int)<B) (nd:(ps.map (·.1)).Nodup)
 (h:∀h' tk (qs:List<|Nat×Tok) c,(∀b o,b≠kS->b≠a->s.heap.get? b=some o->h'.get? b=some o)->h'.get? a=some (seqObj "list" (qs.map _C).toArray c)->qs.Perm ps->(qs.Pairwise λx y=>rk x.1*B+(x.1:Int)<=rk y.1*B+(y.1:Int))->P (.done<|.ret .none) {s with heap:=h',toks:=tk}):
 wpAny (model prog w) A (ksk_rest a (.ref f) false (ps.map _C).toArray e1<|.ref kS) P E s:=by
 have big:(100000:Nat)+1<=sizeLine:=by rw[sizeLine_eq];exact Ds _ _
 unfold ksk_rest;refine Aa<|BB ?_;rw[List.forIn_toArray];refine Aa (Lg (rk:=rk) K S I hn (λx s' Q' hx=>?_) ps [] e0 s _ hg hk (by simp;lia) hp λh' tk ks e' keep J kv=>?_)
 .refine Aa (wpAny_attempt<|A8 hx (λk a4 hk=>?_) λ_ _ hF=>hF.elim)
  try dsimp only
  exact Aa<|A8 hk (λ_ s3 q=>Am q) λ_ _ e=>e
 .try dsimp only
  rw[BS] at J;refine Aa<|listItems_at (s:={s with heap:=h',toks:=tk}) J rfl ?_;have a0:h'.get? a=some (seqObj "list" #[] e1):=keep _ _ (AL l) ha;have len:ks.length=ps.length:=kv.len;obtain⟨T,C⟩:∃T,T=ks.zip ps:={_,rfl};have kT:∀t∈T,HL h' kS rk t.1 t.2:=λt p=>kv.mem t<|C▸p;have e2:T.map (·.2)=ps:=by rw[C];exact List.map_snd_zip (by lia)
  have ez:ks.zip (ps.map _C)=T.map λt=>(t.1,_C t.2):=by rw[C,List.zip_map_right];rfl
  have mp:∀t∈T,t.2∈ps:=λt p=>by rw[<-e2];exact DA p
  have nT:∀t∈T,num h' B (t.1,_C t.2)=rk t.2.1*B+(t.2.1:Int):=λt p=>by obtain⟨b,tt,u,r,x2,x3⟩:=kT t p;exact zC r x3 rfl
  have a5:∀x∈ps,(0:Int)<=((x.1:Nat):Int):=λ_ _=>by exact Bf _
  refine V1 (s:={s with heap:=h',toks:=tk}) (vs:=ps.map _C) (ks:=ks) (B:=B) J a0 l (by rw[Ac];exact len) (by rw[Ac];exact hz) (λv hv=>?_) λh2 a1 xs c U hc pm pw=>?_
  .obtain⟨j,hj⟩:=Dq hv;have a2:j<ps.length:=by rw[<-len];exact(AJ.mp hj).1
   have hm:(v,ps[j])∈T:=by rw[C];refine List.mem_iff_getElem?.mpr {j,?_};rw[DI];exact{hj,Ah a2}
   obtain⟨b,tt,u,r,x2,x3⟩:=kT _ hm;have r:v=.ref b:=r;exact{b,_,_,_,_,tt,u,r,x3,rfl,rfl,by exact Bf _,hB _<|mp _ hm}
  .rw[ez] at pm;obtain⟨T',pT,a3⟩:=V2 _ pm rfl;subst a3;have mT:∀t,t∈T'->t∈T:=λt=>pT.mem_iff.mp;refine h h2 a1 (T'.map (·.2)) c (λb o n1 n2 e=>?_) ?_ ?_ ?_
   .rw[U b n1 n2];exact keep b o n1 e
   .rw[hc,BI,BI];rfl
   .rw[<-e2];exact pT.map _
   .refine DN.mpr<|List.Pairwise.imp_of_mem (λ{x y} hx hy z=>?_)<|DN.mp pw;rw[nT x<|mT x hx,nT y<|mT y hy] at z;exact z
def w_sortedK{kvs:Z_}{rk:Nat->Int}{ps:List<|Nat×Tok}{B:Int}(K:nj s.heap f kx px scope kvs)(S:_G scope kx px)(j:A.in1.in1.depth<recursionLimit)
 (hl:s.heap.IsList l (ps.map _C).toArray) (hz:ps.length<=127)
 (hp:∀x∈ps,x.1<2 ^ 40/\∃t,kvs[x.1]?=some (.int (rk x.1) t)) (hB:∀x∈ps,((x.1:Nat):Int)<B) (nd:(ps.map (·.1)).Nodup)
 (h:∀h' tk (p:List<|Nat×Tok) D c,s.heap.objs.size<=D->(∀b o,s.heap.get? b=some o->h'.get? b=some o)->h'.get? D=some (seqObj "list" (p.map _C).toArray c)->p.Perm ps->(p.Pairwise λx y=>rk x.1*B+(x.1:Int)<=rk y.1*B+(y.1:Int))->Q (.ref D) {s with heap:=h',toks:=tk}):
 wpAny (model prog w) A (call (.builtin "sorted") [.ref l] [(Str.ofString "key",.ref f)]) Q E s:=by
 have big:(100000:Nat)+1<=sizeLine:=by rw[sizeLine_eq];lia
 have a1:(ps.map _C).length<=100000:=by rw[Ac];lia
 refine call_function_entry_kw kind_sorted plain_sorted entry_sorted (ksk_s1 _ _) ?_;unfold Builtin.«sorted»;refine Aa (m:=checkCount "sorted" 1 1 _)<|Am ?_;refine Aa<|collect_list hl ?_ (by exact Fy);refine Aa<|wpAny_newList ?_ (by lia);obtain⟨g1,T⟩:∃g1,g1=(s.heap.push<|seqObj "list" #[] 0).update s.heap.objs.size (Obj.mapSeq (· ++ (ps.map _C).toArray)):={_,rfl};have gs:g1.objs.size=s.heap.objs.size+1:=by rw[T,Heap.size_update,size_push']
 have gk:∀b o,s.heap.get? b=some o->g1.get? b=some o:=λb o q=>by have J:b<s.heap.objs.size:=xT q;rw[T,Heap.get?_update_ne _ _ _ _<|A5 J];exact wl _ q
 show wpAny _ _ _ _ _ {s with heap:=((s.heap.push<|seqObj "list" #[] 0).update s.heap.objs.size (Obj.mapSeq (· ++ (ps.map _C).toArray))).push (seqObj "list" (ps.map _C).toArray 0)};rw[<-T];have I:(g1.push<|seqObj "list" (ps.map _C).toArray 0).get? g1.objs.size=some (seqObj "list" (ps.map _C).toArray 0):=ya _ rfl;have keep:∀b o,s.heap.get? b=some o->(g1.push<|seqObj "list" (ps.map _C).toArray 0).get? b=some o:=λb o q=>wl _<|gk b o q;refine Aa<|Bm<|wpAny_call_entry_kw slot_list_sort {_,I,rfl} entry_list_sort ?body<|ksk_l1 _ _
 case body=>
  obtain⟨D,eD⟩:∃D,D=g1.objs.size:={_,rfl};rw[<-eD] at I ⊢;show wpAny (model prog w) A.in1.in1 (Builtin.«list.sort» ⟨[.ref D],[(Str.ofString "key",.ref f)]⟩) _ _ _;rw[ksk_t1];obtain⟨g2,r⟩:∃g2,g2=g1.push (seqObj "list" (ps.map _C).toArray 0):={_,rfl};rw[<-r] at I keep ⊢;have s1:=As g2 D<|Obj.mapSeq λ_=>(#[]:aaa);obtain⟨e1,C⟩:∃e1,(g2.update D<|Obj.mapSeq λ_=>(#[]:aaa)).get? D=some (seqObj "list" #[] e1):={_,get?_update_seq I λ_=>#[]};have nD:∀b o,s.heap.get? b=some o->b≠D:=λb o q z=>by have J:b<s.heap.objs.size:=xT q;rw[z,eD,gs] at J;exact Nat.not_succ_lt_self J
  unfold ksk_tree;refine Aa<|listItems_at (s:={s with heap:=g2}) I rfl ?_;refine Aa (listUpdate_at (s:={s with heap:=g2}) I rfl ?_ (by rw[Au];exact Fy)<|Bb _);refine Aa<|seqEpoch_at C rfl ?_;refine Aa (wpAny_newTuple ?_ (by show(ps.map _C).length<=_;lia));refine Aa<|wpAny_newList ?_<|Bb _;refine Bm ?_;obtain⟨g3,U⟩:∃g3,g3=(g2.update D<|Obj.mapSeq λ_=>(#[]:aaa)).push (seqObj "tuple" (ps.map _C).toArray 0):={_,rfl};have k3:∀b o,s.heap.get? b=some o->g3.get? b=some o:=λb o q=>by rw[U];exact wl _<|(s1.2 b<|nD b o q).trans<|keep b o q
  have d3:g3.get? D=some (seqObj "list" #[] e1):=by rw[U];exact wl _ C
  show wpAny (model prog w) A.in1.in1 (ksk_rest D (.ref f) false (ps.map _C).toArray _<|.ref ((g2.update D<|Obj.mapSeq λ_=>(#[]:aaa)).push<|seqObj "tuple" (ps.map _C).toArray 0).objs.size) _ _ {s with heap:=((g2.update D<|Obj.mapSeq λ_=>(#[]:aaa)).push<|seqObj "tuple" (ps.map _C).toArray 0).push (seqObj "list" #[] 0)};rw[<-U];have a0:(g3.push<|seqObj "list" #[] 0).get? g3.objs.size=some (seqObj "list" #[] 0):=ya _ rfl;refine WD (s:={s with heap:=g3.push (seqObj "list" #[] 0)}) (g:=s.heap) (kS:=g3.objs.size) (a:=D) (rk:=rk) (B:=B) K S j (Heap.get?_none_of_le ?_) (λb o q=>wl _<|k3 b o q) a0 (wl _ d3) ?_ hz hp hB nd λh' tk p c kp hD pm pw=>?_
  .have l1:g3.objs.size=g1.objs.size+2:=by rw[U,size_push',Heap.size_update,r,size_push']
   rw[l1,gs];exact AF (Cd _)<|Bd _ 2
  .exact(A5<|xT d3).symm
  .refine{_,rfl,Am {_,rfl,h h' tk p D c (by rw[eD,gs];exact Cd _) (λb o q=>?_) hD pm pw}};exact kp b o (A5<|xT<|k3 b o q) (nD b o q)<|wl _<|k3 b o q
end
end
def uG{i j:Int}{t u:Tok}{c:aak}(l:Z_)(h:TriplesOk l):TriplesOk (l++[.int i t,.int j u,c]):=by
 fun_induction TriplesOk l with
 |case1=>trivial
 |case2 _ _ _ _ _ rest I=>exact I h
 |case3=>exact h.elim
def zN{i j:Int}{t u:Tok}{c I:aak}(l:Z_)(h:TriplesOk l)(e:codeAmong pos (l++[.int i t,.int j u,c])=some I):codeAmong pos l=some I\/I=c:=by
 fun_induction TriplesOk l with
 |case1=>
  right;have e:(if i==pos.line&&j==pos.col then some c else none)=some I:=e;split at e
  .cases e;rfl
  .cases e
 |case2 a _ b _ d rest J=>
  have e:(if a==pos.line&&b==pos.col then some d else codeAmong pos (rest++[.int i t,.int j u,c]))=some I:=e;show(if a==pos.line&&b==pos.col then some d else codeAmong pos rest)=some I\/I=c;split at e
  .rename_i z;rw[AC z];exact .inl e
  .rename_i z;rw[Az z];exact J h e
 |case3=>exact h.elim
structure Fn(K:Af)(eK:aak)(P:Addr):Prop where
 ex:∃c oc,eK=.ref c/\K.lookup c=some oc/\∀h:aao,h.get? c=some oc->PySem.W.CodeHd h c P
 bm:∃bm ob,PySem.W.nsIn K mainGlobals "__builtins__"=some (some<|.ref bm)/\bm≠builtinsNs/\bm≠mainGlobals/\K.lookup bm=some ob/\ob.cls=.type "module" /\ ob.dict=some builtinsNs/\ob.data=.plain
theorem xI:∀{l:aab} {us:Z_},ze (l.map λi:Nat=>V.int<|0+(i:Int)) us->∃ps:List (Nat×Tok),us=ps.map _C/\ps.map (·.1)=l
 |[],_,.nil=>{[],rfl,rfl}
 |i::r,_,.cons (b:=u) h t=>by obtain⟨ps,J,U⟩:=xI (l:=r) t;obtain⟨I,g⟩:=(show ∃I,u=Value.int (0+(i:Int)) I from h);refine{(i,I)::ps,?_,by rw[AI,U]};rw[AI,J,g];show _=Value.int (i:Int) I::_;rw[CB]
theorem wR:∀ps:List (Nat×Tok),ze (ps.map λx=>V.int ((x.1:Nat):Int))<|ps.map _C
 |[]=>.nil
 |x::r=>.cons {(x.2),rfl}<|wR r
def WE(P:Addr)(q:Str)(U:Nat)(te:TE):TE:=λσ H Q=>te σ H λv H1=>∃l J,∃n:Nat,∃rks:aaf,v=.ref l/\H1 l=some (.lst ((List.range n).map λi:Nat=>V.int<|0+(i:Int)))/\σ[U]?=some (some<|.ref J)/\H1 J=some (.lst<|rks.map V.int)/\rks.length=n/\n<=127/\uK H1 P q/\
 ∀H2 D (I:aab),(∀b u,b≠P->H1 b=some u->H2 b=some u)->uK H2 P q->H1 D=none->D≠P->H2 D=some (.lst (I.map λi:Nat=>V.int (i:Int)))->I.Perm (List.range n)->(I.Pairwise λi j=>rks.getD i 0*1000000+(i:Int)<=rks.getD j 0*1000000+(j:Int))->Q (.ref D) H2
def WF{kk cell c':Addr}{n:Nat}{J:Arguments}{r:aak}{Q:VK}(I:z0 X pins σ H s)(S:_G eW kx px)(hr:X.A.depth+3<recursionLimit)
 (hf:s.heap.get? f=some (PySem.W.kla_obj name ee J (On kx px p1 p2 p3 p4 p5 x1) eW [(kx,cell)] pm c' r)) (a1:s.heap.CodeRec (.ref c') ee) (C:s.heap.IsCell cell<|some<|.ref kk)
 (hb:∀v:aak,bindArgs (PySem.W.kla_fn name ee J (On kx px p1 p2 p3 p4 p5 x1) eW [(kx,cell)] pm (.ref c') r) ⟨[v],[]⟩=pure [(px,v)])
 (hl:H l=some (.lst ((List.range n).map λi:Nat=>V.int<|0+(i:Int)))) (hk:H kk=some (.lst<|rks.map V.int)) (hn:rks.length=n) (hz:n<=127)
 (q:∀D (g:aab),H D=none->g.Perm (List.range n)->(g.Pairwise λi j=>rks.getD i 0*1000000+(i:Int)<=rks.getD j 0*1000000+(j:Int))->Q (.ref D) (upd H D<|.lst (g.map λi:Nat=>V.int (i:Int)))):
 _S X (call (.builtin "sorted") [.ref l] [(Str.ofString "key",.ref f)]) (EP X pins σ Q) X.xe s:=by
 obtain⟨a4,rv,pl,_⟩:=I.list<|Eo hl;obtain⟨p,rk,pk,_⟩:=I.list<|Eo hk;obtain⟨ps,rfl,U⟩:=xI rv;have lk:p.length=n:=by rw[<-rk.length,Ac,hn]
 have lp:ps.length=n:=by have:=BA List.length U;rwa[Ac,B6] at this
 have big:(100000:Nat)<=sizeLine:=by decide
 refine j6 I.tk<|w_sortedK (rk:=λi=>rks.getD i 0) (B:=1000000) (kvs:=p) {{(name),ee,J,p1,p2,p3,p4,p5,x1,pm,r,c',cell,kk,hf,a1,C,pk.isList,hb},I.nolimit} S ?_ pl.isList (by lia) (λx hx=>?_) (λx hx=>?_) ?_ λh' tk g D c hD keep hg a0 pw ht=>?_
 .show X.A.depth<recursionLimit;lia
 .have T:x.1∈List.range n:=by rw[<-U];exact DA hx
  have a2:=Bj.mp T;refine{by lia,?_};have e1:(rks.map V.int)[x.1]?=some (V.int<|rks.getD x.1 0):=by rw[Al,Ah (by lia),Bp,Ah (by lia)];rfl
  obtain⟨u,e2,r2⟩:=Paired.getP rk e1;obtain⟨t,rfl⟩:=(show ∃t,u=Value.int (rks.getD x.1 0) t from r2);exact{(t),e2}
 .have T:x.1∈List.range n:=by rw[<-U];exact DA hx
  have a2:=Bj.mp T;omega
 .rw[U];exact Cy
 .have a3:H D=none:=I.KB.fresh hD;refine{.ref D,_,I.laid (t':=tk) (o:=.lst ((g.map (·.1)).map λi:Nat=>V.int (i:Int))) keep hD ?_,rfl,q D (g.map (·.1)) a3 ?_ ?_}
  .refine{?_,g.map _C,c,?_,hg}
   .rw[Ac,Ac,a0.length_eq];lia
   .rw[BI];exact wR g
  .rw[<-U];exact a0.map _
  .exact DN.mpr pw
def z0.tabbed{P U:Addr}{ps more:aaa}{oc fo:Obj}{tk:Nat}(I:z0 X pins σ H s)(T:H P=some (.tbl ps))(hx:Heap.ExtBut P s.heap h')(g:h'.get? P=some (PySem.W.tabObj<|ps++more))
 (hc:s.heap.objs.size<=U) (j:h'.get? U=some oc) (ht:0<tk):z0 X pins σ (upd (upd H P<|.tbl<|ps++more) U<|._F oc<|.own 0) {s with heap:=h'.push fo,toks:=tk}:=by
 have nc:H U=none:=I.KB.fresh hc;have t:∀b,H b=none->b≠P:=λb e z=>by rw[z,T] at e;cases e
 have l:∀b u,H b=some u->b≠U:=λb u e z=>by rw[z,nc] at e;cases e
 have p:∀b o,s.heap.get? b=some o->b≠U:=λb o e=>A5<|AR (xT e) hc;have C:∀b o,b≠P->s.heap.get? b=some o->(h'.push fo).get? b=some o:=λb o n e=>wl _<|hx b o n e;have J:∀b u,H b=some u->(∀ps,u≠.tbl ps)->b≠P:=λb u e d z=>by rw[z,T] at e;cases e;exact d _ rfl
 refine I.step (ch:=[]) (g':=s.gens) (d':=s.drawn) (t':=tk) (λ_ z=>nomatch z) (λb o _ _ _ e n=>C b o (t b n) e) (λb o _ _ _ e n=>{o.slots,C b o (t b n) e}) (λb o _ e n=>?_) (λb o _ e=>?_) (λb xs e=>?_) (λb o u e=>?_) (λb qs e=>?_) (λm hm=>?_) (λb u e=>?_) I.bare ht
 .rw[qp<|p b o e,qp<|t b n];exact n
 .by_cases c:b=P
  .subst c;exact{_,wl _ g}
  .exact{o,C b o c e}
 .rw[qp<|l b _ e,qp (J b _ e λ_ z=>by cases z)];exact e
 .rw[qp<|l b _ e,qp (J b _ e λ_ z=>by cases z)];exact e
 .rw[qp<|l b _ e];by_cases c:b=P
  .subst c;rw[T] at e;cases e;exact{(more),zm}
  .rw[qp c];exact{#[],by rw[e];simp}
 .exact(hm.extBut hx<|t _ I.free).push _
 .by_cases c:b=U
  .subst c;rw[zm] at e;cases e;exact{wl _ j,_,wl _ j}
  .rw[qp c] at e;by_cases d:b=P
   .subst d;rw[zm] at e;cases e;exact wl _ g
   .rw[qp d] at e;refine(I.KB b u e)._N (λa v ha r=>C a v ?_ r) (λa r=>?_) (λa xs r=>?_)
    .rcases ha with rfl|ha
     .exact d
     .exact J a _ ha λ_ z=>by cases z
    .rw[qp<|l a _ r,qp (J a _ r λ_ z=>by cases z)];exact r
    .rw[qp<|l a _ r,qp (J a _ r λ_ z=>by cases z)];exact r
def WG{te:TE}{J:Arguments}{U:Pos}{ik:Nat}{P:Addr}(hg:Gl X "sorted")(hm:X.mg "sorted"=none)(he:PE X e te)(S:_G eW kx px)(C:Fn X.K X.env.code P)(hr:X.A.depth+3<recursionLimit)
 (hq:X.env.qual ++ "<lambda>" = q) (bi:X.N[ik]?=some kx) (al:X.env.scope.names.lookup kx=some .cell) (au:∃cell,X.env.cells.lookup kx=some cell/\closureFor eW X.env=pure [(kx,cell)])
 (av:defaultsOf J X.env=([],[])) (hb:∀(name ee:Str) (cl:List<|Str×Addr) (pm cd ct v:aak),bindArgs (PySem.W.kla_fn name ee J (On kx px p1 p2 p3 p4 p5 x1) eW cl pm cd ct) ⟨[v],[]⟩=pure [(px,v)])
 (h1:starEach [e] X.env=(false,eval e X.env)::starEach [] X.env:=by rfl) (h2:(backTo pos<|starEach [e] X.env).any (·.1)=false:=by rfl)
 (h3:backTo pos (starEach [e] X.env)=(false,eval e X.env)::backTo pos (starEach [] X.env):=by rfl):
 PE X (.Call (.Name "sorted" p) [e] [{some "key",.Lambda J (On kx px p1 p2 p3 p4 p5 x1) eW U,vc}] pos) (WE P q ik te):=by
 intro a0 s σ H Q I h;refine wpAny_Call_Name_kw<|bH I hg hm (by decide +kernel:bootBuiltins "sorted"=some (.builtin "sorted")) ?_ (by decide) (by decide);refine PyProof.Rows.callWith_kw ?_ h3 h2;rw[h3];refine At<|w9 (he a0 s σ H _ I h) λv s1 ⟨x,H1,g,rx,l,kk,n,rks,ev,hl,hs,hk,hn,hz,T,qq⟩=>?_;refine Ev ?_;subst ev;cases (show v=Value.ref l from rx);show wpAny _ _ (evalAll ((do let v <-eval (.Lambda J (On kx px p1 p2 p3 p4 p5 x1) eW U) X.env;standAt pos;pure v)::[])) _ _ s1;refine wpAny_evalAll_cons<|Aa ?_;obtain⟨cell,a2,ac⟩:=au;obtain⟨c,bj,aL,lc,hC⟩:=C.ex;obtain⟨bm,ob,b1,b2,b3,b4,b5,b6,b7⟩:=C.bm;obtain⟨a5,tP,tok,a3⟩:=T;have ba:s1.heap.Ns mainGlobals X.mg:=g.ok.mod.glob.keeps g.bk;have bb:s1.heap.get? P=some (PySem.W.tabObj a5):=g.KB P _ tP;have bc:PySem.W.CodeHd s1.heap c P:=hC _<|g._w c bj lc;have a1:∀b o,X.base.get? b=some o->b≠P:=λb o e z=>by have:=(g.bs b o e).2;rw[z,tP] at this;cases this
 have ag:=g.ok.mod.kin bm ob b4;have hB:s1.heap.BuiltinsAt X.mg P:={bm,ob,Bv g.ok.mod.kin g.ok.mod.glob b1,b2,b3,a1 _ _ ag,(g.bs _ _ ag).1,b5,b6,b7};have bn:mainGlobals≠P:=by obtain⟨o,es,ep,e,hd,_⟩:=g.ok.mod.glob;exact a1 _ _ e
 have a4:s1.heap.IsCell cell (some<|.ref kk):=by
  obtain⟨m,_,c0⟩:=g.loc;obtain⟨u,ru,lk⟩:=c0 ik kx _ bi hs<|.inr<|.inl al;cases (show u=Value.ref kk from ru);rcases lk with⟨k1,_⟩|⟨_,c2,e2,c1⟩
  .have k1:X.env.scope.names.lookup kx=some .local:=k1;rw[al] at k1;cases k1
  .rw[a2] at e2;cases e2;exact c1
 refine PySem.W.kla_eval av ?_;rw[hq];have jd:∀(s2:aal) (H2:Hp) (f j:Addr) (r pm:aak),z0 X a0 σ H2 s2->s2.heap.get? f=some (PySem.W.kla_obj "<lambda>" q J (On kx px p1 p2 p3 p4 p5 x1) eW [(kx,cell)] pm j r)->s2.heap.CodeRec (.ref j) q->s2.heap.IsCell cell (some<|.ref kk)->
  (∀b u,b≠P->H1 b=some u->H2 b=some u)->uK H2 P q->(∀b,H2 b=none->H1 b=none)->
  _S X (do standAt pos;pure (Value.ref f)) (λv s'=>_S X (evalAll []) (λvs c3=>_S X (call (.builtin "sorted") [.ref l]<|[Str.ofString "key"].zip<|v::vs) (EP X a0 σ Q) X.xe c3) X.xe s') X.xe s2:=by
  intro s2 H2 f j r pm I2 g1 g2 g3 g4 g5 g6;refine Aa<|wpAny_standAt<|Am<|wpAny_evalAll_nil ?_;have lP:l≠P:=λz=>by rw[z,tP] at hl;cases hl
  have kP:kk≠P:=λz=>by rw[z,tP] at hk;cases hk
  refine WF (n:=n) (rks:=rks) I2 S hr g1 g2 g3 (λv=>hb _ _ _ _ _ _ v) (g4 _ _ lP hl) (g4 _ _ kP hk) hn hz λD qs hD c4 pw=>?_;have bd:D≠P:=λz=>by obtain⟨c8,e2,_⟩:=g5;rw[z,e2] at hD;cases hD
  refine qq _ D qs (λb u n e=>?_) ?_ (g6 D hD) bd zm c4 pw
  .rw[qp<|zu (g4 b u n e) hD];exact g4 b u n e
  .exact g5.keep (qp<|AL bd) λb o u e=>by rw[qp<|zu e hD];exact e
 cases hf:codeAmong U a5.toList with
 |some cv=>
  obtain⟨j,oc,vs,t,c5,f1,f2,f3⟩:=a3 U cv hf;subst c5;refine j6 g.tk<|PySem.W.kla_makeFunctionHit (mg:=X.mg) ac g.ok.glob ba aL bc bb tok hf hB λr h' tk be c9 ht=>?_;have I2:z0 X a0 σ H1 {s1 with heap:=h'.push {cls:=.type "function",data:=.func (PySem.W.kla_fn "<lambda>" q J (On kx px p1 p2 p3 p4 p5 x1) eW [(kx,cell)] ((X.mg "__name__").getD .none) (.ref j) r)},toks:=tk}:=g.kept (t':=tk) λb o e=>wl _<|be b o e;obtain⟨ab,_⟩:=I2.KB j _ f1;refine jd _ H1 _ j r _ I2 (ya _ rfl) {(j),oc,vs,t,rfl,ab,f2,f3} ?_ (λb u _ e=>e) {(a5),tP,tok,a3} λb e=>e;obtain⟨o,e1,e2⟩:=a4;exact{o,wl _<|be _ _ e1,e2}
 |none=>
  refine j6 g.tk<|PySem.W.kla_makeFunction (mg:=X.mg) ac g.ok.glob ba aL bc bb tok hf bn hB λj r h' tk hx bf ca bg c6 ht=>?_;obtain⟨c2,oc,vs,t,e2,ab,f2,f3⟩:=bg;cases e2;have I2:=g.tabbed (fo:=PySem.W.kla_obj "<lambda>" q J (On kx px p1 p2 p3 p4 p5 x1) eW [(kx,cell)] ((X.mg "__name__").getD .none) j r) tP hx c6 bf ab ht;have nc:H1 j=none:=g.KB.fresh bf;have cP:j≠P:=λz=>by rw[z,tP] at nc;cases nc
  refine jd _ _ _ j r _ I2 (ya _ rfl) {j,oc,vs,t,rfl,wl _ ab,f2,f3} ?_ (λb u n e=>?_) ?_ λb e=>?_
  .obtain⟨o,e1,e2⟩:=a4;have nP:cell≠P:=λz=>by have:=g.SB kx cell a2;rw[z,tP] at this;cases this
   exact{o,wl _<|hx _ _ nP e1,e2}
  .rw[qp<|zu e nc,qp n];exact e
  .refine{a5++#[rawInt U.line,rawInt U.col,.ref j],by rw[qp<|AL cP,zm],?_,λbh cv z=>?_}
   .rw[A9];exact uG _ tok
   .rw[A9] at z;rcases zN _ tok z with z|z
    .obtain⟨d',od,c7,t',k1,k2,k3⟩:=a3 bh cv z;have nP:d'≠P:=λz=>by rw[z,tP] at k2;cases k2
     exact{d',od,c7,t',k1,by rw[qp<|zu k2 nc,qp nP];exact k2,k3}
    .exact{(j),oc,vs,t,z,zm,f2,f3}
  .by_cases d:b=j
   .subst d;exact nc
   .rw[qp d] at e;by_cases d2:b=P
    .subst d2;rw[zm] at e;cases e
    .rw[qp d2] at e;exact e
def Lh(Pt:Addr)(q:Str)(U:Nat)(te:ji)(τ:j5)(L:qh)(Q:YK):Prop:=te τ L λy L1=>match y with
 |.ref l=>dG L1 l λys=>∃(n:Nat) (rks:aaf) (J:Addr),ys=ah 0 n/\yY τ U=some (.ref J)/\L1 J=some (.lst<|rks.map Y.int)/\rks.length=n/\n<=127/\L1 Pt=some (.tb q)/\
  ∀(D:Addr) (I:aab),L1 D=none->I.Perm (List.range n)->(I.Pairwise λi j=>rks.getD i 0*1000000+(i:Int)<=rks.getD j 0*1000000+(j:Int))->Q (.ref D) (qg L1 D<|.lst (I.map λi:Nat=>Y.int (i:Int)))
 |_=>False
theorem sK{G:G3}{H:Hp}:∀{l:aab} {xs:GT},jw G H (l.map λi:Nat=>Y.int<|0+(i:Int)) xs->xs=l.map λi:Nat=>V.int<|0+(i:Int)
 |[],_,h=>h
 |_::_,_,⟨x,I,e,r,s⟩=>by subst e;cases r;rw[sK s];rfl
theorem iV{G:G3}{H:Hp}:∀{l:aaf} {xs:GT},jw G H (l.map Y.int) xs->xs=l.map V.int
 |[],_,h=>h
 |_::_,_,⟨x,I,e,r,s⟩=>by subst e;cases r;rw[iV s];rfl
theorem wO{G:G3}{H:Hp}:∀I:aab,jw G H (I.map λi:Nat=>Y.int (i:Int)) (I.map λi:Nat=>V.int (i:Int))
 |[]=>rfl
 |_::r=>{_,_,rfl,rfl,wO r}
def WH{I:Arguments}{U:Pos}{r:Nat}(hg:Gl X "sorted")(hm:X.mg "sorted"=none)(he:QE X e te)(S:_G eW kx px)(C:Fn X.K X.env.code Pt)(hr:X.A.depth+3<recursionLimit)
 (hq:X.env.qual ++ "<lambda>" = q) (t:X.N[r]?=some kx) (a0:X.env.scope.names.lookup kx=some .cell) (g:∃cell,X.env.cells.lookup kx=some cell/\closureFor eW X.env=pure [(kx,cell)])
 (j:defaultsOf I X.env=([],[])) (hb:∀(name ee:Str) (cl:List<|Str×Addr) (pm cd ct v:aak),bindArgs (PySem.W.kla_fn name ee I (On kx px p1 p2 p3 p4 p5 x1) eW cl pm cd ct) ⟨[v],[]⟩=pure [(px,v)])
 (h1:starEach [e] X.env=(false,eval e X.env)::starEach [] X.env:=by rfl) (h2:(backTo pos<|starEach [e] X.env).any (·.1)=false:=by rfl)
 (h3:backTo pos (starEach [e] X.env)=(false,eval e X.env)::backTo pos (starEach [] X.env):=by rfl):
 QE X (.Call (.Name "sorted" p) [e] [{some "key",.Lambda I (On kx px p1 p2 p3 p4 p5 x1) eW U,vc}] pos) (Lh Pt q r te):=
 EI (WG hg hm he S C hr hq t a0 g j hb h1 h2 h3) λσ H Q τ L Q3 rs rl z k=>by
  refine{τ,L,_,rs,rl,z,λv H1 y L1 t1 J rv z=>?_};cases y with
  |ref l=>
   obtain⟨ys,e1,n,a1,kk,rfl,e2,e3,hn,hz,eP,qq⟩:=x9 z;cases rv;obtain⟨xs,h1,r1⟩:=J l _ e1;obtain⟨xk,h2,r2⟩:=J kk _ e3;have T:uK H1 Pt q:=J Pt _ eP;cases sK r1;cases iV r2;obtain⟨v,hv,rv⟩:=rs.get r _<|mY _ _ e2;cases rv;refine{l,kk,n,a1,rfl,h1,hv,h2,hn,hz,T,λH2 D qs kp T2 hD a3 a2 pm pw=>?_};have tb:∃o,H1 Pt=some (.tbl o):=let ⟨o,e,_⟩:=T;⟨o,e⟩;have t2:zp H1 H2:=λa u i h=>kp a u (λc=>by obtain⟨o,e⟩:=tb;rw[c,e] at h;cases h;cases i) h
   refine k _ _ _ _ (t1.trans t2) (λa u e=>?_) (by rfl)<|qq D qs (J.none hD) pm pw;by_cases c:a=D
   .subst c;rw[q9] at e;cases e;exact{_,a2,wO qs}
   .rw[qb c] at e;by_cases d:a=Pt
    .subst d;rw[eP] at e;cases e;exact T2
    .obtain⟨x,hx⟩:=(J a u e).ex;exact(J a u e).keep t2 (by rw[hx];exact kp a x d hx)
  |_=>exact z.elim
structure HM(K:Af)(x ee:Str)(st:Stmt)(f:Addr)(fd:FuncData)(Pt:Addr):Prop where
 ex:∃(oc:aak) (od:Option Addr) (kV fx pm:aak) (an:Option Addr) (eK ct:aak) (oi:Array<|aag),
  fd=PySem.W.fnOf x ee (xo st) (jl st) (za st) .none kV fx pm an eK ct/\K.lookup f=some ⟨oc,od,.func fd,oi⟩/\PySem.W.codeIn K eK ee=true/\Fn K eK Pt
 kp:PySem.W.keepIn K (.ref f)=true
def WI{P:aam}{w:aan}{K:Af}{N:aac}{k:Nat}(F:HM K x ee st f fd Pt)(S:am N ps<|za st)(len:∀ys L Q,sp ys L Q->ys.length=ps.length)
 (I:∀(eK:aak) (A:Around) (outer:List Env) (s:aal) (H:Hp) (E:XK),Fn K eK Pt->wf k (A.deeper<|PyProof.Rows.envOfC ee (za st) s.heap.objs.size f eK)->
  ∃t,b_ (qN CX0 P w K mg base N ee (za st) f eK A outer s H E).nox (jl st) t/\∀ys L Q,sp ys L Q->t {nx:=λ_ L'=>dH Q .KF L',rt:=dH Q} (jW N ys) L):Fn3 P w K mg base (k+1) f fd ps sp:=by
 obtain⟨oc,od,kV,g,pm,an,eK,ct,j,rfl,lk,U,C⟩:=F.ex;have F0:Fun K x ee st f _:={{(oc),od,kV,g,pm,an,eK,ct,j,rfl,lk,U},F.kp};refine IT lk U S (λvs H Q E ⟨ys,L,l,o,rl,z,_⟩=>by rw[<-o.length];exact len ys L l z) λA outer s H vs Q E hr ⟨ys,L,l,o,rl,z,k⟩=>?_;obtain⟨t,ht,q⟩:=I eK A outer s H E C hr;refine{_,mR.nox ht,jW N ys,L,_,qY o,rl,q ys L l z,?_};exact{λσ p τ L' r a1 J ⟨L2,T,q2⟩=>k .KF p .KF L2 r (J.sub T) (by rfl) q2,λv p y L' r J a0 ⟨L2,T,q2⟩=>k v p y L2 r (J.sub T) a0 q2,λ_ _ _ _ _ _ _ z=>z.elim,λ_ _ _ _ _ _ _ z=>z.elim}
inductive my(Pt:Addr)(q:Str)(ys:_T)(L:qh)(Q:YK):Prop
 |mk:∀ns:aaf,(ys=[.sq<|ns.map Y.int])->(ns.length<=63)->(L=qg (λ_=>none) Pt (.tb q))->(∀L',Q (.bl true) L')->my Pt q ys L Q
def _R(q:Str)(K:Af)(Pt:Addr):Sp:=λvs H Q _=>∃(a:Addr) (ns:aaf),vs=[.ref a]/\SqF K H a (ns.map V.int)/\ns.length<=63/\H Pt=some (.tbl #[])/\∀H',Q (.bl true) H'
def WJ{Q:VK}{E:XK}(h:_R q G.K Pt vs H Q E):dn G (my Pt q) vs H Q E:=by
 obtain⟨a,I,rfl,J,U,g,z⟩:=h;refine{[.sq<|I.map Y.int],qg (λ_=>none) Pt<|.tb q,λy _=>y=.bl true,jw.one {a,_,rfl,J,wT I},(λb u e=>?_),{I,rfl,U,rfl,λ_=>rfl},?_}
 .by_cases c:b=Pt
  .subst c;rw[q9] at e;cases e;exact{#[],g,trivial,λpos o z=>by cases z}
  .rw[qb c] at e;cases e
 .rintro v j y p _ _ l rfl;cases l;exact z j
def GM(Pt:Addr):Af->Af
 |[]=>[]
 |(a,o)::r=>if a==Pt then GM Pt r else(a,o)::GM Pt r
theorem xa{Pt a:Addr}(h:a≠Pt):∀K:Af,(GM Pt K).lookup a=K.lookup a
 |[]=>rfl
 |(b,o)::r=>by
  unfold GM;by_cases c:(b==Pt)=true
  .rw[AC c,xa h r,Bg];have:(a==b)=false:=by have I:=eq_of_beq c;subst I;exact Ei h
   rw[this]
  .rw[Az c,Bg,Bg,xa h r]
theorem ww{Pt:Addr}:∀K:Af,(GM Pt K).lookup Pt=none
 |[]=>rfl
 |(b,o)::r=>by
  unfold GM;by_cases c:(b==Pt)=true
  .rw[AC c];exact ww r
  .rw[Az c,Bg];have:(Pt==b)=false:=by cases d:Pt==b with|false=>rfl|true=>exact absurd (beq_iff_eq.mpr (eq_of_beq d).symm) c
   rw[this];exact ww r
def oR{a:Addr}{K:Af}{o:Obj}(e:(GM Pt K).lookup a=some o):a≠Pt/\K.lookup a=some o:=by
 by_cases c:a=Pt
 .subst c;rw[ww] at e;cases e
 .rw[xa c] at e;exact{(c),e}
def lessK_in{K:Af}(X:K.In h):(GM Pt K).In h:=λa o e=>X a o (oR e).2
structure Li(K:Af)(Pt:Addr):Prop where
 tab:K.lookup Pt=some (PySem.W.tabObj #[])
 hd:∃c,∀h:aao,K.In h->PySem.W.CodeHd h c Pt
 st:Pt≠cStatics
section
variable {K:Af}(T:K.lookup Pt=some (PySem.W.tabObj #[]))
include T
def Pv{a:Addr}{r:Option<|aag}(e:PySem.W.nsIn K a x=r):PySem.W.nsIn (GM Pt K) a x=r:=by
 rw[<-e];unfold PySem.W.nsIn;by_cases c:a=Pt
 .subst c;rw[ww,T]
 .rw[xa c]
def _a{a:Addr}{o:Obj}(e:K.lookup a=some o)(n:o.cls≠.none):(GM Pt K).lookup a=some o:=by
 rw[xa ?_]
 .exact e
 .rintro rfl;rw[T] at e;cases e;exact n rfl
def code_dn{cd:aak}(e:PySem.W.codeIn K cd q=true):PySem.W.codeIn (GM Pt K) cd q=true:=by
 unfold PySem.W.codeIn at e ⊢;split at e
 .rename_i c;by_cases d:c=Pt
  .subst d;rw[T] at e;simp at e
  .rw[xa d];exact e
 .cases e
def WK{v:aak}:PySem.W.ownIn (GM Pt K) x v=PySem.W.ownIn K x v:=by
 unfold PySem.W.ownIn;split
 .rfl
 .rename_i a;by_cases d:a=Pt
  .subst d;rw[ww,T]
  .rw[xa d];split
   .exact Pv T rfl
   .rfl
 .rfl
theorem wP{x:Str}:∀l:Z_,PySem.W.alongIn (GM Pt K) x l=PySem.W.alongIn K x l
 |[]=>rfl
 |c::r=>by unfold PySem.W.alongIn;rw[WK T,wP r]
def SL{v:aak}:PySem.W.findIn (GM Pt K) v x=PySem.W.findIn K v x:=by
 unfold PySem.W.findIn;split
 .rfl
 .rename_i a;by_cases d:a=Pt
  .subst d;rw[ww,T]
  .rw[xa d];split
   .exact wP T _
   .rfl
 .rfl
def nO{a:Addr}(n:a≠Pt):PySem.W.specialIn (GM Pt K) (.ref a) x=PySem.W.specialIn K (.ref a) x:=by unfold PySem.W.specialIn PySem.W.typeIn;dsimp only;rw[xa n];congr 1;funext t;exact SL T
def _E{f:aak}(e:PySem.W.keepIn K f=true):PySem.W.keepIn (GM Pt K) f=true:=by
 unfold PySem.W.keepIn at e ⊢;split at e
 .rename_i a;by_cases d:a=Pt
  .subst d;rw[T] at e;simp at e
  .rw[xa d,nO T d];exact e
 .cases e
end
def WL{P:aam}{w:aan}{K:Af}{mb:Z7}{CX:d_}{k:Nat}{a:Addr}{sp:Sp}{I:aal}{vs:Z_}{ns:aaf}
 (KX:K.In I.heap) (TI:Li K Pt) (T:I.heap.Ns mainGlobals mg) (hb:I.heap.Ns builtinsNs mb) (ab:∀x:Str,x ≠ "__name__" -> mb x=bootBuiltins x) (a0:I.heap.NoLimit) (hg:I.gens=#[]) (ac:0<I.toks)
 (p:I.heap.get? a=some {cls:=.type "list",data:=.seq vs.toArray}) (hi:IntsAre vs ns) (hl:ns.length<=sizeLine) (hr:wf k callerA)
 (F:∀base:aao,(GM Pt K).In base->base.Ns mainGlobals mg->bE P w (GM Pt K) mg base CX k fa fd [x] sp) (l:∀(s:aal) (u:aak),BindsTo s fd ⟨[u],[]⟩ [(x,u)])
 (ag:∀H:Hp,H Pt=some (.tbl #[])->(H a=none\/∃o xs,H a=some (._F o<|.lst xs))->aV (GM Pt K) H a (ns.map V.int)->sp [.ref a] H (λv _=>v=.bl true) λ_ _ _=>False)
 (al:∀H e s',CX [] H I (λ_ _ _=>False) e s'->False):
 codeAny (model P w) callerA (.call (.ref fa) ⟨[.ref a],[]⟩) (λr s'=>r=.ok (.ret<|.bool true)/\OldK I.heap s'.heap/\s'.os=I.os/\AllBare s'.gens) I:=by
 have rv:=sO hi;have a1:=hi.length;have hP:I.heap.get? Pt=some (PySem.W.tabObj #[]):=KX Pt _ TI.tab;have U:a≠Pt:=λz=>by rw[z,hP] at p;cases p
 have core:∀H:Hp,H Pt=some (.tbl #[])->(∀b,b≠a->b≠Pt->H b=none)->(H a=none\/∃o xs,H a=some (._F o<|.lst xs))->aV (GM Pt K) H a (ns.map V.int)->(∀u,H a=some u->xl P w H I.heap a u)->(H a≠none->K.lookup a=none)->
  codeAny (model P w) callerA (.call (.ref fa) ⟨[.ref a],[]⟩) (λr s'=>r=.ok (.ret<|.bool true)/\OldK I.heap s'.heap/\s'.os=I.os/\AllBare s'.gens) I:=by
  intro H HP Hn HO HS a2 au;have a3:gG P w H I.heap:=λb u e=>by
   by_cases c:b=a
   .subst c;exact a2 u e
   .by_cases d:b=Pt
    .subst d;rw[HP] at e;cases e;exact hP
    .rw[Hn b c d] at e;cases e
  have J:∀{b:Addr} {o:Obj},I.heap.get? b=some o->H b=none->(uE I.heap H).get? b=some o:=λe n=>Pb e n;have av:∀{b:Addr} {o:Obj} {t:Array DictEntry} {C:Nat},I.heap.get? b=some o->o.data=.dict t C->H b=none:=λ{b o t C} e d=>by
   refine Hn b (λz=>?_) λz=>?_
   .subst z;rw[p] at e;cases e;have d':Data.seq vs.toArray _=Data.dict t C:=d;cases d'
   .subst z;rw[hP] at e;cases e;have d':Data.fields _=Data.dict t C:=d;cases d'
  have g:∀{b:Addr} {m:Z7},I.heap.Ns b m->(uE I.heap H).Ns b m:=λ{b m} ⟨o,t,C,e,d,r⟩=>{o,t,C,J e<|av e d,d,r};have a4:(GM Pt K).In (uE I.heap H):=λb o e=>by
   obtain⟨n,e⟩:=oR e;refine J (KX b o e) ?_;by_cases c:b=a
   .subst c;cases q:H b with|none=>rfl|some u=>rw[au (by rw[q];simp)] at e;cases e
   .exact Hn b c n
  have hM:Mod (GM Pt K) mg (uE I.heap H):={a4,g T,{mb,g hb,ab},let ⟨mc,h1,h2⟩:=a0;⟨mc,g h1,h2⟩};have e0:zJ P w (GM Pt K) mg (uE I.heap H) callerA [] I H:={rfl,hM,λb o e=>Pd e,DC<|Pa _ _,trivial,λb hb=>absurd (show b∈([]:List Addr) from hb) (by simp),a3,.of_eq hg,ac};refine codeAny_mono ((F _ a4<|g T).run callerA [] I H {[.ref a],[]} [.ref a] [.ref a] _ _ hr e0 (l I<|.ref a) (.cons rfl .nil)<|ag H HP HO HS) λr s' h=>?_;cases r with
  |error e=>exact(al H e s' h).elim
  |ok fl=>
   cases fl with
   |next=>exact False.elim h
   |brk=>exact False.elim h
   |cont=>exact False.elim h
   |ret u=>
    obtain⟨v,H',os,bare,un,j,r',q,_⟩:=h;have q':v=.bl true:=q;subst q';obtain rfl:u=Value.bool true:=r';obtain⟨more,em⟩:=un._J Pt _ HP;have gP:s'.heap.get? Pt=some (PySem.W.tabObj<|#[]++more):=j Pt _ em;have kp:∀b o,b≠Pt->I.heap.get? b=some o->s'.heap.get? b=some o:=λb o n e=>by
     have a5:H b=none->s'.heap.get? b=some o:=λz=>un.keep b o e z (by intro z;exact absurd (show b∈([]:List Addr) from z) (by simp)) (by simp);by_cases c:b=a
     .subst c;rcases HO with z|⟨ob,xs,z⟩
      .exact a5 z
      .have z2:=un._I _ _ _ z;obtain⟨e1,_⟩:=a3 _ _ z;obtain⟨e2,_⟩:=j _ _ z2;rw[e] at e1;cases e1;exact e2
     .exact a5<|Hn b c n
    obtain⟨c,hc⟩:=TI.hd;refine{rfl,{λb o e=>?_,λb o e=>?_},os,bare}
    .by_cases n:b=Pt
     .subst n;rw[hP] at e;cases e;exact .inr<|.inl {((hc _ KX).tab hP).isCodeTable,rfl,#[],more,rfl,gP}
     .exact .inl<|kp b o n e
    .by_cases n:b=Pt
     .subst n;exact{_,gP}
     .exact{o,kp b o n e}
 cases hk:K.lookup a with
 |some o=>
  have e:=KX a o hk;rw[p] at e;cases e;refine core (λb=>if b=Pt then some (.tbl #[]) else none) (AC rfl) (λb _ n=>Az n) (.inl<|Az U) (.inr {_,vs.toArray,_,(xa U K).trans hk,rfl,rfl,rfl,by rw[Au,a1];exact hl,by simpa using rv}) (λu z=>by have z':=(Az U).symm.trans z;cases z') λz=>absurd (Az U) z
 |none=>
  refine core (λb=>if b=a then some (._F {cls:=.type "list",data:=.seq vs.toArray}<|.lst<|ns.map V.int) else if b=Pt then some (.tbl #[]) else none) ((Az<|AL U).trans<|AC rfl) (λb n1 n2=>(Az n1).trans<|Az n2) (.inr {_,_,AC rfl}) (.inl<|.inr {_,AC rfl}) (λu z=>?_) λ_=>hk;have z':=(AC rfl).symm.trans z;cases z';exact{p,by rw[Ac];exact hl,vs,_,rv,p}
def walk_ofZT{l:PySem.W.OpenLaw}{n k:Nat}{q:aam}{loose:aac}{XP:(Z7)->aao->Prop}{as0:List Addr}{N t:Nat}{d:DefRec}{K:Params->Af}{CX:d_}{sp:Af->Addr->Sp}
 (hn:l.most=some n) (p:n<=sizeLine) (r:d.params.defaults=[]) (hr:wf k callerA) (ek:∀P,as0=(K P).map (·.1)) (C:0<t)
 (F:∀(w:aan) (mg:Z7) (fa:Addr) (h:aao),(K w.params).In h->h.Ns mainGlobals mg->mg d.name=some (.ref fa)->
  ∃Pt:Addr,Li (K w.params) Pt/\∃fd:FuncData,(∀(s:aal) (u:aak),BindsTo s fd ⟨[u],[]⟩ [(x,u)])/\
   ∀base:aao,(GM Pt<|K w.params).In base->base.Ns mainGlobals mg->bE l.prog w (GM Pt<|K w.params) mg base CX k fa fd [x] (sp (GM Pt<|K w.params) Pt))
 (a0:∀(K:Af) (Pt:Addr) (H:Hp) (a:Addr) (ns:aaf),ns.length<=n->H Pt=some (.tbl #[])->(H a=none\/∃o xs,H a=some (._F o<|.lst xs))->aV K H a (ns.map V.int)->sp K Pt [.ref a] H (λv _=>v=.bl true) λ_ _ _=>False)
 (a1:∀(H:Hp) (s:aal) (e:aak) (s':aal),CX [] H s (λ_ _ _=>False) e s'->False):
 PySem.W.WalkX q loose XP (PySem.W.X.obsZ as0) (PySem.W.X.valZ K N t) l.row.toRowW d [] (λf vs=>PySem.call f vs):=by
 refine attach_callZ hn r ek C λw a3 U mg mb fa o pm cd a4 a vs ns G KX tk ho hd a5 a2 j J I hg=>?_;obtain⟨Pt,TI,fd,hb,hF⟩:=F w mg fa _ KX G.T.g a2;exact WL KX TI G.T.g G.T.b G.T.builtins G.T.nolimit hg tk j J (AF I p) hr hF hb (λH hP hO hS=>a0 _ Pt H a ns I hP hO hS) λH e s'=>a1 H U e s'
def top_startT :∀(K:Af) (Pt:Addr) (H:Hp) (a:Addr) (ns:aaf),ns.length<=63->H Pt=some (.tbl #[])->(H a=none\/∃o xs,H a=some (._F o<|.lst xs))->aV K H a (ns.map V.int)->_R q K Pt [.ref a] H (λv _=>v=.bl true) λ_ _ _=>False:=by
 intro K Pt H a ns I J U g;refine{a,ns,rfl,?_,I,J,λ_=>rfl};rcases g with(h|⟨o,h⟩)|h
 .rcases U with z|⟨o,xs,z⟩<;>rw[h] at z<;>cases z
 .exact .inl {(o),h}
 .exact .inr h
structure _n(K:Af)(x:Str)(st:Stmt)(Pt:Addr):Prop where
 ex:∃(f:Addr) (kV fx pm:aak) (an:Option Addr) (eK ct:aak),PySem.W.nsIn K mainGlobals x=some (some<|.ref f)/\HM K x x st f (PySem.W.fnOf x x (xo st) (jl st) (za st) .none kV fx pm an eK ct) Pt
def _n.use{K:Af}(D:_n K x st Pt)(X:K.In h)(G:h.Ns mainGlobals mg)
 (I:∀(kV fx pm:aak) (an:Option Addr) (eK ct:aak) (us:Z_),us.length=ps.length->bindArgs (PySem.W.fnOf x x (xo st) (jl st) (za st) .none kV fx pm an eK ct) ⟨us,[]⟩=pure (ps.zip us)):
 ∃f fd,HM K x x st f fd Pt/\aI K fd ps []/\mg x=some (.ref f):=by
 obtain⟨f,kV,fx,pm,an,eK,ct,a,F⟩:=D.ex;exact{f,_,F,.all<|I kV fx pm an eK ct,Bv X G a}
section
variable {gS:St}
end
def WM:bootBuiltins "min"=some (.builtin "min"):=by decide +kernel
def WN(x:Y)(lo hi:aah)(L:qh)(Q:YK):Prop:=match x with
 |.tup ys=>¬(KM ys.length 0 lo=0/\KM ys.length ys.length hi=ys.length)/\Q (.tup<|gR ys lo hi) L
 |_=>False
def rN(K:Af)(P:aam)(w:aan)(U:X.K=K:=by rfl)(g:X.prog=P:=by rfl)(hw:X.w=w:=by rfl):u4 X (Gd ⟨K,P,w⟩ WN):=by
 subst U g hw;refine u4.imp RG λx lo J H Q ⟨y,L,Q3,j,l,z,k⟩=>?_;cases y with
 |tup o=>
  obtain⟨a,t,e,sq,r⟩:=j;obtain⟨C,T⟩:=z;exact{a,t,e,sq,by rw[<-r.length];exact C,λp I=>k _ _ (.tup<|gR o lo J) L (EG I) (l.skip I) {p,_,rfl,.inl<|.inl zm,(tD r lo J).ts<|EG I} T}
 |_=>exact z.elim
def y9{a:Addr}{keep:qh->Prop}(h:∀H L,zp H₀ H->zw G H L->keep L->∃xs,db G.K H a xs/\jw G H ys xs):dw G H₀ (GQ G.K a) ys keep where
 go:=λi H L t I J U=>by
  obtain⟨xs,sq,r⟩:=h H L t I J;have:i<xs.length:=by rw[<-r.length];exact U
  exact{xs,xs[i],sq,Ah this}
 yld:=λi H L x o y t I J g ⟨e,f⟩=>by subst e;obtain⟨xs,sq,r⟩:=h _ L t I J;obtain⟨p,j,l⟩:=r.get g;have:=f xs sq;rw[j] at this;cases this;exact{EF _,I,l}
 stop:=λH L t I J=>by obtain⟨xs,sq,r⟩:=h H L t I J;exact{xs,sq,by rw[r.length];exact Aj _}
def yg(h:QE X e te):QI X tg e (SQ te):=PI._c (Qf h) λσ H R j L R3 l o z k=>by
 refine{j,L,_,l,o,z,λv p y C T I J U=>?_};cases y with
 |tup ys=>
  obtain⟨a,g,e,sq,r⟩:=J;exact{a,e,{(g),sq},k _ p ys (λ_=>True) C T I (y9 λH L t _ _=>{g,db.ts sq t,r.ts t}) U}
 |_=>exact U.elim
def WO{k:Nat}(I:wf k A):A.depth+3<recursionLimit:=by have:=I.dp;omega
abbrev lamQ:Str:="_law_order.<locals>.<lambda>"
def x_(ks:List<|HT):Prop:=∀(p:Nat) (e:Bool) (i j:Nat),ks[p]?=some (some<|.nd e i j)->i<p/\j<p
def aco(ks:List<|HT)(rks:aaf):Prop:=∀(p:Nat) (e:Bool) (i j:Nat),p<rks.length->ks[p]?=some (some<|.nd e i j)->rks.getD i 0<rks.getD p 0/\rks.getD j 0<rks.getD p 0
def pU{r:Int}(h:i<rks.length):(rks++[r]).getD i 0=rks.getD i 0:=by rw[Bp,Bp,AH h]
def WP{r:Int}:(rks++[r]).getD rks.length 0=r:=by rw[Bp,AK<|Aj _,CO];rfl
def aco.snoc{ks:List<|HT}{r:Int}{k:HT}(ok:x_ ks)(h:aco ks rks)(U:ks[rks.length]?=some k)(g:∀e i j,k=some (.nd e i j)->rks.getD i 0<r/\rks.getD j 0<r):aco ks (rks++[r]):=by
 intro p e i j I J;obtain⟨l,o⟩:=ok p e i j J;rw[Ab] at I;have I:p<rks.length+1:=I;rw[pU (show i<rks.length by lia),pU (show j<rks.length by lia)];by_cases c:p<rks.length
 .rw[pU c];exact h p e i j c J
 .have:p=rks.length:=by lia
  subst this;rw[WP];exact g e i j<|A1<|U.symm.trans J
def cx(ks:List<|HT)(I:aab):Prop:=I.Pairwise λx y=>∀e i j,ks[x]?=some (some<|.nd e i j)->y≠i/\y≠j
def WQ{ks:List<|HT}{I:aab}(ok:x_ ks)(h:aco ks rks)(J:rks.length=ks.length)(hw:I.Pairwise λi j=>rks.getD i 0*1000000+(i:Int)<=rks.getD j 0*1000000+(j:Int)):cx ks I:=by refine hw.imp λ{x y} z e i j ex=>?_;obtain⟨U,g⟩:=ok x e i j ex;obtain⟨l,o⟩:=h x e i j (by rw[J];exact xx ex) ex;exact{λc=>by subst c;lia,λc=>by subst c;lia}
def xG(h:i<rks.length):(rks.map Y.int)[i]?=some (.int<|rks.getD i 0):=by rw[Al,Bp,Ah h];rfl
def vQ:RD "_law_name" lO 0 ["_law_seed","_law_which","_law_letters","_law_size","_law_place","_law_base","_law_sign"] (λ_=>True):={_,λV B c _ _ _ _ _ _ _ J hN I=>(qa (bq (i:=2) hN rfl (Or.inr rfl) qo)<|qa (S_ 3 hN<|qk zj qe<|qk jn (qv 0) qe)<|qa (S_ 4 hN<|qk jn (qk vm (qv 0) qe)<|qv 3)<|qa (S_ 5 hN<|iW qo<|zn<|a6 ["_law_k"] (EL (by rfl)) rfl (aS rfl B.bf<|zn qe) (dX 7) (λ_ _ _ _=>aM) λ_ _ _ _=>(I_ (qv 2)<|qk jn (qk zj (qk vm (qv 0) qe)<|qk kR qe<|qv 7) qe))<|qa (zf (E_ I (qk jn (qk vm (qv 0) qe) qe) qe) (qd<|ql<|jq (fI _ _ _) (qv 5) kc<|jr<|qk zj qe<|qk jn (qk zj (qv 1)<|qv 0) qe) qx)<|qa (S_ 6 hN<|I_ (qv 2)<|qk jn (qk zj (qk zj (qk vm (qv 0) qe)<|qk kR qe<|qv 4)<|qv 1) qe)<|qd<|ql<|qk zj (qk zj (jq (fI _ _ _) (qv 5) kc<|jr<|qv 4)<|qv 6)<|jq (fI _ _ _) (qv 5) (jr<|qk zj (qv 4) qe)<|jr<|qv 3)}
def eE(i:Int):Nat:=97+(i % 26).toNat
def zZ(i:Int):fS ("abcdefghijklmnopqrstuvwxyz" : Str).cps.toList (i % 26)=some (eE i):=by
 obtain⟨n,I⟩:∃n:Nat,i % 26=n:={(i % 26).toNat,by lia};have h:n<26:=by lia
 unfold eE;rw[I];have key:∀n,n<26->("abcdefghijklmnopqrstuvwxyz" : Str).cps.toList[n]?=some (97+n):=by decide +kernel
 exact jk<|key n h
def Lj(i:Int):97<=eE i/\eE i<=122:=by unfold eE;lia
def dR(s:Int):aab:=(List.range 8).map λk:Nat=>eE<|s / 64+3*(k:Int)
def pS(s:Int):(dR s).length=8:=by unfold dR;simp
def pC(s:Int):∀c∈dR s,97<=c/\c<=122:=λc I=>by obtain⟨k,_,rfl⟩:=A2.mp I;exact Lj _
def sN(s:Int):Nat:=(s / 8 % (1+s % 8)).toNat
def szN(s:Int):Nat:=(1+s % 8).toNat
def Lk(s:Int):sN s<szN s/\szN s<=8/\s / 8 % (1+s % 8)=(sN s:Int)/\1+s % 8=(szN s:Int):=by
 have I:0<1+s % 8:=by lia
 have J:0<=s / 8 % (1+s % 8):=El _ (by lia);have U:s / 8 % (1+s % 8)<1+s % 8:=Int.emod_lt_of_pos _ I;unfold sN szN;lia
def a8(s w:Int):aab:=
 if s / 64 % 3=1 then(dR s).take (1+(w+s) % 3).toNat
 else((dR s).take (sN s)++[eE<|s / 64+3*(sN s:Int)+w])++((dR s).drop<|sN s+1).take (szN s-(sN s+1))
def wZ(s w:Int):aJ (jh<|a8 s w):=by
 have I:(jh<|a8 s w).length=(a8 s w).length:=by rw[<-len_list];show(a8 s w).toArray.toList.length=_;simp
 have J:(jh<|a8 s w).cps.toList=a8 s w:=by show(a8 s w).toArray.toList=_;simp
 have U:=pS s;obtain⟨g,j,_,_⟩:=Lk s;refine{?_,?_,?_}
 .rw[I];unfold a8;split
  .rw[AS];omega
  .rw[Ab,Ab];simp;simp +arith only
 .rw[I];unfold a8;split
  .rw[AS];omega
  .rw[Ab,Ab,AS,AS,BH];simp;lia
 .rw[J];intro c h;unfold a8 at h;split at h
  .exact pC s c<|BG h
  .rcases Ao.mp h with h|h
   .rcases Ao.mp h with h|h
    .exact pC s c<|BG h
    .rw[Ak.mp h];exact Lj _
   .exact pC s c<|CI<|BG h
inductive iL(ys:_T)(L:qh)(Q:YK):Prop
 |mk:∀s w:Int,(ys=[.int s,.int w])->(Q (.str<|jh<|a8 s w) L)->iL ys L Q
def WR{n:Nat}(h:m<=n)(h2:n<=x.length):(Txt.slice x (some (m:Int))<|some (n:Int)).cps.toList=(x.cps.toList.drop m).take (n-m):=by have e:=fg x (some (m:Int))<|some (n:Int);rw[SZ,SZ,BL h2,BL<|AF h h2] at e;exact e
def qZ{n:Nat}(h:n<=x.length):(Txt.slice x none<|some (n:Int)).cps.toList=x.cps.toList.take n:=by have e:=fg x none<|some (n:Int);rw[SZ,_d,C4,Ec,BL h] at e;exact e
def WS:_f iL vQ.1 7:=by
 rintro ys L Q ⟨s,w,rfl,q⟩;have j:0<1+s % 8:=by lia
 refine{(by decide:(0:Int)<8),{by decide,by decide},j,{by decide,by decide},?_};show f' (ah 0 8) _ _ _ _ _ _ _ _;refine zG (m:=8) (λi zs=>zs=((List.range i).map λk:Nat=>Y.str {#[eE<|s / 64+3*(k:Int)]})) (by decide) rfl ?_ ?_
 .rintro i _ hi rfl;have I:=zZ<|s / 64+3*(0+(i:Int));refine{{by decide,by decide},.inl {by decide,by decide},(by decide:(0:Int)<26),by decide +kernel,?_};walk_at "w";rw[I];refine{_,EE _,rfl,?_};rw[List.range_succ,Ar,show(0:Int)+(i:Int)=(i:Int) by simp +arith only];rfl
 .rintro _ rfl p t;have e0:((List.range 8).map λk:Nat=>Y.str {#[eE<|s / 64+3*(k:Int)]})=((dR s).map λc=>({#[c]}:Str)).map Y.str:=by unfold dR;rw[BI,BI];rfl
  rw[e0];refine qi q9 {(dR s).map λc=>({#[c]}:Str),rfl,?_,?_}
  .have J:∀U:aab,((U.map λc=>({#[c]}:Str)).map (·.length)).sum=U.length:=λU=>by induction U with|nil=>rfl|cons c r ih=>rw[AI,AI,List.sum_cons,ih,Ap];show 1+r.length=_;exact CA _ _
   rw[J,pS];show 8+_*0<=_;rw[Nat.mul_zero];decide
  .have g:=V8<|dR s;have l:(Txt.join ""<|(dR s).map λc=>({#[c]}:Str)).length=8:=by rw[<-len_list,g,pS]
   generalize Txt.join "" ((dR s).map λc=>({#[c]}:Str))=base at l g;obtain⟨p1,p2,o,C⟩:=Lk s;refine{{by decide,by decide},(by decide:(0:Int)<3),?_};refine jp (λc=>?_) λc=>?_
   .have e:1+(w+s) % 3=((1+(w+s) % 3).toNat:Int):=by lia
    refine{(by decide:(0:Int)<3),small (by lia),aB (By t) ?_};have es:=qZ (x:=base) (n:=(1+(w+s) % 3).toNat) (by lia);have eq:Txt.slice base none (some<|1+(w+s) % 3)=jh (a8 s w):=by rw[e];refine(vn _).symm.trans ?_;rw[es,g];unfold a8;rw[AC c]
    rw[<-eq] at q;exact q
   .have I:=zZ<|s / 64+3*(s / 8 % (1+s % 8))+w;refine{{by decide,by decide},.inl {by decide,by decide},(by decide:(0:Int)<26),by decide +kernel,?_};walk_at "w";rw[I];have T:=qZ (x:=base) (n:=sN s) (by lia);have s2:=WR (x:=base) (m:=sN s+1) (n:=szN s) (by assumption) (by lia);have l1:(Txt.slice base none<|some (sN s:Int)).length=sN s:=by rw[<-len_list,T,AS,len_list];lia
    have l2:(Txt.slice base (some ((sN s+1:Nat):Int))<|some (szN s:Int)).length<=8:=by rw[<-len_list,s2,AS];lia
    refine{small (by lia),?_};refine{small (by rw[o,l1];show sN s+1<=1000;lia),?_};refine{small (by lia),?_};have J:((sN s:Int)+1)=((sN s+1:Nat):Int):=by rfl
    have l3:(Txt.slice base none (some (sN s:Int))++(⟨#[eE<|s / 64+3*(s / 8 % (1+s % 8))+w]⟩:Str)).length=sN s+1:=by rw[PySem.Str.length_append,l1];rfl
    refine{small ?_,aB (By t) ?_}
    .rw[o] at l3 ⊢;rw[l3,J,C];lia
    .have eq:(Txt.slice base none (some (sN s:Int))++(⟨#[eE<|s / 64+3*(sN s:Int)+w]⟩:Str))++Txt.slice base (some ((sN s+1:Nat):Int)) (some (szN s:Int))=jh (a8 s w):=by
      refine(vn _).symm.trans ?_;have ca:∀a b:Str,(a++b).cps.toList=a.cps.toList++b.cps.toList:=λa b=>by show(a.cps++b.cps).toList=_;simp
      rw[ca,ca,T,s2,g];unfold a8;rw[Az c]
     rw[o,J,C,eq];exact q
def WT(t t':Bool)(n I:Str):Da.eq (oE<|.leaf t n) (oE<|.leaf t' I)=(decide (t=t')&&decide (n=I)):=by
 by_cases h:n=I
 .subst h;cases t<;>cases t'<;>simp[oE,Da.eq,Da.eqs,gb,kL]<;>decide +kernel
 .cases t<;>cases t'<;>simp[oE,Da.eq,Da.eqs,gb,kL,h]<;>decide +kernel
theorem jY{α β:Type}(f:α->β):∀(l:List α) (n:Nat),(l.map f).eraseIdx n=(l.eraseIdx n).map f
 |[],n=>by simp
 |_::_,0=>rfl
 |x::r,n+1=>by rw[AI,Cu,Cu,AI,jY f r n]
def aP(a:zr)(b:Y)(r:List<|zr×Y)(k:zr):vq ((a,b)::r) k=if a=k then some b else vq r k:=by
 unfold vq;rw[Bq];by_cases h:a=k
 .rw[AC h,show decide ((a,b).1=k)=true from AA h];rfl
 .rw[Az h,show decide ((a,b).1=k)=false from Aw h]
theorem vN(k J:zr)(y:Y):∀kvs:List (zr×Y),vq (kvs.map λU=>if U.1=k then(U.1,y) else U) J=if J=k then(vq kvs J).map (λ_=>y) else vq kvs J
 |[]=>by rw[Cm];split<;>rfl
 |(a,b)::r=>by
  have g:=vN k J y r;rw[AI,aP];by_cases h:a=k
  .rw[AC<|show(a,b).1=k from h,aP,g];by_cases I:J=k
   .rw[AC I,AC I,AC<|h.trans I.symm,AC<|h.trans I.symm];rfl
   .rw[Az I,Az I,Az λz=>I<|z.symm.trans h,Az λz=>I<|z.symm.trans h]
  .rw[Az<|show ¬(a,b).1=k from h,aP,g];by_cases I:J=k
   .rw[AC I,AC I,Az λz=>h<|z.trans I,Az λz=>h<|z.trans I]
   .rw[Az I,Az I]
theorem vK(k I:zr)(y:Y):∀kvs:List (zr×Y),vq (kvs++[(k,y)]) I=(vq kvs I).or (if k=I then some y else none)
 |[]=>by rw[BS,aP];have:vq [] I=none:=rfl;rw[this];split<;>rfl
 |(a,b)::r=>by rw[DW,aP,aP,vK k I y r];split<;>rfl
theorem oV(k:zr):∀kvs:List (zr×Y),(kvs.any λI=>decide<|I.1=k)=(vq kvs k).isSome
 |[]=>rfl
 |(a,b)::r=>by
  rw[Cq,aP,oV k r];by_cases h:a=k
  .rw[AC h,show decide ((a,b).1=k)=true from AA h];rfl
  .rw[Az h,show decide ((a,b).1=k)=false from Aw h];rfl
def pP(kvs:List<|zr×Y)(k I:zr)(y:Y):vq (iw kvs k y) I=if I=k then some y else vq kvs I:=by
 unfold iw;rw[oV];cases e:vq kvs k with
 |some v=>
  rw[AC<|show(some v).isSome=true from rfl,vN];by_cases h:I=k
  .rw[AC h,AC h,h,e];rfl
  .rw[Az h,Az h]
 |none=>
  rw[Az (by simp),vK];by_cases h:I=k
  .rw[AC h,h,e,AC rfl];rfl
  .rw[Az h,Az λz=>h z.symm];cases vq kvs I<;>rfl
def wF(kvs:List<|zr×Y)(k:zr)(y:Y):(iw kvs k y).length<=kvs.length+1:=by
 unfold iw;split
 .rw[Ac];omega
 .rw[Ab];simp
def jP(f:aai):HT->HT
 |some (.nd e i j)=>some<|.nd e (f i)<|f j
 |k=>k
theorem yP{f g:aai}:∀{k:HT},(∀e i j,k=some (.nd e i j)->f i=g i/\f j=g j)->jP f k=jP g k
 |none,_=>rfl
 |some (.lf _ _),_=>rfl
 |some (.nd e i j),h=>by obtain⟨a,b⟩:=h e i j rfl;show some (Kn.nd e (f i)<|f j)=some (Kn.nd e (g i)<|g j);rw[a,b]
structure Gap(ks:List<|HT)(ps:aab)(f:aai)(wd:List<|HT):Prop where
 at_:∀p∈ps,∀k,ks[p]?=some k->wd[f p]?=some (jP f k)
 inj:∀p∈ps,∀q∈ps,f p=f q->p=q
 only:∀x k,wd[x]?=some (some k)->∃p∈ps,x=f p
 ok:x_ wd
def Gap.nil(ks:List<|HT)(f:aai):Gap ks [] f []:={λp I=>(BC I).elim,λp I=>(BC I).elim,λx k h=>(by simp at h),λp e i j h=>(by simp at h)}
def Gap.lt{ks:List<|HT}{ps:aab}{f:aai}(h:Gap ks ps f wd){p:Nat}(I:p∈ps)(J:p<ks.length):f p<wd.length:=xx<|h.at_ p I _<|Ah J
def Gap.step{ks:List<|HT}{ps:aab}{f:aai}(h:Gap ks ps f wd)(r:∀p∈ps,p<ks.length){p:Nat}{k:HT}(C:p∉ps)(T:ks[p]?=some k)(o:∀x∈ps,∀e i j,ks[x]?=some (some<|.nd e i j)->i∈ps/\j∈ps)(J:∀e i j,k=some (.nd e i j)->i∈ps/\j∈ps):
 Gap ks (ps++[p]) (λx=>if x=p then wd.length else f x) (wd++[jP f k]):=by
 have old:∀x∈ps,(if x=p then wd.length else f x)=f x:=λx I=>Az λ(c:x=p)=>C<|c▸I;have ren:∀l,(∀e i j,l=some (.nd e i j)->i∈ps/\j∈ps)->jP (λx=>if x=p then wd.length else f x) l=jP f l:=λl U=>yP λe i j z=>by obtain⟨a,b⟩:=U e i j z;exact{old i a,old j b}
 refine{λx I l U=>?_,λx I y g e=>?_,λx l I=>?_,λx e i j I=>?_}
 .rcases Ao.mp I with I|I
  .show(wd++[jP f k])[if x=p then wd.length else f x]?=_;rw[old x I,ren l λe i j z=>o x I e i j (by rw[U,z])];exact pY<|h.at_ x I l U
  .have I:=Ak.mp I;subst I;rw[T] at U;cases U;show(wd++[jP f k])[if x=x then wd.length else f x]?=_;rw[AC rfl,ren k J];exact eQ wd _ []
 .have e:(if x=p then wd.length else f x)=if y=p then wd.length else f y:=e
  rcases Ao.mp I with I|I<;>rcases Ao.mp g with g|g
  .rw[old x I,old y g] at e;exact h.inj x I y g e
  .cases Ak.mp g;rw[old x I,AC rfl] at e;have:=h.lt I<|r x I;lia
  .cases Ak.mp I;rw[old y g,AC rfl] at e;have:=h.lt g<|r y g;lia
  .rw[Ak.mp I,Ak.mp g]
 .by_cases c:x<wd.length
  .rw[AH c] at I;obtain⟨q,t,e⟩:=h.only x l I;exact{q,Ay _ t,by rw[e];exact(old q t).symm}
  .refine{p,Ai _<|Ak.mpr rfl,?_};have:=xx I;rw[Ab] at this;have:x<wd.length+1:=this;show x=if p=p then wd.length else f p
   rw[AC rfl];lia
 .by_cases c:x<wd.length
  .rw[AH c] at I;exact h.ok x e i j I
  .have:=xx I;rw[Ab] at this;have:x<wd.length+1:=this;have:x=wd.length:=by lia
   subst this;rw[AK<|Aj _,CO] at I;have I:jP f k=some (.nd e i j):=A1 I;cases k with
   |none=>cases I
   |some k=>
    cases k with
    |lf=>cases I
    |nd e' i' j'=>
     obtain⟨a,b⟩:=J e' i' j' rfl;cases I;exact{h.lt a<|r _ a,h.lt b<|r _ b}
def pD{ks:List<|HT}{I:aab}(ok:x_ ks)(pm:I.Perm<|List.range ks.length)(l:cx ks I){n:Nat}{p:Nat}(U:I[n]?=some p){e:Bool}(h:ks[p]?=some (some<|.nd e i j)):i∈I.take n/\j∈I.take n:=by
 obtain⟨l1,l2⟩:=ok p e i j h;have hl:=xx h;have t:=xx U;have ind:∀x,x<ks.length->x≠p->(∀y∈I.drop (n+1),y≠x)->x∈I.take n:=λx T ne o=>by
  have J:x∈I:=pm.mem_iff.mpr<|Bj.mpr T;have r:I=I.take n++p::I.drop (n+1):=by rw[Ah t] at U;rw[<-A1 U,CC,AU]
  rw[r] at J;rcases Ao.mp J with J|J
  .exact J
  .rcases Aq.mp J with J|J
   .exact absurd J ne
   .exact absurd rfl<|o x J
 have C:∀y∈I.drop (n+1),y≠i/\y≠j:=λy g=>by
  have r:I=I.take n++p::I.drop (n+1):=by rw[Ah t] at U;rw[<-A1 U,CC,AU]
  unfold cx at l;rw[r] at l;have:=(AV.mp l).2.1;exact(List.pairwise_cons.mp this).1 y g e i j h
 exact{ind i (by exact uj) (by exact Jf) λy g=>(C y g).1,ind j (by exact uj) (by exact Jf) λy g=>(C y g).2}
def Ll:RD "_law_join" lu 0 ["_law_knots","_law_forest","_law_one","_law_two","_law_first","_law_second","_law_left","_law_right","_law_ends"] (λ_=>True):={_,λV B c _ _ _ _ _ _ _ I hN J=>(qa (S_ 4 hN<|cV (qv 1)<|zn<|qk jn (qv 3)<|L_ B.ba<|qv 1)<|qa (S_ 5 hN<|cV (qv 1)<|zn<|qk jn (qv 2)<|L_ B.ba<|qv 1)<|qa (bq (i:=6) hN rfl (Or.inr rfl)<|I_ (J_ 4)<|qk jn (qk vm (qv 3) qe)<|L_ B.ba<|J_ 4)<|qa (bq (i:=7) hN rfl (Or.inr rfl)<|I_ (J_ 5)<|qk jn (qk vm (qv 2) qe)<|L_ B.ba<|J_ 5)<|qa (qt<|z9 (qv 0)<|zn<|zo<|df qo (qv 6)<|qv 7)<|qa (gf ["_law_p"] (i:=8) hN rfl (Or.inl rfl) (EL (by rfl)) rfl (xc<|qk zj (J_ 4)<|J_ 5) (dX 9) (λ_ _ _ _=>eV<|jo (o4 _ _ _) (qv 9) (zo<|vo (qv 6)<|qv 7) (by with_unfolding_all rfl)) λ_ _ _ _=>(qv 9))<|qd<|qt<|z9 (qv 1)<|zn<|zc<|vo (zo<|kg qo<|df (qk cX (L_ B.ba<|qv 0) qe) (J_ 4)<|J_ 5)<|qk zj (qv 8)<|zc<|zn<|qk cX (L_ B.ba<|qv 0) qe)}
def Lm:RD "_law_fold" kI 0 ["_law_knots","_law_tree_here","_law_one","_law_two","_law_left","_law_right"] (λ_=>True):={_,λV B c _ _ _ _ _ _ _ I hN J=>(qa (zf (jo qJ (L_ B.ba<|J_ 1) qe<|jy _) (qd JT) qx)<|qa (S_ 4 hN<|cV (J_ 1)<|zn<|qk jn (qv 3)<|L_ B.ba<|J_ 1)<|qa (S_ 5 hN<|cV (J_ 1)<|zn<|qk jn (qv 2)<|L_ B.ba<|J_ 1)<|qa (qt<|z9 (qv 0)<|zn<|zo<|df qo (qv 4)<|qv 5)<|qa (UD (qv 1) qe<|zo<|df qo (qk cX (L_ B.ba<|qv 0) qe)<|J_ 1)<|qd<|qt<|z9 (J_ 1)<|zn<|qk cX (L_ B.ba<|qv 0) qe)}
theorem bw{ks:Pi}:∀{w v:Wd} {p:Nat},dF ks p w->dF ks p v->w=v
 |.leaf t n,.leaf g C,p,h,k=>by
  have h:(xz ks)[p]?=some (.tup [.str<|kL t,.str n]):=h;have k:(xz ks)[p]?=some (.tup [.str<|kL g,.str C]):=k;rw[h] at k;injection k with k;injection k with k;injection k with J I;injection I with I _
  injection J with J;injection I with I
  have:t=g:=by cases t<;>cases g<;>first|rfl|(exfalso;revert J;decide +kernel)
  rw[this,I]
 |.leaf t n,.node e l r,p,h,k=>by obtain⟨i,j,k,_⟩:=k;have h:(xz ks)[p]?=some (.tup [.str<|kL t,.str n]):=h;rw[h] at k;injection k with k;injection k with k;injection k with _ k;injection k with _ k;cases k
 |.node e l r,.leaf t n,p,h,k=>by obtain⟨i,j,h,_⟩:=h;have k:(xz ks)[p]?=some (.tup [.str<|kL t,.str n]):=k;rw[h] at k;injection k with k;injection k with k;injection k with _ k;injection k with _ k;cases k
 |.node e l r,.node o l' r',p,⟨i,j,h,T,hr⟩,⟨i',j',k,kl,kr⟩=>by
  rw[h] at k;injection k with k;injection k with k;injection k with J I;injection I with I U;injection U with U _
  injection J with J;injection I with I;injection U with U
  have e1:i=i':=by lia
  have e2:j=j':=by lia
  subst e1 e2;have:e=o:=by cases e<;>cases o<;>first|rfl|(exfalso;revert J;decide +kernel)
  rw[this,bw (ks:=ks) T kl,bw (ks:=ks) hr kr]
theorem pK{ks:Pi}(I:cQ ks):∀(m p:Nat),p<m->p<ks.length->∃w,dF ks p w/\w.depth<=p+1/\w.ok
 |0,p,h,_=>absurd h (by lia)
 |m+1,p,h,g=>by
  obtain⟨k,J⟩:∃k,ks[p]?=some k:={_,Ah g};have U:=I p k J;cases k with
  |lf t n=>exact{.leaf t n,dF.leaf J,by show 1<=p+1;exact BZ _,U}
  |nd e i j=>
   have U:i<p/\j<p:=U;obtain⟨l,o,T,C⟩:=pK I m i (by lia) (by omega);obtain⟨r,b1,b2,b3⟩:=pK I m j (by lia) (by lia);exact{.node e l r,EY J o b1,by show max l.depth r.depth+1<=p+1;lia,C,b3}
def TV(v:Str->Bool):Wd->Bool
 |.leaf t n=>if t=true then !v n else v n
 |.node e l r=>if e=true then TV v l||TV v r else TV v l&&TV v r
theorem nK(v:Str->Bool):∀w:Wd,TV v w.turn=!TV v w
 |.leaf t n=>by cases t<;>simp[Wd.turn,TV]
 |.node e l r=>by cases e<;>simp[Wd.turn,TV,nK v l,nK v r]
theorem SR.lt{E:aab}(h:SR ks R E):∀x∈qm R,x<ks.length:=by
 have lt:∀{p:Nat} {k:Kn},ks[p]?=some k->p<ks.length:=λh=>(AJ.mp h).1
 induction h with
 |link _ j l _ _=>intro x I;simp[qm] at I;rcases I with rfl|rfl;exact lt j;exact lt l
 |ei g _ _ _ _ _ _ o=>intro x I;rcases Aq.mp I with rfl|I;exact lt g;exact o x I
 |bo g _ _ _ _ _ _ J U=>
  intro x I;rcases Aq.mp I with rfl|I
  .exact lt g
  .rcases Ao.mp I with I|I
   .exact J x I
   .exact U x I
 |cu _ _ _ _ _ _ _ _ J U=>
  intro x I;rcases Ao.mp I with I|I
  .exact J x I
  .exact U x I
theorem SR.tv(hk:cQ ks)(v:Str->Bool){E:aab}(h:SR ks R E):∃x∈E,∃w,dF ks x w/\TV v w=true:=by
 have ex:∀{R':Ru} {E':aab},SR ks R' E'->∀x∈E',∃w,dF ks x w:=λs x U=>by obtain⟨w,hw,_⟩:=pK hk (x+1) x (by exact BN _)<|s.lt x<|s.sub x U;exact{(w),hw}
 induction h with
 |@link p q t n E _ h2 h3 h4 _=>
  cases ht:TV v (.leaf t n) with
  |true=>exact{p,(h4 p).mpr<|.inl rfl,_,dF.leaf h2,ht}
  |false=>
   refine{q,(h4 q).mpr<|.inr rfl,_,dF.leaf h3,?_};have:=nK v<|.leaf t n;rw[ht] at this;exact this
 |@ei r i j A EA E h1 hA hi hj _ g _ ih=>
  obtain⟨x,U,w,hw,tv⟩:=ih;obtain⟨wi,l⟩:=ex hA i hi;obtain⟨wj,o⟩:=ex hA j hj;by_cases I:x=i
  .subst I;rw[bw hw l] at tv;exact{r,(g r).mpr<|.inr rfl,_,EY h1 l o,by simp[TV,tv]}
  .by_cases J:x=j
   .subst J;rw[bw hw o] at tv;exact{r,(g r).mpr<|.inr rfl,_,EY h1 l o,by simp[TV,tv]}
   .exact{x,(g x).mpr<|.inl {(U),I,J},w,hw,tv}
 |@bo r i j A B EA EB E h1 hA hB hi hj g _ C T=>
  obtain⟨x,U,w,hw,tv⟩:=C;obtain⟨y,hy,u,hu,tu⟩:=T;by_cases I:x=i
  .by_cases J:y=j
   .subst I J;exact{r,(g r).mpr<|.inr<|.inr rfl,_,EY h1 hw hu,by simp[TV,tv,tu]}
   .exact{y,(g y).mpr<|.inr<|.inl {(hy),J},u,hu,tu}
  .exact{x,(g x).mpr<|.inl {(U),I},w,hw,tv}
 |@cu p q A B EA EB E w0 hA hB hp hq a0 a1 h7 _ C T=>
  obtain⟨x,U,w,hw,tv⟩:=C;obtain⟨y,hy,u,hu,tu⟩:=T;by_cases I:x=p
  .by_cases J:y=q
   .subst I J;rw[bw hw a0] at tv;rw[bw hu a1,nK,tv] at tu;cases tu
   .exact{y,(h7 y).mpr<|.inr {(hy),J},u,hu,tu}
  .exact{x,(h7 x).mpr<|.inl {(U),I},w,hw,tv}
def SR.ends(I:cQ ks){E:aab}(h:SR ks R E):0<E.length:=by obtain⟨x,J,_⟩:=h.tv I λ_=>true;exact List.length_pos_of_mem J
structure Tr where
 a:Addr
 b:Addr
 R:Ru
 E:aab
abbrev aax:=List Tr
abbrev zq(E:aab):_T:=E.map λn:Nat=>Y.int (n:Int)
def Tr._m(t:Tr):List Addr:=[t.a,t.b]
structure bR(L0 L:qh)(ka fa:Addr)(ks:Pi)(fo:aax):Prop where
 hk:L ka=some (.lst<|xz ks)
 ht:∀t∈fo,L t.a=some (.lst [qr t.R,.ref t.b])/\L t.b=some (.lst<|zq t.E)
 sr:∀t∈fo,SR ks t.R t.E
 nd:(fo.flatMap λt=>qm t.R).Nodup
 tm:∀x,x∈(fo.flatMap λt=>qm t.R)↔x<ks.length
 ad:(ka::fa::fo.flatMap Tr._m).Nodup
 ok:cQ ks
 sub:qf L0 L
 fr:∀x∈ka::fa::fo.flatMap Tr._m,L0 x=none
def zk(fo:aax):_T:=fo.map λt=>Y.ref t.a
structure qI(L0 L:qh)(ka fa:Addr)(ks:Pi)(fo:aax):Prop where
 b:bR L0 L ka fa ks fo
 hf:L fa=some (.lst<|zk fo)
def Fo:Ru->Prop
 |.link _ _=>True
 |.ei _ A=>Fo A
 |.bo _ A B=>Fo A/\Fo B
 |.cu _ _ _ _=>False
def Ln(ks:Pi)(fo:aax)(fy:Pi)(fo':aax):Prop:=(∃ms:Pi,fy=ks++ms/\∀k∈ms,∃e i j,k=.nd e i j)/\((∀t∈fo,Fo t.R)->∀t∈fo',Fo t.R)
def bR.perm{fo fo':aax}(h:bR L0 L ka fa ks fo)(p:fo.Perm fo'):bR L0 L ka fa ks fo':=by have J:(fo.flatMap λt=>qm t.R).Perm (fo'.flatMap λt=>qm t.R):=p.flatMap_right _;have U:(fo.flatMap Tr._m).Perm (fo'.flatMap Tr._m):=p.flatMap_right _;refine{h.hk,λt I=>h.ht t<|p.mem_iff.mpr I,λt I=>h.sr t<|p.mem_iff.mpr I,J.nodup_iff.mp h.nd,λx=>by rw[<-J.mem_iff];exact h.tm x,((U.cons _).cons _).nodup_iff.mp h.ad,h.ok,h.sub,λx g=>h.fr x<|((U.cons _).cons _).mem_iff.mpr g}
variable {fo rest:List Tr}
theorem xb{α:Type}:∀{l:List α} {j:Nat} {x:α},l[j]?=some x->l.Perm (x::l.eraseIdx j)
 |[],_,_,h=>by simp at h
 |y::r,0,x,h=>by
  have:y=x:=by simpa using h
  subst this;exact .refl _
 |y::r,j+1,x,h=>by have I:=xb (l:=r) (j:=j) (x:=x) (by simpa using h);rw[Cu];exact(I.cons y).trans (.swap _ _ _)
def om(fo:aax)(j:Nat):(zk fo).eraseIdx j=zk (fo.eraseIdx j):=jY _ fo j
theorem qf.none(s:qf L L'){p:Addr}(h:L' p=none):L p=none:=by cases z:L p with|none=>rfl|some o=>rw[s _ _ z] at h;cases h
def bR.nkf(h:bR L0 L ka fa ks fo):ka≠fa:=by have ad:=h.ad;rw[AQ] at ad;exactλe=>ad.1<|e▸An ..
def bR.nk(h:bR L0 L ka fa ks fo):∀t∈fo,t.a≠fa/\t.b≠fa/\t.a≠ka/\t.b≠ka:=λt I=>by have ad:=h.ad;rw[AQ,AQ] at ad;have J:t.a∈fo.flatMap Tr._m:=Bl.mpr {t,I,by simp[Tr._m]};have U:t.b∈fo.flatMap Tr._m:=Bl.mpr {t,I,by simp[Tr._m]};exact{λe=>ad.2.1<|e▸J,λe=>ad.2.1<|e▸U,λe=>ad.1<|Ag _<|e▸J,λe=>ad.1<|Ag _<|e▸U}
def bR.setF(h:bR L0 L ka fa ks fo)(o:LO):bR L0 (qg L fa o) ka fa ks fo:=by
 refine{by rw[qb h.nkf];exact h.hk,λt I=>?_,h.sr,h.nd,h.tm,h.ad,h.ok,λb u e=>?_,h.fr}
 .obtain⟨J,U,_,_⟩:=h.nk t I;rw[qb J,qb U];exact h.ht t I
 .have:b≠fa:=λz=>by rw[z,h.fr fa (by simp)] at e;cases e
  rw[qb this];exact h.sub _ _ e
def bR.mono(h:bR L0 L ka fa ks fo)(s:qf L L'):bR L0 L' ka fa ks fo:=
 ⟨s _ _ h.hk,λt I=>{s _ _ (h.ht t I).1,s _ _ (h.ht t I).2},h.sr,h.nd,h.tm,h.ad,h.ok,h.sub.trans s,h.fr⟩
def bR.exs(h:bR L0 L ka fa ks fo):∀z∈fo.flatMap Tr._m,∃o,L z=some o:=λz I=>by
 obtain⟨t,J,I⟩:=Bl.mp I;obtain⟨U,g⟩:=h.ht t J;have I:z=t.a\/z=t.b:=by simpa[Tr._m] using I
 rcases I with rfl|rfl
 .exact{_,U}
 .exact{_,g}
def WU{l:List Addr}(nd:l.Nodup)(ex:∀z∈l,∃o,L z=some o)(U:L pa=none)(g:L pb=none)(ne:pa≠pb):(l++[pa,pb]).Nodup:=by
 rw[AB];refine{nd,by simp[ne],λu j v J e=>?_};subst e;obtain⟨o,I⟩:=ex u j;simp at J;rcases J with rfl|rfl
 .rw[U] at I;cases I
 .rw[g] at I;cases I
def bR.step{old:aax}{t':Tr}(h:bR L0 L ka fa ks<|old++rest)(C:L' ka=some (.lst<|xz<|ks++ms))(T:L' t'.a=some (.lst [qr t'.R,.ref t'.b])/\L' t'.b=some (.lst<|zq t'.E))
 (keep:∀t∈rest,L' t.a=L t.a/\L' t.b=L t.b) (sub:qf L0 L') (ad:(ka::fa::(rest++[t']).flatMap Tr._m).Nodup) (fr:∀x∈t'._m,L0 x=none) (ok:cQ<|ks++ms) (sr:SR (ks++ms) t'.R t'.E)
 (tp:(qm t'.R).Perm<|List.range' ks.length ms.length++old.flatMap λt=>qm t.R):bR L0 L' ka fa (ks++ms) (rest++[t']):=by
 have U:=h.nd;have g:=h.tm;rw[AD] at U;have r:((rest++[t']).flatMap λt=>qm t.R)=(rest.flatMap λt=>qm t.R)++qm t'.R:=by rw[AD];simp
 have mem:∀x,x∈qm t'.R↔(ks.length<=x/\x<ks.length+ms.length)\/x∈(old.flatMap λt=>qm t.R):=λx=>by rw[tp.mem_iff,Ao,C8]
 refine{C,λt J=>?_,λt J=>?_,?_,λx=>?_,ad,ok,sub,λx I=>?_}
 .rcases Ao.mp J with J|J
  .obtain⟨k1,k2⟩:=keep t J;rw[k1,k2];exact h.ht t<|Ai _ J
  .rw[Ak.mp J];exact T
 .rcases Ao.mp J with J|J
  .exact(h.sr t<|Ai _ J).more _
  .rw[Ak.mp J];exact sr
 .rw[r,AB];rw[AB] at U;refine{U.2.1,tp.nodup_iff.mpr ?_,λx I y j e=>?_}
  .rw[AB];refine{DO,U.1,λx I y j e=>?_};have I:=C8.mp I;have j:=(g y).mp (by rw[AD];exact Ay _ j);lia
  .subst e;rcases (mem x).mp j with j|j
   .have:=(g x).mp (by rw[AD];exact Ai _ I);lia
   .exact U.2.2 x j x I rfl
 .rw[r,Ao,mem,Ab];have o:=g x;rw[AD,Ao] at o;constructor
  .rintro(l|l|l)
   .have:=o.mp<|.inr l;exact Ji
   .lia
   .have:=o.mp<|.inl l;lia
  .intro l;by_cases c:x<ks.length
   .rcases o.mpr c with p|p
    .exact .inr<|.inr p
    .exact .inl p
   .exact .inr<|.inl (by lia)
 .rcases Aq.mp I with rfl|I
  .exact h.fr _<|An ..
  .rcases Aq.mp I with rfl|I
   .exact h.fr _<|Ag _<|An ..
   .rw[AD] at I;rcases Ao.mp I with I|I
    .exact h.fr _ (Ag _ (Ag _ (by rw[AD];exact Ai _ I)))
    .exact fr x (by simpa using I)
def bR.put{M:qh}{old:aax}{E:aab}{fs:LO}(h:bR L0 L ka fa ks<|old++rest)(U:∀z o,z≠ka->L z=some o->M z=some o)(g:M ka=some (.lst<|xz<|ks++ms))(r:M fa=some fs)(na:M pa=none)(nb:M pb=none)(ne:pa≠pb)(s:qf M L')(C:L' pa=some (.lst [qr R,.ref pb]))(T:L' pb=some (.lst<|zq E))
 (ok:cQ<|ks++ms) (sr:SR (ks++ms) R E) (tp:(qm R).Perm<|List.range' ks.length ms.length++old.flatMap λt=>qm t.R):bR L0 L' ka fa (ks++ms) (rest++[{(pa),pb,R,E}]):=by
 have J:∀z o,L0 z=some o->M z=some o:=λz o e=>U _ _ (λw=>by rw[w,h.fr ka (by simp)] at e;cases e)<|h.sub _ _ e;have two:∀z,z∈(⟨pa,pb,R,E⟩:Tr)._m->M z=none:=λz I=>by
  have I:z=pa\/z=pb:=by simpa[Tr._m] using I
  rcases I with rfl|rfl<;>assumption
 refine bR.step (old:=old) (t':={(pa),pb,R,E}) h (s _ _ g) {(C),T} (λt j=>?_) (λz o e=>s _ _<|J z o e) ?_ (λz I=>?_) ok sr tp
 .obtain⟨_,_,n3,n4⟩:=h.nk t<|Ai _ j;obtain⟨l,p⟩:=h.ht t<|Ai _ j;rw[l,p];exact{s _ _<|U _ _ n3 l,s _ _<|U _ _ n4 p}
 .have ad:=h.ad;rw[AD] at ad;have:=WU (L:=M) ((((BU ..).cons_cons _).cons_cons _).nodup ad) (λz I=>?_) na nb ne
  .rw[AD];simpa[Tr._m] using this
  .rcases Aq.mp I with rfl|I
   .exact{_,g}
   rcases Aq.mp I with rfl|I
   .exact{_,r}
   obtain⟨o,e⟩:=h.exs z (by rw[AD];exact Ai _ I);exact{o,U _ _ (λw=>(AQ.mp ad).1 (by rw[<-w];exact Ag _<|Ai _ I)) e}
 .cases e:L0 z with|none=>rfl|some o=>have w:=J z o e;rw[two z I] at w;cases w
inductive mj(ys:_T)(L:qh)(Q:YK):Prop
 |mk:∀L0 ka fa ks fo,∀one two:Int,(ys=[.ref ka,.ref fa,.int one,.int two])->(qI L0 L ka fa ks fo)->(2<=fo.length)->(fo.length<=200)->(ks.length<=200)->(∀L' fy fo',qI L0 L' ka fa fy fo'->fy.length=ks.length+1->fo'.length+1=fo.length->Ln ks fo fy fo'->Q .KF L')->mj ys L Q
def jF{l:List α}(h:0<l.length)(k:Int):∃(j:Nat) (x:α),k % (l.length:Int)=(j:Int)/\j<l.length/\l[j]?=some x:=by have I:0<=k % (l.length:Int):=El _ (by lia);have J:k % (l.length:Int)<(l.length:Int):=Int.emod_lt_of_pos _ (by omega);refine{(k % (l.length:Int)).toNat,l[(k % (l.length:Int)).toNat]'(by lia),by lia,by lia,Ah (by lia)}
theorem bV:∀(n:Nat) (l:aab),l.Nodup->(∀x∈l,x<n)->l.length<=n
 |0,l,_,h=>by cases l with|nil=>exact Aj _|cons x r=>exact absurd (h x<|An ..) (by lia)
 |n+1,l,nd,h=>by
  by_cases c:n∈l
  .have p:=List.perm_cons_erase c;have J:=bV n (l.erase n) (nd.erase n) λx I=>by have:=(List.Nodup.mem_erase_iff nd).mp I;have:=h x this.2;lia
   rw[p.length_eq,Ap];exact Fz
  .exact Cn (bV n l nd λx I=>by have:=h x I;have:x≠n:=λe=>c<|e▸I;lia)
def bG(h:bR L0 L ka fa ks fo){t:Tr}(I:t∈fo):0<t.E.length/\t.E.length<=ks.length:=by have s:=h.sr t I;exact{s.ends h.ok,bV _ _ s._M λx J=>s.lt x<|s.sub x J}
def WV(x l r:Nat):xK (fk<|.int (x:Int)) (([.int (l:Int),.int (r:Int)]:_T).map fk)=decide (x=l\/x=r):=by
 show(gb (.int (l:Int)) (.int (x:Int))||(gb (.int (r:Int)) (.int (x:Int))||false))=_;have e:∀a b:Nat,gb (.int (a:Int)) (.int (b:Int))=decide (b=a):=λa b=>by
  show decide ((a:Int)=(b:Int))=decide (b=a);by_cases c:b=a
  .subst c;simp
  .rw[Aw c];apply Aw;lia
 rw[e,e];by_cases I:x=l<;>by_cases J:x=r<;>simp[I,J]
def tO{E:aab}(h:0<E.length)(k:Int):∃x,x∈E/\fS (zq E) (k % ((zq E).length:Int))=some (.int ((x:Nat):Int)):=by obtain⟨j,x,I,J,ex⟩:=jF h k;refine{x,AE ex,?_};rw[Ac,I];exact jk (by rw[Al,ex];rfl)
def kj(E1 E2:aab)(l r:Nat):aab:=(E1++E2).filter λx=>!decide (x=l\/x=r)
def Lo{U:Addr}{E:aab}{l r k:Nat}{Q:YK}(C:L U=some (.lst<|zq E))(I:E.length<=1000)
 (T:∀y (g:Bool->qh->Prop),FI true y (.tup [.int (l:Int),.int (r:Int)]) L (λx L'=>match x with|.bl c=>g c L'|_=>False)->tc (dY (τ++List.replicate 1 none) k y) L g)
 (hv:∀y,yY (dY (τ++List.replicate 1 none) k y) k=some y)
 (hq:∀p,L p=none->Q (.ref p) (qg L p<|.lst<|zq<|E.filter λx=>!decide (x=l\/x=r))):
 uw L U λys keep L2=>f' ys keep 1 (qz k) tc (qw k) τ L2 Q:=by
 refine jb C λkeep kp=>aC (λj zs=>zs=zq ((E.take j).filter λx=>!decide (x=l\/x=r))) (by rw[Ac];exact rP I) (kp L rfl) rfl ?_ ?_
 .rintro j y _ o rfl;obtain⟨x,ex,rfl⟩:∃x:Nat,E[j]?=some x/\y=Y.int (x:Int):=by rw[Al] at o;obtain⟨x,e1,e2⟩:=Ax.mp o;exact{(x),e1,e2.symm}
  refine T _ _ {rfl,rfl,?_};rw[WV];show wg (!decide (x=l\/x=r)) _ _;have t:(E.take<|j+1).filter (λx=>!decide (x=l\/x=r))=(E.take j).filter (λx=>!decide (x=l\/x=r))++[x].filter (λx=>!decide (x=l\/x=r)):=by rw[AW,ex,BW];rfl
  by_cases c:x=l\/x=r
  .refine jv (by rw[AA c];rfl) ?_;refine JF {rfl,?_};rw[t,List.filter_cons_of_neg (by simp[c]),Ek,AG]
  .refine kz (by rw[Aw c];rfl) ?_;unfold qw;rw[hv];refine JF {rfl,?_};rw[t,List.filter_cons_of_pos (by simp[c]),Ek];unfold zq;rw[Ar];rfl
 .rintro _ rfl p J;rw[Ac,AZ];exact hq p J
def yG{k:Int}(U:L fa=some (.lst<|zk fo))(h:0<fo.length):∃(j:Nat) (t:Tr),fo[j]?=some t/\0<=k % ((zk fo).length:Int)/\k % ((zk fo).length:Int)<((zk fo).length:Int)/\
 (zk fo)[(k % ((zk fo).length:Int)).toNat]?=some (.ref t.a)/\qg L fa (.lst<|(zk fo).eraseIdx (k % ((zk fo).length:Int)).toNat) fa=some (.lst<|zk<|fo.eraseIdx j):=by
 obtain⟨j,t,J,g,I⟩:=jF h k;have e:(zk fo).length=fo.length:=Ac ..;rw[e,J];refine{j,t,I,by exact Bf _,by lia,?_,?_}
 .show(zk fo)[j]?=_;unfold zk;rw[Al,I];rfl
 .rw[q9];show some (LO.lst<|(zk fo).eraseIdx j)=_;rw[om]
def bR.two{t1 t2:Tr}(h:bR L0 L ka fa ks<|t1::t2::rest):∀x,x∈qm t1.R->x∈qm t2.R->False:=by intro x I J;have nd:=h.nd;rw[Bc,Bc,AB] at nd;exact nd.2.2 x I x (Ay _ J) rfl
def zW{E1 E2:aab}{l r:Nat}(I:l∉E2)(J:r∉E1)(x:Nat):x∈kj E1 E2 l r↔(x∈E1/\x≠l)\/(x∈E2/\x≠r):=by
 unfold kj;rw[A6,Ao];constructor
 .rintro⟨h,c⟩;have c:¬(x=l\/x=r):=by simpa using c
  rcases h with h|h
  .exact .inl {h,λe=>c<|.inl e}
  .exact .inr {h,λe=>c<|.inr e}
 .rintro(⟨h,c⟩|⟨h,c⟩)
  .refine{.inl h,?_};have:x≠r:=λe=>J<|e▸h;simp[c,this]
  .refine{.inr h,?_};have:x≠l:=λe=>I<|e▸h;simp[c,this]
def zT{E1 E2:aab}{l r:Nat}(h1:E1.Nodup)(h2:E2.Nodup)(d:∀x,x∈E1->x∈E2->False):(kj E1 E2 l r).Nodup:=by
 unfold kj;have h:(E1++E2).Nodup:=by rw[AB];exact{h1,h2,λx I y J e=>d x I<|e▸J}
 exact List.Pairwise.filter _ h
def kB(a b:aab):zq (a++b)=zq a++zq b:=Ar
def gZ(a:aax)(t:Tr):zk (a++[t])=zk a++[.ref t.a]:=Ar
theorem WW:_f mj Ll.1 9:=by
 rintro ys L Q ⟨L0,ka,fa,j,fo,one,two,rfl,F,h2,c0,bf,q⟩;have big:=a_;have p:∀fo:aax,(zk fo).length=fo.length:=λfo=>Ac ..;have U:∀E:aab,(zq E).length=E.length:=λE=>Ac ..;obtain⟨j1,I,bg,a1,a2,a3,g⟩:=yG (k:=two) F.hf (by exact jO);have p1:=xb bg;refine qc F.hf (qc F.hf {(by show(0:Int)<((zk fo).length:Int);rw[p];lia),qi F.hf {a1,a2,qj a3 ?_}});have B:=(F.b.perm p1).setF<|.lst<|(zk fo).eraseIdx (two % ((zk fo).length:Int)).toNat;generalize qg L fa _=L1 at g B ⊢;have l1:=p1.length_eq;generalize fo.eraseIdx j1=T at l1 g B p1 ⊢;rw[Ap] at l1;obtain⟨j2,J,bh,b1,b2,b3,ac⟩:=yG (k:=one) g (by lia);have p2:=xb bh;refine qc g (qc g {(by show(0:Int)<((zk T).length:Int);rw[p];lia),qi g {b1,b2,qj b3 ?_}});replace B:=(B.perm<|p2.cons _).setF<|.lst<|(zk T).eraseIdx (one % ((zk T).length:Int)).toNat;generalize qg L1 fa _=L2 at ac B ⊢;have l2:=p2.length_eq;have ba:=p1.trans<|p2.cons _;generalize T.eraseIdx j2=rest at l2 ac B ba ⊢;rw[Ap] at l2;clear g a1 a2 a3 b1 b2 b3 p1 p2;have m1:I∈I::J::rest:=by simp
 have m2:J∈I::J::rest:=by simp
 obtain⟨a0,ag⟩:=B.ht I m1;obtain⟨a4,al⟩:=B.ht J m2;obtain⟨_,_,n1,n2⟩:=B.nk I m1;obtain⟨_,_,n3,n4⟩:=B.nk J m2;have bi:=bG B m1;have bj:=bG B m2;obtain⟨x,hx,ex⟩:=tO bi.1<|two / 64;obtain⟨y,hy,ey⟩:=tO bj.1<|one / 64;refine qc a0 {{by decide,by decide},qc a0 (qc ag {(by show(0:Int)<((zq I.E).length:Int);rw[U];omega),qc ag<|qj ex ?_})};refine qc a4 {{by decide,by decide},qc a4 (qc al {(by show(0:Int)<((zq J.E).length:Int);rw[U];omega),qc al<|qj ey ?_})};refine qc B.hk (qi B.hk {big _ (by rw[Ac];exact Fy),?_});have ek:xz j++[.tup [.str "both",.int ((x:Nat):Int),.int ((y:Nat):Int)]]=xz (j++[.nd false x y]):=by unfold xz;rw[Ar];rfl
 rw[ek];have k3:∀z o,z≠ka->L2 z=some o->qg L2 ka (.lst<|xz<|j++[.nd false x y]) z=some o:=λz o n e=>(qb n).trans e;have bb:qg L2 ka (.lst<|xz<|j++[.nd false x y]) ka=some (.lst<|xz<|j++[.nd false x y]):=q9;generalize qg L2 ka _=L3 at bb k3 ⊢;refine qc (k3 _ _ n1 a0) (qc (k3 _ _ n3 a4) {_,_,k3 _ _ n2 ag,k3 _ _ n4 al,small (by rw[U,U];lia),λpp bc=>?_});rw[<-kB];refine Lo (E:=I.E++J.E) (l:=x) (r:=y) (k:=9) q9 (by rw[Ab];lia) (λy' Q' h=>h) (λ_=>rfl) λpe bd=>?_;generalize hL:qg (qg L3 pp _) pe _=L4;have s4:qf L3 L4:=by rw[<-hL];exact(By bc).trans (By bd)
 have bn:L4 pe=some (.lst<|zq<|kj I.E J.E x y):=by rw[<-hL];exact q9
 clear hL bc bd;have k4:∀z o,z≠ka->L2 z=some o->L4 z=some o:=λz o n e=>s4 _ _<|k3 z o n e;have au:=s4 _ _ bb;have av:=k4 _ _ (AL B.nkf) ac;have nn:(((xz<|j++[.nd false x y]).length:Nat):Int)-1=((j.length:Nat):Int):=by rw[Ac,Ab];simp
 have lb:(kj I.E J.E x y).length<=(I.E++J.E).length:=List.length_filter_le ..;rw[Ab] at lb;refine qc av<|qc au<|qc (k4 _ _ n1 a0)<|qc (k4 _ _ n3 a4)<|qc au λpn C=>?_;refine{_,_,By C _ _ bn,q9,small (by rw[U];show _+1<=1000;lia),λpb a5 pa ab=>?_};have be:pb≠pa:=v4 q9 ab;have nb:=(By C).none a5;have na:=((By C).trans<|By a5).none ab;generalize hL:qg (qg (qg L4 pn _) pb _) pa _=L7;have s7:qf L4 L7:=by rw[<-hL];exact((By C).trans<|By a5).trans (By ab)
 have ea:L7 pa=some (.lst [qr<|.bo j.length I.R J.R,.ref pb]):=by rw[<-hL,q9];dsimp only;rw[nn];rfl
 have eb:L7 pb=some (.lst<|zq<|kj I.E J.E x y++[j.length]):=by rw[<-hL,qb be,q9];dsimp only;rw[nn,kB];rfl
 clear hL C a5 ab;refine qi (s7 _ _ av) {big _ (by rw[p];lia),?_};have s1:=B.sr I m1;have s2:=B.sr J m2;have aL:∀z,z∈I.E->z∈J.E->False:=λz h1 h2=>B.two z (s1.sub z h1)<|s2.sub z h2;have bm:=zW (E1:=I.E) (E2:=J.E) (λh=>aL x hx h) λh=>aL y h hy;refine jd (q _ (j++[.nd false x y]) (rest++[{pa,pb,.bo j.length I.R J.R,kj I.E J.E x y++[j.length]}]) {(bR.put (old:=[I,J]) B k4 au av na nb (AL be) s7 ea eb (B.ok.snoc {s1.lt x<|s1.sub x hx,s2.lt y<|s2.sub y hy}) (.bo (eQ _ _ _) (s1.more _) (s2.more _) hx hy (λz=>?_) ?_) ?_).setF _,by rw[q9,gZ]} (by rw[Ab];rfl) (by rw[Ab];simp;lia) {{_,rfl,λk hk=>{_,_,_,Ak.mp hk}},λh t ht=>?_})
 .rw[Ao,bm,Ak,or_assoc]
 .rw[AB];refine{zT s1._M s2._M aL,by simp,λu hu v hv e=>?_};rw[Ak.mp hv] at e;rcases (bm u).mp hu with⟨h,_⟩|⟨h,_⟩
  .have:=s1.lt u<|s1.sub u h;lia
  .have:=s2.lt u<|s2.sub u h;lia
 .show(j.length::(qm I.R++qm J.R)).Perm (List.range' j.length 1++([I,J].flatMap λt=>qm t.R));simp[CN]
 .have h':∀u∈I::J::rest,Fo u.R:=λu hu=>h u<|ba.mem_iff.mpr hu;rcases Ao.mp ht with ht|ht
  .exact h' t<|Ag _<|Ag _ ht
  .rw[Ak.mp ht];exact{h' I m1,h' J m2}
def u7{E:aab}{k:Int}(h:0<E.length):∃(j x:Nat),E[j]?=some x/\0<=k % ((zq E).length:Int)/\k % ((zq E).length:Int)<((zq E).length:Int)/\
 (zq E)[(k % ((zq E).length:Int)).toNat]?=some (.int ((x:Nat):Int))/\(zq E).eraseIdx (k % ((zq E).length:Int)).toNat=zq (E.eraseIdx j):=by
 obtain⟨j,x,J,U,I⟩:=jF h k;have e:(zq E).length=E.length:=Ac ..;rw[e,J];refine{j,x,I,by exact Bf _,by lia,?_,?_}
 .show(zq E)[j]?=_;rw[Al,I];rfl
 .exact jY _ E j
def HN{a:Addr}{o:LO}:∀z u,z≠a->L z=some u->qg L a o z=some u:=λz u n e=>(qb n).trans e
inductive im(ys:_T)(L:qh)(Q:YK):Prop
 |mk:∀L0 ka fa ks,∀pre post:aax,∀t:Tr,∀one two:Int,(ys=[.ref ka,.ref t.a,.int one,.int two])->(qI L0 L ka fa ks<|pre++t::post)->(ks.length<=200)->(∀L' fy fo',qI L0 L' ka fa fy fo'->fy.length<=ks.length+1->fo'.length=(pre++t::post).length->Ln ks (pre++t::post) fy fo'->Q .KF L')->im ys L Q
theorem WX:_f im Lm.1 6:=by
 rintro ys L Q ⟨L0,T,fa,I,pre,post,t,one,two,rfl,F,bb,q⟩;have big:=a_;have mt:t∈pre++t::post:=by simp
 have B:=F.b;obtain⟨ta,tb⟩:=B.ht t mt;have le:=bG B mt;have s:=B.sr t mt;have U:∀E:aab,(zq E).length=E.length:=λE=>Ac ..;refine qc ta<|qc tb ?_;refine jp (λc=>?_) λc=>?_
 .exact jd<|q L I _ F (Cd _) rfl {{[],(AG _).symm,λk hk=>by cases hk},λh=>h}
 have c:¬(((zq t.E).length:Int)<2):=c;rw[U] at c;have ad:=B.ad;have nkf:=B.nkf;have nk:=B.nk;have r:t.a≠t.b:=by rw[AQ,AQ,AD,Bc,AB,AB] at ad;have:=ad.2.2.2.1.1;simpa[Tr._m] using this
 obtain⟨C,x,e1,a1,a2,a3,a4⟩:=u7 (k:=two) le.1;refine qc ta (qc tb (qc ta (qc tb {(by show(0:Int)<((zq t.E).length:Int);rw[U];omega),qi tb {a1,a2,qj a3 ?_}})));rw[a4];have be:(t.E.eraseIdx C).length+1=t.E.length:=by have:=(xb e1).length_eq;rw[Ap] at this;lia
 have a5:qg L t.b (.lst<|zq<|t.E.eraseIdx C) t.a=some (.lst [qr t.R,.ref t.b]):=by rw[qb r];exact ta
 obtain⟨j2,y,e2,b1,b2,b3,b4⟩:=u7 (E:=t.E.eraseIdx C) (k:=one) (by lia);refine qc a5 (qc q9 (qc a5 (qc q9 {(by show(0:Int)<((zq<|t.E.eraseIdx C).length:Int);rw[U];omega),qi q9 {b1,b2,qj b3 ?_}})));rw[b4,jc];have bc:((t.E.eraseIdx C).eraseIdx j2).length+1=(t.E.eraseIdx C).length:=by have:=(xb e2).length_eq;rw[Ap] at this;lia
 have pE:t.E.Perm (x::y::(t.E.eraseIdx C).eraseIdx j2):=(xb e1).trans<|(xb e2).cons _;generalize (t.E.eraseIdx C).eraseIdx j2=j at bc pE;have nt:=nk t mt;have k1:=HN (L:=L) (a:=t.b) (o:=.lst<|zq j);have ab:qg L t.b (.lst<|zq j) t.b=some (.lst<|zq j):=q9;generalize qg L t.b _=L1 at k1 ab ⊢;have ac:=k1 _ _ (AL nt.2.2.2) B.hk;refine qc ac (qi ac {big _ (by rw[Ac];exact Fy),?_});have ek:xz I++[.tup [.str "either",.int ((x:Nat):Int),.int ((y:Nat):Int)]]=xz (I++[.nd true x y]):=by unfold xz;rw[Ar];rfl
 rw[ek];have nn:(((xz<|I++[.nd true x y]).length:Nat):Int)-1=((I.length:Nat):Int):=by rw[Ac,Ab];simp
 have k2:=HN (L:=L1) (a:=T) (o:=.lst<|xz<|I++[.nd true x y]);have a0:qg L1 T (.lst<|xz<|I++[.nd true x y]) T=some (.lst<|xz<|I++[.nd true x y]):=q9;generalize qg L1 T _=L2 at k2 a0 ⊢;have ag:=k2 _ _ nt.2.2.1<|k1 _ _ r ta;refine qc a0<|qc ag<|qi ag<|qj (v:=0) rfl ?_;generalize hL:qg L2 t.a _=L3;have al:L3 t.a=some (.lst [qr<|.ei I.length t.R,.ref t.b]):=by rw[<-hL,q9];dsimp only;rw[nn];rfl
 have k3:∀z o,z≠t.a->L2 z=some o->L3 z=some o:=by rw[<-hL];exact HN
 clear hL;have au:=k3 _ _ (AL nt.2.2.1) a0;have av:=k3 _ _ (AL r)<|k2 _ _ nt.2.2.2 ab;have g:∀b u,b≠t.a->b≠t.b->b≠T->L b=some u->L3 b=some u:=λb u n1 n2 n3 e=>k3 _ _ n1<|k2 _ _ n3<|k1 _ _ n2 e;refine qc al (qc av (qc au (qi av {big _ (by rw[U];lia),?_})));have en:zq j++[.int<|(((xz<|I++[.nd true x y]).length:Nat):Int)-1]=zq (j++[I.length]):=by rw[nn];unfold zq;rw[Ar];rfl
 have l:=pE.nodup_iff.mp s._M;rw[AQ,AQ] at l;have hx:x∈t.E:=pE.mem_iff.mpr (by simp);have hy:y∈t.E:=pE.mem_iff.mpr (by simp);have bd:∀u∈pre++post,u.a≠t.a/\u.a≠t.b/\u.b≠t.a/\u.b≠t.b:=λu J=>by have p:(pre++t::post).Perm (t::(pre++post)):=CP;have aL:=(p.flatMap_right Tr._m).nodup_iff.mp (by rw[AQ,AQ] at ad;exact ad.2.2);rw[Bc,AB] at aL;have k:=aL.2.2;have ma:u.a∈(pre++post).flatMap Tr._m:=Bl.mpr {u,J,by simp[Tr._m]};have mb:u.b∈(pre++post).flatMap Tr._m:=Bl.mpr {u,J,by simp[Tr._m]};exact{λe=>k t.a (by simp[Tr._m]) u.a ma e.symm,λe=>k t.b (by simp[Tr._m]) u.a ma e.symm,λe=>k t.a (by simp[Tr._m]) u.b mb e.symm,λe=>k t.b (by simp[Tr._m]) u.b mb e.symm}
 refine jd (q _ (I++[.nd true x y]) (pre++⟨t.a,t.b,.ei I.length t.R,j++[I.length]⟩::post) {?_,?_} (by rw[Ab];exact Aj _) (by simp) {{_,rfl,λk hk=>{_,_,_,Ak.mp hk}},λh u J=>?_})
 rotate_right
 .rcases Ao.mp J with J|J
  .exact h u<|Ay _ J
  .rcases Aq.mp J with rfl|J
   .exact h t mt
   .exact h u<|Ai _<|Ag _ J
 .have B':=B.perm (fo':=[t]++(pre++post)) CP;have st:=bR.step (old:=[t]) (rest:=pre++post) (t':={t.a,t.b,.ei I.length t.R,j++[I.length]}) (ms:=[.nd true x y]) (L':=qg L3 t.b<|.lst<|zq j++[.int<|(((xz<|I++[.nd true x y]).length:Nat):Int)-1]) B' ?_ {?_,?_} (λu J=>?_) (λb o e=>?_) ?_ (λz hz=>?_) ?_ ?_ ?_
  .exact st.perm (by have p1:((pre++post)++[({t.a,t.b,.ei I.length t.R,j++[I.length]}:Tr)]).Perm ((⟨t.a,t.b,.ei I.length t.R,j++[I.length]⟩:Tr)::(pre++post)):=Cf _ _;exact p1.trans CP.symm)
  .rw[qb<|AL (nk t mt).2.2.2];exact au
  .rw[qb r];exact al
  .rw[q9,en]
  .have ba:u∈pre++t::post:=by rcases Ao.mp J with h|h;exact Ay _ h;exact Ai _ (Ag _ h)
   obtain⟨n1,n2,n3,n4⟩:=bd u J;obtain⟨k1,k2,k3,k4⟩:=nk u ba;obtain⟨h1,h2⟩:=B.ht u ba;rw[h1,h2,qb n2,qb n4];exact{g _ _ n1 n2 k3 h1,g _ _ n3 n4 k4 h2}
  .have fr:=B.fr;have n0:∀z,L0 z=none->b≠z:=λz hz w=>by rw[w,hz] at e;cases e
   have n1:=n0 T<|fr T (by simp);have n2:=n0 t.a<|fr t.a (by simp[Tr._m]);have n3:=n0 t.b<|fr t.b (by simp[Tr._m]);rw[qb n3];exact g _ _ n2 n3 n1<|B.sub _ _ e
  .have p:(pre++t::post).Perm ((pre++post)++[t]):=CP.trans (Cf _ _).symm;have e:((pre++post)++[({t.a,t.b,.ei I.length t.R,j++[I.length]}:Tr)]).flatMap Tr._m=((pre++post)++[t]).flatMap Tr._m:=by simp[AD,Tr._m]
   rw[e];exact(((p.flatMap_right Tr._m).cons _).cons _).nodup_iff.mp ad
  .have hz:z=t.a\/z=t.b:=by simpa[Tr._m] using hz
   rcases hz with rfl|rfl
   .exact B.fr _ (by simp[Tr._m])
   .exact B.fr _ (by simp[Tr._m])
  .exact B.ok.snoc {s.lt x<|s.sub x hx,s.lt y<|s.sub y hy}
  .refine .ei (eQ _ _ _) (s.more _) hx hy (λe=>l.1 (by rw[e];exact An ..)) (λz=>?_) ?_
   .rw[Ao,Ak];have hm:=pE.mem_iff (a:=z);rw[Aq,Aq] at hm;have h1:z∈j->z≠x/\z≠y:=λh=>{λe=>l.1 (by rw[<-e];exact Ag _ h),λe=>l.2.1<|e▸h};constructor
    .rintro(h|h)
     .exact .inl {hm.mpr<|.inr<|.inr h,h1 h}
     .exact .inr h
    .rintro(⟨h,c1,c2⟩|h)
     .rcases hm.mp h with e|e|e
      .exact absurd e c1
      .exact absurd e c2
      .exact .inl e
     .exact .inr h
   .rw[AB];refine{l.2.2,by simp,λu J v hv e=>?_};rw[Ak.mp hv] at e;have:u∈t.E:=pE.mem_iff.mpr<|Ag _<|Ag _ J;have:=s.lt u<|s.sub u this;lia
  .show(I.length::qm t.R).Perm (List.range' I.length 1++([t].flatMap λt=>qm t.R));simp[CN]
 .have nf:=nk t mt;rw[qb<|AL nf.2.1];have:=g fa _ (AL nf.1) (AL nf.2.1) (AL nkf) F.hf;rw[this];unfold zk;rw[Ar,Ar];rfl
def WY(I:jf)(p1:jf)(p2:jf)(p3:jf):fe:=(x4 (km (tL sn (qw 1)<|zb (aZ vZ (qw 3)<|j_ 1) vj)<|qz 4)
 (x4 (km (aZ u5 (qT 4 1)<|aZ vZ (aZ Hi (qw 3)<|dS 64)<|u_ Fb<|mS<|qT 4 1)<|qz 5)
 (x4 (km (vh I<|zD (qw 0)<|qw 5)<|qz 6)
 (x4 (km (FP (yC .KF)<|yC .KF)<|lv 2<|v5 (qz 7)<|v5 (qz 8) gB)
 (x4 (Ff (ph<|mS<|j_ 1) (qz 9)<|Ff (yE<|aZ u5 (aZ u5 (qw 1)<|qw 9)<|dS 1) (qz 10)<|gK (Hc (yB<|uQ false<|qw 7)<|w_ (vh I<|zD (qw 0)<|qw 10)<|vh p1<|mS<|qw 6) (km (qV<|zb (aZ u5 (qw 1)<|qw 9)<|mS<|qw 10)<|lv 2<|v5 (qz 7)<|v5 (qz 8) gB) cI)
 (x4 (gK (Hc (yB<|uQ false<|qw 7)<|yB<|aZ JW (vh p2<|mS<|qw 6)<|dS 5) (x4 (dN<|tL wb (qw 1)<|mS<|qw 4)
 JB) cI)
 (rj (gK (yB<|uQ false<|qw 7) (x4 (km (vh p3<|zD (qw 0)<|qw 6)<|K3 3<|v5 (qz 11)<|v5 (qz 8)<|v5 (qz 12) gB)
 (km (pI<|zb (qw 11)<|zb (pI<|zD (qw 8)<|qw 12) vj)<|qz 7))<|dN<|tL nH (qw 1)<|mS<|qw 7)
 (x4 (km (FF 1 (yE<|aZ yu (qT 4 1)<|qT 7 1) (qz 14) (yB<|aZ (FI true) (qw 14)<|FP (qw 5)<|qw 8)<|qw 14)<|qz 13)
 (gK (w_ (aZ vZ (qw 2)<|dS 2)<|dS 0) (dN<|tL wb (qw 1)<|zb (pI<|zb (qV<|zb (i_ "cut")<|zb (qw 5)<|zb (qw 8)<|zD (qT 4 0)<|qT 7 0)<|mS<|qw 13) vj)<|dN<|tL wb (qw 1)<|zb (pI<|zb (qV<|zb (i_ "cut")<|zb (qw 8)<|zb (qw 5)<|zD (qT 7 0)<|qT 4 0)<|mS<|qw 13) vj)))))))))
theorem ss:∀a b:List Da,Da.eqs a b=true->a.length=b.length
 |[],[],_=>rfl
 |[],_::_,h=>by cases h
 |_::_,[],h=>by cases h
 |x::r,y::q,h=>by have h:(Da.eq x y&&Da.eqs r q)=true:=h;rw[Be] at h;rw[Ap,Ap,ss r q h.2]
def WZ(u:Wd):∀v:Wd,Da.eq (oE u) (oE v)=true->u=v:=by
 induction u with
 |leaf t n=>
  intro v h;cases v with
  |leaf T n'=>
   rw[WT,Be] at h;rw[of_decide_eq_true h.1,of_decide_eq_true h.2]
  |node e l r=>exact absurd (ss _ _ h) (by intro z;cases z)
 |node e l r g j=>
  intro v h;cases v with
  |leaf t n=>exact absurd (ss _ _ h) (by intro z;cases z)
  |node I J U=>
   have h:(gb (.str<|kN e) (.str<|kN I)&&(Da.eq (oE l) (oE J)&&(Da.eq (oE r) (oE U)&&true)))=true:=h;rw[Be,Be,Be] at h;obtain⟨o,p,C,_⟩:=h;have:e=I:=by cases e<;>cases I<;>first|rfl|(exfalso;revert o;decide +kernel)
   rw[this,g J p,j U C]
def zx:Ru->Nat
 |.link _ _=>1
 |.ei _ A=>zx A+1
 |.bo _ A B=>max (zx A) (zx B)+1
 |.cu _ _ A B=>max (zx A) (zx B)+1
theorem xj:∀R:Ru,zx R+1<=(qm R).length
 |.link _ _=>Aj _
 |.ei _ A=>by have:=xj A;simp[zx,qm];lia
 |.bo _ A B=>by have:=xj A;have:=xj B;simp[zx,qm];lia
 |.cu _ _ A B=>by have:=xj A;have:=xj B;simp[zx,qm];lia
def bN:Ru->Da
 |.link p q=>.tup [.s<|.str "link",.s<|.int (p:Int),.s<|.int (q:Int)]
 |.ei r A=>.tup [.s<|.str "either",.s<|.int (r:Int),bN A]
 |.bo r A B=>.tup [.s<|.str "both",.s<|.int (r:Int),bN A,bN B]
 |.cu p q A B=>.tup [.s<|.str "cut",.s<|.int (p:Int),.s<|.int (q:Int),bN A,bN B]
theorem cq{L:qh}:∀{R:Ru} {n:Nat},zx R<=n->j9 L n (qr R) (bN R)
 |.link p q,n+1,_=>bv<|.cons (EN _)<|.cons (EW _)<|.cons (EW _) .nil
 |.ei r A,n+1,h=>bv (.cons (EN _) (.cons (EW _) (.cons (cq (by simp[zx] at h;lia)) .nil)))
 |.bo r A B,n+1,h=>bv (.cons (EN _) (.cons (EW _) (.cons (cq (by simp[zx] at h;lia)) (.cons (cq (by simp[zx] at h;lia)) .nil))))
 |.cu p q A B,n+1,h=>bv (.cons (EN _) (.cons (EW _) (.cons (EW _) (.cons (cq (by simp[zx] at h;lia)) (.cons (cq (by simp[zx] at h;lia)) .nil)))))
 |.link _ _,0,h=>by simp[zx] at h
 |.ei _ _,0,h=>by simp[zx] at h
 |.bo _ _ _,0,h=>by simp[zx] at h
 |.cu _ _ _ _,0,h=>by simp[zx] at h
theorem aq:∀R:Ru,Da.eq (bN R) (bN R)=true
 |.link p q=>by simp[bN,Da.eq,Da.eqs,gb]
 |.ei r A=>by simp[bN,Da.eq,Da.eqs,gb,aq A]
 |.bo r A B=>by simp[bN,Da.eq,Da.eqs,gb,aq A,aq B]
 |.cu p q A B=>by simp[bN,Da.eq,Da.eqs,gb,aq A,aq B]
def jM(E:aab):List Da:=E.map λn:Nat=>Da.s<|.int (n:Int)
theorem Lp{L:qh}{n:Nat}:∀E:aab,Paired (j9 L n) (zq E)<|jM E
 |[]=>.nil
 |_::r=>.cons (EW _)<|Lp r
theorem sd:∀E I:aab,Da.eqs (jM E) (jM I)=true↔E=I
 |[],[]=>by simp[jM,Da.eqs]
 |[],_::_=>by simp[jM,Da.eqs]
 |_::_,[]=>by simp[jM,Da.eqs]
 |x::r,y::J=>by
  have U:=sd r J;show(Da.eq (.s<|.int (x:Int)) (.s<|.int (y:Int))&&Da.eqs (jM r) (jM J))=true↔_;rw[Be,U];have:Da.eq (.s<|.int (x:Int)) (.s<|.int (y:Int))=true↔x=y:=by show decide ((x:Int)=(y:Int))=true↔_;rw[decide_eq_true_iff];lia
  rw[this];constructor
  .rintro⟨rfl,rfl⟩;rfl
  .intro e;injection e with g j;exact{(g),j}
def ft(t:Tr):Da:=.lst [bN t.R,.lst<|jM t.E]
def t9{t:Tr}{n:Nat}(I:L t.a=some (.lst [qr t.R,.ref t.b]))(J:L t.b=some (.lst<|zq t.E))(h:zx t.R<=n+1):j9 L (n+2) (.ref t.a) (ft t):=
 az I (.cons (cq h)<|.cons (az J<|Lp _) .nil)
def W0{t u:Tr}:Da.eq (ft t) (ft u)=true->t.E=u.E:=by intro h;have h:(Da.eq (bN t.R) (bN u.R)&&(Da.eqs (jM t.E) (jM u.E)&&true))=true:=h;rw[Be,Be] at h;exact(sd _ _).mp h.2.1
def W1(t:Tr):Da.eq (ft t) (ft t)=true:=by show(Da.eq (bN t.R) (bN t.R)&&(Da.eqs (jM t.E) (jM t.E)&&true))=true;rw[aq,(sd _ _).mpr rfl];rfl
def bR.rd(h:bR L0 L ka fa ks fo){t:Tr}(I:t∈fo):zx t.R<=ks.length:=by
 have U:=xj t.R;have nd:(qm t.R).Nodup:=by obtain⟨a,b,rfl⟩:=BY I;have:=h.nd;rw[AD,Bc,AB,AB] at this;exact this.2.1.1
 have:=bV _ _ nd λx J=>(h.sr t I).lt x J;exact Jh
def bR.one(h:bR L0 L ka fa ks fo){t u:Tr}(hi:fo[i]?=some t)(I:fo[j]?=some u)(e:t.E=u.E):i=j:=by
 by_cases c:i=j
 .exact c
 .exfalso;have s:=h.sr t<|AE hi;have l:=s.ends h.ok;obtain⟨x,J⟩:∃x,x∈t.E:=by cases g:t.E with|nil=>rw[g] at l;simp at l|cons x r=>exact{x,An ..}
  have o:=h.sr u<|AE I;have p:=xb hi;have C:(u::(fo.eraseIdx i))=_:=rfl;have U:u∈fo.eraseIdx i:=by have:fo[j]?=some u:=I;rw[List.mem_eraseIdx_iff_getElem?];exact{j,λz=>c z.symm,I}
  obtain⟨a,b,T⟩:=BY U;have nd:=(p.flatMap_right λt:Tr=>qm t.R).nodup_iff.mp h.nd;rw[Bc,AB] at nd;exact nd.2.2 x (s.sub x J) x (Bl.mpr {u,U,o.sub x<|e▸J}) rfl
theorem o5:∀w:Wd,w.turn.turn=w
 |.leaf t n=>by simp[Wd.turn]
 |.node e l r=>by simp[Wd.turn,o5 l,o5 r]
theorem dJ:∀w:Wd,w.turn.depth=w.depth
 |.leaf t n=>rfl
 |.node e l r=>by simp[Wd.turn,Wd.depth,dJ l,dJ r]
def Fd(ks:Pi)(w:Wd)(rest:aax)(I J:Y):Prop:=(I=.KF/\J=.KF)\/∃(j:Nat) (u:Tr) (q:Nat),rest[j]?=some u/\q∈u.E/\dF ks q w.turn/\I=.ref u.a/\J=.int (q:Int)
def W2{g j:qh}{t1 u:Tr}{x q:Nat}{w:Wd}(B:bR L0 g ka fa ks<|t1::u::rest){fs:LO}(hf:g fa=some fs)(hx:x∈t1.E)(hq:q∈u.E)(o:dF ks x w)(p:dF ks q w.turn){I:Addr}(s:qf g j)(a0:g I=none)
 (he:j I=some (.lst<|zq<|kj t1.E u.E x q)) (J:j pa=none) (hR:R=.cu x q t1.R u.R\/R=.cu q x u.R t1.R):bR L0 (qg j pa<|.lst [qr R,.ref I]) ka fa ks (rest++[{pa,I,R,kj t1.E u.E x q}]):=by
 have t:I≠pa:=v4 he J;have C:=B.sr t1 (by simp);have T:=B.sr u (by simp);have U:∀z,z∈t1.E->z∈u.E->False:=λz h1 h2=>B.two z (C.sub z h1)<|T.sub z h2;have bm:=zW (E1:=t1.E) (E2:=u.E) (λh=>U x hx h) λh=>U q h hq;have _M:=zT (l:=x) (r:=q) C._M T._M U;have st:=bR.put (M:=g) (L':=qg j pa<|.lst [qr R,.ref I]) (old:=[t1,u]) (ms:=[]) (R:=R) (E:=kj t1.E u.E x q) (pa:=pa) (pb:=I) B (λ_ _ _ e=>e) (by rw[AG];exact B.hk) hf (s.none J) a0 (AL t) (s.trans<|By J) q9 (by rw[qb t];exact he) (by rw[AG];exact B.ok) ?_ ?_
 .rw[AG] at st;exact st
 .rw[AG];rcases hR with rfl|rfl
  .exact .cu C T hx hq o p bm _M
  .exact .cu (w:=w.turn) T C hq hx p (by rw[o5];exact o) (λz=>by rw[bm];exact Or.comm) _M
 .rcases hR with rfl|rfl
  .show(qm t1.R++qm u.R).Perm _;simp
  .show(qm u.R++qm t1.R).Perm _;simpa using BV
def CJ(L0:qh)(ka fa:Addr)(ks:Pi)(one two:Int)(t1:Tr)(x:Nat)(w:Wd)(n:Nat)(τ:j5)(L:qh):Prop:=∃ms u q rest g I J U,τ=[some<|.ref ka,some<|.ref fa,some<|.int one,some<|.int two,some<|.ref t1.a,some<|.int (x:Int),some<|bO w,some<|.ref u.a,some<|.int ((q:Nat):Int),g,I,J,U,none]/\
 bR L0 L ka fa (ks++ms) (t1::u::rest)/\L fa=some (.lst<|zk rest)/\q∈u.E/\dF (ks++ms) q w.turn/\ms.length<=10/\rest.length<=n
inductive m6(ys:_T)(L:qh)(Q:YK):Prop
 |mk:∀L0 ka fa ks fo,∀one two:Int,(ys=[.ref ka,.ref fa,.int one,.int two])->(qI L0 L ka fa ks fo)->(1<=fo.length)->(fo.length<=110)->(ks.length<=110)->(∀L' fy fo',qI L0 L' ka fa fy fo'->fy.length<=ks.length+10->1<=fo'.length->fo'.length<=fo.length->Q .KF L')->m6 ys L Q
theorem W3{FS MS:jf}(hF:∀ys L Q,aF 120 ys L Q->FS ys L Q)(hM:∀ys L Q,aO 5 ys L Q->MS ys L Q):_f m6 (WY (x6 120) FS (ay 120) MS) 14:=by
 rintro ys L Q ⟨L0,ka,fa,ks,fo,one,two,rfl,F,h1,c1,bi,q⟩;have big:=a_;have C:∀fo:aax,(zk fo).length=fo.length:=λfo=>Ac ..;obtain⟨j1,I,ba,a1,a2,a3,g⟩:=yG (k:=two) F.hf (by assumption);have l1:(fo.eraseIdx j1).length+1=fo.length:=by have:=(xb ba).length_eq;rw[Ap] at this;lia
 refine qc F.hf (qc F.hf {(by show(0:Int)<((zk fo).length:Int);rw[C];lia),qi F.hf {a1,a2,qj a3 ?_}});have B:=(F.b.perm<|xb ba).setF<|.lst<|(zk fo).eraseIdx (two % ((zk fo).length:Int)).toNat;generalize qg L fa _=L1 at g B ⊢;generalize fo.eraseIdx j1=rest at l1 g B;clear a1 a2 a3;have m1:I∈I::rest:=by simp
 obtain⟨a0,a5⟩:=B.ht I m1;have ab:=bG B m1;have s1:=B.sr I m1;obtain⟨x,hx,ex⟩:=tO ab.1<|two / 64;refine qc a0 {{by decide,by decide},qc a0 (qc a5 {(by show(0:Int)<((zq I.E).length:Int);rw[Ac];omega),qc a5<|qj ex ?_})};obtain⟨w,hw,c3,bb⟩:=pK B.ok (x+1) x (by exact BN _)<|s1.lt x<|s1.sub x hx;have c4:=s1.lt x<|s1.sub x hx;refine{ka,xz ks,x,w,rfl,B.hk,hw,by lia,?_};have c5:w.turn.depth=w.depth:=dJ w;refine qc g {{by show _<=(((zk rest).length:Nat):Int);exact Bf _,by show(((zk rest).length:Nat):Int)<_;rw[C];omega},?_};refine jB (λi τ L'=>∃v7 v8 c9 T,τ=[some<|.ref ka,some<|.ref fa,some<|.int one,some<|.int two,some<|.ref I.a,some<|.int (x:Int),some<|bO w,some v7,some v8,c9,T,none,none,none]/\L'=L1/\Fd ks w rest v7 v8) {_,_,_,_,rfl,rfl,.inl {(rfl),rfl}} ?_ ?_
 .rintro i τ L' hi ⟨v7,v8,c9,T,rfl,rfl,fd⟩;have hi:i<rest.length:=by have:i<(((zk rest).length:Nat):Int).toNat:=hi;rw[C] at this;assumption
  obtain⟨u,hu⟩:∃u,rest[i]?=some u:={_,Ah hi};have mu:u∈I::rest:=Ag _<|AE hu;obtain⟨ua,ub⟩:=B.ht u mu;have ei:(zk rest)[i]?=some (.ref u.a):=by unfold zk;rw[Al,hu];rfl
  have e0:(0:Int)+(i:Int)=((i:Nat):Int):=by simp +arith only
  rw[e0];have bc:fS (zk rest) ((i:Nat):Int)=some (.ref u.a):=jk ei;have le:=bG B mu;have su:=B.sr u mu;refine qc g<|qj bc<|qc ua ?_;refine TN (ys:=zq u.E) (w6 ub) (λk τ ac=>∃v7 v8 T,τ=[some<|.ref ka,some<|.ref fa,some<|.int one,some<|.int two,some<|.ref I.a,some<|.int (x:Int),some<|bO w,some v7,some v8,some<|.int ((i:Nat):Int),T,none,none,none]/\ac=L'/\Fd ks w rest v7 v8) {_,_,_,rfl,rfl,fd} ?_ ?_ ?_
  .rintro k τ _ ⟨_,_,_,_,rfl,_⟩;rfl
  .rintro k y τ ac ey ⟨v7,v8,T,rfl,rfl,fd⟩;obtain⟨z,ez,rfl⟩:∃z:Nat,u.E[k]?=some z/\y=Y.int (z:Int):=by rw[Al] at ey;obtain⟨z,e1,e2⟩:=Ax.mp ey;exact{(z),e1,e2.symm}
   have hz:z∈u.E:=AE ez;rcases fd with⟨rfl,rfl⟩|⟨j,t,q0,h1,h2,h3,rfl,rfl⟩
   .have bj:=su.lt z<|su.sub z hz;obtain⟨v,hv,c6,c2⟩:=pK B.ok (z+1) z (by exact BN _) bj;refine{ka,xz ks,z,v,rfl,B.hk,hv,by lia,hF _ _ _ {w,rfl,by lia,?_}};refine qA (u:=v) (v:=w.turn) (by lia) ?_;show wg (Da.eq (oE v)<|oE w.turn) _ _;refine mv (λc=>?_) λc=>?_
    .have hh:=WZ _ _ c;refine qc g<|qj bc ?_;refine{_,EE _,?_};exact{_,_,_,rfl,rfl,.inr {i,u,z,hu,hz,hh▸hv,rfl,rfl}}
    .refine{_,EE _,?_};exact{_,_,_,rfl,rfl,.inl {(rfl),rfl}}
   .refine{_,EE _,?_};exact{_,_,_,rfl,rfl,.inr {(j),t,q0,h1,h2,h3,rfl,rfl}}
  .rintro τ ac ⟨v7,v8,T,rfl,rfl,fd⟩;refine{_,EE _,?_};exact{_,_,_,_,rfl,rfl,fd}
 .rintro τ L' ⟨v7,v8,c9,T,rfl,rfl,fd⟩;rcases fd with⟨rfl,rfl⟩|⟨j,u,q0,hj,ag,al,rfl,rfl⟩
  case' inl=>
   refine{w,rfl,by lia,?_};show wg (decide<|(w.size:Int) > 5) _ _;refine jp (λc=>?_) λc=>?_
   case' refine_1=>
    refine qc g (qi g {big _ (by rw[C];lia),?_});rw[<-gZ];exact jd (q _ ks (rest++[I]) {(B.perm (Cf _ _).symm).setF _,q9} (by exact Bd _ _) (by simp) (by rw[Ab];simp;exact xY))
   case' refine_2=>
    refine{CJ L0 ka fa ks one two I x w rest.length,?_,?_}
    .refine hM _ _ _ {ka,ks,w,rfl,B.hk,(by have h1:=w._L;have h2:=w.size_eq;lia),(by decide),bb,B.ok,by lia,λms R tp sp p hp a4=>?_};refine qi q9 ?_;intro pb au pa J;have av:qg L' ka (.lst<|xz<|ks++ms) p=none:=by rw[qb<|AL<|v4 B.hk hp];exact hp
     have bd:pb≠pa:=v4 q9 J;have nb:=(By av).none au;have na:=((By av).trans<|By au).none J;have be:qg L' ka (.lst<|xz<|ks++ms) fa=some (.lst<|zk rest):=by rw[qb<|AL B.nkf];exact g
     generalize hL:qg (qg (qg _ p _) pb _) pa _=LF;have sA:qf (qg L' ka<|.lst<|xz<|ks++ms) LF:=by rw[<-hL];exact((By av).trans<|By au).trans (By J)
     have ea:LF pa=some (.lst [qr R,.ref pb]):=by rw[<-hL];exact q9
     have eb:LF pb=some (.lst<|zq [tp,sp]):=by rw[<-hL,qb bd];exact q9
     clear hL;refine{ms,{pa,pb,R,[tp,sp]},tp,rest,_,_,_,_,rfl,?_,sA _ _ be,An ..,a4.wt,by have:=a4.len;lia,Aj _};have st:=bR.put (old:=[]) B (λz o n e=>(qb n).trans e) q9 be na nb (AL bd) sA ea eb a4.ok a4.sr (by rw[Do,AG];exact(AY a4.nd DO).mpr λz=>by rw[a4.tm,C8]);exact st.perm<|(Cf _ _).trans<|List.Perm.swap _ _ _
  case' inr=>
   refine{CJ L0 ka fa ks one two I x w rest.length,?_,?_}
   .refine qc g<|qi g {rest.map ft,ft u,120,120,j,by decide,?_,?_,?_,{ft u,?_,W1 u},λk d hk ek=>?_,?_}
    .have dd:∀l:aax,(∀t∈l,t∈I::rest)->Paired (j9 L' 120) (zk l) (l.map ft):=λl=>by
      induction l with
      |nil=>intro _;exact .nil
      |cons t r ih=>
       intro h;have mt:=h t<|An ..;obtain⟨h1,h2⟩:=B.ht t mt;have:=B.rd mt;exact .cons (t9 (n:=118) h1 h2 (by lia))<|ih λt ht=>h t<|Ag _ ht
     exact dd rest λt ht=>Ag _ ht
    .have mt:u∈I::rest:=Ag _<|AE hj;obtain⟨h1,h2⟩:=B.ht u mt;have:=B.rd mt;exact t9 (n:=118) h1 h2 (by omega)
    .rw[Ac];exact(AJ.mp hj).1
    .rw[Al,hj];rfl
    .rw[Al] at ek;obtain⟨v,ev,rfl⟩:=Ax.mp ek;cases c:Da.eq (ft v) (ft u) with
     |false=>rfl
     |true=>
      have:=B.one (i:=k+1) (j:=j+1) (by simpa using ev) (by simpa using hj)<|W0 c;lia
    .rw[om];have B2:=(B.perm<|(xb hj).cons _).setF<|.lst<|zk<|rest.eraseIdx j;exact{[],u,q0,rest.eraseIdx j,_,_,_,_,rfl,(AG ks).symm▸B2,q9,ag,(AG ks).symm▸al,Bb _,C0 ..}
  all_goals
   rintro c7 L' ⟨ms,u,q0,U,c9,T,c8,ca,rfl,B',hf,ag,al,cc,ck⟩;have m1:I∈I::u::U:=by simp
   have m2:u∈I::u::U:=by simp
   obtain⟨a0,a5⟩:=B'.ht I m1;obtain⟨aL,bm⟩:=B'.ht u m2;have ab:=bG B' m1;have bn:=bG B' m2;rw[Ab] at ab bn;refine qc a0 (qc aL {_,_,a5,bm,small (by rw[Ac,Ac];omega),λpp bf=>?_});rw[<-kB];refine Lo (E:=I.E++u.E) (l:=x) (r:=q0) (k:=14) q9 (by rw[Ab];omega) (λy' Q' h=>h) (λ_=>rfl) λpe bg=>?_;have bh:L' pe=none:=(By bf).none bg;generalize hL:qg (qg L' pp _) pe _=L4;have s4:qf L' L4:=by rw[<-hL];exact(By bf).trans (By bg)
   have c0:L4 pe=some (.lst<|zq<|kj I.E u.E x q0):=by rw[<-hL];exact q9
   have done:∀(R:Ru) pa,L4 pa=none->(R=.cu x q0 I.R u.R\/R=.cu q0 x u.R I.R)->Q .KF (qg (qg L4 pa<|.lst [qr R,.ref pe]) fa<|.lst<|zk U++[.ref pa]):=λR pa J hR=>by rw[<-gZ U ⟨pa,pe,R,kj I.E u.E x q0⟩];exact q _ (ks++ms) (U++[{pa,pe,R,kj I.E u.E x q0}]) {(W2 B' hf hx ag (hw.more ms) al s4 bh c0 J hR).setF _,q9} (by rw[Ab];omega) (by simp) (by rw[Ab];simp;omega)
   refine{(by show(0:Int)<2;decide),?_};show wg (decide<|one % 2=0) _ _;refine jp (λc=>?_) λc=>?_
   .refine qc (s4 _ _ hf)<|qc (s4 _ _ a0)<|qc (s4 _ _ aL) λpa J=>?_;refine qi (By J _ _<|s4 _ _ hf) {big _ (by rw[C];omega),?_};exact jd<|done _ pa J<|.inl rfl
   .refine qc (s4 _ _ hf)<|qc (s4 _ _ aL)<|qc (s4 _ _ a0) λpa J=>?_;refine qi (By J _ _<|s4 _ _ hf) {big _ (by rw[C];omega),?_};exact jd<|done _ pa J<|.inr rfl
theorem qI.mono(h:qI L0 L ka fa ks fo)(s:qf L L'):qI L0 L' ka fa ks fo:={h.b.mono s,s _ _ h.hf}
def bR.plus{I:qh}{t':Tr}{fs:LO}(B:bR L0 L ka fa ks rest)(j:L fa=some fs)(sA:qf (qg L ka<|.lst<|xz<|ks++ms) I)(ea:I t'.a=some (.lst [qr t'.R,.ref t'.b]))(eb:I t'.b=some (.lst<|zq t'.E))
 (J:qg L ka (.lst<|xz<|ks++ms) t'.a=none) (U:qg L ka (.lst<|xz<|ks++ms) t'.b=none) (g:t'.a≠t'.b) (ok:cQ<|ks++ms) (l:SR (ks++ms) t'.R t'.E) (p:∀x,x∈qm t'.R↔ks.length<=x/\x<ks.length+ms.length) (nd:(qm t'.R).Nodup):
 bR L0 I ka fa (ks++ms) (rest++[t']):=by
 exact bR.put (old:=[]) B (λz o n e=>(qb n).trans e) q9 (by rw[qb<|AL B.nkf];exact j) J U g sA ea eb ok l (by rw[Do,AG];exact(AY nd DO).mpr λz=>by rw[p,C8])
theorem qI.link(F:qI L0 L ka fa ks fo){nm:Str}(j:aJ nm)(b:Bool)(J:qg L ka (.lst<|xz<|ks++[.lf b nm,.lf (!b) nm]) pb=none)
 (U:qg (qg L ka<|.lst<|xz<|ks++[.lf b nm,.lf (!b) nm]) pb (.lst<|zq [ks.length,ks.length+1]) pa=none) {fs:_T} (g:fs=zk fo++[.ref pa]):
 qI L0 (qg (qg (qg (qg L ka<|.lst<|xz<|ks++[.lf b nm,.lf (!b) nm]) pb<|.lst<|zq [ks.length,ks.length+1]) pa<|.lst [qr<|.link ks.length<|ks.length+1,.ref pb]) fa<|.lst fs) ka fa (ks++[.lf b nm,.lf (!b) nm]) (fo++[{pa,pb,.link ks.length<|ks.length+1,[ks.length,ks.length+1]}]):=by
 have I:pb≠pa:=v4 q9 U;have M:=uk F.b.ok (t:=!b) j;rw[Bool.not_not] at M;refine{(bR.plus F.b F.hf ((By J).trans<|By U) q9 (by rw[qb I];exact q9) ((By J).none U) J (AL I) M.ok M.sr M.tm M.nd).setF _,?_};rw[q9,g];unfold zk;rw[Ar];rfl
def bR.dats(h:bR L0 L ka fa ks fo)(o:ks.length<=120):Paired (j9 L 124) (zk fo) (fo.map ft):=by
 have J:∀l:aax,(∀t∈l,t∈fo)->Paired (j9 L 124) (zk l) (l.map ft):=λl=>by
  induction l with
  |nil=>intro _;exact .nil
  |cons t r U=>
   intro k;have mt:=k t<|An ..;obtain⟨g,j⟩:=h.ht t mt;have:=h.rd mt;exact .cons (t9 (n:=122) g j (by lia))<|U λt I=>k t<|Ag _ I
 exact J fo λt I=>I
def Lq(fo:aax):Da.eqs (fo.map ft) []=decide (fo=[]):=by cases fo<;>rfl
def TW(L0:qh)(ka fa:Addr)(s:Int)(room:Nat)(τ:j5)(L:qh):Prop:=∃J U g j l o I ks fo,τ=[J,some<|.int s,some<|.int (room:Int),some<|.ref ka,some<|.ref fa,U,g,j,l,o,I]/\qI L0 L ka fa ks fo/\ks.length+fo.length<=room
def TW.of{s:Int}{room:Nat}{J U g j l o I:Option Y}(F:qI L0 L ka fa ks fo)(h:ks.length+fo.length<=room):TW L0 ka fa s room [J,some<|.int s,some<|.int (room:Int),some<|.ref ka,some<|.ref fa,U,g,j,l,o,I] L:={_,_,_,_,_,_,_,ks,fo,rfl,F,h}
structure HQ(L0:qh)(ks:List<|HT)(qs:aab)(d w D:Addr)(i ex:Nat)(f:aai)(wd:List<|HT)(kvs:List<|zr×Y)(L:qh):Prop where
 sub:qf L0 L
 hd:L d=some (._q kvs)
 hw:L w=some (.lst<|wq wd)
 hD:L D=some (.lst<|nY qs)
 len:kvs.length<=i
 val:∀p:Nat,vq kvs (.inl (p:Int))=if p∈qs.take i then some (.int (f p:Int)) else none
 gap:Gap ks (qs.take i) f wd
 wlen:wd.length<=2*i+ex
structure Ren(f:aai)(ks wd:List<|HT):Prop where
 gap:Gap ks (List.range ks.length) f wd
 len:wd.length<=2*ks.length+1
def oY(wd:List<|HT)(k:HT):wq wd++[i0 k]=wq (wd++[k]):=by unfold wq;rw[Ar];rfl
def ff(wd:List<|HT):(wq wd).length=wd.length:=Ac ..
def vz:Ru->Z9
 |.link p q=>[(p,q)]
 |.ei _ A=>vz A
 |.bo _ A B=>vz A++vz B
 |.cu _ _ A B=>vz A++vz B
def x0:Ru->Z9
 |.link _ _=>[]
 |.ei _ A=>x0 A
 |.bo _ A B=>x0 A++x0 B
 |.cu p q A B=>(p,q)::(x0 A++x0 B)
def aG:Ru->Nat
 |.link _ _=>1
 |.ei _ A=>aG A+1
 |.bo _ A B=>aG A+aG B+1
 |.cu _ _ A B=>aG A+aG B+1
def qy:Ru->aay
 |.link _ _=>[]
 |.ei _ A=>[A]
 |.bo _ A B=>[A,B]
 |.cu _ _ A B=>[A,B]
def vX:Ru->Z9
 |.link p q=>[(p,q)]
 |_=>[]
def vD:Ru->Z9
 |.cu p q _ _=>[(p,q)]
 |_=>[]
def yr(A:Ru):vz A=vX A++(qy A).flatMap vz:=by cases A<;>simp[vz,vX,qy]
def W4(A:Ru):x0 A=vD A++(qy A).flatMap x0:=by cases A<;>simp[x0,vD,qy]
def pX(A:Ru):((qy A).map aG).sum+1=aG A:=by cases A<;>simp[aG,qy]
def Lr(A:Ru):0<aG A:=by cases A<;>simp[aG]
def wa{A B:Ru}(h:B∈qy A):zx B<zx A:=by cases A<;>simp[qy] at h<;>(try rcases h with rfl|rfl)<;>(try subst h)<;>simp[zx]<;>omega
structure lQ(R:Ru)(lk ct:Z8)(st:aay):Prop where
 pl:(lk++st.flatMap vz).Perm (vz R)
 pc:(ct++st.flatMap x0).Perm (x0 R)
 sz:(st.map aG).sum<=aG R
 dp:∀A∈st,zx A<=zx R
def lQ.start(R:Ru):lQ R [] [] [R]:={by simp,by simp,by simp,λA I=>by simp at I;subst I;exact Aj _}
def lQ.step{A:Ru}{lk ct:Z8}{st:aay}(h:lQ R lk ct<|st++[A]):lQ R (lk++vX A) (ct++vD A) (st++qy A):=by
 have pm:∀{X U V W:Z8},(X++U++(V++W)).Perm (X++(V++(U++W))):=λ{X U V W}=>by rw[Av];refine List.Perm.append_left X ?_;rw[<-Av,<-Av];exact List.Perm.append_right W BV
 refine{?_,?_,?_,λB I=>?_}
 .refine List.Perm.trans ?_ h.pl;rw[AD,AD];have:[A].flatMap vz=vX A++(qy A).flatMap vz:=by rw[<-yr];simp
  rw[this];exact pm
 .refine List.Perm.trans ?_ h.pc;rw[AD,AD];have:[A].flatMap x0=vD A++(qy A).flatMap x0:=by rw[<-W4];simp
  rw[this];exact pm
 .have:=h.sz;have:=pX A;simp at *;lia
 .rcases Ao.mp I with I|I
  .exact h.dp B<|Ay _ I
  .have:=wa I;have:=h.dp A<|Ai _<|Ak.mpr rfl;exact Jh
def rq(l:Z8)(p:aaj):qB l++[Lf p]=qB (l++[p]):=by unfold qB;rw[Ar];rfl
def iU(st:aay):Da.eqs (st.map bN) []=decide (st=[]):=by cases st<;>rfl
theorem bL{L:qh}{n:Nat}:∀{st:aay},(∀A∈st,zx A<=n)->Paired (j9 L n) (st.map qr) (st.map bN)
 |[],_=>.nil
 |A::r,h=>.cons (cq<|h A<|An ..)<|bL λB I=>h B<|Ag _ I
def W5(a b:Nat):decide ((a:Int)=(b:Int))=decide (a=b):=by
 by_cases c:a=b
 .rw[AA c];exact AA (by lia)
 .rw[Aw c];exact Aw (by lia)
open Classical in
def aj(lk:Z8):aab:=lk.flatMap λx=>[x.1,x.2]
def iT(a b:Z8):aj (a++b)=aj a++aj b:=by unfold aj;rw[AD]
def vU(x:aaj):aj [x]=[x.1,x.2]:=by simp[aj]
def W6{f:HT->Bool}{ks:List<|HT}{p:Nat}{k:HT}(h:ks[p]?=some k)(I:f k=true)(hi:p<i):p∈f_ f ks i:=by unfold f_;refine A6.mpr {Bj.mpr hi,?_};simp only[h];exact I
theorem bU{α β:Type}{R:α->β->Prop}:∀{xs:List α} {ys:List β} {x:α} {y:β},Paired R xs ys->R x y->Paired R (xs++[x]) (ys++[y])
 |_,_,_,_,.nil,r=>.cons r .nil
 |_,_,_,_,.cons a t,r=>.cons a<|bU t r
def nL(m:Nat)(l:aab):xK (fk<|.int (m:Int)) ((nY l).map fk)=decide (m∈l):=by
 induction l with
 |nil=>rfl
 |cons n r I=>
  have e:xK (fk<|.int (m:Int)) ((nY<|n::r).map fk)=(gb (fk<|.int (n:Int)) (fk<|.int (m:Int))||xK (fk<|.int (m:Int)) ((nY r).map fk)):=rfl;rw[e,I];have J:gb (fk<|.int (n:Int)) (fk<|.int (m:Int))=decide (n=m):=W5 n m;rw[J];by_cases c:n=m
  .subst c;simp
  .by_cases d:m∈r
   .simp[d]
   .simp[c,d,AL c]
def mX(l:aab):(nY l).all lI=true:=by rw[Ce];intro y I;obtain⟨n,_,rfl⟩:=A2.mp I;rfl
def W7{ct:Z8}{c:aaj}(h:c∈ct):c.1∈aj ct/\c.2∈aj ct:=by
 induction ct with
 |nil=>cases h
 |cons d r I=>
  have e:aj (d::r)=[d.1,d.2]++aj r:=by rw[<-vU,<-iT];rfl
  rw[e];rcases Aq.mp h with rfl|h
  .simp
  .obtain⟨a,b⟩:=I h;exact{Ai _ a,Ai _ b}
def W8(c:aaj)(r:Z8):aj (c::r)=c.1::c.2::aj r:=by
 have e:aj (c::r)=[c.1,c.2]++aj r:=by rw[<-vU,<-iT];rfl
 rw[e];rfl
theorem aD:∀R:Ru,aG R+1<=(qm R).length
 |.link _ _=>Aj _
 |.ei r A=>by have:=aD A;show aG A+1+1<=(r::qm A).length;rw[Ap];exact Fz
 |.bo r A B=>by have:=aD A;have:=aD B;show aG A+aG B+1+1<=(r::(qm A++qm B)).length;rw[Ap,Ab];lia
 |.cu _ _ A B=>by have:=aD A;have:=aD B;show aG A+aG B+1+1<=(qm A++qm B).length;rw[Ab];lia
def W9(ok:cQ ks):x_ (ks.map some):=by intro p e i j h;rw[Al] at h;obtain⟨k,I,J⟩:=Ax.mp h;cases J;exact ok p _ I
def ko(ks:Pi):wq (ks.map some)=xz ks:=by show(ks.map some).map i0=ks.map nW;rw[BI];rfl
def KW.lf{p:Nat}{n:Str}(h:wd[p]?=some (some<|.lf t n)):KW (wq wd) p (.leaf t n):=by show(wq wd)[p]?=_;rw[Al,h];rfl
def KW.nd{p:Nat}{e:Bool}{l r:Wd}(h:wd[p]?=some (some<|.nd e i j))(I:KW (wq wd) i l)(J:KW (wq wd) j r):KW (wq wd) p (.node e l r):=
 ⟨i,j,by rw[Al,h];rfl,I,J⟩
def W'{k:Kn}{n:Str}(h:nW k=.tup [.str<|kL t,.str n]):k=.lf t n:=by
 cases k with
 |lf u m=>
  have I:kL u=kL t:=by injection h with h;injection h with h _;injection h
  have J:m=n:=by injection h with h;injection h with _ h;injection h with h _;injection h
  subst J;cases u<;>cases t<;>first|rfl|(exfalso;revert I;decide)
 |nd e i j=>injection h with h;injection h with _ h;injection h with _ h;cases h
def Xa{k:Kn}{e:Bool}(h:nW k=.tup [.str<|kN e,.int (i:Int),.int (j:Int)]):k=.nd e i j:=by
 cases k with
 |lf u m=>injection h with h;injection h with _ h;injection h with _ h;cases h
 |nd b U g=>
  have l:kN b=kN e:=by injection h with h;injection h with h _;injection h
  have I:((U:Nat):Int)=i:=by injection h with h;injection h with _ h;injection h with h _;injection h
  have J:((g:Nat):Int)=j:=by injection h with h;injection h with _ h;injection h with _ h;injection h with h _;injection h
  have I:=CU.mp I;have J:=CU.mp J;subst I J;cases b<;>cases e<;>first|rfl|(exfalso;revert l;decide)
def Ls{p:Nat}(h:(wq wd)[p]?=some y):∃o,wd[p]?=some o/\i0 o=y:=by rw[Al] at h;obtain⟨o,a,b⟩:=Ax.mp h;exact{(o),a,b}
def KW.inv_lf{p:Nat}{n:Str}(h:KW (wq wd) p<|.leaf t n):wd[p]?=some (some<|.lf t n):=by
 obtain⟨o,a,b⟩:=Ls<|show(wq wd)[p]?=some (.tup [.str<|kL t,.str n]) from h;cases o with
 |none=>cases b
 |some k=>rw[a,W' b]
def KW.inv_nd{p:Nat}{e:Bool}{l r:Wd}(h:KW (wq wd) p<|.node e l r):∃i j,wd[p]?=some (some<|.nd e i j)/\KW (wq wd) i l/\KW (wq wd) j r:=by
 obtain⟨i,j,I,J,U⟩:=h;obtain⟨o,a,b⟩:=Ls I;cases o with
 |none=>cases b
 |some k=>exact{i,j,by rw[a,Xa b],J,U}
theorem KW.dep{wd:List<|HT}(ok:x_ wd):∀{w:Wd} {p:Nat},KW (wq wd) p w->w.depth<=p+1
 |.leaf t n,p,_=>by show 1<=p+1;exact BZ _
 |.node e l r,p,h=>by obtain⟨i,j,a,I,J⟩:=h.inv_nd;have:=ok p e i j a;have:=KW.dep ok I;have:=KW.dep ok J;show max l.depth r.depth+1<=p+1;lia
def Xb(wd:List<|HT):Prop:=∀(p:Nat) (e:Bool) (i j:Nat),wd[p]?=some (some<|.nd e i j)->(∃k,wd[i]?=some (some k))/\∃k,wd[j]?=some (some k)
def Ren.inv{f:aai}(r:Ren f eH wd){x:Nat}{k:Kn}(h:wd[x]?=some (some k)):∃p,p<eH.length/\x=f p/\∃o,eH[p]?=some o/\jP f o=some k:=by obtain⟨p,I,e⟩:=r.gap.only x k h;have I:=Bj.mp I;have:=r.gap.at_ p (Bj.mpr I) _<|Ah I;rw[<-e,h] at this;exact{p,I,e,_,Ah I,(A1 this).symm}
theorem Ren.word{f:aai}(r:Ren f eH wd):∀{w:Wd} {p:Nat},KW (wq eH) p w->KW (wq wd) (f p) w
 |.leaf t n,p,h=>by have e:=h.inv_lf;exact KW.lf<|r.gap.at_ p (Bj.mpr<|xx e) _ e
 |.node b l rr,p,h=>by obtain⟨i,j,e,I,J⟩:=h.inv_nd;exact KW.nd (r.gap.at_ p (Bj.mpr<|xx e) _ e) (r.word I)<|r.word J
def oZ(I:jf):RD "parts_in" oQ 2 ["knots","parts","knot"] (λV=>Gq V I):={_,λV B c _ _ _ _ _ _ _ J hN U=>(qa (S_ 1 hN<|zc x5)<|qa (k8 yp rfl (xc<|qv 0) (G_ 2 hN)<|qd<|qt<|wx (qv 1)<|zn<|C_ c J<|zn<|qv 2)<|qd<|ql<|qv 1)}
def kn(wd:List<|HT):aab:=wd.flatMap j7
def xP(wd:List<|HT)(k:HT):kn (wd++[k])=kn wd++j7 k:=by unfold kn;rw[AD,Bc,Do,AG]
def oM(k:HT):(j7 k).length<=2:=by cases k with|none=>exact Bb _|some k=>cases k with|lf t n=>exact Bb _|nd e i j=>exact Aj _
def rR(wd:List<|HT):(kn wd).length<=2*wd.length:=by
 induction wd with
 |nil=>exact Aj _
 |cons k r I=>
  have e:kn (k::r)=j7 k++kn r:=Bc ..;have:=oM k;rw[e,Ab,Ap];lia
inductive iR(ys:_T)(L:qh)(Q:YK):Prop
 |mk:∀a,∀wd:List (HT),(ys=[.ref a])->(L a=some (.lst<|wq wd))->(wd.length<=1000)->(∀p,L p=none->Q (.ref p) (qg L p<|.lst<|nY<|kn wd))->iR ys L Q
def Xc:_f iR (oZ cJ).1 3:=by
 rintro ys L Q ⟨a,J,rfl,l,hz,q⟩;have big:=a_;intro p r;have t:qf L (qg L p<|.lst []):=By r;refine jb (t _ _ l) λkeep kp=>vk {λi U I=>∃j,U=[some<|Y.ref a,some<|Y.ref p,j]/\qf L I/\I p=some (.lst<|nY<|kn<|J.take i),{_,rfl,t,q9},?_,?_,?_}
 .rintro i U I ⟨j,rfl,s,_⟩;exact kp I (by rw[s _ _ l,t _ _ l])
 .rintro i y U I C ⟨j,rfl,s,g⟩;rw[Al] at C;obtain⟨k,ek,rfl⟩:=Ax.mp C;have et:J.take (i+1)=J.take i++[k]:=by rw[AW,ek];rfl
  have pl:=rR<|J.take i;have pk:=oM k;rw[AS] at pl;refine qc g {k,rfl,λd hd=>?_};have n1:p≠d:=v4 g hd;refine qi ((qb n1).trans g)<|qi q9 {?_,?_}
  .rw[ku,ku];exact Bi<|big _ (by lia)
  .refine{_,EE _,_,rfl,(s.trans<|By hd).upd r,?_};rw[q9,et,xP,ox]
 .rintro U I ⟨j,rfl,s,g⟩;rw[Ac,AZ] at g;refine{qg L p<|.lst<|nY<|kn J,λb o e=>?_,q p r};by_cases T:b=p
  .subst T;rw[q9] at e;rw[<-e];exact g
  .rw[qb T] at e;exact s _ _ e
def qD(ks:Pi)(l:aab):aab:=l.flatMap λp=>j7 ks[p]?
def i9(ks:Pi)(a b:aab):qD ks (a++b)=qD ks a++qD ks b:=by unfold qD;rw[AD]
def cY(ks:Pi)(x:Nat)(l:aab):qD ks (x::l)=j7 ks[x]?++qD ks l:=Bc ..
def bx{E:aab}(h:E.Nodup)(hi:i∈E):E.Perm ([i]++E.filter λx=>!decide (x=i)):=by
 refine(AY h ?_).mpr λx=>?_
 .refine AQ.mpr {λz=>?_,h.filter _};have:=(A6.mp z).2;simp at this
 .rw[Ao,Ak,A6];constructor
  .intro I;by_cases c:x=i
   .exact .inl c
   .exact .inr {I,by simp[c]}
  .rintro(rfl|I)
   .exact hi
   .exact I.1
def SR.part{E:aab}(h:SR ks R E):(qm R).Nodup->(qD ks (qm R)++(aj (x0 R)++E)).Perm (qm R):=by
 induction h with
 |@link p q t n U h1 h2 h3 o C=>
  intro _;have e:qD ks [p,q]=[]:=by rw[cY,cY,h2,h3];rfl
  show(qD ks [p,q]++([]++U)).Perm [p,q];rw[e,BS,BS];refine(AY C (by simp;lia)).mpr λx=>?_;rw[o x];simp
 |@ei r i j A g U h1 T h3 o C h6 h7 ih=>
  intro nd;obtain⟨n1,n2⟩:=AQ.mp nd;have ih:=ih n2;have l:g.Nodup:=(AB.mp (AB.mp<|ih.nodup_iff.mpr n2).2.1).2.1;have p1:=bx l h3;have p2:(g.filter λx=>!decide (x=i)).Perm _:=bx (l.filter _) (i:=j) (A6.mpr {o,by simp;exact AL C});have p3:U.Perm ([r]++(g.filter λx=>!decide (x=i)).filter λx=>!decide (x=j)):=by
   refine(AY h7<|AQ.mpr {λz=>n1<|T.sub _ (A6.mp (A6.mp z).1).1,(l.filter _).filter _}).mpr λx=>?_;rw[h6 x,Aq,A6,A6];simp only[DP,decide_eq_false_iff_not];constructor
   .rintro(⟨a,b,c⟩|rfl)
    .exact .inr {{(a),b},c}
    .exact .inl rfl
   .rintro(rfl|⟨⟨a,b⟩,c⟩)
    .exact .inr rfl
    .exact .inl {(a),b,c}
  show(qD ks (r::qm A)++(aj (x0 A)++U)).Perm ([r]++qm A);rw[cY,h1];show((([i]++[j])++qD ks (qm A))++(aj (x0 A)++U)).Perm _;refine Cs.mpr λa=>?_;have c1:=p1.count_eq a;have c2:=p2.count_eq a;have c3:=p3.count_eq a;have c4:=ih.count_eq a;simp only[CG] at c1 c2 c3 c4 ⊢;lia
 |@bo r i j A B g EB U h1 T hB o C h6 h7 I J=>
  intro nd;obtain⟨n1,n2⟩:=AQ.mp nd;obtain⟨m1,m2,m3⟩:=AB.mp n2;have I:=I m1;have J:=J m2;have l:g.Nodup:=(AB.mp (AB.mp<|I.nodup_iff.mpr m1).2.1).2.1;have nB:EB.Nodup:=(AB.mp (AB.mp<|J.nodup_iff.mpr m2).2.1).2.1;have p1:=bx l o;have p2:=bx nB C;have p3:U.Perm ([r]++((g.filter λx=>!decide (x=i))++EB.filter λx=>!decide (x=j))):=by
   refine(AY h7<|AQ.mpr {λz=>n1 ?_,AB.mpr {l.filter _,nB.filter _,λa ha b hb=>m3 a (T.sub _ (A6.mp ha).1) b<|hB.sub _ (A6.mp hb).1}}).mpr λx=>?_
   .rcases Ao.mp z with z|z
    .exact Ay _<|T.sub _ (A6.mp z).1
    .exact Ai _<|hB.sub _ (A6.mp z).1
   .rw[h6 x,Aq,Ao,A6,A6];simp only[DP,decide_eq_false_iff_not];constructor
    .rintro(a|a|rfl)
     .exact .inr<|.inl a
     .exact .inr<|.inr a
     .exact .inl rfl
    .rintro(rfl|a|a)
     .exact .inr<|.inr rfl
     .exact .inl a
     .exact .inr<|.inl a
  show(qD ks (r::(qm A++qm B))++(aj (x0 A++x0 B)++U)).Perm ([r]++(qm A++qm B));rw[cY,h1,i9,iT];show((([i]++[j])++(qD ks (qm A)++qD ks (qm B)))++((aj (x0 A)++aj (x0 B))++U)).Perm _;refine Cs.mpr λa=>?_;have c1:=p1.count_eq a;have c2:=p2.count_eq a;have c3:=p3.count_eq a;have c4:=I.count_eq a;have c5:=J.count_eq a;simp only[CG] at c1 c2 c3 c4 c5 ⊢;lia
 |@cu p q A B g EB U w T hB h3 o C h6 h7 h8 I J=>
  intro n2;obtain⟨m1,m2,m3⟩:=AB.mp<|show(qm A++qm B).Nodup from n2;have I:=I m1;have J:=J m2;have l:g.Nodup:=(AB.mp (AB.mp<|I.nodup_iff.mpr m1).2.1).2.1;have nB:EB.Nodup:=(AB.mp (AB.mp<|J.nodup_iff.mpr m2).2.1).2.1;have p1:=bx l h3;have p2:=bx nB o;have p3:U.Perm ((g.filter λx=>!decide (x=p))++EB.filter λx=>!decide (x=q)):=by refine(AY h8<|AB.mpr {l.filter _,nB.filter _,λa ha b hb=>m3 a (T.sub _ (A6.mp ha).1) b<|hB.sub _ (A6.mp hb).1}).mpr λx=>?_;rw[h7 x,Ao,A6,A6];simp only[DP,decide_eq_false_iff_not]
  show(qD ks (qm A++qm B)++(aj ((p,q)::(x0 A++x0 B))++U)).Perm (qm A++qm B);rw[i9,W8,iT];show((qD ks (qm A)++qD ks (qm B))++(([p]++[q]++(aj (x0 A)++aj (x0 B)))++U)).Perm _;refine Cs.mpr λa=>?_;have c1:=p1.count_eq a;have c2:=p2.count_eq a;have c3:=p3.count_eq a;have c4:=I.count_eq a;have c5:=J.count_eq a;simp only[CG] at c1 c2 c3 c4 c5 ⊢;lia
structure wG(wd:List<|HT):Prop where
 ne:∀(p:Nat) (e:Bool) (i j:Nat),wd[p]?=some (some<|.nd e i j)->i≠j
 un:∀(p q:Nat) (k l:Kn) (x:Nat),wd[p]?=some (some k)->wd[q]?=some (some l)->x∈j7 (some k)->x∈j7 (some l)->p=q
def sD{x:Nat}(h:x∈kn wd):∃(p:Nat) (k:Kn),wd[p]?=some (some k)/\x∈j7 (some k):=by
 obtain⟨o,J,I⟩:=Bl.mp h;obtain⟨p,e⟩:=Dq J;cases o with
 |none=>cases I
 |some k=>exact{(p),k,e,I}
def Xd{x p:Nat}{k:Kn}(h:wd[p]?=some (some k))(I:x∈j7 (some k)):x∈kn wd:=Bl.mpr {_,AE h,I}
theorem wG.nodup:∀{wd:List<|HT},wG wd->(kn wd).Nodup
 |[],_=>Cw
 |k::r,U=>by
  have e:kn (k::r)=j7 k++kn r:=Bc ..;rw[e];refine AB.mpr {?_,wG.nodup {λp e i j h=>U.ne (p+1) e i j h,λp q k l x I J o C=>Nat.succ.inj<|U.un (p+1) (q+1) k l x I J o C},λa g b T z=>?_}
  .cases k with
   |none=>exact Cw
   |some k=>
    cases k with
    |lf t n=>exact Cw
    |nd b i j=>
     have:=U.ne 0 b i j rfl;show [i,j].Nodup;simp[this]
  .subst z;obtain⟨p,l,I,J⟩:=sD T;cases k with
   |none=>cases g
   |some k=>exact absurd (U.un 0 (p+1) k l a rfl I g J) (Nat.succ_ne_zero p).symm
theorem Ren.inj{f:aai}(r:Ren f eH wd){a b:Nat}(I:a<eH.length)(J:b<eH.length)(e:f a=f b):a=b:=r.gap.inj a (Bj.mpr I) b (Bj.mpr J) e
def Xe:HT->Bool
 |some (.lf _ _)=>true
 |_=>false
theorem jQ{f:aai}:∀{l:aab},l.Nodup->(∀a∈l,∀b∈l,f a=f b->a=b)->(l.map f).Nodup
 |[],_,_=>Cw
 |a::r,h,g=>by obtain⟨J,U⟩:=AQ.mp h;rw[AI,AQ];refine{λz=>?_,jQ U λx j y o=>g x (Ag _ j) y<|Ag _ o};obtain⟨b,I,e⟩:=A2.mp z;exact J<|g b (Ag _ I) a (An ..) e▸I
def rh(f:aai):Ru->Ru
 |.link p q=>.link (min (f p)<|f q)<|max (f p)<|f q
 |.ei r A=>.ei (f r)<|rh f A
 |.bo r A B=>.bo (f r) (rh f A)<|rh f B
 |.cu p q A B=>.cu (f p) (f q) (rh f A)<|rh f B
theorem cw(f:aai):∀R:Ru,(qm<|rh f R).Perm<|(qm R).map f
 |.link p q=>by
  show [min (f p)<|f q,max (f p)<|f q].Perm [f p,f q];by_cases h:f p<=f q
  .rw[BL h,Dl h]
  .rw[Dj (by lia),Dt (by lia)];exact List.Perm.swap _ _ _
 |.ei r A=>(cw f A).cons _
 |.bo r A B=>by show(f r::(qm (rh f A)++qm (rh f B))).Perm (f r::(qm A++qm B).map f);rw[Ar];exact((cw f A).append<|cw f B).cons _
 |.cu p q A B=>by show(qm (rh f A)++qm (rh f B)).Perm ((qm A++qm B).map f);rw[Ar];exact(cw f A).append (cw f B)
def iX{x:Nat}{k:Kn}(h:(ks.map some)[x]?=some (some k)):ks[x]?=some k:=by rw[Al] at h;obtain⟨I,e,z⟩:=Ax.mp h;cases z;exact e
def SR.ren{f:aai}(r:Ren f (ks.map some)<|fy.map some){E:aab}(h:SR ks R E):SR fy (rh f R) (E.map f):=by
 have inj:∀{a b:Nat},a<ks.length->b<ks.length->f a=f b->a=b:=λha hb e=>r.inj (by rw[Ac];exact ha) (by rw[Ac];exact hb) e;have at_:∀{p:Nat} {k:Kn},ks[p]?=some k->(fy.map some)[f p]?=some (jP f<|some k):=λ{p k} e=>r.gap.at_ p (Bj.mpr (by rw[Ac];exact xx e)) _ (by rw[Al,e];rfl)
 have lf:∀{p:Nat} {t:Bool} {n:Str},ks[p]?=some (.lf t n)->fy[f p]?=some (.lf t n):=λe=>iX<|at_ e;have nd:∀{p i j:Nat} {e:Bool},ks[p]?=some (.nd e i j)->fy[f p]?=some (.nd e (f i)<|f j):=λe=>iX<|at_ e;have el:∀{A:Ru} {g:aab},SR ks A g->∀x∈g,x<ks.length:=λs x l=>s.lt x<|s.sub x l;have _M:∀{A:Ru} {g:aab},SR ks A g->(g.map f).Nodup:=λs=>jQ s._M λa ha b hb=>inj (el s a ha)<|el s b hb;have wd:∀{p:Nat} {w:Wd},dF ks p w->dF fy (f p) w:=λ{p w} hw=>by have:=r.word (w:=w) (p:=p) (by rw[ko];exact hw);rw[ko] at this;exact this
 have rm:∀{A:Ru} {g:aab} {i y:Nat},SR ks A g->i∈g->y∈g->y≠i->f y≠f i:=λs hi T ne z=>ne<|inj (el s _ T) (el s _ hi) z
 induction h with
 |@link p q t n E h1 h2 J I o=>
  have s:SR ks (.link p q) E:=.link h1 h2 J I o;have ne:f p≠f q:=λz=>by have:=inj (xx h2) (xx J) z;lia
  have me:∀x,x∈E.map f↔x=f p\/x=f q:=λx=>by
   rw[A2];constructor
   .rintro⟨y,T,rfl⟩;rcases (I y).mp T with rfl|rfl
    .exact .inl rfl
    .exact .inr rfl
   .rintro(rfl|rfl)
    .exact{p,(I p).mpr<|.inl rfl,rfl}
    .exact{q,(I q).mpr<|.inr rfl,rfl}
  show SR fy (.link (min (f p)<|f q)<|max (f p)<|f q) _;by_cases c:f p<=f q
  .rw[BL c,Dl c];exact .link (by lia) (lf h2) (lf J) me<|_M s
  .rw[Dj (by lia),Dt (by lia)];exact .link (by lia) (lf J) (by rw[Bool.not_not];exact lf h2) (λx=>(me x).trans Or.comm)<|_M s
 |@ei r i j A g E h1 C J I o U h7 ih=>
  have s:SR ks (.ei r A) E:=.ei h1 C J I o U h7;refine .ei (nd h1) ih (A2.mpr {(i),J,rfl}) (A2.mpr {(j),I,rfl}) (rm C I J o) (λx=>?_)<|_M s;rw[A2];constructor
  .rintro⟨y,T,rfl⟩;rcases (U y).mp T with⟨a,b,c⟩|rfl
   .exact .inl {A2.mpr {(y),a,rfl},rm C J a b,rm C I a c}
   .exact .inr rfl
  .rintro(⟨l,b,c⟩|rfl)
   .obtain⟨y,a,rfl⟩:=A2.mp l;exact{y,(U y).mpr<|.inl {a,λz=>b (by rw[z]),λz=>c (by rw[z])},rfl}
   .exact{r,(U r).mpr<|.inr rfl,rfl}
 |@bo r i j A B g EB E h1 C hB I o U h7 a0 a1=>
  have s:SR ks (.bo r A B) E:=.bo h1 C hB I o U h7;refine .bo (nd h1) a0 a1 (A2.mpr {(i),I,rfl}) (A2.mpr {(j),o,rfl}) (λx=>?_)<|_M s;rw[A2];constructor
  .rintro⟨y,T,rfl⟩;rcases (U y).mp T with⟨a,b⟩|⟨a,b⟩|rfl
   .exact .inl {A2.mpr {(y),a,rfl},rm C I a b}
   .exact .inr<|.inl {A2.mpr {(y),a,rfl},rm hB o a b}
   .exact .inr<|.inr rfl
  .rintro(⟨l,b⟩|⟨l,b⟩|rfl)
   .obtain⟨y,a,rfl⟩:=A2.mp l;exact{y,(U y).mpr<|.inl {a,λz=>b (by rw[z])},rfl}
   .obtain⟨y,a,rfl⟩:=A2.mp l;exact{y,(U y).mpr<|.inr<|.inl {a,λz=>b (by rw[z])},rfl}
   .exact{r,(U r).mpr<|.inr<|.inr rfl,rfl}
 |@cu p q A B g EB E w C hB J I o U h7 h8 a0 a1=>
  have s:SR ks (.cu p q A B) E:=.cu C hB J I o U h7 h8;refine .cu a0 a1 (A2.mpr {(p),J,rfl}) (A2.mpr {(q),I,rfl}) (wd o) (wd U) (λx=>?_)<|_M s;rw[A2];constructor
  .rintro⟨y,T,rfl⟩;rcases (h7 y).mp T with⟨a,b⟩|⟨a,b⟩
   .exact .inl {A2.mpr {(y),a,rfl},rm C J a b}
   .exact .inr {A2.mpr {(y),a,rfl},rm hB I a b}
  .rintro(⟨l,b⟩|⟨l,b⟩)
   .obtain⟨y,a,rfl⟩:=A2.mp l;exact{y,(h7 y).mpr<|.inl {a,λz=>b (by rw[z])},rfl}
   .obtain⟨y,a,rfl⟩:=A2.mp l;exact{y,(h7 y).mpr<|.inr {a,λz=>b (by rw[z])},rfl}
def Xf{f:aai}(ok:cQ ks)(r:Ren f (ks.map some)<|fy.map some):cQ fy:=λp k e=>by
 have J:(fy.map some)[p]?=some (some k):=by rw[Al,e];rfl
 obtain⟨y,g,rfl,o,U,I⟩:=r.inv J;cases k with
 |nd b i j=>exact r.gap.ok _ b i j J
 |lf t n=>
  cases o with
  |none=>cases I
  |some o=>
   cases o with
   |nd b i j=>cases I
   |lf l C=>
    cases I;exact ok y _<|iX U
structure gU(ks:Pi)(R:Ru)(E:aab):Prop where
 ok:cQ ks
 sr:SR ks R E
 nd:(qm R).Nodup
 len:ks.length<=96
theorem gU.ren{f:aai}{E:aab}(ok:cQ ks)(I:SR ks R E)(tp:(qm R).Perm<|List.range ks.length)(j:ks.length<=96)(r:Ren f (ks.map some)<|fy.map some)(l:fy.length=ks.length):gU fy (rh f R) (E.map f)/\(qm<|rh f R).Perm (List.range fy.length):=by have S:=I.ren r;have nd:(qm<|rh f R).Nodup:=(cw f R).nodup_iff.mpr (jQ (tp.nodup_iff.mpr Cy) λa U b g e=>r.inj (by rw[Ac];exact I.lt a U) (by rw[Ac];exact I.lt b g) e);refine{{Xf ok r,S,nd,by lia},(AY nd Cy).mpr λx=>{λh=>Bj.mpr<|S.lt x h,λh=>?_}};have h:=Bj.mp h;obtain⟨y,J,e⟩:=r.gap.only x fy[x] (by rw[Al,Ah h];rfl);rw[Ac] at J;exact(cw f R).mem_iff.mpr (A2.mpr {y,tp.mem_iff.mpr J,e.symm})
def wr:Ru->aab
 |.link p q=>[p,q]
 |.ei r _=>[r]
 |.bo r _ _=>[r]
 |.cu _ _ _ _=>[]
def kA(A:Ru):qm A=wr A++(qy A).flatMap qm:=by cases A<;>simp[qm,wr,qy]
def jx:Ru->aay
 |.link p q=>[.link p q]
 |.ei r A=>.ei r A::jx A
 |.bo r A B=>.bo r A B::(jx A++jx B)
 |.cu p q A B=>.cu p q A B::(jx A++jx B)
def cZ(A:Ru):jx A=A::(qy A).flatMap jx:=by cases A<;>simp[jx,qy]
theorem aX:∀A:Ru,(jx A).length=aG A
 |.link _ _=>rfl
 |.ei _ A=>by show(jx A).length+1=_;rw[aX A];rfl
 |.bo _ A B=>by show(jx A++jx B).length+1=_;rw[Ab,aX A,aX B];rfl
 |.cu _ _ A B=>by show(jx A++jx B).length+1=_;rw[Ab,aX A,aX B];rfl
def ot(ks:Pi):Ru->List (aab)
 |.link _ _=>[]
 |.ei r _=>[j7 ks[r]?]
 |.bo r _ _=>(j7 ks[r]?).map λx=>[x]
 |.cu p q _ _=>[[p],[q]]
def je(x:aab×aab):aab:=x.1.filter λy=>!decide (y∈x.2)
def xu(ks:Pi):Ru->aab
 |.link p q=>[p,q]
 |.ei r A=>[r]++([xu ks A].zip [j7 ks[r]?]).flatMap je
 |.bo r A B=>[r]++([xu ks A,xu ks B].zip<|(j7 ks[r]?).map λx=>[x]).flatMap je
 |.cu p q A B=>[]++([xu ks A,xu ks B].zip [[p],[q]]).flatMap je
def Xg(ks:Pi)(A:Ru):xu ks A=wr A++(((qy A).map<|xu ks).zip<|ot ks A).flatMap je:=by cases A<;>rfl
def Xh(ks:Pi)(B:Ru)(t:aab):Prop:=∃I,SR ks B I/\∀x∈t,x∈I
def SR.arms{E:aab}(h:SR ks R E):Paired (Xh ks) (qy R) (ot ks R):=by
 cases h with
 |link=>exact .nil
 |@ei r i j A J _ l U o g=>
  show Paired _ [A] [j7 ks[r]?];rw[l];refine .cons {J,U,λx I=>?_} .nil;have I:x∈[i,j]:=I;rcases Aq.mp I with rfl|I
  .exact o
  .rw[Ak.mp I];exact g
 |@bo r i j A B J t _ l U C g T=>
  show Paired _ [A,B] ((j7 ks[r]?).map λx=>[x]);rw[l];exact .cons {J,U,λx I=>by rw[Ak.mp I];exact g} (.cons {t,C,λx I=>by rw[Ak.mp I];exact T} .nil)
 |@cu p q A B J t _ w U C o g=>
  exact .cons {J,U,λx I=>by rw[Ak.mp I];exact o} (.cons {t,C,λx I=>by rw[Ak.mp I];exact g} .nil)
def dz{F t:aab}{x:Nat}:x∈je (F,t)↔x∈F/\x∉t:=by unfold je;rw[A6];simp
def ip{F t:aab}(h:F.Nodup):(je (F,t)).Nodup:=h.filter _
theorem Lu{E:aab}(h:SR ks R E):(qm R).Nodup->(xu ks R).Perm E:=by
 induction h with
 |@link p q t n E T h2 h3 h4 h5=>
  intro nd;exact(AY nd h5).mpr λx=>by rw[h4];show x∈[p,q]↔_;simp
 |@ei r i j A l E T I h3 h4 h5 h6 o ih=>
  intro nd;obtain⟨n1,C⟩:=AQ.mp nd;have P:=ih C;have e:xu ks (.ei r A)=r::je (xu ks A,[i,j]):=by show [r]++([xu ks A].zip [j7 ks[r]?]).flatMap je=_;rw[T];show r::(je (xu ks A,[i,j])++[])=_;rw[AG]
  rw[e];have m:∀x,x∈je (xu ks A,[i,j])↔x∈l/\x≠i/\x≠j:=λx=>by rw[dz,P.mem_iff];simp
  refine(AY (AQ.mpr {λz=>n1<|I.sub r ((m r).mp z).1,ip<|P.nodup_iff.mpr I._M}) o).mpr λx=>?_;rw[Aq,m,h6,Or.comm]
 |@bo r i j A B l EB E T I g h4 h5 h6 o J U=>
  intro nd;obtain⟨n1,C⟩:=AQ.mp nd;obtain⟨m1,m2,m3⟩:=AB.mp C;have P:=J m1;have Q:=U m2;have e:xu ks (.bo r A B)=r::(je (xu ks A,[i])++je (xu ks B,[j])):=by show [r]++([xu ks A,xu ks B].zip<|(j7 ks[r]?).map λx=>[x]).flatMap je=_;rw[T];show r::(je (xu ks A,[i])++(je (xu ks B,[j])++[]))=_;rw[AG]
  rw[e];have a:∀x,x∈je (xu ks A,[i])↔x∈l/\x≠i:=λx=>by rw[dz,P.mem_iff];simp
  have b:∀x,x∈je (xu ks B,[j])↔x∈EB/\x≠j:=λx=>by rw[dz,Q.mem_iff];simp
  refine(AY (AQ.mpr {λz=>n1 ?_,AB.mpr {ip<|P.nodup_iff.mpr I._M,ip<|Q.nodup_iff.mpr g._M,λx hx y hy=>m3 x (I.sub x ((a x).mp hx).1) y<|g.sub y ((b y).mp hy).1}}) o).mpr λx=>?_
  .rcases Ao.mp z with z|z
   .exact Ay _<|I.sub r ((a r).mp z).1
   .exact Ai _<|g.sub r ((b r).mp z).1
  .rw[Aq,Ao,a,b,h6,Or.comm,or_assoc]
 |@cu p q A B l EB E w I g h3 h4 h5 h6 o h8 J U=>
  intro C;obtain⟨m1,m2,m3⟩:=AB.mp<|show(qm A++qm B).Nodup from C;have P:=J m1;have Q:=U m2;have e:xu ks (.cu p q A B)=je (xu ks A,[p])++je (xu ks B,[q]):=by show []++(je (xu ks A,[p])++(je (xu ks B,[q])++[]))=_;rw[AG,BS]
  rw[e];have a:∀x,x∈je (xu ks A,[p])↔x∈l/\x≠p:=λx=>by rw[dz,P.mem_iff];simp
  have b:∀x,x∈je (xu ks B,[q])↔x∈EB/\x≠q:=λx=>by rw[dz,Q.mem_iff];simp
  refine(AY (AB.mpr {ip<|P.nodup_iff.mpr I._M,ip<|Q.nodup_iff.mpr g._M,λx hx y hy=>m3 x (I.sub x ((a x).mp hx).1) y<|g.sub y ((b y).mp hy).1}) h8).mpr λx=>?_;rw[Ao,a,b,o]
section
open PySem.W
section
variable {w:aan}
end
end
theorem oC:∀{ns:aaf} {vs:Z_},ze (ns.map V.int) vs->IntsAre vs ns
 |[],_,.nil=>.nil
 |n::_,_,.cons ⟨t,e⟩ p=>by subst e;exact .cons n t<|oC p
def ur(ns:aaf):Nat:=(firstMet (λi=>ns.getD i 0) ns.length).length
def Xi(X:Cx)(te:TE):TE:=λσ H Q=>te σ H λx H1=>∃(a:Addr) (ns:aaf),x=.ref a/\aV X.K H1 a (ns.map V.int)/\ns.length<=4000/\Q (.int (ur ns:Nat)) H1
def Xj:bootBuiltins "set"=some (.type "set"):=by decide +kernel
def Xk{te:TE}{ps:Pos}(hc:X.calm=true)(l:Gl X "len")(p:X.mg "len"=none)(r:Gl X "set")(C:X.mg "set"=none)(he:PE X e te)(h1:starEach [e] X.env=(false,eval e X.env)::starEach [] X.env:=by rfl):
 PE X (.Call (.Name "len" p1) [.Call (.Name "set" p2) [e] [] ps] [] pos) (Xi X te):=by
 intro J s T H Q I h;refine wpAny_Call_Name_kw<|bH I l p zO ?_;refine callWith_builtin1 ?_ rfl rfl;show wpAny _ _ (spliced<|(false,eval (.Call (.Name "set" p2) [e] [] ps) X.env)::[]) _ _ s;refine At ?_;refine wpAny_Call_Name_kw<|bH I r C Xj ?_;refine callWith_type1 ?_ h1 rfl;rw[h1];show wpAny _ _ (spliced<|(false,eval e X.env)::[]) _ _ s;refine At<|w9 (he J s T H _ I h) λu s1 ⟨x,H1,g,r1,q1⟩=>?_;obtain⟨a,ns,rfl,hq,hz,q⟩:=q1;cases (show u=Value.ref a from r1);obtain⟨U,rv,pl,_⟩:=g.list hq;have ia:=oC rv;have l1:ns.length=U.length:=by have:=rv.length;rw[Ac] at this;exact this
 have sb:(4001:Nat)<scanBound:=by decide
 refine Ev ?_;refine j6 g.tk (call_set_list (g.ok.hd hc) pl.isList (ns:=ns) (by simpa using ia) (by rw[Au];lia) λh' tk hS hk ht=>?_);have sz:U.toArray.size=ns.length:=by rw[Au,l1]
 rw[sz] at hS;obtain⟨o,ho,hex,es,ep,t,hd,_,_,j,hf⟩:=hS.objOf;have I2:z0 X J T H1 {s1 with heap:=h',toks:=tk}:=g.kept (λb o e=>hk b o (xT e) e) ht;have le:ur ns<=ns.length:=firstMet_length_le _ _;have j:es.size=ur ns:=j;refine Ev (call_len_set (s:={s1 with heap:=h',toks:=tk}) ho hex hd hf (by rw[j];lia) ?_);rw[j];exact{.int (ur ns:Nat),H1,I2.kept (λ_ _ e=>e)<|BZ _,{_,rfl},q}
theorem Lv{G:G3}{H:Hp}:∀{ns:aaf} {xs:GT},jw G H (ns.map Y.int) xs->xs=ns.map V.int
 |[],_,h=>h
 |n::r,_,⟨x,I,e,J,s⟩=>by subst e;cases (show x=V.int n from J);rw[Lv s];rfl
def Xl(ta:ji)(τ:j5)(L:qh)(Q:YK):Prop:=ta τ L λx L1=>match x with
 |.ref a=>dG L1 a λys=>∃ns:aaf,ys=ns.map Y.int/\ns.length<=4000/\Q (.int (ur ns:Nat)) L1
 |_=>False
def Xm{ps:Pos}(hc:X.calm=true)(J:Gl X "len")(U:X.mg "len"=none)(g:Gl X "set")(j:X.mg "set"=none)(p:QE X e te)(h1:starEach [e] X.env=(false,eval e X.env)::starEach [] X.env:=by rfl):
 QE X (.Call (.Name "len" p1) [.Call (.Name "set" p2) [e] [] ps] [] pos) (Xl te):=EI (Xk hc J U g j p h1) λσ H Q t L Q3 C T z k=>
 ⟨t,L,_,C,T,z,λv H1 y L1 t1 I l o=>by
  cases y with
  |ref a=>
   obtain⟨zs,e,ns,rfl,hz,z⟩:=x9 o;obtain⟨vs,e2,r⟩:=I a _ e;cases Lv r;exact{a,ns,l,Eo e2,hz,k _ H1 _ L1 t1 I (by rfl) z}
  |_=>exact o.elim⟩
def Xn{ns:aaf}(h:ns.Nodup):ur ns=ns.length:=by
 have key:∀i,i<=ns.length->PyProof.Rows.firstMet (λi=>ns.getD i 0) i=ns.take i:=by
  intro i
  induction i with
  |zero=>intro _;rfl
  |succ i g=>
   intro J;rw[PyProof.Rows.firstMet_succ,g<|Nat.le_of_succ_le J];have e:ns[i]?=some ns[i]:=Ah J;have l:ns.getD i 0=ns[i]:=by rw[Bp,e];rfl
   rw[l,AW,e,Option.toList_some];unfold PyProof.Rows.step_dedup;rw[Az];intro I;have I:ns[i]∈ns.take i:=by simpa using I
   obtain⟨j,o,U⟩:=BE I;rw[AS] at o;rw[Bw] at U;have:=(List.getElem_inj h).mp U;lia
 unfold ur;rw[key _<|Aj _,AZ]
def iD(I:jf):RD "holds_leaf" ig 1 ["knot"] (λV=>Fk V I):={_,λV B c _ _ _ _ _ _ _ J hN U=>(qd<|ql<|ae (mx<|qv 0)<|bB<|C_ c J<|zn<|qv 0)}
def ld:RD "each_once" kW 0 ["places"] (λ_=>True):={_,λV B c _ _ _ _ _ _ _ J hN I=>(qd<|ql<|ke (iz _ _ _ I) (Xm rfl rfl B.ba rfl B.b_set<|qv 0) (L_ B.ba<|qv 0)<|jy _)}
def lh(J:jf)(I:jf):RD "parts_fit" lD 2 ["knots","place","parts","fit"] (λV=>Gq V J/\Hy V I):={_,λV B c _ _ _ _ _ _ _ U hN g=>(qa (S_ 2 hN<|C_ c.1 U<|zn<|I_ (qv 0)<|qv 1)<|qa (S_ 3 hN<|vv rS rfl B.b_all kD<|zn<|a6 ["part"] (EL (by rfl)) rfl (xc<|qv 2) (dX 4) (λ_ _ _ _=>aM) λ_ _ _ _=>(ae (dy qe<|fH yH (qv 4)<|fJ qJ<|qv 1)<|bB<|mx<|I_ (qv 0)<|qv 4))<|qd<|ql<|ae (qv 3)<|bB<|C_ c.2 U<|zn<|qv 2)}
def mH(I:jf):RD "are_knots" kY 3 ["knots","fit"] (λV=>Ko V I):={_,λV B c _ _ _ _ _ _ _ J hN U=>(qa (S_ 1 hN<|vv rS rfl B.b_all kD<|zn<|a6 ["place"] (EL (by rfl)) rfl (aS rfl B.bf<|zn<|L_ B.ba<|qv 0) (dX 2) (λ_ _ _ _=>aM) λ_ _ _ _=>(C_ c J<|vo (qv 0)<|qv 2))<|qd<|ql<|ae (qv 1)<|bB<|vv Ut rfl B.b_any Uu<|zn<|a6 ["knot"] (EL (by rfl)) rfl (xc<|qv 0) (dX 2) (λ_ _ _ _=>aM) λ_ _ _ _=>(mx<|qv 2))}
def rG(J:jf)(I:jf):RD "is_link" rc 122 ["knots","p","q"] (λV=>Hw V J/\Kl V I):={_,λV B c _ _ _ _ _ _ _ U hN g=>(qa (zf (cg<|vG qe<|jG yH (qv 1)<|jG qJ (qv 2)<|rL qJ<|L_ B.ba<|qv 0) (qd<|ql bX) qx)<|qd<|ql<|ae (C_ c.2 U<|zn<|I_ (qv 0)<|qv 1)<|bB<|ke (iz _ _ _ g) (I_ (qv 0)<|qv 2) (C_ c.1 U<|zn<|I_ (qv 0)<|qv 1)<|jy _)}
def hG(I:jf):RD "can_be_cut" gm 3 ["knots","place"] (λV=>Hx V I):={_,λV B c _ _ _ _ _ _ _ J hN U=>(qd<|ql<|ae (dy qe<|fH yH (qv 1)<|fJ qJ<|L_ B.ba<|qv 0)<|ae (mx<|I_ (qv 0)<|qv 1)<|bB<|ke (o4 _ _ _) (qv 1) (C_ c J<|zn<|qv 0) (by with_unfolding_all rfl))}
def ue(I:jf)(J:jf)(U:jf):RD "is_cut" uo 122 ["knots","p","q"] (λV=>Ks V I/\Kk V J/\Hw V U):={_,λV B c _ _ _ _ _ _ _ g hN j=>(qa (zf (cg<|bQ<|gY (w5<|C_ c.1 g<|vo (qv 0)<|qv 1)<|cz<|w5<|C_ c.1 g<|vo (qv 0)<|qv 2) (qd<|ql bX) qx)<|qd<|ql<|ke (iz _ _ _ j) (C_ c.2.1 g<|vo (qv 0)<|qv 2) (C_ c.2.2 g<|zn<|C_ c.2.1 g<|vo (qv 0)<|qv 1)<|jy _)}
def wW:RD "demand" wN 0 ["holds","words"] (λ_=>True):={_,λV B c _ _ _ _ _ _ _ I hN J=>(qd<|zf (cg<|w5<|qv 0) (qd aE) qx)}
def Xo(l:aab):nY l=(l.map λn:Nat=>(n:Int)).map Y.int:=by unfold nY;rw[BI];rfl
def y0{l:aab}(h:l.Nodup):(l.map λn:Nat=>(n:Int)).Nodup:=vA (λ_ _ _ _ e=>CU.mp e) h
inductive iF(ys:_T)(L:qh)(Q:YK):Prop
 |mk:∀a,∀l:aab,(ys=[.ref a])->(L a=some (.lst<|nY l))->(l.length<=1000)->(l.Nodup)->(Q (.bl true) L)->iF ys L Q
def Xp:_f iF ld.1 1:=by rintro ys L Q ⟨a,l,rfl,I,U,J,q⟩;refine qi I {_,Xo l,by rw[Ac];lia,qc I ?_};show dH Q (.bl<|nb false<|decide<|((ur (l.map λn:Nat=>(n:Int)):Nat):Int)=((nY l).length:Int)) L;rw[Xn<|y0 J,Ac,ku,AA rfl];exact jd q
inductive iP(ys:_T)(L:qh)(Q:YK):Prop
 |mk:∀k:HT,(ys=[i0 k])->(Q (.bl<|Xe k) L)->iP ys L Q
def Xq:_f iP (iD ky).1 1:=by
 rintro ys L Q ⟨k,rfl,q⟩;cases k with
 |none=>exact jd q
 |some k=>
  cases k with|lf t n=>exact{true,t,_,rfl,jd q}|nd e i j=>exact{false,e,_,rfl,jd q}
def iC(n:Nat):(List.replicate n true).all id=true:=by induction n with|zero=>rfl|succ n I=>rw[List.replicate_succ];exact I
def tw(n:Nat):(List.replicate n true).map Y.bl++[.bl true]=(List.replicate (n+1) true).map Y.bl:=by rw[List.replicate_succ',Ar];rfl
structure KnS(wd:List<|HT):Prop where
 ok:x_ wd
 there:Xb wd
 pu:wG wd
def KnS.at_(S:KnS wd){p:Nat}{k:HT}(h:wd[p]?=some k)(I:m∈j7 k):m<p/\∃J,wd[m]?=some (some J):=by
 cases k with
 |none=>cases I
 |some k=>
  cases k with
  |lf t n=>cases I
  |nd e i j=>
   obtain⟨a,b⟩:=S.ok p e i j h;obtain⟨c,d⟩:=S.there p e i j h;have I:m∈[i,j]:=I;rcases Aq.mp I with rfl|I
   .exact{(a),c}
   .rw[Ak.mp I];exact{(b),d}
theorem KnS.nd(S:KnS wd){p:Nat}{k:HT}(h:wd[p]?=some k):(j7 k).Nodup:=by
 cases k with
 |none=>exact Cw
 |some k=>
  cases k with
  |lf t n=>exact Cw
  |nd e i j=>
   have:=S.pu.ne p e i j h;show [i,j].Nodup;simp[this]
inductive m7(ys:_T)(L:qh)(Q:YK):Prop
 |mk:∀a,∀wd:List (HT),∀p:Nat,∀pi:Int,(ys=[.ref a,.int pi])->(pi=(p:Int))->(L a=some (.lst<|wq wd))->(p<wd.length)->(KnS wd)->(Q (.bl true) L)->m7 ys L Q
theorem Xr:_f m7 (lh cJ iF).1 4:=by
 rintro ys L Q ⟨a,U,p,pi,rfl,rfl,l,C,S,q⟩;have J:U[p]?=some U[p]:=Ah C;generalize U[p]=k at J;refine qc l<|qj (xp J) {k,rfl,λg T=>?_};have r:=By (o:=.lst<|nY<|j7 k) T;have pl:=GE k;refine jb q9 λkeep kp=>aC (λi I=>I=(List.replicate i true).map Y.bl) (by rw[ku];exact Bo pl (by decide)) (kp _ rfl) rfl ?_ ?_
 .rintro i y I hy rfl;obtain⟨m,em,rfl⟩:=cj hy;obtain⟨j,k',h3⟩:=S.at_ J<|AE em;refine kz (AA<|Ee.mpr j)<|qc (r _ _ l)<|qj (xp h3) ?_;have z:jD (λI L'=>L'=qg L g (.lst<|nY<|j7 k)/\I=(List.replicate (i+1) true).map Y.bl) ((List.replicate i true).map Y.bl++[.bl true]) (qg L g<|.lst<|nY<|j7 k):={_,EE _,rfl,tw i};cases k'<;>exact z
 rintro I rfl p2 j;have t:=By (o:=.lst<|(List.replicate (nY<|j7 k).length true).map Y.bl) j;refine{rfl,qc q9<|qj (bJ _) ?_};rw[iC];exact{g,j7 k,rfl,t _ _ q9,by lia,S.nd J,aB (r.trans t) q}
inductive fQ(ys:_T)(L:qh)(Q:YK):Prop
 |mk:∀a,∀wd:List (HT),(ys=[.ref a])->(L a=some (.lst<|wq wd))->(wd.length<=1000)->(KnS wd)->((∃(x:Nat) (k:Kn),wd[x]?=some (some k)))->(Q (.bl true) L)->fQ ys L Q
def Xs:_f fQ (mH m7).1 2:=by
 rintro ys L Q ⟨a,I,rfl,U,hz,S,⟨x,kx,ex⟩,q⟩;have big:=a_;refine qc U {{Bf _,by rw[ff];lia},?_};rw[ff,BF];refine zG (λi J=>J=(List.replicate i true).map Y.bl) (big _ (by lia)) rfl ?_ ?_
 .rintro i J p rfl;exact{a,I,i,_,rfl,CB _,U,p,S,_,EE _,rfl,tw i}
 rintro J rfl g r;have j:=By (o:=.lst<|(List.replicate I.length true).map Y.bl) r;refine{rfl,qc q9<|qj (bJ _) ?_};rw[iC];refine jb (j _ _ U) λkeep t=>aC (λi J=>J=((I.take i).map bC).map Y.bl) (by rw[ff];exact big _ (by lia)) (t _ rfl) rfl ?_ ?_
 .rintro i y J l rfl;rw[Al] at l;obtain⟨k,C,rfl⟩:=Ax.mp l;have z:jD (λJ T=>T=qg L g (.lst<|(List.replicate I.length true).map Y.bl)/\J=((I.take<|i+1).map bC).map Y.bl) (((I.take i).map bC).map Y.bl++[.bl<|bC k]) (qg L g<|.lst<|(List.replicate I.length true).map Y.bl):={_,EE _,rfl,by rw[AW,C,Ar,Ar];rfl};cases k with
  |none=>exact z
  |some k=>cases k<;>exact z
 rintro J rfl p2 h2;rw[ff,AZ];have s2:=By (o:=.lst<|(I.map bC).map Y.bl) h2;refine{rfl,qc q9<|qj (bJ _) ?_};have e:(I.map bC).any id=true:=List.any_eq_true.mpr {true,A2.mpr {_,AE ex,rfl},rfl};show dH Q (.bl<|(I.map bC).any id) _;rw[e];exact aB (j.trans s2) q
inductive fb(ys:_T)(L:qh)(Q:YK):Prop
 |mk:∀a,∀wd:List (HT),∀p r:Nat,∀t:Bool,∀n:Str,(ys=[.ref a,.int (p:Int),.int (r:Int)])->(L a=some (.lst<|wq wd))->(p<r)->(wd[p]?=some (some<|.lf t n))->(wd[r]?=some (some<|.lf (!t) n))->(Q (.bl true) L)->fb ys L Q
def Xu:_f fb (rG (aR 120) iP).1 3:=by rintro ys L Q ⟨a,j,p,r,t,n,rfl,I,J,U,g,q⟩;have l:=xx g;refine kz (AA<|Ee.mpr J)<|qc I ?_;refine jv (by show(!decide ((r:Int)<((wq j).length:Int)))=false;rw[ff,AA<|Ee.mpr l];rfl) ?_;refine qc I<|qj (xp U) {some<|.lf t n,rfl,?_};refine qc I<|qj (xp g)<|qc I<|qj (xp U) {.leaf t n,rfl,(show 1<=120 by decide),?_};refine qA (u:=.leaf (!t) n) (v:=.leaf (!t) n) (show 1<=128 by decide) ?_;show dH Q (.bl<|Da.eq _ _) L;rw[iq];exact jd q
inductive tV(ys:_T)(L:qh)(Q:YK):Prop
 |mk:∀a,∀wd:List (HT),∀p:Nat,∀k:Kn,(ys=[.ref a,.int (p:Int)])->(L a=some (.lst<|wq wd))->(wd.length<=1000)->(wd[p]?=some (some k))->(p∉kn wd)->(Q (.bl true) L)->tV ys L Q
def Xv:_f tV (hG iR).1 2:=by
 rintro ys L Q ⟨a,J,p,k,rfl,U,l,j,o,q⟩;refine qc U (kz (by show decide ((p:Int)<((wq J).length:Int))=true;rw[ff];exact AA<|Ee.mpr<|xx j) ?_);refine qc U<|qj (xp j) ?_;have key:∀I,L I=none->dH Q (.bl<|nb true<|xK (fk<|.int (p:Int))<|(nY<|kn J).map fk) (qg L I<|.lst<|nY<|kn J):=λI g=>by rw[nL,Aw o];exact aB (By g) q
 cases k<;>exact{a,J,rfl,U,l,λI g=>qc q9 {rfl,mX _,key I g}}
def KW.ex{p:Nat}{w:Wd}(h:KW (wq wd) p w):∃k,wd[p]?=some (some k):=by cases w with|leaf t n=>exact{_,h.inv_lf}|node e l r=>obtain⟨i,j,a,_⟩:=h.inv_nd;exact{_,a}
inductive gd(ys:_T)(L:qh)(Q:YK):Prop
 |mk:∀a,∀wd:List (HT),∀p r:Nat,∀w:Wd,(ys=[.ref a,.int (p:Int),.int (r:Int)])->(L a=some (.lst<|wq wd))->(wd.length<=1000)->(KW (wq wd) p w)->(KW (wq wd) r w.turn)->(w.depth<=120)->(p∉kn wd)->(r∉kn wd)->(Q (.bl true) L)->gd ys L Q
def Xw:_f gd (ue tV (x6 120)<|aR 120).1 3:=by rintro ys L Q ⟨a,I,p,r,w,rfl,J,U,g,j,hd,l,o,q⟩;obtain⟨t,C⟩:=g.ex;obtain⟨T,e2⟩:=j.ex;have dt:w.turn.depth=w.depth:=dJ w;refine{a,I,p,t,rfl,J,U,C,l,?_};refine{a,I,r,T,rfl,J,U,e2,o,?_};refine{a,wq I,r,w.turn,rfl,J,j,by lia,?_};refine{a,wq I,p,w,rfl,J,g,hd,{w,rfl,hd,?_}};refine qA (u:=w.turn) (v:=w.turn) (by lia) ?_;show dH Q (.bl<|Da.eq _ _) L;rw[iq];exact jd q
inductive aK(ys:_T)(L:qh)(Q:YK):Prop
 |mk:∀s:Str,(ys=[.bl true,.str s])->(Q .KF L)->aK ys L Q
def Xx:_f aK wW.1 2:=by rintro ys L Q ⟨s,rfl,q⟩;exact jd q
def ak(ks:Pi)(T:aab):List (HT):=(List.range ks.length).map λp=>if p∈T then ks[p]? else none
def kh(ks:Pi)(T:aab):(ak ks T).length=ks.length:=by unfold ak;rw[Ac,B6]
def sk{T:aab}{p:Nat}(I:p<ks.length):(ak ks T)[p]?=some (if p∈T then ks[p]? else none):=by unfold ak;rw[Al,Dy I];rfl
def bu{T:aab}{p:Nat}{k:Kn}(J:p∈T)(I:ks[p]?=some k):(ak ks T)[p]?=some (some k):=by rw[sk<|xx I,AC J,I]
def fc{T:aab}{p:Nat}{k:Kn}(h:(ak ks T)[p]?=some (some k)):p∈T/\ks[p]?=some k:=by
 have I:p<ks.length:=by rw[<-kh ks T];exact xx h
 rw[sk I] at h;by_cases c:p∈T
 .rw[AC c] at h;exact{c,A1 h}
 .rw[Az c] at h;cases h
def Xy{T:aab}(h:∀p,p<ks.length->p∈T):ak ks T=ks.map some:=by
 refine C6 λp=>?_;by_cases c:p<ks.length
 .rw[sk c,AC<|h p c,Al,Ah c];rfl
 .rw[Br (by rw[kh];lia),Br (by rw[Ac];lia)]
def Xz{l:aab}(at_:∀{p:Nat} {k:Kn},wd[p]?=some (some k)->p∈l/\ks[p]?=some k)(h:(qD ks l).Nodup):wG wd:=by
 constructor
 .intro p e i j I;obtain⟨J,U⟩:=at_ I;obtain⟨a,b,rfl⟩:=BY J;rw[i9,cY,U] at h;have:=(AB.mp (AB.mp h).2.1).1;have:[i,j].Nodup:=this;simpa using this
 .intro p q k m x I o r t;obtain⟨J,U⟩:=at_ I;obtain⟨C,T⟩:=at_ o;by_cases c:p=q
  .exact c
  .exfalso;obtain⟨a,b,rfl⟩:=BY J;have hm:q∈a++b:=by
    rcases Ao.mp C with z|z
    .exact Ay _ z
    .rcases Aq.mp z with z|z
     .exact absurd z.symm c
     .exact Ai _ z
   have pm:(qD ks<|a++p::b).Perm (j7 (some k)++qD ks (a++b)):=by rw[i9,cY,U,i9];refine Cs.mpr λz=>?_;simp only[CG];lia
   have n:=pm.nodup_iff.mp h;have g:x∈qD ks (a++b):=Bl.mpr {q,hm,by rw[T];exact t};exact(AB.mp n).2.2 x r x g rfl
section
variable {E:aab}
def gU.clos(T:gU ks R E){p:Nat}{e:Bool}(I:p∈qm R)(J:ks[p]?=some (.nd e i j)):i∈qm R/\j∈qm R:=by have m:∀x∈[i,j],x∈qm R:=λx U=>(T.sr.part T.nd).mem_iff.mp (Ay _ (Bl.mpr {p,I,by rw[J];exact U}));exact{m i<|An ..,m j<|Ag _<|An ..}
def gU.ex(T:gU ks R E){p:Nat}(I:p∈qm R):∃k,(ak ks<|qm R)[p]?=some (some k):={_,bu I<|Ah<|T.sr.lt p I}
def gU.knS(T:gU ks R E):KnS (ak ks<|qm R):=by
 refine{λp e i j h=>?_,λp e i j h=>?_,Xz fc (AB.mp<|(T.sr.part T.nd).nodup_iff.mpr T.nd).1}
 .exact T.ok p _ (fc h).2
 .obtain⟨I,J⟩:=fc h;obtain⟨a,b⟩:=T.clos I J;exact{T.ex a,T.ex b}
def gU.prts(T:gU ks R E){x:Nat}:x∈kn (ak ks<|qm R)↔x∈qD ks (qm R):=by
 constructor
 .intro h;obtain⟨p,k,U,g⟩:=sD h;obtain⟨a,b⟩:=fc U;exact Bl.mpr {p,a,by rw[b];exact g}
 .intro h;obtain⟨p,I,J⟩:=Bl.mp h;have e:=Ah<|T.sr.lt p I;rw[e] at J;exact Xd (bu I e) J
def gU.cut(T:gU ks R E){x:Nat}(h:x∈aj (x0 R)):x∉kn (ak ks<|qm R):=λz=>by have N:=(T.sr.part T.nd).nodup_iff.mpr T.nd;exact(AB.mp N).2.2 x (T.prts.mp z) x (Ay _ h) rfl
theorem gU.word(T:gU ks R E):∀{w:Wd} {p:Nat},p∈qm R->dF ks p w->KW (wq<|ak ks<|qm R) p w
 |.leaf t n,p,I,h=>by
  have h:KW (wq<|ks.map some) p (.leaf t n):=by rw[ko];exact h
  exact KW.lf<|bu I<|iX h.inv_lf
 |.node e l r,p,I,h=>by
  have h:KW (wq<|ks.map some) p (.node e l r):=by rw[ko];exact h
  obtain⟨i,j,a,b,c⟩:=h.inv_nd;have a:=iX a;obtain⟨J,U⟩:=T.clos I a;rw[ko] at b c;exact KW.nd (bu I a) (T.word J b)<|T.word U c
def gU.wdep(T:gU ks R E){w:Wd}{p:Nat}(h:KW (wq<|ak ks<|qm R) p w):w.depth<=96:=by have:=KW.dep T.knS.ok h;obtain⟨k,e⟩:=h.ex;have:=xx e;rw[kh] at this;have:=T.len;lia
def SR.rls(h:SR ks R E):∀B∈jx R,(∃EB,SR ks B EB)/\(∀x∈qm B,x∈qm R)/\(qm B).Sublist (qm R)/\zx B<=zx R/\(∀c∈x0 B,c∈x0 R):=by
 induction h with
 |link t h2 T U g=>
  intro B J;cases Ak.mp J;exact{{_,.link t h2 T U g},λ_ h=>h,C9 _,Aj _,λ_ h=>h}
 |@ei r i j A EA E t hA T U g h6 h7 ih=>
  intro B J;rcases Aq.mp J with rfl|J
  .exact{{_,.ei t hA T U g h6 h7},λ_ h=>h,C9 _,Aj _,λ_ h=>h}
  .obtain⟨a,b,c,d,e⟩:=ih B J;exact{a,λx h=>Ag _<|b x h,c.cons _,Cn d,e}
 |@bo r i j A B EA EB E t hA J U g h6 h7 l o=>
  intro C I;rcases Aq.mp I with rfl|I
  .exact{{_,.bo t hA J U g h6 h7},λ_ h=>h,C9 _,Aj _,λ_ h=>h}
  .rcases Ao.mp I with I|I
   .obtain⟨a,b,c,d,e⟩:=l C I;exact{a,λx h=>Ag _<|Ay _<|b x h,(c.trans<|CV ..).cons _,by show _<=max (zx A) (zx B)+1;lia,λx h=>Ay _<|e x h}
   .obtain⟨a,b,c,d,e⟩:=o C I;exact{a,λx h=>Ag _<|Ai _<|b x h,(c.trans<|BU ..).cons _,by show _<=max (zx A) (zx B)+1;lia,λx h=>Ai _<|e x h}
 |@cu p q A B EA EB E w hA J T U g h6 h7 h8 l o=>
  intro C I;rcases Aq.mp I with rfl|I
  .exact{{_,.cu hA J T U g h6 h7 h8},λ_ h=>h,C9 _,Aj _,λ_ h=>h}
  .rcases Ao.mp I with I|I
   .obtain⟨a,b,c,d,e⟩:=l C I;exact{a,λx h=>Ay _<|b x h,c.trans<|CV ..,by show _<=max (zx A) (zx B)+1;lia,λx h=>Ag _<|Ay _<|e x h}
   .obtain⟨a,b,c,d,e⟩:=o C I;exact{a,λx h=>Ai _<|b x h,c.trans<|BU ..,by show _<=max (zx A) (zx B)+1;lia,λx h=>Ag _<|Ai _<|e x h}
def gU.inner(T:gU ks R E){B:Ru}(h:B∈jx R):∃I,gU ks B I:=by obtain⟨⟨I,s⟩,_,sub,_⟩:=T.sr.rls B h;exact{I,T.ok,s,sub.nodup T.nd,T.len}
theorem aU:∀{R A B:Ru},A∈jx R->B∈jx A->B∈jx R
 |.link p q,A,B,I,J=>by cases Ak.mp I;exact J
 |.ei r C,A,B,I,J=>by
  rcases Aq.mp I with rfl|I
  .exact J
  .exact Ag _<|aU I J
 |.bo r C D,A,B,I,J=>by
  rcases Aq.mp I with rfl|I
  .exact J
  .rcases Ao.mp I with I|I
   .exact Ag _<|Ay _<|aU I J
   .exact Ag _<|Ai _<|aU I J
 |.cu p q C D,A,B,I,J=>by
  rcases Aq.mp I with rfl|I
  .exact J
  .rcases Ao.mp I with I|I
   .exact Ag _<|Ay _<|aU I J
   .exact Ag _<|Ai _<|aU I J
def bz(A:Ru):A∈jx A:=by rw[cZ];exact An ..
def Lw{A B:Ru}(h:B∈qy A):B∈jx A:=by rw[cZ];exact Ag _<|Bl.mpr {B,h,bz B}
end
def XA(neg:Bool)(p:X.A.units+128<cLine):vi X (compareOp<|if neg then .NotIn else .In) (λx y H Q=>∃a kvs k,y=.ref a/\H a=some (.dK kvs)/\x=kV k/\Q (.bl<|if neg then !(aH kvs k).isSome else(aH kvs k).isSome) H):=by intro U s r H x y v u Q I g j ⟨a,kvs,k,l,e,ex,q⟩;subst ex l;cases (show u=Value.ref a from j);cases neg with|false=>exact Rj (by omega) I (sv.k e) g λo J=>{.bl _,H,J,rfl,q}|true=>exact Rk (by omega) I (sv.k e) g λo J=>{.bl _,H,J,rfl,q}
def uq:zy X (.builtin "len") (λxs H Q=>∃a kvs,xs=[.ref a]/\H a=some (.dK kvs)/\Q (.int kvs.length) H):=by intro J s j H xs l Q I r ⟨a,kvs,ex,e,q⟩;subst ex;obtain⟨u,rfl,U⟩:=fB r;cases U;exact Rm I (.inl e) λt o g=>{.int _,H,g,{(t),rfl},q}
def FR(w:aan)(r:Str×Tok×Int×Tok):DictEntry:={hashStr w r.1,.str r.1 r.2.1,.int r.2.2.1 r.2.2.2}
def Lx{K:Af}{P:aam}{w:aan}{c:Addr}{U:Nat}(rows:List<|Str×Tok×Int×Tok)(l:K.lookup c=some ⟨.type "dict",none,.dict (rows.map<|FR w).toArray U,#[]⟩)(hs:(c==sysModules)=false)(hz:rows.length<=1000)(nd:(rows.map λr=>(Sum.inr r.1:zr)).Nodup):
 KD K P w c (rows.map λr=>(Sum.inr r.1,.int r.2.2.1)):=by
 refine{hs,by rw[Ac];exact small hz,λh X=>{rows.map λr=>(Sum.inr r.1,.int r.2.2.1 r.2.2.2),?_,_,_,U,X c _ l,{(rfl),rfl,rfl},rfl,?_,?_,?_}}
 .unfold KV;clear l hz nd
  induction rows with|nil=>exact .nil|cons r t I=>exact .cons {rfl,_,rfl} I
 .intro e g;have J:e∈rows.map (FR w):=by simpa using g
  obtain⟨r,_,rfl⟩:=A2.mp J;exact{Sum.inr r.1,cL r.1 r.2.1,rfl}
 .show Pairs _ (rows.map<|FR w).toArray.toList _;rw[Dx];clear l hz nd
  induction rows with|nil=>exact .nil|cons r t I=>exact .cons (cL r.1 r.2.1) rfl I
 .rw[BI];exact nd
def XB{xs:List<|zr×V}(p:Paired (λ(p:zr×Y) (q:zr×V)=>p.1=q.1/\RV G H p.2 q.2) kvs xs)(k:zr):(aH xs k).isSome=(vq kvs k).isSome:=by
 unfold aH vq;rw[CD,CD]
 induction p with
 |nil=>rfl
 |@cons a b _ _ r t I=>
  rw[Bq,Bq,r.1];cases decide (b.1=k) with|true=>rfl|false=>exact I
def FT(neg:Bool)(x y:Y)(L:qh)(Q:YK):Prop:=match y,Gk x with
 |.ref a,some k=>uT L a λkvs=>Q (.bl<|nb neg (vq kvs k).isSome) L
 |_,_=>False
def Ly(neg:Bool)(j:X.A.units+128<cLine):vi X (compareOp<|if neg then .NotIn else .In) (cf X.g3<|FT neg):=EV (XA neg j) λx y H Q C T L Q3 l o g z k=>by
 unfold FT at z;split at z
 .rename_i a I p;obtain⟨J,e,z⟩:=cW z;obtain⟨U,r,t⟩:=g a _ e;refine{a,U,I,o,r,oF p l,?_};have:(if neg=true then !(aH U I).isSome else(aH U I).isSome)=nb neg (vq J I).isSome:=by rw[XB t];cases neg<;>simp[nb]
  rw[this];exact k _ H _ L (EF _) g (by rfl) z
 .exact z.elim
def XC(I:X.A.units+128<cLine):vi X (compareOp .In) (cf X.g3<|FT false):=Ly false I
def XD(I:X.A.units+128<cLine):vi X (compareOp .NotIn) (cf X.g3<|FT true):=Ly true I
def Lz(xs:_T)(L:qh)(Q:YK):Prop:=match xs with
 |[.ref a]=>uT L a λkvs=>Q (.int kvs.length) L
 |_=>False
theorem XE :zy X (.builtin "len") (e_ X.g3 Lz):=EU uq λp H Q r L t J I z k=>by
 unfold Lz at z;split at z
 .rename_i a;obtain⟨u,rfl,U⟩:=J.inv1;obtain⟨g,e,z⟩:=cW z;obtain⟨j,l,o⟩:=I a _ e;cases (show u=V.ref a from U);refine{a,j,rfl,l,?_};rw[<-cH o];exact k _ H _ L (EF _) I (by rfl) z
 .exact z.elim
def yq(xs:_T)(L:qh)(Q:YK):Prop:=match xs with
 |[.ref a]=>dG L a λys=>Q (.tup ys) L
 |_=>False
theorem LA :zy X (.type "tuple") (e_ X.g3 yq):=EU qO λt H Q C L T g J z k=>by
 unfold yq at z;split at z
 .rename_i a;obtain⟨u,rfl,j⟩:=g.inv1;obtain⟨o,e,z⟩:=x9 z;obtain⟨U,p,r⟩:=J a _ e;cases (show u=V.ref a from j);exact{a,U,rfl,.inl {.inl<|.inl p,λl I=>k _ _ (.tup o) L (EG I) (J.skip I) {l,U,rfl,.inl<|.inl zm,r.ts<|EG I} z}}
 .exact z.elim
def kO{kvs:List<|Str×Int}{k:Str}{x:Int}(h:kvs.lookup k=some x):aH (kvs.map λp=>((Sum.inr p.1:zr),V.int p.2)) (Sum.inr k)=some (V.int x):=by
 induction kvs with
 |nil=>simp at h
 |cons p r I=>
  obtain⟨a,b⟩:=p;unfold aH;rw[AI,Bq];rw[Bg] at h;by_cases c:k=a
  .subst c;simp at h;simp[h]
  .have J:(k==a)=false:=by simpa using c
   rw[J] at h;have U:decide ((Sum.inr a:zr)=Sum.inr k)=false:=Aw λz=>c (E4 z).symm;simp only[U];exact I h
def yi(kvs:List<|Str×Int)(ti:ji)(τ:j5)(L:qh)(Q:YK):Prop:=ti τ L λy L1=>match y with
 |.str k=>qC L1 (λi L=>Q (.int i) L)<|kvs.lookup k
 |_=>False
theorem iG{kvs:List<|Str×Int}{i:Expr}(t:F7 X.g3 X.mg x kvs)(g:Gl X x)(hi:QE X i ti)(l:i8 i)(hd:Es x:=by decide):QE X (.Subscript (.Name x p) i pos) (yi kvs ti):=by
 obtain⟨a,o,r⟩:=t.ex;refine EI (G1 Jo (mz g o (show zg (.ref a) (.ref a) from rfl) hd) hi l) λσ H Q C L Q3 T rl z k=>?_;refine{C,L,_,T,rl,z,λv H1 y L1 t1 I J U=>?_};split at U
 .rename_i kk;obtain⟨j,ej,q⟩:=wc U;cases (show v=V.str kk from J);exact{_,_,.inr r,kO ej,k _ H1 _ L1 t1 I (by rfl) q}
 .exact U.elim
def lG:RD "places_of" kU 0 ["rule"] (λ_=>True):={_,λV B c _ _ _ _ _ _ _ I hN J=>(qd<|ql<|xr iu rfl B.bh bT<|zn<|jq (rN _ _ _) (qv 0) (jr qe)<|jr<|qk zj qe<|iG B.zA2 rfl (J_ 0) λ_ _=>rfl)}
def rT:RD "arms_of" rA 0 ["rule"] (λ_=>True):={_,λV B c _ _ _ _ _ _ _ I hN J=>(qd<|ql<|xr iu rfl B.bh bT<|zn<|jq (rN _ _ _) (qv 0) (jr<|qk zj qe<|iG B.zA2 rfl (J_ 0) λ_ _=>rfl) kc)}
def nR(U:jf)(I:jf):RR "rules_in" nU 2 ["rule"] ["rule","rules","arm"] I (λV=>Gr V U):={_,λV B c _ _ J _ _ _ _ _ _ g hN j=>(qa (S_ 1 hN<|zc<|zn<|qv 0)<|qa (k8 yp rfl (xc<|C_ c g<|zn<|qv 0) (G_ 2 hN)<|qd<|qt<|wx (qv 1)<|zn<|C_ J g<|zn<|qv 2)<|qd<|ql<|qv 1)}
def sF(I:jf):RD "told_by" rM 1 ["rule"] (λV=>Hz V I):={_,λV B c _ _ _ _ _ _ _ J hN U=>(qd<|ql<|dq (E_ U (J_ 0) qo) (zc x5)<|C_ c J<|zn<|qv 0)}
def pF(I:jf):RD "taken_by" nQ 2 ["knots","rule","parts"] (λV=>Gq V I):={_,λV B c _ _ _ _ _ _ _ U hN J=>(qa (zf (E_ J (J_ 1) qo) (qd<|ql<|zc x5) qx)<|qa (zf (E_ J (J_ 1) qo) (qd<|ql<|zc<|vo (zc<|zn<|J_ 1)<|zc<|zn<|J_ 1) qx)<|qa (S_ 2 hN<|C_ c U<|zn<|I_ (qv 0)<|J_ 1)<|qa (zf (E_ J (J_ 1) qo) (qd<|ql<|zc<|zn<|qv 2) qx)<|qd<|ql<|a6 ["part"] (EL (by rfl)) rfl (xc<|qv 2) (dX 3) (λ_ _ _ _=>aM) λ_ _ _ _=>(zc<|zn<|qv 3))}
def sG(J:jf)(I:jf)(U:jf)(g:jf)(l:jf):RR "ends_by" sE 4 ["knots","rule"] ["knots","rule","ends","arm","taken","arm_ends"] g (λV=>HB V J/\Ku V I/\Gr V U/\Gs V l):={_,λV B c _ _ j _ _ _ _ _ _ o hN p=>(qa (S_ 2 hN<|C_ c.1 o<|zn<|qv 1)<|qa (k8 yp rfl (Ub rfl B.b_zip<|vo (C_ c.2.2.1 o<|zn<|qv 1)<|C_ c.2.1 o<|vo (qv 0)<|qv 1) (af (n:=2) rfl<|zh (G_ 3 hN)<|zh (fO (i:=4) hN rfl<|Or.inr rfl) wo)<|qa (bq (i:=5) hN rfl (Or.inr rfl)<|C_ j o<|vo (qv 0)<|qv 3)<|qa (qt<|C_ c.2.2.2 o<|vo (vv rS rfl B.b_all kD<|zn<|a6 ["place"] (EL (by rfl)) rfl (xc<|qv 4) (dX 6) (λ_ _ _ _=>aM) λ_ _ _ _=>(ke (Hg _ _ _) (qv 6) (qv 5) (by with_unfolding_all rfl))) qo)<|qd<|qt<|wx (qv 2)<|zn<|a6 ["place"] (EL (by rfl)) rfl (xc<|qv 5) (dX 6) (λ_ _ _ _=>eV<|jo (o4 _ _ _) (qv 6) (qv 4) (by with_unfolding_all rfl)) λ_ _ _ _=>(qv 6))<|qd<|ql<|qv 2)}
def bM(I:jf)(J:jf)(g:jf)(U:jf):RD "demand_told_once" bF 2 ["knots","rule","there","told","due","here","place"] (λV=>Km V I/\HB V J/\Gs V g/\Gr V U):={_,λV B c _ _ _ _ _ _ _ j hN l=>(qa (S_ 2 hN<|C_ c.1 j<|zn<|qv 0)<|qa (S_ 3 hN tJ)<|qa (S_ 4 hN<|zc<|zn<|qv 1)<|qa (cU yp (N_ l (qv 4)<|zc x5)<|qa (S_ 5 hN<|yN<|qv 4)<|qa (k8 yp rfl (xc<|C_ c.2.1 j<|zn<|qv 5) (G_ 6 hN)<|qa (qt<|C_ c.2.2.1 j<|vo (ae (ke (Hg _ _ _) (qv 6) (qv 2) (by with_unfolding_all rfl))<|bB<|ke (XD l) (qv 6) (qv 3) (by with_unfolding_all rfl)) qo)<|qd<|iE l (qv 3) (qv 6) bX)<|qd<|qt<|wx (qv 4)<|zn<|C_ c.2.2.2 j<|zn<|qv 5)<|qd<|qt<|C_ c.2.2.1 j<|vo (ke (iz _ _ _ l) (vv XE rfl B.ba zO<|zn<|qv 3) (L_ B.ba<|qv 2)<|jy _) qo)}
def LB(I:jf)(J:jf):RD "fits" Ki 123 ["knots","rule"] (λV=>Kr V I/\Kt V J):={_,λV B c _ _ _ _ _ _ _ g hN U=>(qa (zf (E_ U (J_ 1) qo) (qd<|ql<|C_ c.1 g<|df (qv 0) (J_ 1)<|J_ 1) qx)<|qa (zf (E_ U (J_ 1) qo) (qd<|ql<|C_ c.2 g<|df (qv 0) (J_ 1)<|J_ 1) qx)<|qd<|ql<|ke (iz _ _ _ U) (I_ (I_ (qv 0)<|J_ 1) qe) (J_ 1)<|jy _)}
def fA(o:jf)(J:jf)(U:jf)(g:jf)(I:jf)(j:jf)(r:jf)(l:jf):RD "checked_tree" dm 124 ["tree","knots","rule"] (λV=>Gs V o/\Kq V J/\Hy V U/\Hx V g/\Kw V I/\HA V j/\Kx V r/\Kv V l):={_,λV B c _ _ _ _ _ _ _ p hN t=>(qa (bq (i:=1) hN rfl (Or.inr rfl)<|J_ 0)<|qa (S_ 2 hN<|J_ 0)<|qa (qt<|C_ c.1 p<|vo (C_ c.2.1 p<|zn<|qv 1) qo)<|qa (qt<|C_ c.1 p<|vo (C_ c.2.2.1 p<|zn<|C_ c.2.2.2.1 p<|zn<|qv 1) qo)<|qa (qt<|C_ c.2.2.2.2.1 p<|vo (qv 1)<|qv 2)<|qa (qt<|C_ c.1 p<|vo (vv rS rfl B.b_all kD<|zn<|a6 ["inner"] (EL (by rfl)) rfl (xc<|C_ c.2.2.2.2.2.1 p<|zn<|qv 2) (dX 3) (λ_ _ _ _=>aM) λ_ _ _ _=>(C_ c.2.2.2.2.2.2.1 p<|vo (qv 1)<|qv 3)) qo)<|qa (qt<|C_ c.2.2.2.2.2.2.2 p<|vo (qv 1)<|qv 2)<|qd<|ql bX)}
def ar:Ru->aab
 |.link p q=>[p,q]
 |.ei r _=>[r]
 |.bo r _ _=>[r]
 |.cu p q _ _=>[p,q]
inductive gq(ys:_T)(L:qh)(Q:YK):Prop
 |mk:∀A:Ru,(ys=[qr A])->(∀p,L p=none->Q (.ref p) (qg L p<|.lst<|nY<|ar A))->gq ys L Q
def XF:_f gq lG.1 1:=by
 rintro ys L Q ⟨A,rfl,q⟩;cases A with
 |link a b=>exact{λz=>absurd z.1 (by show ¬1=0;decide),λp I=>jd<|q p I}
 |ei r A=>exact{λz=>absurd z.1 (by show ¬1=0;decide),λp I=>jd<|q p I}
 |bo r A B=>exact{λz=>absurd z.1 (by show ¬1=0;decide),λp I=>jd<|q p I}
 |cu a b A B=>exact{λz=>absurd z.1 (by show ¬1=0;decide),λp I=>jd<|q p I}
inductive aT(ys:_T)(L:qh)(Q:YK):Prop
 |mk:∀A:Ru,(ys=[qr A])->(∀p,L p=none->Q (.ref p) (qg L p<|.lst<|(qy A).map qr))->aT ys L Q
def XG:_f aT rT.1 1:=by
 rintro ys L Q ⟨A,rfl,q⟩;cases A with
 |link a b=>exact{λz=>absurd z.1 (by show ¬3=0;decide),λp I=>jd<|q p I}
 |ei r A=>exact{λz=>absurd z.1 (by show ¬2=0;decide),λp I=>jd<|q p I}
 |bo r A B=>exact{λz=>absurd z.1 (by show ¬2=0;decide),λp I=>jd<|q p I}
 |cu a b A B=>exact{λz=>absurd z.1 (by show ¬3=0;decide),λp I=>jd<|q p I}
inductive cN(ys:_T)(L:qh)(Q:YK):Prop
 |mk:∀A:Ru,(ys=[qr A])->(∀p,L p=none->Q (.ref p) (qg L p<|.lst<|nY<|wr A))->cN ys L Q
def XH:_f cN (sF gq).1 1:=by
 rintro ys L Q ⟨A,rfl,q⟩;cases A with
 |link a b=>exact{_,rfl,λp I=>jd<|q p I}
 |ei r A=>exact{_,rfl,λp I=>jd<|q p I}
 |bo r A B=>exact{_,rfl,λp I=>jd<|q p I}
 |cu a b A B=>exactλp I=>jd<|q p I
inductive wv(n:Nat)(ys:_T)(L:qh)(Q:YK):Prop
 |mk:∀A:Ru,(ys=[qr A])->(zx A<=n)->(aG A<=1000)->(∀p,L p=none->Q (.ref p) (qg L p<|.lst<|(jx A).map qr))->wv n ys L Q
def fK(A:Ru):0<zx A:=by cases A<;>simp[zx]
def XI:∀ys L Q,¬wv 0 ys L Q:=by rintro ys L Q ⟨A,_,h,_⟩;have:=fK A;lia
def XJ{A B:Ru}(h:B∈qy A):aG B<aG A:=by
 cases A with
 |link p q=>cases h
 |ei r C=>cases Ak.mp h;exact BN _
 |bo r C D=>
  have:aG (.bo r C D)=aG C+aG D+1:=rfl;rcases Aq.mp h with rfl|h
  .lia
  .cases Ak.mp h;lia
 |cu p q C D=>
  have:aG (.cu p q C D)=aG C+aG D+1:=rfl;rcases Aq.mp h with rfl|h
  .lia
  .cases Ak.mp h;lia
def yz(n:Nat):_f (wv (n+1)) (nR aT<|wv n).1 3:=by
 rintro ys L Q ⟨A,rfl,hd,hz,q⟩;have big:=a_;intro l t;refine{A,rfl,λU I=>?_};have j:l≠U:=v4 q9 I;have a0:L U=none:=j8 I;have s0:qf L (qg (qg L l<|.lst [qr A]) U<|.lst<|(qy A).map qr):=(By t).trans<|By I;have sz:∀i,(((qy A).take i).flatMap jx).length<=1000:=λi=>by
  have e:=BA List.length<|cZ A;rw[aX] at e;have h2:(((qy A).take i).flatMap jx).length+(((qy A).drop i).flatMap jx).length=((qy A).flatMap jx).length:=by rw[<-Ab,<-AD,AU]
  simp only[Ap] at e;lia
 refine jb q9 λkeep kp=>vk {λi o J=>∃r,o=[some<|qr A,some<|.ref l,r]/\qf L J/\J l=some (.lst<|(A::((qy A).take i).flatMap jx).map qr)/\J U=some (.lst<|(qy A).map qr),{_,rfl,s0,(qb j).trans q9,q9},?_,?_,?_}
 .rintro i o J ⟨r,rfl,s,g,g2⟩;exact kp J (by rw[g2,q9])
 .rintro i y o J hy ⟨r,rfl,s,g,g2⟩;rw[Al] at hy;obtain⟨B,eB,rfl⟩:=Ax.mp hy;have mB:=AE eB;have et:(qy A).take (i+1)=(qy A).take i++[B]:=by rw[AW,eB];rfl
  have zB:=XJ mB;have dB:=wa mB;have zi:=sz i;refine qc g {B,rfl,by lia,by lia,λp C=>?_};have np:l≠p:=v4 g C;have T:U≠p:=v4 g2 C;refine qi ((qb np).trans g)<|qi q9 {?_,?_}
  .rw[Ac,Ac,Ap,aX];exact Bi<|big _ (by lia)
  .refine{_,EE _,_,rfl,(s.trans<|By C).upd t,?_,(qb<|AL j).trans<|(qb T).trans g2};rw[q9,et,AD,Cc,<-Ar];rfl
 .rintro o J ⟨r,rfl,s,g,_⟩;rw[Ac,AZ,<-cZ] at g;exact aB (EZ s g)<|q l t
def Agr(ks:Pi)(wd:List<|HT)(A:Ru):Prop:=∀x∈qm A,∀k,ks[x]?=some k->wd[x]?=some (some k)
def Agr.arm{A B:Ru}(h:Agr ks wd A)(I:B∈qy A):Agr ks wd B:=λx J=>h x (by rw[kA];exact Ai _<|Bl.mpr {(B),I,J})
inductive mm(ys:_T)(L:qh)(Q:YK):Prop
 |mk:∀a,∀wd:List (HT),∀ks:Pi,∀A:Ru,∀E:aab,(ys=[.ref a,qr A])->(L a=some (.lst<|wq wd))->(SR ks A E)->(Agr ks wd A)->(∀p rs L',qf L L'->L p=none->L' p=some (.lst<|rs.map Y.ref)->Paired (λr t=>L r=none/\L' r=some (.lst<|nY t)) rs (ot ks A)->Q (.ref p) L')->mm ys L Q
def XM:_f mm (pF cJ).1 3:=by
 rintro ys L Q ⟨a,wd,ks,A,E,rfl,ha,sr,ag,q⟩;cases sr with
 |link=>exactλp hp=>jd<|q p [] _ (By hp) hp q9 .nil
 |@cu u v A B EA EB _ w hA hB T h4=>
  intro I U g h2 p3 T;have J:I≠g:=v4 q9 h2;have a0:I≠p3:=v4 ((qb J).trans q9) T;have a1:g≠p3:=v4 q9 T;exact jd<|q p3 [I,g] _ (((By U).trans<|By h2).trans<|By T) (j8<|j8 T) q9<|.cons {U,(qb a0).trans<|(qb J).trans q9}<|.cons {j8 h2,(qb a1).trans q9} .nil
 |@ei r i j A EA _ U=>
  refine qc ha<|qj (xp<|ag r (An ..) _ U) {some<|.nd true i j,rfl,λI g1=>?_};intro g g2;have J:I≠g:=v4 q9 g2;refine jd<|q g [I] _ ((By g1).trans<|By g2) (j8 g2) q9 ?_;show Paired _ [I] [j7 ks[r]?];rw[U];exact .cons {g1,(qb J).trans q9} .nil
 |@bo r i j A B EA EB _ U=>
  refine qc ha<|qj (xp<|ag r (An ..) _ U) {some<|.nd false i j,rfl,λI g1=>?_};have s1:qf L (qg L I<|.lst<|nY [i,j]):=By g1;refine jb q9 λkeep kp=>se {show 2<sizeLine by decide,λm zs C=>∃l,zs=l.map Y.ref/\qf (qg L I<|.lst<|nY [i,j]) C/\Paired (λr t=>L r=none/\C r=some (.lst<|nY t)) l (([i,j].map λx=>[x]).take m),{[],rfl,EE _,.nil},?_,?_,?_}
  .rintro m zs C ⟨l,_,s,_⟩;exact kp C (by rw[q9];exact s _ _ q9)
  .rintro m y zs C hy ⟨l,rfl,s,pr⟩;obtain⟨x,ex,rfl⟩:=cj hy;have ex:[i,j][m]?=some x:=ex;intro g g2;refine{_,EE _,l++[g],by rw[Ar];rfl,s.trans<|By g2,?_};have et:([i,j].map λx=>[x]).take (m+1)=([i,j].map λx=>[x]).take m++[[x]]:=by rw[AW,Al,ex];rfl
   rw[et];exact bU (EH pr λb t o=>{o.1,(qb<|v4 o.2 g2).trans o.2}) {s1.none<|s.none g2,q9}
  .rintro zs C ⟨l,rfl,s,pr⟩ p3 g3;refine jd<|q p3 l _ ((s1.trans s).trans<|By g3) (s1.none<|s.none g3) q9 ?_;show Paired _ l ((j7 ks[r]?).map λx=>[x]);rw[U];exact EH pr λb t o=>{o.1,(qb<|v4 o.2 g3).trans o.2}
def XN{A:Ru}:∀t∈ot ks A,t.length<=2:=by
 intro t I;cases A with
 |link p q=>cases I
 |ei r A=>rw[Ak.mp I];exact GE _
 |bo r A B=>obtain⟨x,_,rfl⟩:=A2.mp I;exact Cd 1
 |cu p q A B=>
  rcases Aq.mp I with rfl|I
  .exact Cd 1
  .rw[Ak.mp I];exact Cd 1
def wB{A:Ru}{E:aab}(I:SR ks A E)(nd:(qm A).Nodup):(xu ks A).length<=(qm A).length:=by have:=(I.part nd).length_eq;rw[Ab,Ab] at this;rw[(Lu I nd).length_eq];lia
def XO{A B:Ru}(h:B∈qy A):(qm B).Sublist (qm A):=by rw[kA A];refine List.Sublist.trans ?_<|BU ..;obtain⟨a,b,e⟩:=BY h;rw[e,AD,Bc];exact(CV ..).trans (BU ..)
def Kp(l:Addr)(L L':qh):Prop:=∀b o,b≠l->L b=some o->L' b=some o
def Kp.new{p:Addr}{o:LO}(h:Kp l L L')(J:L' p=none):Kp l L (qg L' p o):=λb u I e=>(qb<|v4 (h b u I e) J).trans<|h b u I e
def Kp.upd{o:LO}(h:Kp l L L'):Kp l L (qg L' l o):=λb u I e=>(qb I).trans<|h b u I e
inductive ao(n:Nat)(ys:_T)(L:qh)(Q:YK):Prop
 |mk:∀a,∀wd:List (HT),∀ks:Pi,∀A:Ru,∀E:aab,(ys=[.ref a,qr A])->(L a=some (.lst<|wq wd))->(SR ks A E)->(Agr ks wd A)->((qm A).Nodup)->((qm A).length<=1000)->(zx A<=n)->(∀p,L p=none->Q (.ref p) (qg L p<|.lst<|nY<|xu ks A))->ao n ys L Q
def XQ:∀ys L Q,¬ao 0 ys L Q:=by rintro ys L Q ⟨a,I,J,A,E,_,_,_,_,_,_,h,_⟩;have:=fK A;lia
def XR(n:Nat):_f (ao (n+1)) (sG cN mm aT (ao n) aK).1 6:=by
 rintro ys L Q ⟨a,wd,I,A,E,rfl,ha,sr,ag,nd,tl,hd,q⟩;have big:=a_;refine{A,rfl,λl hl=>{A,rfl,λpa T=>?_}};have U:pa≠l:=AL<|v4 q9 T;have a2:a≠l:=v4 ha hl;have sa:qf L (qg (qg L l<|.lst<|nY<|wr A) pa<|.lst<|(qy A).map qr):=(By hl).trans<|By T;refine{a,wd,I,A,E,rfl,sa _ _ ha,sr,ag,λpt rs L1 s1 p gt pr=>?_};have gl:L1 l=some (.lst<|nY<|wr A):=s1 _ _<|(qb<|AL U).trans q9;have gp:L1 pa=some (.lst<|(qy A).map qr):=s1 _ _ q9;have ga:L1 a=some (.lst<|wq wd):=s1 _ _<|sa _ _ ha;have a3:pt≠l:=λz=>by rw[z] at p;rw[(qb<|AL U).trans q9] at p;cases p
 obtain⟨Z,eZ⟩:∃Z,Z=((qy A).map<|xu I).zip (ot I A):={_,rfl};have eF:xu I A=wr A++Z.flatMap je:=by rw[eZ];exact Xg I A
 have zl:∀i,(wr A++(Z.take i).flatMap je).length<=1000:=λi=>by
  have h1:=wB sr nd;have h2:((Z.take i).flatMap je).length+((Z.drop i).flatMap je).length=(Z.flatMap je).length:=by rw[<-Ab,<-AD,AU]
  rw[eF,Ab] at h1;rw[Ab];lia
 refine qc gp (qc gt (V' (λi τ J=>∃c3 c4 c5,τ=[some<|.ref a,some<|qr A,some<|.ref l,c3,c4,c5]/\Kp l L1 J/\J l=some (.lst<|nY<|wr A++(Z.take i).flatMap je)) {_,_,_,rfl,λ_ _ _ h=>h,by rw[CH,Do,AG];exact gl} (λi τ J ⟨_,_,_,_,k,_⟩=>{by show J pa=_;rw[k _ _ U gp,gp],by show J pt=_;rw[k _ _ a3 gt,gt]}) ?_ ?_))
 .rintro i x y τ J ex ey ⟨c3,c4,c5,rfl,k,g⟩;rw[Al] at ex ey;obtain⟨B,eB,rfl⟩:=Ax.mp ex;obtain⟨r,er,rfl⟩:=Ax.mp ey;obtain⟨t,et,a0,gr⟩:=Paired.getP pr er;obtain⟨EB,sB,sub⟩:=EJ sr.arms eB et;have mB:=AE eB;have tB:=XO mB;have nB:=tB.nodup nd;have lB:=tB.length_le;have dB:=wa mB;have a1:r≠l:=λz=>by rw[z,(qb<|AL U).trans q9] at a0;cases a0
  have FB:=Lu sB nB;have FL:=wB sB nB;have a5:=XN t<|AE et;have ei:Z.take (i+1)=Z.take i++[(xu I B,t)]:=by
   have:Z[i]?=some (xu I B,t):=by rw[eZ,DI];exact{by rw[Al,eB];rfl,et}
   rw[AW,this];rfl
  have zi:=zl i;have a4:=zl<|i+1;refine{a,wd,I,B,EB,rfl,k _ _ a2 ga,sB,ag.arm mB,nB,by lia,by lia,λp5 h5=>?_};have k5:Kp l L1 (qg J p5<|.lst<|nY<|xu I B):=k.new h5;have g5:qg J p5 (.lst<|nY<|xu I B) l=some (.lst<|nY<|wr A++(Z.take i).flatMap je):=(qb<|v4 g h5).trans g;have e5:qg J p5 (.lst<|nY<|xu I B) p5=some (.lst<|nY<|xu I B):=q9;generalize qg J p5 (.lst<|nY<|xu I B)=L5 at k5 g5 e5 ⊢;refine jb (k5 _ _ a1 gr) λkeep kp=>aC (λi C=>C=(List.replicate i true).map Y.bl) (by rw[ku];exact big _ (by lia)) (kp _ rfl) rfl ?_ ?_
  .rintro j y C hy rfl;obtain⟨m,em,rfl⟩:=cj hy;refine qc e5 {rfl,mX _,?_};rw[nL,AA<|FB.mem_iff.mpr<|sub m<|AE em];exact{_,EE _,rfl,tw j}
  rintro C rfl p6 h6;refine{rfl,qc q9<|qj (bJ _) ?_};rw[iC];refine{_,rfl,?_};have k6:=k5.new (o:=.lst<|(List.replicate (nY t).length true).map Y.bl) h6;have g6:=(qb (o:=.lst<|(List.replicate (nY t).length true).map Y.bl)<|v4 g5 h6).trans g5;have e6:=(qb (o:=.lst<|(List.replicate (nY t).length true).map Y.bl)<|v4 e5 h6).trans e5;generalize qg L5 p6 (.lst<|(List.replicate (nY t).length true).map Y.bl)=L6 at k6 g6 e6 ⊢;refine qc g6 (jb e6 λkeep kp=>aC (λi C=>C=nY (je ((xu I B).take i,t))) (by rw[ku];exact big _ (by lia)) (kp _ rfl) rfl ?_ ?_)
  .rintro j y C hy rfl;obtain⟨m,em,rfl⟩:=cj hy;have e2:je ((xu I B).take<|j+1,t)=je ((xu I B).take j,t)++je ([m],t):=by unfold je;rw[AW,em,<-BW];rfl
   refine qc (k6 _ _ a1 gr) {rfl,mX _,?_};rw[nL];by_cases c:m∈t
   .refine jv (by rw[AA c];rfl) {_,EE _,rfl,?_};have e3:je ([m],t)=[]:=by unfold je;rw[Dn,Az (by rw[AA c];decide)];rfl
    rw[e2,e3,AG]
   .refine kz (by rw[Aw c];rfl) {_,EE _,rfl,?_};have e3:je ([m],t)=[m]:=by unfold je;rw[Dn,AC (by rw[Aw c];rfl)];rfl
    rw[e2,e3,ox];rfl
  rintro C rfl p7 h7;rw[ku,AZ];refine qi ((qb<|v4 g6 h7).trans g6)<|qi q9 {?_,?_}
  .rw[ei,AD,<-Av,Ab,Cc] at a4;rw[ku,ku];exact Bi<|big _ (by lia)
  .refine{_,EE _,_,_,_,rfl,(k6.new h7).upd,?_};rw[q9,ei,AD,Cc,<-Av,ox<|wr A++_]
 .rintro τ J ⟨c3,c4,c5,rfl,k,g⟩;have lz:Z.take (min ((qy A).map qr).length (rs.map Y.ref).length)=Z:=by refine AM ?_;have h1:=cH pr;have h2:=cH sr.arms;rw[eZ,Ej,Ac,Ac,Ac];lia
  rw[lz,<-eF] at g;refine aB (EZ (λb o e=>?_) g)<|q l hl;exact k b o (v4 e hl)<|s1 _ _<|sa _ _ e
def vS{T:aab}(J:∀x∈T,x<ks.length){x:Nat}:x∈aW (ak ks T)↔x∈T:=by
 constructor
 .intro h;obtain⟨_,k,e,U⟩:=Wx h;cases k with
  |none=>cases U
  |some k=>exact(fc e).1
 .intro h;have I:=J x h;exact W6 (bu h<|Ah I) rfl (by rw[kh];exact I)
def jJ{E:aab}(T:gU ks R E):(aW<|ak ks<|qm R).length=(qm R).length:=by refine((AY ?_ T.nd).mpr λx=>vS λx I=>T.sr.lt x I).length_eq;unfold aW f_;exact Cy.filter _
def XS{k:zr}(h:(vq kvs k).isSome=false):iw kvs k y=kvs++[(k,y)]:=by unfold iw;rw[oV,h,Az AN]
structure TkI(tk:aab)(kvs:List<|zr×Y):Prop where
 val:∀x:Nat,(vq kvs<|.inl (x:Int)).isSome=decide (x∈tk)
 len:kvs.length=tk.length
def TkI.put(h:TkI tk kvs){x:Nat}(I:x∉tk)(y:Y):TkI (tk++[x]) (iw kvs (.inl (x:Int)) y):=by
 refine{λz=>?_,?_}
 .rw[pP];by_cases e:z=x
  .subst e;rw[AC rfl,AA<|Ai _<|Ak.mpr rfl];rfl
  .rw[Az λq=>e<|CU.mp<|E6 q,h.val];refine Di.mpr {λq=>Ay _ q,λq=>?_};rcases Ao.mp q with q|q
   .exact q
   .exact absurd (Ak.mp q) e
 .rw[XS (by rw[h.val,Aw I]),Ab,h.len,Ab];rfl
structure StI(A:Ru)(tk:aab)(st:aay):Prop where
 pt:(tk++st.flatMap qm).Perm (qm A)
 sz:(st.map aG).sum<=aG A
 dp:∀B∈st,zx B<=zx A
def StI.start(A:Ru):StI A [] [A]:={by simp,by simp,λB I=>by rw[Ak.mp I];exact Aj _}
def StI.step{A B:Ru}{st:aay}(h:StI A tk<|st++[B]):StI A (tk++wr B) (st++qy B):=by
 refine{?_,?_,λC I=>?_}
 .refine List.Perm.trans ?_ h.pt;rw[AD,AD];have:[B].flatMap qm=wr B++(qy B).flatMap qm:=by rw[<-kA];simp
  rw[this];refine Cs.mpr λz=>?_;simp only[CG];lia
 .have:=h.sz;have:=pX B;simp at *;lia
 .rcases Ao.mp I with I|I
  .exact h.dp C<|Ay _ I
  .have:=wa I;have:=h.dp B<|Ai _<|Ak.mpr rfl;lia
def StI.lt{A B:Ru}{tk:aab}{st:aay}:((st.map aG).sum+((qy B).map aG).sum)<((st++[B]).map aG).sum:=by have:=pX B;simp;lia
def XT{b:Bool}{t:Str}{Q:YK}(h:b=true)(q:Q .KF L):aK [.bl b,.str t] L Q:={t,by rw[h],q}
inductive t7(ys:_T)(L:qh)(Q:YK):Prop
 |mk:∀a,∀ks:Pi,∀A:Ru,∀E:aab,(ys=[.ref a,qr A])->(L a=some (.lst<|wq<|ak ks<|qm A))->(gU ks A E)->(Q .KF L)->t7 ys L Q
theorem XU:_f t7 (bM i6 cN aK aT).1 7:=by
 rintro ys L Q ⟨a,t,A,E,rfl,ha,T,q⟩;have big:=a_;have kl:=T.len;have rd:=xj A;have rz:=aD A;have tlen:(qm A).length<=96:=by
  have:=jJ T;have h2:=Le bC (ak t<|qm A) (ak t<|qm A).length;rw[kh] at h2;have:(aW<|ak t<|qm A).length<=t.length:=by unfold aW;rw[kh];exact h2
  lia
 refine{a,_,rfl,ha,by rw[kh];lia,λp2 h2=>?_};intro d hd u hu;have j:d≠u:=v4 q9 hu;have s2:qf L (qg L p2<|.lst<|nY<|aW<|ak t<|qm A):=By h2;have e2:qg L p2 (.lst<|nY<|aW<|ak t<|qm A) p2=some (.lst<|nY<|aW<|ak t<|qm A):=q9;have a0:=j8 hu;generalize qg L p2 (.lst<|nY<|aW<|ak t<|qm A)=L2 at hd hu s2 e2 a0 ⊢;have S0:qf L2 (qg (qg L2 d<|._q []) u<|.lst [qr A]):=(By hd).trans<|By hu;refine{λm τ U=>∃J tk st c5 C,τ=[some<|.ref a,some<|qr A,some<|.ref p2,some<|.ref d,some<|.ref u,c5,C]/\qf L2 U/\U d=some (._q J)/\U u=some (.lst<|st.map qr)/\TkI tk J/\StI A tk st/\m=(st.map aG).sum,{_,[],[],[A],_,_,rfl,S0,(qb j).trans q9,q9,{λ_=>rfl,rfl},StI.start A,rfl},?_};rintro m τ U ⟨J,tk,st,c5,C,rfl,s,g1,g3,K,I,rfl⟩;intro p hp;refine a9 (n:=120) (m:=0) (by decide) (By hp _ _ g3) q9 (bL λB hB=>AF (I.dp B hB) (by lia)) (.nil:Paired (j9 _ 0) _ []) ?_;have s':qf L2 (qg U p<|.lst []):=s.trans<|By hp;replace g1:=(qb (o:=.lst [])<|v4 g1 hp).trans g1;replace g3:=(qb (o:=.lst [])<|v4 g3 hp).trans g3;generalize qg U p (.lst [])=L3 at s' g1 g3 ⊢;show wg (!(Da.eqs (st.map bN) [])) _ _;rw[iU];have pl:=I.pt.length_eq;rw[Ab] at pl;rcases Df st with rfl|⟨fq,B,rfl⟩
 .refine jv rfl ?_;have e:J.length=(nY<|aW<|ak t<|qm A).length:=by rw[K.len,ku,jJ T];exact pl
  exact ju g1<|qc (s' _ _ e2)<|XT (AA (by rw[e]))<|aB (s2.trans s') q
 .rw[Dg] at *;rw[Aw (by simp)];refine kz rfl {λa1 U=>∃m',m'<((fq++[B]).map aG).sum/\∃J tk st c5 C,a1=[some<|.ref a,some<|qr A,some<|.ref p2,some<|.ref d,some<|.ref u,c5,C]/\qf L2 U/\U d=some (._q J)/\U u=some (.lst<|st.map qr)/\TkI tk J/\StI A tk st/\m'=(st.map aG).sum,λa1 U h=>h,?_};rw[Ar] at g3;refine xZ g3 {B,rfl,λp5 h5=>?_};have I1:=I.step;have a3:(tk++wr B++(fq++qy B).flatMap qm).Nodup:=I1.pt.nodup_iff.mpr T.nd;have tb:∀x∈wr B,x∈qm A:=λx hx=>I1.pt.mem_iff.mp<|Ay _<|Ai _ hx;have s5:qf L2 (qg (qg L3 u<|.lst<|fq.map qr) p5<|.lst<|nY<|wr B):=(s'.upd a0).trans<|By h5;have f1:qg (qg L3 u<|.lst<|fq.map qr) p5 (.lst<|nY<|wr B) d=some (._q J):=(qb<|v4 ((qb j).trans g1) h5).trans<|(qb j).trans g1;have f3:qg (qg L3 u<|.lst<|fq.map qr) p5 (.lst<|nY<|wr B) u=some (.lst<|fq.map qr):=(qb<|v4 q9 h5).trans q9;have f5:qg (qg L3 u<|.lst<|fq.map qr) p5 (.lst<|nY<|wr B) p5=some (.lst<|nY<|wr B):=q9;have a4:p5≠d:=AL<|v4 ((qb j).trans g1) h5;generalize qg (qg L3 u<|.lst<|fq.map qr) p5 (.lst<|nY<|wr B)=L5 at s5 f1 f3 f5 ⊢;refine jb f5 λkeep kp=>vk {λi τ U=>∃J C,τ=[some<|.ref a,some<|qr A,some<|.ref p2,some<|.ref d,some<|.ref u,some<|qr B,C]/\Kp d L5 U/\U d=some (._q J)/\TkI (tk++(wr B).take i) J,{J,_,rfl,λ_ _ _ h=>h,f1,by rw[CH,AG];exact K},?_,?_,?_}
  .rintro i τ U ⟨J,C,rfl,k,_⟩;exact kp U (by rw[k _ _ a4 f5,f5])
  .rintro i y τ U hy ⟨J,C,rfl,k,g,K⟩;obtain⟨x,ex,rfl⟩:=cj hy;have xm:=AE ex;have eo:(wr B).take (i+1)=(wr B).take i++[x]:=by rw[AW,ex];rfl
   have xn:x∉tk++(wr B).take i:=λz=>by
    have e3:wr B=(wr B).take i++x::(wr B).drop (i+1):=by have hi:=xx ex;rw[Ah hi] at ex;rw[<-A1 ex,CC,AU]
    have n1:=(AB.mp a3).1;rw[e3,<-Av] at n1;exact(AB.mp n1).2.2 x z x (An ..) rfl
   have a2:p2≠d:=v4 e2 hd;refine qc (k _ _ a2<|s5 _ _ e2) {rfl,mX _,?_};rw[nL,AA<|(vS λx hx=>T.sr.lt x hx).mpr<|tb x xm];refine ju g {_,BA (λb=>[Y.bl b,Y.str _]) (?_:nb true (vq J<|.inl (x:Int)).isSome=true),?_}
   .rw[K.val,Aw xn];rfl
   .have K1:=K.put xn<|.bl true;have:J.length<=96:=by have e:=K.len;have l1:=I1.pt.length_eq;simp only[Ab,AS] at e l1;lia
    refine ju g {big _ (by lia),?_};refine{_,EE _,_,_,rfl,k.upd,q9,?_};rw[eo,<-Av];exact K1
  .rintro τ U ⟨J,C,rfl,k,g,K⟩;rw[ku,AZ] at K;have gu:=k _ _ (AL j) f3;refine qc gu {B,rfl,λp8 h8=>?_};have a5:u≠p8:=v4 gu h8;refine qi ((qb a5).trans gu)<|qi q9 {?_,?_}
   .have h1:=I1.sz;have len:∀l:aay,l.length<=(l.map aG).sum:=λl=>by induction l with|nil=>exact Aj _|cons x r ih=>have:=Lr x;simp;lia
    have h3:=len<|fq++qy B;rw[Ab] at h3;rw[Ac,Ac];exact Bi<|big _ (by lia)
   .refine{_,EE _,_,StI.lt (tk:=tk) (A:=A),J,tk++wr B,fq++qy B,_,_,rfl,λb o e=>?_,?_,?_,K,I1,by rw[Ar,Du]}
    .have nb:b≠u:=v4 e a0;have nd:b≠d:=v4 e hd;exact(qb nb).trans ((qb<|v4 (k _ _ nd<|s5 _ _ e) h8).trans<|k _ _ nd<|s5 _ _ e)
    .exact(qb j).trans ((qb<|v4 g h8).trans g)
    .rw[q9,Ar]
inductive nJ(ys:_T)(L:qh)(Q:YK):Prop
 |mk:∀a,∀ks:Pi,∀A B:Ru,∀E:aab,(ys=[.ref a,qr B])->(L a=some (.lst<|wq<|ak ks<|qm A))->(gU ks A E)->(B∈jx A)->(Q (.bl true) L)->nJ ys L Q
def XW:_f nJ (LB fb gd).1 2:=by
 rintro ys L Q ⟨a,ks,A,B,E,rfl,J,T,hB,q⟩;obtain⟨⟨EB,sB⟩,tB,_,_,cB⟩:=T.sr.rls B hB;cases sB with
 |@link p r t n _ I h2 U=>exact{a,_,p,r,t,n,rfl,J,I,bu (tB _<|An ..) h2,bu (tB _<|Ag _<|An ..) U,jd q}
 |@cu p r C D g ED _ w hC hD U h4 h5 h6=>
  have m1:=tB p<|Ay _<|hC.sub p U;have m2:=tB r<|Ai _<|hD.sub r h4;have l:=T.word m1 h5;have w2:=T.word m2 h6;have o:=W7<|cB (p,r)<|An ..;have:=T.wdep l;have:=T.len;exact{a,_,p,r,w,rfl,J,by rw[kh];lia,l,w2,by lia,T.cut o.1,T.cut o.2,jd q}
 |@ei r i j C g _ I=>exact qc J<|qj (xp<|bu (tB r<|An ..) I)<|jd q
 |@bo r i j C D g ED _ I=>exact qc J<|qj (xp<|bu (tB r<|An ..) I)<|jd q
def XX(ks:Pi)(A:Ru):Agr ks (ak ks<|qm A) A:=λ_ I _ J=>bu I J
def gU.small{A:Ru}{E:aab}(T:gU ks A E):(qm A).length<=96:=by
 have:=jJ T;have I:=Le bC (ak ks<|qm A) (ak ks<|qm A).length;rw[kh] at I;have:(aW<|ak ks<|qm A).length<=ks.length:=by unfold aW;rw[kh];exact I
 have:=T.len;lia
inductive mw(ys:_T)(L:qh)(Q:YK):Prop
 |mk:∀a,∀ks:Pi,∀A:Ru,∀E:aab,(ys=[.tup [.ref a,qr A]])->(L a=some (.lst<|wq<|ak ks<|qm A))->(gU ks A E)->(Q (.bl true) L)->mw ys L Q
theorem XY:_f mw (fA aK fQ iF iR t7 (wv 120) nJ<|ao 120).1 3:=by
 rintro ys L Q ⟨a,I,A,E,rfl,J,T,q⟩;have big:=a_;have tl:=T.small;have rd:=xj A;have rz:=aD A;have kl:=T.len;have S:=T.knS;have pl:=rR<|ak I<|qm A;rw[kh] at pl;have j:(ak I<|qm A).length<=1000:=by rw[kh];lia
 obtain⟨x,C⟩:∃x,x∈qm A:=List.exists_mem_of_length_pos (by lia);obtain⟨k,ek⟩:=T.ex C;refine{a,_,rfl,J,j,S,{(x),k,ek},{_,rfl,?_}};refine{a,_,rfl,J,j,λl h1=>?_};have U:=By (o:=.lst<|nY<|kn<|ak I<|qm A) h1;refine{l,_,rfl,q9,by lia,S.pu.nodup,{_,rfl,?_}};generalize qg L l (.lst<|nY<|kn<|ak I<|qm A)=L1 at U ⊢;refine{a,I,A,E,rfl,U _ _ J,T,?_};refine{A,rfl,by lia,by lia,λp2 h2=>?_};have p:=U.trans<|By (o:=.lst<|(jx A).map qr) h2;refine jb q9 λkeep kp=>aC (λi g=>g=(List.replicate i true).map Y.bl) (by rw[Ac,aX];exact big _ (by lia)) (kp _ rfl) rfl ?_ ?_
 .rintro i y g r rfl;rw[Al] at r;obtain⟨B,eB,rfl⟩:=Ax.mp r;exact{a,I,A,B,E,rfl,p _ _ J,T,AE eB,_,EE _,rfl,tw i}
 rintro g rfl p3 h3;have t:=p.trans<|By (o:=.lst<|(List.replicate ((jx A).map qr).length true).map Y.bl) h3;refine{rfl,qc q9<|qj (bJ _) ?_};rw[iC];refine{_,rfl,?_};refine{a,_,I,A,E,rfl,t _ _ J,T.sr,XX I A,T.nd,by lia,by lia,λp4 h4=>?_};exact aB (t.trans<|By h4) q
def kM:RD "_law_arms" lW 0 ["_law_rule"] (λ_=>True):={_,λV B c _ _ _ _ _ _ _ J hN I=>(qa (zf (E_ I (J_ 0) qo) (qd<|ql<|zc<|vo (J_ 0)<|J_ 0) qx)<|qa (zf (E_ I (J_ 0) qo) (qd<|ql<|zc x5) qx)<|qd<|ql<|xr iu rfl B.bh bT<|zn<|jq (rN _ _ _) (qv 0) (jr qe) kc)}
def dQ(I:jf):RD "_law_gathered" dO 1 ["_law_rule","_law_links","_law_cuts","_law_told","_law_stack","_law_one"] (λV=>Gu V I):={_,λV B c _ _ _ _ _ _ _ U hN J=>(qa (nr (zo<|kg (zc x5)<|df (zc x5) tJ<|zc<|zn<|qv 0)<|af (n:=4) rfl<|zh (G_ 1 hN)<|zh (G_ 2 hN)<|zh (G_ 3 hN)<|zh (G_ 4 hN) wo)<|qa (cU yp (N_ J (qv 4)<|zc x5)<|qa (S_ 5 hN<|yN<|qv 4)<|wn (zf (E_ J (J_ 5) qo) (qa (qt<|z9 (qv 1)<|zn<|zo<|vo (J_ 5)<|J_ 5)<|qa (iE J (qv 3) (J_ 5) bX)<|qd<|iE J (qv 3) (J_ 5) bX)<|qd<|zf (E_ J (J_ 5) qo) (qd<|qt<|z9 (qv 2)<|zn<|zo<|vo (J_ 5)<|J_ 5)<|qd<|iE J (qv 3) (J_ 5) bX)<|qd<|qt<|wx (qv 4)<|zn<|C_ c U<|zn<|qv 5)<|qd<|ql<|zo<|df (qv 1) (qv 2)<|qv 3)}
def fz(I:jf):RD "_law_within" gH 1 ["_law_rule","_law_number","_law_arms_here"] (λV=>Gu V I):={_,λV B c _ _ _ _ _ _ _ J hN U=>(qa (cU yp (bQ<|gY (N_ U (C_ c J<|zn<|qv 0)<|zc x5)<|cz<|jo zQ (qk jn (qv 1) qe) qe<|jy _)<|qa (S_ 2 hN<|C_ c J<|zn<|qv 0)<|qa (S_ 0 hN<|I_ (qv 2)<|qk jn (qk vm (qv 1) qe)<|L_ B.ba<|qv 2)<|qd<|S_ 1 hN<|qk jn (qk kR (qv 1) qe) qe)<|qd<|ql<|qv 0)}
def dk:jf:=aT
def XZ:_f dk kM.1 1:=by
 rintro ys L Q ⟨A,rfl,q⟩;cases A with
 |link a b=>exactλp I=>jd<|q p I
 |ei r A=>exact{λz=>absurd z.1 (by show ¬2=0;decide),λp I=>jd<|q p I}
 |bo r A B=>exact{λz=>absurd z.1 (by show ¬2=0;decide),λp I=>jd<|q p I}
 |cu a b A B=>exactλp I=>jd<|q p I
structure UsI(us:aab)(kvs:List<|zr×Y):Prop where
 val:∀x:Nat,(vq kvs<|.inl (x:Int)).isSome=decide (x∈us)
 len:kvs.length<=us.length
def UsI.nil:UsI [] []:={λ_=>rfl,Aj _}
def UsI.put{us:aab}(h:UsI us kvs)(x:Nat)(y:Y):UsI (us++[x]) (iw kvs (.inl (x:Int)) y):=by
 refine{λz=>?_,?_}
 .rw[pP];by_cases e:z=x
  .subst e;rw[AC rfl,AA<|Ai _<|Ak.mpr rfl];rfl
  .rw[Az λq=>e<|CU.mp<|E6 q,h.val];refine Di.mpr {λq=>Ay _ q,λq=>?_};rcases Ao.mp q with q|q
   .exact q
   .exact absurd (Ak.mp q) e
 .have:=wF kvs (.inl (x:Int)) y;have:=h.len;rw[Ab];show _<=us.length+1;lia
inductive nF(ys:_T)(L:qh)(Q:YK):Prop
 |mk:∀R:Ru,(ys=[qr R])->((qm R).length<=96)->(∀la ca ta lk ct kvs L',qf L L'->L la=none->L ca=none->L ta=none->L' la=some (.lst<|qB lk)->L' ca=some (.lst<|qB ct)->L' ta=some (._q kvs)->lk.Perm (vz R)->ct.Perm (x0 R)->(∀x:Nat,(vq kvs<|.inl (x:Int)).isSome=decide (x∈qm R))->Q (.tup [.ref la,.ref ca,.ref ta]) L')->nF ys L Q
theorem aw:∀R:Ru,(vz R).length+(x0 R).length<=aG R
 |.link _ _=>Aj _
 |.ei _ A=>Cn<|aw A
 |.bo _ A B=>by have:=aw A;have:=aw B;show(vz A++vz B).length+(x0 A++x0 B).length<=aG A+aG B+1;rw[Ab,Ab];lia
 |.cu _ _ A B=>by have:=aw A;have:=aw B;show(vz A++vz B).length+((x0 A++x0 B).length+1)<=aG A+aG B+1;rw[Ab,Ab];lia
def X0:_f nF (dQ dk).1 6:=by
 rintro ys L Q ⟨R,rfl,tl,q⟩;have big:=a_;have rd:=xj R;have rz:=aD R;have rp:=aw R;intro la av ca aL ta ab sa a3;have a4:la≠ca:=v4 q9 aL;have a0:ca≠ta:=v4 q9 ab;have a1:la≠ta:=v4 ((qb a4).trans q9) ab;have a2:ta≠sa:=v4 q9 a3;have ac:ca≠sa:=v4 ((qb a0).trans q9) a3;have ag:la≠sa:=v4 ((qb a1).trans<|(qb a4).trans q9) a3;have al:L ca=none:=j8 aL;have j:L ta=none:=j8<|j8 ab;have au:L sa=none:=j8<|j8<|j8 a3;have S0:qf L (qg (qg (qg (qg L la<|.lst []) ca<|.lst []) ta<|._q []) sa<|.lst [qr R]):=(((By av).trans<|By aL).trans<|By ab).trans<|By a3;refine{λm τ g=>∃lk ct J us st c5,τ=[some<|qr R,some<|.ref la,some<|.ref ca,some<|.ref ta,some<|.ref sa,c5]/\qf L g/\g la=some (.lst<|qB lk)/\g ca=some (.lst<|qB ct)/\g ta=some (._q J)/\g sa=some (.lst<|st.map qr)/\lQ R lk ct st/\UsI us J/\StI R us st/\m=(st.map aG).sum,{_,[],[],[],[],[R],_,rfl,S0,(qb ag).trans<|(qb a1).trans<|(qb a4).trans q9,(qb ac).trans<|(qb a0).trans q9,(qb a2).trans q9,q9,lQ.start R,UsI.nil,StI.start R,rfl},?_};rintro m τ g ⟨lk,ct,J,us,st,c5,rfl,s,t,h2,C,h4,T,U,I,rfl⟩;intro p hp;refine a9 (n:=120) (m:=0) (by decide) (By hp _ _ h4) q9 (bL λA hA=>AF (T.dp A hA) (by lia)) (.nil:Paired (j9 _ 0) _ []) ?_;have s2:qf L (qg g p<|.lst []):=s.trans<|By hp;replace t:=(qb (o:=.lst [])<|v4 t hp).trans t;replace h2:=(qb (o:=.lst [])<|v4 h2 hp).trans h2;replace C:=(qb (o:=.lst [])<|v4 C hp).trans C;replace h4:=(qb (o:=.lst [])<|v4 h4 hp).trans h4;generalize qg g p (.lst [])=L2 at s2 t h2 C h4 ⊢;show wg (!(Da.eqs (st.map bN) [])) _ _;rw[iU];have kl:=U.len;have pl:=I.pt.length_eq;have l1:=T.pl.length_eq;have l2:=T.pc.length_eq;rw[Ab] at pl l1 l2;rcases Df st with rfl|⟨fq,A,rfl⟩
 .refine jv rfl ?_;refine jd (q la ca ta lk ct J L2 s2 av al j t h2 C (by have:=T.pl;simpa using this) (by have:=T.pc;simpa using this) λx=>?_);rw[U.val];exact Di.mpr (by have:=I.pt.mem_iff (a:=x);simpa using this)
 .rw[Dg] at *;rw[Aw (by simp)];refine kz rfl {λa5 g=>∃m',m'<((fq++[A]).map aG).sum/\∃lk ct J us st c5,a5=[some<|qr R,some<|.ref la,some<|.ref ca,some<|.ref ta,some<|.ref sa,c5]/\qf L g/\g la=some (.lst<|qB lk)/\g ca=some (.lst<|qB ct)/\g ta=some (._q J)/\g sa=some (.lst<|st.map qr)/\lQ R lk ct st/\UsI us J/\StI R us st/\m'=(st.map aG).sum,λa5 g h=>h,?_};rw[Ar] at h4;refine xZ h4 ?_;have s3:qf L (qg L2 sa<|.lst<|fq.map qr):=s2.upd au;replace t:=(qb (o:=.lst<|fq.map qr) ag).trans t;replace h2:=(qb (o:=.lst<|fq.map qr) ac).trans h2;replace C:=(qb (o:=.lst<|fq.map qr) a2).trans C;clear h4;have h4:qg L2 sa (.lst<|fq.map qr) sa=some (.lst<|fq.map qr):=q9;generalize qg L2 sa (.lst<|fq.map qr)=L3 at s3 t h2 C h4 ⊢;refine{λa5 L3=>∃J,a5=[some<|qr R,some<|.ref la,some<|.ref ca,some<|.ref ta,some<|.ref sa,some<|qr A]/\qf L L3/\L3 la=some (.lst<|qB<|lk++vX A)/\L3 ca=some (.lst<|qB<|ct++vD A)/\L3 ta=some (._q J)/\L3 sa=some (.lst<|fq.map qr)/\UsI (us++wr A) J,?_,?_}
  .cases A with
   |link p0 q0=>
    refine qc t (qi t {by rw[Ac];exact big _ (by lia),?_});refine ju ((qb<|AL a1).trans C) {big _ (by lia),?_};have U1:=U.put p0<|.bl true;have k1:=U1.len;rw[Ab] at k1;refine ju q9 {big _ (by simp at k1;lia),?_};have U2:=U1.put q0<|.bl true;rw[jc];refine{_,rfl,(s3.upd av).upd j,?_,?_,q9,?_,by rw[Av] at U2;exact U2}
    .rw[qb a1,q9];exact BA (λl=>some<|LO.lst l)<|rq lk (p0,q0)
    .rw[qb a0,qb<|AL a4,h2];simp[vD]
    .rw[qb<|AL a2,qb<|AL ag];exact h4
   |ei r0 A0=>
    refine ju C {big _ (by lia),?_};exact{_,rfl,s3.upd j,by rw[qb a1,t];simp[vX],by rw[qb a0,h2];simp[vD],q9,by rw[qb<|AL a2];exact h4,U.put r0<|.bl true}
   |bo r0 A0 B0=>
    refine ju C {big _ (by lia),?_};exact{_,rfl,s3.upd j,by rw[qb a1,t];simp[vX],by rw[qb a0,h2];simp[vD],q9,by rw[qb<|AL a2];exact h4,U.put r0<|.bl true}
   |cu p0 q0 A0 B0=>
    refine qc h2 (qi h2 {by rw[Ac];exact big _ (by lia),?_});exact{J,rfl,s3.upd al,by rw[qb a4,t];simp[vX],by rw[q9];exact BA (λl=>some<|LO.lst l)<|rq ct (p0,q0),by rw[qb<|AL a0];exact C,by rw[qb<|AL ac];exact h4,by rw[show wr (.cu p0 q0 A0 B0)=[] from rfl,AG];exact U}
  .rintro a5 L4 ⟨ba,rfl,s4,g1,g2,g3,g4,U'⟩;refine qc g4 {A,rfl,λp8 h8=>?_};refine qi ((qb<|v4 g4 h8).trans g4)<|qi q9 {?_,?_}
   .have t:=I.step.sz;have len:∀l:aay,l.length<=(l.map aG).sum:=λl=>by induction l with|nil=>exact Aj _|cons x r ih=>have:=Lr x;simp;lia
    have C:=len<|fq++qy A;rw[Ab] at C;rw[Ac,Ac];exact Bi<|big _ (by lia)
   .exact{_,EE _,_,StI.lt (tk:=us) (A:=R),_,_,ba,us++wr A,fq++qy A,_,rfl,(s4.trans<|By h8).upd au,(qb ag).trans<|(qb<|v4 g1 h8).trans g1,(qb ac).trans<|(qb<|v4 g2 h8).trans g2,(qb a2).trans<|(qb<|v4 g3 h8).trans g3,by rw[q9,Ar],T.step,U',I.step,by rw[Ar,Du]}
inductive f6(ys:_T)(L:qh)(Q:YK):Prop
 |mk:∀R:Ru,∀n:Int,(ys=[qr R,.int n])->((qm R).length<=96)->(∀B∈jx R,Q (qr B) L)->f6 ys L Q
def X2:_f f6 (fz dk).1 3:=by
 rintro ys L Q ⟨R,n,rfl,tl,q⟩;have rd:=xj R;refine{λm o I=>∃B n J,o=[some<|qr B,some<|.int n,J]/\qf L I/\B∈jx R/\zx B<=zx R/\m=zx B,{_,R,n,_,rfl,EE _,bz R,Aj _,rfl},?_};rintro m o I ⟨B,n,J,rfl,s,g,dB,rfl⟩;refine{B,rfl,λp h1=>?_};intro r t;have U:qf L (qg (qg I p<|.lst<|(qy B).map qr) r<|.lst []):=(s.trans<|By h1).trans<|By t;refine a9 (n:=120) (m:=0) (by decide) (By t _ _ q9) q9 (bL λA hA=>by have:=wa hA;lia) (.nil:Paired (j9 _ 0) _ []) ?_;generalize qg (qg I p<|.lst<|(qy B).map qr) r (.lst [])=L2 at U ⊢;show wg (!(Da.eqs ((qy B).map bN) [])) _ _;rw[iU];by_cases c:qy B=[]
 .refine jv (by rw[AA c];rfl) ?_;exact jv rfl<|aB U<|q B g
 .refine kz (by rw[Aw c];rfl) {(show(0:Int)<5 by decide),?_};refine jp (λc5=>?_) λc5=>aB U<|q B g;refine{λl I=>∃C,C<zx B/\∃B n J,l=[some<|qr B,some<|.int n,J]/\qf L I/\B∈jx R/\zx B<=zx R/\C=zx B,λ_ _ h=>h,?_};refine{B,rfl,λp3 h3=>?_};have hl:0<(qy B).length:=DB.mpr c;obtain⟨j,A,ej,lj,T⟩:=jF hl<|n / 5;have mA:=AE T;have dA:=wa mA;have lm:((qy B).map qr).length=(qy B).length:=Ac ..;refine{{by decide,by decide},qc q9 {(by show(0:Int)<(((qy B).map qr).length:Int);rw[lm];lia),qc q9 (qj (v:=qr A) (by show fS ((qy B).map qr) (n / 5 % (((qy B).map qr).length:Int))=_;rw[lm,ej];exact xp T) ?_)}};exact{.inr {by decide,by decide},(show(0:Int)<2147483647 by decide),_,EE _,zx A,dA,A,_,_,rfl,U.trans<|By h3,aU g<|Lw mA,by lia,rfl}
def X4(Pt:Addr)(I:jf):fe:=(x4 (km (pI vj)<|qz 2)
 (x4 (Ff (J1<|qw 0) (lv 2<|v5 (qz 3)<|v5 (qz 4) gB) (x4 (km (aZ vZ (vh I<|zb (qw 1)<|zD (qw 3)<|dS 39373)<|dS 40)<|qz 5)
 (rj (gK (w_ (j_ 4)<|dS 3) (km (aZ yu (aZ yu (qw 5)<|dS 1)<|u_ Ha<|zb (aZ u5 (qw 2)<|qT 4 1)<|zb (aZ u5 (qw 2)<|qT 4 2) vj)<|qz 5) cI)
 (dN<|tL wb (qw 2)<|mS<|qw 5))))
 (oO<|Lh Pt lamQ 2<|uv<|j_ 0)))
def iH(I:jf):RR "_law_moved" iZ 1 ["_law_rule","_law_at"] ["_law_rule","_law_at","_law_places"] I (λ_=>True):={_,λV B c _ _ J _ _ _ _ _ _ g hN U=>(qa (zf (E_ U (J_ 0) qo) (qd<|ql<|zo<|df qo (vv S3 rfl B.b_min WM<|vo (dE U (qv 1) (J_ 0) λ_ _=>rfl)<|dE U (qv 1) (J_ 0) λ_ _=>rfl)<|vv JK rfl B.bj Jq<|vo (dE U (qv 1) (J_ 0) λ_ _=>rfl)<|dE U (qv 1) (J_ 0) λ_ _=>rfl) qx)<|qa (gf ["_law_x"] (i:=2) hN rfl (Or.inl rfl) (EL (by rfl)) rfl (yg<|jq (rN _ _ _) (qv 0) (jr qe) kc) (dX 3) (λ_ _ _ _=>eV<|w5<|wu .int rfl B.bb rfl B.b_int uW<|qv 3) λ_ _ _ _=>(dE U (qv 1) (qv 3) λ_ _=>rfl))<|qd<|ql<|xr LA rfl B.bi ef<|zn<|qk zj (qk zj (zc<|zn<|J_ 0)<|qv 2)<|a6 ["_law_x"] (EL (by rfl)) rfl (yg<|jq (rN _ _ _) (qv 0) (jr qe) kc) (dX 3) (λ_ _ _ _=>eV<|w5<|wu .tuple rfl B.bb rfl B.bi ef<|qv 3) λ_ _ _ _=>(C_ J g<|vo (qv 3)<|qv 1))}
def eO(I:jf)(J:jf):RD "_law_renamed" fE 121 ["_law_knots","_law_rule","_law_seed","_law_at","_law_made","_law_p","_law_knot"] (λV=>KU V I/\KY V J):={_,λV B c _ _ _ _ _ _ _ g hN U=>(qa (S_ 3 hN tJ)<|qa (S_ 4 hN<|zc x5)<|qa (k8 yp rfl (xc<|C_ c.1 g<|vo (qv 0)<|qv 2) (G_ 5 hN)<|qa (iE U (qv 3) (qv 5)<|L_ B.ba<|qv 4)<|qa (S_ 6 hN<|I_ (qv 0)<|qv 5)<|qd<|qt<|z9 (qv 4)<|zn<|dq (E_ U (L_ B.ba<|qv 6) qe) (qv 6)<|zo<|df (J_ 6) (dE U (qv 3) (J_ 6) λ_ _=>rfl)<|dE U (qv 3) (J_ 6) λ_ _=>rfl)<|qd<|ql<|zo<|vo (qv 4)<|C_ c.2 g<|vo (qv 1)<|qv 3)}
inductive fW(Pt:Addr)(ys:_T)(L:qh)(Q:YK):Prop
 |mk:∀a,∀ks:Pi,∀s:Int,(ys=[.ref a,.int s])->(L a=some (.lst<|xz ks))->(x_<|ks.map some)->(ks.length<=127)->(L Pt=some (.tb lamQ))->(∀D qs,L D=none->qs.Perm (List.range (ks.map some).length)->cx (ks.map some) qs->Q (.ref D) (qg L D<|.lst<|nY qs))->fW Pt ys L Q
def X5 :_f (fW Pt) (X4 Pt jN) 6:=by
 rintro ys L Q ⟨a,a5,s,rfl,ha,ok,hz,hP,q⟩;obtain⟨g,U⟩:∃g,g=a5.map some:={_,rfl};rw[<-ko,<-U] at ha;rw[<-U] at ok q;have hz:g.length<=127:=by rw[U,Ac];exact hz
 have all:∀i,g[i]?≠some none:=λi e=>by rw[U,Al] at e;obtain⟨_,_,z⟩:=Ax.mp e;cases z
 have big:=a_;intro J I;have s0:qf L (qg L J<|.lst []):=By I;have a0:a≠J:=v4 ha I;refine jb (s0 _ _ ha) λkeep kp=>vk {λi τ l=>∃rks:aaf,∃c3 c4 c5,τ=[some<|Y.ref a,some<|.int s,some<|Y.ref J,c3,c4,c5]/\l=qg L J (.lst<|rks.map Y.int)/\rks.length=i/\aco g rks,{[],_,_,_,rfl,rfl,rfl,λp _ _ _ hp=>by cases hp},?_,?_,?_}
 .rintro i τ l ⟨rks,c3,c4,c5,rfl,rfl,_⟩;exact kp _ (by rw[qb a0,qb a0])
 .rintro i y τ l hy ⟨rks,c3,c4,c5,rfl,rfl,C,T⟩;obtain⟨z,ez,rfl⟩:=a7 hy;rw[Al] at ez;obtain⟨k,ek,rfl⟩:=Ax.mp ez;have hi:=xx ek;refine{s,i,39373,rfl,by exact Bf _,by omega,by decide,by decide,λv h0 h1=>?_};have m0:(0:Int)<=v % 40:=El _ (by decide);have a3:(rks.map Y.int).length=i:=by rw[Ac];exact C
  refine{show(0:Int)<40 by decide,λa4 l=>∃r:Int,a4=[some<|Y.ref a,some<|.int s,some<|Y.ref J,some<|.int (i:Nat),some<|i0 k,some<|.int r]/\l=qg L J (.lst<|rks.map Y.int)/\∀e i j,k=some (.nd e i j)->rks.getD i 0<r/\rks.getD j 0<r,?_,?_}
  .cases k with
   |none=>exact absurd ek<|all i
   |some k=>
    cases k with
    |lf t n=>exact{v % 40,rfl,rfl,λe i j z=>by cases z}
    |nd e p1 p2=>
     obtain⟨l1,l2⟩:=ok _ _ _ _ ek;have g1:=jk<|xG (rks:=rks) (i:=p1) (by lia);have g2:=jk<|xG (rks:=rks) (i:=p2) (by lia);refine qc q9<|qj g1 ?_;refine qc q9<|qj g2 ?_;refine{v % 40+1+max (rks.getD p1 0) (rks.getD p2 0),rfl,rfl,λe' i' j' z=>?_};cases z;have a1:rks.getD p1 0<=max (rks.getD p1 0) (rks.getD p2 0):=Int.le_max_left ..;have a2:rks.getD p2 0<=max (rks.getD p1 0) (rks.getD p2 0):=Int.le_max_right ..;constructor<;>lia
  .rintro a4 l ⟨r,rfl,rfl,hr⟩;refine qc q9 (qi q9 {by rw[a3];exact big _ (by lia),?_});refine{_,EE _,rks++[r],_,_,_,rfl,?_,by rw[Ab,C];rfl,aco.snoc ok T (by rw[C];exact ek) hr};rw[jc,Ar];rfl
 .rintro τ l ⟨rks,c3,c4,c5,rfl,rfl,C,T⟩;rw[we,Ac] at C;have s1:qf L (qg L J<|.lst<|rks.map Y.int):=By I;refine qc (s1 _ _ ha) ?_;have lo:(wq g).length=g.length:=Ac ..;refine{{Bf _,by rw[lo];lia},λp hp=>qi q9 ?_};have ab:J≠p:=v4 q9 hp;have ac:Pt≠p:=v4 (s1 _ _ hP) hp;have ag:Pt≠J:=v4 hP I;refine{g.length,rks,J,by rw[BF,lo],rfl,(qb ab).trans q9,C,hz,(qb ac).trans<|(qb ag).trans hP,λD qs hD pm pw=>?_};have al:=j8 hD;have au:=j8 al;refine{qg L D<|.lst<|nY qs,λb o e=>?_,q D qs au pm<|WQ ok T C pw};by_cases c:b=D
  .subst c;rw[q9] at e ⊢;exact e
  .rw[qb c] at e ⊢;rw[qb (λz=>by subst z;rw[j8 hp] at e;cases e),qb (λz=>by subst z;rw[I] at e;cases e)];exact e
def vE(y:Y)(l:_T):gR (y::l) (some 1) none=l:=by
 unfold gR;have e:KM (y::l).length 0 (some 1)=1:=by show min 1 (l.length+1)=1;lia
 rw[e];show(l.take<|l.length+1-1)=l;rw[Nat.add_sub_cancel,AZ]
def LC(y:Y)(l:_T):¬(KM (y::l).length 0 (some 1)=0/\KM (y::l).length (y::l).length none=(y::l).length):=λz=>by
 have e:KM (y::l).length 0 (some 1)=1:=by show min 1 (l.length+1)=1;lia
 rw[e] at z;exact absurd z.1 (by decide)
def Gz:Ru->Str
 |.link _ _ => "link"
 |.ei _ _ => "either"
 |.bo _ _ _ => "both"
 |.cu _ _ _ _ => "cut"
def uF(A:Ru):qr A=.tup (.str (Gz A)::(nY (ar A)++(qy A).map qr)):=by cases A<;>rfl
inductive bD(n:Nat)(ys:_T)(L:qh)(Q:YK):Prop
 |mk:∀R:Ru,∀d,∀kvs:List (zr×Y),∀f:aai,(ys=[qr R,.ref d])->(L d=some (._q kvs))->((∀B∈jx R,∀x∈ar B,vq kvs (.inl (x:Int))=some (.int (f x:Int))))->(zx R<=n)->(Q (qr<|rh f R) L)->bD n ys L Q
def X6:∀ys L Q,¬bD 0 ys L Q:=by rintro ys L Q ⟨A,_,_,_,_,_,_,h,_⟩;have:=fK A;lia
def LD{P:aab}{I:aay}(h:(nY P++I.map qr)[i]?=some y):(i<P.length/\∃x,P[i]?=some x/\y=.int (x:Int))\/(P.length<=i/\∃B,I[i-P.length]?=some B/\y=qr B):=by
 by_cases c:i<P.length
 .rw[AH (by rw[ku];exact c)] at h;exact .inl {c,cj h}
 .rw[AK (by rw[ku];lia),ku,Al] at h;obtain⟨B,e,z⟩:=Ax.mp h;exact .inr {by lia,B,e,z.symm}
theorem X7(n:Nat):_f (bD (n+1)) (iH<|bD n).1 3:=by
 rintro ys L Q ⟨R,d,l,f,rfl,hd,t,hr,q⟩;have big:=a_;by_cases J:∃a b,R=.link a b
 .obtain⟨a,b,rfl⟩:=J;have v1:=t _ (bz _) a<|An ..;have v2:=t _ (bz _) b<|Ag _<|An ..;refine ju hd<|qj v1 ?_;refine ju hd<|qj v2 ?_;refine ju hd<|qj v1 ?_;refine ju hd<|qj v2 ?_;refine jd ?_;have e1:min (f a:Int) (f b:Int)=((min (f a) (f b):Nat):Int):=WA _ _;have e2:max (f a:Int) (f b:Int)=((max (f a) (f b):Nat):Int):=WB _ _;have q:Q (.tup [.str "link",.int ((min (f a) (f b):Nat):Int),.int ((max (f a) (f b):Nat):Int)]) L:=q;rw[<-e1,<-e2] at q;exact q
 have hk:Gz R ≠ "link" := by cases R with|link a b=>exact absurd {(a),b,rfl} J|ei r A=>show(Str.ofString "either") ≠ "link";decide +kernel|bo r A B=>show(Str.ofString "both") ≠ "link";decide +kernel|cu p s A B=>show(Str.ofString "cut") ≠ "link";decide +kernel
 have T:Q (.tup<|[.str<|Gz R]++nY ((ar R).map f)++(qy R).map λB=>qr<|rh f B) L:=by cases R with|link a b=>exact absurd {(a),b,rfl} J|ei r A=>exact q|bo r A B=>exact q|cu p s A B=>exact q
 have vp:∀x∈ar R,vq l (.inl (x:Int))=some (.int (f x:Int)):=t R<|bz R;have va:∀B∈qy R,zx B<=n/\∀C∈jx B,∀x∈ar C,vq l (.inl (x:Int))=some (.int (f x:Int)):=λB hB=>{by have:=wa hB;lia,λC hC=>t C<|aU (Lw hB) hC};have lp:(ar R).length<=2:=by cases R<;>simp[ar]
 have lA:(qy R).length<=2:=by cases R<;>simp[qy]
 rw[uF R];generalize ar R=P at vp T lp;generalize qy R=g at va T lA;generalize Gz R=U at hk T;clear q t J hr;have e0:fS (Y.str U::(nY P++g.map qr)) 0=some (Y.str U):=jk (xs:=Y.str U::(nY P++g.map qr)) (j:=0) rfl;have ll:(nY P++g.map qr).length=P.length+g.length:=by rw[Ab,ku,Ac]
 walk_at "w";rw[e0];refine jv (Aw hk) ?_;refine{LC _ _,?_};rw[vE];refine aC (λi I=>I=nY ((P.take i).map f)) (by rw[ll];exact big _ (by lia)) trivial rfl ?_ ?_
 .rintro i y I hy rfl;rcases LD hy with⟨c,x,ex,rfl⟩|⟨c,B,eB,rfl⟩
  .refine ju hd<|qj (vp x<|AE ex) {_,EE _,rfl,?_};rw[AW,ex,Ar,ox];rfl
  .have e1:P.take (i+1)=P.take i:=by rw[AM (by lia),AM c]
   have z:jD (λI L'=>L'=L/\I=nY ((P.take<|i+1).map f)) (nY<|(P.take i).map f) L:={_,EE _,rfl,by rw[e1]};rw[uF B];exact z
 rintro I rfl p1 h1;rw[ll,AM (by lia)];walk_at "w";rw[e0];intro p2 h2;have s1:=By (o:=.lst<|nY<|P.map f) h1;have s2:=s1.trans<|By (o:=.lst [Y.str U]) h2;refine{_,_,q9,By h2 _ _ q9,?_,λp3 h3=>?_}
 .rw[ku,Ac];exact Bi (big _ (by show 1+P.length<=20000;lia))
 have s3:=s2.trans<|By (o:=.lst<|[Y.str U]++nY (P.map f)) h3;have g3:∀{o},qg (qg (qg L p1<|.lst<|nY<|P.map f) p2<|.lst [Y.str U]) p3 o p3=some o:=q9;refine{LC _ _,?_};rw[vE];have g3:=g3 (o:=.lst<|[Y.str U]++nY (P.map f));generalize qg (qg (qg L p1<|.lst<|nY<|P.map f) p2<|.lst [Y.str U]) p3 (.lst<|[Y.str U]++nY (P.map f))=L3 at s3 g3 ⊢;refine aC (λi I=>I=(g.take<|i-P.length).map λB=>qr<|rh f B) (by rw[ll];exact big _ (by lia)) trivial (by rw[Nat.zero_sub];rfl) ?_ ?_
 .rintro i y I hy rfl;rcases LD hy with⟨c,x,ex,rfl⟩|⟨c,B,eB,rfl⟩
  .exact{_,EE _,rfl,by rw[Nat.sub_eq_zero_of_le c,Nat.sub_eq_zero_of_le<|Bi c]}
  .obtain⟨h1,h2⟩:=va B<|AE eB;have z:bD n [qr B,.ref d] L3 λz L4=>jD (λI L'=>L'=L3/\I=(g.take<|i+1-P.length).map λB=>qr<|rh f B) (((g.take<|i-P.length).map λB=>qr<|rh f B)++[z]) L4:=by refine{B,d,l,f,rfl,s3 _ _ hd,h2,h1,_,EE _,rfl,?_};rw[Nat.succ_sub c,AW,eB,Ar];rfl
   rw[uF B] at z ⊢;exact z
 rintro I rfl p4 h4;rw[ll,Bh,AZ];refine{_,_,(qb<|v4 g3 h4).trans g3,q9,?_,λp5 h5=>?_}
 .rw[Ab,ku,Ac,Ac];exact Bi (big _ (by show 1+P.length+g.length<=20000;lia))
 exact qi q9<|aB ((s3.trans<|By h4).trans<|By h5) T
def SR.pl{E:aab}(h:SR ks R E):∀B∈jx R,∀x∈ar B,x<ks.length:=λB J x I=>by
 obtain⟨⟨p,s⟩,_⟩:=h.rls B J;have l:=s.lt;cases s with
 |link=>exact l x I
 |ei=>rw[Ak.mp I];exact l _<|An ..
 |bo=>rw[Ak.mp I];exact l _<|An ..
 |cu U g j o=>
  rcases Aq.mp I with rfl|I
  .exact l _<|Ay _<|U.sub _ j
  .rw[Ak.mp I];exact l _<|Ai _<|g.sub _ o
def GA(f:aai):Kn->Kn
 |.lf t n=>.lf t n
 |.nd e i j=>.nd e (f i)<|f j
def X8(f:aai)(k:Kn):jP f (some k)=some (GA f k):=by cases k<;>rfl
inductive dC(Pt:Addr)(ys:_T)(L:qh)(Q:YK):Prop
 |mk:∀a,∀ks:Pi,∀R:Ru,∀E:aab,∀s:Int,(ys=[.ref a,qr R,.int s])->(L a=some (.lst<|xz ks))->(cQ ks)->(SR ks R E)->((qm R).Perm<|List.range ks.length)->(ks.length<=96)->(L Pt=some (.tb lamQ))->(∀w f fy,L w=none->fy.length=ks.length->Ren f (ks.map some) (fy.map some)->Q (.tup [.ref w,qr<|rh f R]) (qg L w<|.lst<|xz fy))->dC Pt ys L Q
theorem yo :_f (dC Pt) (eO (fW Pt)<|bD 120).1 7:=by
 rintro ys L Q ⟨a,T,R,E,s,rfl,ha,al,sr,tp,hz,hP,q⟩;have big:=a_;obtain⟨j,l⟩:∃j,j=T.map some:={_,rfl};have au:j.length=T.length:=by rw[l,Ac]
 have ok:x_ j:=by rw[l];exact W9 al
 have bb:L a=some (.lst<|wq j):=by rw[l,ko];exact ha
 intro d hd w hw;have a4:L w=none:=j8 hw;have a0:d≠w:=v4 q9 hw;have s0:qf L (qg (qg L d<|._q []) w<|.lst []):=(By hd).trans<|By hw;refine{a,T,s,rfl,s0 _ _ ha,by rw[<-l];exact ok,by lia,s0 _ _ hP,λD I hD pm pf=>?_};rw[<-l] at pm pf;have bc:L D=none:=j8<|j8 hD;have a5:w≠D:=v4 q9 hD;have ab:d≠D:=v4 ((qb a0).trans q9) hD;have lq:I.length=j.length:=by rw[pm.length_eq,B6]
 have av:I.Nodup:=pm.nodup_iff.mpr Cy;have mq:∀p∈I,p<j.length:=λp hp=>Bj.mp<|pm.mem_iff.mp hp;have G0:HQ L j I d w D 0 0 (λ_=>0) (([]:Pi).map some) [] (qg (qg (qg L d<|._q []) w<|.lst []) D<|.lst<|nY I):=
  ⟨s0.trans<|By hD,(qb ab).trans<|(qb a0).trans q9,(qb a5).trans q9,q9,Aj _,λp=>rfl,Gap.nil _ _,Aj _⟩
 refine jb q9 λkeep kp=>vk {λi τ o=>∃f,∃U:Pi,∃J c5 c6,τ=[some<|.ref a,some<|qr R,some<|.int s,some<|.ref d,some<|.ref w,c5,c6]/\HQ L j I d w D i 0 f (U.map some) J o/\U.length=i,{_,[],_,_,_,rfl,G0,rfl},?_,?_,?_}
 .rintro i τ o ⟨f,U,J,c5,c6,rfl,G,_⟩;exact kp o (by rw[G.hD,q9])
 .rintro i y τ o hy ⟨f,U,J,c5,c6,rfl,G,lm⟩;obtain⟨p,ep,rfl⟩:=cj hy;have hi:=xx ep;have hp:p<j.length:=mq p<|AE ep;obtain⟨k,hk⟩:∃k,T[p]?=some k:={_,Ah (by lia)};have ac:j[p]?=some (some k):=by rw[l,Al,hk];rfl
  have pn:p∉I.take i:=λhm=>by
   have e2:I=I.take i++p::I.drop (i+1):=by rw[Ah hi] at ep;rw[<-A1 ep,CC,AU]
   have nd:=av;rw[e2] at nd;exact(AB.mp nd).2.2 p hm p (An ..) rfl
  have et:I.take (i+1)=I.take i++[p]:=by rw[AW,ep];rfl
  have a1:∀e i' j',some k=some (.nd e i' j')->i'∈I.take i/\j'∈I.take i:=λe i' j' z=>pD ok pm pf ep (by rw[ac,z]);have a2:∀x∈I.take i,∀e i' j',j[x]?=some (some<|.nd e i' j')->i'∈I.take i/\j'∈I.take i:=λx hx e i' j' z=>by
   obtain⟨n,hn⟩:=Dq hx;have aL:=xx hn;rw[AS] at aL;rw[DQ (by lia)] at hn;obtain⟨h1,h2⟩:=pD ok pm pf hn z;have sb:∀y,y∈I.take n->y∈I.take i:=λy hy=>by
    have:I.take n=(I.take i).take n:=by rw[List.take_take,BL (by lia)]
    rw[this] at hy;exact BG hy
   exact{sb _ h1,sb _ h2}
  have ag:o w=some (.lst<|xz U):=by rw[G.hw,ko]
  have vp:∀y:Nat,vq (iw J (.inl (p:Int))<|.int ((U.length:Nat):Int)) (.inl (y:Int))=if y∈I.take i++[p] then some (.int (((if y=p then U.length else f y):Nat):Int)) else none:=λy=>by
   rw[pP];by_cases e:y=p
   .subst e;rw[AC rfl,AC rfl,AC<|Ai _<|Ak.mpr rfl]
   .rw[Az λz=>e<|CU.mp<|E6 z,Az e,G.val];by_cases h:y∈I.take i
    .rw[AC h,AC<|Ay _ h]
    .rw[Az h,Az λz=>(Ao.mp z).elim h λz=>e<|Ak.mp z]
  have kl:=G.len;have C:(xz U).length=U.length:=Ac ..;refine qc ag ?_;rw[C];refine ju G.hd {big _ (by lia),?_};have ba:a≠d:=v4 ha hd;refine qc ((qb ba).trans<|G.sub _ _ ha)<|qj (xp hk) ?_;have a3:qg o d (._q<|iw J (.inl (p:Int))<|.int ((U.length:Nat):Int)) w=some (.lst<|xz U):=(qb<|AL a0).trans ag;have hb:∀x∈I.take i,x<j.length:=λx hx=>mq x<|BG hx;have em:(U++[GA f k]).map some=U.map some++[jP f<|some k]:=by rw[X8,Ar];rfl
  have done:jD (λτ o=>∃f,∃U:Pi,∃J c5 c6,τ=[some<|.ref a,some<|qr R,some<|.int s,some<|.ref d,some<|.ref w,c5,c6]/\HQ L j I d w D (i+1) 0 f (U.map some) J o/\U.length=i+1) [some<|.ref a,some<|qr R,some<|.int s,some<|.ref d,some<|.ref w,some<|.int (p:Int),some<|nW k] (qg (qg o d<|._q<|iw J (.inl (p:Int))<|.int ((U.length:Nat):Int)) w<|.lst<|xz U++[nW<|GA f k]):=by
   refine{_,EE _,λx=>if x=p then U.length else f x,U++[GA f k],_,_,_,rfl,{(G.sub.upd hd).upd a4,(qb a0).trans q9,?_,(qb<|AL a5).trans<|(qb<|AL ab).trans G.hD,?_,λy=>?_,?_,?_},by rw[Ab,lm];rfl}
   .rw[q9,ko];unfold xz;rw[Ar];rfl
   .have:=wF J (.inl (p:Int))<|.int ((U.length:Nat):Int);lia
   .rw[et];exact vp y
   .rw[et,em];have:=G.gap.step hb pn ac a2 a1;rw[Ac] at this;exact this
   .rw[Ac,Ab,lm];show i+1<=_;lia
  refine qc a3 ?_;cases k with
  |lf t n=>exact qi a3 {by rw[C];exact big _ (by lia),done}
  |nd e p1 p2=>
   obtain⟨m1,m2⟩:=a1 e p1 p2 rfl;have v1:=vp p1;have v2:=vp p2;rw[AC<|Ay _ m1,Az λ(z:p1=p)=>pn<|z▸m1] at v1;rw[AC<|Ay _ m2,Az λ(z:p2=p)=>pn<|z▸m2] at v2;refine ju ((q9:qg o d _ d=some _))<|qj v1 ?_;refine ju ((q9:qg o d _ d=some _))<|qj v2 ?_;exact qi a3 {by rw[C];exact big _ (by lia),done}
 .rintro τ o ⟨f,U,J,c5,c6,rfl,G,lm⟩;have eq:(nY I).length=I.length:=Ac ..;rw[eq] at G lm;have et:I.take I.length=I:=AZ;have val:∀p,p<j.length->vq J (.inl (p:Int))=some (.int (f p:Int)):=λp hp=>by rw[G.val,et,AC<|pm.mem_iff.mpr<|Bj.mpr hp]
  have gap:Gap j (List.range j.length) f (U.map some):=by have g:=G.gap;rw[et] at g;exact{λp hp=>g.at_ p<|pm.mem_iff.mpr hp,λp hp r hr=>g.inj p (pm.mem_iff.mpr hp) r<|pm.mem_iff.mpr hr,λx k hx=>let ⟨r,hr,e⟩:=g.only x k hx;⟨r,pm.mem_iff.mp hr,e⟩,g.ok}
  have rd:=xj R;have tl:=tp.length_eq;rw[B6] at tl;refine{R,d,J,f,rfl,G.hd,λB hB x hx=>val x (by rw[au];exact sr.pl B hB x hx),by lia,?_};refine aB (EZ G.sub (by rw[G.hw,ko])) (q w f U a4 (by lia) {by rw[<-l];exact gap,by rw[Ac,Ac];lia})
def LG(l:jf)(J:jf)(U:jf)(g:jf)(o:jf)(I:jf):RD "_law_tree" mD 128 ["_law_cells","_law_seed","_law_room","_law_knots","_law_forest","_law_k","_law_cell","_law_one","_law_two","_law_deed","_law_at"] (λV=>HF V l/\KP V J/\KR V U/\KQ V g/\KS V o/\KZ V I):={_,λV B c _ _ _ _ _ _ _ p hN r=>(qa (S_ 3 hN<|zc x5)<|qa (S_ 4 hN<|zc x5)<|qa (k8 yp rfl (bY rfl B.bg<|qv 0) (af (n:=2) rfl<|zh (G_ 5 hN)<|zh (G_ 6 hN) wo)<|qa (yh (i:=7) (j:=8) rfl hN rfl rfl (by decide) rfl rfl (vo (C_ c.1 p<|df (qv 6) (qv 5) qe)<|C_ c.1 p<|df (qv 6) (qv 5) qe) rfl)<|qa (zf (jo zQ (qk zj (qk zj (L_ B.ba<|qv 3)<|L_ B.ba<|qv 4) qe) (qv 2)<|jy _) (qd vR) qx)<|qa (S_ 9 hN<|qk jn (qv 7) qe)<|qa (S_ 7 hN<|qk vm (qv 7) qe)<|qd<|zf (bQ<|i3 (jo qJ (qv 9) qe<|jy _)<|eY<|E_ r (qv 4)<|zc x5) (qa (qt<|z9 (qv 3)<|zn<|zo<|vo qo<|C_ c.2.1 p<|vo (qv 1)<|qk jn (qv 8) qe)<|qa (qt<|z9 (qv 3)<|zn<|zo<|vo qo<|C_ c.2.1 p<|vo (qv 1)<|qk jn (qv 8) qe)<|wn (zf (E_ r (qk jn (qv 7) qe) qe) (qd<|qt<|z9 (qv 3)<|zn<|cV (qv 3)<|zn<|qk cX (L_ B.ba<|qv 3) qe) qx)<|qa (S_ 10 hN<|qk cX (L_ B.ba<|qv 3) qe)<|qd<|qt<|z9 (qv 4)<|zn<|zc<|vo (zo<|df qo (qv 10)<|qk zj (qv 10) qe)<|zc<|vo (qv 10)<|qk zj (qv 10) qe)<|qd<|zf (jo qJ (qv 9) qe<|jy _) (qd<|qt<|C_ c.2.2.1 p<|kg (qv 3)<|df (I_ (qv 4)<|qk jn (qv 8)<|L_ B.ba<|qv 4) (qv 7)<|qk vm (qv 8) qe)<|qd<|zf (bQ<|gY (jo qJ (qv 9) qe<|jy _)<|cz<|jo zQ (L_ B.ba<|qv 4) qe<|jy _) (qd<|qt<|C_ c.2.2.2.1 p<|kg (qv 3)<|df (qv 4) (qv 7)<|qv 8)<|qd<|qt<|C_ c.2.2.2.2.1 p<|kg (qv 3)<|df (qv 4) (qv 7)<|qv 8)<|wn (zf (E_ r (qv 4)<|zc x5) (qa (qt<|z9 (qv 3)<|zn<|zo<|vo qo<|C_ c.2.1 p<|vo (qv 1) qe)<|qa (qt<|z9 (qv 3)<|zn<|zo<|vo qo<|C_ c.2.1 p<|vo (qv 1) qe)<|qd<|qt<|z9 (qv 4)<|zn<|zc<|vo (zo<|df qo qe qe)<|zc<|vo qe qe) qx)<|qa (cU yp (jo zQ (L_ B.ba<|qv 4) qe<|jy _)<|qd<|qt<|C_ c.2.2.2.1 p<|kg (qv 3)<|df (qv 4) (qk zj (qk vm (qv 1) qe)<|L_ B.ba<|qv 4)<|qk vm (qv 1) qe)<|qd<|ql<|C_ c.2.2.2.2.2 p<|df (qv 3) (I_ (J_ 4) qe)<|qv 1)}
inductive ix(Pt:Addr)(ys:_T)(L:qh)(Q:YK):Prop
 |mk:∀cy,∀ns:aaf,∀s:Int,∀room:Nat,(ys=[.ref cy,.int s,.int (room:Int)])->(L cy=some (.lst<|ns.map Y.int))->(ns.length<=1000)->(room<=96)->(L Pt=some (.tb lamQ))->(∀w ks R E,L w=none->gU ks R E->(qm R).Perm (List.range ks.length)->Q (.tup [.ref w,qr R]) (qg L w<|.lst<|xz ks))->ix Pt ys L Q
def X9 :_f (ix Pt) (LG jN iL im mj m6<|dC Pt).1 11:=by
 rintro ys L Q ⟨cy,ns,s,room,rfl,ab,bd,ba,hP,q⟩;have big:=a_;have U:∀fo:aax,(zk fo).length=fo.length:=λfo=>Ac ..;have C:∀I:Pi,(xz I).length=I.length:=λI=>Ac ..;intro J ac g ag;have nkf:J≠g:=v4 q9 ag;have au:L g=none:=(By ac).none ag;have F0:qI L (qg (qg L J<|.lst []) g<|.lst []) J g [] []:=by
  refine{{by rw[qb nkf];exact q9,λt ht=>by simp at ht,λt ht=>by simp at ht,by simp,by simp,by simp[nkf],λp k e=>by simp at e,(By ac).trans<|By ag,λx hx=>?_},q9};rcases Aq.mp hx with rfl|hx
  .exact ac
  .rw[Ak.mp hx];exact au
 generalize qg (qg L J<|.lst []) g (.lst [])=L1 at F0;refine jb (F0.b.sub _ _ ab) λkeep kp=>vk {λ_ τ L'=>TW L J g s room τ L',?_,?_,?_,?_}
 .exact TW.of F0<|Bb _
 .rintro i τ L' ⟨c0,c5,c6,c7,c8,c9,l,I,fo,rfl,F,hb⟩;exact kp L' (by rw[F.b.sub _ _ ab,F0.b.sub _ _ ab])
 .rintro i y τ L' ey ⟨c0,c5,c6,c7,c8,c9,l,I,fo,rfl,F,hb⟩;obtain⟨z,ez,rfl⟩:=a7 ey;obtain⟨cell,ec,rfl⟩:∃cell:Int,ns[i]?=some cell/\z=Y.int cell:=by rw[Al] at ez;obtain⟨z,e1,e2⟩:=Ax.mp ez;exact{(z),e1,e2.symm}
  have hi:=(AJ.mp ec).1;refine{cell,((i:Nat):Int),48271,rfl,by exact Bf _,by omega,by decide,by decide,λone h1 be=>{cell,((i:Nat):Int),69621,rfl,by exact Bf _,by omega,by decide,by decide,λtwo h2 bf=>?_}};refine qc F.b.hk<|qc F.hf ?_;refine jp (λc=>?_) λc=>?_
  .exact{_,EE _,TW.of F hb}
  have c:¬((((xz I).length:Nat):Int)+(((zk fo).length:Nat):Int)+12 > (room:Int)):=c;rw[C,U] at c;refine{(by decide:(0:Int)<9),{by decide,by decide},?_};refine jp (λc3=>?_) λc3=>?_
  case' refine_1=>
   obtain⟨L2,av⟩:∃L2,L2=L':={_,rfl};rw[<-av];have F':qI L L2 J g I fo:=by rw[av];exact F
  case' refine_2=>
   intro p hp;refine a9 (by decide) (By hp _ _ F.hf) q9 ((F.b.mono<|By hp).dats (by lia)) (.nil:Paired (j9 _ 0) _ []) ?_;show wg (Da.eqs (fo.map ft) []) _ _;rw[Lq];have F':qI L (qg L' p<|.lst []) J g I fo:=F.mono<|By hp;generalize qg L' p (.lst [])=L2 at F';refine jp (λc0=>?_) λc0=>?_
  case' refine_2.refine_2=>
   have bb:0<fo.length:=by cases fo with|nil=>exact absurd rfl c0|cons _ _=>simp
   have F:=F';refine jp (λc6=>?_) λc6=>?_
   .obtain⟨j,t,ej,lj,et⟩:=jF bb two;refine qc F.hf {(by show(0:Int)<((zk fo).length:Int);rw[U];lia),qc F.hf (qj (v:=.ref t.a) (by show fS (zk fo) (two % ((zk fo).length:Int))=_;rw[U,ej];exact jk (by unfold zk;rw[Al,et];rfl)) ?_)};obtain⟨pre,post,ep⟩:=BY<|AE et;rw[ep] at F hb;refine{{by decide,by decide},L,J,g,I,pre,post,t,one / 9,two / 64,rfl,F,by lia,λL3 a0 a1 F3 h1 h2 _=>?_};refine{_,EE _,?_};exact TW.of F3 (by rw[ep] at c;lia)
   refine jp (λc8=>?_) λc8=>?_
   .refine qc F.hf ?_;refine jp (λc1=>?_) λc1=>?_
    .have c1:(((zk fo).length:Nat):Int) > 1:=c1;rw[U] at c1;refine{L,J,g,I,fo,one / 9,two,rfl,F,by lia,by lia,by lia,λL3 a0 a1 F3 h1 h2 _=>?_};refine{_,EE _,?_};exact TW.of F3 (by lia)
    .refine{L,J,g,I,fo,one / 9,two,rfl,F,by assumption,by lia,by lia,λL3 a0 a1 F3 h1 h2 h3=>?_};refine{_,EE _,?_};exact TW.of F3 (by lia)
   .refine{L,J,g,I,fo,one / 9,two,rfl,F,by lia,by lia,by lia,λL3 a0 a1 F3 h1 h2 h3=>?_};refine{_,EE _,?_};exact TW.of F3 (by lia)
  all_goals
   obtain⟨nm,a2⟩:∃nm,nm=jh (a8 s<|two % 3):={_,rfl};have al:aJ nm:=by rw[a2];exact wZ _ _
   refine qc F'.b.hk {(by decide:(0:Int)<3),s,two % 3,rfl,qi F'.b.hk {big _ (by rw[C];omega),?_}};refine qc q9 {(by decide:(0:Int)<3),s,two % 3,rfl,qi q9 {big _ (by rw[Ab,C];simp;omega),?_}};rw[<-a2,jc];have e1:(xz I++[.tup [.str "plain",.str nm]])++[.tup [.str "turned",.str nm]]=xz (I++[.lf false nm,.lf true nm]):=by unfold xz;rw[Ar,Av];rfl
   rw[e1];refine{λτ L3=>∃(b:Bool) (d0 d10:Option Y),τ=[d0,some<|.int s,some<|.int (room:Int),some<|.ref J,some<|.ref g,some<|.int ((i:Nat):Int),some<|.int cell,some<|.int<|one / 9,some<|.int two,some<|.int<|one % 9,d10]/\L3=qg L2 J (.lst<|xz<|I++[.lf b nm,.lf (!b) nm]),?_,?_}
   .refine{(by decide:(0:Int)<2),?_};show wg (decide<|one / 9 % 2=1) _ _;refine jp (λc2=>?_) λc2=>?_
    .have l2:(xz<|I++[Kn.lf false nm,.lf true nm]).length=I.length+2:=by rw[C,Ab];rfl
     have t2:((((xz<|I++[Kn.lf false nm,.lf true nm]).length:Nat):Int)-2).toNat=I.length:=by rw[l2];omega
     refine qc q9<|qc q9<|qc q9<|qi q9 {?_,?_,qj (v:=nW<|.lf false nm) ?_ ?_}
     .show(0:Int)<=(((xz<|I++[Kn.lf false nm,.lf true nm]).length:Nat):Int)-2;rw[l2];omega
     .show(((xz<|I++[Kn.lf false nm,.lf true nm]).length:Nat):Int)-2<_;omega
     .show(xz<|I++[Kn.lf false nm,.lf true nm])[((((xz<|I++[Kn.lf false nm,.lf true nm]).length:Nat):Int)-2).toNat]?=_;rw[t2];unfold xz;rw[Al,eQ];rfl
     .rw[jc];refine qi q9 {big _ ?_,?_}
      .refine AF (C0 ..) ?_;show(xz<|I++[Kn.lf false nm,.lf true nm]).length<=20000;rw[l2];omega
      .refine{true,_,_,rfl,?_};rw[jc];have e3:(xz<|I++[Kn.lf false nm,.lf true nm]).eraseIdx ((((xz<|I++[Kn.lf false nm,.lf true nm]).length:Nat):Int)-2).toNat++[nW<|.lf false nm]=xz (I++[.lf true nm,.lf false nm]):=by rw[t2];unfold xz;rw[Ar,List.eraseIdx_append_of_length_le (by simp),Ac,CO,Ar,Av];rfl
       rw[e3];rfl
    .exact{false,_,_,rfl,rfl}
   .rintro bg L3 ⟨b,d0,d10,rfl,rfl⟩;have l2:(xz<|I++[Kn.lf b nm,.lf (!b) nm]).length=I.length+2:=by rw[C,Ab];rfl
    have nn:(((xz<|I++[Kn.lf b nm,.lf (!b) nm]).length:Nat):Int)-2=((I.length:Nat):Int):=by rw[l2];omega
    have a3:qg L2 J (.lst<|xz<|I++[.lf b nm,.lf (!b) nm]) g=some (.lst<|zk fo):=by rw[qb<|AL nkf];exact F'.hf
    have en:∀z:Int,z=((I.length:Nat):Int)->zq [I.length,I.length+1]=[.int z,.int<|z+1]:=λz e=>by rw[e];rfl
    have er:∀z:Int,z=((I.length:Nat):Int)->qr (.link I.length<|I.length+1)=.tup [.str "link",.int z,.int<|z+1]:=λz e=>by rw[e];rfl
    have en:=en _ nn;have er:=er _ nn;refine qc q9<|qc a3 λpb a4 pa a5=>?_;have H:=F'.link al b (pb:=pb) (pa:=pa) a4 (by rw[en];exact a5) rfl;refine qi (((By a4).trans<|By a5) _ _ a3) {big _ (by rw[U];omega),?_};rw[en,er] at H;refine{_,EE _,?_};exact TW.of H (by rw[Ab,Ab];simp;omega)
 .rintro τ L' ⟨c0,c5,c6,c7,c8,c9,l,I,fo,rfl,F,hb⟩;refine{λτ L3=>∃c0 c5 c6 c7 c8 c9 l I fo,τ=[c0,some<|.int s,some<|.int (room:Int),some<|.ref J,some<|.ref g,c5,c6,c7,c8,c9,l]/\qI L L3 J g I fo/\1<=fo.length/\I.length+fo.length<=max room 3,?_,?_}
  .intro p hp;refine a9 (by decide) (By hp _ _ F.hf) q9 ((F.b.mono<|By hp).dats (by lia)) (.nil:Paired (j9 _ 0) _ []) ?_;show wg (Da.eqs (fo.map ft) []) _ _;rw[Lq];have F':qI L (qg L' p<|.lst []) J g I fo:=F.mono<|By hp;generalize qg L' p (.lst [])=L2 at F';refine jp (λc0=>?_) λc0=>?_
   .subst c0;have k0:I=[]:=by cases I with|nil=>rfl|cons k r=>exact absurd ((F.b.tm 0).mpr (by simp)) (by simp)
    subst k0;obtain⟨nm,a2⟩:∃nm,nm=jh (a8 s 0):={_,rfl};have al:aJ nm:=by rw[a2];exact wZ _ _
    refine qc F'.b.hk {s,0,rfl,qi F'.b.hk {big _ (by decide),?_}};refine qc q9 {s,0,rfl,qi q9 {big _ (by show 1<=20000;decide),?_}};rw[<-a2,jc];have a3:∀o,qg L2 J o g=some (.lst<|zk []):=λo=>by rw[qb<|AL nkf];exact F'.hf
    refine qc (a3 _) λpb a4 pa a5=>?_;have H:=F'.link al true (pb:=pb) (pa:=pa) a4 a5 rfl;refine qi (((By a4).trans<|By a5) _ _<|a3 _) {big _ (by show 0<=20000;decide),?_};exact{_,_,_,_,_,_,_,_,_,rfl,H,by simp,by simp;lia}
   .exact{_,_,_,_,_,_,_,I,fo,rfl,F',(by cases fo with|nil=>exact absurd rfl c0|cons _ _=>simp),by lia}
  .rintro τ L' ⟨c0,c5,c6,c7,c8,c9,l,I,fo,rfl,F,h1,hb⟩;refine{λm τ L3=>∃c0 c5 c6 c7 c8 c9 l I fo,τ=[c0,some<|.int s,some<|.int (room:Int),some<|.ref J,some<|.ref g,c5,c6,c7,c8,c9,l]/\qI L L3 J g I fo/\1<=fo.length/\fo.length=m/\I.length+fo.length<=max room 3,{_,_,_,_,_,_,_,_,_,_,rfl,F,h1,rfl,hb},?_};rintro m τ L' ⟨c0,c5,c6,c7,c8,c9,l,I,fo,rfl,F,h1,hm,hb⟩;refine qc F.hf ?_;refine jp (λc1=>?_) λc1=>?_
   .have c1:(((zk fo).length:Nat):Int) > 1:=c1;rw[U] at c1;refine{λτ L3=>∃c0 c5 c6 c7 c8 c9 l I fo,τ=[c0,some<|.int s,some<|.int (room:Int),some<|.ref J,some<|.ref g,c5,c6,c7,c8,c9,l]/\qI L L3 J g I fo/\1<=fo.length/\fo.length+1=m/\I.length+fo.length<=max room 3,?_,?_}
    .rintro τ L3 ⟨d0,d5,d6,d7,d8,d9,d10,a0,a1,rfl,F3,g1,g2,g3⟩;exact{m-1,by lia,_,_,_,_,_,_,_,_,_,rfl,F3,g1,by lia,g3}
    .refine{{by decide,by decide},qc F.hf {{by decide,by decide},L,J,g,I,fo,_,_,rfl,F,by lia,by lia,by lia,λL3 a0 a1 F3 g1 g2 _=>?_}};exact{_,EE _,_,_,_,_,_,_,_,a0,a1,rfl,F3,by lia,by lia,by lia}
   .have c1:¬((((zk fo).length:Nat):Int) > 1):=c1;rw[U] at c1;obtain⟨t,rfl⟩:∃t,fo=[t]:=by
     match fo,h1,c1 with
     |[t],_,_=>exact{(t),rfl}
     |t::u::r,_,c=>exact absurd (show(((t::u::r).length:Nat):Int) > 1 by simp;lia) c
    have ta:=(F.b.ht t<|An ..).1;refine qc F.hf<|qc ta ?_;have tp:(qm t.R).Perm (List.range I.length):=by have nd:=F.b.nd;have tm:=F.b.tm;simp at nd tm;exact(AY nd Cy).mpr λx=>by rw[tm,Bj]
    have sr:=F.b.sr t<|An ..;have hk:I.length<=96:=by simp at hb;lia
    refine{J,I,t.R,t.E,s,rfl,F.b.hk,F.b.ok,sr,tp,hk,F.b.sub _ _ hP,λw f a0 aL lk rn=>?_};obtain⟨T,bc⟩:=gU.ren F.b.ok sr tp hk rn lk;exact aB (EZ (F.b.sub.trans<|By aL) q9)<|q w a0 _ _ (F.b.sub.none aL) T bc
def uM:HT->Da
 |none=>.s .KF
 |some (.lf t n)=>.tup [.s<|.str<|kL t,.s<|.str n]
 |some (.nd e i j)=>.tup [.s<|.str<|kN e,.s<|.int ((i:Nat):Int),.s<|.int ((j:Nat):Int)]
theorem X_ :∀k:HT,j9 L 1 (i0 k)<|uM k
 |none=>.inl {(rfl),rfl}
 |some (.lf t n)=>bv<|.cons (EN _)<|.cons (EN _) .nil
 |some (.nd e i j)=>bv<|.cons (EN _)<|.cons (EW _)<|.cons (EW _) .nil
theorem t0{L:qh}:∀wd:List (HT),Paired (j9 L 1) (wq wd)<|wd.map uM
 |[]=>.nil
 |k::r=>.cons (X_ k)<|t0 r
theorem LH:∀wd:List (HT),Da.eqs (wd.map uM) (wd.map uM)=true
 |[]=>rfl
 |k::r=>by
  have:Da.eq (uM k) (uM k)=true:=by cases k with|none=>rfl|some k=>cases k<;>simp[uM,Da.eq,Da.eqs,gb]
  rw[AI,Da.eqs,this,LH r];rfl
def Yb(ns:aaf)(lo hi:aah):∃ms:aaf,gR (ns.map Y.int) lo hi=ms.map Y.int/\ms.length<=ns.length:=by unfold gR;refine{(ns.drop<|KM (ns.map Y.int).length 0 lo).take<|KM (ns.map Y.int).length (ns.map Y.int).length hi-KM (ns.map Y.int).length 0 lo,by rw[List.map_take,List.map_drop],?_};rw[AS,BH];lia
section
variable {w:aan}
section
variable {z TI TO B:Addr}{xs ys:aaa}
end
end
section
variable {σ:St}{z TI TO S:Addr}{ys:GT}{R:Result->aal->Prop}{res:aak}
end
def wQ:bootBuiltins "reversed"=some (.type "reversed"):=by decide +kernel
theorem Paired.len{α β:Type}{F:α->β->Prop}:∀{xs:List α} {ys:List β},Paired F xs ys->xs.length=ys.length
 |_,_,.nil=>rfl
 |_,_,.cons _ r=>BA (· + 1)<|Paired.len r
abbrev EK:=@Paired.len
def xA(I:jf):RR "_law_alike" hJ 1 ["_law_found","_law_due"] ["_law_found","_law_due","_law_k"] I (λ_=>True):={_,λV B c _ _ J _ _ _ _ _ _ g hN U=>(qa (zf (gM<|qv 1) (qd<|ql<|S'<|qv 0) qx)<|qa (zf (w5<|wu .str rfl B.bb rfl B.be bp<|qv 1) (qd<|ql<|ae (wu .str rfl B.bb rfl B.be bp<|qv 0)<|bB<|ke (iz _ _ _ U) (qv 0) (qv 1)<|jy _) qx)<|qa (zf (w5<|wu .int rfl B.bb rfl B.b_int uW<|qv 1) (qd<|ql<|ae (wu .int rfl B.bb rfl B.b_int uW<|qv 0)<|ae (Tc<|wu .bool rfl B.bb rfl B.b_bool Sy<|qv 0)<|bB<|ke (iz _ _ _ U) (qv 0) (qv 1)<|jy _) qx)<|qa (zf (bQ<|i3 (N_ U (wu .list rfl B.bb rfl B.bh bT<|qv 1)<|wu .list rfl B.bb rfl B.bh bT<|qv 0)<|eY<|N_ U (wu .tuple rfl B.bb rfl B.bi ef<|qv 1)<|wu .tuple rfl B.bb rfl B.bi ef<|qv 0) (qd<|ql bX) qx)<|qa (zf (N_ U (L_ B.ba<|qv 0)<|L_ B.ba<|qv 1) (qd<|ql bX) qx)<|qa (k8 yp rfl (aS rfl B.bf<|zn<|L_ B.ba<|qv 1) (G_ 2 hN)<|qd<|zf (cg<|w5<|C_ J g<|vo (I_ (qv 0)<|qv 2)<|I_ (qv 1)<|qv 2) (qd<|ql bX) qx)<|qd<|ql bX)}
def LI:Y->Bool
 |.KF=>true
 |.int _=>true
 |.str _=>true
 |_=>false
def oI(L:qh):Nat->Y->Y->Prop
 |0,_,_=>False
 |n+1,x,y=>(LI x=true/\y=x)\/(∃xs ys,x=.tup xs/\y=.tup ys/\ys.length<=1000/\Paired (oI L n) xs ys)\/(∃a b xs ys,x=.ref a/\y=.ref b/\L a=some (.lst xs)/\L b=some (.lst ys)/\ys.length<=1000/\Paired (oI L n) xs ys)
def oI.flat{n:Nat}{x:Y}(h:LI x=true):oI L (n+1) x x:=.inl {(h),rfl}
def oI.tup{n:Nat}{xs:_T}(h:Paired (oI L n) xs ys)(l:Nat.ble ys.length 1000=true:=by rfl):oI L (n+1) (.tup xs) (.tup ys):=.inr<|.inl {xs,ys,rfl,rfl,Cg l,h}
theorem cK{L:qh}:∀{R:Ru} {n:Nat},zx R+1<=n->oI L n (qr R) (qr R)
 |.link p q,n+2,_=>.tup<|.cons (.flat rfl)<|.cons (.flat rfl)<|.cons (.flat rfl) .nil
 |.link p q,1,h=>by simp[zx] at h
 |.ei r A,1,h=>by simp[zx] at h
 |.ei r A,n+2,h=>.tup (.cons (.flat rfl) (.cons (.flat rfl) (.cons (cK (by simp[zx] at h;lia)) .nil)))
 |.bo r A B,1,h=>by simp[zx] at h
 |.bo r A B,n+2,h=>.tup (.cons (.flat rfl) (.cons (.flat rfl) (.cons (cK (by simp[zx] at h;lia)) (.cons (cK (by simp[zx] at h;lia)) .nil))))
 |.cu p q A B,1,h=>by simp[zx] at h
 |.cu p q A B,n+2,h=>.tup (.cons (.flat rfl) (.cons (.flat rfl) (.cons (.flat rfl) (.cons (cK (by simp[zx] at h;lia)) (.cons (cK (by simp[zx] at h;lia)) .nil)))))
theorem t8{L:qh}{n:Nat}:∀wd:List (HT),Paired (oI L<|n+2) (wq wd)<|wq wd
 |[]=>.nil
 |none::r=>.cons (.flat rfl)<|t8 r
 |some (.lf t m)::r=>.cons (.tup<|.cons (.flat rfl)<|.cons (.flat rfl) .nil)<|t8 r
 |some (.nd e i j)::r=>.cons (.tup<|.cons (.flat rfl)<|.cons (.flat rfl)<|.cons (.flat rfl) .nil)<|t8 r
inductive ax(n:Nat)(ys:_T)(L:qh)(Q:YK):Prop
 |mk:∀x y,(ys=[x,y])->(oI L n x y)->(Q (.bl true) L)->ax n ys L Q
def Yc:∀ys L Q,¬ax 0 ys L Q:=λys L Q ⟨x,y,_,h,_⟩=>h
def Yd(n:Nat):_f (ax (n+1)) (xA<|ax n).1 3:=by
 rintro ys L Q ⟨x,y,rfl,h,q⟩;rcases h with⟨f,rfl⟩|⟨I,ys,rfl,rfl,l,p⟩|⟨a,b,I,ys,rfl,rfl,o,J,l,p⟩
 .cases y with
  |KF=>exact jd q
  |int i=>
   refine jd ?_;show Q (.bl<|nb false<|decide<|i=i) L;rw[AA rfl];exact q
  |str i=>
   refine jd ?_;show Q (.bl<|nb false<|decide<|i=i) L;rw[AA rfl];exact q
  |_=>cases f
 .have r:=EK p;walk_at "w";refine jv (b:=nb true<|decide<|(I.length:Int)=ys.length) (by rw[r,AA rfl];rfl) ?_;refine{{Bf _,by lia},?_};rw[BF];refine jB (λi U g=>g=L/\∃c,U=[some<|.tup I,some<|.tup ys,c]) {rfl,_,rfl} ?_ ?_
  .rintro i U g t ⟨rfl,c,rfl⟩;have j:I[i]?=some (I[i]'(by lia)):=Ah (by lia);have ev:ys[i]?=some ys[i]:=Ah t;have C:fS I (0+(i:Int))=some (I[i]'(by lia)):=by rw[CB];exact jk j
   have T:fS ys (0+(i:Int))=some ys[i]:=by rw[CB];exact jk ev
   walk_at "w";rw[C];walk_at "w";rw[T];exact{_,_,rfl,EJ p j ev,_,EE _,rfl,_,rfl}
  .rintro U g ⟨rfl,c,rfl⟩;exact jd q
 .have r:=EK p;refine fZ J ?_;walk_at "w";refine fZ J ?_;walk_at "w";refine fZ J<|fZ o ?_;walk_at "w";refine fZ J<|fZ o ?_;walk_at "w";refine qc o (qc J (jv (by rw[r,AA rfl];rfl) ?_));refine qc J {{Bf _,by lia},?_};rw[BF];refine jB (λi U g=>g=L/\∃c,U=[some<|.ref a,some<|.ref b,c]) {rfl,_,rfl} ?_ ?_
  .rintro i U g t ⟨rfl,c,rfl⟩;have j:I[i]?=some (I[i]'(by lia)):=Ah (by lia);have ev:ys[i]?=some ys[i]:=Ah t;have C:fS I (0+(i:Int))=some (I[i]'(by lia)):=by rw[CB];exact jk j
   have T:fS ys (0+(i:Int))=some ys[i]:=by rw[CB];exact jk ev
   refine qc o<|qj C<|qc J<|qj T ?_;exact{_,_,rfl,EJ p j ev,_,EE _,rfl,_,rfl}
  .rintro U g ⟨rfl,c,rfl⟩;exact jd q
def Ye:typeLookup (.type "list_reverseiterator") "__len__" = pure none:=by rw[typeLookup_type,builtinLookup_eq_fast];kernel_rfl
def Yg:typeLookup (.type "list_reverseiterator") "__length_hint__" = pure (some<|.builtin "list_reverseiterator.__length_hint__"):=by rw[typeLookup_type,builtinLookup_eq_fast];kernel_rfl
section
variable {w:aan}
def Yh{r:Addr}{Q:Bool->aal->Prop}(U:s.TypeIs (.ref r) "list_reverseiterator")(h:Q false s):wpAny (model prog w) A (Builtin.List.listLengthHint<|.ref r) Q E s:=by
 unfold Builtin.List.listLengthHint;refine Aa<|wpAny_specialOf U Ye ?_;refine wpAny_ite_split (λI=>absurd I (by decide)) λ_=>?_;refine wpAny_ite_split (λI=>absurd I (by decide)) λ_=>?_;refine Aa<|wpAny_specialOf U Yg ?_;generalize J:("list_reverseiterator.__length_hint__" : aap)=g
 wp_delta
 rw[show splitId g=some ("list_reverseiterator","__length_hint__") from by subst J;decide +kernel];subst J;refine Aa (wpAny_isInstance (T:="list_reverseiterator") (b:=true) U (by rw[isSubtype_type];kernel_rfl) ?_);refine wpAny_ite_split (λI=>absurd I (by decide)) λ_=>?_;refine wpAny_ite_split (λ_=>?_) λI=>absurd (by decide +kernel) I;exact wpAny_ite_split (λI=>absurd I (by decide +kernel)) λ_=>Am h
def qH{I:Addr}{items:aaa}(hh:A.handled=none)(hl:s.heap.IsList l items)(hit:s.heap.IsRevIter I l<|(items.size:Int)-1)(a0:l≠I)(hn:items.size<=sizeLine)
 (q:∀h' tk g c,(∀b o,b≠I->s.heap.get? b=some o->h'.get? b=some o)->h'.get? s.heap.objs.size=some {cls:=.type "list",dict:=none,data:=.seq g c,slots:=#[]}->ItemsOf (λi v=>items[items.size-1-i]?=some v) g items.size->Q (.ref s.heap.objs.size) {s with heap:=h',toks:=tk}):
 wpAny (model prog w) A (call (.type "list") [.ref I]) Q E s:=by
 refine callType_codes (Q₁:=λobj J=>obj=.ref s.heap.objs.size/\J={s with heap:=s.heap.push {cls:=.type "list",data:=.seq #[]}}) F.called_list (F.typeCall_list_1 _) F.entry_list_init (code_list_new _ {(rfl),rfl}) λobj J j=>?_;obtain⟨rfl,rfl⟩:=j;have C:(s.heap.push {cls:=.type "list",data:=.seq #[]}).get? s.heap.objs.size=some {cls:=.type "list",data:=.seq #[]}:=ya _ rfl;have nS:∀b o,s.heap.get? b=some o->b≠s.heap.objs.size:=λb o e=>A5<|xT e;have nI:I≠s.heap.objs.size:=by obtain⟨o,e,_⟩:=hit;exact nS _ _ e
 have nl:l≠s.heap.objs.size:=by obtain⟨o,e,_⟩:=hl;exact nS _ _ e
 refine{{_,C,rfl},F.args_list_init_2 _ _,?_};show wpAny _ _ (Builtin.List.listItems (.ref s.heap.objs.size) >>= λold=>Builtin.List.listUpdate (.ref s.heap.objs.size) (λ_=>#[]) >>= λ_=>letGo old.toList.reverse >>= λ_=>Builtin.List.listExtendWith (.ref s.heap.objs.size) (.ref I) .none) _ _ _;refine Aa ?_;unfold Builtin.List.listItems;refine Aa<|Bx C rfl<|Am ?_;refine Aa (m:=updateSeq s.heap.objs.size λ_=>#[])<|wpAny_updateSeq C rfl ?_;have e2:=Ex (Obj.mapSeq λ_=>(#[]:aaa)) C rfl;have k2:∀b o,s.heap.get? b=some o->((s.heap.push {cls:=.type "list",data:=.seq #[]}).update s.heap.objs.size<|Obj.mapSeq λ_=>(#[]:aaa)).get? b=some o:=λb o e=>(Ey _ _<|AL<|nS b o e).trans<|wl _ e;generalize (s.heap.push {cls:=.type "list",data:=.seq #[]}).update s.heap.objs.size (Obj.mapSeq λ_=>(#[]:aaa))=g2 at e2 k2 ⊢;refine Aa<|wpAny_letGo ?_;unfold Builtin.List.listExtendWith;have U:g2.IsRevIter I l ((items.size:Int)-1):=hit.at λo e=>k2 _ _ e;have T2:=U.typeIs (s:={s with heap:=g2});refine Aa<|wpAny_typeOf (T:="list_reverseiterator") T2 ?_;have sr:Builtin.List.listSameRef (.ref s.heap.objs.size) (.ref I)=false:=by simp[Builtin.List.listSameRef,AL nI]
 rw[Az (by rw[sr];decide)];refine Aa<|wpAny_pyIter_revIter (s:={s with heap:=g2}) U ?_;refine Aa<|Bm<|Yh T2 ?_;rw[Az (by decide)];have W:=(Walks.listRev (prog:=prog) (w:=w) (A:=A.in1.in1) hh I l a0 items).toS;have nf:s.heap.objs.size∉[I,l]:=by simp[AL nI,AL nl]
 refine Am {plainId_quiet F.plain_extend_loop _,codeAny_extend_loopS W hn _ nf _ _ 0 _ #[] _ rfl (Bb _) {Bb _,?_,hl.at λo e=>k2 _ _ e} e2 (ItemsOf.nil _) λs' p c' hm r t=>?_}
 .rw[show(items.size:Int)-1-((0:Nat):Int)=(items.size:Int)-1 by omega];exact U
 .rw[Moved.eq_with hm] at r ⊢;refine{rfl,q _ _ p c' (λb o hb e=>hm.heap b o (λz=>?_)<|k2 b o e) r t};rcases Aq.mp z with z|z
  .exact nS b o e z
  .exact hb<|Ak.mp z
end
def Yi(X:Cx)(ta:TA):TE:=λσ H Q=>ta σ H λvs H1=>∃a xs,vs=[.ref a]/\aV X.K H1 a xs/\∀S,H1 S=none->Q (.ref S) (upd H1 S<|.lst xs.reverse)
def zA{a:Expr}{ta:TA}{ps:Pos}(hc:X.calm=true)(a0:Gl X "list")(a1:X.mg "list"=none)(a2:Gl X "reversed")(a3:X.mg "reversed"=none)(C:PA X [a] ta)(hs:starEach [a] X.env=[(false,eval a X.env)]:=by rfl):
 PE X (.Call (.Name "list" p1) [.Call (.Name "reversed" p2) [a] [] ps] [] pos) (Yi X ta):=by
 intro p s σ H Q I h;refine wpAny_Call_Name_kw<|bH I a0 a1 bT ?_;refine callWith_type1 ?_ rfl rfl;show wpAny _ _ (spliced<|(false,eval (.Call (.Name "reversed" p2) [a] [] ps) X.env)::[]) _ _ s;refine At ?_;refine Call_<|bH I a2 a3 wQ<|BO (w9 (C ps p s σ H _ I h) λus g ⟨vs,H1,r,r1,q1⟩=>?_) hs rfl;obtain⟨l,xs,e,hq,q⟩:=q1;subst e;obtain⟨u,rfl,ru⟩:=fB r1;cases ru;obtain⟨J,rv,pl,hz⟩:=r.list hq;have el:=rv.length;refine call_reversed_list pl.isList<|Ev ?_;have lt:l<g.heap.objs.size:=by obtain⟨o,e,_⟩:=pl.isList;exact xT e
 have st:(g.heap.push<|revObj l<|(J.toArray.size:Int)-1).IsRevIter g.heap.objs.size l ((J.toArray.size:Int)-1):={_,ya _ rfl,rfl,by simp[revObj]};refine j6 (s:={g with heap:=g.heap.push (revObj l<|(J.toArray.size:Int)-1)}) r.tk (qH (s:={g with heap:=g.heap.push (revObj l<|(J.toArray.size:Int)-1)}) (items:=J.toArray) (r.ok.hd hc) (pl.isList.at λo e=>wl _ e) st (A5 lt) (by rw[Au,<-el];exact hz) λh' tk U c hk hS t ht=>?_);have ea:U.toList=J.reverse:=by
  refine C6 λj=>?_;obtain⟨T,h2⟩:=t;have T:U.size=J.length:=T.trans Au;by_cases hj:j<J.length
  .have C:j<U.size:=T▸hj;rw[List.getElem?_reverse hj];have e3:=h2 j U[j]<|CS C;simp only[Au,De] at e3;rw[e3,A4,CS C]
  .rw[Br (by rw[A7,T];exact Dh hj),Br (by rw[BQ];exact Dh hj)]
 have zl:g.heap.objs.size<=(g.heap.push<|revObj l<|(J.toArray.size:Int)-1).objs.size:=by simp[Heap.push]
 refine{.ref _,_,r.laid (t':=tk) (o:=.lst xs.reverse) (λb o e=>hk b o (A5<|xT e)<|wl _ e) zl ?_,rfl,q _<|r.KB.fresh zl};refine{by rw[BQ];exact hz,U.toList,c,by rw[ea];exact rv.rev,?_};rw[hS]
def Yj(ta:fF)(τ:j5)(L:qh)(Q:YK):Prop:=ta τ L λvs L1=>match vs with
 |[.ref a]=>dG L1 a λys=>∀p,L1 p=none->Q (.ref p) (qg L1 p<|.lst ys.reverse)
 |_=>False
def xL{a:Expr}{ta:fF}{ps:Pos}(hc:X.calm=true)(J:Gl X "list")(U:X.mg "list"=none)(g:Gl X "reversed")(j:X.mg "reversed"=none)(t:QA X [a] ta)(hs:starEach [a] X.env=[(false,eval a X.env)]:=by rfl):
 QE X (.Call (.Name "list" p1) [.Call (.Name "reversed" p2) [a] [] ps] [] pos) (Yj ta):=EI (zA hc J U g j t hs) λσ H Q C L Q3 T rl z k=>
 ⟨C,L,_,T,rl,z,λus H1 ys L1 t1 I l o=>by
  split at o
  .rename_i x;obtain⟨zs,ez,z2⟩:=x9 o;obtain⟨u,rfl,ru⟩:=l.inv1;cases ru;obtain⟨ws,sq,r⟩:=cb I<|w6 ez;exact{x,ws,rfl,sq,λS p=>k _ _ _ _ (t1.trans<|EG p) (I._P p r.rev) (by rfl)<|z2 S<|I.none p}
  .exact o.elim⟩
def LJ(kvs:List<|Str×Int)(te:ji)(τ:j5)(L:qh)(Q:Bool->qh->Prop):Prop:=te τ L λy L1=>match y with
 |.str k=>qC L1 (λ_ L=>Q false L)<|kvs.lookup k
 |_=>False
theorem Yk{kvs:List<|Str×Int}(t:F7 X.g3 X.mg x kvs)(l:Gl X x)(o:QE X e te)(hd:Es x:=by decide)(r:behindInMarks .NotIn (.Name x p)=false:=by with_unfolding_all rfl):QT X (.Compare e [.NotIn] [.Name x p] pos) (LJ kvs te):=by
 obtain⟨a,C,T⟩:=t.ex;refine PT._c (IL (wI true) o (mz l C (show zg (.ref a) (.ref a) from rfl) hd) r) λσ H Q τ L Q3 rs rl z k=>?_;refine{τ,L,_,rs,rl,z,λv H1 y L1 t1 I J U=>?_};split at U
 .rename_i g;obtain⟨j,ej,q⟩:=wc U;cases (show v=V.str g from J);refine{g,a,_,rfl,rfl,T,false,?_,k _ H1 L1 t1 I q};rw[AC rfl,kO ej];rfl
 .exact U.elim
def Yl :zy X (.type "str") (λxs H Q=>∃n:Int,xs=[.int n]/\n.natAbs.log2<1920/\Q (.str<|toString n) H):=by rintro J s j H xs l Q I r⟨n,rfl,U,q⟩;obtain⟨u,rfl,g⟩:=fB r;obtain⟨t,rfl⟩:=g;exact PySem.P.str_of_int U {.str _,H,I.tok _,{_,rfl},q}
def Ym :zy X (.type "int") (λxs H Q=>∃(x:Str) (n:Int),xs=[.str x]/\PySem.intText? x=some n/\x.length<=640/\Q (.int n) H):=by rintro J s l H xs o Q I r⟨x,n,rfl,U,g,q⟩;obtain⟨u,rfl,j⟩:=fB r;obtain⟨t,rfl⟩:=j;exact PySem.W.KIN.call_text U g {.int n,H,I.tok _,{_,rfl},q}
def LK(xs:_T)(L:qh)(Q:YK):Prop:=match xs with
 |[.int n]=>n.natAbs.log2<1920/\Q (.str<|toString n) L
 |_=>False
theorem gN :zy X (.type "str") (e_ X.g3 LK):=EU Yl λg H Q j L l I J z k=>by
 unfold LK at z;split at z
 .rename_i n;obtain⟨u,rfl,U⟩:=I.inv1;cases (show u=V.int n from U);exact{n,rfl,z.1,k _ H _ L (EF _) J (by rfl) z.2}
 .exact z.elim
def LL(xs:_T)(L:qh)(Q:YK):Prop:=match xs with
 |[.str x]=>∃n,PySem.intText? x=some n/\x.length<=640/\Q (.int n) L
 |_=>False
theorem Yn :zy X (.type "int") (e_ X.g3 LL):=EU Ym λl H Q o L p I J z k=>by
 unfold LL at z;split at z
 .rename_i x;obtain⟨u,rfl,U⟩:=I.inv1;cases (show u=V.str x from U);obtain⟨n,g,j,z⟩:=z;exact{x,n,rfl,g,j,k _ H _ L (EF _) J (by rfl) z}
 .exact z.elim
def mQ(l:aab):(jh l).cps.toList=l:=by show l.toArray.toList=l;simp
def da(l:aab):(jh l).length=l.length:=by rw[<-len_list,mQ]
def eI(a b:aab):jh a++jh b=jh (a++b):=str_list (by rw[io,mQ,mQ,mQ])
def dg(n:Nat):aab:=if n<10 then [48+n] else [48+n / 10,48+n % 10]
def bP{n:Nat}(h:n<100):Str.ofString (toString ((n:Nat):Int))=jh (dg n):=(by decide +kernel:∀n:Fin 100,Str.ofString (toString ((n.val:Nat):Int))=jh (dg n.val)) {(n),h}
def Yo{n:Nat}(h:n<100):PySem.intText? (jh<|dg n)=some ((n:Nat):Int):=(by decide +kernel:∀n:Fin 100,PySem.intText? (jh<|dg n.val)=some ((n.val:Nat):Int)) {(n),h}
def GW(w:aab):Prop:=w≠[]/\32∉w/\10∉w/\w.length<=10
instance (w:aab):Decidable (GW w):=by unfold GW;exact inferInstance
def iy{n:Nat}(h:n<100):GW (dg n):=(by decide +kernel:∀n:Fin 100,GW<|dg n.val) {(n),h}
def yf:Bool->Nat
 |false=>43
 |true=>45
def Yp{n:Str}(h:aJ n):GW (yf t::n.cps.toList):=by
 have I:∀c:Nat,c<97->c∉n.cps.toList:=λc U z=>by have:=(h.2.2 c z).1;lia
 have J:=h.2.1;rw[<-len_list] at J;refine{by simp,?_,?_,by rw[Ap];lia}
 .rw[Aq];rintro(e|e)
  .cases t<;>cases e
  .exact I 32 (by decide) e
 .rw[Aq];rintro(e|e)
  .cases t<;>cases e
  .exact I 10 (by decide) e
def mM:HT->List (aab)
 |none=>[("gone" : Str).cps.toList]
 |some (.lf t n)=>[yf t::n.cps.toList]
 |some (.nd e i j)=>[(kN e).cps.toList,dg i,dg j]
def y_:HT->Prop
 |none=>True
 |some (.lf _ n)=>aJ n
 |some (.nd _ i j)=>i<100/\j<100
def LM(e:Bool):GW (kN e).cps.toList:=by cases e<;>decide +kernel
def LN{k:HT}(h:y_ k):∀w∈mM k,GW w:=by
 intro w hw
 match k,h with
 |none,_=>rw[Ak.mp hw];decide +kernel
 |some (.lf t n),h=>rw[Ak.mp hw];exact Yp h
 |some (.nd e i j),h=>
  rcases Aq.mp hw with rfl|hw
  .exact LM e
  .rcases Aq.mp hw with rfl|hw
   .exact iy h.1
   .rw[Ak.mp hw];exact iy h.2
def zF(k:HT):(mM k).length<=3/\mM k≠[]:=by
 match k with
 |none=>exact{by decide,by simp[mM]}
 |some (.lf t n)=>exact{by show 1<=3;decide,by simp[mM]}
 |some (.nd e i j)=>exact{Aj _,by simp[mM]}
def fu(p:Nat)(k:HT):List (aab):=("knot" : Str).cps.toList::dg p::mM k
def vg:Nat->List (HT)->List (List<|aab)
 |_,[]=>[]
 |p,k::r=>fu p k::vg (p+1) r
theorem gQ(k:HT):∀(wd:List<|HT) (p:Nat),vg p (wd++[k])=vg p wd++[fu (p+wd.length) k]
 |[],p=>rfl
 |x::r,p=>by show fu p x::vg (p+1) (r++[k])=fu p x::vg (p+1) r++[fu (p+(r.length+1)) k];rw[gQ k r<|p+1,B3,CA 1];rfl
theorem xi:∀(wd:List<|HT) (p:Nat),(vg p wd).length=wd.length
 |[],_=>rfl
 |x::r,p=>BA (· + 1)<|xi r<|p+1
theorem ny:∀{wd:List<|HT} {p i:Nat} {k:HT},wd[i]?=some k->(vg p wd)[i]?=some (fu (p+i) k)
 |x::r,p,0,k,h=>by cases h;rfl
 |x::r,p,i+1,k,h=>by have:=ny (wd:=r) (p:=p+1) (i:=i) (k:=k) h;show(vg (p+1) r)[i]?=_;rw[this,B3,CA 1]
def mV:Ru->Str
 |.link _ _ => "link"
 |.ei _ _ => "either"
 |.bo _ _ _ => "both"
 |.cu _ _ _ _ => "cut"
def Yq(A:Ru):GW (mV A).cps.toList:=by
 have h:∀s∈[("link" : Str),"either","both","cut"],GW s.cps.toList:=by decide +kernel
 cases A<;>exact h _ (by simp[mV])
def oW(A:Ru):List (aab):=(mV A).cps.toList::(ar A).map dg
def rW(R:Ru):List (aab):=(jx R).flatMap oW
def mo(R:Ru):rW R=oW R++(qy R).flatMap rW:=by unfold rW;rw[cZ,Bc,List.flatMap_assoc]
def RuS(R:Ru):Prop:=∀A∈jx R,∀p∈ar A,p<100
def RuS.self(h:RuS R):∀p∈ar R,p<100:=h R<|bz R
def RuS.arm{A:Ru}(h:RuS R)(I:A∈qy R):RuS A:=λB J=>h B (by rw[cZ];exact Ag _<|Bl.mpr {(A),I,J})
def sV(A:Ru):(ar A).length<=2:=by cases A<;>simp[ar]
def LP(h:RuS R):∀w∈rW R,GW w:=λw hw=>by
 obtain⟨A,I,hw⟩:=Bl.mp hw;rcases Aq.mp hw with rfl|hw
 .exact Yq A
 .obtain⟨p,J,rfl⟩:=A2.mp hw;exact iy<|h A I p J
theorem xO:∀l:aay,(l.flatMap oW).length<=3*l.length
 |[]=>Aj _
 |A::r=>by have:=sV A;have:=xO r;rw[Bc,Ab];show(((ar A).map dg).length+1)+_<=3*(r.length+1);rw[Ac];lia
def uI(R:Ru):(rW R).length<=3*aG R:=by rw[<-aX];exact xO _
def xh(wd:List<|HT)(R:Ru):List (List<|aab):=vg 0 wd++[("tree" : Str).cps.toList::rW R]
def GR(ws:List<|aab):Prop:=ws≠[]/\∀w∈ws,GW w
def Yr{p:Nat}{k:HT}(I:p<100)(h:y_ k):GR (fu p k):=by
 refine{by simp[fu],λw hw=>?_};rcases Aq.mp hw with rfl|hw
 .decide +kernel
 .rcases Aq.mp hw with rfl|hw
  .exact iy I
  .exact LN h w hw
theorem nq:∀{wd:List<|HT} {p:Nat},p+wd.length<=100->(∀k∈wd,y_ k)->∀ws∈vg p wd,GR ws
 |x::r,p,I,h,ws,hw=>by
  rw[Ap] at I;rcases Aq.mp hw with rfl|hw
  .exact Yr (by lia)<|h x<|An ..
  .exact nq (p:=p+1) (by lia) (λk J=>h k<|Ag _ J) ws hw
structure TxO(wd:List<|HT)(R:Ru):Prop where
 ks:∀k∈wd,y_ k
 len:wd.length<=96
 ru:RuS R
 sz:aG R<=96
 dep:zx R<=96
def TxO.gr(T:TxO wd R):∀ws∈xh wd R,GR ws:=λws hw=>by
 rcases Ao.mp hw with hw|hw
 .exact nq (by have:=T.len;lia) T.ks ws hw
 .rw[Ak.mp hw];refine{by simp,λw hw=>?_};rcases Aq.mp hw with rfl|hw
  .decide +kernel
  .exact LP T.ru w hw
def yD(rows:List<|List<|aab):Nat:=(rows.map List.length).sum
def mf(a b:List<|List<|aab):yD (a++b)=yD a+yD b:=by unfold yD;rw[Ar,Du]
theorem tF:∀(wd:List<|HT) (p:Nat),yD (vg p wd)<=5*wd.length
 |[],_=>Aj _
 |x::r,p=>by have:=tF r<|p+1;have:=(zF x).1;show(fu p x).length+yD (vg (p+1) r)<=5*(r.length+1);show((mM x).length+1+1)+_<=_;lia
def TxO.n(T:TxO wd R):yD (xh wd R)<=800:=by have I:=tF wd 0;have J:=uI R;have U:=T.len;have g:=T.sz;unfold xh;rw[mf];show _+((rW R).length+1+0)<=800;lia
def fU(wd:List<|HT)(R:Ru):(xh wd R).length=wd.length+1:=by unfold xh;rw[Ab,xi];rfl
def nX(rows:List<|List<|aab):aab:=rows.flatMap λws=>gl [32] ws++[10]
def v9(l:aab):List (List<|aab):=((_i 10 l).map _x).filter λr=>!r.isEmpty
def r9{M X:aab}(h:10∉M):v9 (M++10::X)=([_x M].filter λr=>!r.isEmpty)++v9 X:=by unfold v9;rw[_s,Ar,BW,_j h];rfl
def wA{M X:aab}(h:10∉M)(e:_x M=ws)(I:ws≠[]):v9 (M++10::X)=ws::v9 X:=by rw[r9 h,e];cases ws with|nil=>exact absurd rfl I|cons a r=>rfl
def Ys{M X:aab}(h:10∉M)(e:_x M=[]):v9 (M++10::X)=v9 X:=by rw[r9 h,e];rfl
def Yt(l:aab):v9 (l++[10])=v9 l:=by unfold v9;rw[_s,Ar,BW];show _++[]=_;rw[AG]
theorem LQ:∀{ws:List<|aab},(∀w∈ws,GW w)->_x (gl [32] ws)=ws
 |[],_=>rfl
 |[p],h=>by rw[cr];exact wds_one (h p<|An ..).2.1 (h p<|An ..).1
 |p::q::r,h=>by rw[vt];show _x (p++32::gl [32] (q::r))=_;rw[_u,LQ λw hw=>h w<|Ag _ hw,wds_one (h p<|An ..).2.1 (h p<|An ..).1];rfl
theorem LR:∀{ws:List<|aab},ws≠[]->(∀w∈ws,GW w)->_i 32 (gl [32] ws)=ws
 |[],h,_=>absurd rfl h
 |[p],_,h=>by rw[cr];exact _j (h p<|An ..).2.1
 |p::q::r,_,h=>by rw[vt];show _i 32 (p++32::gl [32] (q::r))=_;rw[_s,LR (by simp) λw hw=>h w<|Ag _ hw,_j (h p<|An ..).2.1];rfl
def Yu(h:∀w∈ws,GW w):10∉gl [32] ws:=λz=>by
 rcases K' z with z|⟨l,I,z⟩
 .simp at z
 .exact(h l I).2.2.1 z
def iI(h:∀w∈ws,GW w):(gl [32] ws).length<=ws.length*11:=K_ [32] 10 ws λl I=>(h l I).2.2.2
theorem vF:∀{rows:List<|List<|aab},(∀ws∈rows,GR ws)->v9 (nX rows)=rows
 |[],_=>rfl
 |ws::r,h=>by obtain⟨J,I⟩:=h ws<|An ..;show v9 ((gl [32] ws++[10])++nX r)=_;rw[Av];show v9 (gl [32] ws++10::nX r)=_;rw[wA (Yu I) (LQ I) J,vF λw hw=>h w<|Ag _ hw]
theorem tH:∀{rows:List<|List<|aab},(∀ws∈rows,GR ws)->(nX rows).length<=11*yD rows+rows.length
 |[],_=>Aj _
 |ws::r,h=>by have I:=tH λw hw=>h w<|Ag ws hw;have J:=iI (h ws<|An ..).2;show((gl [32] ws++[10])++nX r).length<=11*(ws.length+yD r)+(r.length+1);rw[Ab,Ab];show _+1+_<=_;lia
def Yv(a b:List<|List<|aab):nX (a++b)=nX a++nX b:=AD
theorem LS(rows:List<|List<|aab)(h:rows≠[]):gl [10] (rows.map<|gl [32])++[10]=nX rows:=by
 match rows with
 |[]=>exact absurd rfl h
 |[p]=>rw[AI,Cm,cr];show _=(_++[10])++[];rw[AG]
 |p::q::r=>
  have I:=LS (q::r) (by simp);rw[AI,AI,vt,Av,Av];rw[AI] at I;rw[I];show _=(gl [32] p++[10])++nX (q::r);rw[Av]
theorem uD:∀n,_x (bl n)=[]
 |0=>rfl
 |n+1=>by have:=_u []<|bl n;rw[BS] at this;show _x (32::bl n)=[];rw[this,uD n];rfl
theorem uP{w:aab}(h:GW w):∀n,_x (bl n++w)=[w]
 |0=>wds_one h.2.1 h.1
 |n+1=>by have:=_u []<|bl n++w;rw[BS] at this;show _x (32::(bl n++w))=[w];rw[this,uP h n];rfl
def Yw{N w:aab}(h:GW w)(n:Nat):_x (N++bl (n+1)++w)=_x N++[w]:=by rw[Av];show _x (N++32::(bl n++w))=_;rw[_u,uP h]
theorem Yx(N:aab):∀n,_x (N++bl n)=_x N
 |0=>by rw[show bl 0=[] from rfl,AG]
 |n+1=>by show _x (N++32::bl n)=_;rw[_u,uD,AG]
def nM(n:Nat):10∉bl n:=λh=>by have:=List.eq_of_mem_replicate h;lia
def tI(n:Nat):sm " " n=jh (bl n):=by refine str_list ?_;rw[mQ];show((List.replicate n<|(" " : Str).cps.toList).flatten).toArray.toList=_;rw[show((" " : Str).cps.toList)=[32] by decide +kernel];simp
def mC:RD "is_number" kJ 0 ["word"] (λ_=>True):={_,λV B c _ _ _ _ _ _ _ J hN I=>(qa (zf (cg<|bQ<|gY (vG qe<|jG yH (L_ B.ba<|qv 0)<|rL yH<|uJ B.zA3 rfl)<|cz<|w5<|vv rS rfl B.b_all kD<|zn<|a6 ["sign"] (EL (by rfl)) rfl (Kf<|qv 0) (dX 1) (λ_ _ _ _=>aM) λ_ _ _ _=>(dy qo<|fH Go (qv 1)<|fJ Go qo)) (qd<|ql bX) qx)<|qd<|ql<|Tb (ke (iz _ _ _ I) (L_ B.ba<|qv 0) qe<|jy _)<|bB<|ke (JO _ _ _ I) (J_ 0) qo<|jy _)}
def fw(I:jf):RD "number_from" gA 1 ["word"] (λV=>KH V I):={_,λV B c _ _ _ _ _ _ _ J hN U=>(qa (zf (cg<|w5<|C_ c J<|zn<|qv 0) (qd aE) qx)<|qd<|ql<|xr Yn rfl B.b_int uW<|zn<|qv 0)}
def iS(I:jf):RD "shown_knot" hE 1 ["knot","kind","left","right"] (λV=>Fk V I):={_,λV B c _ _ _ _ _ _ _ J hN U=>(qa (zf (gM<|qv 0) (qd<|ql qo) qx)<|qa (zf (w5<|C_ c J<|zn<|qv 0) (qd<|ql<|qk zj (I_ (jK B.zB4 rfl)<|J_ 0)<|J_ 0) qx)<|qa (S_ 1 hN<|J_ 0)<|qa (S_ 2 hN<|J_ 0)<|qa (S_ 3 hN<|J_ 0)<|qd<|ql<|uA<|wm (yj<|qv 1)<|wm qo<|wm (u0<|qv 2)<|wm qo<|wm (u0<|qv 3) zL)}
def dP(I:jf):RD "written_knots" dU 2 ["knots","lines","place","knot","shown"] (λV=>Kz V I):={_,λV B c _ _ _ _ _ _ _ J hN U=>(qa (S_ 1 hN<|zc x5)<|qa (k8 yp rfl (bY rfl B.bg<|qv 0) (af (n:=2) rfl<|zh (G_ 2 hN)<|zh (G_ 3 hN) wo)<|qa (S_ 4 hN<|C_ c J<|zn<|qv 3)<|qd<|qt<|z9 (qv 1)<|zn<|uA<|wm qo<|wm (u0<|qv 2)<|wm qo<|wm (yj<|qv 4)<|wm qo zL)<|qd<|ql<|iW qo<|zn<|qv 1)}
def mI(I:jf):RD "leaf_from" mJ 1 ["word","sign","name"] (λV=>Kj V I):={_,λV B c _ _ _ _ _ _ _ J hN U=>(qa (S_ 1 hN<|J_ 0)<|qa (S_ 2 hN<|jq (fI _ _ _) (qv 0) (jr qe) kc)<|qa (zf (bQ<|i3 (jo (U6 _ _ _) (qv 1) (jK B.zB5 rfl) (by with_unfolding_all rfl))<|eY<|cg<|w5<|C_ c J<|zn<|qv 2) (qd aE) qx)<|qd<|ql<|zo<|vo (I_ (jK B.zB5 rfl)<|qv 1)<|qv 2)}
def l6(J:jf)(I:jf):RD "knot_from" lF 2 ["words"] (λV=>KI V J/\HE V I):={_,λV B c _ _ _ _ _ _ _ U hN g=>(qa (zf (E_ g (qv 0)<|zc<|zn qo) (qd<|ql tf) qx)<|qa (zf (E_ g (L_ B.ba<|qv 0) qe) (qd<|ql<|C_ c.1 U<|zn<|J_ 0) qx)<|qa (zf (bQ<|i3 (N_ g (L_ B.ba<|qv 0) qe)<|eY<|jo (o4 _ _ _) (J_ 0) (jK B.zB6 rfl) (by with_unfolding_all rfl)) (qd aE) qx)<|qd<|ql<|zo<|df (J_ 0) (C_ c.2 U<|zn<|J_ 0)<|C_ c.2 U<|zn<|J_ 0)}
def i7(I:jf)(J:jf):RD "knots_from" gx 3 ["rows","knots","place","row"] (λV=>HE V I/\KJ V J):={_,λV B c _ _ _ _ _ _ _ U hN g=>(qa (S_ 1 hN<|zc x5)<|qa (k8 yp rfl (bY rfl B.bg<|qv 0) (af (n:=2) rfl<|zh (G_ 2 hN)<|zh (G_ 3 hN) wo)<|qa (zf (bQ<|i3 (jo qJ (L_ B.ba<|qv 3) qe<|jy _)<|eY<|N_ g (C_ c.1 U<|zn<|J_ 3)<|qv 2) (qd aE) qx)<|qd<|qt<|z9 (qv 1)<|zn<|C_ c.2 U<|zn<|jq (fI _ _ _) (qv 3) (jr qe) kc)<|qd<|ql<|qv 1)}
def Yy(c:Nat):qE "0" ⟨#[c]⟩=decide (48<=c):=by show(!decide ([c]<[48]))=decide (48<=c);rw[Fl,Ci];simp
def Yz(c:Nat):qE ⟨#[c]⟩ "9" = decide (c<=57):=by show(!decide ([57]<[c]))=decide (c<=57);rw[Fl,Ci];simp
def YA{n:Nat}(h:n<100):((jh<|dg n).length=1\/(jh<|dg n).length=2/\∃c,(jh<|dg n).cps.toList[0]?=some c/\c≠48)/\(jh<|dg n).cps.all (· < 128)=true/\∀c∈(jh<|dg n).cps.toList,48<=c/\c<=57:=by
 rw[mQ,da,<-Array.all_toList,mQ];unfold dg;by_cases c:n<10
 .rw[AC c];refine{.inl rfl,?_,λx I=>?_}
  .simp;lia
  .rw[Ak.mp I];lia
 .rw[Az c];refine{.inr {rfl,_,rfl,by lia},?_,λx I=>?_}
  .simp;lia
  .rcases Aq.mp I with rfl|I
   .lia
   .rw[Ak.mp I];lia
inductive iM(ys:_T)(L:qh)(Q:YK):Prop
 |mk:∀n:Nat,(ys=[.str<|jh<|dg n])->(n<100)->(Q (.bl true) L)->iM ys L Q
def YB:_f iM mC.1 1:=by
 rintro ys L Q ⟨n,rfl,C,q⟩;obtain⟨I,o,hd⟩:=YA C;generalize jh (dg n)=z at I o hd ⊢;have r:1<=z.length/\z.length<=2:=by lia
 have J:z.length<=sizeLine:=AF r.2 (by decide);refine{J,oX (show(1:Int)<=z.length by lia)<|oX (show(z.length:Int)<=4 by lia) {o,?_}};refine aC (λi U=>U=(List.replicate i true).map Y.bl) (by unfold h_;rw[Ac,len_list];exact Bo r.2 (by decide)) trivial rfl ?_ ?_
 .rintro i y U g rfl;unfold h_ at g;rw[Al] at g;obtain⟨c,l,rfl⟩:=Ax.mp g;obtain⟨T,h9⟩:=hd c<|AE l;refine kz (by rw[Yy];exact AA T) {L,EE _,rfl,?_};rw[Yz,AA h9,List.replicate_succ',Ar];rfl
 .rintro U rfl p t;refine{rfl,qc q9<|qj (bJ _) ?_};refine jv (by simp) {J,?_};rcases I with I|⟨I,c,l,hc⟩
  .refine kz (by show decide _=true;exact AA (by lia))<|aB (By t) q
  .refine jv (by show decide _=false;exact Aw (by lia)) {J,qj (jk (j:=0) l) ?_};refine aB (By t) ?_;have:¬(⟨#[c]⟩:Str) = "0" := λe=>hc (by
    have:=BA (λs:Str=>s.cps.toList) e;have e0:("0" : Str).cps.toList=[48]:=by decide +kernel
    simp only[e0] at this;simpa using this)
   show Q (.bl<|!decide _) _;rw[Aw this];exact q
inductive fT(ys:_T)(L:qh)(Q:YK):Prop
 |mk:∀n:Nat,(ys=[.str<|jh<|dg n])->(n<100)->(Q (.int ((n:Nat):Int)) L)->fT ys L Q
def YC{n:Nat}(h:n<100):(jh<|dg n).length<=10:=by rw[da];exact(iy h).2.2.2
def YD:_f fT (fw iM).1 1:=by rintro ys L Q ⟨n,rfl,I,q⟩;exact{n,rfl,I,_,Yo I,AF (YC I) (by decide),jd q}
def js{a b:aab}{n:Nat}{y:Str}{u:Str->ji}{Q:YK}(I:a.length<=n)(e:y=jh b)(J:b.length<=m)(k:(a++b).length<=n+m->u (jh<|a++b) τ L Q)(h:n+m<=30000:=by decide):(jh a++y).length<=sizeLine/\u (jh a++y) τ L Q:=by
 have l:(a++b).length<=n+m:=by rw[Ab];exact Nat.add_le_add I J
 rw[e,eI];exact{by rw[da];exact AF (AF l h) (by decide),k l}
def lg{n:Nat}(h:n<100):((n:Nat):Int).natAbs.log2<1920:=(by decide +kernel:∀n:Fin 100,((n.val:Nat):Int).natAbs.log2<1920) {(n),h}
def HR:(" " : Str)=jh [32]:=by decide +kernel
def vO:("\n" : Str)=jh [10]:=by decide +kernel
inductive tW(ys:_T)(L:qh)(Q:YK):Prop
 |mk:∀k:HT,(ys=[i0 k])->(y_ k)->(Q (.str<|jh<|gl [32]<|mM k) L)->tW ys L Q
def LU(e:Bool):(kN e).cps.toList.length<=10:=(LM e).2.2.2
def YE:_f tW (iS ky).1 4:=by
 rintro ys L Q ⟨k,rfl,I,q⟩
 match k,I with
 |none,_=>
  have e:jh (gl [32]<|mM none) = "gone" := by decide +kernel
  rw[e] at q;exact jd q
 |some (.lf t n),I=>
  have e:jh (gl [32]<|mM<|some<|.lf t n)=jh [yf t]++n:=by rw[show mM (some<|.lf t n)=[yf t::n.cps.toList] from rfl,cr,<-vn n,eI,mQ];rfl
  rw[e] at q;have r:=I.2.1;refine{true,t,_,rfl,?_};cases t with|false=>exact{AF (m:=9) (by show 1+n.length<=9;lia) (by decide),jd q}|true=>exact{AF (m:=9) (by show 1+n.length<=9;lia) (by decide),jd q}
 |some (.nd e i j),⟨J,U⟩=>
  have g:=LU e;have l:=(iy J).2.2.2;have o:=(iy U).2.2.2;have p:gl [32] (mM<|some<|.nd e i j)=[]++(kN e).cps.toList++[32]++dg i++[32]++dg j:=by show gl [32] [(kN e).cps.toList,dg i,dg j]=_;rw[vt,vt,cr];simp
  rw[p] at q;refine{false,e,_,rfl,{by rw[<-len_list];exact AF g (by decide),js (Aj 0) (vn _).symm g λh=>js h HR (Aj 1) λh=>{lg J,js h (bP J) l λh=>js h HR (Aj 1) λh=>{lg U,js h (bP U) o λh=>{?_,jd q}}}}};rw[da];exact AF h (by decide)
def LV(p:Nat)(k:HT):gl [32] (fu p k)=("knot " : Str).cps.toList++dg p++[32]++gl [32] (mM k):=by
 have e:("knot " : Str).cps.toList=("knot" : Str).cps.toList++[32]:=by decide +kernel
 rw[e];unfold fu;have:=(zF k).2;cases h:mM k with|nil=>exact absurd h this|cons w r=>rw[vt,vt];simp
def LW(h:(wq wd)[i]?=some y):∃k,wd[i]?=some k/\y=i0 k:=by rw[Al] at h;obtain⟨k,e,r⟩:=Ax.mp h;exact{(k),e,r.symm}
def Fp(ws:List<|aab):Str:=jh<|gl [32] ws++[10]
def YF(rows:List<|List<|aab):Txt.join "" (rows.map Fp)=jh (nX rows):=by refine str_list ?_;rw[iY,mQ,List.flatMap_map];unfold nX Fp;congr 1
def YG(rows:List<|List<|aab):((rows.map Fp).map (·.length)).sum=(nX rows).length:=by unfold nX;rw[List.length_flatMap,BI];congr 1
inductive tQ(ys:_T)(L:qh)(Q:YK):Prop
 |mk:∀a,∀wd:List (HT),(ys=[.ref a])->(L a=some (.lst<|wq wd))->((∀k∈wd,y_ k))->(wd.length<=96)->(Q (.str<|jh<|nX<|vg 0 wd) L)->tQ ys L Q
def YH:_f tQ (dP tW).1 5:=by
 rintro ys L Q ⟨a,J,rfl,T,hk,hl,q⟩;have big:=a_;intro l I;refine jb (By I _ _ T) λkeep kp=>vk {λi j o=>∃r t C,j=[some<|.ref a,some<|.ref l,r,t,C]/\o=qg L l (.lst<|((vg 0<|J.take i).map Fp).map Y.str),{_,_,_,rfl,rfl},?_,?_,?_}
 .rintro i j o ⟨r,t,C,rfl,rfl⟩;exact kp _<|(qb<|v4 T I).trans (qb<|v4 T I).symm
 .rintro i y j o ey ⟨r,t,C,rfl,rfl⟩;obtain⟨z,ez,rfl⟩:=a7 ey;obtain⟨k,ek,rfl⟩:=LW ez;have hi:i<J.length:=(AJ.mp ek).1;have g:=hk k<|AE ek;have h1:(gl [32]<|mM k).length<=33:=by have:=iI<|LN g;have:=(zF k).1;lia
  have U:i<100:=by lia
  refine{k,rfl,g,?_};have lt:(List.take i J).length=i:=Cb<|Bi hi;refine qi q9 (js (Aj 0) (vn _).symm (show _<=5 by decide +kernel) λh=>{lg U,js h (bP U) (iy U).2.2.2 λh=>js h HR (Aj 1) λh=>{by rw[da];exact AF h1 (by decide),js h rfl h1 λh=>js h vO (Aj 1) λh=>{?_,?_}}})
  .rw[da];exact AF h (by decide)
  .refine qi q9 {by rw[Ac,Ac,xi,lt];exact big _ (by lia),?_};refine{_,EE _,_,_,_,rfl,?_};rw[jc,AW,ek];show _=qg L l (.lst<|((vg 0<|J.take i++[k]).map Fp).map Y.str);rw[gQ,Ar,Ar,B1,lt];show _=qg L l (.lst<|_++[Y.str<|jh<|gl [32] (fu i k)++[10]]);rw[LV];rfl
 .rintro j o ⟨r,t,C,rfl,rfl⟩;rw[we,Ac,AZ];refine qi q9 {(vg 0 J).map Fp,rfl,?_,aB (By I) ?_}
  .rw[YG];have h1:=tH<|nq (p:=0) (by lia) hk;have h2:=tF J 0;have h3:=xi J 0;have h0:("" : Str).length=0:=rfl;rw[h0];lia
  .rw[YF];exact q
def nN:RD "words_in" o9 0 ["line"] (λ_=>True):={_,λV B c _ _ _ _ _ _ _ J hN I=>(qd<|ql<|a6 ["word"] (EL (by rfl)) rfl (xc<|pq (qv 0)<|zn qo) (dX 1) (λ_ _ _ _=>eV<|N_ I (qv 1) qo) λ_ _ _ _=>(qv 1))}
def re(I:jf):RD "rows_in" sQ 1 ["text","rows"] (λV=>KC V I):={_,λV B c _ _ _ _ _ _ _ J hN U=>(qa (gf ["line"] (i:=1) hN rfl (Or.inl rfl) (EL (by rfl)) rfl (xc<|pq (qv 0)<|zn qo) (dX 2) (λ_ _ _ _=>aM) λ_ _ _ _=>(C_ c J<|zn<|qv 2))<|qd<|ql<|a6 ["row"] (EL (by rfl)) rfl (xc<|qv 1) (dX 2) (λ_ _ _ _=>eV<|N_ U (qv 2)<|zc x5) λ_ _ _ _=>(qv 2))}
def gi:RD "rows_ahead" gj 0 ["rows","word","count"] (λ_=>True):={_,λV B c _ _ _ _ _ _ _ J hN I=>(qa (S_ 2 hN qe)<|qa (cU yp (bQ<|gY (jo qJ (qv 2) (L_ B.ba<|qv 0)<|jy _)<|cz<|E_ I (I_ (I_ (qv 0)<|qv 2) qe)<|qv 1)<|qd<|Tf (i:=2) hN rfl (Or.inl rfl) qe Tz)<|qd<|ql<|jq (fI _ _ _) (qv 0) kc<|jr<|qv 2)}
def fV(ws:List<|aab):_T:=(ws.map jh).map Y.str
def fY(ws:List<|aab):(fV ws).length=ws.length:=by unfold fV;rw[Ac,Ac]
def pV{w:aab}(h:ws[i]?=some w):fS (fV ws) (i:Int)=some (.str<|jh w):=xp (f:=Y.str) (by rw[Al,h];rfl)
theorem uH{L:qh}:∀ws:List (aab),Paired (j9 L 0) (fV ws)<|ws.map λw=>Da.s<|.str<|jh w
 |[]=>.nil
 |w::r=>.cons (EN _)<|uH r
def YI(c:Nat)(l:aab):Txt.slice (jh<|c::l) (some 1) none=jh l:=by refine str_list ?_;rw[fg,mQ,mQ,da,show(some (1:Int))=some ((1:Nat):Int) from rfl,SZ,_d,Ap,BL (by lia)];show l.take _=l;exact AM (by lia)
inductive iQ(ys:_T)(L:qh)(Q:YK):Prop
 |mk:∀t:Bool,∀n:Str,(ys=[.str<|jh<|yf t::n.cps.toList])->(aJ n)->(Q (.tup [.str<|kL t,.str n]) L)->iQ ys L Q
def YJ:_f iQ (mI dI).1 3:=by
 rintro ys L Q ⟨t,n,rfl,I,q⟩;have U:=I.2.1;have J:(jh<|yf t::n.cps.toList).length<=sizeLine:=by rw[da,Ap,len_list];exact AF (m:=9) (by lia) (by decide)
 refine{J,qj (v:=yf t) (jk (j:=0) (by rw[mQ];rfl)) {J,?_}};rw[YI,vn];have look:([("+","plain"),("-","turned")]:List<|Str×Str).lookup ⟨#[yf t]⟩=some (kL t):=by cases t<;>decide +kernel
 refine jv (by show(!(List.lookup _ _).isSome)=false;rw[look];rfl) {n,rfl,yW I,by lia,?_};rw[Wi I];exact qj look<|jd q
inductive iA(ys:_T)(L:qh)(Q:YK):Prop
 |mk:∀a,∀k:HT,(ys=[.ref a])->(L a=some (.lst<|fV<|mM k))->(y_ k)->(Q (i0 k) L)->iA ys L Q
theorem YL:_f iA (l6 iQ fT).1 1:=by
 rintro ys L Q ⟨a,k,rfl,I,J,q⟩;intro p U;have s:=By (o:=.lst [Y.str "gone"]) U;refine a9 (n:=0) (m:=0) (by decide) (s _ _ I) q9 (uH _) (.cons (EN _) .nil) ?_;have I:=s _ _ I;generalize qg L p (.lst [Y.str "gone"])=r at s I ⊢
 match k,J with
 |none,_=>
  refine kz ?_<|aB s q;show Da.eqs [Da.s<|.str<|jh ("gone" : Str).cps.toList] [Da.s<|.str "gone"]=true;rw[vn];simp[Da.eqs,Da.eq,gb]
 |some (.lf t n),J=>
  refine jv ?_ ?_
  .have:¬jh (yf t::n.cps.toList) = "gone" := λe=>by
    have e:=BA (λs:Str=>s.cps.toList[0]?) e;simp only[mQ] at e;have g:("gone" : Str).cps.toList[0]?=some 103:=by decide +kernel
    rw[g] at e;cases t<;>simp[yf] at e
   show Da.eqs [Da.s<|.str<|jh<|yf t::n.cps.toList] [Da.s<|.str "gone"]=false;simp[Da.eqs,Da.eq,gb,this]
  .refine qc I ?_;exact qc I<|qj (pV (i:=0) rfl) {t,n,rfl,J,aB s q}
 |some (.nd e i j),J=>
  refine jv ?_ ?_
  .show Da.eqs [Da.s<|.str<|jh (kN e).cps.toList,Da.s<|.str<|jh<|dg i,Da.s<|.str<|jh<|dg j] [Da.s<|.str "gone"]=false;simp[Da.eqs]
  .have l:fV (mM<|some<|.nd e i j)=[.str<|kN e,.str<|jh<|dg i,.str<|jh<|dg j]:=by show [Y.str<|jh (kN e).cps.toList,Y.str<|jh<|dg i,Y.str<|jh<|dg j]=_;rw[vn]
   rw[l] at I;refine qc I ?_;refine qc I ?_;refine qc I {by rfl,by rfl,?_};refine jv (b:=nb true<|xK (V.str<|kN e) [.str "both",.str "either"]) (by cases e<;>decide +kernel) ?_;exact qc I<|qc I {i,rfl,J.1,qc I {j,rfl,J.2,aB s q}}
abbrev p_(L:qh)(r:Addr)(ws:List<|aab):Prop:=L r=some (.lst<|fV ws)
inductive f8(ys:_T)(L:qh)(Q:YK):Prop
 |mk:∀a,∀rs:List Addr,∀wd:List (HT),(ys=[.ref a])->(L a=some (.lst<|rs.map Y.ref))->(Paired (p_ L) rs<|vg 0 wd)->((∀k∈wd,y_ k))->(wd.length<=96)->(∀w,L w=none->Q (.ref w) (qg L w<|.lst<|wq wd))->f8 ys L Q
def YM:_f f8 (i7 fT iA).1 4:=by
 rintro ys L Q ⟨a,rs,J,rfl,ha,pr,hk,hl,q⟩;have big:=a_;have rl:rs.length=J.length:=(EK pr).trans<|xi J 0;intro l I;refine jb (By I _ _ ha) λkeep kp=>vk {λi j t=>∃C T,j=[some<|.ref a,some<|.ref l,C,T]/\t=qg L l (.lst<|wq<|J.take i),{_,_,rfl,rfl},?_,?_,?_}
 .rintro i j t ⟨C,T,rfl,rfl⟩;exact kp _<|(qb<|v4 ha I).trans (qb<|v4 ha I).symm
 .rintro i y j t ey ⟨C,T,rfl,rfl⟩;obtain⟨z,ez,rfl⟩:=a7 ey;rw[Al] at ez;obtain⟨r,er,rfl⟩:=Ax.mp ez;have hi:i<J.length:=rl▸(AJ.mp er).1;have ek:=Ah hi;generalize J[i]=k at ek;have a0:=hk k<|AE ek;have g:=EJ pr er<|ny (p:=0) ek;rw[B1] at g;have g:L r=some (.lst<|fV<|fu i k):=g;have U:=(qb (o:=.lst<|wq<|J.take i)<|v4 g I).trans g;refine qc U ?_;refine qc U<|qj (pV (i:=1) rfl) {i,rfl,by lia,?_};refine jv (b:=nb true<|decide<|(i:Int)=i) (by rw[AA rfl];rfl) ?_;refine qi q9<|qi U λp hp=>{p,k,rfl,?_,a0,?_}
  .rw[q9,show(some (2:Int))=some ((2:Nat):Int) from rfl,jT];rfl
  .refine qi ((qb<|v4 q9 hp).trans q9) {by rw[Ac];exact big _ (by rw[AS];lia),qg L l<|.lst<|wq<|J.take<|i+1,?_,_,_,rfl,rfl};have e:wq (J.take i)++[i0 k]=wq (J.take<|i+1):=by rw[AW,ek,oY];rfl
   rw[e];exact EZ (λb o h=>by
    by_cases c:b=l
    .subst c;rw[I] at h;cases h
    .rw[qb c];exact By hp _ _<|(qb c).trans h) q9
 .rintro j t ⟨C,T,rfl,rfl⟩;rw[we,Ac,rl,AZ];exact jd<|q l I
def o6(y:Str):Txt.split y "\n" = (_i 10 y.cps.toList).map jh:=by
 have h:=_Q y 10 (by decide);rw[show("\n" : Str)=⟨#[10]⟩ by decide +kernel,<-h,BI]
 conv=>lhs;rw[<-List.map_id (Txt.split y ⟨#[10]⟩)]
 exact Dz λa _=>(vn a).symm
theorem sw(c:Nat):∀l:aab,(_i c l).length<=l.length+1
 |[]=>Aj _
 |d::r=>by
  have J:=sw c r;by_cases e:d=c
  .rw[_k e,Ap,Ap];lia
  .obtain⟨h,t,I⟩:=_o c r;rw[_y e I,Ap,Ap];rw[I,Ap] at J;lia
inductive dD(ys:_T)(L:qh)(Q:YK):Prop
 |mk:∀z:Str,(ys=[.str z])->(z.length<=100000)->(∀p,L p=none->Q (.ref p) (qg L p<|.lst<|fV<|_x z.cps.toList))->dD ys L Q
def yS:_f dD nN.1 1:=by
 rintro ys L Q ⟨z,rfl,o,q⟩;refine{by decide +kernel,o,λp g=>jb q9 λkeep r=>?_};refine J0 FQ ?_ (r _ rfl) ?_ λj U=>?_
 .rw[o7,Ac,Ac];have:=sw 32 z.cps.toList;rw[len_list] at this;exact Bo (show _<=100001 by lia) (by decide)
 .intro i y W t l I;rw[Al] at l;obtain⟨s,C,rfl⟩:=Ax.mp l;have I:W (t++(if s = "" then none else some (Y.str s)).toList) _:=I;by_cases h:s = ""
  .rw[AC h] at I;refine jv (by show(!decide (s = ""))=false;rw[AA h];rfl) {_,EE _,?_};rw[Option.toList_none,AG] at I;exact I
  .rw[Az h] at I;exact kz (by show(!decide (s = ""))=true;rw[Aw h];rfl) {_,EE _,I}
 .rw[o7,Wh];have J:L j=none:=V6 (By g) U;exact aB (EZ ((By g).upd J) q9)<|q j J
inductive fM(ys:_T)(L:qh)(Q:YK):Prop
 |mk:∀z:Str,(ys=[.str z])->(z.length<=100000)->(∀p rs L',qf L L'->L' p=some (.lst<|rs.map Y.ref)->Paired (p_ L') rs (v9 z.cps.toList)->Q (.ref p) L')->fM ys L Q
def YN:_f fM (re dD).1 2:=by
 rintro ys L Q ⟨z,rfl,hz,q⟩;have len:((Txt.split z "\n").map Y.str).length<sizeLine:=by rw[o6,Ac,Ac];have:=sw 10 z.cps.toList;rw[len_list] at this;exact Bo (show _<=100001 by lia) (by decide)
 refine{by decide +kernel,hz,λp hp=>bZ hp λL1 s1 g1=>?_};refine jb g1 λkeep kp=>se {len,λi U C=>∃o:List Addr,U=o.map Y.ref/\qf L1 C/\Paired (p_ C) o (((_i 10 z.cps.toList).take i).map _x),{[],rfl,EE _,.nil},?_,?_,?_}
 .rintro i U C ⟨o,_,s,_⟩;exact kp C<|(s _ _ g1).trans g1.symm
 .rintro i y U C g ⟨o,rfl,s,j⟩;rw[o6,Al,Al] at g;cases el:(_i 10 z.cps.toList)[i]? with
  |none=>rw[el] at g;cases g
  |some l=>
   rw[el] at g;cases g;have hl:=(tG _ _ _<|AE el).2;rw[len_list] at hl;refine{jh l,rfl,by rw[da];lia,λp2 h2=>?_};rw[mQ];refine bZ h2 λL2 s2 g2=>{_,EE _,o++[p2],by rw[Ar];rfl,s.trans s2,?_};rw[AW,el,Ar];exact bU (EH j λb t T=>s2 _ _ T) g2
 .rintro U C ⟨o,rfl,s,j⟩ p3 h3;have a0:(o.map Y.ref).length<sizeLine:=by rw[Ac,EK j,Ac];refine Bo (List.length_take_le _ _) len
  rw[show((Txt.split z "\n").map Y.str).length=(_i 10 z.cps.toList).length by rw[o6,Ac,Ac],AZ] at j;refine bZ h3 λL3 s3 g3=>?_;replace j:=EH j λb t T=>s3 _ _ T;refine jb g3 λa1 a2=>aC (λi U=>∃I:List Addr,U=I.map Y.ref/\Paired (p_ L3) I ((((_i 10 z.cps.toList).map _x).take i).filter λr=>!r.isEmpty)) a0 (a2 _ rfl) {[],rfl,.nil} ?_ ?_
  .rintro i y U g ⟨I,rfl,J⟩;rw[Al] at g;obtain⟨r,er,rfl⟩:=Ax.mp g;obtain⟨ws,ew,hr⟩:=Paired.getP j er;have hr:L3 r=some (.lst<|fV ws):=hr;intro p4 h4;refine a9 (n:=0) (m:=0) (by decide) (By h4 _ _ hr) q9 (uH ws) (.nil:Paired (j9 _ 0) _ []) ?_;rw[AW,ew,BW];cases ws with
   |nil=>
    refine jv rfl {L3,By h4,rfl,I,rfl,?_};show Paired _ I (_++[]);rw[AG];exact J
   |cons w r'=>exact kz rfl {L3,By h4,rfl,I++[r],by rw[Ar];rfl,bU J hr}
  .rintro U ⟨I,rfl,J⟩ p5 h5;rw[Ac,EK j,AZ] at J;refine bZ h5 λL5 s5 g5=>?_;exact jd<|q p5 I L5 (((s1.trans s).trans s3).trans s5) g5<|EH J λb t T=>s5 _ _ T
inductive f7(ys:_T)(L:qh)(Q:YK):Prop
 |mk:∀a,∀rs:List Addr,∀wd:List (HT),∀R:Ru,(ys=[.ref a,.str "knot"])->(L a=some (.lst<|rs.map Y.ref))->(Paired (p_ L) rs<|xh wd R)->(∀p,L p=none->Q (.ref p) (qg L p<|.lst<|(rs.take wd.length).map Y.ref))->f7 ys L Q
def YO{k:HT}(h:wd[i]?=some k):(xh wd R)[i]?=some (fu i k):=by have I:i<wd.length:=(AJ.mp h).1;unfold xh;rw[AH (by rw[xi];exact I),ny h,B1]
def pL(wd:List<|HT)(R:Ru):(xh wd R)[wd.length]?=some (("tree" : Str).cps.toList::rW R):=by unfold xh;rw[AK (by rw[xi];exact Aj _),xi,CO];rfl
def YP:_f f7 gi.1 3:=by
 rintro ys L Q ⟨a,g,I,R,rfl,l,o,q⟩;have rl:g.length=I.length+1:=(EK o).trans<|fU I R;refine{λm C J=>J=L/\∃c:Nat,C=[some<|.ref a,some<|.str "knot",some<|.int (c:Int)]/\c<=I.length/\m=I.length-c,{_,rfl,0,rfl,Bb _,rfl},?_};rintro m C J ⟨rfl,c,rfl,hc,rfl⟩;have j:=Ah (show c<g.length by lia);generalize g[c]'_=r at j;refine qc l ?_;refine oX (show(c:Int)<(((g.map Y.ref).length:Nat):Int) by rw[Ac];lia) ?_;refine qc l<|qj (xp j) ?_;by_cases h:c<I.length
 .have t:J r=some (.lst<|fV<|fu c I[c]):=EJ (F:=p_ J) o j<|YO<|Ah h;refine qc t<|qj (pV (i:=0) rfl) ?_;refine{λU L2=>L2=J/\U=[some<|.ref a,some<|.str "knot",some<|.int ((c+1:Nat):Int)],?_,_,EE _,rfl,rfl};rintro U L2 ⟨rfl,rfl⟩;exact{_,by lia,rfl,c+1,rfl,h,rfl}
 .have T:c=I.length:=by lia
  subst T;have t:J r=some (.lst<|fV<|("tree" : Str).cps.toList::rW R):=EJ (F:=p_ J) o j<|pL I R;refine qc t<|qj (pV (i:=0) rfl) ?_;refine qi l λp hp=>?_;rw[TQ,<-List.map_take];exact jd<|q p hp
def ut(I:Addr)(J:jf)(p1:jf)(p2:jf):fe:=(x4 (gK (yB<|aZ JW (qw 1)<|yC nV) tM cI)
 (x4 (km (oJ I "take" J<|qw 0)<|qz 2)
 (x4 (gK (LJ jj<|qw 2) tM cI)
 (x4 (km (pI<|mS<|qw 2)<|qz 3)
 (x4 (Ff (ph<|zb (yi jj<|qw 2) vj) (qz 4)<|dN<|tL wb (qw 3)<|zb (vh p1<|zb (oJ I "take" J<|qw 0) vj) vj)
 (x4 (Ff (ph<|zb (yi xw<|qw 2) vj) (qz 4)<|dN<|tL wb (qw 3)<|zb (vh p2<|zb (qw 0)<|zb (aZ yu (qw 1)<|dS 1) vj) vj)
 (oO<|u_ yq<|mS<|qw 3)))))))
def jE(I:Addr)(J:jf)(p1:jf)(p2:jf):fe:=(x4 (km (Ht I J<|mS<|qw 0)<|qz 1)
 (x4 (km (vh p1<|zD (qw 1)<|dS 1)<|qz 2)
 (x4 (km (oJ I "take" p2<|qw 1)<|qz 3)
 (x4 (gK (HK (qw 3)<|i_ "") tM cI)
 (oO<|qw 2)))))
def mF(j:jf)(U:jf)(I:jf)(g:jf)(J:jf):RD "read_tree" lC 125 ["text","rows","knot_rows","tree_rows","tree"] (λV=>KE V j/\KG V U/\KO V I/\KL V g/\Ky V J):={_,λV B c _ _ _ _ _ _ _ l hN o=>(qa (S_ 1 hN<|C_ c.1 l<|zn<|qv 0)<|qa (S_ 2 hN<|C_ c.2.1 l<|vo (qv 1) qo)<|qa (S_ 3 hN<|jq (fI _ _ _) (qv 1) (jr<|L_ B.ba<|qv 2) kc)<|qa (zf (bQ<|i3 (N_ o (L_ B.ba<|qv 3) qe)<|eY<|N_ o (I_ (J_ 3) qe) qo) (qd aE) qx)<|qa (S_ 4 hN<|zo<|vo (C_ c.2.2.2.1 l<|zn<|qv 2)<|C_ c.2.2.1 l<|zn<|jq (fI _ _ _) (J_ 3) (jr qe) kc)<|qa (qt<|C_ c.2.2.2.2 l<|zn<|qv 4)<|qd<|ql<|qv 4)}
def sR(ts:aac)(i:Nat)(ws:List<|aab):Prop:=∀j w,ws[j]?=some w->ts[i+j]?=some (jh w)
def sR.left{ts:aac}{u v:List<|aab}(h:sR ts i<|u++v):sR ts i u:=λj w e=>h j w (by rw[AH (AJ.mp e).1];exact e)
def sR.right{ts:aac}{u v:List<|aab}(h:sR ts i<|u++v):sR ts (i+u.length) v:=λj w e=>by rw[B3];exact h _ w (by rw[AK<|Bd _ _,Bh];exact e)
def LX{a tl:Addr}{ts:aac}{Q:YK}(I:L a=some (.ins C<|c_ tl i))(J:L tl=some (.lst<|ts.map Y.str))(e:ts[i]?=some x)(q:Q (.str x)<|qg L a<|.ins C<|c_ tl<|i+1):fN C [.ref a] L Q:=
 ⟨a,tl,ts,i,rfl,I,J,(λz=>by rw[Br<|DC z.symm] at e;cases e),λ_=>{(x),e,q}⟩
def LY(R:Ru):jj.lookup (mV R)=some ((ar R).length:Int):=by cases R with|link=>exact(by decide +kernel:jj.lookup ("link" : Str)=some 2)|ei=>exact(by decide +kernel:jj.lookup ("either" : Str)=some 1)|bo=>exact(by decide +kernel:jj.lookup ("both" : Str)=some 1)|cu=>exact(by decide +kernel:jj.lookup ("cut" : Str)=some 2)
def YQ(R:Ru):xw.lookup (mV R)=some ((qy R).length:Int):=by cases R with|link=>exact(by decide +kernel:xw.lookup ("link" : Str)=some 0)|ei=>exact(by decide +kernel:xw.lookup ("either" : Str)=some 1)|bo=>exact(by decide +kernel:xw.lookup ("both" : Str)=some 2)|cu=>exact(by decide +kernel:xw.lookup ("cut" : Str)=some 2)
def mn(R:Ru):qr R=.tup (.str (mV R)::(nY (ar R)++(qy R).map qr)):=by cases R<;>rfl
def vL(R:Ru):(qy R).length<=2:=by cases R<;>simp[qy]
def gy{a:Addr}{x I y:LO}(h:a≠l):qg (qg (qg L a x) l y) a I=qg (qg L a I) l y:=by rw[Ui<|AL h,jc]
inductive cG(C:Addr)(n:Nat)(ys:_T)(L:qh)(Q:YK):Prop
 |mk:∀a tl,∀ts:aac,∀i:Nat,∀R:Ru,∀d:Int,(ys=[.ref a,.int d])->(L a=some (.ins C<|c_ tl i))->(L tl=some (.lst<|ts.map Y.str))->(sR ts i<|rW R)->(zx R<=n)->(d+zx R<=151)->(RuS R)->(Q (qr R)<|qg L a<|.ins C<|c_ tl<|i+(rW R).length)->cG C n ys L Q
def YR :∀ys L Q,¬cG C 0 ys L Q:=by rintro ys L Q ⟨a,I,ts,i,R,d,_,_,_,_,h,_⟩;have:=fK R;lia
def YS(n:Nat):_f (cG C (n+1)) (ut C (fN C) fT<|cG C n) 5:=by
 rintro ys L Q ⟨a,r,ts,i,R,d,rfl,ha,t,sb,hd,a3,hs,q⟩;have big:=a_;have r1:=fK R;have p2:=sV R;have a2:=vL R;rw[mo] at sb;have s1:sR ts i ((mV R).cps.toList::(ar R).map dg):=sb.left;have s2:=sb.right;have ol:(oW R).length=(ar R).length+1:=BA (· + 1)<|Ac ..;rw[ol] at s2;have e0:=s1 0 _ rfl;rw[vn] at e0;have T:r≠a:=SA t ha (by intro z;cases z);refine SF (show ¬(d > 150) by lia) ?_;refine wz ha {rfl,sW _ _,LX ha t e0 ?_};refine qj (LY R) ?_;intro l hl;have a0:L l=none:=j8 hl;have I:a≠l:=v4 q9 hl;have a1:r≠l:=v4 t a0;refine qj (LY R) {{by lia,by lia},?_};rw[BF];refine jB (λm J U=>∃g,J=[some<|.ref a,some<|.int d,some<|.str<|mV R,some<|.ref l,g]/\U=qg (qg L a<|.ins C<|c_ r<|i+1+m) l (.lst<|.str (mV R)::nY ((ar R).take m))) {_,rfl,rfl} ?_ ?_
 .rintro m J U j ⟨g,rfl,rfl⟩;have o:=Ah j;have hp:=hs.self _<|BX j;generalize (ar R)[m]=p at o hp;have e1:=s1 (m+1) (dg p) (by rw[Cv,Al,o];rfl);rw[CA m 1,<-B3] at e1;refine qi q9<|wz ((qb I).trans q9) {rfl,sW _ _,LX ((qb I).trans q9) ((qb a1).trans<|(qb T).trans t) e1 {p,rfl,hp,?_}};rw[gy I];refine qi q9 {by show((nY<|(ar R).take m).length+1)<sizeLine;unfold nY;rw[Ac,AS];exact big _ (by lia),?_};refine{_,EE _,_,rfl,?_};rw[jc,AW,o];unfold nY;rw[Ar];rfl
 .rintro J U ⟨g,rfl,rfl⟩;rw[AZ];refine qj (YQ R) {{by lia,by lia},?_};rw[BF];refine jB (λm J U=>∃g,J=[some<|.ref a,some<|.int d,some<|.str<|mV R,some<|.ref l,g]/\U=qg (qg L a<|.ins C<|c_ r<|i+((ar R).length+1)+(((qy R).take m).flatMap rW).length) l (.lst<|.str (mV R)::(nY (ar R)++((qy R).take m).map qr))) {_,rfl,?_} ?_ ?_
  .rw[CH,Cm,AG,CA (ar R).length 1,<-B3];rfl
  .rintro m J U j ⟨g,rfl,rfl⟩;have o:=Ah j;have mA:=BX j;generalize (qy R)[m]=A at o mA;have dA:=wa mA;have et:(qy R).take (m+1)=(qy R).take m++[A]:=by rw[AW,o];rfl
   have sA:sR ts (i+((ar R).length+1)+(((qy R).take m).flatMap rW).length) (rW A):=by
    have h:=s2;rw[<-AU m (qy R),AD] at h;have h:=h.right;rw[BK j,Bc] at h;have e3:(qy R)[m]=A:=by have:=Ah j;rw[o] at this;exact(A1 this).symm
    rw[e3] at h;exact h.left
   refine qi q9 {a,r,ts,_,A,d+1,rfl,(qb I).trans q9,(qb a1).trans<|(qb T).trans t,sA,by lia,by lia,hs.arm mA,?_};rw[gy I];refine qi q9 {by show((nY (ar R)++((qy R).take m).map qr).length+1)<sizeLine;unfold nY;rw[Ab,Ac,Ac,AS];exact big _ (by lia),?_};refine{_,EE _,_,rfl,?_};rw[jc,et,AD,Cc,Ab,Ar,<-Av,B3<|i+((ar R).length+1)];rfl
  .rintro J U ⟨g,rfl,rfl⟩;rw[AZ];refine qi q9 ?_;show dH Q (.tup<|.str (mV R)::(nY (ar R)++(qy R).map qr)) _;rw[<-mn];rw[mo,Ab,ol,<-B3] at q;exact aB (By<|(qb<|AL I).trans a0) q
inductive gn(ys:_T)(L:qh)(Q:YK):Prop
 |mk:∀tl,∀R:Ru,(ys=[.ref tl])->(L tl=some (.lst<|fV<|rW R))->(zx R<=96)->(RuS R)->(Q (qr R) L)->gn ys L Q
def YT :_f gn (jE C (mW C) (cG C 120)<|fN C) 4:=by rintro ys L Q ⟨I,R,rfl,J,hd,g,q⟩;intro x U;refine{x,I,rfl,q9,rfl,?_};rw[jc];have nt:I≠x:=v4 J U;refine{x,I,(rW R).map jh,0,R,1,rfl,q9,(qb nt).trans J,λj w e=>by rw[B1,Al,e];rfl,by lia,by lia,g,?_};rw[jc,B1];refine wz q9 {rfl,sW _ _,x,I,(rW R).map jh,(rW R).length,rfl,q9,(qb nt).trans J,λ_=>aB (By U) q,λz=>absurd (Ac ..).symm z}
theorem Paired.takeP{α β:Type}{F:α->β->Prop}:∀{xs:List α} {ys:List β} (n:Nat),Paired F xs ys->Paired F (xs.take n) (ys.take n)
 |_,_,0,_=>.nil
 |_,_,_+1,.nil=>.nil
 |_,_,n+1,.cons h t=>.cons h<|Paired.takeP n t
inductive ie(ys:_T)(L:qh)(Q:YK):Prop
 |mk:∀z:Str,∀ks:Pi,∀R:Ru,∀E:aab,(ys=[.str z])->(z.length<=100000)->(v9 z.cps.toList=xh (ak ks<|qm R) R)->(gU ks R E)->(TxO (ak ks<|qm R) R)->(∀w L',qf L L'->L' w=some (.lst<|wq<|ak ks<|qm R)->Q (.tup [.ref w,qr R]) L')->ie ys L Q
theorem YU:_f ie (mF fM f7 gn f8 mw).1 5:=by
 rintro ys L Q ⟨z,ks,R,E,rfl,hz,er,T,X,q⟩;refine{z,rfl,hz,λp g r s1 g1 j=>?_};rw[er] at j;generalize C:ak ks (qm R)=I at X q j;have rl:g.length=I.length+1:=(EK j).trans<|fU I R;refine{p,g,I,R,rfl,g1,j,λkr a0=>bZ a0 λL2 l g2=>?_};have lt:((g.take I.length).map Y.ref).length=I.length:=by rw[Ac,AS];lia
 refine qc g2<|qi (l _ _ g1) λtr a1=>?_;rw[lt,jT,<-List.map_drop];have J:=Ah (show I.length<g.length by lia);generalize g[I.length]'_=rt at J;have a2:r rt=some (.lst<|fV<|("tree" : Str).cps.toList::rW R):=EJ (F:=p_ r) j J<|pL I R;have ed:g.drop I.length=[rt]:=by rw[BK (by lia),C3 (by lia)];rw[Ah (by lia)] at J;rw[A1 J]
 rw[ed];refine bZ a1 λL3 o g3=>?_;have U:=o _ _<|l _ _ a2;refine qc g3<|qc g3<|qc U<|qj (pV (i:=0) rfl) ?_;refine{kr,g.take I.length,I,rfl,o _ _ g2,?_,X.ks,X.len,λw hw=>bZ hw λL4 s4 g4=>?_}
 .have a3:=EH j λb t (hb:p_ r b t)=>(show p_ L3 b t from o _ _<|l _ _ hb);have:=Paired.takeP I.length a3;rw[show(xh I R).take I.length=vg 0 I by unfold xh;rw[Cz (by rw[xi];exact Aj _),AM (by rw[xi];exact Aj _)]] at this;exact this
 refine qc (s4 _ _ g3)<|qi (s4 _ _ U) λow a4=>bZ a4 λL5 s5 g5=>?_;refine{ow,R,rfl,?_,X.dep,X.ru,?_}
 .rw[g5,show(some (1:Int))=some ((1:Nat):Int) from rfl,jT];rfl
 .subst C;exact{w,ks,R,E,rfl,s5 _ _ g4,T,jd<|q w L5 ((((s1.trans l).trans o).trans s4).trans s5)<|s5 _ _ g4}
def iO(J:jf)(I:jf):RD "shown_rule" hU 122 ["rule","words","inner"] (λV=>HA V J/\Hz V I):={_,λV B c _ _ _ _ _ _ _ U hN g=>(qa (S_ 1 hN<|zc x5)<|qa (k8 yp rfl (xc<|C_ c.1 U<|zn<|qv 0) (G_ 2 hN)<|qa (qt<|z9 (qv 1)<|zn<|J_ 2)<|qd<|qt<|wx (qv 1)<|zn<|a6 ["place"] (EL (by rfl)) rfl (xc<|C_ c.2 U<|zn<|qv 2) (dX 3) (λ_ _ _ _=>aM) λ_ _ _ _=>(xr gN rfl B.be bp<|zn<|qv 3))<|qd<|ql<|iW qo<|zn<|qv 1)}
def eh(J:jf)(I:jf):RD "written_tree" fG 123 ["tree","shown"] (λV=>KN V J/\KA V I):={_,λV B c _ _ _ _ _ _ _ U hN g=>(qa (S_ 1 hN<|C_ c.1 U<|zn<|J_ 0)<|qd<|ql<|qk zj (C_ c.2 U<|zn<|J_ 0)<|uA<|wm qo<|wm (yj<|qv 1)<|wm qo zL)}
def iB:RD "_law_lines" i5 0 ["_law_knots","_law_lines_here","_law_p","_law_knot","_law_sign","_law_parts"] (λ_=>True):={_,λV B c _ _ _ _ _ _ _ J hN I=>(qa (S_ 1 hN<|zc x5)<|qa (k8 yp rfl (bY rfl B.bg<|qv 0) (af (n:=2) rfl<|zh (G_ 2 hN)<|zh (G_ 3 hN) wo)<|qd<|zf (gM<|qv 3) (qd<|qt<|z9 (qv 1)<|zn<|qk zj (qk zj qo<|xr gN rfl B.be bp<|zn<|qv 2) qo)<|qd<|zf (E_ I (L_ B.ba<|qv 3) qe) (qa (S_ 4 hN<|TM [ ("plain" ,"+") ,("turned" ,"-") ] (cM aQ aQ<|cM aQ aQ IZ) rfl rfl (List.cons_ne_nil _ _) (Cg rfl) (J_ 3) (TK (TF _)<|TH _) λ_ _=>rfl)<|qd<|qt<|z9 (qv 1)<|zn<|qk zj (qk zj (qk zj (qk zj qo<|xr gN rfl B.be bp<|zn<|qv 2) qo)<|qv 4)<|J_ 3)<|qa (S_ 5 hN<|qk zj (qk zj (xr gN rfl B.be bp<|zn<|J_ 3) qo)<|xr gN rfl B.be bp<|zn<|J_ 3)<|qd<|qt<|z9 (qv 1)<|zn<|qk zj (qk zj (qk zj (qk zj (qk zj qo<|xr gN rfl B.be bp<|zn<|qv 2) qo)<|J_ 3) qo)<|qv 5)<|qd<|ql<|qv 1)}
def qf.bth{a:Addr}{o:LO}(s:qf L L'):qf (qg L a o) (qg L' a o):=λb u e=>by
 by_cases c:b=a
 .subst c;rw[q9] at e ⊢;exact e
 .rw[qb c] at e ⊢;exact s _ _ e
def oH(z:Str)(ls:List<|aab):Txt.join z (ls.map jh)=jh (gl z.cps.toList ls):=by
 refine str_list ?_;rw[mQ];show(Builtin.Str.glued z<|ls.map jh).cps.toList=_;rw[glued_list,BI];congr 1
 conv=>rhs;rw[<-List.map_id ls]
 exact Dz λl _=>mQ l
theorem sg:∀{ws:List<|aab} {M:Nat},(∀w∈ws,w.length<=M)->((ws.map jh).map (·.length)).sum<=M*ws.length
 |[],_,_=>Bb _
 |w::r,M,h=>by have J:=h w<|An ..;have U:=sg λv I=>h v<|Ag _ I;show(jh w).length+((r.map jh).map (·.length)).sum<=M*(r.length+1);rw[da,Nat.mul_succ];lia
def m8:((" " : Str).cps.toList)=[32]:=by decide +kernel
inductive uY(ys:_T)(L:qh)(Q:YK):Prop
 |mk:∀R:Ru,(ys=[qr R])->(aG R<=96)->(zx R<=96)->(RuS R)->(Q (.str<|jh<|gl [32]<|rW R) L)->uY ys L Q
def nG(a b:List<|aab):fV (a++b)=fV a++fV b:=by unfold fV;rw[Ar,Ar]
def YV:_f uY (iO (wv 120) gq).1 3:=by
 rintro ys L Q ⟨R,rfl,hz,hd,hs,q⟩;have big:=a_;intro l hl;refine{R,rfl,by lia,by lia,λp hp=>?_};have I:l≠p:=v4 q9 hp;have t:L p=none:=j8 hp;have rl:=aX R;refine jb q9 λkeep kp=>vk {λi J U=>∃g,J=[some<|qr R,some<|.ref l,g]/\U=qg (qg L l<|.lst<|fV<|((jx R).take i).flatMap oW) p (.lst<|(jx R).map qr),{_,rfl,rfl},?_,?_,?_}
 .rintro i J U ⟨g,rfl,rfl⟩;exact kp _<|q9.trans q9.symm
 .rintro i y J U r ⟨g,rfl,rfl⟩;rw[Al] at r;obtain⟨A,C,rfl⟩:=Ax.mp r;have hi:i<(jx R).length:=(AJ.mp C).1;have pA:=hs A<|AE C;have lo:=xO<|(jx R).take i;rw[AS] at lo;have lp:=sV A;have et:(jx R).take (i+1)=(jx R).take i++[A]:=by rw[AW,C];rfl
  rw[mn];have gX:qg (qg L l<|.lst<|fV<|((jx R).take i).flatMap oW) p (.lst<|(jx R).map qr) l=some (.lst<|fV<|((jx R).take i).flatMap oW):=(qb I).trans q9;refine qi gX<|qj (v:=Y.str<|mV A) (jk (j:=0) rfl) ?_;refine qi gX {by rw[fY];exact big _ (by lia),?_};rw[gy I];refine qi ((qb I).trans q9) {A,by rw[mn A],λp2 h2=>bZ h2 λL2 s2 g2=>?_};refine jb g2 λT a0=>aC (λj zs=>zs=fV (((ar A).take j).map dg)) (by unfold nY;rw[Ac];exact big _ (by lia)) (a0 _ rfl) rfl ?_ ?_
  .rintro j y zs r rfl;obtain⟨x,ex,rfl⟩:=cj r;have hx:=pA x<|AE ex;refine{lg hx,L2,EE _,rfl,?_};rw[bP hx,AW,ex,Ar,nG];rfl
  .rintro zs rfl p3 h3;rw[show(nY<|ar A).length=(ar A).length from Ac ..,AZ];refine bZ h3 λL3 s3 g3=>?_;have a1:=s3 _ _<|s2 _ _<|(qb (L:=qg L l<|.lst<|fV (((jx R).take i).flatMap oW)++[Y.str<|mV A]) (o:=.lst<|(jx R).map qr) I).trans q9;refine qi a1 (qi g3 {by rw[Ab,fY,fY,Ac];exact Bi (big _ (by simp only[Ap,BR];lia)),?_});refine{_,qf.bth<|s2.trans s3,_,rfl,?_};rw[gy I,et,AD,Cc,nG,Av];have:fV (oW A)=[Y.str<|mV A]++fV ((ar A).map dg):=by show Y.str (jh (mV A).cps.toList)::fV ((ar A).map dg)=_;rw[vn];rfl
   rw[this]
 .rintro J U ⟨g,rfl,rfl⟩;rw[Ac,AZ];refine qi ((qb I).trans q9) {(rW R).map jh,rfl,?_,aB ((By hl).trans<|By<|(qb<|AL I).trans t) ?_}
  .have h1:=sg λw hw=>(LP hs w hw).2.2.2;have h2:=uI R;have h0:(" " : Str).length=1:=by decide +kernel
   rw[h0,Ac];lia
  .rw[oH,m8];exact q
def LZ(R:Ru):rW R≠[]:=by rw[mo];simp[oW]
def YW(R:Ru):nX [("tree" : Str).cps.toList::rW R]=("tree " : Str).cps.toList++gl [32] (rW R)++[10]:=by
 have e:("tree " : Str).cps.toList=("tree" : Str).cps.toList++[32]:=by decide +kernel
 rw[e];show(gl [32] (_::rW R)++[10])++[]=_;rw[AG];cases h:rW R with|nil=>exact absurd h (LZ R)|cons w r=>rw[vt];simp
def TxO.tlen(T:TxO wd R):(nX<|xh wd R).length<=9000:=by have I:=tH T.gr;have J:=T.n;have U:=fU wd R;have g:=T.len;lia
inductive uB(ys:_T)(L:qh)(Q:YK):Prop
 |mk:∀a,∀wd:List (HT),∀R:Ru,(ys=[.tup [.ref a,qr R]])->(L a=some (.lst<|wq wd))->(TxO wd R)->(Q (.str<|jh<|nX<|xh wd R) L)->uB ys L Q
def YX:_f uB (eh uY tQ).1 2:=by
 rintro ys L Q ⟨a,U,R,rfl,g,T,q⟩;have I:=T.tlen;unfold xh at I q;rw[Yv,YW] at I q;simp only[Ab] at I;have J:(gl [32]<|rW R).length<=9000:=by lia
 refine{R,rfl,T.sz,T.dep,T.ru,{a,U,rfl,g,T.ks,T.len,js (Aj 0) (vn _).symm (show _<=5 by decide +kernel) λh=>{by rw[da];exact AF J (by decide),js h rfl J λh=>js h vO (Aj 1) λh=>{?_,?_,?_}}}}
 .rw[da];exact AF h (by decide)
 .rw[da,da];exact AF (m:=20000) (by lia) (by decide)
 .rw[eI];exact jd q
def mU{n:Nat}(h:n<=30000):n<=sizeLine:=AF h (by decide)
def yk(ws:List<|aab):Str:=jh<|gl [32] ws
inductive fh(ys:_T)(L:qh)(Q:YK):Prop
 |mk:∀a,∀wd:List (HT),(ys=[.ref a])->(L a=some (.lst<|wq wd))->((∀k∈wd,y_ k))->(wd.length<=96)->(∀p,L p=none->Q (.ref p) (qg L p<|.lst<|((vg 0 wd).map yk).map Y.str))->fh ys L Q
def YY:_f fh iB.1 6:=by
 rintro ys L Q ⟨a,p,rfl,ha,hk,hl,q⟩;have big:=a_;intro l g;refine jb (By g _ _ ha) λkeep kp=>vk {λi r C=>∃T c3 j o,r=[some<|.ref a,some<|.ref l,T,c3,j,o]/\C=qg L l (.lst<|((vg 0<|p.take i).map yk).map Y.str),{_,_,_,_,rfl,rfl},?_,?_,?_}
 .rintro i r C ⟨T,c3,j,o,rfl,rfl⟩;exact kp _<|(qb<|v4 ha g).trans (qb<|v4 ha g).symm
 .rintro i y r C ey ⟨T,c3,j,o,rfl,rfl⟩;obtain⟨z,ez,rfl⟩:=a7 ey;obtain⟨k,ek,rfl⟩:=LW ez;have hi:i<p.length:=(AJ.mp ek).1;have J:=hk k<|AE ek;have lt:(List.take i p).length=i:=Cb<|Bi hi;have I:∀j o,jD (λr C=>∃T c3 j o,r=[some<|.ref a,some<|.ref l,T,c3,j,o]/\C=qg L l (.lst<|((vg 0<|p.take<|i+1).map yk).map Y.str)) [some<|.ref a,some<|.ref l,some<|.int (i:Int),some<|i0 k,j,o] (qg (qg L l<|.lst<|((vg 0<|p.take i).map yk).map Y.str) l<|.lst<|((vg 0<|p.take i).map yk).map Y.str++[Y.str<|jh<|("knot " : Str).cps.toList++dg i++[32]++gl [32] (mM k)]):=λj o=>by refine{_,EE _,_,_,_,_,rfl,?_};rw[jc,AW,ek];show _=qg L l (.lst<|((vg 0<|p.take i++[k]).map yk).map Y.str);rw[gQ,Ar,Ar,B1,lt];show _=qg L l (.lst<|_++[Y.str<|jh<|gl [32]<|fu i k]);rw[LV]
  have ll:(((vg 0<|p.take i).map yk).map Y.str).length<sizeLine:=by rw[Ac,Ac,xi,lt];exact big _ (by lia)
  have U:i<100:=by lia
  have lk:("knot " : Str).length=5:=by decide +kernel
  have l1:(" " : Str).length=1:=by decide +kernel
  have lS:∀{x:Nat},x<100->(Str.ofString<|toString ((x:Nat):Int)).length<=10:=λh=>by rw[bP h,da];exact(iy h).2.2.2
  have li:=lS U
  match k,J,I with
  |none,_,I=>
   have l5:(" gone" : Str).length=5:=by decide +kernel
   have e:("knot " : Str)++Str.ofString (toString ((i:Nat):Int)) ++ " gone" = jh (("knot " : Str).cps.toList++dg i++[32]++gl [32] (mM none)):=str_list (by rw[io,io,mQ,bP U,mQ,show(" gone" : Str).cps.toList=[32]++gl [32] (mM none) by decide +kernel];simp only[Av])
   refine qi q9 {lg U,?_,?_,qi q9 {ll,e▸I _ _}}<;>exact mU (by (try simp only[Str.length_append]);lia)
  |some (.lf t n),J,I=>
   have l8:=J.2.1;have e2:([("plain","+"),("turned","-")]:List<|Str×Str).lookup (kL t)=some (jh [yf t]):=by cases t<;>decide +kernel
   have e:("knot " : Str)++Str.ofString (toString ((i:Nat):Int)) ++ " " ++ jh [yf t]++n=jh (("knot " : Str).cps.toList++dg i++[32]++gl [32] (mM<|some<|.lf t n)):=str_list (by rw[show mM (some<|.lf t n)=[[yf t]++n.cps.toList] from rfl,cr,bP U];simp only[io,mQ,m8,Av])
   have l9:(jh [yf t]).length=1:=da _;refine qj e2 (qi q9 {lg U,?_,?_,?_,?_,qi q9 {ll,e▸I _ _}})<;>exact mU (by (try simp only[Str.length_append]);lia)
  |some (.nd e x y),J,I=>
   have k1:(kN e).length<=10:=by rw[<-len_list];exact LU e
   have d1:=lS J.1;have d2:=lS J.2;have e:("knot " : Str)++Str.ofString (toString ((i:Nat):Int)) ++ " " ++ kN e ++ " " ++ (Str.ofString (toString ((x:Nat):Int)) ++ " " ++ Str.ofString (toString ((y:Nat):Int)))=jh (("knot " : Str).cps.toList++dg i++[32]++gl [32] (mM<|some<|.nd e x y)):=str_list (by rw[show mM (some<|.nd e x y)=[(kN e).cps.toList,dg x,dg y] from rfl,vt,vt,cr,bP U,bP J.1,bP J.2];simp only[io,mQ,m8,Av])
   refine{lg J.1,?_,lg J.2,?_,qi q9 {lg U,?_,?_,?_,?_,?_,qi q9 {ll,e▸I _ _}}}<;>exact mU (by (try simp only[Str.length_append]);lia)
 .rintro r C ⟨T,c3,j,o,rfl,rfl⟩;rw[we,Ac,AZ];exact jd<|q l g
def bW(I:jf):RD "_law_rule_words" bS 1 ["_law_rule","_law_words","_law_stack","_law_one","_law_arms_here"] (λV=>Gu V I):={_,λV B c _ _ _ _ _ _ _ J hN U=>(qa (yh (i:=1) (j:=2) rfl hN rfl rfl (by decide) rfl rfl (vo (zc<|zn qo)<|zc<|zn<|qv 0) rfl)<|qa (cU yp (N_ U (qv 2)<|zc x5)<|qa (S_ 3 hN<|yN<|qv 2)<|qa (S_ 4 hN<|C_ c J<|zn<|qv 3)<|qa (qt<|z9 (qv 1)<|zn<|J_ 3)<|qa (qt<|wx (qv 1)<|zn<|a6 ["_law_p"] (EL (by rfl)) rfl (yg<|jq (rN _ _ _) (qv 3) (jr qe)<|jr<|qk cX (L_ B.ba<|qv 3)<|L_ B.ba<|qv 4) (dX 5) (λ_ _ _ _=>aM) λ_ _ _ _=>(xr gN rfl B.be bp<|zn<|qv 5))<|qd<|qt<|wx (qv 2)<|zn<|xL rfl rfl B.bh rfl B.b_reversed<|zn<|qv 4)<|qd<|ql<|qv 1)}
@[elab_as_elim] theorem Ma {a b:Addr} {o u:LO} {motive:qh->Prop} (h:L0 a=none) (s:qf L0 L) (n:b≠a) (g:L b=some u) (k:∀L',qf L0 L'->L' a=some o->L' b=some u->motive L'):motive (qg L a o):=k _ (s.upd h) q9<|(qb n).trans g
@[elab_as_elim] theorem Mb {a b c:Addr} {o u v:LO} {motive:qh->Prop} (h:L0 a=none) (s:qf L0 L) (n:b≠a) (g:L b=some u) (I:c≠a) (g2:L c=some v) (k:∀L',qf L0 L'->L' a=some o->L' b=some u->L' c=some v->motive L'):motive (qg L a o):=k _ (s.upd h) q9 ((qb n).trans g)<|(qb I).trans g2
def YZ(A:Ru):gR (Y.str (mV A)::(nY (ar A)++(qy A).map qr)) (some 1) (some<|(((Y.str (mV A)::(nY (ar A)++(qy A).map qr)).length:Nat):Int)-((((qy A).map qr).length:Nat):Int))=nY (ar A):=by cases A<;>rfl
def Y0(A:Ru)(k:aah):¬(KM (Y.str (mV A)::(nY (ar A)++(qy A).map qr)).length 0 (some 1)=0/\KM (Y.str (mV A)::(nY (ar A)++(qy A).map qr)).length (Y.str (mV A)::(nY (ar A)++(qy A).map qr)).length k=(Y.str (mV A)::(nY (ar A)++(qy A).map qr)).length):=by rintro⟨h,_⟩;rw[show(some (1:Int))=some ((1:Nat):Int) from rfl,SZ,Ap,BL<|BZ _] at h;cases h
theorem zS:∀l:aay,l.length<=(l.flatMap rW).length
 |[]=>Aj _
 |A::r=>by have:=zS r;have h:0<(rW A).length:=DB.mpr<|LZ A;rw[Bc,Ab,Ap];lia
def y8(A:Ru):((qy A).map aG).sum<aG A:=by cases A<;>simp[qy,aG]<;>lia
inductive uC(ys:_T)(L:qh)(Q:YK):Prop
 |mk:∀R:Ru,(ys=[qr R])->(aG R<=96)->(zx R<=96)->(RuS R)->(∀p,L p=none->Q (.ref p) (qg L p<|.lst<|fV<|("tree" : Str).cps.toList::rW R))->uC ys L Q
def Y1:_f uC (bW dk).1 5:=by
 rintro ys L Q ⟨R,rfl,hz,hd,hs,q⟩;have big:=a_;have lR:=uI R;intro o l sa T;have g:o≠sa:=v4 q9 T;have r:L sa=none:=j8 T;refine{λm τ t=>∃(U:List<|aab) (st:aay) (c3 c4:Option Y),τ=[some<|qr R,some<|.ref o,some<|.ref sa,c3,c4]/\qf L t/\t o=some (.lst<|fV<|("tree" : Str).cps.toList::U)/\t sa=some (.lst<|st.map qr)/\U++st.reverse.flatMap rW=rW R/\(∀A∈st,zx A<=96/\RuS A)/\m=(st.map aG).sum,
  ⟨_,[],[R],_,_,rfl,(By l).trans<|By T,(qb g).trans (q9.trans (by show _=some (LO.lst [Y.str<|jh ("tree" : Str).cps.toList]);rw[vn])),q9,by simp,λA hA=>by rw[Ak.mp hA];exact{(hd),hs},rfl⟩,?_}
 rintro m τ t ⟨U,st,c3,c4,rfl,s,I,J,eU,a0,rfl⟩;intro p hp;refine a9 (n:=120) (m:=0) (by decide) (By hp _ _ J) q9 (bL λA hA=>AF (a0 A hA).1 (by decide)) (.nil:Paired (j9 _ 0) _ []) ?_;refine bZ hp λL2 s2 _=>?_;replace s:=s.trans s2;replace I:=s2 _ _ I;replace J:=s2 _ _ J;show wg (!(Da.eqs (st.map bN) [])) _ _;rw[iU];have lU:=BA List.length eU;rw[Ab] at lU;rcases Df st with rfl|⟨fq,A,rfl⟩
 .refine jv rfl ?_;have e:U=rW R:=by simpa using eU
  rw[e] at I;exact aB (EZ s I)<|q o l
 .rw[Dg] at *;rw[Aw (by simp)];refine kz rfl {λa2 t=>∃m',m'<((fq++[A]).map aG).sum/\∃(U:List<|aab) (st:aay) (c3 c4:Option Y),a2=[some<|qr R,some<|.ref o,some<|.ref sa,c3,c4]/\qf L t/\t o=some (.lst<|fV<|("tree" : Str).cps.toList::U)/\t sa=some (.lst<|st.map qr)/\U++st.reverse.flatMap rW=rW R/\(∀A∈st,zx A<=96/\RuS A)/\m'=(st.map aG).sum,λ_ _ h=>h,?_};obtain⟨dA,sA⟩:=a0 A (by simp);rw[Ar] at J;refine xZ J<|Ma r s g I λL3 s J I=>?_;refine{A,rfl,λpa ha=>?_};have a1:o≠pa:=v4 I ha;have a4:sa≠pa:=v4 J ha;refine bZ ha λL4 s4 C=>?_;replace s:=s.trans s4;replace I:=s4 _ _ I;replace J:=s4 _ _ J;have pA:=sA.self;have pl:=sV A;have al:=vL A;rw[B8,AD] at eU lU;have a3:U++(rW A++fq.reverse.flatMap rW)=rW R:=by simpa using eU
  have lst:=zS fq.reverse;rw[BQ] at lst;rw[Ab] at lU;have hW:fV (("tree" : Str).cps.toList::(U++oW A))=fV (("tree" : Str).cps.toList::U)++[Y.str<|mV A]++fV ((ar A).map dg):=by rw[<-DW,nG,Av];show _++(Y.str (jh (mV A).cps.toList)::fV ((ar A).map dg))=_;rw[vn];rfl
  rw[mn A];refine qi I<|qj (v:=Y.str<|mV A) (jk (j:=0) rfl) ?_;refine qi I {by rw[fY,Ap];exact big _ (by lia),Mb l s (AL g) J (AL a1) C λL5 s I J C=>?_};refine qi I<|qc C {Y0 A _,?_};rw[YZ];refine aC (keep:=λ_=>True) (λj zs=>zs=fV (((ar A).take j).map dg)) (by unfold nY;rw[Ac];exact big _ (by lia)) trivial rfl ?_ ?_
  .rintro j y zs ey rfl;obtain⟨x,ex,rfl⟩:=cj ey;have hx:=pA x<|AE ex;refine{lg hx,L5,EE _,rfl,?_};rw[bP hx,AW,ex,Ar,nG];rfl
  .rintro zs rfl p3 h3;rw[show(nY<|ar A).length=(ar A).length from Ac ..,AZ];have n3:o≠p3:=v4 I h3;refine bZ h3 λL6 s6 g6=>?_;replace s:=s.trans s6;replace I:=s6 _ _ I;replace J:=s6 _ _ J;replace C:=s6 _ _ C;refine qi I (qi g6 {by rw[Ab,fY,fY,Ac];exact Bi (big _ (by simp only[Ap,BR];lia)),Mb l s (AL g) J (AL a1) C λL7 s I J C=>?_});rw[<-hW] at I;refine qi J<|qi C λp8 h8=>?_;refine bZ h8 λL8 s8 g8=>?_;replace s:=s.trans s8;replace I:=s8 _ _ I;replace J:=s8 _ _ J;refine qi J (qi g8 {by rw[Ac,BQ,Ac];exact Bi<|big _ (by lia),Ma r s g I λL9 s J I=>?_});refine{_,EE _,((fq++(qy A).reverse).map aG).sum,?_,U++oW A,fq++(qy A).reverse,_,_,rfl,s,I,?_,?_,?_,rfl}
   .have:=y8 A;simp only[Ar,Du,DY,List.sum_reverse,AI,Cm,List.sum_cons,List.sum_nil];lia
   .rw[J,Ar,DY]
   .rw[<-a3,mo A,B8,Dp,AD];simp only[Av]
   .intro B hB;rcases Ao.mp hB with hB|hB
    .exact a0 B<|Ay _ hB
    .have mB:=List.mem_reverse.mp hB;have:=wa mB;exact{by lia,sA.arm mB}
def hZ(I:jf):RD "_law_loose" gv 1 ["_law_lines_here","_law_cells","_law_text","_law_j","_law_line","_law_number","_law_w","_law_word_here"] (λV=>HF V I):={_,λV B c _ _ _ _ _ _ _ J hN U=>(qa (S_ 2 hN qo)<|qa (k8 yp rfl (bY rfl B.bg<|qv 0) (af (n:=2) rfl<|zh (G_ 3 hN)<|zh (G_ 4 hN) wo)<|qa (S_ 5 hN<|C_ c J<|df (I_ (qk zj (qv 1)<|zc<|zn qe)<|qk jn (qv 3)<|qk zj (L_ B.ba<|qv 1) qe) (qv 3) qe)<|wn (zf (E_ U (qk jn (qv 5) qe) qe) (qd<|S_ 2 hN<|qk zj (qk zj (qv 2)<|qk uO qo<|qk jn (qk vm (qv 5) qe) qe) qo) qx)<|qa (S_ 2 hN<|qk zj (qv 2)<|qk uO qo<|qk jn (qk vm (qv 5) qe) qe)<|qa (k8 yp rfl (bY rfl B.bg<|pq (qv 4)<|zn qo) (af (n:=2) rfl<|zh (G_ 6 hN)<|zh (G_ 7 hN) wo)<|wn (zf (jo zQ (qv 6) qe<|jy _) (qd<|S_ 2 hN<|qk zj (qv 2)<|qk uO qo<|qk zj qe<|qk jn (qk zj (qk vm (qv 5) qe)<|qk kR (qv 6)<|qv 6) qe) qx)<|qd<|S_ 2 hN<|qk zj (qv 2)<|qv 7)<|qd<|S_ 2 hN<|qk zj (qk zj (qv 2)<|qk uO qo<|qk jn (qk vm (qv 5) qe) qe) qo)<|qd<|ql<|qv 2)}
def m3(x:Int):0<=x % 3/\x % 3<=1000/\(x % 3).toNat<=2:=by omega
def GB:(" " : Str).length<=100:=by decide +kernel
structure LoT(rows:List<|List<|aab)(T:aab):Prop where
 on:∀X,v9 (T++X)=rows++v9 X
def LoT.blank{rows:List<|List<|aab}{T:aab}(h:LoT rows T)(n:Nat):LoT rows (T++bl n++[10]):={λX=>by rw[Av,Av,h.on];show _++v9 (bl n++10::X)=_;rw[Ys (nM n)<|uD n]}
def LoT.row{rows:List<|List<|aab}{T N:aab}(h:LoT rows T)(I:10∉N)(e:_x N=ws)(J:ws≠[])(n:Nat):LoT (rows++[ws]) (T++N++bl n++[10]):={λX=>by
 have U:T++N++bl n++[10]++X=T++((N++bl n)++10::X):=by simp
 have g:10∉N++bl n:=λz=>(Ao.mp z).elim I<|nM n;rw[U,h.on,wA g ((Yx N n).trans e) J];simp}
structure LoN(ws:List<|aab)(j:Nat)(N:aab):Prop where
 no:10∉N
 w:_x N=ws.take j
 z:j=0->∃b,N=bl b
def LoN.start(ws:List<|aab)(b:Nat):LoN ws 0 (bl b):={nM b,(uD b).trans CH.symm,λ_=>{(b),rfl}}
def LoN.next{N w:aab}(h:LoN ws j N)(e:ws[j]?=some w)(g:GW w)(n:Nat)(I:0<n\/j=0):LoN ws (j+1) (N++bl n++w):=by
 refine{λz=>?_,?_,λz=>absurd z<|Nat.succ_ne_zero _}
 .rcases Ao.mp z with z|z
  .exact(Ao.mp z).elim h.no (nM n)
  .exact g.2.2.1 z
 .rw[AW,e];show _=ws.take j++[w];cases n with
  |succ n=>rw[Yw g,h.w]
  |zero=>
   have J:j=0:=by rcases I with h|h;cases h;exact h
   subst J;obtain⟨b,rfl⟩:=h.z rfl;rw[show bl 0=[] from rfl,AG,uP g];rfl
inductive ij(ys:_T)(L:qh)(Q:YK):Prop
 |mk:∀a c,∀rows:List (List<|aab),∀ns:aaf,(ys=[.ref a,.ref c])->(L a=some (.lst<|(rows.map yk).map Y.str))->(L c=some (.lst<|ns.map Y.int))->(ns.length<=1000)->(rows.length<=97)->(yD rows<=800)->((∀ws∈rows,GR ws))->(∀T,v9 T=rows->T.length<=20000->(rows≠[]->∃T',T=T'++[10])->Q (.str<|jh T) L)->ij ys L Q
theorem Y2:_f ij (hZ jN).1 8:=by
 rintro ys L Q ⟨a,c,rows,p,rfl,ha,hc,hn,hr,hw,hg,q⟩;have big:=a_;have mono:∀i,yD (rows.take i)<=800:=λi=>by have:=mf (rows.take i)<|rows.drop i;rw[AU] at this;lia
 refine jb ha λkeep kp=>vk {λi C U=>U=L/\∃T c3 c4 c5 c6 c7,C=[some<|.ref a,some<|.ref c,some<|.str<|jh T,c3,c4,c5,c6,c7]/\LoT (rows.take i) T/\T.length<=10*i+13*yD (rows.take i)/\(0<i->∃T',T=T'++[10]),{rfl,[],_,_,_,_,_,rfl,{λX=>rfl},Bb _,λh=>absurd h<|CT _},?_,?_,?_}
 .rintro i C U ⟨rfl,_⟩;exact kp _ rfl
 .rintro i y C U ey ⟨rfl,T,c3,c4,c5,c6,c7,rfl,lo,lT,_⟩;obtain⟨z,r,rfl⟩:=a7 ey;rw[Al,Al] at r;cases ew:rows[i]? with
  |none=>rw[ew] at r;cases r
  |some I=>
   rw[ew] at r;cases r;have hi:i<rows.length:=(AJ.mp ew).1;obtain⟨w0,gw⟩:=hg I<|AE ew;have et:rows.take (i+1)=rows.take i++[I]:=by rw[AW,ew];rfl
   have en:yD (rows.take<|i+1)=yD (rows.take i)+I.length:=by rw[et,mf];show _+(I.length+0)=_;rfl
   have m1:=mono<|i+1;intro p7 h7;have s7:=By (o:=.lst [Y.int 7]) h7;refine{p.map Y.int,[Y.int 7],s7 _ _ hc,q9,by rw[Ac];exact Bi (big _ (by show p.length+1<=20000;lia)),λp8 h8=>?_};have s8:=s7.trans<|By (o:=.lst<|p.map Y.int++[Y.int 7]) h8;have g8:qg (qg U p7<|.lst [Y.int 7]) p8 (.lst<|p.map Y.int++[Y.int 7]) p8=some (.lst<|(p++[7]).map Y.int):=by rw[q9,Ar];rfl
   generalize qg (qg U p7<|.lst [Y.int 7]) p8 (.lst<|p.map Y.int++[Y.int 7])=L8 at s8 g8 ⊢;obtain⟨k,v,ek,lk,ev⟩:=jF (l:=p++[7]) (by simp) (i:Int);refine qc (s8 _ _ hc) {by show(0:Int)<(((p.map Y.int).length:Nat):Int)+1;lia,qc g8<|qj (v:=Y.int v) ?_ ?_}
   .have e9:(((p.map Y.int).length:Nat):Int)+1=(((p++[7]).length:Nat):Int):=by rw[Ac,Ab];rfl
    show fS _ ((i:Int) % ((((p.map Y.int).length:Nat):Int)+1))=_;rw[e9,ek];exact xp ev
   refine{v,(i:Int),16807,rfl,by lia,by lia,by decide,by decide,λn _ _=>?_};refine{λJ L2=>L2=L8/\∃T1,J=[some<|.ref a,some<|.ref c,some<|.str<|jh T1,some<|.int (i:Int),some<|.str<|yk I,some<|.int n,c6,c7]/\LoT (rows.take i) T1/\T1.length<=T.length+3,{(show(0:Int)<4 by decide),mv (λ_=>?_) λ_=>{rfl,T,rfl,lo,by lia}},?_}
   .obtain⟨b0,b1,b2⟩:=m3<|n / 4;refine{{by decide,by decide},(show(0:Int)<3 by decide),{(b0),b1,GB},?_};rw[tI];generalize (n / 4 % 3).toNat=b at b2;refine{by rw[da,da,A3];exact mU (by lia),?_};rw[eI,vO];refine{by rw[da,da,Ab,A3];exact mU (by simp only[Ap,BR];lia),?_};rw[eI];exact{rfl,_,rfl,lo.blank b,by simp only[Ab,A3,Ap,BR];lia}
   .rintro J L2 ⟨rfl,T1,rfl,lo1,l1⟩;obtain⟨b0,b1,b2⟩:=m3<|n / 12;refine{{by decide,by decide},(show(0:Int)<3 by decide),{(b0),b1,GB},?_};rw[tI];generalize (n / 12 % 3).toNat=b at b2;refine{by rw[da,da,A3];exact mU (by lia),?_};rw[eI];have a4:=iI gw;refine{by decide +kernel,by show(jh _).length<=100000;rw[da];lia,λp9 h9=>?_};have es:(Txt.split (yk I) " ").map Y.str=(I.map jh).map Y.str:=by rw[o7];show((_i 32 (jh<|gl [32] I).cps.toList).map jh).map Y.str=_;rw[mQ,LR w0 gw]
    rw[es];refine bZ h9 λL9 s9 g9=>?_;refine jb g9 λa2 a3=>vk {λj C U=>U=L9/\∃N c6 c7,C=[some<|.ref a,some<|.ref c,some<|.str<|jh<|T1++N,some<|.int (i:Int),some<|.str<|yk I,some<|.int n,c6,c7]/\LoN I j N/\N.length<=2+13*j,{rfl,_,_,_,rfl,LoN.start I b,by rw[A3];lia},?_,?_,?_}
    .rintro j C U ⟨rfl,_⟩;exact a3 _ rfl
    .rintro j y C U ey ⟨rfl,N,c6,c7,rfl,ln,lN⟩;obtain⟨z,r,rfl⟩:=a7 ey;rw[Al,Al] at r;cases t:I[j]? with
     |none=>rw[t] at r;cases r
     |some w=>
      rw[t] at r;cases r;have hj:j<I.length:=(AJ.mp t).1;have g:=gw w<|AE t;have gl:=g.2.2.2;refine{λJ L2=>L2=U/\∃m:Nat,J=[some<|.ref a,some<|.ref c,some<|.str<|jh<|T1++(N++bl m),some<|.int (i:Int),some<|.str<|yk I,some<|.int n,some<|.int (j:Int),some<|.str<|jh w]/\(0<m\/j=0)/\m<=3,jp (λa0=>?_) λa0=>?_,?_}
      .obtain⟨b0,b1,b2⟩:=m3<|n / 36+(j:Int)*(j:Int);refine{{by decide,by decide},.inl {by lia,by lia},(show(0:Int)<3 by decide),{by lia,by lia,GB},?_};have et:(1+(n / 36+(j:Int)*(j:Int)) % 3).toNat=1+((n / 36+(j:Int)*(j:Int)) % 3).toNat:=by lia
       rw[tI,et];generalize ((n / 36+(j:Int)*(j:Int)) % 3).toNat=m at b2;refine{by rw[da,da,Ab,A3];exact mU (by lia),?_};rw[eI,Av];exact{rfl,_,rfl,.inl (by lia),by lia}
      .refine{rfl,0,by rw[show bl 0=[] from rfl,AG];rfl,.inr (by have:¬(0:Int)<(j:Int):=a0;lia),by lia}
      .rintro J L2 ⟨rfl,m,rfl,hm,a5⟩;refine{by rw[da,da,Ab,Ab,A3];exact mU (by lia),?_};rw[eI,Av];exact{_,EE _,rfl,_,_,_,rfl,ln.next t g m hm,by rw[Ab,Ab,A3];lia}
    .rintro J U ⟨rfl,N,c6,c7,rfl,ln,lN⟩;rw[we,Ac,Ac] at ln lN;obtain⟨b0,b1,b2⟩:=m3<|n / 108;refine{{by decide,by decide},(show(0:Int)<3 by decide),{(b0),b1,GB},?_};rw[tI];generalize (n / 108 % 3).toNat=b' at b2;refine{by rw[da,da,Ab,A3];exact mU (by lia),?_};rw[eI,vO];refine{by rw[da,da,Ab,Ab,A3];exact mU (by simp only[Ap,BR];lia),?_};rw[eI];refine{_,s8.trans s9,rfl,_,_,_,_,_,_,rfl,?_,?_,λ_=>{_,rfl}}
     .rw[et];exact lo1.row ln.no (ln.w.trans<|AZ ..) w0 b'
     .rw[en];simp only[Ab,A3,Ap,BR];lia
 .rintro C U ⟨rfl,T,c3,c4,c5,c6,c7,rfl,lo,lT,a1⟩;rw[we,Ac,Ac,AZ] at lo lT;rw[we,Ac,Ac] at a1;have e:=lo.on [];rw[AG] at e;exact jd<|q T (e.trans<|AG _) (by lia) λh=>a1<|DB.mpr h
section
open PySem.W
section
variable {K:Af}(T:K.lookup Pt=some (PySem.W.tabObj #[]))
include T
def xS :clsIn (GM Pt K) C=clsIn K C:=by
 unfold clsIn;by_cases d:C=Pt
 .subst d;rw[ww,T]
 .rw[xa d]
def Y3{b:aak}:mroIn (GM Pt K) C b=mroIn K C b:=by unfold mroIn;rw[xS T]
def Y4{t b:aak}:subIn (GM Pt K) t b=subIn K t b:=by
 unfold subIn;split
 .rfl
 .exact Y3 T
 .rfl
end
section
variable {K:Af}(T:K.lookup Pt=some (PySem.W.tabObj #[]))
include T
def isFn_dn{a:Addr}(e:isFn K (.ref a)=true):isFn (GM Pt K) (.ref a)=true:=by
 unfold isFn at e ⊢;by_cases d:a=Pt
 .subst d;have h:typeIn K (.ref a)=some Value.none:=by show(List.lookup a K).map _=_;rw[T];rfl
  rw[h] at e;cases e
 .have h:typeIn (GM Pt K) (.ref a)=typeIn K (.ref a):=by show(List.lookup a<|GM Pt K).map _=(List.lookup a K).map _;rw[xa d]
  rw[h];exact e
def _D.dn(c:_D K C):_D (GM Pt K) C:=by
 obtain⟨pg,hd,po,sa⟩:=c;unfold plainGet at pg;unfold hasDictIn at hd;unfold plainOver at po;refine{?_,?_,?_,(SL T).trans sa}
 .unfold plainGet;rw[SL T,SL T];exact pg
 .unfold hasDictIn;rw[xS T];exact hd
 .unfold plainOver;rw[xS T];exact po
def makes_dn(e:makesIn K C=true):makesIn (GM Pt K) C=true:=by
 unfold makesIn at e ⊢;by_cases d:C=Pt
 .subst d;rw[T] at e;cases e
 .have h:typeIn (GM Pt K) (.ref C)=typeIn K (.ref C):=by show(List.lookup C<|GM Pt K).map _=(List.lookup C K).map _;rw[xa d]
  have s:∀b,subIn (GM Pt K) b (.type "type")=subIn K b (.type "type"):=λb=>Y4 T;unfold instIn at e ⊢;simp only[xa d,nO T d,h,s];exact e
end
end
def Y5(I:jf)(p1:jf)(p2:jf)(p3:jf)(p4:jf)(p5:jf)(p6:jf)(p7:jf)(p8:jf):fe:=(x4 (km (aZ vZ (aZ u5 (aZ Kb (qw 0)<|pI<|mS<|dS 0)<|dS 0)<|aZ Tv (dS 10)<|dS 9)<|qz 1)
 (x4 (km (vh I<|zb (F_ Gj (qw 0) (F9<|dS 1) mh)<|zD (qw 1)<|dS 80)<|lv 2<|v5 (qz 2)<|v5 (qz 3) gB)
 (rj (gK (w_ (aZ vZ (aZ Hi (qw 1)<|dS 5)<|dS 2)<|dS 1) (x4 (km (vh p1<|zb (qw 3)<|zb (aZ vZ (aZ Tu (qw 1)<|dS 69621)<|dS 2147483647) vj)<|qz 3)
 (x4 (km (aZ u5 (vh p2<|mS<|qw 3)<|dS 2)<|qz 4)
 (km (FF 1 (ph<|mS<|j_ 2) (qz 10) JH<|F8 (yB<|aZ (FT false) (qw 10)<|qw 4) (aZ u5 (qw 2)<|qw 10)<|yC .KF)<|qz 2))) cI)
 (x4 (km (u_ tK<|mS<|qw 2)<|qz 5)
 (x4 (km (aZ yu (vh p3<|mS<|qw 2)<|pI<|zb (FK wK (i_ " ")<|zb (vh p4<|mS<|qw 3) vj) vj)<|qz 6)
 (x4 (km (aZ yu (FK wK (i_ "\n")<|mS<|qw 6)<|i_ "\n")<|qz 7)
 (x4 (km (vh p5<|zb (FP (qw 5)<|qw 3) vj)<|qz 8)
 (x4 (gK (Hd (He<|yB<|Jz .str<|qw 8)<|Hd (HK (qw 8)<|qw 7)<|HK (qw 5)<|qw 2) (oO<|yC<|.bl false) cI)
 (x4 (km (vh p6<|zb (qw 6)<|zb (F_ Gj (qw 0) (F9<|dS 1) mh) vj)<|qz 9)
 (rj (gK (w_ (aZ vZ (aZ Hi (qw 1)<|dS 10)<|dS 2)<|dS 1) (km (F_ Gj (qw 9) mh<|F9<|Ju Jv<|dS 1)<|qz 9) cI)
 (x4 (gK (He<|yB<|vh p7<|zb (vh p8<|mS<|qw 7)<|zb (FP (qw 2)<|qw 3) vj) (oO<|yC<|.bl false) cI)
 (oO<|vh p7<|zb (vh p8<|mS<|qw 9)<|zb (FP (qw 2)<|qw 3) vj))))))))))))
def SR.plt{E:aab}(h:SR ks R E):∀p∈ar R,p<ks.length:=λp I=>by
 have J:=h.lt;cases h with
 |link=>exact J p I
 |@ei r i j A U _ o=>exact J p (by rw[Ak.mp I];exact An ..)
 |@bo r i j A B U t _ o=>exact J p (by rw[Ak.mp I];exact An ..)
 |@cu u v A B U t _ w g l C T=>
  rcases Aq.mp I with rfl|I
  .exact g.lt _<|g.sub _ C
  .rw[Ak.mp I];exact l.lt _<|l.sub _ T
def gU.txo{E:aab}(T:gU ks R E):TxO (ak ks<|qm R) R:=by
 have l:=T.len;have t:=T.small;have o:=aD R;have rd:=xj R;refine{λk U=>?_,by rw[kh];exact l,λA g p I=>?_,by lia,by lia}
 .obtain⟨p,I⟩:=List.mem_iff_getElem?.mp U;cases k with
  |none=>trivial
  |some k=>
   obtain⟨_,J⟩:=fc I;have:=T.ok p k J;have r:=xx J;cases k with
   |lf t n=>exact this
   |nd e i j=>exact{by have:=this.1;lia,by have:=this.2;lia}
 .obtain⟨C,TA⟩:=T.inner g;have:=TA.sr.plt p I;lia
def Y6(l:aab)(c:Nat):Txt.slice (jh<|l++[c]) none (some<|-1)=jh l:=by
 refine str_list ?_;have e:KM (l.length+1) (l.length+1) (some<|-1)=l.length:=by unfold KM;simp;lia
 rw[fg,mQ,mQ,da,_d,Ab];show List.take (KM (l.length+1) (l.length+1) (some<|-1)-0) (List.drop 0<|l++[c])=l;rw[e,Ec,C4,List.take_left]
def vT{a w:Addr}(I:L a=some (.lst<|wq wd))(hw:L w=some (.lst<|wq wd))(J:wd.length<=96)(hd:zx R<=96):oI L 124 (.tup [.ref w,qr R]) (.tup [.ref a,qr R]):=
 .tup (.cons (.inr (.inr ⟨w,a,_,_,rfl,rfl,hw,I,by rw[Ac];lia,t8 (n:=120) wd⟩))<|.cons (cK (by lia)) .nil)
theorem Y7 :_f (my Pt lamQ) (Y5 (ix Pt) f6 nF fh uC uB ij (ax 124) ie) 10:=by
 rintro ys L Q ⟨ns,rfl,bc,hL,q⟩;have hP:L Pt=some (.tb lamQ):=by rw[hL];exact q9
 clear hL;have big:=a_;intro p0 a1;refine qc q9 {rfl,rfl,small (by rw[Ac];show ns.length+1<=1000;lia),λp hp=>?_};obtain⟨c,ec⟩:∃c:Int,fS (ns.map Y.int++[Y.int 0]) 0=some (Y.int c):=by cases ns with|nil=>exact{0,rfl}|cons a r=>exact{a,jk (j:=0) rfl}
 refine qc q9<|qj ec {{by decide,by decide,by decide},(by decide:(0:Int)<10 ^ (9:Int).toNat),?_};show qz 1 (Y.int<|c % (10:Int) ^ (9:Int).toNat) _ _ _;have a2:=((By (o:=.lst [Y.int 0]) a1).trans<|By (o:=.lst<|ns.map Y.int++[Y.int 0]) hp) _ _ hP;generalize c % (10:Int) ^ (9:Int).toNat=s;generalize qg (qg _ p0 _) p _=L1 at a2 ⊢;clear hp a1 ec hP;obtain⟨ms,a3,bd⟩:=Yb ns (some 1) none;intro pm a4;rw[a3];refine{pm,ms,s,80,rfl,q9,by lia,by decide,By a4 _ _ a2,λw I R E hw T tp=>?_};have C:ak I (qm R)=I.map some:=Xy λp hp=>tp.mem_iff.mpr<|Bj.mpr hp;have gw:qg (qg L1 pm<|.lst<|ms.map Y.int) w (.lst<|xz I) w=some (.lst<|xz I):=q9;generalize qg (qg L1 pm<|.lst<|ms.map Y.int) w (.lst<|xz I)=L2 at gw ⊢;clear hw a4;refine{λg L'=>∃a B EB c4,g=[some<|.sq<|ns.map Y.int,some<|.int s,some<|.ref a,some<|qr B,c4,none,none,none,none,none]/\L' a=some (.lst<|wq<|ak I<|qm B)/\gU I B EB,{{by decide,by decide},(show(0:Int)<2 by decide),mv (λ_=>?_) λ_=>{w,R,E,_,rfl,by rw[C,ko];exact gw,T}},?_}
 .refine{.inr {by decide,by decide},(show(0:Int)<2147483647 by decide),R,_,rfl,T.small,λB hB=>?_};obtain⟨EB,TB⟩:=T.inner hB;refine{B,rfl,TB.small,λla ca ta lk ct be L3 s3 _ _ _ _ _ g3 _ _ hv=>?_};have a5:=s3 _ _ gw;have kl:=T.len;have ab:(xz I).length=I.length:=Ac ..;refine qc a5 {{Bf _,by rw[ab];lia},?_};rw[ab,BF];refine zG (λi zs=>zs=wq ((ak I<|qm B).take i)) (big _ (by lia)) rfl ?_ ?_
  .rintro i zs hi rfl;have e1:(ak I<|qm B).take (i+1)=(ak I<|qm B).take i++[if i∈qm B then I[i]? else none]:=by rw[AW,sk hi];rfl
   refine ju g3 ?_;rw[show(Sum.inl (0+(i:Int)):zr)=.inl (i:Int) by rw[CB],hv];by_cases c:i∈qm B
   .refine kz (AA c) (qc a5 (qj (v:=nW I[i]) (by rw[CB];exact xp<|Ah hi) {_,EE _,rfl,?_}));rw[e1,AC c,Ah hi,<-oY];rfl
   .refine jv (Aw c) {_,EE _,rfl,?_};rw[e1,Az c,<-oY];rfl
  rintro zs rfl p7 h7;rw[show(ak I<|qm B).take I.length=ak I (qm B) from AM (by rw[kh];exact Aj _)];exact{p7,B,EB,_,rfl,q9,TB}
 rintro g L3 ⟨a,B,EB,c4,rfl,ha,TB⟩;have X:=TB.txo;clear gw C tp T;have tlen:=X.tlen;have U:=fU (ak I<|qm B) B;have ac:=X.len;have nw:=X.n;have gr:=X.gr;generalize au:ak I (qm B)=J at ha X tlen U ac nw gr;refine qc ha λh hh=>bZ hh λL4 s4 g4=>?_;have a0:=s4 _ _ ha;refine{a,J,rfl,a0,X.ks,X.len,λp1 h1=>bZ h1 λL5 s5 g5=>?_};refine{B,rfl,X.sz,X.dep,X.ru,λp2 h2=>bZ h2 λL6 s6 g6=>?_};have av:=gr _<|Ai _<|Ak.mpr rfl;refine qi g6 {(("tree" : Str).cps.toList::rW B).map jh,rfl,?_,λp3 h3=>bZ h3 λL7 s7 g7=>?_}
 .have h1:=sg λw hw=>(av.2 w hw).2.2.2;have h2:=uI B;have h4:=X.sz;have h0:(" " : Str).length=1:=by decide +kernel
  rw[h0,Ac];simp only[Ap] at h1 ⊢;lia
 rw[oH,m8] at g7;refine{_,_,s7 _ _<|s6 _ _ g5,g7,?_,λp4 h4=>?_}
 .rw[Ac,Ac,xi];exact Bi (big _ (by show J.length+1<=20000;lia))
 have eL:((vg 0 J).map yk).map Y.str++[Y.str<|jh<|gl [32]<|("tree" : Str).cps.toList::rW B]=((xh J B).map yk).map Y.str:=by unfold xh;rw[Ar,Ar];rfl
 rw[eL];refine bZ h4 λL8 s8 g8=>?_;have eJ:(xh J B).map yk=((xh J B).map<|gl [32]).map jh:=by rw[BI];rfl
 have lJ:∀l∈(xh J B).map (gl [32]),l.length<=9000:=λl hl=>by
  obtain⟨ws,hw,rfl⟩:=A2.mp hl;have h1:=iI (gr ws hw).2;have h2:ws.length<=yD (xh J B):=by obtain⟨u,v,e⟩:=BY hw;rw[e,mf];show _<=_+(ws.length+_);lia
  lia
 refine qi g8 {_,rfl,?_,?_}
 .have h1:=sg lJ;rw[<-eJ] at h1;have h0:("\n" : Str).length=1:=by decide +kernel
  rw[h0,Ac];rw[Ac] at h1;lia
 rw[eJ,oH,show(("\n" : Str).cps.toList)=[10] by decide +kernel,vO];have ag:=LS (xh J B) (by intro z;rw[z] at U;cases U);have aL:=BA List.length ag;rw[Ab] at aL;refine{by rw[da,da];exact mU (by lia),?_};rw[eI,ag];have t:=((s5.trans s6).trans s7).trans s8;refine{h,J,B,rfl,t _ _ g4,X,?_};refine jv (b:=nb true<|decide<|jh (nX<|xh J B)=jh (nX<|xh J B)) (by rw[AA rfl];rfl) ?_;refine{rfl,rfl,2,2,_,_,by decide,az (t _ _ g4)<|t0 _,az (t _ _ a0)<|t0 _,?_};refine jv (b:=nb true<|Da.eqs (J.map uM)<|J.map uM) (by rw[LH];rfl) ?_;intro pz hz;rw[a3];refine bZ hz λL9 s9 g9=>?_;have al:=s9 _ _<|t _ _ a0;refine{p4,pz,xh J B,ms,rfl,s9 _ _ g8,g9,by lia,by lia,nw,gr,λTx eT lT ba=>?_};refine{λg L'=>L'=L9/\∃T2,g=[some<|.sq<|ns.map Y.int,some<|.int s,some<|.ref a,some<|qr B,c4,some<|.ref h,some<|.ref p4,some<|.str<|jh<|nX<|xh J B,some<|.str<|jh<|nX<|xh J B,some<|.str<|jh T2]/\v9 T2=xh J B/\T2.length<=20000,{{by decide,by decide},(show(0:Int)<2 by decide),mv (λ_=>?_) λ_=>{(rfl),Tx,rfl,eT,lT}},?_}
 .obtain⟨T',rfl⟩:=ba (by intro z;rw[z] at U;cases U);rw[Ab] at lT;refine{by rw[da,Ab];exact mU (by lia),?_};show qz 9 (Y.str<|Txt.slice (jh<|T'++[10]) none<|some<|-1) _ _ _;rw[Y6];exact{rfl,T',rfl,(Yt T').symm.trans eT,by lia}
 rintro g L' ⟨rfl,T2,rfl,bb,bf⟩;subst au;refine{jh<|nX<|xh (ak I<|qm B) B,I,B,EB,rfl,by rw[da];lia,by rw[mQ,vF gr],TB,X,λw1 M1 k1 f1=>{_,_,rfl,vT (k1 _ _ al) f1 X.len X.dep,?_}};exact{jh T2,I,B,EB,rfl,by rw[da];lia,by rw[mQ,bb],TB,X,λw2 M2 k2 f2=>{_,_,rfl,vT (k2 _ _<|k1 _ _ al) f2 X.len X.dep,jd<|q _}}
theorem XFW.dn{K:Af}(T:K.lookup Pt=some (PySem.W.tabObj #[]))(x:XFW K C):XFW (GM Pt K) C:={_D.dn T x.cl,(SL T).trans x.nt,(SL T).trans x.na}
end L2
end
set_option maxRecDepth 100000
set_option maxHeartbeats 8000000
namespace K24
open PySem L2
abbrev ng:Str:="_law_script"
abbrev nh:Str:="_law_knots"
theorem Y8{us:Z_}{n:Nat}(h:us.length=n+1):∃a r,us=a::r/\r.length=n:=by cases us with|nil=>cases h|cons a r=>exact{a,r,rfl,Nat.succ.inj h}
abbrev nk(K:PySem.W.Frag)(x:Str):=PySem.W.nsIn K mainGlobals x
structure DD(K:Af):Prop where
 D0:zd K "is_name" rX
 D1:zd K "is_leaf" sL
 D2:zd K "turned" wJ
 D3:zd K "word_at" rg
 D4:zd K "holds_leaf" ig
 D5:zd K "places_there" du
 D6:zd K "parts_of" pH
 D7:zd K "parts_in" oQ
 D8:zd K "each_once" kW
 D9:zd K "parts_fit" lD
 D10:zd K "are_knots" kY
 D11:zd K "is_link" rc
 D12:zd K "can_be_cut" gm
 D13:zd K "is_cut" uo
 D14:zd K "places_of" kU
 D15:zd K "arms_of" rA
 D16:zd K "rules_in" nU
 D17:zd K "told_by" rM
 D18:zd K "taken_by" nQ
 D19:zd K "demand" wN
 D20:zd K "ends_by" sE
 D21:zd K "demand_told_once" bF
 D22:zd K "fits" Ki
 D23:zd K "checked_tree" dm
 D24:zd K "shown_knot" hE
 D25:zd K "written_knots" dU
 D26:zd K "words_in" o9
 D27:zd K "rows_in" sQ
 D28:zd K "rows_ahead" gj
 D29:zd K "is_number" kJ
 D30:zd K "number_from" gA
 D31:zd K "leaf_from" mJ
 D32:zd K "knot_from" lF
 D33:zd K "knots_from" gx
 D36:zd K "shown_rule" hU
 D37:zd K "written_tree" fG
 D38:zd K "rule_from" ug
 D39:zd K "outermost_from" kH
 D40:zd K "read_tree" lC
 D41:zd K "_law_mix" pJ
 D42:zd K "_law_name" lO
 D43:zd K "_law_word" mE
 D44:zd K "_law_flip" mG
 D45:zd K "_law_weight" gF
 D46:zd K "_law_mirror" qK
 D47:zd K "_law_join" lu
 D48:zd K "_law_fold" kI
 D49:zd K "_law_cut" xQ
 D51:zd K "_law_moved" iZ
 D52:zd K "_law_renamed" fE
 D53:zd K "_law_tree" mD
 D54:zd K "_law_arms" lW
 D55:zd K "_law_gathered" dO
 D56:zd K "_law_lines" i5
 D57:zd K "_law_rule_words" bS
 D58:zd K "_law_alike" hJ
 D59:zd K "_law_loose" gv
 D60:zd K "_law_within" gH
 D61:zd K "law" wH
structure B_(V:V_):Prop extends B0_ V,DD V.K where
 hp:∃h:aao,V.K.In h/\h.Ns mainGlobals V.mg
 D34:gJ V.K V.Ca "__init__" "TokenWalk.__init__" cD
 D35:gJ V.K V.Ca "take" "TokenWalk.take" cO
 D50:_n V.K "_law_order" SC V.Pt
 md:V.mg "TokenWalk"=some (.ref V.Ca)
 zB8:_D V.K V.Ca
 zC0:PySem.W.makesIn V.K V.Ca=true
 zC1:PySem.W.keepIn V.K (.ref V.Ca)=true
 xf:L2.XFW V.K V.Ca
local macro_rules|`(tactic| walk_at "s")=>`(tactic| exact{rfl,rfl,rfl,by decide +kernel,rfl,by decide +kernel,by decide +kernel})
local macro_rules|`(tactic| walk_at "l")=>`(tactic| (rintro _ _ _ h;cases h;subst_vars;rfl))
local macro_rules|`(tactic| walk_at "x")=>`(tactic| (intro _;walk_at "l"))
local macro_rules|`(tactic| walk_at "b")=>`(tactic| (intro _ _ _ _ _ _ us hl;(repeat (obtain⟨_,_,e,h⟩:=Y8 hl;clear hl;subst e;have hl:=h;clear h));cases List.eq_nil_of_length_eq_zero hl;rfl))
section
variable {f:Addr}{fd:FuncData}{x q:Str}{st:Stmt}{ps:aac}(V:V_)(k:Nat)(N:aac)
theorem W_{sp:jf}{t:fe}(F:Fun V.K x q st f fd)(j:_f sp t N.length)(h:FO V k N q st f t)(U:am N ps (za st):=by walk_at "s")(len:∀ys L Q,sp ys L Q->ys.length=ps.length:=by walk_at "l"):Fn3 V.P V.w V.K V.mg V.base (k+1) f fd ps sp:=
 To F U len λJ A I s H E g=>{t,h J A I s H E g U.nd<|Jp g,j}
theorem M_{sp:jf}{t:fe}(I:∃h:aao,V.K.In h/\h.Ns mainGlobals V.mg)(D:zd V.K x st)(J:_f sp t N.length)(h:∀f,FO V k N x st f t)(U:am N ps (za st):=by walk_at "s")(len:∀ys L Q,sp ys L Q->ys.length=ps.length:=by walk_at "l")(g:HG x st ps:=by walk_at "b"):Q_ V (k+1) x ps sp:=by obtain⟨_,X,G⟩:=I;obtain⟨f,fd,F,b,m⟩:=D.use X G g;exact Cal.of (W_ V k N F J (h f) U len) b F.kp m
theorem R_{sp:Nat->jf}{t:Nat->fe}(I:∃h:aao,V.K.In h/\h.Ns mainGlobals V.mg)(D:zd V.K x st)(no:∀ys L Q,¬sp 0 ys L Q)(J:∀n ys L Q,sp (n+1) ys L Q->j3 (t n) N.length ys L Q)(h:∀n f,Q_ V (n+k) x ps (sp n)->FO V (n+k) N x st f (t n))(n:Nat)(U:am N ps (za st):=by walk_at "s")(len:∀n ys L Q,sp n ys L Q->ys.length=ps.length:=by walk_at "x")(g:HG x st ps:=by walk_at "b"):Q_ V (n+k) x ps (sp n):=by
 obtain⟨_,X,G⟩:=I;obtain⟨f,fd,F,b,m⟩:=D.use X G g
 induction n with|zero=>exact Cal.of (Fn3.never no) b F.kp m|succ n j=>rw[Nat.add_right_comm];exact Cal.of (W_ V (n+k) N F (J n) (h n f j) U<|len _) b F.kp m
theorem T_{sp:jf}{t:fe}(U:∃h:aao,V.K.In h/\h.Ns mainGlobals V.mg)(D:_n V.K x st V.Pt)(g:_f sp t N.length)(h:∀f,∀(eK:aak) (A:Around) (outer:List Env) (s:aal) (H:Hp) (E:XK),Fn V.K eK V.Pt->wf k (A.deeper<|PyProof.Rows.envOfC x (za st) s.heap.objs.size f eK)->N.Nodup->(A.deeper<|PyProof.Rows.envOfC x (za st) s.heap.objs.size f eK).units+128<cLine->b_ (qN CX0 V.P V.w V.K V.mg V.base N x (za st) f eK A outer s H E).nox (jl st) t)(I:am N ps (za st):=by walk_at "s")(len:∀ys L Q,sp ys L Q->ys.length=ps.length:=by walk_at "l")(j:HG x st ps:=by walk_at "b"):Q_ V (k+1) x ps sp:=by obtain⟨_,X,G⟩:=U;obtain⟨f,fd,F,b,m⟩:=D.use X G j;exact Cal.of (WI F I len λeK A outer s H E C J=>{t,h f eK A outer s H E C J I.nd<|Jp J,g}) b F.kp m
end
section
variable {V:V_}(B:B_ V)
include B
theorem d1:Kj V (dI):=M_ V _ _ B.hp B.D0 yF<|(sI).2 V B.toB0_ ⟨⟩
theorem d2:Fk V (ky):=M_ V _ _ B.hp B.D1 yV<|(sC).2 V B.toB0_ ⟨⟩
theorem d3:Hw V (aR 120):=R_ V _ _ B.hp B.D2 acl V5 (λn=>(wD _ _).2 V B.toB0_ (d2 B) n) 120
theorem d4:Kk V (x6 120):=R_ V _ _ B.hp B.D3 nZ yZ (λn=>(rY _ _).2 V B.toB0_ (d2 B) n) 120
theorem d5:Kl V (iP):=M_ V _ _ B.hp B.D4 Xq<|(iD _).2 V B.toB0_<|d2 B
theorem d6:Km V (i6):=M_ V _ _ B.hp B.D5 Wz<|(eM).2 V B.toB0_ ⟨⟩
theorem d7:Gq V (cJ):=M_ V _ _ B.hp B.D6 Ww<|(oh _).2 V B.toB0_<|d2 B
theorem d8:Hx V (iR):=M_ V _ _ B.hp B.D7 Xc<|(oZ _).2 V B.toB0_<|d7 B
theorem d9:Hy V (iF):=M_ V _ _ B.hp B.D8 Xp<|(ld).2 V B.toB0_ ⟨⟩
theorem d10:Ko V (m7):=M_ V _ _ B.hp B.D9 Xr<|(lh _ _).2 V B.toB0_ {(d7 B),(d9 B)}
theorem Y9:Kq V (fQ):=M_ V _ _ B.hp B.D10 Xs<|(mH _).2 V B.toB0_<|d10 B
theorem Y_:Kr V (fb):=M_ V _ _ B.hp B.D11 Xu<|(rG _ _).2 V B.toB0_ {(d3 B),(d5 B)}
theorem Za:Ks V (tV):=M_ V _ _ B.hp B.D12 Xv<|(hG _).2 V B.toB0_<|d8 B
theorem Zb:Kt V (gd):=M_ V _ _ B.hp B.D13 Xw<|(ue _ _ _).2 V B.toB0_ {(Za B),(d4 B),(d3 B)}
theorem Mc:Hz V (gq):=M_ V _ _ B.hp B.D14 XF<|(lG).2 V B.toB0_ ⟨⟩
theorem HU:Gr V (aT):=M_ V _ _ B.hp B.D15 XG<|(rT).2 V B.toB0_ ⟨⟩
theorem Md:HA V (wv 120):=R_ V _ _ B.hp B.D16 XI yz (λn=>(nR _ _).2 V B.toB0_ (HU B) n) 120
theorem Me:HB V (cN):=M_ V _ _ B.hp B.D17 XH<|(sF _).2 V B.toB0_<|Mc B
theorem Zc:Ku V (mm):=M_ V _ _ B.hp B.D18 XM<|(pF _).2 V B.toB0_<|d7 B
theorem HV:Gs V (aK):=M_ V _ _ B.hp B.D19 Xx<|(wW).2 V B.toB0_ ⟨⟩
theorem Zd:Kv V (ao 120):=R_ V _ _ B.hp B.D20 XQ XR (λn=>(sG _ _ _ _ _).2 V B.toB0_ {(Me B),(Zc B),(HU B),(HV B)} n) 120
theorem Ze:Kw V (t7):=M_ V _ _ B.hp B.D21 XU<|(bM _ _ _ _).2 V B.toB0_ {(d6 B),(Me B),(HV B),(HU B)}
theorem Zf:Kx V (nJ):=M_ V _ _ B.hp B.D22 XW<|(LB _ _).2 V B.toB0_ {(Y_ B),(Zb B)}
theorem Zg:Ky V (mw):=M_ V _ _ B.hp B.D23 XY<|(fA _ _ _ _ _ _ _ _).2 V B.toB0_ {(HV B),(Y9 B),(d9 B),(d8 B),(Ze B),(Md B),(Zf B),(Zd B)}
theorem Zh:Kz V (tW):=M_ V _ _ B.hp B.D24 YE<|(iS _).2 V B.toB0_<|d2 B
theorem Zi:KA V (tQ):=M_ V _ _ B.hp B.D25 YH<|(dP _).2 V B.toB0_<|Zh B
theorem Zj:KC V (dD):=M_ V _ _ B.hp B.D26 yS<|(nN).2 V B.toB0_ ⟨⟩
theorem Zk:KE V (fM):=M_ V _ _ B.hp B.D27 YN<|(re _).2 V B.toB0_<|Zj B
theorem Zl:KG V (f7):=M_ V _ _ B.hp B.D28 YP<|(gi).2 V B.toB0_ ⟨⟩
theorem Zm:KH V (iM):=M_ V _ _ B.hp B.D29 YB<|(mC).2 V B.toB0_ ⟨⟩
theorem HW:HE V (fT):=M_ V _ _ B.hp B.D30 YD<|(fw _).2 V B.toB0_<|Zm B
theorem Zn:KI V (iQ):=M_ V _ _ B.hp B.D31 YJ<|(mI _).2 V B.toB0_<|d1 B
theorem Zo:KJ V (iA):=M_ V _ _ B.hp B.D32 YL<|(l6 _ _).2 V B.toB0_ {(Zn B),(HW B)}
theorem Zp:KL V (f8):=M_ V _ _ B.hp B.D33 YM<|(i7 _ _).2 V B.toB0_ {(HW B),(Zo B)}
theorem Zq:agd V.P V.w V.K V.mg V.base 2 V.Ca ["self","tokens"] (mW V.Ca):=by obtain⟨f,fd,F,b,m⟩:=B.D34.use (ps:=["self","tokens"]) (by walk_at "b");exact{_,_,{(B.zC0),m.at_,m.fn,B.zC1},{_,rfl,W_ V 0 ["self","tokens"] F (Wc B.xf) λ_ _ _ _ _ _ I hN J=>(qa (J' (qv 0)<|qv 1)<|qd<|J' (qv 0) qe)},b}
theorem HX:ah5 V.P V.w V.K V.mg V.base 1 V.Ca "take" ["self"] (fN V.Ca):=by obtain⟨f,fd,F,b,m⟩:=B.D35.use (ps:=["self"]) (by walk_at "b");exact{_,_,m,W_ V 0 ["self","token"] F (We B.xf) λ_ _ _ _ _ _ J hN I=>(qa (zf (E_ I (tj<|qv 0)<|L_ B.ba<|tj<|qv 0) (qd<|ql qo) qx)<|qa (S_ 1 hN<|I_ (tj<|qv 0)<|tj<|qv 0)<|qa (US (qv 0) qe)<|qd<|ql<|qv 1),b}
theorem Zr:KN V (uY):=M_ V _ _ B.hp B.D36 YV<|(iO _ _).2 V B.toB0_ {(Md B),(Mc B)}
theorem Zs:U8 V (uB):=M_ V _ _ B.hp B.D37 YX<|(eh _ _).2 V B.toB0_ {(Zr B),(Zi B)}
theorem Zt:U9 V (cG V.Ca 120):=R_ V 3 ["walk","within","kind","parts","count"] B.hp B.D38 YR YS (λ_ _ I _ _ _ _ _ _ J hN U=>(qa (zf (jo zQ (qv 1) (uJ B.zA4 rfl)<|jy _) (qd aE) qx)<|qa (S_ 2 hN<|Hv ((HX B).mono (by lia)) J B.zB8<|qv 0)<|qa (zf (Yk B.zA2 rfl<|qv 2) (qd aE) qx)<|qa (S_ 3 hN<|zc<|zn<|qv 2)<|qa (k8 yp rfl (aS rfl B.bf<|zn<|iG B.zA2 rfl (qv 2) λ_ _=>rfl) (G_ 4 hN)<|qd<|qt<|z9 (qv 3)<|zn<|C_ (HW B) J<|zn<|Hv ((HX B).mono (by lia)) J B.zB8<|qv 0)<|qa (k8 yp rfl (aS rfl B.bf<|zn<|iG B.zB7 rfl (qv 2) λ_ _=>rfl) (G_ 4 hN)<|qd<|qt<|z9 (qv 3)<|zn<|C_ I J<|vo (qv 0)<|qk zj (qv 1) qe)<|qd<|ql<|xr LA rfl B.bi ef<|zn<|qv 3)) 120
theorem Zu:KO V (gn):=M_ V 123 ["words","walk","rule","behind"] B.hp B.D39 YT λ_ _ _ _ _ _ _ I hN J=>(qa (S_ 1 hN<|U7 ((Zq B).mono (by decide)) I rfl B.md<|zn<|qv 0)<|qa (S_ 2 hN<|C_ (Zt B) I<|vo (qv 1) qe)<|qa (S_ 3 hN<|Hv ((HX B).mono (by decide)) I B.zB8<|qv 1)<|qa (zf (N_ J (qv 3) qo) (qd aE) qx)<|qd<|ql<|qv 2)
theorem Mf:U_ V (ie):=M_ V _ _ B.hp B.D40 YU<|(mF _ _ _ _ _).2 V B.toB0_ {(Zk B),(Zl B),(Zu B),(Zp B),(Zg B)}
theorem HY:HF V (jN):=M_ V _ _ B.hp B.D41 V7<|(oo).2 V B.toB0_ ⟨⟩
theorem Zv:KP V (iL):=M_ V _ _ B.hp B.D42 WS<|(vQ).2 V B.toB0_ ⟨⟩
theorem Mg:Va V (x6 120):=R_ V _ _ B.hp B.D43 uL wL (λn=>(kK _).2 V B.toB0_ ⟨⟩ n) 120
theorem HZ:Vb V (aF 120):=R_ V _ _ B.hp B.D44 Wk Wl (λn=>(La _).2 V B.toB0_ ⟨⟩ n) 120
theorem Zw:Vc V (ay 120):=R_ V _ _ B.hp B.D45 pN V9 (λn=>(gE _).2 V B.toB0_ ⟨⟩ n) 120
theorem Zx:Vd V (aO 5):=R_ V 122 [nh,"_law_word_here","_law_left","_law_right","_law_turn","_law_same","_law_low","_law_high"] B.hp B.D46 Wu (Wv (FS:=aF 120) λ_ _ _ h=>h) (λ_ _ I _ _ _ _ _ _ J hN U=>(qa (zf (E_ U (L_ B.ba<|qv 1) qe) (qa (qt<|z9 (qv 0)<|zn<|C_ (HZ B) J<|zn<|qv 1)<|qa (qt<|z9 (qv 0)<|zn<|qv 1)<|qd<|ql<|zc<|df (zo<|df qo (qk cX (L_ B.ba<|qv 0) qe)<|qk cX (L_ B.ba<|qv 0) qe) (qk cX (L_ B.ba<|qv 0) qe)<|qk cX (L_ B.ba<|qv 0) qe) qx)<|qa (S_ 2 hN<|C_ I J<|vo (qv 0)<|J_ 1)<|qa (S_ 3 hN<|C_ I J<|vo (qv 0)<|J_ 1)<|qa (qt<|z9 (qv 0)<|zn<|zo<|df (I_ (C_ (HZ B) J<|zn<|qv 1) qe) (J_ 2)<|J_ 3)<|qa (qt<|z9 (qv 0)<|zn<|zo<|df (J_ 1) (J_ 2)<|J_ 3)<|qa (yh (i:=4) (j:=5) rfl hN rfl rfl (by decide) rfl rfl (vo (qk cX (L_ B.ba<|qv 0) qe)<|qk cX (L_ B.ba<|qv 0) qe) rfl)<|qa (S_ 6 hN<|dq (E_ U (J_ 1) qo) (qv 4)<|qv 5)<|qa (S_ 7 hN<|dq (E_ U (J_ 1) qo) (qv 5)<|qv 4)<|qd<|ql<|zc<|df (zo<|df qo (qv 7)<|zo<|kg qo<|df (qv 6) (J_ 2)<|J_ 3) (qv 4)<|qv 5)) 5
theorem Zy:KQ V (mj):=M_ V _ _ B.hp B.D47 WW<|(Ll).2 V B.toB0_ ⟨⟩
theorem Zz:KR V (im):=M_ V _ _ B.hp B.D48 WX<|(Lm).2 V B.toB0_ ⟨⟩
theorem ZA:KS V (m6):=M_ V 127 [nh,"_law_forest","_law_one","_law_two","_law_first","_law_p","_law_word_here","_law_second","_law_q","_law_at","_law_end","_law_rule","_law_same","_law_ends"] B.hp B.D49 (W3 (FS:=aF 120) (MS:=aO 5) (λ_ _ _ h=>h) λ_ _ _ h=>h) λ_ _ _ _ _ _ _ I hN J=>(qa (S_ 4 hN<|cV (qv 1)<|zn<|qk jn (qv 3)<|L_ B.ba<|qv 1)<|qa (bq (i:=5) hN rfl (Or.inr rfl)<|I_ (J_ 4)<|qk jn (qk vm (qv 3) qe)<|L_ B.ba<|J_ 4)<|qa (S_ 6 hN<|C_ (Mg B) I<|vo (qv 0)<|qv 5)<|qa (nr (zo<|vo tf tf)<|af rfl<|zh (G_ 7 hN)<|zh (fO (i:=8) hN rfl<|Or.inr rfl) wo)<|qa (k8 yp rfl (aS rfl B.bf<|zn<|L_ B.ba<|qv 1) (G_ 9 hN)<|qd<|k8 yp rfl (xc<|I_ (I_ (qv 1)<|qv 9) qe) (G_ 10 hN)<|qd<|zf (bQ<|gY (gM<|qv 7)<|cz<|E_ J (C_ (Mg B) I<|vo (qv 0)<|qv 10)<|C_ (HZ B) I<|zn<|qv 6) (qd<|nr (zo<|vo (I_ (qv 1)<|qv 9)<|qv 10)<|af rfl<|zh (G_ 7 hN)<|zh (fO (i:=8) hN rfl<|Or.inr rfl) wo) qx)<|qa (zf (bQ<|gY (gM<|qv 7)<|cz<|jo zQ (C_ (Zw B) I<|zn<|qv 6) qe<|jy _) (qa (qt<|z9 (qv 1)<|zn<|qv 4)<|qd JT) qx)<|wn (zf (gM<|qv 7) (qa (nr (C_ (Zx B) I<|vo (qv 0)<|qv 6)<|Vy rfl<|zh (G_ 11 hN)<|zh (fO (i:=8) hN rfl<|Or.inr rfl)<|zh (G_ 12 hN) wo)<|qd<|S_ 7 hN<|zc<|vo (qv 11)<|zc<|vo (qv 8)<|qv 12)<|qd<|qt<|VA J (qv 1)<|zn<|qv 7)<|qa (gf ["_law_x"] (i:=13) hN rfl (Or.inl rfl) (EL (by rfl)) rfl (xc<|qk zj (J_ 4)<|J_ 7) (oB Gp (λ_ _ _ _=>Or.inl rfl) λ_ _ _ _=>rfl) (λ_ _ _ _=>eV<|jo (o4 _ _ _) (qv 14) (zo<|vo (qv 5)<|qv 8) (by with_unfolding_all rfl)) λ_ _ _ _=>(qv 14))<|qd<|zf (E_ J (qk jn (qv 2) qe) qe) (qd<|qt<|z9 (qv 1)<|zn<|zc<|vo (zo<|kg qo<|kg (qv 5)<|df (qv 8) (J_ 4)<|J_ 7)<|qv 13)<|qd<|qt<|z9 (qv 1)<|zn<|zc<|vo (zo<|kg qo<|kg (qv 8)<|df (qv 5) (J_ 7)<|J_ 4)<|qv 13)
theorem ZB:KU V (fW V.Pt):=T_ V 1 [nh,"_law_seed","_law_ranks","_law_p","_law_knot","_law_rank"] B.hp B.D50 X5 λ_ _ _ _ _ _ _ C I hN J=>(qa (bq (i:=2) hN rfl (Or.inr rfl)<|zc x5)<|qa (k8 yp rfl (bY rfl B.bg<|qv 0) (af rfl<|zh (G_ 3 hN)<|zh (G_ 4 hN) wo)<|qa (S_ 5 hN<|qk jn (C_ (HY B) I<|df (qv 1) (qv 3) qe) qe)<|wn (zf (E_ J (L_ B.ba<|qv 4) qe) (qd<|S_ 5 hN<|qk zj (qk zj (qv 5) qe)<|vv JK rfl B.bj Jq<|vo (I_ (qv 2)<|J_ 4)<|I_ (qv 2)<|J_ 4) qx)<|qd<|qt<|z9 (qv 2)<|zn<|qv 5)<|qd<|ql<|WH rfl B.bn (yO rfl rfl B.bh rfl B.bf<|L_ B.ba<|qv 0) {rfl,rfl,rfl,by decide +kernel,rfl,rfl,by decide,by decide,by decide} C (WO I) rfl rfl rfl {_,rfl,rfl} rfl λ_ _ _ _ _ _ _=>rfl)
theorem ZC:KY V (bD 120):=R_ V _ _ B.hp B.D51 X6 X7 (λn=>(iH _).2 V B.toB0_ ⟨⟩ n) 120
theorem ZD:KZ V (dC V.Pt):=M_ V _ _ B.hp B.D52 yo<|(eO _ _).2 V B.toB0_ {(ZB B),(ZC B)}
theorem ZE:Ve V (ix V.Pt):=M_ V _ _ B.hp B.D53 X9<|(LG _ _ _ _ _ _).2 V B.toB0_ {(HY B),(Zv B),(Zz B),(Zy B),(ZA B),(ZD B)}
theorem H0:Gu V (dk):=M_ V _ _ B.hp B.D54 XZ<|(kM).2 V B.toB0_ ⟨⟩
theorem ZF:Vf V (nF):=M_ V _ _ B.hp B.D55 X0<|(dQ _).2 V B.toB0_<|H0 B
theorem ZG:Vg V (fh):=M_ V _ _ B.hp B.D56 YY<|(iB).2 V B.toB0_ ⟨⟩
theorem ZH:Vh V (uC):=M_ V _ _ B.hp B.D57 Y1<|(bW _).2 V B.toB0_<|H0 B
theorem Mh:Vi V (ax 124):=R_ V _ _ B.hp B.D58 Yc Yd (λn=>(xA _).2 V B.toB0_ ⟨⟩ n) 124
theorem ZI:Vj V (ij):=M_ V _ _ B.hp B.D59 Y2<|(hZ _).2 V B.toB0_<|HY B
theorem ZJ:Vk V (f6):=M_ V _ _ B.hp B.D60 X2<|(fz _).2 V B.toB0_<|H0 B
theorem dL{f:Addr}{fd:FuncData}(F:Fun V.K "law" "law" wH f fd):Fn3 V.P V.w V.K V.mg V.base 130 f fd [ng] (my V.Pt lamQ):=
 W_ V 129 [ng,"_law_seed",nh,"_law_rule","_law_told","_law_handed","_law_lines_here","_law_due","_law_found","_law_loose_here"] F Y7 λ_ _ _ _ _ _ I hN J=>(qa (S_ 1 hN<|qk jn (I_ (qk (UT _ _ _) (qv 0)<|zc<|zn qe) qe)<|qk SX qe qe)<|qa (nr (C_ (ZE B) I<|df (jq (fI _ _ _) (qv 0) (jr qe) kc) (qv 1) qe)<|af rfl<|zh (fO (i:=2) hN rfl<|Or.inr rfl)<|zh (G_ 3 hN) wo)<|wn (zf (E_ J (qk jn (qk vm (qv 1) qe) qe) qe) (qa (S_ 3 hN<|C_ (ZJ B) I<|vo (qv 3)<|qk jn (qk kR (qv 1) qe) qe)<|qa (bq (i:=4) hN rfl (Or.inr rfl)<|I_ (C_ (ZF B) I<|zn<|qv 3) qe)<|qd<|bq (i:=2) hN rfl (Or.inr rfl)<|a6 ["_law_p"] (EL (by rfl)) rfl (aS rfl B.bf<|zn<|L_ B.ba<|qv 2) (oB Gp (λ_ _ _ _=>Or.inl rfl) λ_ _ _ _=>rfl) (λ_ _ _ _=>aM) λ_ _ _ _=>(dq (jo (XC J) (qv 10) (qv 4) (by with_unfolding_all rfl)) (I_ (qv 2)<|qv 10) tf)) qx)<|qa (S_ 5 hN<|xr iu rfl B.bh bT<|zn<|qv 2)<|qa (S_ 6 hN<|qk zj (C_ (ZG B) I<|zn<|qv 2)<|zc<|zn<|iW qo<|zn<|C_ (ZH B) I<|zn<|qv 3)<|qa (S_ 7 hN<|qk zj (iW qo<|zn<|qv 6) qo)<|qa (S_ 8 hN<|C_ (Zs B) I<|zn<|zo<|vo (qv 5)<|qv 3)<|qa (zf (bQ<|i3 (cg<|w5<|wu .str rfl B.bb rfl B.be bp<|qv 8)<|i3 (N_ J (qv 8)<|qv 7)<|eY<|N_ J (qv 5)<|qv 2) (qd<|ql bX) qx)<|qa (S_ 9 hN<|C_ (ZI B) I<|vo (qv 6)<|jq (fI _ _ _) (qv 0) (jr qe) kc)<|wn (zf (E_ J (qk jn (qk vm (qv 1) qe) qe) qe) (qd<|S_ 9 hN<|jq (fI _ _ _) (qv 9) kc<|jr<|S5 S4 qe) qx)<|qa (zf (cg<|w5<|C_ (Mh B) I<|vo (C_ (Mf B) I<|zn<|qv 7)<|zo<|vo (qv 2)<|qv 3) (qd<|ql bX) qx)<|qd<|ql<|C_ (Mh B) I<|vo (C_ (Mf B) I<|zn<|qv 9)<|zo<|vo (qv 2)<|qv 3)
end
theorem all_mk{l:PySem.W.OpenLaw}{w:aan}{K:Af}{h:aao}{mg:Z7}{fa:Addr}{ba:Tok}{j:Addr}{cm:Option Addr}{cn:Nat}{cv:Array<|aag}{be bf:Tok}{I:Addr}{bb:Nat}{r t C T a0 a1 a2 a3:Tok}{g:Addr}{bc:Nat}{a4 a5 ab ac ag al au av:Tok}{J:Addr}{cy:Nat}{bg bh bi bj:Tok}{bd:Tok}{U:Addr}{cB:Nat}{bm bn c0 c1:Tok}{o:Addr}{cP:Option Addr}{d0:Nat}{dc:Array<|aag}{c2 c3:Tok}{c4:Tok}{p:Addr}{dd:Nat}{c5 c6 c7 c8 c9 ca cc ck:Tok}{Ca:Addr}{Pt:Addr}(X:K.In h)(G:h.Ns mainGlobals mg)(de:mg "law"=some (.ref fa))
 (D:DD K)
 (D34:gJ K Ca "__init__" "TokenWalk.__init__" cD)
 (D35:gJ K Ca "take" "TokenWalk.take" cO)
 (D50:_n K "_law_order" SC Pt)
 (zA5:nk K "MOST_LETTERS"=some (some<|.int 8 ba))
 (zC2:nk K "LEAF_KINDS"=some (some<|.ref j))
 (zC3:K.lookup j=some ⟨.type "tuple",cm,.seq #[.str "plain" be,.str "turned" bf] cn,cv⟩)
 (zA6:nk K "TURNED_KINDS"=some (some<|.ref I))
 (zA7:K.lookup I=some ⟨.type "dict",none,.dict ((([("plain",r,"turned",a0),("turned",t,"plain",a1),("both",C,"either",a2),("either",T,"both",a3)]:List<|Str×Tok×Str×Tok).map<|sP w).toArray) bb,#[]⟩)
 (zA8:(I==sysModules)=false)
 (zA9:nk K "PLACE_COUNTS"=some (some<|.ref g))
 (zB0:K.lookup g=some ⟨.type "dict",none,.dict ((([("link",a4,2,ag),("either",a5,1,al),("both",ab,1,au),("cut",ac,2,av)]:List<|Str×Tok×Int×Tok).map<|FR w).toArray) bc,#[]⟩)
 (zB1:(g==sysModules)=false)
 (zC4:nk K "LEAF_SIGNS"=some (some<|.ref J))
 (zC5:K.lookup J=some ⟨.type "dict",none,.dict ((([("plain",bg,"+",bi),("turned",bh,"-",bj)]:List<|Str×Tok×Str×Tok).map<|sP w).toArray) cy,#[]⟩)
 (zC6:(J==sysModules)=false)
 (zB2:nk K "MOST_FIGURES"=some (some<|.int 4 bd))
 (zC7:nk K "SIGN_KINDS"=some (some<|.ref U))
 (zC8:K.lookup U=some ⟨.type "dict",none,.dict ((([("+",bm,"plain",c0),("-",bn,"turned",c1)]:List<|Str×Tok×Str×Tok).map<|sP w).toArray) cB,#[]⟩)
 (zC9:(U==sysModules)=false)
 (zD0:nk K "KNOT_KINDS"=some (some<|.ref o))
 (zD1:K.lookup o=some ⟨.type "tuple",cP,.seq #[.str "both" c2,.str "either" c3] d0,dc⟩)
 (zB9:nk K "MOST_WITHIN"=some (some<|.int 150 c4))
 (zD2:nk K "ARM_COUNTS"=some (some<|.ref p))
 (zD3:K.lookup p=some ⟨.type "dict",none,.dict ((([("link",c5,0,c9),("either",c6,1,ca),("both",c7,2,cc),("cut",c8,2,ck)]:List<|Str×Tok×Int×Tok).map<|FR w).toArray) dd,#[]⟩)
 (zD4:(p==sysModules)=false)
 (zD5:nk K "TokenWalk"=some (some<|.ref Ca))
 (zD6:_D K Ca)
 (zC0:PySem.W.makesIn K Ca=true)
 (zC1:PySem.W.keepIn K (.ref Ca)=true)
 (xf:L2.XFW K Ca)
 (zall:nk K "all"=some none)
 (zlen:nk K "len"=some none)
 (zenumerate:nk K "enumerate"=some none)
 (zset:nk K "set"=some none)
 (zrange:nk K "range"=some none)
 (zany:nk K "any"=some none)
 (zlist:nk K "list"=some none)
 (zzip:nk K "zip"=some none)
 (zint:nk K "int"=some none)
 (zstr:nk K "str"=some none)
 (ztuple:nk K "tuple"=some none)
 (zmax:nk K "max"=some none)
 (zsorted:nk K "sorted"=some none)
 (zmin:nk K "min"=some none)
 (zisinstance:nk K "isinstance"=some none)
 (zreversed:nk K "reversed"=some none)
 (zbool:nk K "bool"=some none):
 ∃fd:FuncData,(∀(s:aal) (v:aak),BindsTo s fd ⟨[v],[]⟩ [(ng,v)])/\∀base:aao,K.In base->base.Ns mainGlobals mg->bE l.prog w K mg base CX0 130 fa fd [ng] (_R lamQ K Pt):=by
 obtain⟨fL,kV,di,pm,an,dj,ct,aL,FL⟩:=D.D61.ex;have e:=de.symm.trans<|Bv X G aL;cases e;refine{PySem.W.fnOf "law" "law" (xo wH) (jl wH) (za wH) .none kV di pm an dj ct,λs v=>.of_eq rfl,λbase _ _=>?_};have B:B_ ⟨l.prog,w,K,mg,base,Pt,Ca⟩:={{Ba X G zall,Ba X G zlen,Ba X G zenumerate,Ba X G zset,Ba X G zrange,Ba X G zany,Ba X G zlist,Ba X G zzip,Ba X G zint,Ba X G zstr,Ba X G ztuple,Ba X G zmax,Ba X G zsorted,Ba X G zmin,Ba X G zisinstance,Ba X G zreversed,Ba X G zbool,{_,Bv X G zA5,{_,rfl},λ_ _=>rfl},{j,Bv X G zC2,λH=>{j,[V.str "plain",V.str "turned"],rfl,.inr {_,_,_,zC3,rfl,rfl,by show 2<=sizeLine;decide,.cons {_,rfl}<|.cons {_,rfl}<|.nil},{_,_,rfl,rfl,{_,_,rfl,rfl,rfl}}}},{I,Bv X G zA6,λH=>{I,rfl,G9 _ zA7 zA8 (by show 4<=1000;decide) (by show List.Nodup ([Sum.inr "plain",Sum.inr "turned",Sum.inr "both",Sum.inr "either"]:_v);decide +kernel)}},{g,Bv X G zA9,Lx _ zB0 zB1 (by show 4<=1000;decide) (by show List.Nodup ([Sum.inr "link",Sum.inr "either",Sum.inr "both",Sum.inr "cut"]:_v);decide +kernel)},{J,Bv X G zC4,λH=>{J,rfl,G9 _ zC5 zC6 (by show 2<=1000;decide) (by show List.Nodup ([Sum.inr "plain",Sum.inr "turned"]:_v);decide +kernel)}},{_,Bv X G zB2,{_,rfl},λ_ _=>rfl},{U,Bv X G zC7,λH=>{U,rfl,G9 _ zC8 zC9 (by show 2<=1000;decide) (by show List.Nodup ([Sum.inr "+",Sum.inr "-"]:_v);decide +kernel)}},{o,Bv X G zD0,λH=>{o,[V.str "both",V.str "either"],rfl,.inr {_,_,_,zD1,rfl,rfl,by show 2<=sizeLine;decide,.cons {_,rfl}<|.cons {_,rfl}<|.nil},{_,_,rfl,rfl,{_,_,rfl,rfl,rfl}}}},{_,Bv X G zB9,{_,rfl},λ_ _=>rfl},{p,Bv X G zD2,Lx _ zD3 zD4 (by show 4<=1000;decide) (by show List.Nodup ([Sum.inr "link",Sum.inr "either",Sum.inr "both",Sum.inr "cut"]:_v);decide +kernel)}},D,{(h),X,G},D34,D35,D50,Bv X G zD5,zD6,zC0,zC1,xf};exact bE.imp (dL B FL) λvs H Q E q=>WJ q
theorem def_inT{K:Af}{x:Str}{st:Stmt}{f Pt:Addr}{oc:aak}{od an:Option Addr}{oi:Array<|aag}{kV fx pm eK ct:aak}(a:nk K x=some (some<|.ref f))
 (l:K.lookup f=some ⟨oc,od,.func<|PySem.W.fnOf x x (xo st) (jl st) (za st) .none kV fx pm an eK ct,oi⟩) (c:PySem.W.codeIn K eK x=true) (k:PySem.W.keepIn K (.ref f)=true) (C:Fn K eK Pt):_n K x st Pt:=
 ⟨f,kV,fx,pm,an,eK,ct,a,⟨⟨oc,od,kV,fx,pm,an,eK,ct,oi,rfl,l,c,C⟩,k⟩⟩
end K24
namespace H24
noncomputable section
open PySem PySem.W PySem.W.X L2 PyProof.Rows
abbrev rr:=PySem.Challenge.rw_oncewise_k24_texts_and_back
abbrev p:aam:=PySem.Challenge.pw_oncewise_k24_texts_and_back
abbrev top:=L2.top
abbrev GC(i k:Nat):Stmt:=(tR<|top i).getD k<|.Pass {0,0,0,0}
abbrev s(x:aap):Str:=Str.ofString x
noncomputable abbrev S (x:aap) (t:Tok):aak:=.str (Str.ofString x) t
noncomputable abbrev I (i:Int) (t:Tok):aak:=.int i t
noncomputable abbrev R (a:Addr):aak:=.ref a
abbrev E(P:Params)(k:aap)(t:Tok)(v:aak):DictEntry:={PyData.keyHash P<|Str.ofString k,.str (Str.ofString k) t,v}
noncomputable abbrev O (c:aak) (d:Data):Obj:={c,none,d,#[]}
abbrev FN(n q:aap)(st:Stmt)(I kV fx pm:aak)(an:Option Addr)(cd ct:aak):FuncData:=fnOf (Str.ofString n) (Str.ofString q) (xo st) (jl st) (za st) I kV fx pm an cd ct
abbrev FG(n q:aap)(st:Stmt):FuncData:={fnOf (Str.ofString n) (Str.ofString q) (xo st) (jl st) (za st) .none .none .none .none none .none .none with globals:=0}
abbrev lt(l:List (Int×Nat)):Array Value:=(l.flatMap λx=>[I x.1 0,I 0 0,R x.2]).toArray
abbrev tu(l:aaa):Params->Obj:=λ_=>O (.type "tuple")<|.seq l 0
abbrev tn(k:Nat)(l:List String):Params->Obj:=tu ((l.zipIdx k).map λx=>S x.1 x.2).toArray
abbrev fo(f:FuncData):Params->Obj:=λ_=>O (.type "function")<|.func f
abbrev go(f:FuncData):Params->Obj:=λ_=>O .none<|.func f
abbrev co(n q:aap)(t l a b c J v:Nat)(o:Bool)(m k:Nat)(x y z u:aak)(d:Nat):Params->Obj:=λ_=>O (.type "code")<|.fields #[S n t,S q<|t+1,S "/claim/cut.py"<|t+2,I l 0,I a 0,I b 0,I c 0,I J 0,R v,.bool o,I m 0,R k,x,y,z,u,I d 0,I l 0,S "/claim/cut.py"<|d+1]
abbrev qG:aak:=S "law_oncewise_k24_texts_and_back" 662
abbrev m_:aak:=S "oncewise.webs" 280
abbrev q_:aak:=S "oncewise.trees" 365
abbrev r_:aak:=S "oncewise.webtext" 470
abbrev FU:aak:=S "oncewise.treetext" 612
abbrev H9:aak:=S "oncewise.words" 239
abbrev fX(n:aap)(i:Nat)(m:aak)(r:Nat):Params->Obj:=fo<|FN n n (top i) .none .none .none m none (R r) .none
abbrev gX(n:aap)(i:Nat):Params->Obj:=go<|FG n n<|top i
abbrev cF(n:aap)(t l a v d:Nat):Params->Obj:=co n n t l a 0 0 3 v true 181 (v+1) .none (R<|v+2) (R<|v+3) (R<|v+4) d
abbrev cC(n:aap)(t l v d:Nat):Params->Obj:=co n n t l 0 0 0 0 v false 181 (v+1) .none .none .none .none d
abbrev cS(n:aap)(a ns k t v:Nat):Params->Obj:=λ_=>{.type "type",none,.cls<|ClassData.mk (s n) [R 24] [R a,R 24,.type "ValueError",.type "Exception",.type "BaseException",.type "object"] ns (s n) true [] [] false none false,#[some<|R k,none,some<|S n t,some<|S n v,some<|.builtin "ValueError.__new__",some<|.bool true]}
abbrev dA(P:Params)(a b:Nat)(l:Int)(c d r e:Nat):Obj:=O (.type "dict")<|.dict #[E P "__module__" a<|S "oncewise.errors" 187,E P "__firstlineno__" b<|I l c,E P "__static_attributes__" d<|R r,E P "__doc__" e .none] 2
abbrev dB(P:Params)(a q:Nat)(n:aap)(J b:Nat)(l:Int)(c d r:Nat):Obj:=O (.type "dict")<|.dict #[E P "__module__" a<|S "oncewise.errors" 187,E P "__qualname__" q<|S n J,E P "__firstlineno__" b<|I l c,E P "__static_attributes__" d<|R r] 4
abbrev fR(a b:Nat):Params->Obj:=λ_=>{.type "frame",none,.plain,#[some<|R a,some<|R 3,some<|R b,none,some<|S "oncewise.errors" 187,none,some<|R 0]}
abbrev bI(a:Nat):Params->Obj:=λ_=>O (.type "builtin_function_or_method")<|.fields #[.builtin "object.__init_subclass__",R a]
abbrev sU(a:Nat):Params->Obj:=λ_=>O (.type "super")<|.fields #[R a,R a,R a]
abbrev Ob:=Params->Obj
def ev{α:Type}:Bool->List α->List α
 |_,[]=>[]
 |true,x::r=>x::ev false r
 |false,_::r=>ev true r
def bt:Nat->List Obj->BT
 |0,_=>.nil
 |_,[]=>.nil
 |n+1,x::r=>.node x (bt n<|ev true r)<|bt n<|ev false r
def env0:Env:={scope:=p.main.scope,locals:=mainNs,globals:=mainNs,cells:=[],code:=.ref 13,frame:=some 14}
abbrev cE:Code:=.body (behindTheImports p) env0
abbrev q0:Pos:={0,0,0,0}
abbrev an:aag:=some<|.ref 6
abbrev Pc(n:Nat)(S I:aan->OsState->SharedT)(l:aae)(q J:Pos)(w:aan):Prop:=(λos=>segRunT treeTable p w 11 an 1 n (S w os)<|piecesOf l env0 cE q [topFrame q0])=λos=>some (Flow.next,I w os,cE,J)
abbrev b0:=PySem.W.boot_o_0
abbrev b1:=PySem.W.boot_o_1
abbrev b2:=PySem.W.boot_o_2
abbrev b3:=PySem.W.boot_o_3
abbrev b4:=PySem.W.boot_o_4
abbrev b5:=PySem.W.boot_o_5
abbrev b6:=PySem.W.boot_o_6
abbrev b7:=PySem.W.boot_o_7
abbrev b8:=PySem.W.boot_o_8
abbrev b9:=PySem.W.boot_o_9
abbrev FV:=PySem.W.boot_o_10
def ja:=tu #[]
def ki:Ob:=λ_=>O .none<|.fields #[]
def FW:=cC "<module>" 182 1 11 185
def GD:Ob:=λ_=>{(.type "frame"),none,.plain,#[(some<|R 13),(some<|R 3),(some<|R 3),none,(some<|S "__main__" 164),none,(some<|R 0)]}
def Mi:=tu #[(.type "ValueError")]
def H_:Ob:=λP=>O (.type "dict")<|.dict #[(E P "__module__" 196<|S "oncewise.errors" 187),(E P "__firstlineno__" 200<|I 2 199),(E P "__static_attributes__" 201<|R 22),(E P "__weakref__" 203<|R 25),(E P "__doc__" 204 .none)] 3
def Mj:=bI 24
def Ml:Ob:=λP=>dB P 196 198 "OnceError" 197 200 2 199 201 22
def Ia:Ob:=λ_=>O (.type "getset_descriptor")<|.fields #[S "__weakref__" 202,R 24,(.builtin "ExceptionGroup.__weakref__"),.none]
def Mm:=fR 20 17
def Ez:Ob:=λ_=>O (.type "builtin_function_or_method")<|.fields #[(.builtin "type.__prepare__"),(.type "type")]
def Mn:=cC "OnceError" 191 2 18 194
def Mo:=sU 24
def Mp:=bI 37
def Mq:=cC "BadText" 209 4 31 212
def Ib:=cS "BadText" 37 36 28 207 215
def Ic:Ob:=λP=>dA P 214 218 4 217 219 35 220
def GF:=tu #[R 24]
def Mr:=fR 33 30
def Ms:=sU 37
def Mt:Ob:=λP=>dB P 214 216 "BadText" 215 218 4 217 219 35
def Mu:=gX "is_leaf" 9
def Ie:=cF "turned" 272 16 1 66 277
def Mv:=bI 49
def Ig:=fX "is_leaf" 9 H9 64
def Ih:=cS "BadTree" 49 48 40 223 231
def Ii:=co "is_name" "is_name" 259 12 1 0 0 3 54 true 181 55 .none .none .none (R 56) 262
def Ij:Ob:=λP=>O (.type "dict")<|.dict #[(E P "plain" 246<|S "turned" 247),(E P "turned" 248<|S "plain" 249),(E P "both" 250<|S "either" 251),(E P "either" 252<|S "both" 253)] 4
def Mw:=cC "BadTree" 225 6 43 228
def Mx:=tn 268 ["word"]
def Ik:=cF "is_leaf" 265 14 1 59 269
def Il:Ob:=λP=>dA P 230 234 6 233 235 47 236
def Im:Ob:=λ_=>{(.type "type"),none,(.cls<|ClassData.mk (s "OnceError") [(.type "ValueError")] [R 24,(.type "ValueError"),(.type "Exception"),(.type "BaseException"),(.type "object")] 23 (s "OnceError") true [] [R 37,R 49] false none false),#[(some<|R 15),none,(some<|S "OnceError" 189),(some<|S "OnceError" 197),(some<|.builtin "ValueError.__new__"),(some<|.bool true)]}
def Io:=fX "turned" 10 H9 71
def My:=gX "is_name" 8
def Mz:=tn 275 ["word","kind"]
def Ip:=tn 243 ["plain","turned"]
def MA:=sU 49
def MB:Ob:=λP=>dB P 230 232 "BadTree" 231 234 6 233 235 47
def Iq:=fX "is_name" 8 H9 57
def MC:=gX "turned" 10
def MD:=fR 45 42
def ME:=fX "word_at" 12 m_ 78
def MF:=fX "is_cut" 22 m_ 142
def MG:=cF "each_once" 320 40 1 106 324
def MJ:=cF "can_be_cut" 348 53 2 130 353
def MK:=fX "places_there" 14 m_ 90
def MN:=fX "is_link" 20 m_ 128
def MO:=cF "parts_of" 304 31 1 92 308
def MQ:=fX "parts_in" 16 m_ 104
def MT:=co "are_knots" "are_knots" 333 46 1 0 0 3 118 true 181 119 .none .none .none (R 120) 336
def MU:=cF "holds_leaf" 291 27 1 80 295
def MV:=fX "parts_fit" 18 m_ 116
def MW:=cF "is_link" 339 49 3 123 345
def MX:=fX "each_once" 17 m_ 111
def MY:=fX "can_be_cut" 21 m_ 135
def MZ:=cF "parts_in" 311 35 1 99 317
def M5:=co "parts_fit" "parts_fit" 327 42 2 0 0 3 113 true 181 114 .none .none .none (R 115) 330
def M6:=fX "parts_of" 15 m_ 97
def M7:=co "places_there" "places_there" 298 29 1 0 0 3 87 true 181 88 .none .none .none (R 89) 301
def M8:=fX "are_knots" 19 m_ 121
def M9:=fX "holds_leaf" 13 m_ 85
def Na:=cF "word_at" 282 22 2 73 288
def Nb:=cF "is_cut" 356 55 3 137 362
def Nc:=fX "arms_of" 27 q_ 158
def Nd:=cF "places_of" 393 62 1 146 397
def Nf:Ob:=λP=>O (.type "dict")<|.dict #[(E P "link" 380<|I 0 381),(E P "either" 382<|I 1 383),(E P "both" 384<|I 2 385),(E P "cut" 386<|I 2 387)] 4
def Ng:=co "taken_by" "taken_by" 423 73 2 0 0 3 174 true 181 175 .none .none .none (R 176) 426
def Nh:=fX "demand" 31 q_ 184
def Ni:=fX "demand_told_once" 33 q_ 196
def Nj:=cF "rules_in" 407 66 1 160 413
def Nk:=fX "told_by" 29 q_ 172
def Nl:=co "ends_by" "ends_by" 437 85 2 0 0 3 186 true 181 187 .none .none .none (R 188) 440
def Nm:Ob:=λP=>O (.type "dict")<|.dict #[(E P "link" 367<|I 2 368),(E P "either" 369<|I 1 370),(E P "both" 371<|I 1 372),(E P "cut" 373<|I 2 374)] 4
def Nn:=fX "places_of" 26 q_ 151
def No:=cF "demand" 429 82 2 179 434
def Np:=cF "demand_told_once" 443 92 2 191 453
def Nq:=cF "told_by" 416 71 1 167 420
def Nr:=fX "taken_by" 30 q_ 177
def Nt:=fX "rules_in" 28 q_ 165
def Nu:=cF "arms_of" 400 64 1 153 404
def Nv:=fX "ends_by" 32 q_ 189
def Nw:=fX "number_from" 47 r_ 254
def Nx:=fX "words_in" 43 r_ 230
def Ny:=co "is_number" "is_number" 533 148 1 0 0 3 244 true 181 245 .none .none .none (R 246) 536
def Nz:Ob:=λP=>O (.type "dict")<|.dict #[(E P "+" 481<|S "plain" 482),(E P "-" 483<|S "turned" 484)] 2
def NA:=fX "rows_ahead" 45 r_ 242
def NB:=cF "fits" 456 103 2 198 461
def NC:=co "rows_in" "rows_in" 518 140 1 0 0 3 232 true 181 233 .none .none .none (R 234) 521
def ND:=fX "shown_knot" 41 r_ 218
def NE:=cF "written_knots" 501 132 1 220 509
def NF:=fX "checked_tree" 35 q_ 208
def NG:=cF "leaf_from" 546 156 1 256 552
def NH:=co "checked_tree" "checked_tree" 464 109 1 0 0 3 205 true 181 206 .none .none .none (R 207) 467
def NI:=fX "is_number" 46 r_ 247
def NJ:=tn 488 ["both","either"]
def NK:=fX "fits" 34 q_ 203
def NL:=fX "rows_in" 44 r_ 235
def NM:=fX "written_knots" 42 r_ 225
def NN:Ob:=λP=>O (.type "dict")<|.dict #[(E P "plain" 474<|S "+" 475),(E P "turned" 476<|S "-" 477)] 2
def NO:=cF "rows_ahead" 524 143 2 237 530
def NP:=cF "shown_knot" 491 123 1 213 498
def NQ:=fX "leaf_from" 48 r_ 261
def NR:=co "words_in" "words_in" 512 138 1 0 0 3 227 true 181 228 .none .none .none (R 229) 515
def NS:=cF "number_from" 539 152 1 249 543
def NT:=cF "knots_from" 562 170 1 270 569
def NU:Ob:=λP=>O (.type "dict")<|.dict #[(E P "__module__" 581<|S "oncewise.wordtext" 572),(E P "__firstlineno__" 585<|I 178 584),(E P "__init__" 593<|R 290),(E P "take" 601<|R 297),(E P "__static_attributes__" 604<|R 298),(E P "__dict__" 606<|R 301),(E P "__weakref__" 608<|R 302),(E P "__doc__" 609 .none)] 4
def NV:=cF "written_tree" 622 198 1 310 627
def NW:=co "__init__" "TokenWalk.__init__" 586 180 2 0 0 3 284 true 181 285 .none (R 286) (R 287) (R 288) 591
def NX:=fo<|FN "take" "TokenWalk.take" (GC 52 1) .none .none .none (S "oncewise.wordtext" 572) none (R 296) .none
def NY:=fX "shown_rule" 55 FU 308
def NZ:=fX "knot_from" 49 r_ 268
def N0:Ob:=λ_=>O (.type "getset_descriptor")<|.fields #[S "__dict__" 605,R 300,(.builtin "function.__dict__"),(.builtin "function.__dict__#set")]
def N1:=co "take" "TokenWalk.take" 594 184 1 0 0 3 291 true 181 292 .none (R 293) (R 294) (R 295) 599
def N2:=fX "knots_from" 50 r_ 275
def N3:=co "shown_rule" "shown_rule" 616 192 1 0 0 3 305 true 181 306 .none .none .none (R 307) 619
def N4:=cF "knot_from" 555 162 1 263 559
def N5:Ob:=λ_=>{(.type "type"),none,(.cls<|ClassData.mk (s "TokenWalk") [(.type "object")] [R 300,(.type "object")] 299 (s "TokenWalk") true [] [] false none false),#[none,none,(some<|S "TokenWalk" 574),(some<|S "TokenWalk" 582),(some<|.builtin "object.__new__"),(some<|.bool true)]}
def N6:=fX "written_tree" 56 FU 315
def N7:=fo<|FN "__init__" "TokenWalk.__init__" (GC 52 0) .none .none .none (S "oncewise.wordtext" 572) none (R 289) .none
def N8:Ob:=λ_=>O (.type "getset_descriptor")<|.fields #[S "__weakref__" 607,R 300,(.builtin "ExceptionGroup.__weakref__"),.none]
def N9:=cF "_law_mix" 664 230 3 338 670
def N':=fX "rule_from" 57 FU 322
def Oa:=cF "_law_word" 679 241 2 350 685
def Oc:=fX "_law_flip" 64 qG 362
def Od:=fX "read_tree" 59 FU 336
def Oe:=cF "_law_weight" 696 251 1 364 700
def Of:=co "_law_cut" "_law_cut" 735 284 4 0 0 3 390 true 181 391 .none .none .none (R 392) 738
def Og:=cF "outermost_from" 641 213 1 324 648
def Oh:=fX "_law_mirror" 66 qG 376
def Oi:=fX "_law_fold" 68 qG 388
def Oj:=fX "_law_name" 62 qG 348
def Ol:=co "_law_join" "_law_join" 717 268 4 0 0 3 378 true 181 379 .none .none .none (R 380) 720
def Om:=cF "read_tree" 651 220 1 331 659
def Oo:=fX "_law_mix" 61 qG 343
def Op:=cF "_law_mirror" 703 255 2 371 714
def Oq:=cF "_law_fold" 723 276 4 383 732
def Ot:=fX "_law_word" 63 qG 355
def Ou:=co "_law_name" "_law_name" 673 232 2 0 0 3 345 true 181 346 .none .none .none (R 347) 676
def Ov:=cF "rule_from" 630 201 2 317 638
def Ow:=fX "_law_weight" 65 qG 369
def Ox:=fX "_law_cut" 69 qG 393
def Oy:=fX "outermost_from" 58 FU 329
def Oz:=cF "_law_flip" 688 246 1 357 693
def OA:=fX "_law_join" 67 qG 381
def OB:Ob:=λP=>O (.type "dict")<|.dict #[(E P "__name__" 165<|S "law_oncewise_k24_texts_and_back" 662),(E P "__doc__" 166 .none),(E P "__package__" 167 .none),(E P "__loader__" 168<|.builtin "__main__.__loader__#opaque"),(E P "__spec__" 169 .none),(E P "__annotations__" 170<|R 6),(E P "__builtins__" 171<|R 4),(E P "__file__" 173<|S "/claim/cut.py" 172),(E P "__cached__" 174 .none),(E P "OnceError" 206<|R 24),(E P "BadText" 222<|R 37),(E P "BadTree" 238<|R 49),(E P "MOST_LETTERS" 242<|I 8 241),(E P "LEAF_KINDS" 245<|R 52),(E P "TURNED_KINDS" 258<|R 53),(E P "is_name" 264<|R 58),(E P "is_leaf" 271<|R 65),(E P "turned" 279<|R 72),(E P "word_at" 290<|R 79),(E P "holds_leaf" 297<|R 86),(E P "places_there" 303<|R 91),(E P "parts_of" 310<|R 98),(E P "parts_in" 319<|R 105),(E P "each_once" 326<|R 112),(E P "parts_fit" 332<|R 117),(E P "are_knots" 338<|R 122),(E P "is_link" 347<|R 129),(E P "can_be_cut" 355<|R 136),(E P "is_cut" 364<|R 143),(E P "PLACE_COUNTS" 379<|R 144),(E P "ARM_COUNTS" 392<|R 145),(E P "places_of" 399<|R 152),(E P "arms_of" 406<|R 159),(E P "rules_in" 415<|R 166),(E P "told_by" 422<|R 173),(E P "taken_by" 428<|R 178),(E P "demand" 436<|R 185),(E P "ends_by" 442<|R 190),(E P "demand_told_once" 455<|R 197),(E P "fits" 463<|R 204),(E P "checked_tree" 469<|R 209),(E P "MOST_FIGURES" 473<|I 4 472),(E P "LEAF_SIGNS" 480<|R 210),(E P "SIGN_KINDS" 487<|R 211),(E P "KNOT_KINDS" 490<|R 212),(E P "shown_knot" 500<|R 219),(E P "written_knots" 511<|R 226),(E P "words_in" 517<|R 231),(E P "rows_in" 523<|R 236),(E P "rows_ahead" 532<|R 243),(E P "is_number" 538<|R 248),(E P "number_from" 545<|R 255),(E P "leaf_from" 554<|R 262),(E P "knot_from" 561<|R 269),(E P "knots_from" 571<|R 276),(E P "TokenWalk" 611<|R 300),(E P "MOST_WITHIN" 615<|I 150 614),(E P "shown_rule" 621<|R 309),(E P "written_tree" 629<|R 316),(E P "rule_from" 640<|R 323),(E P "outermost_from" 650<|R 330),(E P "read_tree" 661<|R 337),(E P "_law_mix" 672<|R 344),(E P "_law_name" 678<|R 349),(E P "_law_word" 687<|R 356),(E P "_law_flip" 695<|R 363),(E P "_law_weight" 702<|R 370),(E P "_law_mirror" 716<|R 377),(E P "_law_join" 722<|R 382),(E P "_law_fold" 734<|R 389),(E P "_law_cut" 740<|R 394),(E P "_law_order" 752<|R 401),(E P "_law_moved" 758<|R 406),(E P "_law_renamed" 771<|R 413),(E P "_law_tree" 788<|R 420),(E P "_law_arms" 795<|R 427),(E P "_law_gathered" 807<|R 434),(E P "_law_lines" 819<|R 441),(E P "_law_rule_words" 825<|R 446),(E P "_law_alike" 834<|R 453),(E P "_law_loose" 848<|R 460),(E P "_law_within" 857<|R 467),(E P "law" 863<|R 472)] 83
def OC:=co "law" "law" 858 431 1 0 0 3 468 true 181 469 .none .none .none (R 470) 861
def OD:=cF "_law_tree" 772 327 3 414 786
def OE:=fX "_law_within" 80 qG 466
def OF:=cF "_law_loose" 835 412 2 454 846
def OG:=fX "_law_arms" 74 qG 426
def OH:=fX "_law_order" 70 qG 400
def OI:=cF "_law_gathered" 796 362 1 428 805
def OJ:=fX "_law_lines" 76 qG 440
def OK:=fX "_law_alike" 78 qG 452
def OL:=co "_law_moved" "_law_moved" 753 314 2 0 0 3 402 true 181 403 .none .none .none (R 404) 756
def OM:=fX "_law_renamed" 72 qG 412
def ON:=co "_law_rule_words" "_law_rule_words" 820 388 1 0 0 3 442 true 181 443 .none .none .none (R 444) 823
def Ir:=cF "_law_order" 741 306 2 395 750
def OO:=fX "law" 81 qG 471
def OP:=cF "_law_lines" 808 376 1 435 817
def OQ:=cF "_law_alike" 826 397 2 447 832
def OR:=fX "_law_tree" 73 qG 419
def OS:=fX "_law_loose" 79 qG 459
def OT:=cF "_law_renamed" 759 319 3 407 769
def OU:=cF "_law_within" 849 425 2 461 855
def OV:=fX "_law_gathered" 75 qG 433
def OW:=cF "_law_arms" 789 356 1 421 793
def OX:=fX "_law_moved" 71 qG 405
def OY:=fX "_law_rule_words" 77 qG 445
def ayu:List Ob:=[b0,b1,b2,b3,b4,b5,b6,b7,b8,b9,FV,ja,ki,FW,GD]
def au9:List Ob:=[b0,b1,b2,OB,b4,b5,b6,b7,b8,b9,FV,ja,λ_=>O .none<|.fields<|lt [(2,20),(4,33),(6,45),(12,57),(14,64),(16,71),(22,78),(27,85),(29,90),(31,97),(35,104),(40,111),(42,116),(46,121),(49,128),(53,135),(55,142),(62,151),(64,158),(66,165),(71,172),(73,177),(82,184),(85,189),(92,196),(103,203),(109,208),(123,218),(132,225),(138,230),(140,235),(143,242),(148,247),(152,254),(156,261),(162,268),(170,275),(178,282),(192,308),(198,315),(201,322),(213,329),(220,336),(230,343),(232,348),(241,355),(246,362),(251,369),(255,376),(268,381),(276,388),(284,393),(306,400),(314,405),(319,412),(327,419),(356,426),(362,433),(376,440),(388,445),(397,452),(412,459),(425,466),(431,471)],FW,GD,Mi,Ez,Ml,ja,ki,Mn,Mm,ja,H_,Im,Ia,Mo,Mj,GF,Ez,Mt,ja,ki,Mq,Mr,ja,Ic,Ib,Ms,Mp,GF,Ez,MB,ja,ki,Mw,MD,ja,Il,Ih,MA,Mv,Ip,Ij,ja,ki,My,Ii,Iq,ja,ki,Mx,ja,Mu,Ik,Ig,ja,ki,Mz,ja,MC,Ie,Io,ja,ki,tn 285 ["knots","place","knot"],ja,gX "word_at" 12,Na,ME,ja,ki,tn 294 ["knot"],ja,gX "holds_leaf" 13,MU,M9,ja,ki,gX "places_there" 14,M7,MK,ja,ki,tn 307 ["knot"],ja,gX "parts_of" 15,MO,M6,ja,ki,tn 314 ["knots","parts","knot"],ja,gX "parts_in" 16,MZ,MQ,ja,ki,tn 323 ["places"],ja,gX "each_once" 17,MG,MX,ja,ki,gX "parts_fit" 18,M5,MV,ja,ki,gX "are_knots" 19,MT,M8,ja,ki,tn 342 ["knots","p","q"],ja,gX "is_link" 20,MW,MN,ja,ki,tn 351 ["knots","place"],ja,gX "can_be_cut" 21,MJ,MY,ja,ki,tn 359 ["knots","p","q"],ja,gX "is_cut" 22,Nb,MF,Nm,Nf,ja,ki,tn 396 ["rule"],ja,gX "places_of" 26,Nd,Nn,ja,ki,tn 403 ["rule"],ja,gX "arms_of" 27,Nu,Nc,ja,ki,tn 410 ["rule","rules","arm"],ja,gX "rules_in" 28,Nj,Nt,ja,ki,tn 419 ["rule"],ja,gX "told_by" 29,Nq,Nk,ja,ki,gX "taken_by" 30,Ng,Nr,ja,ki,tn 432 ["holds","words"],ja,gX "demand" 31,No,Nh,ja,ki,gX "ends_by" 32,Nl,Nv,ja,ki,tn 446 ["knots","rule","there","told","due","here","place"],ja,gX "demand_told_once" 33,Np,Ni,ja,ki,tn 459 ["knots","rule"],ja,gX "fits" 34,NB,NK,ja,ki,gX "checked_tree" 35,NH,NF,NN,Nz,NJ,ja,ki,tn 494 ["knot","kind","left","right"],ja,gX "shown_knot" 41,NP,ND,ja,ki,tn 504 ["knots","lines","place","knot","shown"],ja,gX "written_knots" 42,NE,NM,ja,ki,gX "words_in" 43,NR,Nx,ja,ki,gX "rows_in" 44,NC,NL,ja,ki,tn 527 ["rows","word","count"],ja,gX "rows_ahead" 45,NO,NA,ja,ki,gX "is_number" 46,Ny,NI,ja,ki,tn 542 ["word"],ja,gX "number_from" 47,NS,Nw,ja,ki,tn 549 ["word","sign","name"],ja,gX "leaf_from" 48,NG,NQ,ja,ki,tn 558 ["words"],ja,gX "knot_from" 49,N4,NZ,ja,ki,tn 565 ["rows","knots","place","row"],ja,gX "knots_from" 50,NT,N2,ja,Ez,λP=>O (.type "dict")<|.dict #[(E P "__module__" 581<|S "oncewise.wordtext" 572),(E P "__qualname__" 583<|S "TokenWalk" 582),(E P "__firstlineno__" 585<|I 178 584),(E P "__init__" 593<|R 290),(E P "take" 601<|R 297),(E P "__static_attributes__" 604<|R 298)] 6,ja,λ_=>O .none<|.fields #[I 180 0,I 4 0,R 289,I 184 0,I 4 0,R 296],cC "TokenWalk" 576 178 280 579,λ_=>{(.type "frame"),none,.plain,#[(some<|R 282),(some<|R 3),(some<|R 279),none,(some<|S "oncewise.wordtext" 572),none,(some<|R 0)]},ja,ki,tn 589 ["self","tokens"],ja,go<|FG "__init__" "TokenWalk.__init__"<|GC 52 0,NW,N7,ja,ki,tn 597 ["self","token"],ja,go<|FG "take" "TokenWalk.take"<|GC 52 1,N1,NX,tn 602 ["at","tokens"],NU,N5,N0,N8,sU 300,bI 300,ja,ki,gX "shown_rule" 55,N3,NY,ja,ki,tn 625 ["tree","shown"],ja,gX "written_tree" 56,NV,N6,ja,ki,tn 633 ["walk","within","kind","parts","count"],ja,gX "rule_from" 57,Ov,N',ja,ki,tn 644 ["words","walk","rule","behind"],ja,gX "outermost_from" 58,Og,Oy,ja,ki,tn 654 ["text","rows","knot_rows","tree_rows","tree"],ja,gX "read_tree" 59,Om,Od,ja,ki,tn 667 ["_law_cell","_law_k","_law_factor"],ja,gX "_law_mix" 61,N9,Oo,ja,ki,gX "_law_name" 62,Ou,Oj,ja,ki,tn 682 ["_law_knots","_law_p","_law_knot"],ja,gX "_law_word" 63,Oa,Ot,ja,ki,tn 691 ["_law_word_here","_law_sides"],ja,gX "_law_flip" 64,Oz,Oc,ja,ki,tn 699 ["_law_word_here"],ja,gX "_law_weight" 65,Oe,Ow,ja,ki,tn 706 ["_law_knots","_law_word_here","_law_left","_law_right","_law_turn","_law_same","_law_low","_law_high"],ja,gX "_law_mirror" 66,Op,Oh,ja,ki,gX "_law_join" 67,Ol,OA,ja,ki,tn 726 ["_law_knots","_law_tree_here","_law_one","_law_two","_law_left","_law_right"],ja,gX "_law_fold" 68,Oq,Oi,ja,ki,gX "_law_cut" 69,Of,Ox,ja,ki,tn 744 ["_law_knots","_law_seed","_law_p","_law_knot","_law_rank"],tn 749 ["_law_ranks"],gX "_law_order" 70,Ir,OH,ja,ki,gX "_law_moved" 71,OL,OX,ja,ki,tn 762 ["_law_knots","_law_rule","_law_seed","_law_at","_law_made","_law_p","_law_knot"],ja,gX "_law_renamed" 72,OT,OM,ja,ki,tn 775 ["_law_cells","_law_seed","_law_room","_law_knots","_law_forest","_law_k","_law_cell","_law_one","_law_two","_law_deed","_law_at"],ja,gX "_law_tree" 73,OD,OR,ja,ki,tn 792 ["_law_rule"],ja,gX "_law_arms" 74,OW,OG,ja,ki,tn 799 ["_law_rule","_law_links","_law_cuts","_law_told","_law_stack","_law_one"],ja,gX "_law_gathered" 75,OI,OV,ja,ki,tn 811 ["_law_knots","_law_lines_here","_law_p","_law_knot","_law_sign","_law_parts"],ja,gX "_law_lines" 76,OP,OJ,ja,ki,gX "_law_rule_words" 77,ON,OY,ja,ki,tn 829 ["_law_found","_law_due","_law_k"],ja,gX "_law_alike" 78,OQ,OK,ja,ki,tn 838 ["_law_lines_here","_law_cells","_law_text","_law_j","_law_line","_law_number","_law_w","_law_word_here"],ja,gX "_law_loose" 79,OF,OS,ja,ki,tn 852 ["_law_rule","_law_number","_law_arms_here"],ja,gX "_law_within" 80,OU,OE,ja,ki,gX "law" 81,OC,OO]
def ayv:List Ob:=[b0,b1,b2,b3,b4,b5,b6,b7,b8,b9,FV,ja,ki,FW,GD]
def ayn:List Ob:=[b0,b1,b2,λP=>O (.type "dict")<|.dict #[(E P "__name__" 165<|S "oncewise.words" 239),(E P "__doc__" 166 .none),(E P "__package__" 167 .none),(E P "__loader__" 168<|.builtin "__main__.__loader__#opaque"),(E P "__spec__" 169 .none),(E P "__annotations__" 170<|R 6),(E P "__builtins__" 171<|R 4),(E P "__file__" 173<|S "/claim/cut.py" 172),(E P "__cached__" 174 .none),(E P "OnceError" 206<|R 24),(E P "BadText" 222<|R 37),(E P "BadTree" 238<|R 49),(E P "MOST_LETTERS" 242<|I 8 241),(E P "LEAF_KINDS" 245<|R 52),(E P "TURNED_KINDS" 258<|R 53),(E P "is_name" 264<|R 58),(E P "is_leaf" 271<|R 65),(E P "turned" 279<|R 72)] 18,b4,b5,b6,b7,b8,b9,FV,ja,λ_=>O .none<|.fields #[I 2 0,I 0 0,R 20,I 4 0,I 0 0,R 33,I 6 0,I 0 0,R 45,I 12 0,I 0 0,R 57,I 14 0,I 0 0,R 64,I 16 0,I 0 0,R 71],FW,GD,Mi,Ez,Ml,ja,ki,Mn,Mm,ja,H_,Im,Ia,Mo,Mj,GF,Ez,Mt,ja,ki,Mq,Mr,ja,Ic,Ib,Ms,Mp,GF,Ez,MB,ja,ki,Mw,MD,ja,Il,Ih,MA,Mv,Ip,Ij,ja,ki,My,Ii,Iq,ja,ki,Mx,ja,Mu,Ik,Ig,ja,ki,Mz,ja,MC,Ie,Io]
def a02:List Ob:=au9
def ZK(P:Params):aao:={{ayu.map (· P)},{}}
def GG(P:Params):aao:={{au9.map (· P)},{}}
def ZL(P:Params):BT:=bt 20 (ayv.map (· P))
def ZM(P:Params):BT:=bt 20 (ayn.map (· P))
def ZN(P:Params):BT:=bt 20 (a02.map (· P))
def sA(w:aan)(os:OsState):aal:={ZK w.params,#[],{},187,os}
def sZ(w:aan)(os:OsState):aal:={GG w.params,#[],{},864,os}
def fq(w:aan)(os:OsState):SharedT:={ZL w.params,15,{},#[],{},187,os}
def aa(w:aan)(os:OsState):SharedT:={ZM w.params,73,{},#[],{},280,os}
def GH(w:aan)(os:OsState):SharedT:={ZN w.params,473,{},#[],{},864,os}
def FX:aae:=((behindTheImports p).drop 0).take 11
def Fq:aae:=((behindTheImports p).drop 11).take 71
theorem ZO(w:aan):(λos=>topGo treeTable p w 11 an 12 {boot_heap w.params,#[],boot_drawn,boot_toks,os}<|topStub p)=λos=>some (sA w os,{denote treeTable cE,cE,{0,0,0,0},[topFrame q0]}):=by kernel_rfl
theorem ZP(w:aan):(λos=>segRun treeTable p w 11 an 1 1 (sA w os)<|blockOf (behindTheImports p) env0 cE {0,0,0,0} [topFrame q0])=λos=>some (.next,(fq w os).abs,cE,{0,0,0,0}):=by kernel_rfl
theorem ZQ(w:aan):Pc 809 fq aa FX ⟨0,0,0,0⟩ ⟨16,0,20,51⟩ (w.withFollow "special-get-raises" false):=by kernel_rfl
theorem ZR(w:aan):Pc 809 fq aa FX ⟨0,0,0,0⟩ ⟨16,0,20,51⟩ (w.withFollow "special-get-raises" true):=by kernel_rfl
theorem ZS:∀w,Pc 809 fq aa FX ⟨0,0,0,0⟩ ⟨16,0,20,51⟩ w:=byRow2 "special-get-raises" ZQ ZR
theorem ZT(w:aan):Pc 2274 aa GH Fq ⟨16,0,20,51⟩ ⟨431,0,449,74⟩ (w.withFollow "special-get-raises" false):=by kernel_rfl
theorem ZU(w:aan):Pc 2274 aa GH Fq ⟨16,0,20,51⟩ ⟨431,0,449,74⟩ (w.withFollow "special-get-raises" true):=by kernel_rfl
theorem ZV:∀w,Pc 2274 aa GH Fq ⟨16,0,20,51⟩ ⟨431,0,449,74⟩ w:=byRow2 "special-get-raises" ZT ZU
theorem ZW(w:aan):(λos=>topRun treeTable p w 11 an 2 (GH w os).abs {doneF .next,cE,{431,0,449,74},[topFrame q0]})=λos=>some (sZ w os):=by kernel_rfl
theorem ZX:FX++(Fq++([]))=behindTheImports p:=by kernel_rfl
theorem ZY(w:aan)(os:OsState):topRun treeTable p w 11 an (12+(1+(809+(2274+(2))))) ⟨boot_heap w.params,#[],boot_drawn,boot_toks,os⟩ (topStub p)=some (sZ w os):=by have h:=(piece_app (l:=FX) (rest:=Fq++([])) (segRun_of<|DG (ZS w) os)<|piece_app (l:=Fq) (rest:=[]) (segRun_of<|DG (ZV w) os)<|piece_nil (env:=env0)<|DG (ZW w) os);rw[ZX] at h;exact go_top (DG (ZO w) os)<|piece_block (DG (ZP w) os) h
def as0:aab:=[0,1,2,3,4,5,6,7,8,9,10,13,23,24,25,36,37,48,49,52,53,57,58,64,65,71,72,78,79,85,86,90,91,97,98,104,105,111,112,116,117,121,122,128,129,135,136,142,143,144,145,151,152,158,159,165,166,172,173,177,178,184,185,189,190,196,197,203,204,208,209,210,211,212,218,219,225,226,230,231,235,236,242,243,247,248,254,255,261,262,268,269,275,276,289,290,296,297,299,300,301,302,308,309,315,316,322,323,329,330,336,337,343,344,348,349,355,356,362,363,369,370,376,377,381,382,388,389,393,394,396,400,401,405,406,412,413,419,420,426,427,433,434,440,441,445,446,452,453,459,460,466,467,471,472]
def vw:aam:={p with main:={p.main with body:=[top 1,top 2,top 3,top 5,top 6,top 7,top 8,top 9,top 10,top 12,top 13,top 14,top 15,top 16,top 17,top 18,top 19,top 20,top 21,top 22,top 24,top 25,top 26,top 27,top 28,top 29,top 30,top 31,top 32,top 33,top 34,top 35,top 37,top 38,top 39,top 40,top 41,top 42,top 43,top 44,top 45,top 46,top 47,top 48,top 49,top 50,top 52,top 54,top 55,top 56,top 57,top 58,top 59,top 61,top 62,top 63,top 64,top 65,top 66,top 67,top 68,top 69,top 70,top 71,top 72,top 73,top 74,top 75,top 76,top 77,top 78,top 79,top 80,top 81]}}
local macro_rules|`(%[$a:num,$b|$p])=>`([(nat_lit $a,$b $p)])|`(%[$a:num,$b,$c,*|$p])=>`((nat_lit $a,$b $p)::%[$c,*|$p])
def K0:Params->Frag:=λP=>%[0,b0,1,b1,2,b2,3,OB,4,b4,5,b5,6,b6,7,b7,8,b8,9,b9,10,FV,13,FW,23,H_,24,Im,25,Ia,36,Ic,37,Ib,48,Il,49,Ih,52,Ip,53,Ij,57,Ii,58,Iq,64,Ik,65,Ig,71,Ie,72,Io,78,Na,79,ME,85,MU,86,M9,90,M7,91,MK,97,MO,98,M6,104,MZ,105,MQ,111,MG,112,MX,116,M5,117,MV,121,MT,122,M8,128,MW,129,MN,135,MJ,136,MY,142,Nb,143,MF,144,Nm,145,Nf,151,Nd,152,Nn,158,Nu,159,Nc,165,Nj,166,Nt,172,Nq,173,Nk,177,Ng,178,Nr,184,No,185,Nh,189,Nl,190,Nv,196,Np,197,Ni,203,NB,204,NK,208,NH,209,NF,210,NN,211,Nz,212,NJ,218,NP,219,ND,225,NE,226,NM,230,NR,231,Nx,235,NC,236,NL,242,NO,243,NA,247,Ny,248,NI,254,NS,255,Nw,261,NG,262,NQ,268,N4,269,NZ,275,NT,276,N2,289,NW,290,N7,296,N1,297,NX,299,NU,300,N5,301,N0,302,N8,308,N3,309,NY,315,NV,316,N6,322,Ov,323,N',329,Og,330,Oy,336,Om,337,Od,343,N9,344,Oo,348,Ou,349,Oj,355,Oa,356,Ot,362,Oz,363,Oc,369,Oe,370,Ow,376,Op,377,Oh,381,Ol,382,OA,388,Oq,389,Oi,393,Of,394,Ox,396,ki,400,Ir,401,OH,405,OL,406,OX,412,OT,413,OM,419,OD,420,OR,426,OW,427,OG,433,OI,434,OV,440,OP,441,OJ,445,ON,446,OY,452,OQ,453,OK,459,OF,460,OS,466,OU,467,OE,471,OC,472,OO|P]
abbrev lamC:Nat:=400
abbrev lamT:Nat:=396
abbrev lamO:Ob:=Ir
abbrev ls:aac:=[Str.ofString "TURNED_KINDS",Str.ofString "PLACE_COUNTS",Str.ofString "ARM_COUNTS",Str.ofString "LEAF_SIGNS",Str.ofString "SIGN_KINDS"]
abbrev Xt:aal->Bool:=λs=>xlAt vw [] s&&recOk (RowW.records rr.row.toRowW) s
theorem ZZ(w:aan):((boot_heap w.params).isNs mainGlobals&&(#[]:Array GenState).size==0,(boot_heap w.params).objs.size,(boot_heap w.params).nsMap mainGlobals "__annotations__")=(true,11,an):=by kernel_rfl
theorem Z0:opening p=plainProg p.main.scope.names:=by kernel_rfl
theorem Z1(s:aal):fenceModules? p s=some s:=by kernel_rfl
theorem Z2(w:aan):(λos=>(staticsOk (importedModules p.main.body) (boot_heap w.params) (GG w.params)&&namesBound p (GG w.params)&&gensDone (sZ w os)&&laidKept (boot_heap w.params) (GG w.params)))=λ_=>true:=by kernel_rfl
theorem Z3(w:aan):(λos=>openSeen vw ls (importedModules p.main.body) Xt true<|sZ w os)=λ_=>openGood vw ls:=by kernel_rfl
theorem Z4(w:aan):(λos=>obsZ as0<|sZ w os)=λ_=>valZ K0 473 864 w:=by kernel_rfl
theorem left_:LeftO p vw ls Xt (obsZ as0) (valZ K0 473 864) 6274:=LeftO.of_pieces (boot_open Z0 rfl Z1) ZZ ZY rfl λw=>funext λos=>looks_pair (DG (Z2 w) os)<|looks_pair (DG (Z3 w) os)<|DG (Z4 w) os
end
end H24
open PySem PySem.W PyProof.Rows
set_option maxRecDepth 100000 in
set_option maxHeartbeats 0 in
theorem PySem.Challenge.cw_oncewise_k24_texts_and_back_holds : PySem.Challenge.rw_oncewise_k24_texts_and_back.Holds := by
 w_on;refine holds_law (by unfold OpenLaw.wellSaid OpenRow.wellSaid OpenRow.partSaid looksOpen;walk_at "y";walk_at "y";walk_at "y";walk_at "y";walk_at "y";walk_at "y";all_goals decide +kernel) λJ=>?_
 refine holds_openX (q:=H24.vw) (loose:=H24.ls) (Xt:=H24.Xt) (XP:=XL H24.vw []) (Yf:=PySem.W.X.obsZ H24.as0) (Ya:=PySem.W.X.valZ H24.K0 473 864) (N:=6274) H24.left_ (λs e=>xl_of s (Bool.and_eq_true_iff.mp e).1)
  XL.keeps (by rfl) (by rfl) (by rfl) (λs e=>recFacts_of (Bool.and_eq_true_iff.mp e).2)
  (by rfl) (by decide +kernel) (by decide +kernel) ⟨rfl,rfl,rfl,rfl,rfl,by decide +kernel⟩ ?hw ?hc
 case hw=>w_witness2
 k_fill
 refine L2.walk_ofZT (l:=PySem.Challenge.rw_oncewise_k24_texts_and_back) (n:=63) (k:=130) (x:="_law_script") (CX:=L2.CX0) (sp:=L2._R L2.lamQ) rfl (by decide) rfl {rfl,by decide,by decide} (λ_=>rfl) (by decide) ?F ?S ?C
 case F=>
  intro w r t h g G I;have T:(H24.K0 w.params).lookup H24.lamT=some (PySem.W.tabObj #[]):=by k_is
  have U:(H24.K0 w.params).lookup H24.lamC=some (H24.lamO w.params):=by k_is
  have hd:∀h:aao,h.get? H24.lamC=some (H24.lamO w.params)->PySem.W.CodeHd h H24.lamC H24.lamT:=λh e=>{_,_,_,_,_,_,_,_,_,e,rfl,rfl,rfl,rfl,rfl,rfl,rfl,rfl,by decide};have j:(H24.K0 w.params).lookup 4=some (PySem.W.boot_o_4 w.params):=by k_is
  have o:L2._n (L2.GM H24.lamT<|H24.K0 w.params) "_law_order" L2.SC H24.lamT:=by
   refine' K24.def_inT (L2.Pv T ?a) (L2._a T ?l ?n) (L2.code_dn T ?c) (L2._E T ?k) ?LC
   (case a=>k_is);(case l=>k_is);(case n=>(intro e;cases e));(case c=>k_is);(case k=>k_is)
   refine'{{H24.lamC,_,rfl,L2._a T U ?m,hd},{4,_,L2.Pv T ?b,by decide,by decide,L2._a T j ?p,rfl,rfl,rfl}}
   (case m=>(intro e;cases e));(case b=>k_is);(case p=>(intro e;cases e))
  refine{H24.lamT,{T,{H24.lamC,λh X=>hd h<|X _ _ U},by decide},?_};refine' K24.all_mk (K:=L2.GM H24.lamT<|H24.K0 w.params) (L2.lessK_in g) G I ?D ?D34 ?D35 ?D50 ?zA5 ?zC2 ?zC3 ?zA6 ?zA7 ?zA8 ?zA9 ?zB0 ?zB1 ?zC4 ?zC5 ?zC6 ?zB2 ?zC7 ?zC8 ?zC9 ?zD0 ?zD1 ?zB9 ?zD2 ?zD3 ?zD4 ?zD5 ?zD6 ?zC0 ?zC1 ?xf ?zall ?zlen ?zenumerate ?zset ?zrange ?zany ?zlist ?zzip ?zint ?zstr ?ztuple ?zmax ?zsorted ?zmin ?zisinstance ?zreversed ?zbool
  (case zD5=>(refine' L2.Pv T ?_;k_is))
  (case D=>(constructor<;>(refine' L2.def_in (L2.Pv T ?a) (L2._a T ?l ?n) (L2.code_dn T ?c)<|L2._E T ?k;(case a=>k_is);(case l=>k_is);(case n=>(intro e;cases e));(case c=>k_is);(case k=>k_is))))
  (case D34|D35=>refine' L2.meth_in ((L2.SL T).trans ?a) (L2._a T ?l ?n) (L2.code_dn T ?c) (L2._E T ?k)<|L2.isFn_dn T ?i;(case a=>k_is);(case l=>k_is);(case n=>(intro e;cases e));(case c=>k_is);(case k=>k_is);(case i=>k_is))
  (case D50=>exact o)
  (case zA5=>(refine' L2.Pv T ?_;k_is))
  (case zC2=>(refine' L2.Pv T ?_;k_is))
  (case zC3=>(refine' L2._a T ?x ?n;(case x=>k_is);(case n=>(intro e;cases e))))
  (case zA6=>(refine' L2.Pv T ?_;k_is))
  (case zA7=>(refine' L2._a T ?x ?n;(case x=>k_is);(case n=>(intro e;cases e))))
  (case zA8=>rfl)
  (case zA9=>(refine' L2.Pv T ?_;k_is))
  (case zB0=>(refine' L2._a T ?x ?n;(case x=>k_is);(case n=>(intro e;cases e))))
  (case zB1=>rfl)
  (case zC4=>(refine' L2.Pv T ?_;k_is))
  (case zC5=>(refine' L2._a T ?x ?n;(case x=>k_is);(case n=>(intro e;cases e))))
  (case zC6=>rfl)
  (case zB2=>(refine' L2.Pv T ?_;k_is))
  (case zC7=>(refine' L2.Pv T ?_;k_is))
  (case zC8=>(refine' L2._a T ?x ?n;(case x=>k_is);(case n=>(intro e;cases e))))
  (case zC9=>rfl)
  (case zD0=>(refine' L2.Pv T ?_;k_is))
  (case zD1=>(refine' L2._a T ?x ?n;(case x=>k_is);(case n=>(intro e;cases e))))
  (case zB9=>(refine' L2.Pv T ?_;k_is))
  (case zD2=>(refine' L2.Pv T ?_;k_is))
  (case zD3=>(refine' L2._a T ?x ?n;(case x=>k_is);(case n=>(intro e;cases e))))
  (case zD4=>rfl)
  (case zD6=>refine' L2._D.dn T ?_;refine' L2._D.mk ?pg ?hd ?po ?sa;(case pg=>k_is);(case hd=>k_is);(case po=>k_is);(case sa=>k_is))
  (case zC0=>(refine' L2.makes_dn T ?_;k_is))
  (case zC1=>(refine' L2._E T ?_;k_is))
  (case xf=>(refine' L2.XFW.dn T ?_;(refine' L2.XFW.mk ?cl ?nt ?na;(case cl=>(refine' L2._D.mk ?pg ?hd ?po ?sa;(case pg=>k_is);(case hd=>k_is);(case po=>k_is);(case sa=>k_is)));(case nt=>(unfold L2.Os;k_is));(case na=>(unfold L2.Os;k_is)))))
  (case zall|zlen|zenumerate|zset|zrange|zany|zlist|zzip|zint|zstr|ztuple|zmax|zsorted|zmin|zisinstance|zreversed|zbool=>(refine' L2.Pv T ?_;k_is))
 case S=>exact L2.top_startT
 case C=>exactλ_ _ _ _ z=>z
#print axioms PySem.Challenge.cw_oncewise_k24_texts_and_back_holds
