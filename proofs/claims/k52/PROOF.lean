import PyProof.Rows.All
import KE.KDictOf
import KE.KFromBytes
import KE.KLam
import KE.KRevIter
import KE.KRevSl
import KE.KSortTup
import KE.KTryMore
import KE.LcSums
import OpenK.ZHead
import PySem.Challenge.RW_oncewise_k52_right_stays_right
set_option genSizeOf false
set_option genInjectivity false
set_option bootstrap.genMatcherCode false
set_option compiler.extract_closed false
set_option hygiene false
local macro_rules|`(tactic| walk_at "t")=>`(tactic| (first|assumption|exact Nat.succ_pos _|exact z9.tk (by assumption)|exact Nat.lt_of_lt_of_le (z9.tk (by assumption)) (Nat.le_add_right _ _)|exact Nat.lt_of_lt_of_le (z9.tk (by assumption)) (by assumption)))
set_option hygiene true
local macro_rules|`(tactic| walk_at "w")=>`(tactic| conv=>whnf)
local macro_rules|`(tactic| walk_at "y")=>`(tactic| ((refine PySem.W.look_both ?_ ?_);(refine PySem.W.look_both ?_ ?_);(refine PySem.W.look_both ?_ ?_);(refine PySem.W.look_both ?_ ?_);(refine PySem.W.look_both ?_ ?_);(refine PySem.W.look_both ?_ ?_)))
local macro_rules(kind:=«term{_}»)|s=>return Lean.Syntax.node .none `Lean.Parser.Term.anonymousCtor #[Lean.mkAtom "⟨",s[1],Lean.mkAtom "⟩"]
set_option Elab.async false
set_option linter.all false
set_option maxRecDepth 100000
abbrev Aa:=@PySem.wpAny_bind
abbrev Ab:=@List.length_append
abbrev Ac:=@List.mem_cons_of_mem
abbrev Ad:=@PyProof.Rows.wpS_bind
abbrev Ae:=@List.mem_append_right
abbrev Af:=@PyProof.Rows.wpS_pure
abbrev Ag:=@List.mem_append
abbrev Ah:=@List.length_map
abbrev Ai:=@List.mem_cons_self
abbrev Aj:=@List.mem_singleton
abbrev Ak:=@PySem.W.Frag
abbrev Al:=@PySem.wpAny_pure
abbrev Am:=@List.mem_append_left
abbrev An:=@List.getElem?_eq_getElem
abbrev Ao:=@List.mem_cons
abbrev Ap:=@Nat.le_refl
abbrev Aq:=@List.getElem?_map
abbrev Ar:=@List.mem_of_getElem?
abbrev Au:=@if_neg
abbrev Av:=@List.length_cons
abbrev Aw:=@List.append_nil
abbrev Ay:=@if_pos
abbrev Az:=@List.size_toArray
abbrev AA:=@decide_eq_true
abbrev AB:=@decide_eq_false
abbrev AC:=@List.append_assoc
abbrev AD:=@List.nodup_cons
abbrev AE:=@Option.map_eq_some_iff
abbrev AF:=@List.mem_filter
abbrev AG:=@List.nodup_append
abbrev AH:=@List.getElem?_append_left
abbrev AI:=@List.map_append
abbrev AJ:=@Ne.symm
abbrev AK:=@Bool.false_ne_true
abbrev AL:=@List.getElem?_append_right
abbrev AM:=@List.mem_range
abbrev AN:=@List.getElem?_eq_some_iff
abbrev AO:=@PyProof.Rows.wpS_forRange
abbrev AQ:=@List.map_cons
abbrev AR:=@Option.some.inj
abbrev AS:=@Nat.le_trans
abbrev AU:=@List.take_of_length_le
abbrev AV:=@List.flatMap_append
abbrev AW:=@Nat.lt_of_lt_of_le
abbrev AX:=@Bool.and_eq_true
abbrev AY:=@Nat.ne_of_lt
abbrev AZ:=@List.getElem?_set_ne
abbrev A3:=@List.pairwise_append
abbrev A4:=@Int.natCast_nonneg
abbrev A5:=@List.mem_flatMap
abbrev A6:=@PyProof.Rows.wpS_mono
abbrev A7:=@List.length_take
abbrev A8:=@PySem.wpAny_field
abbrev A9:=@PySem.wpAny_holding
abbrev Ba:=@List.length_singleton
abbrev Bb:=@List.length_range
abbrev Bc:=@List.flatMap_cons
abbrev Bd:=@PySem.wpAny_mono
abbrev Be:=@Array.length_toList
abbrev Bf:=@Nat.zero_le
abbrev Bg:=@List.perm_ext_iff_of_nodup
abbrev Bh:=@List.take_append_drop
abbrev Bi:=@Array.getElem?_toList
abbrev Bj:=@List.countP_eq_length_filter
abbrev Bk:=@Array.toList_append
abbrev Bl:=@Nat.le_add_right
abbrev Bm:=@List.take_succ
abbrev Bn:=@List.length_set
abbrev Bo:=@List.not_mem_nil
abbrev Bp:=@List.take_length
abbrev Bq:=@Nat.add_sub_cancel_left
abbrev Br:=@List.perm_append_comm
abbrev Bt:=@List.lookup_cons
abbrev Bu:=@PySem.W.mg_none_of
abbrev Bv:=@PySem.wpAny_seqItems
abbrev Bw:=@List.nodup_range
abbrev Bx:=@Array.size_push
abbrev Bz:=@Nat.lt_succ_self
abbrev BA:=@List.countP_cons
abbrev BB:=@Int.toNat_natCast
abbrev BC:=@List.filter_append
abbrev BD:=@Nat.le_of_lt
abbrev BE:=@List.mem_map
abbrev BF:=@PySem.W.kia_one
abbrev BG:=@PySem.wpAny_newObj_type
abbrev BH:=@PySem.wpAny_rule
abbrev BI:=@List.getD_eq_getElem?_getD
abbrev BJ:=@List.perm_append_right_iff
abbrev BK:=@List.mem_of_mem_take
abbrev BL:=@List.perm_append_left_iff
abbrev BM:=@List.getElem?_set_self
abbrev BN:=@Nat.lt_of_le_of_lt
abbrev BO:=@decide_eq_true_iff
abbrev BP:=@List.find?_cons
abbrev BQ:=@List.length_drop
abbrev BR:=@PySem.mem_of_lookup
abbrev BS:=@List.getElem_of_mem
abbrev BU:=@congrArg
abbrev BV:=@List.getElem_take
abbrev BW:=@Nat.min_eq_left
abbrev BX:=@Int.le_of_lt
abbrev BY:=@List.getElem?_range
abbrev BZ:=@List.length_replicate
abbrev B0:=@List.getElem?_eq_none
abbrev B1:=@Int.le_trans
abbrev B3:=@Int.zero_add
abbrev B4:=@Bool.false_eq_true
abbrev B5:=@List.filter_cons
abbrev B6:=@Array.size_append
abbrev B7:=@List.countP_congr
abbrev B8:=@Nat.lt_succ_of_lt
abbrev B9:=@List.drop_eq_getElem_cons
abbrev Cb:=@List.eq_nil_of_length_eq_zero
abbrev Cc:=@Nat.le_succ_of_le
abbrev Cd:=@Nat.exists_eq_add_of_le
abbrev Ce:=@List.filter_nil
abbrev Cf:=@Nat.succ_pos
abbrev Cg:=@PyProof.Rows.callWith_type1
abbrev Ci:=@List.map_map
abbrev Cj:=@List.length_pos_of_mem
abbrev Ck:=@Int.ofNat_inj
abbrev Cm:=@Nat.min_eq_right
abbrev Cn:=@Nat.max_eq_right
abbrev Co:=@List.perm_append_singleton
abbrev Cp:=@List.singleton_append
abbrev Cq:=@List.forIn_cons
abbrev Cr:=@Nat.max_eq_left
abbrev Ct:=@Nat.lt_or_ge
abbrev Cu:=@List.pairwise_map
abbrev Cv:=@List.filter_congr
abbrev Cw:=@Nat.lt_irrefl
abbrev Cy:=@List.any_cons
abbrev Cz:=@PyProof.Rows.slot_tuple_getitem
abbrev CA:=@List.mem_map_of_mem
abbrev CB:=@List.getElem?_replicate
abbrev CC:=@List.eraseIdx_cons_succ
abbrev CD:=@List.getElem_mem
abbrev CF:=@Int.mul_le_mul_of_nonneg_right
abbrev CG:=@List.mem_eraseIdx_iff_getElem?
abbrev CH:=@List.flatMap_nil
abbrev CK:=@Nat.le_succ
abbrev CL:=@Nat.ne_of_gt
abbrev CM:=@Int.emod_lt_of_pos
abbrev CN:=@List.getElem_cons_drop
abbrev CO:=@List.nil_append
abbrev CP:=@List.range_succ
abbrev CQ:=@List.length_filter_le
abbrev CS:=@List.countP_eq_length
abbrev CU:=@Nat.sub_eq_zero_of_le
abbrev CV:=@Option.isSome_map
abbrev CW:=@List.mem_of_mem_drop
abbrev CY:=@Array.toList_reverse
abbrev CZ:=@Nat.le_sub_one_of_lt
abbrev C0:=@List.Perm.refl
abbrev C1:=@Nat.zero_add
abbrev C2:=@List.perm_middle
abbrev C3:=@List.pairwise_iff_getElem
abbrev C4:=@List.sublist_append_right
abbrev C5:=@List.reverse_append
abbrev C6:=@PySem.W.mg_of
abbrev C7:=@Bool.true_and
abbrev C8:=@Bool.eq_iff_iff
abbrev C9:=@List.length_zip
abbrev Dc:=@Array.size_extract
abbrev Dd:=@List.append_of_mem
abbrev De:=@List.getElem?_cons_succ
abbrev Df:=@List.length_eraseIdx_le
abbrev Dg:=@Int.le_refl
abbrev Dh:=@Nat.lt_add_of_pos_right
abbrev Di:=@List.getElem?_set_self'
abbrev Dj:=@List.filter_cons_of_neg
abbrev Dk:=@List.filter_cons_of_pos
abbrev Dl:=@List.map_nil
abbrev Dm:=@List.forIn_nil
abbrev Do:=@Array.toList_push
abbrev Dp:=@List.length_take_of_le
abbrev Dq:=@List.ext_getElem?
abbrev Dr:=@List.nodup_nil
abbrev Ds:=@List.mem_range'_1
abbrev Dt:=@List.Sublist.refl
abbrev Dv:=@List.eraseIdxIfInBounds_toArray
abbrev Dw:=@Nat.le_of_ble_eq_true
abbrev Dx:=@List.mem_iff_getElem?
abbrev Dy:=@List.all_eq_true
abbrev Dz:=@List.take_append_of_le_length
abbrev DA:=@List.getElem?_of_mem
abbrev DB:=@List.Pairwise.filter
abbrev DC:=@List.of_mem_zip
abbrev DE:=@List.length_nil
abbrev DF:=@Nat.le_add_left
abbrev DG:=@Int.emod_nonneg
abbrev DH:=@List.filterMap_cons
abbrev DI:=@PySem.W.plainGet_of
abbrev DJ:=@List.length_reverse
abbrev DK:=@List.perm_singleton
abbrev DL:=@List.countP_pos_iff
abbrev DM:=@List.perm_iff_count
abbrev DN:=@Nat.sub_self
abbrev DO:=@Bool.not_not
abbrev DP:=@PySem.W.callWith_K
abbrev DQ:=@List.drop_zero
abbrev DR:=@Nat.lt_or_eq_of_le
abbrev DS:=@List.countP_append
abbrev DU:=@PySem.F.slot_dict_getitem
abbrev DV:=@List.getElem?_zip_eq_some
abbrev DW:=@PySem.W.kitx_list
abbrev DX:=@List.take_sublist
abbrev DY:=@List.getElem_drop
abbrev DZ:=@List.reverse_perm
abbrev Eb:=@List.nodup_range'
abbrev Ec:=@List.count_append
abbrev Ee:=@List.all_cons
abbrev Eh:=@List.sublist_append_left
abbrev Ei:=@decide_eq_decide
abbrev Ek:=@List.zipIdx_cons
abbrev El:=@List.range'_succ
abbrev Em:=@congrFun
abbrev Eo:=@Nat.le_of_eq
abbrev Er:=@Nat.add_comm
abbrev Eu:=@Bool.or_eq_true
abbrev Ew:=@List.Perm.of_eq
abbrev Ex:=@beq_false_of_ne
abbrev Ey:=@List.countP_set
abbrev Ez:=@List.count_cons
abbrev EC:=@Prod.ext
abbrev ED:=@Bool.and_false
abbrev EE:=@Int.add_mul
abbrev EF:=@List.count_nil
abbrev EK:=@Nat.not_lt
abbrev oi:=@PySem.Heap.get?_push_of_some
abbrev pj:=@PySem.Heap.lt_size
abbrev pG:=@PySem.Heap.get?_push_size
abbrev pK:=@PySem.PassesOwn.never
abbrev pR:=@PySem.Heap.SameBut.update
abbrev p0:=@PySem.Heap.get?_update_other
abbrev qy:=@PySem.Heap.get?_update_self
abbrev sn:=@PySem.F.slot_tuple_iterator_next
abbrev uv:=@PySem.MeetsSeq.plain_remove_loop
abbrev vc:=@PySem.Heap.size_push
abbrev wh:=@PySem.Calls.spliced_cons
abbrev xa:=@PySem.Around.under_plainId
abbrev xb:=@PySem.F.plain_extend_loop
abbrev xp:=@PySem.Calls.spliced_nil
abbrev xu:=@PySem.F.slot_zip_next
abbrev XI:=PySem.Value->PySem.Shared->Prop
abbrev XJ:=Unit->PySem.Shared->Prop
abbrev XM:=PySem.Str->Option PySem.Value
abbrev XN:=List<|Nat×Nat
abbrev XO:=List (Nat×Nat)
abbrev XQ:=List PySem.Value
abbrev XR:=Array PySem.Value
abbrev XS:=List Nat
abbrev XT:=List PySem.Str
abbrev XU:=List PySem.Expr
abbrev XW:=List PySem.Stmt
abbrev XX:=List Int
abbrev XY:=Option PySem.Value
abbrev XZ:=Option Int
abbrev X0:=Nat->Nat
abbrev X2:=Nat×Nat
abbrev X4:=PySem.Value
abbrev X5:=PySem.Shared
abbrev X6:=PySem.Program
abbrev X7:=PySem.World
abbrev X8:=PySem.Heap
abbrev X9:=String
noncomputable section
namespace L2
open PySem PyProof.Rows
def kK{M:Model}{U:Ctx}{p:Pos}{t:Sem Fin}{fs:List Frame}{s s':X5}{e:End}(h:Runs M U p t fs s e s'):s.toks<=s'.toks:=by induction h with|fresh _ g=>exact AS (CK _) g|call _ _ I J=>exact AS I J|resumeFresh _ _ _ _ I J=>exact AS I J|resumeSuspended _ _ _ _ I J=>exact AS I J|segRet _ _ I J=>exact AS I J|segGen _ _ I J=>exact AS I J|segSuspGen _ _ _ _ I J=>exact AS I J|_=>first|exact Ap _|assumption
def yT{M:Model}{J:Ctx}{p:Pos}{g:Nat}{r:Resume}{s s':X5}{res:GenResult}(h:Wakes M J p g r s res s'):s.toks<=s'.toks:=by
 unfold Wakes at h;split at h
 .exact h.elim
 .split at h
  .obtain⟨e,U,I,_,_,rfl⟩:=h;have q:=kK I;exact q
  .obtain⟨_,rfl⟩:=h;exact Ap _
  .obtain⟨_,rfl⟩:=h;exact Ap _
 .obtain⟨e,U,I,_,_,rfl⟩:=h;have q:=kK I;exact q
 .obtain⟨_,rfl⟩:=h;exact Ap _
 .obtain⟨_,rfl⟩:=h;exact Ap _
def Nq{α:Type}{M:Model}{T:Ctx}(t:Sem α):∀{Q:α->Pos->X5->Prop} {E:X4->Pos->X5->Prop} {p:Pos} {s:X5} (n:Nat),n<=s.toks->Sem.wp M T t Q E p s->Sem.wp M T t (λa C s'=>Q a C s'/\n<=s'.toks) (λe C s'=>E e C s'/\n<=s'.toks) p s:=by induction t with|pure a=>intro Q E p s n I h;exact{(h),I}|raise e=>intro Q E p s n I h;exact{(h),I}|load a part k J=>rintro Q E p s n I ⟨o,U,j⟩;exact{o,U,J o n I j}|update a part f k J=>rintro Q E p s n I ⟨U,j⟩;exact{U,J () n I j}|fresh k J=>intro Q E p s n I h;exact J s.toks n (AS I<|CK _) h|choose a0 m k J=>rintro Q E p s n I ⟨U,j⟩;exact{U,J _ n I j}|call c hd g l k J=>rintro Q E p s n I ⟨r,s',U,j⟩;exact{r,s',U,J r n (AS I<|kK U) j}|genState g k J=>rintro Q E p s n I ⟨st,U,j⟩;exact{st,U,J _ n I j}|resume g r l k J=>rintro Q E p s n I ⟨res,s',U,j⟩;exact{res,s',U,J _ n (AS I<|yT U) j}|rule tag k J=>intro Q E p s n I h;exact J () n I h|«at» pos k J=>intro Q E p s n I h;exact J () n I h|alloc o k J=>intro Q E p s n I h;exact J _ n I h|loadIfAlive a k J=>intro Q E p s n I h;exact J _ n I h|point l k J=>intro Q E p s n I h;exact J _ n I h|ask k J=>intro Q E p s n I h;exact J _ n I h|os q l k J=>intro Q E p s n I h;exact J _ n I h|handled own k J=>intro Q E p s n I h;exact J _ n I h|newGen c k J=>intro Q E p s n I h;exact J _ n I h|stack k J=>intro Q E p s n I h;exact J _ n I h|thread k J=>intro Q E p s n I h;exact J _ n I h|unsupported w=>intro Q E p s n I h;exact h.elim|finish e=>intro Q E p s n I h;exact h.elim|register a k J=>intro Q E p s n I h;exact h.elim|yield v g l k J=>intro Q E p s n I h;exact h.elim|fork c k J=>intro Q E p s n I h;exact h.elim|await a f d l k J=>intro Q E p s n I h;exact h.elim
def zA{α:Type}{M:Model}{A:Around}{t:Sem α}{Q:α->X5->Prop}{E:XI}{s:X5}(h:wpAny M A t Q E s):wpAny M A t (λa s'=>Q a s'/\s.toks<=s'.toks) (λe s'=>E e s'/\s.toks<=s'.toks) s:=
 λJ p I=>Nq t s.toks (Ap _)<|h J p I
def xc{α:Type}{M:Model}{A:Around}{t:Sem α}{Q:α->X5->Prop}{E:XI}{s:X5}(hp:0<s.toks)(h:wpAny M A t (λa s'=>0<s'.toks->Q a s') (λe s'=>0<s'.toks->E e s') s):wpAny M A t Q E s:=
 Bd (zA h) (λ_ _ z=>z.1<|AW hp z.2) λ_ _ z=>z.1<|AW hp z.2
variable {M:PySem.Model}{i j kt m n p q t' x1:Nat}{t t1 t2:Bool}{s s':PySem.Shared}{c e mj o target tg value:PySem.Expr}{α β κ:Type}{A:PySem.Around}{E Q:PySem.Value->PySem.Shared->Prop}{eh us vs:List PySem.Value}{eH gn oc pm u:PySem.Value}{base h h':PySem.Heap}{ad ch fp:List PySem.Addr}{C Pt d dx f fa hp i1 i2 it ka l l1 l2 na pa pb:PySem.Addr}{kx name px eA x:PySem.Str}{pins:List<|PySem.Addr×PySem.Obj}{apos eK nC p1 p2 p3 p4 p5 pos fx tp:PySem.Pos}{D hs fi qs:XS}{st:PySem.Stmt}{mE es jl:List PySem.Expr}{body:List PySem.Stmt}{lo:Int}{mA mg:PySem.Str->Option PySem.Value}{kw:List<|PySem.Str×PySem.Value}{prog:PySem.Program}{env:PySem.Env}{fd:PySem.FuncData}{ps:List PySem.Str}{eQ scope:PySem.Scope}{ct fy lk ir:XN}{an od:Option PySem.Addr}{mR:Array<|Option PySem.Value}{rk:X0}{rks:XX}
open PySem.Spec
abbrev jb:=Sum Int Str
abbrev Yc:=List jb
def nr:jb->X4->Bool
 |.inl k,v=>Value.isInt k v
 |.inr x,v=>Value.isStrOf x v
def Nr(w:X7):jb->Int
 |.inl k=>hashInt k
 |.inr x=>hashStr w x
theorem vm:∀{k:jb} {v:X4},nr k v=true->(∃i t,k=Sum.inl i/\v=Value.int i t)\/(∃x t,k=Sum.inr x/\v=Value.str x t)
 |.inl i,v,h=>by obtain⟨t,e⟩:=Value.isInt_shape (k:=i) (v:=v) h;exact .inl {(i),t,rfl,e}
 |.inr x,v,h=>by obtain⟨t,e⟩:=Value.isStrOf_shape (x:=x) (v:=v) h;exact .inr {(x),t,rfl,e}
def Nt(i:Int)(t:Tok):nr (.inl i) (.int i t)=true:=by simp[nr,Value.isInt]
def Nu(x:Str)(t:Tok):nr (.inr x) (.str x t)=true:=by simp[nr,Value.isStrOf]
def Nv(a b:Int):decide ((Sum.inl a:jb)=Sum.inl b)=(a==b):=by
 by_cases e:a=b
 .subst e;simp
 .have h:¬(Sum.inl a:jb)=Sum.inl b:=λq=>e<|Sum.inl.inj q;rw[AB h];exact(beq_eq_false_iff_ne.mpr e).symm
def Nw(a b:Str):decide ((Sum.inr a:jb)=Sum.inr b)=decide (a=b):=by
 by_cases e:a=b
 .subst e;simp
 .have h:¬(Sum.inr a:jb)=Sum.inr b:=λq=>e<|Sum.inr.inj q;rw[AB h,AB e]
def Nx(a:Int)(b:Str):decide ((Sum.inl a:jb)=Sum.inr b)=false:=AB λq=>nomatch q
def Ny(a:Str)(b:Int):decide ((Sum.inr a:jb)=Sum.inl b)=false:=AB λq=>nomatch q
def vh(prog:X6)(w:X7):PySem.KeyKind prog w jb where
 is:=nr
 hash:=Nr w
 inj:=λv a b g U=>by
  rcases vm g with⟨i,t,rfl,rfl⟩|⟨x,t,rfl,rfl⟩
  .rcases vm U with⟨j,u,rfl,e⟩|⟨y,u,rfl,e⟩
   .injection e with I _;rw[I]
   .exact nomatch e
  .rcases vm U with⟨j,u,rfl,e⟩|⟨y,u,rfl,e⟩
   .exact nomatch e
   .injection e with I _;rw[I]
 byValue:=λk v h=>by rcases vm h with⟨i,t,rfl,rfl⟩|⟨x,t,rfl,rfl⟩<;>rfl
 pyHash:=λJ h=>by
  rcases vm J with⟨i,t,rfl,rfl⟩|⟨x,t,rfl,rfl⟩
  .exact wpAny_pyHash_int h
  .exact wpAny_pyHash_str h
 eqBool:=λl J h=>by
  rcases vm l with⟨i,t,rfl,rfl⟩|⟨x,t,rfl,rfl⟩
  .rcases vm J with⟨j,u,rfl,rfl⟩|⟨y,u,rfl,rfl⟩
   .rw[Nv] at h;exact wpAny_eqBool_int h
   .rw[Nx] at h;exact SeqAt.EqAt.int_str i t y u _ _ _ _ h
  .rcases vm J with⟨j,u,rfl,rfl⟩|⟨y,u,rfl,rfl⟩
   .rw[Ny] at h;exact SeqAt.EqAt.str_int x t j u _ _ _ _ h
   .rw[Nw] at h;exact wpAny_eqBool_str h
 «strs» := λk x t v h=>by
  rcases vm h with⟨i,u,rfl,e⟩|⟨y,u,rfl,e⟩
  .exact nomatch e
  .injection e with I _
   subst I;cases v<;>rfl
def wX(prog:X6)(w:X7)(i:Int)(t:Tok):(vh prog w).is (.inl i) (.int i t)=true:=Nt i t
def uj(prog:X6)(w:X7)(x:Str)(t:Tok):(vh prog w).is (.inr x) (.str x t)=true:=Nu x t
set_option genInjectivity true in
inductive V where
 |KB|bl (b:Bool)|int (i:Int)|str (x:Str)|_A (b:Array UInt8)|Z5 (b:UInt64)|ref (a:Addr)|ty (n:X9)
 deriving DecidableEq
abbrev Yb:=Option V
abbrev X_:=List V
def zq:V->X4->Prop
 |.KB,u=>u=Value.none
 |.bl b,u=>u=Value.bool b
 |.int i,u=>∃t,u=Value.int i t
 |.str x,u=>∃t,u=Value.str x t
 |._A b,u=>∃t,u=Value.bytes b t
 |.Z5 b,u=>∃t,u=Value.float b t
 |.ref a,u=>u=Value.ref a
 |.ty n,u=>u=Value.type n
abbrev zn:X_->XQ->Prop:=Paired zq
theorem zn.length{xs:X_}(r:zn xs us):xs.length=us.length:=Paired.length r
theorem zn.get:∀{xs:X_} {us:XQ} {i:Nat} {x:V},zn xs us->xs[i]?=some x->∃u,us[i]?=some u/\zq x u
 |_,_,_,_,.nil,e=>by simp at e
 |_,_,0,_,.cons r _,e=>by simp at e;subst e;exact{_,rfl,r}
 |_,_,i+1,x,.cons _ t,e=>by obtain⟨u,I,J⟩:=zn.get (i:=i) (x:=x) t (by simpa using e);exact{u,by simpa using I,J}
theorem zn.set{x:V}{u:X4}(r:zq x u):∀{xs:X_} {us:XQ} (i:Nat),zn xs us->zn (xs.set i x) (us.set i u)
 |_,_,_,.nil=>.nil
 |_,_,0,.cons _ t=>.cons r t
 |_,_,i+1,.cons q t=>.cons q<|zn.set r i t
def zn.append:∀{xs ys:X_} {us I:XQ},zn xs us->zn ys I->zn (xs++ys) (us++I):=by
 intro xs ys us I h s
 induction h with|nil=>exact s|cons r t J=>exact .cons r J
theorem zn.take:∀{xs:X_} {us:XQ} (n:Nat),zn xs us->zn (xs.take n) (us.take n)
 |_,_,0,_=>.nil
 |_,_,_+1,.nil=>.nil
 |_,_,n+1,.cons r t=>.cons r<|zn.take n t
theorem zn.drop:∀{xs:X_} {us:XQ} (n:Nat),zn xs us->zn (xs.drop n) (us.drop n)
 |_,_,0,r=>r
 |_,_,_+1,.nil=>.nil
 |_,_,n+1,.cons _ t=>zn.drop n t
def dy:Yb->XY->Prop
 |some v,some u=>zq v u
 |none,none=>True
 |_,_=>False
def KV :List (κ×V)->List (κ×X4)->Prop:=Paired λ(p:κ×V) (q:κ×X4)=>p.1=q.1/\zq p.2 q.2
def kV:jb->V
 |.inl i=>.int i
 |.inr x=>.str x
inductive HO where
 |lst (xs:X_)
 |tup (xs:X_)
 |dK (kvs:List<|jb×V)|dT (kvs:List<|Yc×V)
 |set (S:Int->Bool) (n:Nat)
 |ins (C dx:Addr) (fs:List<|Str×V)
 |own (x:Addr)
 |xd (fs:List<|Str×V)
 |met (f x:Addr)
 |_s (lo hi:Int)
 |YC (o:Obj) (u:HO)
 |YV (ps:XR)
 |ext (φ:X8->Prop)
abbrev Hp:=Addr->Option HO
def upd(H:Hp)(a:Addr)(o:HO):Hp:=λb=>if b=a then some o else H b
def zg{H:Hp}{a:Addr}{o:HO}:upd H a o a=some o:=by unfold upd;rw[Ay rfl]
def qm{H:Hp}{a b:Addr}{o:HO}(h:b≠a):upd H a o b=H b:=by unfold upd;rw[Au h]
def HE{H:Hp}{a:Addr}{o u:HO}:upd (upd H a o) a u=upd H a u:=by funext b;unfold upd;split<;>rfl
def Nz{H:Hp}{a b:Addr}{o u:HO}(h:H a=some o)(h':H b=some u)(d:o≠u):a≠b:=by intro e;subst e;rw[h] at h';exact d<|AR h'
def zo{H:Hp}{a b:Addr}{o:HO}(h:H a=some o)(h':H b=none):a≠b:=by intro e;subst e;rw[h] at h';cases h'
section
variable (P:X6)(w:X7)
def vf(H:Hp)(h:X8)(a:Addr):HO->Prop
 |.lst xs=>xs.length<=sizeLine/\∃(eh:XQ) (n:Nat),zn xs eh/\h.get? a=some {cls:=.type "list",data:=.seq eh.toArray n}
 |.tup xs=>xs.length<=sizeLine/\∃eh:XQ,zn xs eh/\IsTup h a eh.toArray
 |.dK kvs=>kvs.length<=sizeLine/\(a==sysModules)=false/\∃vs,KV kvs vs/\h.DictOf (vh P w) a vs
 |.dT kvs=>kvs.length<=sizeLine/\(a==sysModules)=false/\∃xs:List (Yc×Addr×X4),
  Paired (λ(p:Yc×V) (q:Yc×Addr×X4)=>p.1=q.1/\H q.2.1=some (.tup<|p.1.map kV)/\zq p.2 q.2.2) kvs xs/\
  ∃o es J,h.get? a=some o/\o.ExactDict/\o.data=.dict es J/\es.toList=xs.map (entryOfKey<|tupleKind<|vh P w)/\(xs.map (·.1)).Nodup
 |.set S n=>h.SetOf (intKind P w) a S n
 |.ins C dx fs=>H dx=some (.own a)/\fs.length<=1000/\dx≠a/\h.get? a=some (PySem.W.instObj C dx)/\
  ∃mA,h.Ns1 dx mA/\(∀f,dy (fs.lookup f)<|mA f)/\PySem.Within mA (fs.map (·.1))
 |.own _=>∃o,h.get? a=some o
 |.xd fs=>∃mA,h.Ns1 a mA/\∀f,dy (fs.lookup f)<|mA f
 |._s lo hi=>∃t u v,h.get? a=some {cls:=.type "range",data:=.fields #[.int lo t,.int hi u,.int 1 v]}
 |.YC o u=>h.get? a=some o/\vf H h a u
 |.YV ps=>h.get? a=some {cls:=.none,data:=.fields ps}
 |.met f x=>h.get? a=some (PySem.W.methodObj (.ref f)<|.ref x)
 |.ext I=>I h/\(∃o,h.get? a=some o)/\∀h1 h2:X8,I h1->(∀o,h1.get? a=some o->h2.get? a=some o)->I h2
def gY(H:Hp)(h:X8):Prop:=∀a o,H a=some o->vf P w H h a o
end
section
variable {P:X6}{w:X7}{H H':Hp}{a:Addr}{o:HO}
theorem vf.lt(x:vf P w H h a o):a<h.objs.size:=by
 cases o with
 |lst J=>obtain⟨_,_,_,_,e⟩:=x;exact pj e
 |tup J=>obtain⟨_,_,_,p⟩:=x;exact p.lt
 |dK I=>obtain⟨_,_,_,_,o,_,_,e,_⟩:=x;exact pj e
 |dT I=>obtain⟨_,_,_,_,o,_,_,e,_⟩:=x;exact pj e
 |set S n=>obtain⟨o,_,_,_,e,_⟩:=x;exact pj e
 |ins C U fs=>obtain⟨_,_,_,e,_⟩:=x;exact pj e
 |own y=>obtain⟨_,e⟩:=x;exact pj e
 |xd fs=>obtain⟨_,⟨_,_,_,e,_⟩,_⟩:=x;exact pj e
 |_s lo g=>obtain⟨_,_,_,e⟩:=x;exact pj e
 |YC ob u=>obtain⟨e,_⟩:=x;exact pj e
 |YV j=>exact pj<|show h.get? a=some _ from x
 |met f y=>exact pj<|show h.get? a=some _ from x
 |ext l=>obtain⟨_,⟨_,e⟩,_⟩:=x;exact pj e
def Paired.mapP{F G:α->β->Prop}:∀{l₁:List α} {l₂:List β},Paired F l₁ l₂->(∀a b,F a b->G a b)->Paired G l₁ l₂:=by
 intro l₁ l₂ h f
 induction h with|nil=>exact .nil|cons r t I=>exact .cons (f _ _ r) I
abbrev ER:=@Paired.mapP
def vf.Ys(x:vf P w H h a o)(k:∀b u,(b=a\/H b=some (.own a))->h.get? b=some u->h'.get? b=some u)
 (T:∀b,H b=some (.own a)->H' b=some (.own a)) (ht:∀b xs,H b=some (.tup xs)->H' b=some (.tup xs)):vf P w H' h' a o:=by
 induction o with
 |lst xs=>obtain⟨z,U,n,r,e⟩:=x;exact{z,U,n,r,k _ _ (.inl rfl) e}
 |tup xs=>obtain⟨z,U,r,ob,e,c⟩:=x;exact{z,U,r,ob,k _ _ (.inl rfl) e,c}
 |dK g=>obtain⟨z,y,vs,r,ob,I,J,e,c⟩:=x;exact{z,y,vs,r,ob,I,J,k _ _ (.inl rfl) e,c}
 |dT g=>
  obtain⟨z,y,xs,r,ob,I,J,e,c⟩:=x;exact{z,y,xs,ER r λp q z=>{z.1,ht _ _ z.2.1,z.2.2},ob,I,J,k _ _ (.inl rfl) e,c}
 |set S n=>obtain⟨ob,I,J,t,e,c⟩:=x;exact{ob,I,J,t,k _ _ (.inl rfl) e,c}
 |ins C dx fs=>
  obtain⟨d,z,ne,e,j,⟨l,I,J,e2,c⟩,r⟩:=x;exact{T _ d,z,ne,k _ _ (.inl rfl) e,j,{l,I,J,k _ _ (.inr d) e2,c},r}
 |own y=>obtain⟨ob,e⟩:=x;exact{ob,k _ _ (.inl rfl) e}
 |xd fs=>obtain⟨j,⟨l,I,J,e,c⟩,r⟩:=x;exact{j,{l,I,J,k _ _ (.inl rfl) e,c},r}
 |_s lo hi=>obtain⟨t,u,v,e⟩:=x;exact{t,u,v,k _ _ (.inl rfl) e}
 |YC ob u ih=>obtain⟨e,q⟩:=x;exact{k _ _ (.inl rfl) e,ih q}
 |YV ps=>
  have e:=x;exact k a _ (.inl rfl) e
 |met f y=>
  have e:=x;exact k a _ (.inl rfl) e
 |ext φ=>obtain⟨p,⟨o,e⟩,st⟩:=x;exact{st _ _ p λo q=>k _ _ (.inl rfl) q,{o,k _ _ (.inl rfl) e},st}
theorem gY.lt(x:gY P w H h)(e:H a=some o):a<h.objs.size:=(x a o e).lt
def gY.fresh(x:gY P w H h)(e:h.objs.size<=a):H a=none:=by cases q:H a with|none=>rfl|some u=>exact absurd (AW (x.lt q) e)<|Cw _
def gY.kept(x:gY P w H h)(k:∀b u,h.get? b=some u->h'.get? b=some u):gY P w H h':=λa o e=>
 (x a o e).Ys (λb u _ q=>k b u q) (λ_ q=>q) λ_ _ q=>q
def gY.laid(x:gY P w H h)(k:∀b u,h.get? b=some u->h'.get? b=some u)(hp:h.objs.size<=a)(new:vf P w (upd H a o) h' a o):gY P w (upd H a o) h':=λb u e=>by
 have I:=x.fresh hp;by_cases J:b=a
 .subst J;rw[zg] at e;cases e;exact new
 .rw[qm J] at e;exact(x b u e).Ys (λc v _ q=>k c v q) (λc q=>by rw[qm<|zo q I];exact q) λc U q=>by rw[qm<|zo q I];exact q
end
def Rd(H:Hp)(a:Addr)(u:HO):Prop:=H a=some u\/∃o,H a=some (.YC o u)
def Rd.ok{P:X6}{w:X7}{H:Hp}{a:Addr}{u:HO}(r:Rd H a u)(x:gY P w H h):vf P w H h a u:=by
 rcases r with r|⟨o,r⟩
 .exact x a u r
 .obtain⟨_,q⟩:=x a _ r;exact q
def EW:Option HO->Prop
 |some (.lst _)=>True
 |some (.dK _)=>True
 |some (.dT _)=>True
 |some (.set _ _)=>True
 |some (.ins _ _ _)=>True
 |some (.ext _)=>True
 |_=>False
section
variable {P:X6}{w:X7}{H:Hp}{x e:Addr}{o':HO}
def gY.write(ok:gY P w H h)(g:EW<|H x)(t:e=x\/H e=some (.own x))(k:∀b u,b≠e->h.get? b=some u->h'.get? b=some u)(p:∃u,h'.get? e=some u)
 (new:vf P w (upd H x o') h' x o'):gY P w (upd H x o') h':=λb u q=>by
 have J:∀c y,H c=some (.own y)->c≠x:=λc y r z=>by subst z;rw[r] at g;exact g
 have U:∀c j,H c=some (.tup j)->c≠x:=λc j r z=>by subst z;rw[r] at g;exact g
 by_cases l:b=x
 .subst l;rw[zg] at q;cases q;exact new
 .rw[qm l] at q;by_cases I:b=e
  .have C:H b=some (.own x):=by
    rcases t with z|z
    .exact absurd (I.trans z) l
    .rw[I];exact z
   rw[q] at C;cases C;obtain⟨v,T⟩:=p;exact{v,by rw[I];exact T}
  .refine(ok b u q).Ys (λc v o r=>k c v ?_ r) (λc r=>by rw[qm<|J c b r];exact r) λc j r=>by rw[qm<|U c j r];exact r
   rcases o with rfl|o
   .exact I
   .rintro rfl;rcases t with z|z
    .exact J c b o z
    .rw[o] at z;cases z;exact l rfl
end
structure Un(fs ex:List Addr)(H H':Hp)(h h':X8):Prop where
 keep:∀b o,h.get? b=some o->H b=none->b∉fs->b∉ex->h'.get? b=some o
 slot:∀b o,h.get? b=some o->H b=none->b∈fs->b∉ex->∃sl,h'.get? b=some {o with slots:=sl}
 free:∀b o,h.get? b=some o->H b=none->b∉ex->H' b=none
 there:∀b o,h.get? b=some o->b∉ex->∃o',h'.get? b=some o'
 Yy:∀b xs,H b=some (.tup xs)->H' b=some (.tup xs)
 YJ:∀b o u,H b=some (.YC o u)->H' b=some (.YC o u)
 YL:∀b ps,H b=some (.YV ps)->∃more,H' b=some (.YV<|ps++more)
section
variable {fs fs' ex ex':List Addr}{H H1 H2:Hp}{h1 h2:X8}{a x e:Addr}{o:HO}
def Un.any(u:Un fs ex H H1 h h1){b:Addr}{ob:Obj}(q:h.get? b=some ob)(n:H b=none)(I:b∉ex):∃U,h1.get? b=some {ob with slots:=U}:=by
 by_cases J:b∈fs
 .exact u.slot b ob q n J I
 .exact{ob.slots,u.keep b ob q n J I}
def Un.kept(k:∀b u,h.get? b=some u->h'.get? b=some u):Un fs ex H H h h':=
 ⟨λb ob q _ _ _=>k b ob q,λb ob q _ _ _=>{ob.slots,k b ob q},λ_ _ _ n _=>n,λb ob q _=>{ob,k b ob q},λ_ _ q=>q,λ_ _ _ q=>q,λ_ I q=>{#[],by rw[q];simp}⟩
def Un.refl:Un fs ex H H h h:=Un.kept λ_ _ q=>q
def Un.laid(k:∀b u,h.get? b=some u->h'.get? b=some u)(hp:h.objs.size<=a)(I:H a=none):Un fs ex H (upd H a o) h h' where
 keep:=λb u q _ _ _=>k b u q
 slot:=λb u q _ _ _=>{u.slots,k b u q}
 free:=λb u q n _=>by rw[qm<|AY<|AW (pj q) hp];exact n
 there:=λb u q _=>{u,k b u q}
 Yy:=λb J q=>by rw[qm<|zo q I];exact q
 YJ:=λb u J q=>by rw[qm<|zo q I];exact q
 YL:=λb U q=>{#[],by rw[qm<|zo q I,q];simp}
def Un.write(J:EW<|H x)(p:e=x\/H e=some (.own x))(k:∀b u,b≠e->h.get? b=some u->h'.get? b=some u)(U:∃u,h'.get? e=some u):Un fs ex H (upd H x o) h h':=by
 have j:∀b,H b=none->b≠x:=λb n z=>by subst z;rw[n] at J;exact J
 have l:∀b,H b=none->b≠e:=λb n z=>by
  subst z;rcases p with r|r
  .exact j b n r
  .rw[n] at r;cases r
 have g:∀b u,H b=some u->¬EW (some u)->b≠x:=λb u q nm z=>by subst z;rw[q] at J;exact nm J
 refine{λb u q n _ _=>k b u (l b n) q,λb u q n _ _=>{u.slots,k b u (l b n) q},λb u q n _=>by rw[qm<|j b n];exact n,λb u q _=>?_,
  λb t q=>by rw[qm<|g b _ q λz=>z];exact q,λb u t q=>by rw[qm<|g b _ q λz=>z];exact q,λb C q=>{#[],by rw[qm<|g b _ q λz=>z,q];simp}}
 by_cases I:b=e
 .subst I;exact U
 .exact{u,k b u I q}
end
def FC(h:X8)(H:Hp):List Addr:=(List.range h.objs.size).filter λa=>(H a).isSome
def si(h:X8)(H:Hp):X8:=PySem.W.hideAll h<|FC h H
def NA(h:X8)(H:Hp):(si h H).objs.size=h.objs.size:=PySem.W.hideAll_size _ _
def NB{H:Hp}{b:Addr}{o:Obj}(e:h.get? b=some o)(n:H b=none):(si h H).get? b=some o:=
 PySem.W.hideAll_get _ e λI=>by have q:=(AF.mp I).2;rw[n] at q;simp at q
def NC{H:Hp}{b:Addr}{o:Obj}(e:(si h H).get? b=some o):h.get? b=some o/\H b=none:=by
 have I:=PySem.W.of_hideAll (FC h H) e;refine{I,?_};cases q:H b with
 |none=>rfl
 |some x=>
  have J:b∈FC h H:=AF.mpr {AM.mpr<|pj I,by simp[q]};have z:(si h H).get? b=none:=PySem.W.hideAll_none (FC h H) J;rw[z] at e;cases e
variable {xs zs:List V}{H H' H₀:Hp}{v:V}
structure Mod(K:Ak)(mg:XM)(base:X8):Prop where
 Z_:K.In base
 glob:base.Ns mainGlobals mg
 blt:∃mb,base.Ns builtinsNs mb/\∀x:Str,x ≠ "__name__" -> mb x=bootBuiltins x
 nolimit:base.NoLimit
structure Cx where
 prog:X6
 w:X7
 K:Ak
 mg:XM
 base:X8
 A:Around
 N:XT
 s₀:X5
 H₀:Hp
 env:Env
 outer:List Env
 stack:List Env
 ex:List Addr
 fn:Str->Bool
 calm:Bool
 pn:List (Addr×Obj)
 xe:XI
abbrev _S(X:Cx){α:Type}:=@wpAny α (model X.prog X.w) X.A
def Ze(l:List Env):List Addr:=l.filterMap (·.frame)
abbrev Cx.fs(X:Cx):List Addr:=Ze X.outer
def Db(I:Scope)(x:Str):Prop:=I.names.lookup x=some .local\/I.names.lookup x=some .cell\/I.names.lookup x=some .free
def Loc(I:Scope)(x:Str):Prop:=I.names.lookup x=some .local\/I.names.lookup x=some .cell
def ND(env:Env)(h:X8)(m:XM)(x:Str)(u:X4):Prop:=
 (env.kindOf x=some .local/\m x=some u)\/((env.kindOf x=some .cell\/env.kindOf x=some .free)/\∃c,env.cells.lookup x=some c/\h.IsCell c (some u))
structure Cx.Ok(X:Cx):Prop where
 mod:Mod X.K X.mg X.base
 kind:X.env.scope.kind=.function
 glob:X.env.globals=mainGlobals
 blt:X.env.builtins=builtinsNs
 above:X.s₀.heap.objs.size<=X.env.locals
 inj:∀x y c,X.env.cells.lookup x=some c->X.env.cells.lookup y=some c->x=y
 has:∀x,(X.env.kindOf x=some .cell\/X.env.kindOf x=some .free)->∃c,X.env.cells.lookup x=some c
 _b:∀x c,X.fn x=true->X.env.cells.lookup x=some c->X.s₀.heap.objs.size<=c
 hd:X.calm=true->X.A.handled=none
 frames:X.A.frames=some X.stack
 _t:X.stack=X.outer\/(X.stack=X.env::X.outer/\X.env.frame=some X.env.locals)
 _B:∀b∈X.ex,b≠X.env.locals/\∀x c,X.env.cells.lookup x=some c->c≠b
 bs:∀b o,X.base.get? b=some o->X.s₀.heap.get? b=some o/\X.H₀ b=none
 ZU:X.base.objs.size<=X.s₀.heap.objs.size
 Y4:∀b o,X.base.get? b=some o->b∉X.ex
 Y5:∀b∈X.ex,b∉X.fs
 Yt:X.s₀.heap.FunFrames X.base X.outer
 ZZ:∀b∈X.fs,X.H₀ b=none
structure z9(X:Cx)(pins:List<|Addr×Obj)(σ:List<|Yb)(H:Hp)(s:X5):Prop where
 ok:X.Ok
 os:s.os=X.s₀.os
 bare:AllBare s.gens
 base:Un X.fs X.ex X.H₀ H X.s₀.heap s.heap
 loc:∃m,s.heap.Ns X.env.locals m/\∀(i:Nat) (x:Str) (v:V),X.N[i]?=some x->σ[i]?=some (some v)->Db X.env.scope x->∃u,zq v u/\ND X.env s.heap m x u
 cell:∀x c,X.env.cells.lookup x=some c->∃v,s.heap.IsCell c v
 free:H X.env.locals=none
 Os:∀x c,X.env.cells.lookup x=some c->H c=none
 pin:∀p∈X.pn++pins,s.heap.get? p.1=some p.2/\H p.1=none/\p.1≠X.env.locals/\p.1∉X.fs/\∀v,p.2.data≠.cell v
 HT:gY X.prog X.w H s.heap
 len:σ.length=X.N.length
 tk:0<s.toks
section
variable {X:Cx}{σ:List<|Yb}
theorem Cx.Ok.nofr(ok:X.Ok){b:Addr}{o:Obj}(e:X.base.get? b=some o):b∉X.fs:=λI=>by have:=(ok.Yt.mem I).1;rw[e] at this;cases this
theorem z9.bs(I:z9 X pins σ H s):∀b o,X.base.get? b=some o->s.heap.get? b=some o/\H b=none:=λb o e=>
 ⟨I.base.keep b o (I.ok.bs b o e).1 (I.ok.bs b o e).2 (I.ok.nofr e)<|I.ok.Y4 b o e,I.base.free b o (I.ok.bs b o e).1 (I.ok.bs b o e).2<|I.ok.Y4 b o e⟩
def z9.bk(I:z9 X pins σ H s):∀b o,X.base.get? b=some o->s.heap.get? b=some o:=λb o e=>(I.bs b o e).1
theorem z9.mod(I:z9 X pins σ H s):Mod X.K X.mg X.base:=I.ok.mod
def z9.Yw(I:z9 X pins σ H s):X.K.In s.heap:=I.ok.mod.Z_.keeps I.bk
theorem z9.nolimit(I:z9 X pins σ H s):s.heap.NoLimit:=I.ok.mod.nolimit.keeps I.bk
theorem z9.lt(I:z9 X pins σ H s):X.env.locals<s.heap.objs.size:=let ⟨_,J,_⟩:=I.loc;J.lt
def z9.sz(I:z9 X pins σ H s):X.s₀.heap.objs.size<=s.heap.objs.size:=AS I.ok.above<|BD I.lt
def z9.Z'(I:z9 X pins σ H s){a:Addr}(h:s.heap.objs.size<=a):a∉X.fs:=λJ=>by obtain⟨_,o,U,_⟩:=I.ok.Yt.mem J;exact absurd (AW (pj U)<|AS I.sz h)<|Cw _
def z9._a(I:z9 X pins σ H s):∀x c,X.env.cells.lookup x=some c->c≠X.env.locals:=λx c e z=>by obtain⟨v,o,g,hd⟩:=I.cell x c e;obtain⟨m,⟨j,l,p,J,U,_⟩,_⟩:=I.loc;rw[z,J] at g;cases g;rw[U] at hd;cases hd
theorem z9.Yt(I:z9 X pins σ H s):s.heap.FunFrames X.base X.outer:=by
 have all:∀(l:List Env),(∀b∈Ze l,b∈X.fs)->X.s₀.heap.FunFrames X.base l->s.heap.FunFrames X.base l:=by
  intro l
  induction l with
  |nil=>intro _ _;trivial
  |cons p r t=>
   rintro j⟨T,⟨L,o,J,hn,ho,hd⟩,hr⟩;have U:=j L (by unfold Ze;rw[DH,J];exact Ai);obtain⟨sl,e⟩:=I.base.slot L o ho (I.ok.ZZ L U) U λz=>I.ok.Y5 L z U;exact{T,{L,_,J,hn,e,hd},t (λb g=>j b (by unfold Ze;rw[DH,J];exact Ac _ g)) hr}
 exact all X.outer (λ_ g=>g) I.ok.Yt
def z9.stack(I:z9 X pins σ H s):s.heap.FunFrames X.base X.stack:=by
 rcases I.ok._t with e|⟨e,J⟩
 .rw[e];exact I.Yt
 .rw[e];obtain⟨m,U,_⟩:=I.loc;refine .cons (by rw[I.ok.kind];decide) J U ?_ I.Yt;exact Heap.get?_none_of_le<|AS I.ok.ZU I.ok.above
def z9.YI(I:z9 X pins σ H s):∀b∈Ze X.stack,b∈X.env.locals::X.fs:=λb J=>by
 rcases I.ok._t with e|⟨e,U⟩
 .rw[e] at J;exact Ac _ J
 .rw[e] at J;unfold Ze at J;rw[DH,U] at J;exact J
def z9.Y9(I:z9 X pins σ H s):∀b∈Ze X.stack,H b=none:=λb J=>by
 rcases Ao.mp (I.YI b J) with e|J
 .rw[e];exact I.free
 .obtain⟨_,o,U,_⟩:=I.ok.Yt.mem J;exact I.base.free b o U (I.ok.ZZ b J) λz=>I.ok.Y5 b z J
def z9.step{g':Array GenState}{d':Drawn}(I:z9 X pins σ H s)
 (U:∀b∈ch,(b∈X.ex\/X.s₀.heap.objs.size<=b)/\b≠X.env.locals/\(∀x c,X.env.cells.lookup x=some c->c≠b)/\∀p∈X.pn++pins,p.1≠b)
 (keep:∀b o,b≠X.env.locals->b∉X.fs->b∉ch->s.heap.get? b=some o->H b=none->h'.get? b=some o)
 (slot:∀b o,b≠X.env.locals->b∈X.fs->b∉ch->s.heap.get? b=some o->H b=none->∃sl,h'.get? b=some {o with slots:=sl}) (free:∀b o,b∉ch->s.heap.get? b=some o->H b=none->H' b=none)
 (there:∀b o,b∉ch->s.heap.get? b=some o->∃o',h'.get? b=some o')
 (Yy:∀b xs,H b=some (.tup xs)->H' b=some (.tup xs)) (YJ:∀b o u,H b=some (.YC o u)->H' b=some (.YC o u)) (YL:∀b ps,H b=some (.YV ps)->∃more,H' b=some (.YV<|ps++more))
 (ns:∀m,s.heap.Ns X.env.locals m->h'.Ns X.env.locals m) (HT:gY X.prog X.w H' h') (hg:AllBare g') (ht:0<t':=by walk_at "t"):
 z9 X pins σ H' {s with heap:=h',gens:=g',drawn:=d',toks:=t'}:=by
 have w6:∀b o,X.s₀.heap.get? b=some o->b≠X.env.locals:=λb o e=>AY<|AW (pj e) I.ok.above;have t:∀b o,X.s₀.heap.get? b=some o->b∉X.ex->b∉ch:=λb o e J T=>by
  rcases (U b T).1 with z|z
  .exact J z
  .exact absurd (AW (pj e) z)<|Cw _
 have g:∀x c,X.env.cells.lookup x=some c->∀v,s.heap.IsCell c v->h'.IsCell c v:=λx c e v ψ=>by
  obtain⟨o,ho,hd⟩:=ψ
  have j:c∉ch:=λz=>(U c z).2.2.1 x c e rfl;by_cases hc:c∈X.fs
  .obtain⟨sl,q⟩:=slot c o (I._a x c e) hc j ho<|I.Os x c e;exact{_,q,hd}
  .exact{o,keep c o (I._a x c e) hc j ho<|I.Os x c e,hd}
 refine{I.ok,I.os,hg,{λb o e n T J=>?_,λb o e n T J=>?_,λb o e n J=>?_,λb o e J=>?_,λb xs e=>Yy b xs<|I.base.Yy b xs e,λb o xs e=>YJ b o xs<|I.base.YJ b o xs e,λb ps e=>?_},?_,λx c e=>?_,?_,λx c e=>?_,λp hp=>?_,HT,I.len,ht}
 .exact keep b o (w6 b o e) T (t b o e J) (I.base.keep b o e n T J)<|I.base.free b o e n J
 .obtain⟨sl,C⟩:=I.base.slot b o e n T J;obtain⟨a0,e2⟩:=slot b _ (w6 b o e) T (t b o e J) C<|I.base.free b o e n J;exact{(a0),e2}
 .obtain⟨o',C⟩:=I.base.there b o e J;exact free b o' (t b o e J) C<|I.base.free b o e n J
 .obtain⟨o',C⟩:=I.base.there b o e J;exact there b o' (t b o e J) C
 .obtain⟨m1,C⟩:=I.base.YL b ps e;obtain⟨m2,e2⟩:=YL b _ C;exact{m1++m2,by rw[e2,Array.append_assoc]}
 .obtain⟨m,hn,hl⟩:=I.loc;refine{m,ns m hn,λi x v C e2 e3=>?_};obtain⟨u,r,l⟩:=hl i x v C e2 e3;refine{u,r,?_};rcases l with l|⟨k,c,e,z⟩
  .exact .inl l
  .exact .inr {k,c,e,g x c e _ z}
 .obtain⟨v,z⟩:=I.cell x c e;exact{v,g x c e v z}
 .obtain⟨m,⟨o,_,_,ho,_⟩,_⟩:=I.loc;exact free _ o (λz=>(U _ z).2.1 rfl) ho I.free
 .obtain⟨v,o,ho,hd⟩:=I.cell x c e;exact free c o (λz=>(U c z).2.2.1 x c e rfl) ho<|I.Os x c e
 .obtain⟨e,n,ne,nf,d⟩:=I.pin p hp;have j:p.1∉ch:=λz=>(U p.1 z).2.2.2 p hp rfl;exact{keep p.1 p.2 ne nf j e n,free p.1 p.2 j e n,ne,nf,d}
def z9.un(I:z9 X pins σ H s)(u:Un X.fs [] H H' s.heap h')(HT:gY X.prog X.w H' h')(T:0<t':=by walk_at "t"):z9 X pins σ H' {s with heap:=h',toks:=t'}:=by obtain⟨m,⟨o,es,ep,l,r⟩,_⟩:=id I.loc;obtain⟨sl,p⟩:=u.any l I.free (by simp);exact I.step (g':=s.gens) (d':=s.drawn) (ch:=[]) (λ_ z=>nomatch z) (λb o _ U _ e n=>u.keep b o e n U (by simp)) (λb o _ U _ e n=>u.slot b o e n U (by simp)) (λb o _ e n=>u.free b o e n (by simp)) (λb o _ e=>u.there b o e (by simp)) u.Yy u.YJ u.YL (λm' t=>by obtain⟨o',g,j,J,C⟩:=t;rw[l] at J;cases J;exact{_,g,j,p,C}) HT I.bare
def z9.call{g':Array GenState}{d':Drawn}(I:z9 X pins σ H s)(u:Un (Ze X.stack) ch H H' s.heap h')(HT:gY X.prog X.w H' h')(T:AllBare g')
 (U:∀b∈ch,(b∈X.ex\/X.s₀.heap.objs.size<=b)/\b≠X.env.locals/\(∀x c,X.env.cells.lookup x=some c->c≠b)/\∀p∈X.pn++pins,p.1≠b) (ht:0<t':=by walk_at "t"):
 z9 X pins σ H' {s with heap:=h',gens:=g',drawn:=d',toks:=t'}:=by
 obtain⟨m,⟨o,es,ep,C,r⟩,_⟩:=id I.loc;obtain⟨sl,j⟩:=u.any C I.free λz=>(U _ z).2.1 rfl;exact I.step (ch:=ch) U (λb o j hb J e n=>u.keep b o e n (λz=>(Ao.mp<|I.YI b z).elim j hb) J) (λb o _ _ J e n=>u.any e n J) (λb o J e n=>u.free b o e n J) (λb o J e=>u.there b o e J) u.Yy u.YJ u.YL (λm' hm=>by obtain⟨o',l,t,g,r'⟩:=hm;rw[C] at g;cases g;exact{_,l,t,j,r'}) HT T
def z9.turned(I:z9 X pins σ H s)(k:∀b o,b≠it->s.heap.get? b=some o->h'.get? b=some o)(j:H it=none)(g:it≠X.env.locals)
 (h1:it∈X.ex\/X.s₀.heap.objs.size<=it) (h2:∀x c,X.env.cells.lookup x=some c->c≠it) (l:∀p∈X.pn++pins,p.1≠it) (ht:0<t':=by walk_at "t"):z9 X pins σ H {s with heap:=h',toks:=t'}:=by
 have U:∀b u,H b=some u->b≠it:=λb u e z=>by rw[z,j] at e;cases e
 refine I.step (g':=s.gens) (d':=s.drawn) (ch:=[it]) (λb t=>?_) (λb o _ _ J e _=>k b o (λz=>J (by simp[z])) e) (λb o _ _ J e _=>{o.slots,k b o (λz=>J (by simp[z])) e}) (λ_ _ _ _ n=>n)
  (λb o J e=>{o,k b o (λz=>J (by simp[z])) e}) (λ_ _ e=>e) (λ_ _ _ e=>e) (λb ps e=>{#[],by rw[e];simp}) (λm C=>?_) (λb u e=>?_) I.bare
 .have e:b=it:=by simpa using t
  subst e;exact{(h1),g,h2,l}
 .obtain⟨o,T,ep,ho,r⟩:=C;exact{o,T,ep,k _ o (AJ g) ho,r}
 .refine(I.HT b u e).Ys (λc v J q=>k c v ?_ q) (λ_ q=>q) λ_ _ q=>q;rcases J with z|z
  .rw[z];exact U b u e
  .exact U c _ z
def z9.tok(I:z9 X pins σ H s)(t:Nat)(J:0<t:=by walk_at "t"):z9 X pins σ H {s with toks:=t}:=I.un (h':=s.heap) (t':=t) Un.refl I.HT
theorem z9.kept(I:z9 X pins σ H s)(k:∀b u,s.heap.get? b=some u->h'.get? b=some u)(J:0<t':=by walk_at "t"):z9 X pins σ H {s with heap:=h',toks:=t'}:=I.un (Un.kept k)<|I.HT.kept k
theorem z9.laid{a:Addr}{o:HO}(I:z9 X pins σ H s)(k:∀b u,s.heap.get? b=some u->h'.get? b=some u)(hp:s.heap.objs.size<=a)(new:vf X.prog X.w (upd H a o) h' a o)(J:0<t':=by walk_at "t"):
 z9 X pins σ (upd H a o) {s with heap:=h',toks:=t'}:=I.un (Un.laid k hp<|I.HT.fresh hp)<|I.HT.laid k hp new
theorem z9.write{x e:Addr}{o:HO}(I:z9 X pins σ H s)(U:EW<|H x)(g:e=x\/H e=some (.own x))(k:∀b u,b≠e->s.heap.get? b=some u->h'.get? b=some u)(J:∃u,h'.get? e=some u)
 (new:vf X.prog X.w (upd H x o) h' x o) (j:0<t':=by walk_at "t"):z9 X pins σ (upd H x o) {s with heap:=h',toks:=t'}:=I.un (Un.write U g k J)<|I.HT.write U g k J new
def z9.weak{hQ:List<|Yb}(I:z9 X pins σ H s)(U:hQ.length=σ.length)(w:∀(i:Nat) v,hQ[i]?=some (some v)->σ[i]?=some (some v)):z9 X pins hQ H s:=
 ⟨I.ok,I.os,I.bare,I.base,let ⟨m,g,J⟩:=I.loc;⟨m,g,λi x v j l o=>J i x v j (w i v l) o⟩,I.cell,I.free,I.Os,I.pin,I.HT,U.trans I.len,I.tk⟩
def z9.YW{J:List<|Addr×Obj}(I:z9 X pins σ H s)(h:∀p∈J,s.heap.get? p.1=some p.2/\H p.1=none/\p.1≠X.env.locals/\p.1∉X.fs/\∀v,p.2.data≠.cell v):z9 X J σ H s:=
 ⟨I.ok,I.os,I.bare,I.base,I.loc,I.cell,I.free,I.Os,λp U=>(Ag.mp U).elim (λz=>I.pin p<|Am _ z)<|h p,I.HT,I.len,I.tk⟩
def wE{N:XT}(hN:N.Nodup)(a:N[i]?=some x)(b:N[j]?=some x):i=j:=by obtain⟨U,I⟩:=AN.mp a;obtain⟨g,J⟩:=AN.mp b;exact(List.getElem_inj hN).mp (I.trans J.symm)
def rY{Q:XJ}(I:z9 X pins σ H s)(hN:X.N.Nodup)(hi:X.N[i]?=some x)(t:Loc X.env.scope x)(r:zq v u)
 (h:∀s',z9 X pins (σ.set i<|some v) H s'->(∃a,Heap.SameBut a s.heap s'.heap/\(a=X.env.locals\/X.env.cells.lookup x=some a))->(X.env.kindOf x=some .local->∃m',s'.heap.Ns X.env.locals m'/\m' x=some u)->Q () s') (hf:X.fn x=true\/X.env.scope.names.lookup x=some .local:=by first|exact .inl rfl|exact .inr rfl|assumption):wpAny M A (storeName X.env x u) Q E s:=by
 obtain⟨m,hn,hl⟩:=id I.loc;have a2:(X.env.scope.kind==.class||(X.env.scope.kind==.module&&X.env.locals != X.env.globals))=false:=by rw[I.ok.kind];rfl
 have a0:i<σ.length:=by rw[I.len];exact(AN.mp hi).1
 have _a:=I._a;have U:∀{a:Addr} {h':X8},(∃o,s.heap.get? a=some o/\H a=none)->Heap.SameBut a s.heap h'->gY X.prog X.w H h':=λ{a h'} ha J b ob e=>by
  obtain⟨_,_,C⟩:=ha;refine(I.HT b ob e).Ys (λc w' l q=>(J.2 c ?_).trans q) (λ_ q=>q) λ_ _ q=>q;rintro rfl;rcases l with rfl|l
  .rw[C] at e;cases e
  .rw[C] at l;cases l
 rcases t with T|T
 .refine wpAny_storeName_local T hn (λh' a3 J=>?_) a2;obtain⟨oL,_,_,al,_⟩:=id hn;refine h _ {I.ok,I.os,I.bare,{λb o e n hb t=>?_,λb o e n hb t=>?_,I.base.free,λb o e t=>?_,I.base.Yy,I.base.YJ,I.base.YL},{_,a3,λj y v' g e2 e3=>?_},λy c e=>?_,I.free,I.Os,λp hp=>?_,U {(oL),al,I.free} J,by simpa using I.len,by first|exact I.tk|exact Cf _} {_,J,.inl rfl} λ_=>{_,a3,by simp}
  .exact(J.2 b<|AY<|AW (pj e) I.ok.above).trans (I.base.keep b o e n hb t)
  .obtain⟨sl,g⟩:=I.base.slot b o e n hb t;exact{sl,(J.2 b<|AY<|AW (pj e) I.ok.above).trans g}
  .obtain⟨o',g⟩:=I.base.there b o e t;exact{o',(J.2 b<|AY<|AW (pj e) I.ok.above).trans g}
  .by_cases hj:j=i
   .subst hj;rw[hi] at g;cases g;rw[BM a0] at e2;cases e2;exact{u,r,.inl {T,by simp}}
   .rw[AZ<|AJ hj] at e2;obtain⟨u',r',q⟩:=hl j y v' g e2 e3;refine{u',r',?_};rcases q with⟨k,e⟩|⟨k,c,e,z⟩
    .refine .inl {k,?_};have:y≠x:=λe=>hj<|wE hN g<|e▸hi;simp[this,e]
    .exact .inr {k,c,e,z.sameBut J<|_a y c e}
  .obtain⟨w',z⟩:=I.cell y c e;exact{w',z.sameBut J<|_a y c e}
  .obtain⟨e,n,ne,nf,d⟩:=I.pin p hp;exact{(J.2 p.1 ne).trans e,n,ne,nf,d}
 .have a1:X.fn x=true:=by
   rcases hf with z|z
   .exact z
   .rw[z] at T;cases T
  obtain⟨c,l⟩:=I.ok.has x<|.inl T;obtain⟨w',z⟩:=I.cell x c l;refine wpAny_storeName_cell I.ok.kind T l z λh' a4 J=>?_;obtain⟨oc,a5,ab⟩:=id z;refine h {s with heap:=h'} {I.ok,I.os,I.bare,{λb o e n hb t=>?_,λb o e n hb t=>?_,I.base.free,λb o e t=>?_,I.base.Yy,I.base.YJ,I.base.YL},{m,hn.sameBut J<|AJ<|_a x c l,λj y v' g e2 e3=>?_},λy c' e=>?_,I.free,I.Os,λp hp=>?_,U {oc,a5,I.Os x c l} J,by simpa using I.len,I.tk} {c,J,.inr l} (λz=>by have e:=(show X.env.kindOf x=some .cell from T).symm.trans z;cases e)
  .exact(J.2 b<|AY<|AW (pj e)<|I.ok._b x c a1 l).trans (I.base.keep b o e n hb t)
  .obtain⟨sl,g⟩:=I.base.slot b o e n hb t;exact{sl,(J.2 b<|AY<|AW (pj e)<|I.ok._b x c a1 l).trans g}
  .obtain⟨o',g⟩:=I.base.there b o e t;exact{o',(J.2 b<|AY<|AW (pj e)<|I.ok._b x c a1 l).trans g}
  .by_cases hj:j=i
   .subst hj;rw[hi] at g;cases g;rw[BM a0] at e2;cases e2;exact{u,r,.inr {.inl T,c,l,a4}}
   .rw[AZ<|AJ hj] at e2;obtain⟨u',r',q⟩:=hl j y v' g e2 e3;refine{u',r',?_};rcases q with q|⟨k,c',e,z'⟩
    .exact .inl q
    .refine .inr {k,c',e,z'.sameBut J ?_};rintro rfl;exact hj<|wE hN g<|I.ok.inj _ _ _ e l▸hi
  .by_cases ac:c'=c
   .subst ac;exact{_,a4}
   .obtain⟨w2,z2⟩:=I.cell y c' e;exact{w2,z2.sameBut J ac}
  .obtain⟨e,n,ne,nf,d⟩:=I.pin p hp;refine{(J.2 p.1 ?_).trans e,n,ne,nf,d};intro q;rw[q,a5] at e;have q':=AR e;exact d w' (by rw[<-q'];exact ab)
def iZ{Q:XJ}(I:z9 X pins σ H s)(hN:X.N.Nodup)(hi:X.N[i]?=some x)(J:Loc X.env.scope x)(r:zq v u)
 (h:∀s',z9 X pins (σ.set i<|some v) H s'->Q () s') (U:X.fn x=true\/X.env.scope.names.lookup x=some .local:=by first|exact .inl rfl|exact .inr rfl|assumption):wpAny M A (storeName X.env x u) Q E s:=
 rY I hN hi J r (λs' g _ _=>h s' g) U
def z9.ZF(I:z9 X pins σ H s)(U:s'.os=s.os)(u:Un (Ze X.stack) ch H H' s.heap s'.heap)(HT:gY X.prog X.w H' s'.heap)(g:AllBare s'.gens)
 (J:∀b∈ch,(b∈X.ex\/X.s₀.heap.objs.size<=b)/\b≠X.env.locals/\(∀x c,X.env.cells.lookup x=some c->c≠b)/\∀p∈X.pn++pins,p.1≠b) (j:0<s'.toks:=by walk_at "t"):z9 X pins σ H' s':=by
 obtain⟨l,g',d',t',o⟩:=s';have e:=U;subst e;exact I.call (g':=g') (t':=t') (d':=d') u HT g J j
end
abbrev XK:=X4->Option Addr->Hp->Prop
abbrev St:=List<|Yb
abbrev VK:=V->Hp->Prop
abbrev TE:=St->Hp->VK->Prop
abbrev TT:=St->Hp->(Bool->Hp->Prop)->Prop
abbrev TA:=St->Hp->(X_->Hp->Prop)->Prop
structure yD where
 nx:St->Hp->Prop
 rt:VK
 bk:St->Hp->Prop:=λ_ _=>False
 ct:St->Hp->Prop:=λ_ _=>False
abbrev TS:=yD->St->Hp->Prop
def EP(X:Cx)(pins:List<|Addr×Obj)(σ:St)(Q:VK)(u:X4)(s':X5):Prop:=∃v H',z9 X pins σ H' s'/\zq v u/\Q v H'
def TP(X:Cx)(pins:List<|Addr×Obj)(σ:St)(Q:Bool->Hp->Prop)(b:Bool)(s':X5):Prop:=∃H',z9 X pins σ H' s'/\Q b H'
def AP(X:Cx)(pins:List<|Addr×Obj)(σ:St)(Q:X_->Hp->Prop)(us:XQ)(s':X5):Prop:=∃vs H',z9 X pins σ H' s'/\zn vs us/\Q vs H'
def SP(X:Cx)(pins:List<|Addr×Obj)(D:yD)(f:Flow)(s':X5):Prop:=
 match f with
 |.next=>∃hQ H',z9 X pins hQ H' s'/\D.nx hQ H'
 |.brk=>∃hQ H',z9 X pins hQ H' s'/\D.bk hQ H'
 |.cont=>∃hQ H',z9 X pins hQ H' s'/\D.ct hQ H'
 |.ret u=>∃v hQ H',z9 X pins hQ H' s'/\zq v u/\D.rt v H'
def PE(X:Cx)(e:Expr)(t:TE):Prop:=
 ∀(pins:List<|Addr×Obj) (s:X5) (σ:St) (H:Hp) (Q:VK),z9 X pins σ H s->t σ H Q->_S X (eval e X.env) (EP X pins σ Q) X.xe s
def PT(X:Cx)(e:Expr)(t:TT):Prop:=
 ∀(pins:List<|Addr×Obj) (s:X5) (σ:St) (H:Hp) (Q:Bool->Hp->Prop),z9 X pins σ H s->t σ H Q->_S X (isTrue e X.env<|eval e X.env) (TP X pins σ Q) X.xe s
def PW(X:Cx)(e:Expr)(t:TT):Prop:=
 ∀(whole:Sem X4) (pins:List<|Addr×Obj) (s:X5) (σ:St) (H:Hp) (Q:Bool->Hp->Prop),z9 X pins σ H s->t σ H Q->_S X (isTrue e X.env whole) (TP X pins σ Q) X.xe s
def PW.pt{X:Cx}{t:TT}(h:PW X e t):PT X e t:=h _
def PA(X:Cx)(es:XU)(t:TA):Prop:=
 ∀(pos:Pos) (pins:List<|Addr×Obj) (s:X5) (σ:St) (H:Hp) (Q:X_->Hp->Prop),z9 X pins σ H s->t σ H Q->_S X (spliced<|backTo pos<|starEach es X.env) (AP X pins σ Q) X.xe s
def PS(X:Cx)(st:Stmt)(t:TS):Prop:=
 ∀(pins:List<|Addr×Obj) (s:X5) (σ:St) (H:Hp) (D:yD),z9 X pins σ H s->t D σ H->_S X (exec st X.env) (SP X pins D) X.xe s
def lz(X:Cx)(st:XW)(t:TS):Prop:=
 ∀(pins:List<|Addr×Obj) (s:X5) (σ:St) (H:Hp) (D:yD),z9 X pins σ H s->t D σ H->_S X (execs st X.env) (SP X pins D) X.xe s
def aN{t:Sem α}{Q I:α->X5->Prop}(h:wpAny M A t Q E s)(J:∀a s,Q a s->I a s):wpAny M A t I E s:=Bd h J λ_ _ x=>x
def bA{t:Sem X4}{X:Cx}{σ:St}{Q:VK}{I:XI}(h:wpAny M A t (EP X pins σ Q) E s)(J:∀v s x H,z9 X pins σ H s->zq x v->Q x H->I v s):wpAny M A t I E s:=aN h λv s ψ=>(by obtain⟨x,H,a,b,c⟩:=ψ;exact J v s x H a b c)
def uw{t:Sem<|XQ}{X:Cx}{σ:St}{Q:X_->Hp->Prop}{I:XQ->X5->Prop}(h:wpAny M A t (AP X pins σ Q) E s)(J:∀v s x H,z9 X pins σ H s->zn x v->Q x H->I v s):wpAny M A t I E s:=aN h λv s ψ=>(by obtain⟨x,H,a,b,c⟩:=ψ;exact J v s x H a b c)
variable {r:V->XZ->XZ->Hp->VK->Prop}{X:Cx}{σ:St}
section
def Gj(i:Nat):TE:=λσ H Q=>∃v,σ[i]?=some (some v)/\Q v H
def tC(v:V):TE:=λ_ H Q=>Q v H
abbrev Fc(x:Str):Prop:=(x==("__debug__":Str))=false
abbrev Fe(x:Str):Prop:=(x==("__classdict__":Str))=false
def NE(hN:X.N[i]?=some x)(p:Db X.env.scope x)(hd:Fc x:=by decide)(j:Fe x:=by decide):PE X (.Name x pos) (Gj i):=by
 rintro g s t H Q I⟨v,e,h⟩;obtain⟨m,C,T⟩:=I.loc;obtain⟨u,r,l⟩:=T i x v hN e p;have xg:EP X g t Q u s:={(v),H,I,r,h};rcases l with⟨U,hm⟩|⟨U,c,o,J⟩
 .exact wpAny_Name (wpAny_loadName_local I.ok.kind U C hm xg) hd
 .rcases U with U|U
  .exact wpAny_Name (wpAny_loadName_cell I.ok.kind U o J xg) hd
  .exact wpAny_Name (wpAny_loadName_free I.ok.kind U o J xg j) hd
def NF{i j pos}:PE X (.Constant (.int i) j pos) (tC<|.int i):=λ_ _ _ H _ I h=>wpAny_Constant_int {.int i,H,I.tok _,{_,rfl},h}
def NG{b j pos}:PE X (.Constant (.bool b) j pos) (tC<|.bl b):=λ_ _ _ H _ I h=>Constant_bool {.bl b,H,I,rfl,h}
def NH{j pos}:PE X (.Constant .none j pos) (tC .KB):=λ_ _ _ H _ I h=>Constant_none {.KB,H,I,rfl,h}
def dQ{x j pos}:PE X (.Constant (.str x) j pos) (tC<|.str x):=λ_ _ _ H _ I h=>Calls.Constant_str {.str x,H,I.tok _,{_,rfl},h}
def Gl(X:Cx)(x:Str):Prop:=X.env.kindOf x=some .globalImplicit
def uP(I:z9 X pins σ H s)(J:Gl X x)(U:X.mg x=some u)(h:Q u s)
 (hd:Fc x:=by decide):_S X (eval (.Name x pos) X.env) Q E s:=
 Calls.Name_function_global I.ok.kind J (Calls.loadGlobal_global (by rw[I.ok.glob];exact I.mod.glob.keeps I.bk) U h) hd
def dm(I:z9 X pins σ H s)(J:Gl X x)(U:X.mg x=none)(g:bootBuiltins x=some u)(h:Q u s)
 (j:x ≠ "__name__" := by decide) (hd:Fc x:=by decide):_S X (eval (.Name x pos) X.env) Q E s:=by
 obtain⟨p,l,o⟩:=I.mod.blt;exact Calls.Name_function_global I.ok.kind J (Calls.loadGlobal_builtin (by rw[I.ok.glob];exact I.mod.glob.keeps I.bk) U (by rw[I.ok.blt];exact l.keeps I.bk) ((o x j).trans g) h) hd
def NI(J:Gl X x)(U:X.mg x=some u)(r:zq v u)(hd:Fc x:=by decide):PE X (.Name x pos) (tC v):=
 λ_ _ _ H _ I h=>uP I J U {(v),H,I,r,h} hd
def NJ(J:Gl X x)(U:X.mg x=none)(g:bootBuiltins x=some u)(r:zq v u)(j:x ≠ "__name__" := by decide)(hd:Fc x:=by decide):PE X (.Name x pos) (tC v):=
 λ_ _ _ H _ I h=>dm I J U g {(v),H,I,r,h} j hd
variable {a b:Expr}{ta tb:TE}
def PC(X:Cx)(op:CmpOp)(a b:Expr)(t:TE):Prop:=
 ∀(pins:List<|Addr×Obj) (s:X5) (σ:St) (H:Hp) (Q:VK),z9 X pins σ H s->t σ H Q->
  _S X (eval a X.env) (λv I=>_S X (eval b X.env) (λu J=>_S X (compareOp op v u) (EP X pins σ Q) X.xe J) X.xe I) X.xe s
def u8(b:Expr){op:CmpOp}(h:op≠.In)(h2:op≠.NotIn):behindInMarks op b=false:=by
 have I:(op==CmpOp.In)=false:=by cases op<;>first|rfl|exact absurd rfl h
 have J:(op==CmpOp.NotIn)=false:=by cases op<;>first|rfl|exact absurd rfl h2
 cases b<;>simp[behindInMarks,I,J]
def HF(ta:TE):TE:=λσ H Q=>ta σ H λx H1=>Q (.bl<|decide<|x=.KB) H1
def HG(ta:TE):TE:=λσ H Q=>ta σ H λx H1=>Q (.bl<|!decide (x=.KB)) H1
def zq.Y1{x:V}{v:X4}(r:zq x v):(v==Value.none)=decide (x=.KB):=by
 cases x with
 |KB=>cases r;rfl
 |bl _=>cases r;rfl
 |int _=>obtain⟨t,rfl⟩:=r;rfl
 |str _=>obtain⟨t,rfl⟩:=r;rfl
 |_A _=>obtain⟨t,rfl⟩:=r;rfl
 |Z5 _=>obtain⟨t,rfl⟩:=r;rfl
 |ref _=>cases r;rfl
 |ty _=>cases r;rfl
def HH{j fx}(U:PE X a ta):PC X .Is a (.Constant .none j fx) (HF ta):=by intro J s g H Q I h;refine bA (U J s g H _ I h) λv t x l o p r=>?_;exact Constant_none (is_none_gen {.bl _,l,o,by rw[p.Y1];rfl,r})
def NK{j fx}(U:PE X a ta):PC X .IsNot a (.Constant .none j fx) (HG ta):=by intro J s g H Q I h;refine bA (U J s g H _ I h) λv t x l o p r=>?_;exact Constant_none (isnot_none_gen {.bl _,l,o,by rw[p.Y1];rfl,r})
def tB(t:TE):TT:=λσ H Q=>t σ H λx H1=>∃c,x=.bl c/\Q c H1
def NL{op:CmpOp}{t:TE}(h:PC X op a b t)(h1:behindInMarks op b=false:=by first|exact u8 _ (by decide) (by decide)|rfl):PE X (.Compare a [op] [b] pos) t:=λJ s U H Q I hw=>wpAny_Compare1 (h J s U H Q I hw) h1
def HI{op:CmpOp}{t:TE}(h:PC X op a b t)(h1:behindInMarks op b=false:=by first|exact u8 _ (by decide) (by decide)|rfl):PT X (.Compare a [op] [b] pos) (tB t):=by intro J s U H Q I hw;refine wpAny_isTrue_Compare1 (aN (h J s U H _ I hw) λv r h1=>aN h1 λu C g=>aN g λc T ψ=>?_) h1;obtain⟨x,j,l,o,p⟩:=ψ;obtain⟨d,rfl,q⟩:=p;cases o;exact wpAny_truthy_bool {(j),l,q}
def NM{t:TE}(h:PE X e t)(U:∀whole,isTrue e X.env whole=(do let v <-whole;standAt e.pos;holding [v] (truthy v)):=by intro _;rfl):PT X e (tB t):=by intro J s g H Q I hw;refine isTrue_plain (bA (h J s g H _ I hw) λv r x j l o p=>?_)<|U _;obtain⟨d,rfl,q⟩:=p;cases o;exact wpAny_truthy_bool {(j),l,q}
variable {tA nE:TT}{rest:XU}
def NN(t u:TT):TT:=λσ H Q=>t σ H λc H1=>if c=true then u σ H1 Q else Q false H1
def NO(t u:TT):TT:=λσ H Q=>t σ H λc H1=>if c=true then Q true H1 else u σ H1 Q
def NP(t:TT):TT:=λσ H Q=>t σ H λc H1=>Q (!c) H1
def NQ(U:PT X a tA):PW X (.BoolOp .And [a] pos) tA:=by intro j J s g H Q I h;refine isTrue_and<|aN (U J s g H Q I h) λc l e=>?_;cases c with|true=>exact isTrue_and_nil e|false=>exact e
def NR(U:PT X a tA):PW X (.BoolOp .Or [a] pos) tA:=by intro j J s g H Q I h;refine isTrue_or<|aN (U J s g H Q I h) λc l e=>?_;cases c with|false=>exact isTrue_or_nil e|true=>exact e
def NS(o:PT X a tA)(p:PW X (.BoolOp .And (b::rest) pos) nE):PW X (.BoolOp .And (a::b::rest) pos) (NN tA nE):=by intro r J s U H Q I h;refine isTrue_and<|aN (o J s U H _ I h) λc t ψ=>?_;obtain⟨g,j,l⟩:=ψ;cases c with|true=>exact p r J t U g Q j l|false=>exact{(g),j,l}
def NT(o:PT X a tA)(p:PW X (.BoolOp .Or (b::rest) pos) nE):PW X (.BoolOp .Or (a::b::rest) pos) (NO tA nE):=by intro r J s U H Q I h;refine isTrue_or<|aN (o J s U H _ I h) λc t ψ=>?_;obtain⟨g,j,l⟩:=ψ;cases c with|true=>exact{(g),j,l}|false=>exact p r J t U g Q j l
def NU(U:PT X a tA):PT X (.UnaryOp .Not a pos) (NP tA):=by intro J s g H Q I h;exact isTrue_not<|U J s g H (λc j=>Q (!c) j) I h
def NV(ta tb:TE):TE:=λσ H Q=>ta σ H λx H1=>∃c,x=.bl c/\if c=true then tb σ H1 Q else Q (.bl false) H1
def NW(ta:TE):TE:=λσ H Q=>ta σ H λx H1=>∃c,x=.bl c/\Q (.bl<|!c) H1
def NX{op}{t:TE}(h:PE X a t):PE X (.BoolOp op [a] pos) t:=λJ s U H Q I hw=>BoolOp_one<|h J s U H Q I hw
def NY(o:PE X a ta)(p:PE X (.BoolOp .And (b::rest) pos) tb):PE X (.BoolOp .And (a::b::rest) pos) (NV ta tb):=by
 intro J s g H Q I h;refine BoolOp_and<|bA (o J s g H _ I h) λv r x j l t U=>?_;obtain⟨c,rfl,U⟩:=U;cases t;refine wpAny_truthy_bool ?_;cases c with
 |true=>exact p J r g j Q l U
 |false=>exact{.bl false,j,l,rfl,U}
def NZ(g:PE X a ta):PE X (.UnaryOp .Not a pos) (NW ta):=by intro J s j H Q I h;refine UnaryOp_<|bA (g J s j H _ I h) λv r x l o p U=>?_;obtain⟨c,rfl,U⟩:=U;cases p;exact not_of<|wpAny_truthy_bool {.bl<|!c,l,o,rfl,U}
def N4(t:TT)(ta tb:TE):TE:=λσ H Q=>t σ H λc H1=>if c=true then ta σ H1 Q else tb σ H1 Q
def N5(hc:PT X c tA)(p:PE X a ta)(r:PE X b tb):PE X (.IfExp c a b pos) (N4 tA ta tb):=by intro J s U H Q I h;refine wpAny_IfExp<|aN (hc J s U H _ I h) λd g ψ=>?_;obtain⟨j,l,o⟩:=ψ;cases d with|true=>exact p J g U j Q l o|false=>exact r J g U j Q l o
end
def bE(K:Ak)(H:Hp)(a:Addr)(xs:X_):Prop:=
 Rd H a (.lst xs)\/
  ∃(o:Obj) (eh:XR) (n:Nat),K.lookup a=some o/\o.cls=.type "list" /\ o.dict=none/\o.data=.seq eh n/\eh.size<=sizeLine/\zn xs eh.toList
def eE(K:Ak)(H:Hp)(a:Addr)(xs:X_):Prop:=
 Rd H a (.tup xs)\/
  ∃(o:Obj) (eh:XR) (n:Nat),K.lookup a=some o/\o.cls=.type "tuple" /\ o.data=.seq eh n/\eh.size<=sizeLine/\zn xs eh.toList
def N6:X4->Yb
 |.none=>some .KB
 |.bool b=>some<|.bl b
 |.int i _=>some<|.int i
 |.str x _=>some<|.str x
 |.bytes b _=>some<|._A b
 |.float b _=>some<|.Z5 b
 |.ref a=>some<|.ref a
 |.type n=>some<|.ty n
 |_=>none
def zq.abs{x:V}(r:zq x u):N6 u=some x:=by
 cases x with
 |KB=>cases r;rfl
 |bl _=>cases r;rfl
 |int _=>obtain⟨t,rfl⟩:=r;rfl
 |str _=>obtain⟨t,rfl⟩:=r;rfl
 |_A _=>obtain⟨t,rfl⟩:=r;rfl
 |Z5 _=>obtain⟨t,rfl⟩:=r;rfl
 |ref _=>cases r;rfl
 |ty _=>cases r;rfl
def zq.inj{x y:V}(r:zq x u)(q:zq y u):x=y:=AR<|r.abs.symm.trans q.abs
theorem zn.inj:∀{xs ys:X_} {us:XQ},zn xs us->zn ys us->xs=ys:=by
 intro xs ys us h k
 induction h generalizing ys with
 |nil=>cases k;rfl
 |cons r t I=>
  cases k with|cons J U=>rw[r.inj J,I U]
section
variable {a:Addr}{ys:X_}
def bE.of{K:Ak}(h:H a=some (.lst xs)):bE K H a xs:=.inl<|.inl h
def eE.of{K:Ak}(h:H a=some (.tup xs)):eE K H a xs:=.inl<|.inl h
def z9.list(I:z9 X pins σ H s)(h:bE X.K H a xs):∃eh:XQ,zn xs eh/\PlainL s.heap a eh.toArray/\xs.length<=sizeLine:=by
 rcases h with h|⟨o,eh,n,J,U,hd,g,j,r⟩
 .obtain⟨z,eh,n,r,e⟩:=h.ok I.HT;exact{eh,r,{_,n,e,rfl,rfl,rfl},z}
 .refine{eh.toList,r,{o,n,I.Yw a o J,U,hd,by simpa using g},?_};have e:=r.length;simp only[Be] at e;lia
def z9.tuple(I:z9 X pins σ H s)(h:eE X.K H a xs):∃eh:XQ,zn xs eh/\IsTup s.heap a eh.toArray/\xs.length<=sizeLine:=by
 rcases h with h|⟨o,eh,n,J,U,g,j,r⟩
 .obtain⟨z,eh,r,p⟩:=h.ok I.HT;exact{(eh),r,p,z}
 .refine{eh.toList,r,{o,I.Yw a o J,U,n,by simpa using g},?_};have e:=r.length;simp only[Be] at e;lia
def z9.Yu(I:z9 X pins σ H s)(h:bE X.K H a xs)(h':bE X.K H a ys):xs=ys:=by
 obtain⟨U,r,⟨o,n,e,_,_,d⟩,_⟩:=I.list h;obtain⟨J,l,⟨p,t,g,_,_,j⟩,_⟩:=I.list h';rw[e] at g;cases g;rw[d] at j;injection j with d1 _
 have:U=J:=by simpa using BU Array.toList d1
 subst this;exact r.inj l
def z9.Yz(I:z9 X pins σ H s)(h:eE X.K H a xs)(h':eE X.K H a ys):xs=ys:=by
 obtain⟨U,r,⟨o,e,_,n,d⟩,_⟩:=I.tuple h;obtain⟨J,l,⟨p,g,_,t,j⟩,_⟩:=I.tuple h';rw[e] at g;cases g;rw[d] at j;injection j with d1 _
 have:U=J:=by simpa using BU Array.toList d1
 subst this;exact r.inj l
end
abbrev Cx.YN(X:Cx)(E:XI):Cx:={X with xe:=E}
abbrev Cx.Z0(X:Cx):Cx:=X.YN λ_ _=>False
theorem Cx.Ok.YN(ok:X.Ok)(E:XI):(X.YN E).Ok:=
 ⟨ok.mod,ok.kind,ok.glob,ok.blt,ok.above,ok.inj,ok.has,ok._b,ok.hd,ok.frames,ok._t,ok._B,ok.bs,ok.ZU,ok.Y4,ok.Y5,ok.Yt,ok.ZZ⟩
theorem Cx.Ok.SL(ok:(X.YN E).Ok):X.Ok:=
 ⟨ok.mod,ok.kind,ok.glob,ok.blt,ok.above,ok.inj,ok.has,ok._b,ok.hd,ok.frames,ok._t,ok._B,ok.bs,ok.ZU,ok.Y4,ok.Y5,ok.Yt,ok.ZZ⟩
theorem z9.YN(I:z9 X pins σ H s)(E:XI):z9 (X.YN E) pins σ H s:={I.ok.YN E,I.os,I.bare,I.base,I.loc,I.cell,I.free,I.Os,I.pin,I.HT,I.len,I.tk}
theorem z9.SL(I:z9 (X.YN E) pins σ H s):z9 X pins σ H s:={(I.ok.SL),I.os,I.bare,I.base,I.loc,I.cell,I.free,I.Os,I.pin,I.HT,I.len,I.tk}
theorem SP.SL{D:yD}{f:Flow}(h:SP (X.YN E) pins D f s'):SP X pins D f s':=by
 cases f with
 |next=>obtain⟨J,U,I,q⟩:=h;exact{(J),U,I.SL,q}
 |brk=>obtain⟨J,U,I,q⟩:=h;exact{(J),U,I.SL,q}
 |cont=>obtain⟨J,U,I,q⟩:=h;exact{(J),U,I.SL,q}
 |ret u=>obtain⟨v,J,U,I,r,q⟩:=h;exact{(v),J,U,I.SL,r,q}
def lz.Z0{st:XW}{t:TS}(h:lz X.Z0 st t):lz X st t:=λJ s U H D I hw=>
 Bd (h J s U H D (I.YN _) hw) (λ_ _ q=>q.SL) λ_ _ z=>False.elim z
section
variable {rest:XW}{t u:TS}{te:TE}
def N7:TS:=λD σ H=>D.nx σ H
def N8(t u:TS):TS:=λD σ H=>t {D with nx:=u D} σ H
def N9:lz X [] N7:=λ_ _ J H _ I h=>wpAny_execs_nil {(J),H,I,h}
def vK(h1:PS X st t)(h2:lz X rest u):lz X (st::rest) (N8 t u):=by
 intro J s g H D I h;refine wpAny_execs_cons<|aN (h1 J s g H {D with nx:=u D} I h) λf j q=>?_;cases f with
 |next=>
  obtain⟨U,l,o,q⟩:=q;exact h2 J j U l D o q
 |ret v=>exact q
 |brk=>exact q
 |cont=>exact q
def Oa(h1:PS X st t):lz X [st] t:=by intro J s U H D I h;refine wpAny_execs_cons<|aN (h1 J s U H D I h) λf g q=>?_;cases f with|next=>exact wpAny_execs_nil q|ret v=>exact q|brk=>exact q|cont=>exact q
def Oc:TS:=λD σ H=>D.ct σ H
def uX:PS X (.Continue pos) Oc:=λ_ _ J H _ I h=>wpAny_Continue {(J),H,I,h}
def z9.quiet(I:z9 X pins σ H s):interactive X.env=false:=by simp[interactive,I.ok.kind]
def Od(te:TE):TS:=λD σ H=>te σ H λ_ H1=>D.nx σ H1
def Oe(g:PE X e te)(hs:swapsWith e none pos.line X.env=pure false:=by rfl):PS X (.Expr e pos) (Od te):=by intro J s U H D I h;exact wpAny_Expr_any (bA (g J s U H _ I h) λv p x j l r o=>{(U),j,l,o}) I.quiet hs
def Of(te:TE):TS:=λD σ H=>te σ H D.rt
def Og(g:PE X e te):PS X (.Return (some e) pos) (Of te):=by intro J s U H D I h;exact wpAny_Return_some<|bA (g J s U H _ I h) λv r x j l o p=>{(x),U,j,l,o,p}
def Oh:TS:=λD _ H=>D.rt .KB H
def Oi:PS X (.Return none pos) Oh:=λ_ _ J H _ I h=>wpAny_Return_none {.KB,J,H,I,rfl,h}
def Oj(c:TT)(t u:TS):TS:=λD σ H=>c σ H λb H1=>if b=true then t D σ H1 else u D σ H1
def Ol{a b:XW}{tc:TT}(hc:PT X c tc)(p:lz X a t)(r:lz X b u):PS X (.If c a b pos) (Oj tc t u):=by intro J s U H D I h;refine wpAny_If<|aN (hc J s U H _ I h) λd g ψ=>?_;obtain⟨j,l,o⟩:=ψ;cases d with|true=>exact p J g U j D l o|false=>exact r J g U j D l o
end
abbrev TG:=V->St->Hp->(St->Hp->Prop)->Prop
abbrev e_:=X_->St->Hp->(St->Hp->Prop)->Prop
def PG(X:Cx)(target:Expr)(t:TG):Prop:=
 ∀(pins:List<|Addr×Obj) (s:X5) (σ:St) (H:Hp) (v:V) (u:X4) (Q:St->Hp->Prop),z9 X pins σ H s->zq v u->t v σ H Q->
  _S X (assign target X.env u) (λ_ s'=>∃hQ H',z9 X pins hQ H' s'/\Q hQ H') X.xe s
def Zz(X:Cx)(ts:XU)(t:e_):Prop:=
 ∀(pins:List<|Addr×Obj) (s:X5) (σ:St) (H:Hp) (vs:X_) (us:XQ) (Q:St->Hp->Prop),z9 X pins σ H s->zn vs us->t vs σ H Q->
  _S X (assignInOrder ((assignEach ts X.env).map (·.2)) us) (λ_ s'=>∃hQ H',z9 X pins hQ H' s'/\Q hQ H') X.xe s
abbrev Gk:=V->V->V->Hp->(Hp->Prop)->Prop
def HJ(X:Cx)(t:Gk):Prop:=
 ∀(pins:List<|Addr×Obj) (s:X5) (σ:St) (H:Hp) (o i v:V) (I J u:X4) (Q:Hp->Prop),z9 X pins σ H s->zq o I->zq i J->zq v u->t o i v H Q->
  _S X (setItem I J u) (λ_ s'=>∃H',z9 X pins σ H' s'/\Q H') X.xe s
def eF(i:Nat):TG:=λv σ H Q=>Q (σ.set i<|some v) H
def nK(hN:X.N.Nodup)(hi:X.N[i]?=some x)(U:Loc X.env.scope x)(g:X.fn x=true\/X.env.scope.names.lookup x=some .local:=by first|exact .inl rfl|exact .inr rfl|assumption):PG X (.Name x pos) (eF i):=by intro J s l H v u Q I r h;exact wpAny_assign_Name<|iZ I hN hi U r (λo j=>{_,H,j,h}) g
def Gm:e_:=λvs σ H Q=>vs=[]/\Q σ H
def wI(t:TG)(u:e_):e_:=λvs σ H Q=>∃v r,vs=v::r/\t v σ H λhQ H'=>u r hQ H' Q
def HK:Zz X [] Gm:=by rintro J s U H g j Q I r⟨e,h⟩;subst e;cases r;exact assignInOrder_nil {(U),H,I,h}
def pM{t:TG}{u:e_}(h1:PG X e t)(h2:Zz X es u)
 (hs:(assignEach (e::es) X.env).map (·.2)=assign e X.env::(assignEach es X.env).map (·.2):=by rfl):Zz X (e::es) (wI t u):=by
 rintro J s g H T us Q I r⟨v,vr,j,h⟩;subst j;cases r with
 |cons r rr=>
  rw[hs];refine assignInOrder_cons<|aN (h1 J s g H _ _ _ I r h) λ_ l ψ=>?_;obtain⟨U,o,p,C⟩:=ψ;exact h2 J l U o _ _ Q p rr C
def Gn(K:Ak)(n:Nat)(t:e_):TG:=λv σ H Q=>∃a xs,v=.ref a/\eE K H a xs/\xs.length=n/\t xs σ H Q
def HL{k:Nat}{t:e_}(hc:X.calm=true)(h:Zz X es t)
 (j:(assignEach es X.env).length=n:=by rfl) (U:(assignEach es X.env).findIdx? (·.1)=none:=by rfl):PG X (.Tuple es k pos) (Gn X.K n t):=by
 rintro J s l H v u Q I r⟨a,p,C,T,hl,hw⟩;subst C;cases r;obtain⟨a0,g,ht,hz⟩:=I.tuple T;refine assign_Tuple_tuple (I.ok.hd hc) ht (by simp[j,<-hl,g.length]) U λh' hx=>?_;have I1:=I.kept (t':=s.toks) λb o e=>hx b o (AY<|pj e) e;exact h J _ l H p _ Q I1 (by simpa using g) hw
def Om(to ti:TE)(t:Gk):TG:=λv σ H Q=>to σ H λo H1=>ti σ H1 λi H2=>t o i v H2 λI=>Q σ I
def Oo{i:Expr}{to ti:TE}{t:Gk}(l:PE X o to)(hi:PE X i ti)(hs:HJ X t)
 (p:∀v,assign (.Subscript o i pos) X.env v=(do
  let U <-holding [v] (eval o X.env)
  let g <-holding [v,U] (eval i X.env)
  standAt pos
  holding [v,U,g] (setItem U g v)
  release [v,U,g] []):=by intro _;rfl):PG X (.Subscript o i pos) (Om to ti t):=by
 intro J s j H v u Q I r h;rw[p];refine Aa<|A9<|bA (l J s j H _ I h) λU C x T I1 r1 q1=>?_;refine Aa<|A9<|bA (hi J C j T _ I1 q1) λg s2 y H2 I2 r2 q2=>?_;refine Aa<|wpAny_standAt<|Aa<|A9<|aN (hs J s2 j H2 x y v U g u _ I2 r1 r2 r q2) λ_ s3 ψ=>?_;obtain⟨H3,I3,q3⟩:=ψ;exact wpAny_release {(j),H3,I3,q3}
def Go(te:TE)(g:TG):TS:=λD σ H=>te σ H λx H1=>g x σ H1 D.nx
def HM{te:TE}{g:TG}(j:PE X e te)(l:PG X tg g)(hs:swapsWithSole [tg] e pos.line X.env=pure false:=by rfl)(hw:swappedStores [tg] e X.env=pure none:=by rfl)
 (h1:(assignEach [tg] X.env).map (·.2)=[assign tg X.env]:=by rfl):PS X (.Assign [tg] e pos) (Go te g):=by
 intro J s U H D I h;refine wpAny_Assign_stores (bA (j J s U H _ I h) λv o x p r t C=>?_) hs hw;rw[h1];exact aN (l J o U p x v _ r t C) λ_ T q=>q
def Op{te:TE}(hN:X.N.Nodup)(hi:X.N[i]?=some x)(U:Loc X.env.scope x)(g:PE X e te)(hs:swapsWith e (some<|.Name x fx) pos.line X.env=pure false:=by rfl)(j:X.fn x=true\/X.env.scope.names.lookup x=some .local:=by first|exact .inl rfl|exact .inr rfl|assumption):
 PS X (.Assign [.Name x fx] e pos) (Go te<|eF i):=by
 intro J s l H D I h;refine wpAny_Assign_Name (bA (g J s l H _ I h) λv T y o p r t=>?_) hs;exact iZ p hN hi U r (λs2 C=>{_,o,C,t}) j
def Oq(i j:Nat)(ta:TA):TS:=λD σ H=>ta σ H λvs H1=>∃v w,vs=[v,w]/\D.nx ((σ.set i<|some v).set j<|some w) H1
def Ot{y:Str}{a b:Expr}{ta:TA}{px py pt:Pos}{kt t U}(hc:X.calm=true)(hN:X.N.Nodup)(hi:X.N[i]?=some x)(hj:X.N[j]?=some y)(C:i≠j)
 (hx:X.env.scope.names.lookup x=some .local) (hy:X.env.scope.names.lookup y=some .local) (ha:PA X [a,b] ta)
 (hw:swappedStores [.Tuple [.Name x px,.Name y py] kt pt] (.Tuple [a,b] t U) X.env=pure (some [x,y]))
 (hs:swapsWithSole [.Tuple [.Name x px,.Name y py] kt pt] (.Tuple [a,b] t U) pos.line X.env=pure false:=by rfl):
 PS X (.Assign [.Tuple [.Name x px,.Name y py] kt pt] (.Tuple [a,b] t U) pos) (Oq i j ta):=by
 intro J s σ H D I h;rw[exec_Assign_arm];refine Aa<|wpAny_standAt ?_;rw[hs];refine Aa<|Al ?_;rw[Au (by decide)];refine Aa<|Tuple_<|uw (ha _ J s σ H _ I h) λus g vs H1 I1 r1 T=>?_;obtain⟨v,w,e1,T⟩:=T;subst e1;obtain⟨l,r,rfl,rv,a0⟩:∃l r,us=[l,r]/\zq v l/\zq w r:=by
  cases r1 with
  |cons p q=>
   cases q with
   |cons p' q'=>
    cases q';exact{_,_,rfl,p,p'}
 refine BG ?_ (by show 2<=sizeLine;decide);have I2:z9 X J σ H1 {g with heap:=g.heap.push {cls:=.type "tuple",data:=.seq [l,r].toArray}}:=I1.kept (t':=g.toks) λb o e=>oi _ e;rw[hw];refine Aa<|Al ?_;show _S X (do rule "assign.swapped-stores";let items <-unpackItems (.ref g.heap.objs.size) 2 none;assignInOrder [λv=>bindName X.env y v,λv=>bindName X.env x v] items.reverse;pure Flow.next) _ _ _;refine Aa<|BH<|Aa<|unpackItems_tuple (items:=#[l,r]) (I.ok.hd hc) (IsTup.new g.heap _) λh' a1=>?_;have I3:=I2.kept (h':=h') (t':=g.toks) λb o e=>a1 b o (AY<|pj e) e;refine Aa<|assignInOrder_cons<|wpAny_bindName<|iZ I3 hN hj (.inl hy) a0 (λs2 I4=>?_)<|.inr hy;refine assignInOrder_cons<|wpAny_bindName<|iZ I4 hN hi (.inl hx) rv (λs3 I5=>assignInOrder_nil<|Al ?_)<|.inr hx;rw[List.set_comm _ _<|AJ C] at I5;exact{_,H1,I5,T}
def Ou(c:TT)(tb:TS):TS:=λD σ H=>∃W:Nat->St->Hp->Prop,(∃m,W m σ H)/\∀m σ H,W m σ H->
 c σ H λb H1=>if b=true then ∃N:St->Hp->Prop,(∀hQ H',N hQ H'->∃I,I<m/\W I hQ H')/\tb {D with nx:=N,ct:=N,bk:=D.nx} σ H1 else D.nx σ H1
def Ov{tc:TT}{tb:TS}(hp:PassesOwn (model X.prog X.w) X.A X.env X.xe)(hc:PT X c tc)(hb:lz X body tb):PS X (.While c body [] pos) (Ou tc tb):=by
 rintro J s σ H D I⟨W,⟨m0,w0⟩,turn⟩;refine wpAny_While<|codeAny_whileLoop (λn s'=>∃j H',z9 X J j H' s'/\W n j H') ?_ m0 {(σ),H,I,w0};rintro n s1 ⟨g,H1,I1,w1⟩;refine wpAny_passesOwn hp<|aN (hc J s1 g H1 _ I1<|turn n g H1 w1) λb s2 ψ=>?_;obtain⟨H2,I2,o⟩:=ψ;cases b with
 |true=>
  obtain⟨N,hN,o⟩:=o;rw[Ay rfl];refine wpAny_passesOwn hp<|aN (hb J s2 g H2 _ I2 o) λf s3 p=>?_;cases f with
  |next=>
   obtain⟨U,l,r,t⟩:=p;obtain⟨C,T,w3⟩:=hN U l t;exact{(C),T,U,l,r,w3}
  |cont=>
   obtain⟨U,l,r,t⟩:=p;obtain⟨C,T,w3⟩:=hN U l t;exact{(C),T,U,l,r,w3}
  |brk=>exact p
  |ret v=>exact p
 |false=>
  rw[Au AK];exact wpAny_execs_nil {(g),H2,I2,o}
structure It where
 go:Nat->Hp->Prop
 Zk:Nat->Hp->V->Hp->Prop
 stop:Nat->Hp->Prop
def mL(X:Cx)(pins:List<|Addr×Obj)(H:Hp)(b:Addr):Prop:=
 H b=none/\b≠X.env.locals/\b∉X.fs/\(b∈X.ex\/X.s₀.heap.objs.size<=b)/\(∀x c,X.env.cells.lookup x=some c->c≠b)/\∀p∈X.pn++pins,p.1≠b
def z9.Zj{b:Addr}(I:z9 X pins σ H s)(J:s.heap.objs.size<=b)(U:H' b=none):mL X pins H' b:=by
 refine{U,CL<|AW I.lt J,I.Z' J,.inr<|AS I.sz J,λx c e z=>?_,λp g z=>?_}
 .obtain⟨v,q⟩:=I.cell x c e;exact absurd (AW q.lt (by rw[z];exact J))<|Cw _
 .exact absurd (AW (pj (I.pin p g).1) (by rw[z];exact J))<|Cw _
structure DT(P:X6)(w:X7)(K:Ak)(tg:Expr)(J:It)(fp:List Addr)(it:Addr)(tn:Nat->X8->Prop):Prop where
 mem:it∈fp
 obj:∀i h,tn i h->∀b∈fp,∃o,h.get? b=some o/\∀v,o.data≠.cell v
 keep:∀i h h',tn i h->(∀b∈fp,∀o,h.get? b=some o->h'.get? b=some o)->tn i h'
 item:∀(X:Cx),X.prog=P->X.w=w->X.K=K->X.calm=true->∀(i:Nat) (pins:List<|Addr×Obj) (s:X5) (σ:St) (H:Hp) (E:XI),z9 X pins σ H s->(∀b∈fp,mL X pins H b)->tn i s.heap->J.go i H->
  wpAny (model P w) X.A (pyNext<|.ref it) (λr s1=>∃u,r=some u/\
   wpAny (model P w) X.A (letOwnedTupleGo tg (.ref it) u) (λ_ s2=>∃x H',z9 X pins σ H' s2/\zq x u/\J.Zk i H x H'/\tn (i+1) s2.heap/\∀b∈fp,H' b=none) E s1) E s
 done:∀(X:Cx),X.prog=P->X.w=w->X.K=K->X.calm=true->∀(i:Nat) (pins:List<|Addr×Obj) (s:X5) (σ:St) (H:Hp) (E:XI),z9 X pins σ H s->(∀b∈fp,mL X pins H b)->tn i s.heap->J.stop i H->
  wpAny (model P w) X.A (pyNext<|.ref it) (λr s1=>r=none/\z9 X pins σ H s1) E s
 self:∀(A:Around) (i:Nat) (s:X5) (Q:XI) (E:XI),tn i s.heap->Q (.ref it) s->wpAny (model P w) A (pyIter<|.ref it) Q E s
abbrev TI:=St->Hp->(It->Hp->Prop)->Prop
def Gp(X:Cx)(pins:List<|Addr×Obj)(σ:St)(tg:Expr)(R:It->Hp->Prop)(I:X4)(U:X5):Prop:=
 ∃(it:Addr) (fp:List Addr) (g:Nat->X8->Prop) (J:It) (H':Hp),I=.ref it/\z9 X pins σ H' U/\DT X.prog X.w X.K tg J fp it g/\g 0 U.heap/\(∀b∈fp,mL X pins H' b)/\R J H'
def PI(X:Cx)(tg iter:Expr)(wi:TI):Prop:=
 ∀(pins:List<|Addr×Obj) (s:X5) (σ:St) (H:Hp) (R:It->Hp->Prop),z9 X pins σ H s->wi σ H R->
  _S X (eval iter X.env) (λv I=>_S X (pyIter v) (Gp X pins σ tg R) X.xe I) X.xe s
def FD{o:Obj}{n:X9}{vs:XR}{Q:XJ}(J:s.heap.get? it=some o)(hc:o.cls=.type n)(hd:o.data=.fields vs)
 (U:["enumerate","zip","dict_itemiterator","dict_reverseitemiterator","odict_iterator","itertools.zip_longest","itertools.pairwise"].contains n=false) (I:Q () s):wpAny M A (letOwnedTupleGo tg (.ref it) u) Q E s:=by
 cases tg<;>first
  |exact Al I
  |(cases u<;>first
   |exact Al I
   |(refine Aa (wpAny_load J ?_)
     rw[hc,hd];show wpAny M A (if (["enumerate","zip","dict_itemiterator","dict_reverseitemiterator","odict_iterator","itertools.zip_longest","itertools.pairwise"].contains n&&vs[0]?==some (rawInt _))=true then _ else _) Q E s;rw[Au (by intro h;rw[U,Bool.false_and] at h;cases h)];exact Al I))
def Gq(K:Ak)(a:Addr):It:=
 ⟨λi H=>∃xs x,bE K H a xs/\xs[i]?=some x,λi H x H'=>H'=H/\∀xs,bE K H a xs->xs[i]?=some x,λi H=>∃xs,bE K H a xs/\xs.length<=i⟩
def Gr(K:Ak)(a:Addr):It:=
 ⟨λi H=>∃xs x,eE K H a xs/\xs[i]?=some x,λi H x H'=>H'=H/\∀xs,eE K H a xs->xs[i]?=some x,λi H=>∃xs,eE K H a xs/\xs.length<=i⟩
def EX(lo:Int)(n:Nat):It:={λi _=>i<n,λi H x H'=>H'=H/\x=.int (lo+i),λi _=>n<=i}
def Ow{P:X6}{w:X7}{K:Ak}(a it:Addr):DT P w K tg (Gq K a) [it] it (λi h=>h.IsListIter it a i) where
 mem:=by simp
 obj:=λi h st b J=>by
  have e:b=it:=by simpa using J
  subst e;obtain⟨o,e,c,d⟩:=st;exact{o,e,λv z=>by rw[d] at z;cases z}
 keep:=λi h r st k=>st.at λo e=>k it (by simp) o e
 item:=by intro X t hw C hc i U s σ H E I j st T;subst t hw C;obtain⟨xs,x,l,hx⟩:=T;obtain⟨a0,rv,p,hz⟩:=I.list l;obtain⟨u,hu,ru⟩:=rv.get hx;obtain⟨f0,f1,f2,f3,f4,f5⟩:=j it (by simp);refine wpAny_pyNext_list_item st p.isList (x:=u) (by simpa using hu) λr g sb=>?_;have I1:=I.turned (t':=s.toks) (λb o J e=>(sb.2 b J).trans e) f0 f1 f3 f4 f5;obtain⟨o,e,c,d⟩:=id g;exact{u,rfl,FD (s:={s with heap:=r}) e c d (by decide) {x,H,I1,ru,{rfl,λys hy=>by rw[I.Yu hy l];exact hx},g,λb J=>(j b J).1}}
 done:=by intro X t hw C hc i U s σ H E I j st T;subst t hw C;obtain⟨xs,l,hx⟩:=T;obtain⟨a0,rv,p,hz⟩:=I.list l;obtain⟨f0,f1,f2,f3,f4,f5⟩:=j it (by simp);have hl:=rv.length;exact wpAny_pyNext_list_end (I.ok.hd hc) st p.isList (by simp;lia) λr eb=>{rfl,I.turned (t':=s.toks) (λb o J e=>eb b o J e) f0 f1 f3 f4 f5}
 self:=λ_ _ _ _ _ st h=>wpAny_pyIter_listiter st h
def yd{P:X6}{w:X7}{K:Ak}(a it:Addr):DT P w K tg (Gr K a) [it] it (λi h=>h.IsTupleIter it a i) where
 mem:=by simp
 obj:=λi h st b J=>by
  have e:b=it:=by simpa using J
  subst e;obtain⟨o,e,c,d⟩:=st;exact{o,e,λv z=>by rw[d] at z;cases z}
 keep:=λi h t st k=>st.at λo e=>k it (by simp) o e
 item:=by intro X C hw T hc i g s σ H E I l st hg;subst C hw T;obtain⟨xs,x,r,hx⟩:=hg;obtain⟨U,rv,p,hz⟩:=I.tuple r;obtain⟨u,hu,ru⟩:=rv.get hx;obtain⟨f0,f1,f2,f3,f4,f5⟩:=l it (by simp);refine wpAny_pyNext_tuple_item st (show s.heap.IsTuple a U.toArray from p) (x:=u) (by simpa using hu) λt j sb=>?_;have I1:=I.turned (t':=s.toks) (λb o J e=>(sb.2 b J).trans e) f0 f1 f3 f4 f5;obtain⟨o,e,c,d⟩:=id j;exact{u,rfl,FD (s:={s with heap:=t}) e c d (by decide) {x,H,I1,ru,{rfl,λys hy=>by rw[I.Yz hy r];exact hx},j,λb J=>(l b J).1}}
 done:=by intro X C hw T hc i g s σ H E I l st hg;subst C hw T;obtain⟨xs,r,hx⟩:=hg;obtain⟨U,rv,p,hz⟩:=I.tuple r;obtain⟨f0,f1,f2,f3,f4,f5⟩:=l it (by simp);have hl:=rv.length;exact wpAny_pyNext_tuple_end (I.ok.hd hc) st (show s.heap.IsTuple a U.toArray from p) (by simp;lia) λt eb=>{rfl,I.turned (t':=s.toks) (λb o J e=>eb b o J e) f0 f1 f3 f4 f5}
 self:=λ_ _ _ _ _ st h=>wpAny_pyIter_tupleiter st h
theorem yQ{P:X6}{w:X7}{K:Ak}(it:Addr)(lo:Int)(n:Nat):DT P w K tg (EX lo n) [it] it (λi h=>IsRangeIter h it (lo+(i:Nat)*1) ((n:Int)-(i:Nat)) 1) where
 mem:=by simp
 obj:=λi h st b J=>by
  have e:b=it:=by simpa using J
  subst e;exact{_,st,λv z=>by have z':=z;cases z'}
 keep:=λi h l st k=>k it (by simp) _ st
 item:=by intro X p hw r C i U s σ H E I j st T;subst p hw r;obtain⟨f0,f1,f2,f3,f4,f5⟩:=j it (by simp);have W:=Walks.range (prog:=X.prog) (w:=X.w) (I.ok.hd C) it lo 1 n;refine xc I.tk<|W.item i s _ _ T st λv l tk hv g kk ht=>?_;obtain⟨t,rfl⟩:=hv;have I1:=I.turned (λb o J e=>kk b o (by simpa using J) e) f0 f1 f3 f4 f5;refine{_,rfl,FD (s:={s with heap:=l,toks:=tk}) (n:="range_iterator") g rfl rfl (by decide) {.int<|lo+i,H,I1,{t,?_},{(rfl),rfl},g,λb J=>(j b J).1}};rw[Int.mul_one]
 done:=by intro X p hw r C i U s σ H E I j st T;subst p hw r;obtain⟨f0,f1,f2,f3,f4,f5⟩:=j it (by simp);exact wpAny_pyNext_range_end (I.ok.hd C) st (by have:n<=i:=T;lia) λl eb=>{rfl,I.turned (t':=s.toks) (λb o J e=>eb b o J e) f0 f1 f3 f4 f5}
 self:=λ_ _ _ _ _ st h=>wpAny_pyIter_rangeiter st h
variable {wi:TI}
def Ox(K:Ak)(tl:TE):TI:=λσ H R=>tl σ H λx H1=>∃a,x=.ref a/\(∃xs,bE K H1 a xs)/\R (Gq K a) H1
def Oy(K:Ak)(tl:TE):TI:=λσ H R=>tl σ H λx H1=>∃a,x=.ref a/\(∃xs,eE K H1 a xs)/\R (Gr K a) H1
def Oz{l:Expr}{tl:TE}(j:PE X l tl):PI X tg l (Ox X.K tl):=by
 intro J s r H R I h;refine bA (j J s r H _ I h) λv U x t g C T=>?_;obtain⟨a,e,⟨xs,hq⟩,q⟩:=T;subst e;cases C;obtain⟨a0,rv,p,hz⟩:=g.list hq;refine wpAny_pyIter_list p.isList ?_;refine{U.heap.objs.size,[U.heap.objs.size],_,_,t,rfl,g.kept (t':=U.toks) λb o e=>oi _ e,Ow a _,{_,pG _ rfl,rfl,rfl},λb hb=>?_,q};have e:b=U.heap.objs.size:=by simpa using hb
 subst e;exact g.Zj (Ap _)<|g.HT.fresh<|Ap _
def OA{l:Expr}{tl:TE}(r:PE X l tl):PI X tg l (Oy X.K tl):=by
 intro J s t H R I h;refine bA (r J s t H _ I h) λv U x C g T q1=>?_;obtain⟨a,e,⟨xs,hq⟩,q⟩:=q1;subst e;cases T;obtain⟨j,rv,p,hz⟩:=g.tuple hq;refine wpAny_pyIter_tuple (show U.heap.IsTuple a j.toArray from p) ?_;refine{U.heap.objs.size,[U.heap.objs.size],_,_,C,rfl,g.kept (t':=U.toks) λb o e=>oi _ e,yd a _,{_,pG _ rfl,rfl,rfl},λb hb=>?_,q};have e:b=U.heap.objs.size:=by simpa using hb
 subst e;exact g.Zj (Ap _)<|g.HT.fresh<|Ap _
def OB{R:It->Hp->Prop}{hi:Int}{t u v:Tok}{tk:Nat}(I:z9 X pins σ H s)(h1 : -(2 ^ 62)<=lo)(h2:lo<2 ^ 62)(U : -(2 ^ 62)<=hi)(g:hi<2 ^ 62)
 (q:R (EX lo (hi-lo).toNat) H) (r:0<tk:=by walk_at "t"):_S X (pyIter<|.ref s.heap.objs.size) (Gp X pins σ tg R) E {s with heap:=s.heap.push {cls:=.type "range",data:=.fields #[.int lo t,.int hi u,.int 1 v]},toks:=tk}:=by
 refine wpAny_pyIter_range (IsRange.new ..) (small_one h1 h2 U g) ?_;have J:z9 X pins σ H {s with heap:=s.heap.push {cls:=.type "range",data:=.fields #[.int lo t,.int hi u,.int 1 v]},toks:=tk}:=I.kept λb o e=>oi _ e;refine{(s.heap.push {cls:=.type "range",data:=.fields #[.int lo t,.int hi u,.int 1 v]}).objs.size,[(s.heap.push {cls:=.type "range",data:=.fields #[.int lo t,.int hi u,.int 1 v]}).objs.size],_,_,H,rfl,
  J.kept (t':=tk) λb o e=>oi _ e,yQ _ lo (hi-lo).toNat,?_,λb j=>?_,q}
 .have l:lo+((0:Nat):Int)*1=lo:=by simp
  have p:(((hi-lo).toNat:Nat):Int)-((0:Nat):Int)=Builtin.Range.rangeSize lo hi 1:=by rw[rangeSize_one];split<;>lia
  rw[l,p];exact pG _ rfl
 .have e:b=(s.heap.push {cls:=.type "range",data:=.fields #[.int lo t,.int hi u,.int 1 v]}).objs.size:=by simpa using j
  subst e;exact J.Zj (Ap _)<|J.HT.fresh<|Ap _
def OC(ta:TA):TI:=λσ H R=>ta σ H λvs H1=>∃j:Int,vs=[.int j] /\ -(2 ^ 62)<=j/\j<2 ^ 62/\R (EX 0 j.toNat) H1
def OD{a:Expr}{ta:TA}{p:Pos}(g:Gl X "range")(l:X.mg "range"=none)(o:PA X [a] ta)(hs:starEach [a] X.env=[(false,eval a X.env)]:=by rfl):PI X tg (.Call (.Name "range" p) [a] [] pos) (OC ta):=by
 intro J s C H R I h;refine Call_<|dm I g l boot_range<|Cg (uw (o pos J s C H _ I h) λus s1 vs H1 T r1 U=>?_) hs rfl;obtain⟨j,e,U,q2,q⟩:=U;subst e;cases r1 with
 |cons r rr=>
  cases rr;obtain⟨t,rfl⟩:=r;exact call_range_1<|OB T (by lia) (by lia) U q2 (by simpa using q)
def OE(wi:TI)(g:TG)(tb:TS):TS:=λD σ H=>wi σ H λJ H1=>∃W:Nat->Nat->St->Hp->Prop,(∃m,W 0 m σ H1)/\∀i m σ H,W i m σ H->
 (J.stop i H/\D.nx σ H)\/(J.go i H/\∃N:St->Hp->Prop,(∀hQ H',N hQ H'->∃U,U<m/\W (i+1) U hQ H')/\∀x H',J.Zk i H x H'->g x σ H' λI H2=>tb {D with nx:=N,ct:=N,bk:=D.nx} I H2)
def nR(fp:List Addr)(h:X8):List (Addr×Obj):=fp.filterMap λb=>(h.get? b).map λo=>(b,o)
def dF{b:Addr}{o:Obj}(I:b∈fp)(e:h.get? b=some o):(b,o)∈nR fp h:=List.mem_filterMap.mpr {b,I,by rw[e];rfl}
def OF{p:Addr×Obj}(hp:p∈nR fp h):p.1∈fp/\h.get? p.1=some p.2:=by
 obtain⟨b,I,e⟩:=List.mem_filterMap.mp hp;cases q:h.get? b with
 |none=>rw[q] at e;cases e
 |some o=>
  rw[q] at e;have J:=AR e;subst J;exact{(I),q}
def z9.pinned(I:z9 X pins σ H s)(g:∀b∈fp,mL X pins H b)(j:∀b∈fp,∃o,s.heap.get? b=some o/\∀v,o.data≠.cell v):z9 X (pins++nR fp s.heap) σ H s:=
 I.YW λp l=>(Ag.mp l).elim (λz=>I.pin p<|Ae _ z) λz=>by obtain⟨J,e⟩:=OF z;obtain⟨r,f1,f2,_⟩:=g p.1 J;obtain⟨o,U,d⟩:=j p.1 J;rw[e] at U;cases U;exact{(e),r,f1,f2,d}
def z9.SZ{pl:List<|Addr×Obj}(I:z9 X (pins++pl) σ H s):z9 X pins σ H s:=I.YW λp J=>I.pin p<|Ae _<|Am _ J
def OG{iter:Expr}{g:TG}{tb:TS}(hp:PassesOwn (model X.prog X.w) X.A X.env X.xe)(hc:X.calm=true)(hi:PI X tg iter wi)(hg:PG X tg g)(l:lz X body tb)
 (hs:∀x,foldedSetIterable iter X.env x=pure x:=by intro _;rfl):PS X (.For tg iter body [] pos) (OE wi g tb):=by
 intro U s σ H D I h;refine wpAny_For (aN (hi U s σ H _ I h) λv s1 h1=>aN h1 λac s2 h2=>?_) hs;obtain⟨it,fp,tn,J,H2,e,I2,T,a3,f2,W,⟨m0,w0⟩,turn⟩:=h2;subst e;have p:∀{H':Hp},(∀b∈fp,H' b=none)->∀b∈fp,mL X U H' b:=λhn b l=>{hn b l,(f2 b l).2};refine codeAny_forLoop_any (λn s'=>∃i t H',z9 X U t H' s'/\tn i s'.heap/\(∀b∈fp,H' b=none)/\W i n t H') ?_ m0 {0,σ,H2,I2,a3,λb l=>(f2 b l).1,w0};rintro n s3 ⟨i,C,H3,I3,a1,a2,w3⟩;rcases turn i n C H3 w3 with⟨stop,qn⟩|⟨go,N,hN,step⟩
 .refine wpAny_passesOwn hp<|aN (T.done X rfl rfl rfl hc i U s3 C H3 X.xe I3 (p a2) a1 stop) λr s4 ψ=>?_;obtain⟨hr,I4⟩:=ψ;subst hr;exact wpAny_execs_nil {(C),H3,I4,qn}
 .refine wpAny_passesOwn hp<|aN (T.item X rfl rfl rfl hc i U s3 C H3 X.xe I3 (p a2) a1 go) λr s4 ψ=>?_;obtain⟨u,hr,h4⟩:=ψ;subst hr;refine wpAny_passesOwn hp<|aN h4 λ_ s5 ψ=>?_;obtain⟨x,H5,I5,r5,y5,a0,a4⟩:=ψ;have a5:=I5.pinned (p a4)<|T.obj _ _ a0;refine wpAny_passesOwn hp<|aN (hg _ s5 C H5 x u _ a5 r5<|step x H5 y5) λ_ s6 ψ=>?_;obtain⟨ab,H6,I6,q6⟩:=ψ;refine wpAny_passesOwn hp<|aN (l _ s6 ab H6 _ I6 q6) λf s7 q7=>?_;have again:∀{j:St} {H7:Hp},z9 X (U++nR fp s5.heap) j H7 s7->N j H7->∃m,m<n/\∃i t H',z9 X U t H' s7/\tn i s7.heap/\(∀b∈fp,H' b=none)/\W i m t H':=λ{j H7} I7 n7=>by obtain⟨m',hm,w7⟩:=hN j H7 n7;refine{m',hm,i+1,j,H7,I7.SZ,T.keep _ _ _ a0 λb l o e=>(I7.pin (b,o)<|Ae _<|Ae _<|dF l e).1,λb l=>?_,w7};obtain⟨o,e,d⟩:=T.obj _ _ a0 b l;exact(I7.pin (b,o)<|Ae _<|Ae _<|dF l e).2.1
  cases f with
  |next=>obtain⟨j,H7,I7,n7⟩:=q7;exact again I7 n7
  |cont=>obtain⟨j,H7,I7,n7⟩:=q7;exact again I7 n7
  |brk=>obtain⟨j,H7,I7,q7⟩:=q7;exact{(j),H7,I7.SZ,q7}
  |ret v=>obtain⟨x7,j,H7,I7,r7,q7⟩:=q7;exact{(x7),j,H7,I7.SZ,r7,q7}
abbrev R2:=V->V->Hp->VK->Prop
def aB(X:Cx)(f:X4->X4->Sem X4)(r:R2):Prop:=
 ∀(pins:List<|Addr×Obj) (s:X5) (σ:St) (H:Hp) (x y:V) (v u:X4) (Q:VK),z9 X pins σ H s->zq x v->zq y u->r x y H Q->
  _S X (f v u) (EP X pins σ Q) X.xe s
def ZW(X:Cx)(f:X4->Sem X4)(r:V->Hp->VK->Prop):Prop:=
 ∀(pins:List<|Addr×Obj) (s:X5) (σ:St) (H:Hp) (x:V) (v:X4) (Q:VK),z9 X pins σ H s->zq x v->r x H Q->
  _S X (f v) (EP X pins σ Q) X.xe s
def jx(X:Cx)(f:X4)(r:X_->Hp->VK->Prop):Prop:=
 ∀(pins:List<|Addr×Obj) (s:X5) (σ:St) (H:Hp) (xs:X_) (us:XQ) (Q:VK),z9 X pins σ H s->zn xs us->r xs H Q->
  _S X (call f us) (EP X pins σ Q) X.xe s
def Fa(r:R2)(ta tb:TE):TE:=λσ H Q=>ta σ H λx H1=>tb σ H1 λy H2=>r x y H2 Q
def OH(r:V->Hp->VK->Prop)(ta:TE):TE:=λσ H Q=>ta σ H λx H1=>r x H1 Q
def rI(C:Int->Int->Prop)(g:Int->Int->V):R2:=λx y H Q=>∃i j,x=.int i/\y=.int j/\C i j/\Q (g i j) H
def u_(g:Int->Int->V):R2:=λx y H Q=>∃i j,x=.int i/\y=.int j/\Q (g i j) H
def rU(g:Int->V):V->Hp->VK->Prop:=λx H Q=>∃i,x=.int i/\Q (g i) H
section
variable {a b:Expr}{ta tb tc:TE}
def Gs(j:PE X a ta)(l:PE X b tb){R:V->V->Hp->Prop}(I:z9 X pins σ H s)
 (h:ta σ H λx H1=>tb σ H1 λy H2=>R x y H2) {f:X4->X4->Sem X4}
 (o:∀v u g x y H2,z9 X pins σ H2 g->zq x v->zq y u->R x y H2->_S X (f v u) Q X.xe g):
 _S X (eval a X.env) (λv J=>_S X (eval b X.env) (λu U=>_S X (f v u) Q X.xe U) X.xe J) X.xe s:=by
 refine bA (j pins s σ H _ I h) λv p x H1 r t C=>?_;refine bA (l pins p σ H1 _ r C) λu g y H2 T r2 q2=>?_;exact o v u g x y H2 T t r2 q2
def OI{op:Operator}{r:R2}(U:aB X (binaryOp op) r)(g:PE X a ta)(j:PE X b tb):PE X (.BinOp a op b pos) (Fa r ta tb):=by intro J s l H Q I h;exact wpAny_BinOp<|Gs g j I h λv u o x y p t C T q=>U J o l p x y v u Q t C T q
def OJ{op:UnaryOp}{r:V->Hp->VK->Prop}(g:ZW X (unaryOp op) r)(j:PE X a ta):PE X (.UnaryOp op a pos) (OH r ta):=by intro J s U H Q I h;exact UnaryOp_<|bA (j J s U H _ I h) λv l x o p t C=>g J l U o x v Q p t C
def Gu{f:X4->X4->Sem X4}{C:Int->Int->Prop}{g:Int->Int->Int}
 (rule:∀(i j:Int) (t u:Tok) (s:X5) (Q:XI) (E:XI),C i j->Q (.int (g i j) s.toks) {s with toks:=s.toks+1}->_S X (f (.int i t)<|.int j u) Q E s):
 aB X f (rI C λi j=>.int<|g i j):=by
 rintro J s r H x y v u Q I U l⟨i,j,rfl,rfl,o,q⟩;obtain⟨t,rfl⟩:=U;obtain⟨p,rfl⟩:=l;exact rule i j t p s _ _ o {.int<|g i j,H,I.tok _,{_,rfl},q}
def HN{f:X4->X4->Sem X4}{g:Int->Int->Int}
 (rule:∀(i j:Int) (t u:Tok) (s:X5) (Q:XI) (E:XI),Q (.int (g i j) s.toks) {s with toks:=s.toks+1}->_S X (f (.int i t)<|.int j u) Q E s):
 aB X f (u_ λi j=>.int<|g i j):=by
 rintro J s p H x y v u Q I U l⟨i,j,rfl,rfl,q⟩;obtain⟨t,rfl⟩:=U;obtain⟨o,rfl⟩:=l;exact rule i j t o s _ _ {.int<|g i j,H,I.tok _,{_,rfl},q}
def Gv{f:X4->X4->Sem X4}{g:Int->Int->Bool}
 (rule:∀(i j:Int) (t u:Tok) (s:X5) (Q:XI) (E:XI),Q (.bool<|g i j) s->_S X (f (.int i t)<|.int j u) Q E s):
 aB X f (u_ λi j=>.bl<|g i j):=by
 rintro J s p H x y v u Q I U l⟨i,j,rfl,rfl,q⟩;obtain⟨t,rfl⟩:=U;obtain⟨o,rfl⟩:=l;exact rule i j t o s _ _ {.bl<|g i j,H,I,rfl,q}
def Gy(i j:Int):Prop:=0<j/\j<1073741824
def _w(i j:Int):Prop:=(-(2 ^ 64)<i/\i<2 ^ 64)\/(-(2 ^ 64)<j/\j<2 ^ 64)
def _w.ok{i j:Int}(h:_w i j):IntMulOk i j:=by
 rcases h with⟨I,J⟩|⟨I,J⟩
 .exact .of_left<|intBits_le_64 I J
 .exact .of_right<|intBits_le_64 I J
def OK:aB X (binaryOp .Add) (u_ λi j=>.int<|i+j):=HN λ_ _ _ _ _ _ _ q=>add_int q
def OL:aB X (binaryOp .Sub) (u_ λi j=>.int<|i-j):=HN λ_ _ _ _ _ _ _ q=>sub_int q
def OM:aB X (binaryOp .Mult) (rI _w λi j=>.int<|i*j):=Gu λ_ _ _ _ _ _ _ I q=>mul_int q I.ok
def ON:aB X (binaryOp .FloorDiv) (rI Gy λi j=>.int<|i / j):=Gu λi j _ _ _ _ _ I q=>by have J:=I.1;have U:=I.2;exact floordiv_int (by lia) (by rw[Int.fdiv_eq_ediv_of_nonneg i (by lia)];exact q)<|.inl<|PyProof.noPylong_small (by lia)
def OO:aB X (binaryOp .Mod) (rI (λ_ j=>0<j) λi j=>.int<|i % j):=Gu λi j _ _ _ _ _ I q=>by exact mod_int' (by lia) (by rw[Int.fmod_eq_emod_of_nonneg i (by lia)];exact q)
def OP{f:X4->Sem X4}{g:Int->Int}
 (rule:∀(i:Int) (t:Tok) (s:X5) (Q:XI) (E:XI),Q (.int (g i) s.toks) {s with toks:=s.toks+1}->_S X (f<|.int i t) Q E s):
 ZW X f (rU λi=>.int<|g i):=by
 rintro J s j H x v Q I U⟨i,rfl,q⟩;obtain⟨t,rfl⟩:=U;exact rule i t s _ _ {.int<|g i,H,I.tok _,{_,rfl},q}
def OQ:ZW X (unaryOp .USub) (rU λi=>.int<|-i):=OP λ_ _ _ _ _ q=>neg_int q
end
def HQ:V->V->Bool
 |.int _,.int _=>true
 |.bl _,.bl _=>true
 |.str _,.str _=>true
 |_,_=>false
def FE:Bool->CmpOp
 |true=>.NotEq
 |false=>.Eq
def Ff(ne b:Bool):Bool:=match ne with
 |true=>!b
 |false=>b
def OR(ne:Bool):R2:=λx y H Q=>HQ x y=true/\Q (.bl<|Ff ne<|decide<|x=y) H
def zR{i j:Int}:decide (V.int i=V.int j)=(i==j):=by rw[C8];simp
def HR{i j:Bool}:decide (V.bl i=V.bl j)=(i==j):=by rw[C8];simp
def HU{i j:Str}:decide (V.str i=V.str j)=(i==j):=by rw[C8];simp
section
variable {a b:Expr}{ta tb tc:TE}
def gv{Q:VK}{k J:Bool}(I:z9 X pins σ H s)(q:Q (.bl k) H)(e:k=J):EP X pins σ Q (.bool J) s:=by subst e;exact{.bl k,H,I,rfl,q}
def HV(ne:Bool):aB X (compareOp<|FE ne) (OR ne):=by
 rintro l s o H x y v u Q I U g⟨J,q⟩;cases x with
 |bl i=>
  cases y with|bl j=>cases U;cases g;cases ne;exact eq_bool<|gv I q HR;exact ne_bool (gv I q<|BU not HR)|_=>exact(AK J).elim
 |int i=>
  cases y with
  |int j=>obtain⟨_,rfl⟩:=U;obtain⟨_,rfl⟩:=g;cases ne;exact eq_int<|gv I q zR;exact ne_int<|gv I q<|BU not zR
  |_=>exact(AK J).elim
 |str i=>
  cases y with
  |str j=>obtain⟨_,rfl⟩:=U;obtain⟨_,rfl⟩:=g;cases ne;exact eq_str<|gv I q HU;exact ne_str<|gv I q<|BU not HU
  |_=>exact(AK J).elim
 |_=>cases y<;>exact(AK J).elim
def OS:aB X (compareOp .Lt) (u_ λi j=>.bl<|decide<|i<j):=Gv λ_ _ _ _ _ _ _ q=>lt_int q
def OT:aB X (compareOp .LtE) (u_ λi j=>.bl<|decide<|i<=j):=Gv λ_ _ _ _ _ _ _ q=>le_int q
def OU:aB X (compareOp .Gt) (u_ λi j=>.bl<|decide<|j<i):=Gv λ_ _ _ _ _ _ _ q=>gt_int q
def jt(b:Expr){op:CmpOp}(h:op≠.In:=by decide)(h2:op≠.NotIn:=by decide):behindInMarks op b=false:=by
 have I:(op==CmpOp.In)=false:=by cases op<;>first|rfl|exact absurd rfl h
 have J:(op==CmpOp.NotIn)=false:=by cases op<;>first|rfl|exact absurd rfl h2
 cases b<;>simp[behindInMarks,I,J]
def OV{op:CmpOp}{r:R2}(U:aB X (compareOp op) r)(g:PE X a ta)(j:PE X b tb)(l:behindInMarks op b=false):PE X (.Compare a [op] [b] pos) (Fa r ta tb):=by intro J s o H Q I h;exact wpAny_Compare1 (Gs g j I h λv u p x y t C T ry q=>U J p o t x y v u Q C T ry q) l
def Gz(t:TE):TT:=λσ H Q=>t σ H λx H'=>∃k,x=.bl k/\Q k H'
def OW{op:CmpOp}{r:R2}(g:aB X (compareOp op) r)(j:PE X a ta)(l:PE X b tb)(o:behindInMarks op b=false):PT X (.Compare a [op] [b] pos) (Gz<|Fa r ta tb):=by
 intro J s U H Q I h;refine wpAny_isTrue_Compare1 (bA (j J s U H _ I h) λv p x t C T q1=>bA (l J p U t _ C q1) λu s2 y H2 I2 r2 q2=>
  aN (g J s2 U H2 x y v u _ I2 T r2 q2) λc s3 ⟨z,H3,I3,r3,k,e,q3⟩=>?_) o
 subst e;cases r3;exact wpAny_truthy_bool {(H3),I3,q3}
def jF:(sizeLine:Nat)<2 ^ 63:=by rw[sizeLine_eq];decide
def y7:aB X (binaryOp .Add) (λx y H Q=>∃i j,x=.str i/\y=.str j/\i.length+j.length<=sizeLine/\Q (.str<|i++j) H):=by rintro J s p H x y v u Q I U g⟨i,j,rfl,rfl,l,q⟩;obtain⟨t,rfl⟩:=U;obtain⟨o,rfl⟩:=g;exact xc I.tk<|add_str (λo r C=>{.str<|i++j,H,I.tok _,{_,rfl},q}) l
def rZ{x:V}(r:zn [x] us):∃u,us=[u]/\zq x u:=by cases r with|cons I J=>cases J;exact{_,rfl,I}
def HW{x y:V}(r:zn [x,y] us):∃u I,us=[u,I]/\zq x u/\zq y I:=by
 cases r with
 |cons J U=>
  cases U with|cons g j=>cases j;exact{_,_,rfl,J,g}
def OX(hc:X.calm=true):jx X (.builtin "max") (λxs H Q=>∃i j,xs=[.int i,.int j]/\Q (.int<|if j > i then j else i) H):=by
 rintro U s g H xs l Q I r⟨i,j,rfl,q⟩;obtain⟨u,o,rfl,⟨t,rfl⟩,⟨p,rfl⟩⟩:=HW r;refine xc I.tk<|max_two_ints (I.ok.hd hc) λC T k ht=>{_,H,I.kept k,?_,q};by_cases J:j > i
 .rw[Ay J,Ay J];exact{_,rfl}
 .rw[Au J,Au J];exact{_,rfl}
def OY(hc:X.calm=true):jx X (.builtin "min") (λxs H Q=>∃i j,xs=[.int i,.int j]/\Q (.int<|if j<i then j else i) H):=by
 rintro U s g H xs l Q I r⟨i,j,rfl,q⟩;obtain⟨u,o,rfl,⟨t,rfl⟩,⟨p,rfl⟩⟩:=HW r;refine xc I.tk<|min_two_ints (I.ok.hd hc) λC T k ht=>{_,H,I.kept k,?_,q};by_cases J:j<i
 .rw[Ay J,Ay J];exact{_,rfl}
 .rw[Au J,Au J];exact{_,rfl}
end
structure yJ(h:X8)(x dx C:Addr)(mA:XM):Prop where
 obj:h.get? x=some (PySem.W.instObj C dx)
 ns:h.Ns1 dx mA
 ne:dx≠x
def OZ(n:h.Ns1 dx mA):∃od,h.get? dx=some od/\∀name,PySem.W.lookIn name od=some (mA name):=by
 obtain⟨o,J,r,U,hd,g,_,j⟩:=n;refine{o,U,λname=>?_};have e:=j name;unfold nsFind findBy at e;rw[<-Array.find?_toList] at e;unfold PySem.W.lookIn;rw[hd];dsimp only;split
 .rename_i y q;rw[q] at e;exact BU some e
 .rename_i q;rw[q] at e;have a:J.toList.any (·.refKey)=false:=by rw[List.any_eq_false];intro y l;obtain⟨z,t,I⟩:=g y<|Array.mem_toList_iff.mp l;simp[DictEntry.refKey,I]
  have p:¬J.toList.any (·.refKey)=true:=by rw[a];exact AK
  rw[Au p];exact BU some e
def yJ.look{x:Addr}(I:yJ h x dx C mA):∃od,PySem.W.InstAt h x (PySem.W.instObj C dx) C (some od)/\∀name,PySem.W.lookIn name od=some (mA name):=
 let ⟨od,J,U⟩:=OZ I.ns
 ⟨od,⟨I.obj,rfl,rfl,J⟩,U⟩
section
variable {w:X7}{K:Ak}{x:Addr}{v:X4}
def O0{expr:Bool}(X:K.In s.heap)(I:yJ s.heap x dx C mA)(g:PySem.W.plainGet K C name=true)(j:PySem.W.hasDictIn K C=true)
 (l:PySem.W.findIn K (.ref C) name=some none) (o:mA name=some v) (U:PySem.W.handedIn v=true) (h:Q v {s with toks:=s.toks+1}):
 wpAny (model prog w) A (getAttr (.ref x) name expr) Q E s:=by
 obtain⟨r,J,p⟩:=I.look;exact PySem.W.get_value X J (DI g).1 (PySem.W.findObj_own j l rfl (by rw[p,o])) U h
def O1{pl:Sem Bool}{Q:X4×XQ->X5->Prop}(X:K.In s.heap)(I:yJ s.heap x dx C mA)(U:PySem.W.plainGet K C name=true)
 (g:PySem.W.findIn K (.ref C) name=some (some<|.ref f)) (j:PySem.W.isFn K (.ref f)=true) (l:mA name=none) (h:Q (.ref f,[.ref x]) s):
 wpAny (model prog w) A (getMethod (.ref x) name pl) Q E s:=by
 obtain⟨o,J,p⟩:=I.look;exact PySem.W.method_fn X J (DI U).1 (DI U).2 g (beq_iff_eq.mp j) (by show(PySem.W.lookIn name o).map (·.isSome)=some false;rw[p,l];rfl) h
def O6{t:XT}{Q:XJ}(X:K.In s.heap)(I:yJ s.heap x dx C mA)
 (hs:PySem.W.findIn K (.ref C) "__setattr__"=some (some<|.builtin "object.__setattr__")) (hp:PySem.W.plainOver K C=true) (T:PySem.W.takerIn K C name=some none) (hh:PySem.W.hasDictIn K C=true)
 (hw:PySem.Within mA t) (hsz:t.length<=sizeLine)
 (h:∀h',yJ h' x dx C (λy=>if y=name then some v else mA y)->Heap.SameBut dx s.heap h'->Q () {s with heap:=h',toks:=s.toks+2}):
 wpAny (model prog w) A (setAttr (.ref x) name v) Q E s:=by
 obtain⟨od,J,hl⟩:=I.look;refine PySem.W.set_plain X J hs<|PySem.W.osa_open (s:={s with toks:=s.toks+1}) (r:=none) X J hp T λb=>?_;obtain⟨cd,hc,j⟩:=PySem.W.any_some hh;have hx:=I.obj;refine Aa<|Al<|Aa<|Aa<|wpAny_loadPart hx<|Aa<|PySem.W.Looks.here (s:={s with toks:=s.toks+1}) (PySem.W.looks_clsIn X hc) ?_;rw[j];refine Al (a:=some dx)<|Aa<|Al<|Aa ?_;refine wpAny_nsSet1 (s:={s with toks:=s.toks+1}) I.ns λh' U g=>?_;obtain⟨oD,a0,a1,l,o,p⟩:=U.count<|PySem.Within.cons name v hw;refine Aa (wpAny_lookBehind l (by rw[o];exact pastItsLine_dict (AS p (by rw[Av];lia))) ?_);exact Al<|h _ {(g.2 _<|AJ I.ne).trans I.obj,U,I.ne} g
def O7{R:Result->X5->Prop}(X:K.In s.heap)(I:PySem.W.makesIn K C=true)
 (hi:PySem.W.findIn K (.ref C) "__init__"=some (some<|.ref f)) (J:PySem.W.typeIn K (.ref f)=some (.type "function"))
 (h:codeAny (model prog w) (A.under<|.builtin "type.__call__" {.ref C::vs,kw}) (.call (.ref f) ⟨.ref (s.heap.objs.size+1)::vs,kw⟩) (PySem.W.InitBack (s.heap.objs.size+1) R)
  {s with heap:=(s.heap.push PySem.W.emptyDict).push (PySem.W.instObj C s.heap.objs.size)}):
 codeAny (model prog w) A (.call (.ref C) ⟨vs,kw⟩) R s:=by
 obtain⟨U,g,d,t,os⟩:=s;exact PySem.W.make_core (PySem.W.makes_of X I) (PySem.W.looks_findIn X hi) (λself=>PySem.W.bind_fn X self J) (.inl rfl) h
end
def dI(f:Str)(v:V):List (Str×V)->List (Str×V)
 |[]=>[(f,v)]
 |(g,x)::r=>if g=f then(g,v)::r else(g,x)::dI f v r
theorem l6(f g:Str)(v:V):∀fs:List (Str×V),(dI f v fs).lookup g=if g=f then some v else fs.lookup g
 |[]=>by
  show List.lookup g [(f,v)]=_;by_cases h:g=f
  .have I:=beq_iff_eq.mpr h;simp only[List.lookup,I,Ay h]
  .have I:=beq_eq_false_iff_ne.mpr h;simp only[List.lookup,I,Au h]
 |(k,x)::r=>by
  have U:=l6 f g v r;rw[show dI f v ((k,x)::r)=(if k=f then(k,v)::r else(k,x)::dI f v r) from rfl];by_cases J:k=f
  .rw[Ay J];by_cases h:g=k
   .have I:=beq_iff_eq.mpr h;simp only[List.lookup,I,Ay<|h.trans J]
   .have I:=beq_eq_false_iff_ne.mpr h;simp only[List.lookup,I,Au (λe:g=f=>h<|e.trans J.symm)]
  .rw[Au J];by_cases h:g=k
   .have I:=beq_iff_eq.mpr h;simp only[List.lookup,I,Au (λe:g=f=>J<|h.symm.trans e)]
   .have I:=beq_eq_false_iff_ne.mpr h;simp only[List.lookup,I];exact U
theorem jO(f:Str)(v:V):∀fs:List (Str×V),f∈(dI f v fs).map (·.1)/\∀g,g∈fs.map (·.1)->g∈(dI f v fs).map (·.1)
 |[]=>{by simp[dI],λg h=>by simp at h}
 |(k,x)::r=>by
  obtain⟨J,U⟩:=jO f v r;rw[show dI f v ((k,x)::r)=(if k=f then(k,v)::r else(k,x)::dI f v r) from rfl];by_cases I:k=f
  .rw[Ay I];subst I;exact{by simp,λg h=>by simpa using h}
  .rw[Au I];refine{?_,λg h=>?_}
   .rw[AQ];exact Ac _ J
   .rw[AQ] at h ⊢;rcases Ao.mp h with e|e
    .exact Ao.mpr<|.inl e
    .exact Ac _<|U g e
theorem kY(f:Str)(v:V):∀fs:List (Str×V),(dI f v fs).length<=fs.length+1
 |[]=>by simp[dI]
 |(k,x)::r=>by
  have J:=kY f v r;rw[show dI f v ((k,x)::r)=(if k=f then(k,v)::r else(k,x)::dI f v r) from rfl];by_cases I:k=f
  .rw[Ay I,Av,Av];lia
  .rw[Au I,Av,Av];lia
def dy.some_of{o:XY}(r:dy (some v) o):∃u,o=some u/\zq v u:=by cases o with|none=>exact(show False from r).elim|some u=>exact{(u),rfl,r}
abbrev EV:=@dy.some_of
def dy.none_of{o:XY}(r:dy none o):o=none:=by cases o with|none=>rfl|some u=>exact(show False from r).elim
def O8(r:zq v u):PySem.W.handedIn u=true:=by
 cases v with
 |KB=>cases (show u=Value.none from r);rfl
 |bl b=>cases (show u=Value.bool b from r);rfl
 |int i=>obtain⟨t,e⟩:=(show ∃t,u=Value.int i t from r);cases e;rfl
 |str x=>obtain⟨t,e⟩:=(show ∃t,u=Value.str x t from r);cases e;rfl
 |_A b=>obtain⟨t,e⟩:=(show ∃t,u=Value.bytes b t from r);cases e;rfl
 |Z5 b=>obtain⟨t,e⟩:=(show ∃t,u=Value.float b t from r);cases e;rfl
 |ref a=>cases (show u=Value.ref a from r);rfl
 |ty n=>cases (show u=Value.type n from r);rfl
section
variable {P:X6}{w:X7}{a:Addr}{fs fs':List<|Str×V}
def mW(HT:gY P w H h)(e:H a=some (.ins C dx fs)):∃mA,yJ h a dx C mA/\(∀f,dy (fs.lookup f)<|mA f)/\PySem.Within mA (fs.map (·.1))/\fs.length<=1000/\H dx=some (.own a):=by obtain⟨d,z,ne,ob,mA,n,r,q⟩:=(show vf P w H h a (.ins C dx fs) from HT a _ e);exact{mA,{(ob),n,ne},r,q,z,d}
end
structure YH(K:Ak)(C:Addr):Prop where
 pg:PySem.W.plainGet K C Str.empty=true
 hd:PySem.W.hasDictIn K C=true
 po:PySem.W.plainOver K C=true
 sa:PySem.W.findIn K (.ref C) "__setattr__"=some (some<|.builtin "object.__setattr__")
def YH.get{K:Ak}(c:YH K C)(f:Str):PySem.W.plainGet K C f=true:=c.pg
def P3(K:Ak)(C:Addr)(f:Str):Prop:=PySem.W.findIn K (.ref C) f=some none
def P3._C{K:Ak}{f:Str}(n:P3 K C f):PySem.W.takerIn K C f=some none:=by unfold PySem.W.takerIn;rw[show PySem.W.findIn K (.ref C) f=some none from n];rfl
structure Fg(K:Ak)(C:Addr)(m:Str)(f:Addr):Prop where
 at_:PySem.W.findIn K (.ref C) m=some (some<|.ref f)
 fn:PySem.W.isFn K (.ref f)=true
 kp:PySem.W.keepIn K (.ref f)=true
section
variable {a:Addr}{fs:List<|Str×V}{f:Str}
def yW{b:Bool}(I:z9 X pins σ H s)(e:H a=some (.ins C dx fs))(c:YH X.K C)(n:P3 X.K C f)(l:fs.lookup f=some v)
 (h:∀u s',z9 X pins σ H s'->zq v u->Q u s'):wpAny (model X.prog X.w) A (getAttr (.ref a) f b) Q E s:=by
 obtain⟨U,O,r,_,_,_⟩:=mW I.HT e;obtain⟨u,g,J⟩:=EV (v:=v) (o:=U f) (by rw[<-l];exact r f);exact O0 I.Yw O (c.get f) c.hd n g (O8 J)<|h u _ (I.tok _) J
def yE{m:Str}{g:Addr}{pl:Sem Bool}{Q:X4×XQ->X5->Prop}(I:z9 X pins σ H s)(e:H a=some (.ins C dx fs))(c:YH X.K C)(k:Fg X.K C m g)(l:fs.lookup m=none)
 (h:Q (.ref g,[.ref a]) s):wpAny (model X.prog X.w) A (getMethod (.ref a) m pl) Q E s:=by
 obtain⟨U,O,r,_,_,_⟩:=mW I.HT e;have J:=dy.none_of (by rw[<-l];exact r m);exact O1 I.Yw O (c.get m) k.at_ k.fn J h
def yf{y:V}{Q:XJ}(I:z9 X pins σ H s)(e:H a=some (.ins C dx fs))(c:YH X.K C)(n:P3 X.K C f)(hl:fs.length<1000)(p:zq y u)
 (h:∀s',z9 X pins σ (upd H a<|.ins C dx<|dI f y fs) s'->Q () s'):wpAny (model X.prog X.w) A (setAttr (.ref a) f u) Q E s:=by
 obtain⟨U,O,r,j,_,l⟩:=mW I.HT e;have t:(fs.map (·.1)).length<=sizeLine:=by rw[Ah,sizeLine_eq];lia
 refine O6 I.Yw O c.sa c.po n._C c.hd j t λT J sb=>h _ ?_;have hd:∃o,T.get? dx=some o:=let ⟨o,_,_,e',_⟩:=J.ns;⟨o,e'⟩;refine I.write (x:=a) (e:=dx) (by rw[e];exact True.intro) (.inr l) (λb q hb z=>(sb.2 b hb).trans z) hd ?_;refine{by rw[qm O.ne];exact l,?_,O.ne,J.obj,_,J.ns,λg=>?_,λg hg=>?_}
 .have:=kY f y fs;lia
 .show dy ((dI f y fs).lookup g) (if g=f then some u else U g);rw[l6];by_cases q:g=f
  .rw[Ay q,Ay q];exact p
  .rw[Au q,Au q];exact r g
 .by_cases q:g=f
  .rw[q];exact(jO f y fs).1
  .refine(jO f y fs).2 g (j g λz=>hg ?_);show(if g=f then some u else U g)=none;rw[Au q];exact z
def z9.made(I:z9 X pins σ H s):z9 X pins σ (upd (upd H s.heap.objs.size<|.own<|s.heap.objs.size+1) (s.heap.objs.size+1)<|.ins C s.heap.objs.size [])
 {s with heap:=(s.heap.push PySem.W.emptyDict).push (PySem.W.instObj C s.heap.objs.size)}:=by
 have J:(s.heap.push PySem.W.emptyDict).get? s.heap.objs.size=some PySem.W.emptyDict:=pG s.heap rfl;have U:((s.heap.push PySem.W.emptyDict).push<|PySem.W.instObj C s.heap.objs.size).get? (s.heap.objs.size+1)=some (PySem.W.instObj C s.heap.objs.size):=by have:=pG (s.heap.push PySem.W.emptyDict) (o:=PySem.W.instObj C s.heap.objs.size) rfl;rwa[vc] at this
 have g:(s.heap.push PySem.W.emptyDict).Ns s.heap.objs.size (λ_=>none):={PySem.W.emptyDict,#[],_,J,rfl,(λe j=>absurd j (by simp)),λ_=>rfl};have l:=I.laid (a:=s.heap.objs.size) (o:=.own<|s.heap.objs.size+1) (h':=s.heap.push PySem.W.emptyDict) (t':=s.toks) (λb u q=>oi _ q) (Ap _) {_,J};refine l.laid (a:=s.heap.objs.size+1) (o:=.ins C s.heap.objs.size []) (t':=s.toks) (λb u q=>oi _ q) (Eo<|vc _ _) ?_;have ne:s.heap.objs.size≠s.heap.objs.size+1:=AY<|Bz _;refine{by rw[qm ne,zg],Bf _,ne,U,λ_=>none,(Heap.Ns1.of_empty g).at λo q=>oi _ q,λ_=>True.intro,λy p=>absurd rfl p}
def O9{w:X7}{f:Str}(J:attributeBase e f env (eval e env)=eval e env)
 (h:wpAny (model prog w) A (eval e env) (λo I=>wpAny (model prog w) A (getAttr o f true) Q E I) E s):wpAny (model prog w) A (eval (.Attribute e f pos) env) Q E s:=
 Attribute_any_ h (by rw[arm_eval_Attribute,J])
end
def O_(K:Ak)(ta:TE)(f:Str):TE:=λσ H Q=>ta σ H λx H1=>∃a C dx fs v,x=.ref a/\H1 a=some (.ins C dx fs)/\YH K C/\P3 K C f/\fs.lookup f=some v/\Q v H1
def O'(K:Ak)(ta tv:TE)(f:Str):TS:=λD σ H=>tv σ H λy H1=>ta σ H1 λx H2=>∃a C dx fs,x=.ref a/\H2 a=some (.ins C dx fs)/\YH K C/\P3 K C f/\fs.length<1000/\
 D.nx σ (upd H2 a<|.ins C dx<|dI f y fs)
section
variable {f:Str}{tpos:Pos}{ta tv:TE}
def Pa(U:PE X e ta)(g:attributeBase e f X.env (eval e X.env)=eval e X.env):PE X (.Attribute e f pos) (O_ X.K ta f):=by intro J s j H Q I h;refine O9 g<|aN (U J s j H _ I h) λu s1 ψ=>?_;obtain⟨x,o,p,r,a,C,dx,fs,v,ex,ea,c,n,l,q⟩:=ψ;subst ex;obtain rfl:u=Value.ref a:=r;exact yW p ea c n l λu' s2 t T=>{(v),o,t,T,q}
def Pb(g:PE X o ta)(j:PE X value tv)(hs:swapsWith value (some<|.Attribute o f fx) pos.line X.env=pure false):PS X (.Assign [.Attribute o f fx] value pos) (O' X.K ta tv f):=by intro J s U H D I h;refine plainObj_wpAny_Assign_Attribute (bA (j J s U H _ I h) λu p y r t T q=>aN (g J p U r _ t q) λov s2 ψ=>?_) hs;obtain⟨x,H2,I2,rx,a,C,dx,fs,ex,ea,c,n,l,q2⟩:=ψ;subst ex;obtain rfl:ov=Value.ref a:=rx;exact yf I2 ea c n l T λs3 I3=>{U,_,I3,q2}
end
section
variable {c:X4}{b:Bool}
inductive mD(K:Ak)(H:Hp):V->X4->Prop where
 |KB:mD K H .KB (.type "NoneType")
 |bl (x:Bool):mD K H (.bl x) (.type "bool")
 |int (i:Int):mD K H (.int i) (.type "int")
 |str (x:Str):mD K H (.str x) (.type "str")
 |Z5 (x:UInt64):mD K H (.Z5 x) (.type "float")
 |lst {a:Addr} {xs:X_} (e:H a=some (.lst xs)):mD K H (.ref a) (.type "list")
 |YC {a:Addr} {o:Obj} {xs:X_} (e:H a=some (.YC o<|.lst xs)):mD K H (.ref a) (.type "list")
 |tup {a:Addr} {xs:X_} (e:H a=some (.tup xs)):mD K H (.ref a) (.type "tuple")
 |dK {a:Addr} {kvs:List<|jb×V} (e:H a=some (.dK kvs)):mD K H (.ref a) (.type "dict")
 |dT {a:Addr} {kvs:List<|Yc×V} (e:H a=some (.dT kvs)):mD K H (.ref a) (.type "dict")
 |ins {a C dx:Addr} {fs:List<|Str×V} (e:H a=some (.ins C dx fs)) (cl:YH K C) (ha:PySem.W.findIn K (.ref C) "__class__"=some (some<|.builtin "object.__class__"))
  (hn:PySem.W.specialIn K (.builtin "object.__class__") "__get__"=some (some<|.builtin "getset_descriptor.__get__")) (htk:PySem.W.takesIn K (.builtin "object.__class__")=some true)
  (hm:PySem.W.mroIn K C (.type "object")=some true):mD K H (.ref a) (.ref C)
def bT{x:V}{t:X4}(I:z9 X pins σ H s)(U:zq x u)(ty:mD X.K H x t)(e:PySem.W.kitOne X.K t c=some b)(h:∀tk,Q (.bool b) {s with toks:=tk}):
 wpAny (model X.prog X.w) A (call (.builtin "isinstance") [u,c]) Q E s:=by
 cases ty with
 |KB=>cases (show u=Value.none from U);exact BF PySem.W.kitx_none I.Yw True.intro e (λz=>nomatch z) h
 |bl y=>cases (show u=Value.bool y from U);exact BF PySem.W.kitx_bool I.Yw True.intro e (λz=>nomatch z) h
 |int i=>obtain⟨t,q⟩:=(show ∃t,u=Value.int i t from U);cases q;exact BF PySem.W.kitx_int I.Yw True.intro e (λz=>nomatch z) h
 |str y=>obtain⟨t,q⟩:=(show ∃t,u=Value.str y t from U);cases q;exact BF PySem.W.kitx_str I.Yw True.intro e (λz=>nomatch z) h
 |Z5 y=>obtain⟨t,q⟩:=(show ∃t,u=Value.float y t from U);cases q;exact BF PySem.W.kitx_float I.Yw True.intro e (λz=>nomatch z) h
 |@lst a l ea=>
  cases (show u=Value.ref a from U);obtain⟨_,_,n,_,g⟩:=(show vf X.prog X.w H s.heap a (.lst l) from I.HT a _ ea);exact BF DW I.Yw {_,g,rfl} e (λz=>nomatch z) h
 |@YC a ob l ea=>
  cases (show u=Value.ref a from U);obtain⟨_,_,_,n,_,g⟩:=(show vf X.prog X.w H s.heap a (.YC ob<|.lst l) from I.HT a _ ea);exact BF DW I.Yw {_,g,rfl} e (λz=>nomatch z) h
 |@tup a l ea=>
  cases (show u=Value.ref a from U);obtain⟨_,_,_,p⟩:=(show vf X.prog X.w H s.heap a (.tup l) from I.HT a _ ea);obtain⟨o,g,r,_⟩:=p;exact BF PySem.W.kitx_tuple I.Yw {(o),g,r} e (λz=>nomatch z) h
 |@dK a j ea=>
  cases (show u=Value.ref a from U);obtain⟨_,_,vs,_,p⟩:=(show vf X.prog X.w H s.heap a (.dK j) from I.HT a _ ea);obtain⟨o,es,ep,g,r,_⟩:=p;exact BF PySem.W.kitx_dict I.Yw {(o),g,r.1} e (λz=>nomatch z) h
 |@dT a j ea=>
  cases (show u=Value.ref a from U);obtain⟨_,_,l,_,o,es,ep,g,r,_⟩:=(show vf X.prog X.w H s.heap a (.dT j) from I.HT a _ ea);exact BF PySem.W.kitx_dict I.Yw {(o),g,r.1} e (λz=>nomatch z) h
 |@ins a C dx fs ea cl ha hn T hm=>
  cases (show u=Value.ref a from U);obtain⟨mA,O,_⟩:=mW I.HT ea;obtain⟨od,J,_⟩:=O.look;exact BF (PySem.W.kitx_own (cl.get _) cl.hd ha hn T hm) I.Yw J e (λz=>nomatch z) h
end
structure wx(k:Nat)(A:Around):Prop where
 hd:A.handled=none
 dp:A.depth+3*k+5<recursionLimit
 un:A.units+16*k+200<cLine
def wx.mono{k:Nat}(r:wx k A)(h:j<=k):wx j A:={r.hd,by have:=r.dp;lia,by have:=r.un;lia}
def wx.deeper{k:Nat}(r:wx (k+1) A)(env:Env):wx k (A.deeper env):=
 ⟨r.hd,by have:=r.dp;show A.depth+1+3*k+5<_;lia,by have:=r.un;show A.units+3+16*k+200<_;lia⟩
def yR :(A.under<|.builtin "type.__call__" {.ref C::us,kw}).depth=A.depth+1:=by first|rfl|simp[Around.under,Code.weight,Code.isCreation,Code.isGuard,Code.isCaller,Code.frames,Code.isFrame,guardIds]
def xR :(A.under<|.builtin "type.__call__" {.ref C::us,kw}).units=A.units+1:=by first|rfl|simp[Around.under,Code.cUnits,Code.frames,Code.isFrame]
def wx.make{k:Nat}(r:wx (k+1) A)(C:Addr)(us:XQ)(kw:List<|Str×X4):wx k (A.under<|.builtin "type.__call__" {.ref C::us,kw}):=
 ⟨r.hd,by have:=r.dp;rw[yR];lia,by have:=r.un;rw[xR];lia⟩
def wx.depth{k:Nat}(r:wx k A):A.depth<recursionLimit:=by have:=r.dp;lia
def Pd:TA:=λ_ H Q=>Q [] H
def Pe(ta:TE)(tr:TA):TA:=λσ H Q=>ta σ H λx H1=>tr σ H1 λxs H2=>Q (x::xs) H2
section
variable {te:TE}{t:TA}
def oX:PA X [] Pd:=λ_ _ _ _ H Q I h=>xp {[],H,I,.nil,h}
abbrev E9(e:Expr)(es:XU)(X:Cx):Prop:=starEach (e::es) X.env=(false,eval e X.env)::starEach es X.env
def f9(g:PE X e te)(j:PA X es t)(hs:E9 e es X:=by rfl):PA X (e::es) (Pe te t):=by intro pos J s U H Q I h;rw[hs];refine wh<|bA (g J s U H _ I h) λu l x o p r C=>?_;exact uw (j pos J l U o _ p C) λus s2 T H2 I2 r2 q2=>{x::T,H2,I2,.cons r r2,q2}
def Pf(t:TA):TE:=λσ H Q=>t σ H λxs H1=>xs.length<=sizeLine/\∀p,H1 p=none->Q (.ref p) (upd H1 p<|.tup xs)
def Pg(t:TA):TE:=λσ H Q=>t σ H λxs H1=>xs.length<=sizeLine/\∀p,H1 p=none->Q (.ref p) (upd H1 p<|.lst xs)
def Ph{x1}(h:PA X es t):PE X (.Tuple es x1 pos) (Pf t):=by intro J s j H Q I l;refine wpAny_Tuple_spliced (aN (h pos J s j H _ I l) λo U ⟨p,C,g,r,z,q⟩=>{by rw[<-r.length];exact z,?_});have T:=g.HT.fresh<|Ap _;refine{.ref U.heap.objs.size,upd C U.heap.objs.size<|.tup p,g.laid (t':=U.toks) (λb u e=>oi _ e) (Ap _) ?_,rfl,q _ T};exact{z,o,r,{_,pG _ rfl,rfl,_,rfl}}
def Pj(h:PA X es t):PE X (.List es pos) (Pg t):=by intro J s j H Q I l;refine wpAny_List_spliced (aN (h pos J s j H _ I l) λo U ⟨p,C,g,r,z,q⟩=>{by rw[<-r.length];exact z,?_});have T:=g.HT.fresh<|Ap _;refine{.ref U.heap.objs.size,upd C U.heap.objs.size<|.lst p,g.laid (t':=U.toks) (λb u e=>oi _ e) (Ap _) ?_,rfl,q _ T};exact{z,o,0,r,pG _ rfl}
end
abbrev Sp:=X_->Hp->VK->XK->Prop
abbrev c_:=List Env->Hp->X5->XK->XI
structure yh(P:X6)(w:X7)(K:Ak)(mg:XM)(base:X8)(A:Around)(outer:List Env)(s:X5)(H:Hp):Prop where
 frames:A.frames=some outer
 mod:Mod K mg base
 bs:∀b o,base.get? b=some o->s.heap.get? b=some o/\H b=none
 ZU:base.objs.size<=s.heap.objs.size
 Yt:s.heap.FunFrames base outer
 ZZ:∀b∈Ze outer,H b=none
 HT:gY P w H s.heap
 bare:AllBare s.gens
 tk:0<s.toks
def CE(outer:List Env)(P:X6)(w:X7)(H:Hp)(s:X5)(Q:VK)(u:X4)(s':X5):Prop:=
 ∃v H',s'.os=s.os/\AllBare s'.gens/\Un (Ze outer) [] H H' s.heap s'.heap/\gY P w H' s'.heap/\zq v u/\Q v H'/\0<s'.toks
def CR(CX:c_)(outer:List Env)(P:X6)(w:X7)(H:Hp)(s:X5)(Q:VK)(E:XK)(r:Result)(s':X5):Prop:=
 match r with
 |.ok (.ret u)=>CE outer P w H s Q u s'
 |.ok _=>False
 |.error e=>CX outer H s E e s'
structure bp(P:X6)(w:X7)(K:Ak)(mg:XM)(base:X8)(CX:c_)(k:Nat)(f:Addr)(fd:FuncData)(ps:XT)(sp:Sp):Prop where
 len:∀vs H Q E,sp vs H Q E->vs.length=ps.length
 run:∀(A:Around) (outer:List Env) (s:X5) (H:Hp) (args:Args) (us:XQ) (vs:X_) (Q:VK) (E:XK),wx k A->yh P w K mg base A outer s H->BindsTo s fd args (ps.zip us)->zn vs us->sp vs H Q E->
  codeAny (model P w) A (.call (.ref f) args) (CR CX outer P w H s Q E) s
theorem bp.mono{P:X6}{w:X7}{K:Ak}{CX:c_}{k:Nat}{sp:Sp}(F:bp P w K mg base CX j f fd ps sp)(h:j<=k):
 bp P w K mg base CX k f fd ps sp:={F.len,λA I s H args J U Q E g=>F.run A I s H args J U Q E<|g.mono h}
def bp.imp{P:X6}{w:X7}{K:Ak}{CX:c_}{k:Nat}{sp J:Sp}(F:bp P w K mg base CX k f fd ps sp)
 (h:∀vs H Q E,J vs H Q E->sp vs H Q E):bp P w K mg base CX k f fd ps J:=
 ⟨λvs H Q E q=>F.len vs H Q E<|h _ _ _ _ q,λA I s H args U vs Q E g j l o p=>F.run A I s H args U vs Q E g j l o<|h _ _ _ _ p⟩
def yh.make{P:X6}{w:X7}{K:Ak}{outer:List Env}(e:yh P w K mg base A outer s H)(C:Addr)(us:XQ)(kw:List<|Str×X4):
 yh P w K mg base (A.under<|.builtin "type.__call__" {.ref C::us,kw}) outer s H:={by first|exact e.frames|(simpa[Around.under,Code.envs,Code.isFrame,pushEnvs] using e.frames),e.mod,e.bs,e.ZU,e.Yt,e.ZZ,e.HT,e.bare,e.tk}
def z9.Y6(I:z9 X pins σ H s):yh X.prog X.w X.K X.mg X.base X.A X.stack s H:=
 ⟨I.ok.frames,I.ok.mod,I.bs,AS I.ok.ZU I.sz,I.stack,I.Y9,I.HT,I.bare,I.tk⟩
def z9.after{Q:VK}(I:z9 X pins σ H s)(h:CE X.stack X.prog X.w H s Q u s'):EP X pins σ Q u s':=by obtain⟨v,j,os,bare,un,J,r,q,o⟩:=h;obtain⟨l,g,d,t,U⟩:=s';obtain rfl:U=s.os:=os;exact{v,j,I.call (h':=l) (g':=g) (d':=d) (t':=t) (ch:=[]) un J bare λb z=>absurd z (by simp),r,q}
def HX(sp:Sp)(j3:X_)(E:XK)(t:TA):TE:=λσ H Q=>t σ H λvs H1=>sp (vs++j3) H1 Q E
def Pk(C:Addr)(m:Str)(sp:Sp)(j3:X_)(E:XK)(ta:TE)(t:TA):TE:=λσ H Q=>ta σ H λx H1=>∃a dx fs,x=.ref a/\H1 a=some (.ins C dx fs)/\fs.lookup m=none/\
 t σ H1 λvs H2=>sp (x::(vs++j3)) H2 Q E
def Pl(C:Addr)(sp:Sp)(j3:X_)(E:XK)(t:TA):TE:=λσ H Q=>t σ H λvs H1=>∀x dx,H1 x=none->H1 dx=none->dx≠x->
 sp (.ref x::(vs++j3)) (upd (upd H1 dx<|.own x) x<|.ins C dx []) (λv H2=>v=.KB/\Q (.ref x) H2) E
def aZ(K:Ak)(fd:FuncData)(ps:XT)(ds:XQ):Prop:=
 ∀(s:X5) (us:XQ),K.In s.heap->(us++ds).length=ps.length->BindsTo s fd ⟨us,[]⟩ (ps.zip<|us++ds)
def aZ.all{K:Ak}(h:∀us:XQ,us.length=ps.length->bindArgs fd ⟨us,[]⟩=pure (ps.zip us)):aZ K fd ps []:=λs us _ I=>by rw[Aw] at I ⊢;exact .of_eq<|h us I
def jG(CX:c_)(X:Cx)(E:XK):Prop:=∀(pins:List<|Addr×Obj) (σ:St) (H:Hp) (s:X5) (e:X4) (s':X5),z9 X pins σ H s->CX X.stack H s E e s'->X.xe e s'
section
variable {CX:c_}{k:Nat}{sp:Sp}{j3:X_}{ds:XQ}{E:XK}{m:Str}{p:Pos}{ta:TE}{t:TA}
def HY{Q:VK}{vs:X_}(F:bp X.prog X.w X.K X.mg X.base CX k f fd ps sp)(g:wx k X.A)(j:aZ X.K fd ps ds)(hd:zn j3 ds)(l:jG CX X E)
 (I:z9 X pins σ H s) (r:zn vs us) (h:sp (vs++j3) H Q E):_S X (call (.ref f) us) (EP X pins σ Q) X.xe s:=by
 have U:=r.append hd;have o:(us++ds).length=ps.length:=by rw[<-U.length];exact F.len _ _ _ _ h
 refine wpAny_call<|codeAny_mono (F.run X.A X.stack s H {us,[]} (us++ds) (vs++j3) Q E g I.Y6 (j s us I.Yw o) U h) λr p J=>?_;cases r with
 |error e=>exact l pins σ H s e p I J
 |ok t=>
  cases t with|ret u=>exact I.after J|next=>exact False.elim J|brk=>exact False.elim J|cont=>exact False.elim J
abbrev Fb(p:Pos)(es:XU)(X:Cx):Prop:=(backTo p<|starEach es X.env).any (·.1)=false
def Pm(F:bp X.prog X.w X.K X.mg X.base CX k f fd ps sp)(l:wx k X.A)(o:Gl X x)(C:X.mg x=some (.ref f))(T:PySem.W.keepIn X.K (.ref f)=true)(hb:aZ X.K fd ps ds)(hd:zn j3 ds)(hx:jG CX X E)
 (ha:PA X (e::es) t) (U:Fc x:=by decide) (he:E9 e es X:=by rfl) (g:Fb pos es X:=by rfl):
 PE X (.Call (.Name x p) (e::es) [] pos) (HX sp j3 E t):=by
 intro J s σ H Q I h;refine wpAny_Call_Name_kw<|uP I o C ?_ U;refine DP (h₀:=X.base) I.ok.mod.Z_ T (uw (ha pos J s σ H _ I h) λus s1 vs H1 j r q=>{j.Yw,?_}) he g;exact HY F l hb hd hx j r q
def Pn{pl:Sem Bool}(he:PE X o ta)(c:YH X.K C)(j:Fg X.K C m f)(F:bp X.prog X.w X.K X.mg X.base CX k f fd ps sp)(hr:wx k X.A)(hb:aZ X.K fd ps ds)(hd:zn j3 ds)(hx:jG CX X E)(ha:PA X (e::es) t)
 (U:E9 e es X:=by rfl) (g:Fb pos es X:=by rfl)
 (ht:eval (.Call (.Attribute o m apos) (e::es) [] pos) X.env=(do
  let p <-eval o X.env
  standAt apos.atName
  let (f,first) <-holding [p] (getMethod p m pl)
  callWith pos f first (backTo pos<|starEach (e::es) X.env) (backToKw pos<|keywordEach [] X.env)):=by rfl):
 PE X (.Call (.Attribute o m apos) (e::es) [] pos) (Pk C m sp j3 E ta t):=by
 intro J s T H Q I h;refine PySem.W.methodCall_KW (pl:=pl) (aN (he J s T H _ I h) λu s1 ψ=>?_) ht;obtain⟨x,H1,I1,rx,a,dx,fs,ex,ea,l,q⟩:=ψ;subst ex;obtain rfl:u=Value.ref a:=rx;refine yE I1 ea c j l ?_;refine DP (first:=[.ref a]) (h₀:=X.base) I.ok.mod.Z_ j.kp (uw (ha pos J s1 T H1 _ I1 q) λus s2 vs H2 I2 r q2=>{I2.Yw,?_}) U g;exact HY (us:=.ref a::us) (vs:=.ref a::vs) F hr hb hd hx I2 (.cons rfl r) q2
structure Mk(K:Ak)(C f:Addr):Prop where
 makes:PySem.W.makesIn K C=true
 init:PySem.W.findIn K (.ref C) "__init__"=some (some<|.ref f)
 fn:PySem.W.isFn K (.ref f)=true
 kp:PySem.W.keepIn K (.ref C)=true
theorem Po{Q:VK}{vs:X_}(M:Mk X.K C f)(F:bp X.prog X.w X.K X.mg X.base CX k f fd ps sp)(l:wx (k+1) X.A)(o:aZ X.K fd ps ds)(hd:zn j3 ds)
 (p:jG CX X E) (I:z9 X pins σ H s) (r:zn vs us)
 (h:∀x dx,H x=none->H dx=none->dx≠x->sp (.ref x::(vs++j3)) (upd (upd H dx<|.own x) x<|.ins C dx []) (λv H2=>v=.KB/\Q (.ref x) H2) E):
 _S X (call (.ref C) us) (EP X pins σ Q) X.xe s:=by
 have g:=h (s.heap.objs.size+1) s.heap.objs.size (I.HT.fresh<|CK _) (I.HT.fresh<|Ap _)<|AY<|Bz _;have U:=z9.made (C:=C) I;have j:zn (V.ref (s.heap.objs.size+1)::(vs++j3)) (Value.ref (s.heap.objs.size+1)::(us++ds)):=.cons rfl<|r.append hd;have t:(Value.ref (s.heap.objs.size+1)::us++ds).length=ps.length:=by have e:=j.length;rw[F.len _ _ _ _ g] at e;exact e.symm
 refine wpAny_call (O7 (f:=f) I.Yw M.makes M.init (beq_iff_eq.mp M.fn) (codeAny_mono (F.run _ X.stack _ _ {Value.ref (s.heap.objs.size+1)::us,[]} (Value.ref (s.heap.objs.size+1)::(us++ds)) _ _ E (l.make C us [])
  (U.Y6.make C us []) (o _ (Value.ref (s.heap.objs.size+1)::us) U.Yw t) j g) λr T J=>?_))
 cases r with
 |error e=>exact p pins σ _ _ e T U J
 |ok fl=>
  cases fl with
  |ret u=>
   obtain⟨v,H',I3,rv,ev,q3⟩:=U.after J;subst ev;exact{rv,{V.ref<|s.heap.objs.size+1,H',I3,rfl,q3}}
  |next=>exact False.elim J
  |brk=>exact False.elim J
  |cont=>exact False.elim J
def Pp(M:Mk X.K C f)(F:bp X.prog X.w X.K X.mg X.base CX k f fd ps sp)(l:wx (k+1) X.A)(o:Gl X x)(T:X.mg x=some (.ref C))(hb:aZ X.K fd ps ds)(hd:zn j3 ds)(hx:jG CX X E)
 (ha:PA X (e::es) t) (U:Fc x:=by decide) (he:E9 e es X:=by rfl) (g:Fb pos es X:=by rfl):
 PE X (.Call (.Name x p) (e::es) [] pos) (Pl C sp j3 E t):=by
 intro J s σ H Q I h;refine wpAny_Call_Name_kw<|uP I o T ?_ U;refine DP (h₀:=X.base) I.ok.mod.Z_ M.kp (uw (ha pos J s σ H _ I h) λus s1 vs H1 j r q=>{j.Yw,?_}) he g;exact Po M F l hb hd hx j r q
end
section
variable {CX:c_}{k:Nat}{ks:XT}{sp:Sp}{E:XK}{m:Str}{p:Pos}{kws:List Keyword}{te ta:TE}{t tk:TA}{nm:Option Str}
variable {g:XQ->XQ->XQ}{gV:X_->X_->X_}
end
structure bN(N P:XT)(sc:Scope):Prop where
 kind:sc.kind=.function
 co:sc.isCoroutine=false
 gen:sc.isGenerator=false
 nd:N.Nodup
 pre:N.take P.length=P
 par:∀x∈P,sc.names.lookup x=some .local\/sc.names.lookup x=some .cell
 _c:∀y∈sc.names,y.2≠.free
theorem qT{kindOf:Str->Option NameKind}{x:Str}:∀{I:List<|Str×X4} {m:XM},(∀v,(x,v)∉I)->bindL kindOf I m x=m x
 |[],_,_=>rfl
 |(n,v)::r,m,h=>by
  unfold bindL;rw[qT λw hw=>h w<|Ac _ hw];split
  .have:x≠n:=by rintro rfl;exact h v Ai
   simp[this]
  .rfl
theorem qS{kindOf:Str->Option NameKind}{x:Str}:∀{I:List<|Str×X4} {m:XM},(∀v,(x,v)∉I)->bindC kindOf I m x=m x
 |[],_,_=>rfl
 |(n,v)::r,m,h=>by
  unfold bindC;rw[qS λw hw=>h w<|Ac _ hw];split
  .rfl
  .have:x≠n:=by rintro rfl;exact h v Ai
   simp[this]
theorem rF{kindOf:Str->Option NameKind}{x:Str}{v:X4}:∀{P:XT} {vs:XQ} {i:Nat} {m:XM},P.Nodup->P[i]?=some x->vs[i]?=some v->kindOf x=some .local->
 bindL kindOf (P.zip vs) m x=some v
 |[],_,_,_,_,h,_,_=>by simp at h
 |_::_,[],_,_,_,_,h,_=>by simp at h
 |p::P,w::vs,0,m,nd,I,J,U=>by simp at I J;subst I;subst J;show bindL kindOf ((p,w)::P.zip vs) m p=_;unfold bindL;rw[qT λv g=>(AD.mp nd).1 (DC g).1,Ay U];simp
 |p::P,w::vs,i+1,m,nd,I,J,U=>by unfold bindL;exact rF (i:=i) (AD.mp nd).2 (by simpa using I) (by simpa using J) U
theorem qU{kindOf:Str->Option NameKind}{x:Str}{v:X4}:∀{P:XT} {vs:XQ} {i:Nat} {m:XM},P.Nodup->P[i]?=some x->vs[i]?=some v->kindOf x≠some .local->
 bindC kindOf (P.zip vs) m x=some v
 |[],_,_,_,_,h,_,_=>by simp at h
 |_::_,[],_,_,_,_,h,_=>by simp at h
 |p::P,w::vs,0,m,nd,I,J,U=>by simp at I J;subst I;subst J;show bindC kindOf ((p,w)::P.zip vs) m p=_;unfold bindC;rw[qS λv g=>(AD.mp nd).1 (DC g).1,Au U];simp
 |p::P,w::vs,i+1,m,nd,I,J,U=>by unfold bindC;exact qU (i:=i) (AD.mp nd).2 (by simpa using I) (by simpa using J) U
def start(N:XT)(vs:X_):St:=vs.map some++List.replicate (N.length-vs.length) none
def qJ(CX:c_)(P:X6)(w:X7)(K:Ak)(mg:XM)(base:X8)(N:XT)(eA:Str)(scope:Scope)(f:Addr)(cd:X4)(A:Around)(outer:List Env)(s:X5)(H:Hp)(E:XK):Cx where
 prog:=P
 w:=w
 K:=K
 mg:=mg
 base:=base
 A:=A.deeper<|envOfC eA scope s.heap.objs.size f cd
 N:=N
 s₀:=s
 H₀:=H
 env:=envOfC eA scope s.heap.objs.size f cd
 outer:=outer
 stack:=envOfC eA scope s.heap.objs.size f cd::outer
 ex:=[]
 calm:=true
 fn:=λ_=>true
 pn:=[]
 xe:=λe s'=>wpAny (model P w) (A.deeper<|envOfC eA scope s.heap.objs.size f cd) (leaving (envOfC eA scope s.heap.objs.size f cd) e) (λ_ I=>CX outer H s E e I) (λJ I=>CX outer H s E J I) s'
def wU{I:Scope}(h:I.names.lookup x=some .cell):∃c,(cellsFrom n I.names []).lookup x=some c:=by have q:=PySem.W.cellsFrom_some I.names n []<|.inl h;exact Option.isSome_iff_exists.mp q
def Pq{CX:c_}{P:X6}{w:X7}{K:Ak}{N:XT}{cd:X4}{outer:List Env}{C:X5}{E:XK}{vs:X_}
 (S:bN N ps scope) (hd:A.handled=none) (J:yh P w K mg base A outer s H) (hl:vs.length=ps.length) (r:zn vs us)
 (x:InCallC s s.heap.objs.size (bindL (envOfC eA scope s.heap.objs.size f cd).kindOf (ps.zip us) λ_=>none) (cellsFrom (s.heap.objs.size+1) scope.names []) (bindC (envOfC eA scope s.heap.objs.size f cd).kindOf (ps.zip us) λ_=>none) C) (ht:0<C.toks):
 z9 (qJ CX P w K mg base N eA scope f cd A outer s H E) [] (start N vs) H C:=by
 have a0:ps.length<=N.length:=by have:=BU List.length S.pre;rw[A7] at this;lia
 obtain⟨o,tk,rfl,T⟩:=x.done;have U:∀b:Addr,b∉(qJ CX P w K mg base N eA scope f cd A outer s H E).ex:=λb z=>absurd (show b∈([]:List Addr) from z) (by simp);refine{{J.mod,S.kind,rfl,rfl,Ap _,λy z c o I=>?_,λy g=>?_,λy c _ h=>?_,λ_=>hd,Around.frames_deeper J.frames,.inr {(rfl),rfl},λb z=>absurd z<|U b,J.bs,J.ZU,λb _ _=>U b,λb z=>absurd z<|U b,J.Yt,J.ZZ},
  rfl,J.bare,Un.kept T,{_,x.toInCall.ns,λi y v o I h3=>?_},λy c h=>{_,x.cell y c h},J.HT.fresh<|Ap _,λy c h=>?_,λp j=>absurd (show p∈([]:List<|Addr×Obj) from j) (by simp),J.HT.kept T,?_,ht}
 .exact name_of_addr x.apart (BR o)<|BR I
 .have g:=g;rcases g with g|g
  .exact wU g
  .exact absurd rfl<|S._c _<|BR g
 .exact BD<|x.above y c<|BR h
 .have t:i<vs.length:=by
   unfold start at I;by_cases t:i<vs.length
   .exact t
   .rw[AL (by simpa using t)] at I;rw[CB] at I;split at I<;>cases I
  have ha:vs[i]?=some v:=by unfold start at I;rw[AH (by simpa using t),Aq] at I;cases e:vs[i]? with|none=>rw[e] at I;cases I|some a=>rw[e] at I;cases I;rfl
  obtain⟨u,hu,rv⟩:=r.get ha;have j:ps[i]?=some y:=by rw[<-S.pre,List.getElem?_take_of_lt (by lia)];exact o
  have l:ps.Nodup:=by rw[<-S.pre];exact S.nd.sublist<|DX _ _
  refine{u,rv,?_};rcases S.par y (Ar j) with k|k
  .exact .inl {k,rF l j hu k}
  .obtain⟨c,e⟩:=wU (n:=s.heap.objs.size+1) k;refine .inr {.inl k,c,e,?_};have q:=x.cell y c e;rw[qU l j hu (by show scope.names.lookup y≠_;rw[k];decide)] at q;exact q
 .exact J.HT.fresh<|BD<|x.above y c<|BR h
 .unfold start;show _=N.length;rw[Ab,Ah,BZ];lia
theorem HZ{CX:c_}{P:X6}{w:X7}{K:Ak}{k:Nat}{U:Arguments}{dV kV ct:X4}
 {N:XT} {sp:Sp} (lk:K.lookup f=some ⟨oc,od,.func<|PySem.W.fnOf name eA U body scope dV kV gn pm an eH ct,mR⟩) (a0:PySem.W.codeIn K eH eA=true) (S:bN N ps scope)
 (len:∀vs H Q E,sp vs H Q E->vs.length=ps.length)
 (j:∀(A:Around) (outer:List Env) (s:X5) (H:Hp) (vs:X_) (Q:VK) (E:XK),wx k (A.deeper<|envOfC eA scope s.heap.objs.size f eH)->sp vs H Q E->
  ∃t,lz (qJ CX P w K mg base N eA scope f eH A outer s H E) body t/\t {nx:=λ_ H'=>Q .KB H',rt:=Q} (start N vs) H):
 bp P w K mg base CX (k+1) f (PySem.W.fnOf name eA U body scope dV kV gn pm an eH ct) ps sp:=by
 refine{len,λA outer s H args us vs Q E hr p hb r T=>?_};have hl:=len _ _ _ _ T;have KX:=p.mod.Z_.keeps λb o e=>(p.bs b o e).1;have a1:=p.mod.nolimit.keeps λb o e=>(p.bs b o e).1;have l:∀y∈ps.zip us,scope.names.lookup y.1=some .local\/(scope.names.lookup y.1=some .cell/\((cellsFrom (s.heap.objs.size+1) scope.names []).lookup y.1).isSome=true):=λ ψ hy=>by
  obtain⟨n,v⟩:=ψ
  rcases S.par n (DC hy).1 with q|q
  .exact .inl q
  .exact .inr {q,PySem.W.cellsFrom_some _ _ _<|.inl q}
 refine codeAny_call_function hr.depth (KX _ _ lk) rfl S.co S.gen rfl (PySem.W.codeRec_of KX a0)<|hb _ _ _ _ ?_;refine xc p.tk<|wpAny_newFunctionEnv_cells S.kind l λa3 he s1 x a2=>?_;subst he;refine{a1.keeps x.toInCall.keep,codeAny_func ?_};obtain⟨t,ht,hq⟩:=j A outer s H vs Q E (hr.deeper _) T;have I:z9 (qJ CX P w K mg base N eA scope f eH A outer s H E) [] (start N vs) H s1:=Pq S hr.hd p hl r x a2;refine Bd (ht [] s1 (start N vs) H _ I hq) (λfl s' C=>?_) λe s' C=>C;have xg:∀{g:St} {H':Hp} {v:V} {u:X4},z9 (qJ CX P w K mg base N eA scope f eH A outer s H E) [] g H' s'->zq v u->Q v H'->CE outer P w H s Q u s':=
  λ{g H' v u} J rv q=>{(v),H',J.os,J.bare,J.base,J.HT,rv,q,J.tk}
 cases fl with
 |ret u=>
  obtain⟨v,g,H',J,rv,q⟩:=C;exact xg J rv q
 |next=>
  obtain⟨g,H',J,q⟩:=C;exact xg (v:=V.KB) (u:=Value.none) J rfl q
 |brk=>
  obtain⟨_,_,_,q⟩:=C;exact False.elim q
 |cont=>
  obtain⟨_,_,_,q⟩:=C;exact False.elim q
section
variable {p:Pos}{t:TA}{id T:X9}{r:X_->Hp->VK->Prop}
def H0(r:X_->Hp->VK->Prop)(t:TA):TE:=λσ H Q=>t σ H λvs H1=>r vs H1 Q
def ue(hc:jx X (.builtin id) r)(l:Gl X x)(o:X.mg x=none)(C:bootBuiltins x=some (.builtin id))(T:PA X (e::es) t)(hn:x ≠ "__name__" := by decide)(U:Fc x:=by decide)
 (he:E9 e es X:=by rfl) (g:Fb pos es X:=by rfl):PE X (.Call (.Name x p) (e::es) [] pos) (H0 r t):=by
 intro J s j H Q I h;refine wpAny_Call_Name_kw<|dm I l o C ?_ hn U;exact PyProof.Rows.callWith_builtin1 (uw (T pos J s j H _ I h) λus s1 vs H1 I1 r1 q1=>hc J s1 j H1 vs us Q I1 r1 q1) he g
def kM(hc:jx X (.type T) r)(l:Gl X x)(o:X.mg x=none)(C:bootBuiltins x=some (.type T))(ha:PA X (e::es) t)(hn:x ≠ "__name__" := by decide)(U:Fc x:=by decide)
 (he:E9 e es X:=by rfl) (g:Fb pos es X:=by rfl):PE X (.Call (.Name x p) (e::es) [] pos) (H0 r t):=by
 intro J s j H Q I h;refine wpAny_Call_Name_kw<|dm I l o C ?_ hn U;exact Cg (uw (ha pos J s j H _ I h) λus s1 vs H1 I1 r1 q1=>hc J s1 j H1 vs us Q I1 r1 q1) he g
end
section
variable [DecidableEq κ]
def bw(kvs:List<|κ×V)(k:κ):Yb:=(kvs.find? λI=>decide<|I.1=k).map (·.2)
def fO(kvs:List<|κ×V)(k:κ)(v:V):List (κ×V):=
 if (kvs.any λI=>decide<|I.1=k)=true then kvs.map (λI=>if I.1=k then(I.1,v) else I) else kvs++[(k,v)]
def oj{p:κ×V}{r:List<|κ×V}{k:κ}(e:p.1=k):bw (p::r) k=some p.2:=by simp[bw,BP,e]
def oN{p:κ×V}{r:List<|κ×V}{k:κ}(e:¬p.1=k):bw (p::r) k=bw r k:=by simp[bw,BP,e]
theorem vP(k:κ):∀kvs:List (κ×V),(kvs.any λI=>decide<|I.1=k)=(bw kvs k).isSome
 |[]=>rfl
 |p::r=>by
  rw[Cy];by_cases e:p.1=k
  .simp only[oj e,AA e,Bool.true_or,Option.isSome_some]
  .rw[oN e,AB e,Bool.false_or];exact vP k r
def fG(kvs:List<|κ×V)(k:κ)(v:V):(fO kvs k v).length<=kvs.length+1:=by
 unfold fO;split
 .rw[Ah];lia
 .rw[Ab,Av,DE];lia
def dy.Re{o:Yb}{u:XY}(r:dy o u):o.isSome=u.isSome:=by
 cases o with
 |none=>cases u with|none=>rfl|some _=>exact(show False from r).elim
 |some _=>cases u with|none=>exact(show False from r).elim|some _=>rfl
def KV.val{kvs:List<|κ×V}{vs:List<|κ×X4}(r:KV kvs vs)(k:κ):dy (bw kvs k) (valueAt vs k):=by
 induction r with
 |nil=>exact True.intro
 |@cons p q l I h t g=>
  obtain⟨U,j⟩:=h;by_cases e:p.1=k
  .have J:=U.symm.trans e;have b:valueAt (q::I) k=some q.2:=by simp[valueAt,BP,J]
   rw[oj e,b];exact j
  .have J:¬q.1=k:=λz=>e<|U.trans z;have b:valueAt (q::I) k=valueAt I k:=by simp[valueAt,BP,J]
   rw[oN e,b];exact g
def KV.any{kvs:List<|κ×V}{vs:List<|κ×X4}(r:KV kvs vs)(k:κ):(kvs.any λI=>decide<|I.1=k)=vs.any λI=>decide (I.1=k):=by induction r with|nil=>rfl|cons h t J=>rw[Cy,Cy,J,h.1]
def KV._d{kvs:List<|κ×V}{vs:List<|κ×X4}(r:KV kvs vs)(k:κ){y:V}(U:zq y u):
 KV (kvs.map λI=>if I.1=k then(I.1,y) else I) (vs.map λI=>if I.1=k then(I.1,u) else I):=by
 induction r with
 |nil=>exact .nil
 |@cons p q l o h t g=>
  rw[AQ,AQ];refine .cons ?_ g;obtain⟨J,j⟩:=h;by_cases e:p.1=k
  .rw[Ay e,Ay<|J.symm.trans e];exact{(J),U}
  .rw[Au e,Au λz=>e<|J.trans z];exact{(J),j}
def KV.put{kvs:List<|κ×V}{vs:List<|κ×X4}(r:KV kvs vs)(k:κ){y:V}(I:zq y u):KV (fO kvs k y) (stored vs k u):=by
 unfold fO stored;rw[r.any k];by_cases e:(vs.any λJ=>decide<|J.1=k)=true
 .rw[Ay e,Ay e];exact r._d k I
 .rw[Au e,Au e];exact Paired.snoc r {(rfl),I}
theorem KV.length{kvs:List<|κ×V}{vs:List<|κ×X4}(r:KV kvs vs):kvs.length=vs.length:=Paired.length r
end
def l8{P:X6}{w:X7}{k:jb}(r:zq (kV k) u):(vh P w).is k u=true:=by
 cases k with
 |inl i=>obtain⟨t,e⟩:=(show ∃t,u=Value.int i t from r);subst e;exact wX P w i t
 |inr x=>obtain⟨t,e⟩:=(show ∃t,u=Value.str x t from r);subst e;exact uj P w x t
theorem qY{P:X6}{w:X7}:∀{ks:Yc} {us:XQ},zn (ks.map kV) us->ItemsAre (vh P w) ks us
 |[],_,r=>by rw[Dl] at r;cases r;exact .nil
 |k::ks,_,r=>by rw[AQ] at r;cases r with|cons h t=>exact .cons (l8 h)<|qY t
abbrev KT(H:Hp):List (Yc×V)->List (Yc×Addr×X4)->Prop:=Paired λp q=>p.1=q.1/\H q.2.1=some (.tup<|p.1.map kV)/\zq p.2 q.2.2
def KT.val{kvs:List<|Yc×V}{xs:List<|Yc×Addr×X4}(r:KT H kvs xs)(k:Yc):dy (bw kvs k) ((atKey xs k).map (·.2)):=by
 induction r with
 |nil=>exact True.intro
 |@cons p q l I h t g=>
  obtain⟨U,_,j⟩:=h;by_cases e:p.1=k
  .have J:=U.symm.trans e;have b:atKey (q::I) k=some q.2:=by simp[atKey,BP,J]
   rw[oj e,b];exact j
  .have J:¬q.1=k:=λz=>e<|U.trans z;have b:atKey (q::I) k=atKey I k:=by simp[atKey,BP,J]
   rw[oN e,b];exact g
def KT._d{kvs:List<|Yc×V}{xs:List<|Yc×Addr×X4}(r:KT H kvs xs)(k:Yc){y:V}(g:zq y u):
 KT H (kvs.map λJ=>if J.1=k then(J.1,y) else J) (xs.map<|putAt k u):=by
 induction r with
 |nil=>exact .nil
 |@cons p q o C h t j=>
  rw[AQ,AQ];refine .cons ?_ j;obtain⟨I,U,l⟩:=h;unfold putAt;by_cases e:p.1=k
  .rw[Ay e,Ay<|I.symm.trans e];exact{(I),U,g}
  .rw[Au e,Au λz=>e<|I.trans z];exact{(I),U,l}
def KT.put{kvs:List<|Yc×V}{xs:List<|Yc×Addr×X4}(r:KT H kvs xs)(k:Yc){b:Addr}{y:V}(J:H b=some (.tup<|k.map kV))(I:zq y u):
 KT H (fO kvs k y) (storedH xs k b u):=by
 have e:(kvs.any λU=>decide<|U.1=k)=(atKey xs k).isSome:=by rw[vP,(r.val k).Re,CV]
 unfold fO storedH;rw[e];by_cases q:(atKey xs k).isSome=true
 .rw[Ay q,Ay q];exact r._d k I
 .rw[Au q,Au q];exact Paired.snoc r {(rfl),J,I}
def KT.keeps{kvs:List<|Yc×V}{xs:List<|Yc×Addr×X4}(r:KT H kvs xs)(I:∀b ys,H b=some (.tup ys)->H' b=some (.tup ys)):KT H' kvs xs:=
 ER r λ_ _ z=>{z.1,I _ _ z.2.1,z.2.2}
section
variable {P:X6}{w:X7}{a:Addr}
def H9{u:HO}(ok:gY P w H h)(e:Rd H a u):vf P w H h a u:=e.ok ok
def rV{kvs:List<|jb×V}(ok:gY P w H h)(e:Rd H a<|.dK kvs):kvs.length<=sizeLine/\(a==sysModules)=false/\∃vs,KV kvs vs/\h.DictOf (vh P w) a vs:=
 show vf P w H h a (.dK kvs) from H9 ok e
def H_{kvs:List<|jb×V}(ok:gY P w H h)(e:H a=some (.dK kvs)):kvs.length<=sizeLine/\(a==sysModules)=false/\∃vs,KV kvs vs/\h.DictOf (vh P w) a vs:=rV ok<|.inl e
def oC{ks:Yc}(ok:gY P w H h)(e:H a=some (.tup<|ks.map kV)):(tupleKind<|vh P w).is h ks a:=by obtain⟨_,I,r,o,J,U,n,g⟩:=(show vf P w H h a (.tup<|ks.map kV) from ok a _ e);exact{o,I.toArray,n,J,U,g,by simpa using qY r}
def vG{kvs:List<|Yc×V}(ok:gY P w H h)(e:Rd H a<|.dT kvs):kvs.length<=sizeLine/\(a==sysModules)=false/\
 ∃xs,KT H kvs xs/\h.DictOfH (tupleKind<|vh P w) a xs:=by
 obtain⟨z,y,xs,r,o,U,g,j,C,T,h4,h5⟩:=(show vf P w H h a (.dT kvs) from H9 ok e);refine{z,y,xs,r,o,U,g,j,C,T,h4,λx I=>?_,h5};have all:∀{l:List<|Yc×V} {m:List<|Yc×Addr×X4},KT H l m->∀x∈m,(tupleKind<|vh P w).is h x.1 x.2.1:=by
  intro l m q
  induction q with
  |nil=>intro x I;exact nomatch I
  |@cons p q ps qs J t ih=>
   intro x I;rcases Ao.mp I with e|I
   .subst e;exact oC ok (by rw[<-J.1];exact J.2.1)
   .exact ih x I
 exact all r x I
def Pr{kvs:List<|Yc×V}(ok:gY P w H h)(e:H a=some (.dT kvs)):kvs.length<=sizeLine/\(a==sysModules)=false/\
 ∃xs,KT H kvs xs/\h.DictOfH (tupleKind<|vh P w) a xs:=vG ok<|.inl e
end
def tD(H:Hp)(a:Addr)(y:V)(r:Yb):Prop:=
 (∃kvs k,Rd H a (.dK kvs)/\y=kV k/\r=bw kvs k)\/∃kvs k b,Rd H a (.dT kvs)/\y=.ref b/\H b=some (.tup<|k.map kV)/\r=bw kvs k
def Ia(H:Hp)(a:Addr)(y v:V)(H':Hp):Prop:=
 (∃kvs k,H a=some (.dK kvs)/\y=kV k/\kvs.length<sizeLine/\H'=upd H a (.dK<|fO kvs k v))\/
 ∃kvs k b,H a=some (.dT kvs)/\y=.ref b/\H b=some (.tup<|k.map kV)/\kvs.length<sizeLine/\H'=upd H a (.dT<|fO kvs k v)
theorem tD.k{a:Addr}{kvs:List<|jb×V}{k:jb}(e:H a=some (.dK kvs)):tD H a (kV k) (bw kvs k):=.inl {kvs,k,.inl e,rfl,rfl}
section
variable {a:Addr}{y:V}{r:X4}{o:Yb}
def z9.big(I:z9 X pins σ H s):sysModules<s.heap.objs.size:=by have h:=(I.mod.glob.keeps I.bk).lt;exact Nat.lt_trans (by decide) h
def Ps(hu:A.units+1<cLine)(I:z9 X pins σ H s)(g:tD H a y<|some v)(T:zq y u)(h:∀U s',z9 X pins σ H s'->zq v U->Q U s'):
 wpAny (model X.prog X.w) A (getItem (.ref a) u) Q E s:=by
 rcases g with⟨j,k,e,r,l⟩|⟨j,k,b,e,r,eb,l⟩
 .subst r;obtain⟨z,hd,vs,rel,t⟩:=rV I.HT e;obtain⟨U,hw,J⟩:=EV (v:=v) (o:=valueAt vs k) (by rw[l];exact rel.val k);exact wpAny_getItem_of (l8 T) t.mapOf hw<|h U _ (I.tok _) J
 .subst r;cases (show u=Value.ref b from T);obtain⟨z,hd,xs,rel,t⟩:=vG I.HT e;obtain⟨U,hw,J⟩:=EV (v:=v) (o:=(atKey xs k).map (·.2)) (by rw[l];exact rel.val k);obtain⟨p,hp,C⟩:=AE.mp hw;refine wpAny_getItem_heap (tupleKind_room_in1 hu) (oC I.HT eb) t hp ?_;rw[C];exact h U _ (I.tok _) J
def Pu(r:A.units+1<cLine)(I:z9 X pins σ H s)(g:tD H a y o)(p:zq y u)(h:∀s',z9 X pins σ H s'->Q (.bool o.isSome) s'):
 wpAny (model X.prog X.w) A (compareOp .In u<|.ref a) Q E s:=by
 rcases g with⟨J,k,e,U,l⟩|⟨J,k,b,e,U,eb,l⟩
 .subst U;obtain⟨z,hd,t,rel,j⟩:=rV I.HT e;refine wpAny_in_of (l8 p) hd j.mapOf ?_;rw[<-(rel.val k).Re,<-l];exact h _<|I.tok _
 .subst U;cases (show u=Value.ref b from p);obtain⟨z,hd,C,rel,j⟩:=vG I.HT e;refine wpAny_in_heap (tupleKind_room_in1 r) (oC I.HT eb) hd j ?_;have q:=(rel.val k).Re;rw[CV] at q;rw[<-q,<-l];exact h _<|I.tok _
def Pw(r:A.units+1<cLine)(I:z9 X pins σ H s)(g:tD H a y o)(p:zq y u)(h:∀s',z9 X pins σ H s'->Q (.bool<|!o.isSome) s'):
 wpAny (model X.prog X.w) A (compareOp .NotIn u<|.ref a) Q E s:=by
 rcases g with⟨J,k,e,U,l⟩|⟨J,k,b,e,U,eb,l⟩
 .subst U;obtain⟨z,hd,t,rel,j⟩:=rV I.HT e;refine wpAny_notIn_of (l8 p) hd j.mapOf ?_;rw[<-(rel.val k).Re,<-l];exact h _<|I.tok _
 .subst U;cases (show u=Value.ref b from p);obtain⟨z,hd,C,rel,j⟩:=vG I.HT e;refine wpAny_notIn_heap (tupleKind_room_in1 r) (oC I.HT eb) hd j ?_;have q:=(rel.val k).Re;rw[CV] at q;rw[<-q,<-l];exact h _<|I.tok _
def uJ{ob:HO}(I:z9 X pins σ H s)(J:EW<|H a)(hs:Heap.SameBut a s.heap h')(U:∃q,h'.get? a=some q)(new:vf X.prog X.w (upd H a ob) h' a ob)(j:0<t':=by walk_at "t"):
 z9 X pins σ (upd H a ob) {s with heap:=h',toks:=t'}:=
 I.write (x:=a) (e:=a) J (.inl rfl) (λb q g z=>(hs.2 b g).trans z) U new
def Ib{P:X6}{w:X7}{kvs:List<|jb×V}{vs:List<|jb×X4}(z:kvs.length<=sizeLine)(hd:(a==sysModules)=false)(rel:KV kvs vs)(I:h'.DictOf (vh P w) a vs):
 vf P w H' h' a (.dK kvs):={(z),hd,vs,rel,I}
def Px{Q:XJ}(hu:A.units+1<cLine)(I:z9 X pins σ H s)(g:Ia H a y v H')(ry:zq y u)(rv:zq v r)(h:∀s',z9 X pins σ H' s'->Q () s'):
 wpAny (model X.prog X.w) A (setItem (.ref a) u r) Q E s:=by
 rcases g with⟨J,k,e,o,l,p⟩|⟨J,k,b,e,o,eb,l,p⟩
 .subst o p;obtain⟨z,hd,vs,rel,t⟩:=H_ I.HT e;have C:vs.length<=sizeLine:=by rw[<-rel.length];exact z
  have T:(fO J k v).length<=sizeLine:=by have:=fG J k v;lia
  refine wpAny_setItem_pairs (hsz:=C) (l8 ry) t λh' U hs=>h _ ?_;have he:∃q,h'.get? a=some q:=let ⟨q,_,_,j,_⟩:=U;⟨q,j⟩;exact uJ I (by rw[e];exact True.intro) hs he<|Ib T hd (rel.put k rv) U
 .subst o p;cases (show u=Value.ref b from ry);obtain⟨z,hd,xs,rel,t⟩:=Pr I.HT e;have C:xs.length<=sizeLine:=by rw[<-Paired.length rel];exact z
  have T:(fO J k v).length<=sizeLine:=by have:=fG J k v;lia
  refine wpAny_setItem_heap (hsz:=C) (tupleKind_room_in1 hu) (oC I.HT eb) t λh' U hs=>h _ ?_;obtain⟨q,es,ep,j,h2,h3,h4,_,h5⟩:=U;refine uJ I (by rw[e];exact True.intro) hs {(q),j} {T,hd,_,(rel.put k eb rv).keeps λc ys ec=>?_,q,es,ep,j,h2,h3,h4,h5};rw[qm<|Nz ec e λz=>nomatch z];exact ec
end
section
variable {a:Addr}{kvs:List<|jb×V}{k:jb}
end
def GA(i:Expr):Prop:=∀I J,subscripted i false I J=operate [I,J] (getItem I J)
def Py{w:X7}{slice:Expr}{T id:X9}
 (t:typeLookup (.type T) "__getitem__" = pure (some<|.builtin id)) (hs:GA slice)
 (h:wpAny (model prog w) A (eval value env) (λo U=>wpAny (model prog w) A (eval slice env) (λi I=>I.TypeIs o T/\wpAny (model prog w) A (getItem o i) Q E I) E U) E s):
 wpAny (model prog w) A (eval (.Subscript value slice pos) env) Q E s:=by
 refine Subscript_<|Bd h (λo U j=>Bd j (λi I J=>?_) λ_ _ x=>x) λ_ _ x=>x;obtain⟨p,J⟩:=J;refine Aa ?_;rw[getitemInPython_of_ne p.not_modules];refine Aa<|wpAny_specialOf p t ?_;have xg:wpAny (model prog w) A (subscripted slice false o i) (λr g=>wpAny (model prog w) A (letTemporaryGo value o r >>= λ_=>pure r) Q E g) E I:=by rw[hs o i];exact wpAny_operating<|Bd J (λr g l=>Aa<|wpAny_letTemporaryGo<|Al l) λ_ _ x=>x
 first
  |exact Al<|Aa xg
  |exact Aa<|Al<|Aa xg
  |exact Aa xg
def uT{a:Addr}{y:V}{o:Yb}(I:z9 X pins σ H s)(g:tD H a y o):s.TypeIs (.ref a) "dict" := by
 rcases g with⟨J,k,e,_,_⟩|⟨J,k,b,e,_,_,_⟩
 .obtain⟨_,_,j,_,U⟩:=rV I.HT e;exact U.typeIs
 .obtain⟨_,_,l,_,U⟩:=vG I.HT e;exact U.typeIs
def ast(td ty:TE):TE:=λσ H Q=>td σ H λx H1=>ty σ H1 λy H2=>∃a v,x=.ref a/\tD H2 a y (some v)/\Q v H2
def Pz(td ty tv:TE):TS:=λD σ H=>tv σ H λv H1=>td σ H1 λx H2=>ty σ H2 λy J=>∃a I,x=.ref a/\Ia J a y v I/\D.nx σ I
section
variable {i:Expr}{tpos:Pos}{td ty tv:TE}
def PB(p:X.A.units+1<cLine)(r:PE X o td)(hi:PE X i ty)(hs:GA i):PE X (.Subscript o i pos) (ast td ty):=by intro J s j H Q I h;refine Py DU.lookup hs<|bA (r J s j H _ I h) λu t x C T rx q1=>aN (hi J t j C _ T q1) λiv s2 ψ=>?_;obtain⟨y,H2,l,ry,a,v,ex,g,q2⟩:=ψ;subst ex;obtain rfl:u=Value.ref a:=rx;exact{uT l g,Ps p l g ry λw' s3 I3 U=>{(v),H2,I3,U,q2}}
def PD(j:X.A.units+1<cLine)(l:PE X o td)(hi:PE X i ty)(p:PE X value tv)(hs:swapsWith value (some<|.Subscript o i fx) pos.line X.env=pure false):
 PS X (.Assign [.Subscript o i fx] value pos) (Pz td ty tv):=by
 intro J s U H D I h;refine wpAny_Assign_Subscript (bA (p J s U H _ I h) λr t v C T rv q1=>bA (l J t U C _ T q1) λu s2 x H2 I2 rx q2=>aN (hi J s2 U H2 _ I2 q2) λiv s3 ψ=>?_) hs;obtain⟨y,H3,I3,ry,a,H4,ex,g,q3⟩:=ψ;subst ex;obtain rfl:u=Value.ref a:=rx;exact Px j I3 g ry rv λs4 I4=>{(U),H4,I4,q3}
end
def vH{P:X6}{w:X7}(h:X8)(I:sysModules<h.objs.size):vf P w H (h.push {cls:=.type "dict",data:=.dict #[]}) h.objs.size (.dK []):=
 ⟨Bf _,beq_eq_false_iff_ne.mpr<|AJ<|AY I,[],.nil,Heap.DictOf.new h⟩
def PH:TE:=λ_ H Q=>∀p,H p=none->Q (.ref p) (upd H p<|.dK [])
def PJ:PE X (.Dict [] [] pos) PH:=λJ s U H Q I h=>
 wpAny_Dict_empty ⟨.ref s.heap.objs.size,_,I.laid (a:=s.heap.objs.size) (o:=.dK []) (t':=s.toks) (λ_ _ q=>oi _ q) (Ap _)<|vH s.heap I.big,rfl,h _<|I.HT.fresh<|Ap _⟩
def uK:List (TE×TE)->St->Hp->(List (V×V)->Hp->Prop)->Prop
 |[],_,H,Q=>Q [] H
 |(tk,tv)::r,σ,H,Q=>tk σ H λx H1=>tv σ H1 λy H2=>uK r σ H2 λps I=>Q ((x,y)::ps) I
abbrev VV:List (V×V)->List (X4×X4)->Prop:=Paired λp q=>zq p.1 q.1/\zq p.2 q.2
def Fh(X:Cx)(pos:Pos)(keys:List<|Option Expr)(values:XU)(I:List<|TE×TE):Prop:=
 ∀(pins:List<|Addr×Obj) (s:X5) (σ:St) (H:Hp) (Q:List (V×V)->Hp->Prop),z9 X pins σ H s->uK I σ H Q->
  _S X (evalPairs<|pairTrees keys values X.env pos) (λvs s'=>∃ps H',z9 X pins σ H' s'/\VV ps vs/\Q ps H') X.xe s
def PK :Fh X pos [] [] []:=λJ s U H Q I h=>pairTrees_nil_walk {[],H,I,.nil,h}
def iG{k v:Expr}{ks:List<|Option Expr}{vs:XU}{tk tv:TE}{U:List<|TE×TE}(j:PE X k tk)(l:PE X v tv)(o:Fh X pos ks vs U):
 Fh X pos (some k::ks) (v::vs) ((tk,tv)::U):=λJ s g H Q I h=>
 pairTrees_cons_walk (bA (j J s g H _ I h) λu p x r t C T=>bA (l J p g r _ t T) λw2 s2 y H2 I2 ry q2=>
  aN (o J s2 g H2 _ I2 q2) λws s3 ⟨ps,H3,I3,rel,q3⟩=>{(x,y)::ps,H3,I3,.cons {(C),ry} rel,q3})
def jW(kvs more:List<|jb×V):List (jb×V):=more.foldl (λI J=>fO I J.1 J.2) kvs
def KV.merge:∀{more:List<|jb×V} {I:List<|jb×X4} {kvs:List<|jb×V} {vs:List<|jb×X4},KV more I->KV kvs vs->KV (jW kvs more) (merged vs I):=by
 intro more I kvs vs r
 induction r generalizing kvs vs with
 |nil=>intro q;exact q
 |@cons p q g j h t J=>
  intro U;have e:KV (fO kvs p.1 p.2) (stored vs q.1 q.2):=by have:=U.put p.1 h.2;rw[<-h.1];exact this
  exact J e
theorem gM:∀(more kvs:List<|jb×V),(jW kvs more).length<=kvs.length+more.length
 |[],kvs=>by show kvs.length<=kvs.length+0;lia
 |p::r,kvs=>by have I:=gM r<|fO kvs p.1 p.2;have J:=fG kvs p.1 p.2;show(jW (fO kvs p.1 p.2) r).length<=_;rw[Av];lia
theorem pS{P:X6}{w:X7}:∀{kvs:List<|jb×V} {J:List<|X4×X4},VV (kvs.map λU=>(kV U.1,U.2)) J->∃I,Carries (vh P w) J I/\KV kvs I
 |[],_,r=>by rw[Dl] at r;cases r;exact{[],True.intro,.nil}
 |p::kvs,_,r=>by
  rw[AQ] at r;cases r with
  |@cons a b as bs h t=>
   obtain⟨I,c,q⟩:=pS (P:=P) (w:=w) t;obtain⟨b1,b2⟩:=b;exact{(p.1,b2)::I,{l8 h.1,rfl,c},.cons {(rfl),h.2} q}
def PL(I:List<|TE×TE):TE:=λσ H Q=>∀p,H p=none->uK I σ (upd H p<|.dK []) λps H2=>H2 p=some (.dK [])/\∃kvs:List (jb×V),ps=kvs.map (λJ=>(kV J.1,J.2))/\kvs.length<=15/\Q (.ref p) (upd H2 p<|.dK<|jW [] kvs)
def PM{keys:List<|Option Expr}{values:XU}{J:List<|TE×TE}(h:Fh X pos keys values J)(U:keys.all (·.isSome)=true)(t:keys.length=values.length)(C:keys≠[])
 (p:keys.length<=15):PE X (.Dict keys values pos) (PL J):=by
 intro g s T H Q I q;have hn:=I.HT.fresh<|Ap s.heap.objs.size;have I1:=I.laid (a:=s.heap.objs.size) (o:=.dK []) (h':=s.heap.push {cls:=.type "dict",data:=.dict #[]}) (t':=s.toks) (λ_ _ q=>oi _ q) (Ap _)<|vH s.heap I.big;refine wpAny_Dict_walk (knd:=vh X.prog X.w) U t C p<|aN (h g _ T _ _ I1<|q _ hn) λws s2 ψ=>?_;obtain⟨ps,H2,r,rel,e,j,ep,lk,q2⟩:=ψ;subst ep;obtain⟨rs,c,rk⟩:=pS (P:=X.prog) (w:=X.w) rel;obtain⟨z,hd,a0,r0,dd⟩:=H_ r.HT e;cases r0;refine{rs,c,dd,λh' l hs=>{.ref s.heap.objs.size,_,?_,rfl,q2}};have hz:(jW [] j).length<=sizeLine:=by have h1:=gM j [];rw[DE] at h1;rw[sizeLine_eq];lia
 have he:∃q,h'.get? s.heap.objs.size=some q:=let ⟨q,_,_,hq,_⟩:=l;⟨q,hq⟩;exact uJ r (by rw[e];exact True.intro) hs he<|Ib hz hd (rk.merge .nil) l
section
variable {a:Addr}{y d:V}{r:X4}{o:Yb}
end
section
variable {f:Expr}{td ty tx:TE}
end
section
variable {a:Addr}{kvs:List<|jb×V}
end
section
variable {a:Addr}{y:V}
end
section
section
open PySem.SeqAt
open PySem.AutoSeq1 (wpAny_loadPart')
section
open PySem.MeetsSeq PySem.MeetsSeq2 PySem.MeetsSeq3
end
section
variable {w:X7}
def KF(n d:Nat):XZ->Nat
 |none=>d
 |some v=>if v<0 then(v+(n:Int)).toNat else min v.toNat n
def YG(n d:Nat):KF n d none=d:=rfl
def Yr(n d k:Nat):KF n d (some (k:Int))=min k n:=by show(if (k:Int)<0 then((k:Int)+(n:Int)).toNat else min (k:Int).toNat n)=min k n;rw[Au (by lia),BB]
def ZD(n d:Nat)(hd:d<=n)(o:XZ):KF n d o<=n:=by
 cases o with
 |none=>exact hd
 |some v=>
  show(if v<0 then(v+(n:Int)).toNat else min v.toNat n)<=n;by_cases I:v<0
  .rw[Ay I];lia
  .rw[Au I];exact Nat.min_le_right _ _
def Ic(v:Int)(n d:Nat):(if v<0 then max (v+(n:Int)) 0 else min v (n:Int))=((KF n d (some v):Nat):Int):=by
 show(if v<0 then max (v+(n:Int)) 0 else min v (n:Int))=(((if v<0 then(v+(n:Int)).toNat else min v.toNat n):Nat):Int);by_cases I:v<0
 .simp only[Ay I];lia
 .simp only[Au I];lia
def zJ(lo hi:XZ)(n:Nat):Builtin.Slice.sliceAdjust lo hi 1 (n:Int)=(((KF n 0 lo:Nat):Int),(KF n n hi:Int)):=by
 have I:¬((1:Int)<0):=by lia
 unfold Builtin.Slice.sliceAdjust;simp only[I,if_false];refine EC ?_ ?_
 .cases lo with|none=>rfl|some v=>exact Ic v n 0
 .cases hi with|none=>rfl|some v=>exact Ic v n n
def yL(i j:Nat):Builtin.Slice.slicePlaces (i:Int) (j:Int) 1=j-i:=by
 unfold Builtin.Slice.slicePlaces;have I:(1:Int) > 0:=by lia
 simp only[I,if_true,Int.ediv_one];split<;>lia
def pQ{v:X4}{o:XZ}{Q:XZ->X5->Prop}(p:IsPart v o)(h:Q o s):wpAny (model prog w) A (Builtin.Slice.slicePartIndex v) Q E s:=by cases p with|none=>exact slicePart_none h|int i t=>exact slicePart_int h
def kF{j:Addr}{U g:X4}{lo hi:XZ}{Q:Int×Int×Nat->X5->Prop}(hs:s.heap.IsSliceOf j U g .none)(pl:IsPart U lo)(l:IsPart g hi)
 (h:Q (((KF n 0 lo:Nat):Int),1,KF n n hi-KF n 0 lo) s):wpAny (model prog w) A (Builtin.Slice.sliceApplied (.ref j)<|pure (n:Int)) Q E s:=by
 obtain⟨os,I,o,J⟩:=id hs;refine Aa<|Aa<|A8 I J (x:=U) rfl<|Aa<|A8 I J (x:=g) rfl<|Aa<|A8 I J (x:=.none) rfl<|Al ?_;refine Aa<|slicePart_none ?_;rw[Au (by decide)];refine Aa<|pQ pl<|Aa<|pQ l<|Aa<|Al ?_;show wpAny _ _ (match Builtin.Slice.sliceAdjust lo hi 1 (n:Int) with|(lo,hi)=>pure (lo,(1:Int),Builtin.Slice.slicePlaces lo hi 1)) _ _ s;rw[zJ lo hi n];show wpAny _ _ (pure (((KF n 0 lo:Nat):Int),(1:Int),Builtin.Slice.slicePlaces ((KF n 0 lo:Nat):Int) (KF n n hi:Int) 1)) _ _ s;rw[yL];exact Al h
def PN(xs:XR)(i k:Nat):((List.range k).filterMap λ(m:Nat)=>xs[((i:Int)+(m:Int)*1).toNat]?).toArray=((xs.toList.drop i).take k).toArray:=by
 have e:(λ(m:Nat)=>xs[((i:Int)+(m:Int)*1).toNat]?)=λm=>xs[i+m]?:=by
  funext m;have:((i:Int)+(m:Int)*1).toNat=i+m:=by lia
  rw[this]
 rw[e];have:=pick_run xs i k;rw[List.filterMap_map] at this;have I:((λx=>xs[x]?)∘λx=>i+x)=λm=>xs[i+m]?:=rfl;rw[I] at this;rw[this]
def Yq{t U:Addr}{items:XR}{p r:X4}{lo hi:XZ}(J:IsTup s.heap t items)(hs:s.heap.IsSliceOf U p r .none)(pl:IsPart p lo)(C:IsPart r hi)
 (hw:¬(KF items.size 0 lo=0/\KF items.size items.size hi=items.size))
 (h:Q (.ref s.heap.objs.size) {s with heap:=s.heap.push {cls:=.type "tuple",data:=.seq ((items.toList.drop<|KF items.size 0 lo).take<|KF items.size items.size hi-KF items.size 0 lo).toArray}})
 (hsz:items.size<=sizeLine):wpAny (model prog w) A (getItem (.ref t)<|.ref U) Q E s:=by
 have I:sizeOk (.seq ((items.toList.drop<|KF items.size 0 lo).take<|KF items.size items.size hi-KF items.size 0 lo).toArray):=by show((items.toList.drop<|KF items.size 0 lo).take<|KF items.size items.size hi-KF items.size 0 lo).toArray.size<=sizeLine;rw[Az,A7,BQ,Be];lia
 obtain⟨os,g,j,T⟩:=id hs;have l:s.TypeIs (.ref U) "slice" := {(os),g,j};unfold getItem
 try with_reducible refine A9 ?_
 first|refine Aa (Al ?_)|skip
 refine Aa<|wpAny_sequenceKey J.typeIs (by decide) ?_;refine Aa (wpAny_callSpecial?_slot (name:=Str.ofString "__getitem__") J.typeIs Cz
  (wpAny_call_entry Cz J.typeIs entry_tuple_getitem ?_<|args_tuple_getitem _ _))
 show wpAny _ _ (Builtin.Tuple.tupleItemsOf (.ref t) >>= _) _ _ s;refine Aa<|tupleItemsOf_ J ?_;refine Aa<|wpAny_typeOf l ?_;rw[Ay (by decide)];refine Aa<|kF hs pl C ?_;have o:¬((((KF items.size 0 lo:Nat):Int)==0&&(1:Int)==1&&(KF items.size items.size hi-KF items.size 0 lo)==items.size)=true):=by intro q;rw[AX,AX] at q;exact hw {by lia,by lia}
 show wpAny _ _ (if (((KF items.size 0 lo:Nat):Int)==0&&(1:Int)==1&&(KF items.size items.size hi-KF items.size 0 lo)==items.size)=true then _ else _) _ _ s;rw[Au o,PN]
 first
  |exact Aa (m:=Builtin.Tuple.tupleExact _)<|BG (Al {_,rfl,Al h}) I
  |exact Aa (m:=Builtin.Tuple.tupleExact _)<|BG (Aa<|Al<|Al {_,rfl,Al h}) I
  |exact Aa<|Aa (m:=Builtin.Tuple.tupleExact _)<|BG (Al<|Al {_,rfl,Al h}) I
  |exact Aa<|Aa (m:=Builtin.Tuple.tupleExact _)<|BG (Al {_,rfl,Al h}) I
end
end
end
abbrev TO:=St->Hp->(XZ->Hp->Prop)->Prop
def PO(X:Cx)(e:Option Expr)(t:TO):Prop:=
 ∀(pins:List<|Addr×Obj) (s:X5) (σ:St) (H:Hp) (Q:XZ->Hp->Prop),z9 X pins σ H s->t σ H Q->
  _S X (evalPart e X.env) (λu s'=>∃o H',z9 X pins σ H' s'/\IsPart u o/\Q o H') X.xe s
def PP:TO:=λ_ H Q=>Q none H
def aug(t:TE):TO:=λσ H Q=>t σ H λx H1=>∃i,x=.int i/\Q (some i) H1
section
variable {te:TE}{lo hi:Option Expr}{tl th:TO}
def PQ:PO X none PP:=by intro J s U H Q I h;rw[evalPart_none];exact Al {none,H,I,.none,h}
def PR(h:PE X e te):PO X (some e) (aug te):=by intro J s U H Q I hw;rw[evalPart_some];refine bA (h J s U H _ I hw) λu p x g j l o=>?_;obtain⟨i,rfl,q⟩:=o;obtain⟨t,rfl⟩:=l;exact{some i,g,j,.int i t,q}
def uR(X:Cx)(r:V->XZ->XZ->Hp->VK->Prop):Prop:=
 ∀(pins:List<|Addr×Obj) (s:X5) (σ:St) (H:Hp) (x:V) (v I J:X4) (lo hi:XZ) (U:Addr) (Q:VK),z9 X pins σ H s->zq x v->s.heap.IsSliceOf U I J .none->IsPart I lo->IsPart J hi->r x lo hi H Q->
  ∃T id,typeLookup (.type T) "__getitem__" = pure (some<|.builtin id)/\s.TypeIs v T/\_S X (getItem v<|.ref U) (EP X pins σ Q) X.xe s
def uR.or{U:V->XZ->XZ->Hp->VK->Prop}(h:uR X r)(h':uR X U):uR X (λx lo hi H Q=>r x lo hi H Q\/U x lo hi H Q):=by
 intro J s g H x v j l lo hi o Q I p t pl C q;rcases q with q|q
 .exact h J s g H x v j l lo hi o Q I p t pl C q
 .exact h' J s g H x v j l lo hi o Q I p t pl C q
def PU(r:V->XZ->XZ->Hp->VK->Prop)(te:TE)(tl th:TO):TE:=λσ H Q=>te σ H λx H1=>tl σ H1 λl H2=>th σ H2 λu I=>r x l u I Q
def PV(t:uR X r)(C:PE X e te)(hl:PO X lo tl)(hu:PO X hi th):PE X (.Subscript e (.Slice lo hi none p2) pos) (PU r te tl th):=by intro J s g H Q I h;refine Subscript_<|aN (C J s g H _ I h) λv s1 ψ=>?_;obtain⟨x,H1,I1,r1,q1⟩:=ψ;refine wpAny_Slice<|aN (hl J s1 g H1 _ I1 q1) λj s2 ⟨l,H2,I2,pl,q2⟩=>aN (hu J s2 g H2 _ I2 q2) λo U ψ=>?_;obtain⟨u,p,I3,pu,q3⟩:=ψ;rw[evalPart_none];refine Al ?_;have I4:z9 X J g p {U with heap:=U.heap.push {cls:=.type "slice",data:=.fields #[j,o,.none]}}:=I3.kept (t':=U.toks) λb ob q=>oi _ q;obtain⟨T,id,hT,ht,hg⟩:=t J {U with heap:=U.heap.push {cls:=.type "slice",data:=.fields #[j,o,.none]}} g p x v j o l u U.heap.objs.size Q I4 r1 (Heap.IsSliceOf.new ..) pl pu q3;exact tail_any (ops:=[.ref U.heap.objs.size,v]) ht hT hg (by with_unfolding_all rfl)
def vO(xs:X_)(lo hi:XZ):X_:=(xs.drop<|KF xs.length 0 lo).take<|KF xs.length xs.length hi-KF xs.length 0 lo
def lI(xs:X_)(lo hi:XZ):(vO xs lo hi).length<=xs.length:=by unfold vO;rw[A7,BQ];lia
def PX(K:Ak):V->XZ->XZ->Hp->VK->Prop:=λx lo hi H Q=>∃a xs,x=.ref a/\eE K H a xs/\
 ¬(KF xs.length 0 lo=0/\KF xs.length xs.length hi=xs.length)/\∀p,H p=none->Q (.ref p) (upd H p<|.tup<|vO xs lo hi)
def PY:uR X (PX X.K):=by
 rintro l s σ H x v vl vu lo g sl Q I C T pl pu⟨a,U,rfl,hx,hw,q⟩;cases C;obtain⟨j,r,p,t⟩:=I.tuple hx;have J:j.toArray.size=U.length:=by rw[Az];exact r.length.symm
 refine{"tuple",_,Cz.lookup,p.typeIs,?_};refine Yq p T pl pu (by rw[J];exact hw) ?_ (by rw[J];exact t);rw[J];refine{.ref s.heap.objs.size,_,I.laid (t':=s.toks) (o:=.tup<|vO U lo g) (λb ob q=>oi _ q) (Ap _) ?_,rfl,q _<|I.HT.fresh<|Ap _};exact{AS (lI U lo g) t,_,(r.drop<|KF U.length 0 lo).take<|KF U.length U.length g-KF U.length 0 lo,IsTup.new _ _}
end
def d_(n:Nat)(i:Int):Option Nat:=if 0<=i then(if i<n then some i.toNat else none) else if -(n:Int)<=i then some (i+n).toNat else none
def dZ(xs:List α)(i:Int):Option α:=(d_ xs.length i).bind λj=>xs[j]?
def Ie{i:Int}(h:d_ n i=some j):seqIndex? i n=some j/\j<n /\ -(n:Int)<=i/\i<n:=by
 unfold d_ at h;by_cases J:0<=i
 .rw[Ay J] at h;by_cases I:i<n
  .rw[Ay I] at h;have e:=AR h;exact{by rw[seqIndex_of J I,e],by lia,by lia,I}
  .rw[Au I] at h;cases h
 .rw[Au J] at h;by_cases I : -(n:Int)<=i
  .rw[Ay I] at h;have e:=AR h;exact{by rw[seqIndex_neg (by lia) I,e],by lia,I,by lia}
  .rw[Au I] at h;cases h
def uN{xs:List α}{i:Int}{v:α}(h:dZ xs i=some v):∃j,seqIndex? i xs.length=some j/\xs[j]?=some v/\j<xs.length /\ -(xs.length:Int)<=i/\i<xs.length:=by
 unfold dZ at h;cases e:d_ xs.length i with
 |none=>rw[e] at h;cases h
 |some j=>
  rw[e] at h;obtain⟨I,J,U,g⟩:=Ie e;exact{(j),I,h,J,U,g}
def jo{xs:List α}{v:α}(h:xs[j]?=some v):dZ xs (j:Int)=some v:=by
 have I:=(AN.mp h).1;have e:d_ xs.length (j:Int)=some j:=by unfold d_;rw[Ay (by lia),Ay (by lia)];simp
 unfold dZ;rw[e];exact h
def sK(b:Expr):Prop:=∀o i,subscripted b false o i=operate [o,i] (getItem o i)
def ZC(X:Cx)(r:R2):Prop:=
 ∀(value slice:Expr) (pins:List<|Addr×Obj) (s:X5) (σ:St) (H:Hp) (x y:V) (v u:X4) (Q:VK),z9 X pins σ H s->zq x v->zq y u->r x y H Q->
  subscripted slice false v u=operate [v,u] (getItem v u)->_S X (subscriptTail value slice v u) (EP X pins σ Q) X.xe s
def Ig(X:Cx)(id:X9)(r:V->X_->Hp->VK->Prop):Prop:=
 ∀(pins:List<|Addr×Obj) (s:X5) (σ:St) (H:Hp) (x:V) (xs:X_) (v:X4) (us:XQ) (Q:VK),z9 X pins σ H s->zq x v->zn xs us->r x xs H Q->
  _S X (call (.builtin id)<|v::us) (EP X pins σ Q) X.xe s
section
variable {a b:Expr}{ta tb:TE}
def PZ{r:R2}(U:ZC X r)(g:PE X a ta)(j:PE X b tb)(hs:sK b):PE X (.Subscript a b pos) (Fa r ta tb):=by intro J s l H Q I h;exact Subscript_<|Gs g j I h λv u o x y p t C T q=>U a b J o l p x y v u Q t C T q<|hs _ _
def P0(K:Ak):R2:=λx y H Q=>∃p xs i v,x=.ref p/\y=.int i/\bE K H p xs/\dZ xs i=some v/\Q v H
def P1(K:Ak):R2:=λx y H Q=>∃p xs i v,x=.ref p/\y=.int i/\eE K H p xs/\dZ xs i=some v/\Q v H
def P2:R2:=λx y H Q=>∃z i c,x=.str z/\y=.int i/\z.length<=sizeLine/\dZ z.cps.toList i=some c/\Q (.str ⟨#[c]⟩) H
def P4:ZC X (P0 X.K):=by
 intro value slice J s C H x y v u Q I rx ry h T;obtain⟨p,xs,i,z,rfl,rfl,hq,he,q⟩:=h;cases rx;obtain⟨t,rfl⟩:=ry;obtain⟨g,r,pl,hz⟩:=I.list hq;obtain⟨j,U,h2,h3,h4,h5⟩:=uN he;obtain⟨w,ew,l⟩:=r.get h2;have hl:=r.length;have hn:=jF;have xg:EP X J C Q w s:={(z),H,I,l,q};by_cases h0:0<=i
 .have o:i.toNat=j:=by rw[seqIndex_of h0 h5] at U;exact AR U
  exact item_listR pl.isList h0 (by lia) (by rw[o];simpa using ew) xg T
 .have o:(i+(g.toArray.size:Int)).toNat=j:=by rw[seqIndex_neg (by lia) h4] at U;rw[Az,<-hl];exact AR U
  exact subscriptTail_builtinR (x:=w) pl.isList.typeIs slot_list_getitem.lookup
   (wpAny_getItem_list_neg (Q:=λr s'=>r=w/\EP X J C Q r s') pl.isList (by lia) (by rw[Az]<;>lia) (by lia) (by rw[o];simpa using ew) ⟨rfl,xg⟩) T
def P5:ZC X (P1 X.K):=by
 intro value slice J s g H x y v u Q I l o h C;obtain⟨p,xs,i,z,rfl,rfl,T,he,q⟩:=h;cases l;obtain⟨t,rfl⟩:=o;obtain⟨a0,r,pl,hz⟩:=I.tuple T;obtain⟨j,h1,h2,h3,h4,h5⟩:=uN he;obtain⟨w,ew,U⟩:=r.get h2;have hl:=r.length;have hn:=jF;have xg:EP X J g Q w s:={(z),H,I,U,q};exact subscriptTail_builtinR (x:=w) pl.typeIs slot_tuple_getitem.lookup
  (getItem_tuple (j:=j) (Q:=λr s'=>r=w/\EP X J g Q r s') pl (by lia) (by lia) (by rw[Az,<-hl];exact h1) (by simpa using ew) ⟨rfl,xg⟩) C
def P6:ZC X P2:=by
 intro value slice J s σ H x y v u Q I g l h o;obtain⟨z,i,c,rfl,rfl,hz,p,q⟩:=h;obtain⟨t,rfl⟩:=g;obtain⟨t',rfl⟩:=l;obtain⟨j,U,r,h3,C,T⟩:=uN p;have hl:z.cps.toList.length=z.length:=by simp[Str.length]
 rw[hl] at U C T;have hn:=jF;exact tail_any (typeIs_str s z t) slot_str_getitem.lookup (getItem_str (c:=c) (by have e1:decide (i < -(2 ^ 63:Int))=false:=AB (by lia);have e2:decide (i>=2 ^ 63)=false:=AB (by lia);rw[e1,e2,Bool.or_false]) (by rw[U];simpa using r) {.str {#[c]},H,I.tok _,{_,rfl},q}) o
def xS(eh:XQ)(n j:Nat)(u:X4):Obj.mapSeq (·.setIfInBounds j u) {cls:=.type "list",data:=.seq eh.toArray n}={cls:=.type "list",data:=.seq (eh.set j u).toArray n}:=by simp[Obj.mapSeq]
def z9.lst{p:Addr}(I:z9 X pins σ H s)(h:H p=some (.lst xs)):
 ∃(eh:XQ) (n:Nat),zn xs eh/\s.heap.get? p=some {cls:=.type "list",data:=.seq eh.toArray n}/\xs.length<=sizeLine:=by
 obtain⟨z,eh,n,r,e⟩:=I.HT p _ h;exact{(eh),n,r,e,z}
def z9._e{p:Addr}{ys:X_}{its':XQ}{n':Nat}{f:Obj->Obj}(I:z9 X pins σ H s)(h:H p=some (.lst xs))
 (U:s.heap.get? p=some {cls:=.type "list",data:=.seq eh.toArray n}) (J:f {cls:=.type "list",data:=.seq eh.toArray n}={cls:=.type "list",data:=.seq its'.toArray n'}) (r:zn ys its') (hz:ys.length<=sizeLine) (t:Nat) (j:0<t:=by walk_at "t"):
 z9 X pins σ (upd H p<|.lst ys) {s with heap:=s.heap.update p f,toks:=t}:=by
 have e:(s.heap.update p f).get? p=some {cls:=.type "list",data:=.seq its'.toArray n'}:=by rw[qy f U (by rw[J]<;>rfl),J]
 refine I.write (x:=p) (e:=p) (by rw[h];trivial) (.inl rfl) (λb u g q=>(p0 _ _<|AJ g).trans q) {_,e} ?_;exact{(hz),its',n',r,e}
def P7:V->V->V->Hp->(Hp->Prop)->Prop:=λo i v H Q=>∃p xs k j,o=.ref p/\i=.int k/\H p=some (.lst xs)/\d_ xs.length k=some j/\Q (upd H p<|.lst<|xs.set j v)
def P8:HJ X P7:=by
 rintro J s σ H o i v ov iv u Q I ro ri rv⟨p,xs,k,j,rfl,rfl,hp,hj,q⟩;cases ro;obtain⟨t,rfl⟩:=ri;obtain⟨U,n,r,l,hz⟩:=I.lst hp;obtain⟨g,h2,h3,h4⟩:=Ie hj;have C:=r.length;have hn:=jF;have I':z9 X J σ (upd H p<|.lst<|xs.set j v) {s with heap:=s.heap.update p (Obj.mapSeq (·.setIfInBounds j u))}:=
  I._e hp l (xS U n j u) (r.set rv j) (by rw[Bn];exact hz) s.toks
 by_cases h0:0<=k
 .have T:k.toNat=j:=by rw[seqIndex_of h0 h4] at g;exact AR g
  exact PySem.W.ki_setAt l h0 (by lia) (by rw[Az,<-C];exact h4) (by rw[T];exact{_,I',q})
 .have T:(k+(U.toArray.size:Int)).toNat=j:=by rw[seqIndex_neg (by lia) h3] at g;rw[Az,<-C];exact AR g
  exact PySem.W.ki_setBack l (by lia) (by rw[Az,<-C];exact h3) (by lia) (by rw[T];exact{_,I',q})
def tf(lo hi:XZ)(n:Nat):(sliceBounds lo hi none n).1=((KF n 0 lo:Nat):Int)/\(sliceBounds lo hi none n).2.1=((KF n n hi:Nat):Int)/\(sliceBounds lo hi none n).2.2=1:=by
 refine{?_,?_,rfl}
 .cases lo with
  |none=>simp[sliceBounds,KF]
  |some i=>
   simp only[sliceBounds,KF,Option.getD_none,show(1:Int) > 0 by decide,if_true];by_cases h:i<0
   .simp only[h,if_true]<;>lia
   .simp only[h,if_false]<;>lia
 .cases hi with
  |none=>simp[sliceBounds,KF]
  |some i=>
   simp only[sliceBounds,KF,Option.getD_none,show(1:Int) > 0 by decide,if_true];by_cases h:i<0
   .simp only[h,if_true]<;>lia
   .simp only[h,if_false]<;>lia
def pV(eh:XQ)(lo hi:XZ):slicePick eh.toArray lo hi none=((eh.drop<|KF eh.length 0 lo).take<|KF eh.length eh.length hi-KF eh.length 0 lo).toArray:=by obtain⟨I,J,U⟩:=tf lo hi eh.toArray.size;unfold slicePick;rw[I,J,U];simp only[sliceRange_one,pick_run,Az]<;>rfl
def P9(K:Ak):V->XZ->XZ->Hp->VK->Prop:=λx lo hi H Q=>∃a xs,x=.ref a/\bE K H a xs/\∀p,H p=none->Q (.ref p) (upd H p<|.lst<|vO xs lo hi)
def P_:uR X (P9 X.K):=by rintro j s σ H x v vl vu lo g sl Q I p t pl C⟨a,J,rfl,T,q⟩;cases p;obtain⟨a0,r,l,hz⟩:=I.list T;have U:=r.length;refine{"list",_,slot_list_getitem.lookup,l.isList.typeIs,?_};refine wpAny_getItem_list_slice l.isList t pl C .none (by simp) ?_ (by rw[Az]<;>lia);rw[pV,<-U];refine{.ref s.heap.objs.size,_,I.laid (t':=s.toks) (o:=.lst<|vO J lo g) (λb ob q=>oi _ q) (Ap _) ?_,rfl,q _<|I.HT.fresh<|Ap _};exact{AS (lI J lo g) hz,_,0,(r.drop<|KF J.length 0 lo).take<|KF J.length J.length g-KF J.length 0 lo,pG _ rfl}
def bH:V->Bool
 |.KB=>true
 |.bl _=>true
 |.int _=>true
 |.str _=>true
 |_=>false
def om:V->V->Bool
 |.KB,.KB=>true
 |.bl a,.bl b=>a==b
 |.bl a,.int b=>(if a then 1 else 0)==b
 |.int a,.bl b=>a==(if b then 1 else 0)
 |.int a,.int b=>a==b
 |.str a,.str b=>a==b
 |_,_=>false
def oQ{y x:V}{v:X4}(U:zq y u)(I:zq x v)(j:bH y=true)(g:bH x=true):SeqAt.EqAt A s u v (om y x):=by
 cases y with
 |KB=>
  cases U;cases x with
  |KB=>cases I;exact SeqAt.EqAt.same _
  |bl b=>cases I;exact SeqAt.EqAt.none_bool b
  |int b=>obtain⟨t,rfl⟩:=I;exact SeqAt.EqAt.none_int b t
  |str b=>obtain⟨t,rfl⟩:=I;exact SeqAt.EqAt.none_str b t
  |_=>exact absurd (show false=true from g) AK
 |bl a=>
  cases U;cases x with
  |KB=>cases I;exact SeqAt.EqAt.bool_none a
  |bl b=>cases I;exact SeqAt.EqAt.bool_bool a b
  |int b=>obtain⟨t,rfl⟩:=I;exact SeqAt.EqAt.bool_int a b t
  |str b=>obtain⟨t,rfl⟩:=I;exact SeqAt.EqAt.bool_str a b t
  |_=>exact absurd (show false=true from g) AK
 |int a=>
  obtain⟨J,rfl⟩:=U;cases x with
  |KB=>cases I;exact SeqAt.EqAt.int_none a J
  |bl b=>cases I;exact SeqAt.EqAt.int_bool a J b
  |int b=>obtain⟨t,rfl⟩:=I;exact SeqAt.EqAt.int_int a J b t
  |str b=>obtain⟨t,rfl⟩:=I;exact SeqAt.EqAt.int_str a J b t
  |_=>exact absurd (show false=true from g) AK
 |str a=>
  obtain⟨J,rfl⟩:=U;cases x with
  |KB=>cases I;exact SeqAt.EqAt.str_none a J
  |bl b=>cases I;exact SeqAt.EqAt.str_bool a J b
  |int b=>obtain⟨t,rfl⟩:=I;exact SeqAt.EqAt.str_int a J b t
  |str b=>obtain⟨t,rfl⟩:=I;exact SeqAt.EqAt.str_str a J b t
  |_=>exact absurd (show false=true from g) AK
 |_=>exact absurd (show false=true from j) AK
def yS(x:V)(u:X4):Bool:=match u with
 |.none=>om .KB x
 |.bool b=>om (.bl b) x
 |.int i _=>om (.int i) x
 |.str z _=>om (.str z) x
 |_=>false
def Ih{x y:V}(r:zq y u)(f:bH y=true):yS x u=om y x:=by
 cases y with
 |KB=>cases r;rfl
 |bl b=>cases r;rfl
 |int i=>obtain⟨t,rfl⟩:=r;rfl
 |str z=>obtain⟨t,rfl⟩:=r;rfl
 |_=>exact absurd (show false=true from f) AK
theorem iN{x:V}:∀{xs:X_} {us:XQ},zn xs us->xs.all bH=true->us.any (yS x)=xs.any λy=>om y x
 |_,_,.nil,_=>rfl
 |y::xs,u::us,.cons r t,f=>by rw[Ee,AX] at f;rw[Cy,Cy,Ih r f.1,iN t f.2]
def iC{x:V}{v:X4}(J:zq x v)(U:bH x=true):∀{xs:X_} {us:XQ},zn xs us->xs.all bH=true->∀u∈us,SeqAt.EqAt A s u v (yS x u):=by
 intro xs us h
 induction h with
 |nil=>intro _ u I;cases I
 |cons r t g=>
  intro f j I;rw[Ee,AX] at f;rcases Ao.mp I with rfl|I
  .rw[Ih r f.1];exact oQ r J f.1 U
  .exact g f.2 j I
def o_(x:V)(xs:X_):Bool:=xs.any λy=>om y x
def GB(K:Ak)(neg:Bool):R2:=λx y H Q=>∃p xs,y=.ref p/\(bE K H p xs\/eE K H p xs)/\bH x=true/\xs.all bH=true/\Q (.bl<|if neg then !o_ x xs else o_ x xs) H
def Qa:aB X (compareOp .In) (GB X.K false):=by
 rintro g s C H x y v u Q I j o⟨p,T,rfl,U,l,fs,q⟩;cases o;rcases U with U|U
 .obtain⟨J,r,pl,t⟩:=I.list U;refine SeqAt.in_listAt (yS x) pl.isList (λw hw=>iC j l r fs w (by simpa using hw)) {.bl _,H,I,rfl,?_};rw[show J.toArray.any (yS x)=J.any (yS x) by simp,iN r fs];exact q
 .obtain⟨J,r,pl,t⟩:=I.tuple U;refine SeqAt.in_tupleAt (yS x) pl (λw hw=>iC j l r fs w (by simpa using hw)) {.bl _,H,I,rfl,?_};rw[show J.toArray.any (yS x)=J.any (yS x) by simp,iN r fs];exact q
def sV:aB X (compareOp .NotIn) (GB X.K true):=by
 rintro g s C H x y v u Q I j o⟨p,T,rfl,U,l,fs,q⟩;cases o;rcases U with U|U
 .obtain⟨J,r,pl,t⟩:=I.list U;refine SeqAt.notIn_listAt (yS x) pl.isList (λw hw=>iC j l r fs w (by simpa using hw)) {.bl _,H,I,rfl,?_};rw[show J.toArray.any (yS x)=J.any (yS x) by simp,iN r fs];exact q
 .obtain⟨J,r,pl,t⟩:=I.tuple U;refine SeqAt.notIn_tupleAt (yS x) pl (λw hw=>iC j l r fs w (by simpa using hw)) {.bl _,H,I,rfl,?_};rw[show J.toArray.any (yS x)=J.any (yS x) by simp,iN r fs];exact q
def se:jx X (.builtin "len") (λxs H Q=>∃p ys,xs=[.ref p]/\(bE X.K H p ys\/eE X.K H p ys)/\Q (.int ys.length) H):=by
 rintro l s C H xs T Q I r⟨p,ys,rfl,U,q⟩;obtain⟨u,rfl,o⟩:=rZ r;cases o;have hn:=jF;rcases U with U|U
 .obtain⟨g,j,pl,t⟩:=I.list U;have J:=j.length;exact Calls.call_len_list pl.isList (by simp only[Az]<;>lia) {.int ys.length,H,I.tok _,{s.toks+1,by rw[Az,J]},q}
 .obtain⟨g,j,pl,t⟩:=I.tuple U;have J:=j.length;exact len_tuple pl (by simp only[Az]<;>lia) {.int ys.length,H,I.tok _,{s.toks+1,by rw[Az,J]},q}
def uB:jx X (.builtin "len") (λxs H Q=>∃z,xs=[.str z]/\z.length<=sizeLine/\Q (.int z.length) H):=by rintro J s U H xs g Q I r⟨z,rfl,j,q⟩;obtain⟨u,rfl,t,rfl⟩:=rZ r;have l:=jF;exact len_str (by lia) {.int z.length,H,I.tok _,{_,rfl},q}
def tF:jx X (.type "list") (λxs H Q=>∃p ys,xs=[.ref p]/\(bE X.K H p ys\/eE X.K H p ys)/\∀l,H l=none->Q (.ref l) (upd H l<|.lst ys)):=by
 rintro t s σ H xs us Q I r⟨p,ys,rfl,C,q⟩;obtain⟨u,rfl,rx⟩:=rZ r;cases rx;have xg:∀(J:XQ),zn ys J->ys.length<=sizeLine->∀(U:X8) (g:Nat),(∀b o',s.heap.get? b=some o'->U.get? b=some o')->
  U.get? s.heap.objs.size=some {cls:=.type "list",dict:=none,data:=.seq J.toArray g,slots:=#[]}->EP X t σ Q (.ref s.heap.objs.size) {s with heap:=U}:=λJ j T U g kp e=>
  ⟨.ref s.heap.objs.size,_,I.laid (t':=s.toks) kp (Ap _)<|show vf X.prog X.w _ U _ (.lst ys) from{(T),J,g,j,e},rfl,q _<|I.HT.fresh<|Ap _⟩
 rcases C with C|C
 .obtain⟨J,j,pl,T⟩:=I.list C;have a0:=j.length;obtain⟨o,ho,hc,n,hd⟩:=pl.isList;exact call_list_seq p (.inl rfl) ho hc hd (λU g kp e=>xg J j T U g kp e) (by simp only[Az]<;>lia)
 .obtain⟨J,j,pl,T⟩:=I.tuple C;have a0:=j.length;obtain⟨o,ho,hc,n,hd⟩:=pl;exact call_list_seq p (.inr rfl) ho hc hd (λU g kp e=>xg J j T U g kp e) (by simp only[Az]<;>lia)
def pX:jx X (.type "tuple") (λxs H Q=>∃p ys,xs=[.ref p]/\((bE X.K H p ys/\∀l,H l=none->Q (.ref l) (upd H l<|.tup ys))\/(eE X.K H p ys/\Q (.ref p) H))):=by
 rintro U s σ H xs us Q I r⟨p,ys,rfl,h⟩;obtain⟨u,rfl,rx⟩:=rZ r;cases rx;rcases h with⟨g,q⟩|⟨g,q⟩
 .obtain⟨J,j,pl,C⟩:=I.list g;have T:=j.length;refine call_tuple_list pl.isList (λt kp=>?_) (by simp only[Az]<;>lia);have I1:=I.kept (t':=s.toks) kp;have I2:z9 X U σ (upd H t.objs.size<|.tup ys) {s with heap:=t.push {cls:=.type "tuple",data:=.seq J.toArray}}:=
   I1.laid (t':=s.toks) (λb o e=>oi _ e) (Ap _) (show vf X.prog X.w _ _ _ (.tup ys) from{C,J,j,IsTup.new _ _})
  exact{.ref t.objs.size,_,I2,rfl,q _<|I1.HT.fresh<|Ap _}
 .obtain⟨J,j,pl,C⟩:=I.tuple g;exact call_tuple_same pl {.ref p,H,I,rfl,q}
def FF(K:Ak)(T:X9)(x:V)(H:Hp):Prop:=match x with
 |.str _=>T = "str"
 |.int _=>T = "int"
 |.ref p=>(T = "list" /\ ∃xs,bE K H p xs)\/(T = "tuple" /\ ∃o,K.lookup p=some o/\o.cls=.type "tuple" /\ o.dict=none)\/
  (T = "dict" /\ ((∃kvs,H p=some (.dK kvs))\/∃kvs,H p=some (.dT kvs)))\/(T = "set" /\ ∃S n,H p=some (.set S n))
 |_=>False
def Ii{T:X9}{x:V}{v:X4}(I:z9 X pins σ H s)(r:zq x v)(ty:FF X.K T x H):
 s.TypeIs v T/\∀a,v=.ref a->∃ob,s.heap.get? a=some ob/\ob.dict=none:=by
 cases x with
 |str z=>
  obtain⟨t,rfl⟩:=r;cases (show T = "str" from ty);exact{typeIs_str s z t,λ_ e=>nomatch e}
 |int i=>
  obtain⟨t,rfl⟩:=r;cases (show T = "int" from ty);exact{typeIs_int s i t,λ_ e=>nomatch e}
 |ref p=>
  cases r;rcases ty with⟨rfl,xs,j⟩|⟨rfl,o,J,l,hd⟩|⟨rfl,J⟩|⟨rfl,S,n,J⟩
  .obtain⟨C,_,pl,_⟩:=I.list j;refine{pl.isList.typeIs,λa e=>?_};cases e;obtain⟨o,n,e,c,hd,_⟩:=pl;exact{(o),e,hd}
  .refine{{o,I.Yw p o J,l},λa e=>?_};cases e;exact{o,I.Yw _ o J,hd}
  .have z:∃o,s.heap.get? p=some o/\o.ExactDict:=by
    rcases J with⟨U,J⟩|⟨U,J⟩
    .obtain⟨_,_,_,_,o,_,_,e,ex,_⟩:=I.HT p _ J;exact{(o),e,ex}
    .obtain⟨_,_,_,_,o,_,_,e,ex,_⟩:=I.HT p _ J;exact{(o),e,ex}
   obtain⟨o,e,ex⟩:=z;refine{{(o),e,ex.1},λa g=>?_};cases g;exact{(o),e,ex.2.1}
  .obtain⟨o,_,_,_,e,ex,_⟩:=I.HT p _ J;refine{{(o),e,ex.1},λa g=>?_};cases g;exact{(o),e,ex.2.1}
 |_=>exact False.elim ty
def Qb(K:Ak)(T:X9)(r:V->X_->Hp->VK->Prop)(to:TE):TE:=λσ H Q=>to σ H λx H1=>FF K T x H1/\r x [] H1 Q
def Qc(K:Ak)(T:X9)(r:V->X_->Hp->VK->Prop)(to:TE)(t:TA):TE:=λσ H Q=>to σ H λx H1=>FF K T x H1/\t σ H1 λxs H2=>r x xs H2 Q
variable {to:TE}{t:TA}{T id:X9}{r:V->X_->Hp->VK->Prop}
def Qd(pa:PlainAttrs T)(slot:Slot T name id)(j:typeOf (.builtin id)=pure (.type "method_descriptor"))(C:Ig X id r)(ho:PE X o to)
 (U:attributeBase o name X.env (eval o X.env)=eval o X.env:=by rfl) (g:(apos.endLine==eK.line)=true:=by rfl):PE X (.Call (.Attribute o name apos) [] [] eK) (Qb X.K T r to):=by
 intro J s l H Q I h;refine wpAny_Call_method0_late U g<|aN (ho J s l H _ I h) λv s1 ψ=>?_;obtain⟨x,H1,p,t,ty,q1⟩:=ψ;obtain⟨h1,h2⟩:=Ii p t ty;exact{T,id,pa,slot,j,h1,h2,Calls.callWith_builtin rfl<|PySem.evalArgs_none<|C J s1 l H1 x [] v [] Q p t .nil q1}
def Ij(pa:PlainAttrs T)(slot:Slot T name id)(p:typeOf (.builtin id)=pure (.type "method_descriptor"))(hm:Ig X id r)(ho:PE X o to)(ha:PA X (e::es) t)
 (g:attributeBase o name X.env (eval o X.env)=eval o X.env:=by rfl)
 (l:((backTo eK<|starEach (e::es) X.env).all (λx=>!x.1)&&(backToKw eK<|keywordEach [] X.env).all (λx=>x.1.isSome)
  && decide ((e::es).length+([]:List Keyword).length+(if ([]:List Keyword).isEmpty then 0 else 1)<30))=true:=by rfl)
 (j:(apos.endLine==eK.line)=true:=by rfl) (hs:E9 e es X:=by rfl) (U:Fb eK es X:=by rfl):
 PE X (.Call (.Attribute o name apos) (e::es) [] eK) (Qc X.K T r to t):=by
 intro J s C H Q I h;refine wpAny_Call_method_late g l j rfl<|aN (ho J s C H _ I h) λv s1 ψ=>?_;obtain⟨x,H1,I1,r1,ty,q1⟩:=ψ;obtain⟨h1,h2⟩:=Ii I1 r1 ty;refine{T,id,pa,slot,p,h1,h2,?_};have hA:=ha eK J s1 C H1 _ I1 q1;rw[hs] at hA ⊢;refine Calls.callWith_builtin (by show(false||(backTo eK<|starEach es X.env).any (·.1))=false;rw[U]<;>rfl)<|Calls.evalArgs_plain ?_;exact aN hA λus s2 ψ=>(by obtain⟨vs,H2,I2,r2,q2⟩:=ψ;exact hm J s2 C H2 x vs v us Q I2 r1 r2 q2)
end
def kA(X:Cx)(id:X9)(r:V->X_->Hp->VK->Prop):Prop:=
 ∀(pins:List<|Addr×Obj) (s:X5) (σ:St) (H:Hp) (x:V) (xs:X_) (v:X4) (us:XQ) (Q:VK),z9 X pins σ H s->zq x v->zn xs us->r x xs H Q->
  _S X (call (.builtin id)<|v::us) (EP X pins σ Q) X.xe s
def zn.one{x:V}(h:zn [x] us):∃u,us=[u]/\zq x u:=by cases h with|cons r t=>cases t;exact{_,rfl,r}
def zn.two{x y:V}(h:zn [x,y] us):∃u v,us=[u,v]/\zq x u/\zq y v:=by cases h with|cons r t=>cases t with|cons q t=>cases t;exact{_,_,rfl,r,q}
theorem zn.zero:∀{us:XQ},zn [] us->us=[]
 |_,.nil=>rfl
def zn.dropLast(h:zn xs us):zn xs.dropLast us.dropLast:=by
 induction h with
 |nil=>exact .nil
 |cons r t I=>
  cases t with|nil=>exact .nil|cons q J=>exact .cons r I
theorem zn.eraseIdx:∀{xs:X_} {us:XQ} (i:Nat),zn xs us->zn (xs.eraseIdx i) (us.eraseIdx i)
 |_,_,_,.nil=>.nil
 |_,_,0,.cons _ t=>t
 |_,_,i+1,.cons r t=>.cons r<|zn.eraseIdx i t
def yK(l:List α):l.eraseIdx (l.length-1)=l.dropLast:=by
 induction l with
 |nil=>rfl
 |cons a r I=>
  cases r with
  |nil=>rfl
  |cons b r=>
   have e:(a::b::r).length-1=((b::r).length-1)+1:=by have J:(a::b::r).length=r.length+2:=rfl;have U:(b::r).length=r.length+1:=rfl;lia
   rw[e,CC,I]
   all_goals rfl
theorem rC{α:Type}:∀(l:List α) (i:Nat),(l.eraseIdx i).length<=l.length
 |[],_=>Ap _
 |_::_,0=>CK _
 |_::r,i+1=>Nat.succ_le_succ<|rC r i
section
variable {b:Addr}{ys:X_}
def z9.Zl{its':XQ}{f:XR->XR}(I:z9 X pins σ H s)(J:H l=some (.lst xs))
 (e:s.heap.get? l=some {cls:=.type "list",data:=.seq eh.toArray n}) (U:f eh.toArray=its'.toArray) (g:zn ys its') (hz:ys.length<=sizeLine) (p:0<t':=by walk_at "t"):
 z9 X pins σ (upd H l<|.lst ys) {s with heap:=s.heap.update l<|Obj.mapSeq f,toks:=t'}:=by
 have q:=PySem.IsL.update e f;rw[U] at q;refine I.write (x:=l) (e:=l) (by rw[J];exact trivial) (.inl rfl) (λr u j o=>(p0 s.heap (Obj.mapSeq f)<|AJ j).trans o) {_,q} ?_;exact{hz,its',_,g,q}
def z9.lnew(I:z9 X pins σ H s)(J:zn ys eh)(hz:ys.length<=sizeLine)(U:0<t':=by walk_at "t"):
 z9 X pins σ (upd H s.heap.objs.size<|.lst ys) {s with heap:=s.heap.push {cls:=.type "list",data:=.seq eh.toArray},toks:=t'}:=
 I.laid (λ_ _ q=>oi _ q) (Ap _) ⟨hz,eh,0,J,pG _ rfl⟩
theorem z9.fresh(I:z9 X pins σ H s):H s.heap.objs.size=none:=I.HT.fresh<|Ap _
def z9.YO(I:z9 X pins σ H s)(J:H l=some (.lst xs)):xs.length<=sizeLine/\∃(eh:XQ) (n:Nat),zn xs eh/\xs.length=eh.length/\s.heap.get? l=some {cls:=.type "list",data:=.seq eh.toArray n}:=by obtain⟨z,eh,n,r,e⟩:=I.HT l _ J;exact{(z),eh,n,r,r.length,e}
def Qe(h:n<=sizeLine):Builtin.List.listTooLong n=false:=by exact AB (by lia)
end
def Qf:V->X_->Hp->VK->Prop:=λx vs H Q=>∃l xs y,x=.ref l/\vs=[y]/\H l=some (.lst xs)/\xs.length<sizeLine/\Q .KB (upd H l<|.lst<|xs++[y])
theorem Qg:kA X "list.append" Qf:=by rintro U s t H x C v T Q I j o⟨l,xs,y,rfl,rfl,g,hz,q⟩;cases j;obtain⟨u,rfl,p⟩:=o.one;obtain⟨z,J,n,r,hl,e⟩:=I.YO g;refine call_meets F.slot_list_append {_,e,rfl} F.entry_list_append (F.args_list_append_2 _ _) (PySem.list_append l J.toArray n u (by rw[Az];lia)) {e,?_};refine{.KB,_,I.Zl (its':=J++[u]) g e (by simp) (r.append<|.cons p .nil) ?_,rfl,q};rw[Ab,Ba];lia
def Qh:V->X_->Hp->VK->Prop:=λx vs H Q=>∃l b xs zs,x=.ref l/\vs=[.ref b]/\H l=some (.lst xs)/\H b=some (.lst zs)/\xs.length+zs.length<=sizeLine/\Q .KB (upd H l<|.lst<|xs++zs)
theorem Qi:kA X "list.extend" Qh:=by
 rintro o s σ H x vs v us Q I t C⟨l,b,xs,zs,rfl,rfl,p,T,hz,q⟩;cases t;obtain⟨u,rfl,ru⟩:=C.one;cases ru;obtain⟨z,U,n,r,hl,e⟩:=I.YO p;obtain⟨z2,J,n2,r2,a0,e2⟩:=I.YO T;have j:U.toArray.size+J.toArray.size<=sizeLine:=by rw[Az,Az];lia
 have g:¬(!U.toArray.isEmpty&&Builtin.List.listTooLong (U.toArray.size+J.toArray.size))=true:=by rw[Qe j,ED];exact AK
 refine call_meets F.slot_list_extend {_,e,rfl} F.entry_list_extend (F.args_list_extend_2 _ _)
  (AutoSeq1.list_extend_list_list_0 l U.toArray n b J.toArray n2 g (by rw[Az];lia) (by lia)) ⟨e,e2,?_⟩
 refine{.KB,_,I.Zl (its':=U++J) p e (by simp) (r.append r2) ?_,rfl,q};rw[Ab];lia
def Qj:V->X_->Hp->VK->Prop:=λx vs H Q=>∃l xs y,x=.ref l/\vs=[]/\H l=some (.lst xs)/\xs[xs.length-1]?=some y/\Q y (upd H l<|.lst xs.dropLast)
theorem Qk:kA X "list.pop" Qj:=by
 rintro j s σ H x vs v us Q I p t⟨l,xs,y,rfl,rfl,o,C,q⟩;cases p;have U:=t.zero;subst U;obtain⟨z,J,n,r,T,e⟩:=I.YO o;obtain⟨u,hu,ru⟩:=r.get C;have g:J.toArray[J.toArray.size-1]?=some u:=by show J.toArray[J.length-1]?=some u;rw[<-Bi,<-T];exact hu
 refine call_meets F.slot_list_pop {_,e,rfl} F.entry_list_pop (F.args_list_pop_1 _) (MeetsSeq.list_pop_last l J.toArray n u g (by rw[Az];lia)) {e,?_};refine{y,_,I.Zl (its':=J.dropLast) o e ?_ r.dropLast ?_,ru,q}
 .show J.toArray.eraseIdxIfInBounds (J.toArray.size-1)=J.dropLast.toArray;rw[Az,Dv,yK]
 .rw[List.length_dropLast];lia
def Ql:V->X_->Hp->VK->Prop:=λx vs H Q=>∃l xs i k y,x=.ref l/\vs=[.int i]/\H l=some (.lst xs) /\ -(2 ^ 63)<=i/\i<2 ^ 63/\seqIndex? i xs.length=some k/\xs[k]?=some y/\Q y (upd H l<|.lst<|xs.eraseIdx k)
theorem Qm:kA X "list.pop" Ql:=by
 rintro g s σ H x vs v us Q I o p⟨l,C,i,k,y,rfl,rfl,j,T,h2,hk,hy,q⟩;cases o;obtain⟨u,rfl,ru⟩:=p.one;obtain⟨t,rfl⟩:=ru;obtain⟨z,J,n,r,hl,e⟩:=I.YO j;obtain⟨w,hw,U⟩:=r.get hy;refine call_meets F.slot_list_pop {_,e,rfl} F.entry_list_pop (F.args_list_pop_2 _ _)
  (MeetsSeq.list_pop_at l J.toArray n i t k w (fitsIndex_both T h2) (by rw[Az,<-hl];exact hk) (by rw[<-Bi];exact hw) (by rw[Az];lia)) ⟨e,?_⟩
 refine{y,_,I.Zl (its':=J.eraseIdx k) j e ?_ (r.eraseIdx k) ?_,U,q}
 .show J.toArray.eraseIdxIfInBounds k=(J.eraseIdx k).toArray;rw[Dv]
 .have:=rC C k;lia
def Qn:R2:=λx y H Q=>∃l b xs zs,x=.ref l/\y=.ref b/\H l=some (.lst xs)/\H b=some (.lst zs)/\xs.length+zs.length<=sizeLine/\∀p,H p=none->Q (.ref p) (upd H p<|.lst<|xs++zs)
def Qo:aB X (binaryOp .Add) Qn:=by
 rintro g s σ H x y v u Q I j o⟨l,b,xs,zs,rfl,rfl,p,t,hz,q⟩;cases j;cases o;obtain⟨z,U,n,r,hl,e⟩:=I.YO p;obtain⟨z2,J,n2,C,T,e2⟩:=I.YO t;refine PySem.P.add_list e e2 ?_ (by rw[Az,Az];lia);have ea:U.toArray++J.toArray=(U++J).toArray:=by simp
 rw[ea];exact{.ref _,_,I.lnew (t':=s.toks) (r.append C) (by rw[Ab];lia),rfl,q _ I.fresh}
section
variable {w:X7}
set_option maxRecDepth 100000 in
end
section
open PySem.W PySem.Calls
def mH{P:Params} :∀(I:XX) (vs:XQ),WellAll P h vs (I.map WData.int)->IntsAre vs I:=by
 intro I
 induction I with
 |nil=>
  intro vs w;rw[Dl] at w;cases w;exact .nil
 |cons n I J=>
  intro vs w;rw[AQ] at w;cases w with
  |cons a b=>
   cases a;exact .cons _ _<|J _ b
def Qp{l:OpenLaw}(T:l.most=some n){P:Params}{args:List WData}{J:XQ}
 (U:l.row.toRowW.claim.pre args=true) (t:WellAll P h J args):
 ∃a vs I,J=[Value.ref a]/\args=[WData.list<|I.map WData.int]/\h.get? a=some {cls:=.type "list",data:=.seq vs.toArray}/\IntsAre vs I/\I.length<=n:=by
 have C:=(pre_splitW U).1;have hc:=(pre_splitW U).2;obtain⟨d,r,rfl,h1,h2⟩:=hasAllW_cons C;obtain rfl:=hasAllW_nil h2;obtain⟨xs,rfl,h3⟩:=hasW_list h1;obtain⟨I,rfl⟩:=items_int h3;have g:I.length<=n:=by
  have o:(WTm.not<|.lt (.lit<|.int (n:Int))<|.len<|.arg 0).holds [] {args:=[.list<|I.map .int]}=true:=by have o:=(holds_andW hc).1;rw[T] at o;exact o
  have p:=condW_of o<|w_not<|w_lt w_lit<|w_len_list<|w_arg rfl;rw[Ah] at p;refine Nat.le_of_not_lt λq=>?_;have q':(n:Int)<((I.length:Nat):Int):=by lia
  first
   |(rw[AA q'] at p;exact absurd p (by decide))
   |(simp at p;lia)
 cases t with
 |cons w1 w2=>
  cases w2;cases w1 with|list ho j=>exact{_,_,I,rfl,rfl,ho,mH I _ j,g}
def Qq(l:OpenLaw)(args:List WData):l.row.toRowW.claim.post args (.bool true) args=true:=
 postW_of (r:=l.row.toRowW) (X:=(true==true))
  (show WShape.has [] (.bool true) .bool=true by first|rfl|decide|simp[WShape.has,WShape.arms,WShape.armsAll])
  (show(WTm.eq .res<|.lit<|.bool true).value [] {args:=args,res:=some<|.bool true,after:=args}=some (.bool<|true==true) from w_eq_bool (w_res rfl) w_lit) rfl
theorem YS{l:OpenLaw}{q:X6}{loose:XT}{XP:(XM)->X8->Prop}{Z2:List Addr}{N t:Nat}{K:Params->Frag}{d:DefRec}
 (hn:l.most=some n) (C:d.params.defaults=[]) (ek:∀P,Z2=(K P).map (·.1)) (T:0<t)
 (call:∀(w:X7) (s₀ I:X5) (mg mb:XM) (fa:Addr) (o:Obj) (pm cd gn:X4) (a:Addr) (vs:XQ) (J:XX),
  Ground q loose [] XP w s₀ mg mb I.heap->(K w.params).In I.heap->0<I.toks->
  I.heap.get? fa=some o->o.data=.func (docDef d.name d.params d.body d.scope pm cd gn)->I.heap.CodeRec cd d.name->mg d.name=some (.ref fa)->
  I.heap.get? a=some {cls:=.type "list",data:=.seq vs.toArray}->IntsAre vs J->J.length<=n->I.gens=#[]->
  codeAny (model l.prog w) callerA (.call (.ref fa) ⟨[.ref a],[]⟩) (λr s'=>r=.ok (.ret<|.bool true)/\OldK I.heap s'.heap/\s'.os=I.os/\AllBare s'.gens) I):
 WalkX q loose XP (PySem.W.X.obsZ Z2) (PySem.W.X.valZ K N t) l.row.toRowW d [] (λf vs=>PySem.call f vs):=by
 intro w s₀ I mg mb G Y fa o pm cd gn dV kV ho hd a0 hD a1 hg args a4 as L g a5 ab a2 ac;obtain rfl:dV=.none:=Dflts.none hD C;obtain rfl:kV=.none:=Dflts.noKw hD;obtain⟨a,vs,J,rfl,rfl,j,U,p⟩:=Qp hn g a2;obtain⟨_,zi,_,zt⟩:=X.z_facts ek Y;have eP:∀J:XX,ofPy (PyData.list<|J.map PyData.int)=WData.list (J.map WData.int):=λJ=>by
  simp only[ofPy];congr 1
  induction J with|nil=>simp[ofPys]|cons n r ih=>simp only[AQ,ofPys,ofPy,ih]
 rw[<-eP] at L;have KX:=InK.keeps w s₀.heap I.heap zi L.keeps;have a3:=AW T<|X.script_toks L zt;refine enter_call<|codeAny_mono (call w s₀ I mg mb fa o pm cd gn a vs J G KX a3 ho (fd_plain hd) a0 a1 j U p hg) λr s' hq=>?_;obtain⟨rfl,h2,h3,h4⟩:=hq;exact{.inl {.bool true,.bool true,[],rfl,λ_=>rfl,.bool true,Qq l _,λ_=>{List.Pairwise.nil,λ_ hm=>(nomatch hm)}},h2,h3,h4}
section
variable {w:X7}{K:Frag}
end
end
theorem sG:∀{vs:XQ} {I:XX},IntsAre vs I->zn (I.map V.int) vs
 |_,_,.nil=>.nil
 |_,_,.cons n t h=>.cons {(t),rfl}<|sG h
def vd(s:Stmt):Arguments:=match s with
 |.FunctionDef _ a _ _ _ _ _ _ _ _=>a
 |_=>{posonlyargs:=[],args:=[],vararg:=none,kwonlyargs:=[],kw_defaults:=[],kwarg:=none,defaults:=[]}
def jw(s:Stmt):XW:=match s with
 |.FunctionDef _ _ b _ _ _ _ _ _ _=>b
 |_=>[]
def zb(s:Stmt):Scope:=match s with
 |.FunctionDef _ _ _ _ _ _ I _ _ _=>I
 |_=>{kind:=.function,names:=[],isGenerator:=false,isCoroutine:=false}
abbrev Zg:c_:=λ_ _ _ _ _ _=>False
abbrev E0:XK:=λ_ _ _=>False
def GC :jG Zg X E0:=λ_ _ _ _ _ _ _ h=>h.elim
structure ZQ(K:Ak)(x eA:Str)(st:Stmt)(f:Addr)(fd:FuncData):Prop where
 ex:∃(oc:X4) (od:Option Addr) (kV gn pm:X4) (an:Option Addr) (eH ct:X4) (mR:Array<|XY),
  fd=PySem.W.fnOf x eA (vd st) (jw st) (zb st) .none kV gn pm an eH ct/\K.lookup f=some ⟨oc,od,.func fd,mR⟩/\PySem.W.codeIn K eH eA=true
 kp:PySem.W.keepIn K (.ref f)=true
section
variable {P:X6}{w:X7}{K:Ak}
def ZQ.ok{N:XT}{k:Nat}{sp:Sp}(F:ZQ K x eA st f fd)(S:bN N ps<|zb st)(len:∀vs H Q E,sp vs H Q E->vs.length=ps.length)
 (I:∀(eH:X4) (A:Around) (outer:List Env) (s:X5) (H:Hp) (vs:X_) (Q:VK) (E:XK),wx k (A.deeper<|envOfC eA (zb st) s.heap.objs.size f eH)->sp vs H Q E->
  ∃t,lz (qJ Zg P w K mg base N eA (zb st) f eH A outer s H E).Z0 (jw st) t/\t {nx:=λ_ H'=>Q .KB H',rt:=Q} (start N vs) H):bp P w K mg base Zg (k+1) f fd ps sp:=by
 obtain⟨o,p,kV,g,pm,an,eH,r,j,rfl,lk,J⟩:=F.ex;refine HZ lk J S len λA outer s H vs Q E l U=>?_;obtain⟨t,h,q⟩:=I eH A outer s H vs Q E l U;exact{(t),h.Z0,q}
def Ik{kV ct:X4}(l:K.lookup f=some ⟨oc,od,.func<|PySem.W.fnOf x eA (vd st) (jw st) (zb st) .none kV gn pm an eH ct,mR⟩)
 (c:PySem.W.codeIn K eH eA=true) (k:PySem.W.keepIn K (.ref f)=true):ZQ K x eA st f (PySem.W.fnOf x eA (vd st) (jw st) (zb st) .none kV gn pm an eH ct):={{(oc),od,kV,gn,pm,an,eH,ct,mR,rfl,l,c},k}
end
def rO(h:n<=1000):n<sizeLine:=BN h (by decide)
def pv(i:Nat)(hN:X.N[i]?=some x:=by rfl)(J:Db X.env.scope x:=by first|exact Or.inl rfl|exact Or.inr (Or.inl rfl)|exact Or.inr<|Or.inr rfl)(hd:Fc x:=by decide)
 (I:Fe x:=by decide):PE X (.Name x pos) (Gj i):=NE hN J hd I
section
variable [DecidableEq κ]
end
set_option maxHeartbeats 8000000
def Fi{a b c:Nat}(h:a<b:=by assumption)(k:b<=c:=by assumption):a<c:=AW h k
def qG{a b c:Nat}(h:a<=b:=by assumption)(k:b<c:=by assumption):a<c:=BN h k
def GD{a b c:Nat}(h:a<=b:=by assumption)(k:b<=c:=by assumption):a<=c:=AS h k
def sM{a b c:Nat}(h:a<b:=by assumption)(k:b<c:=by assumption):a<c:=Nat.lt_trans h k
def Fj{a b c:Nat}(h:a<=b:=by assumption)(k:b<=c:=by decide):a<=c:=AS h k
def Fk{a b:Nat}(h:a<=b:=by assumption):a<b+1:=Nat.lt_succ_of_le h
def GF{a b:Nat}(h:a<=b:=by assumption):a<=b+1:=Cc h
def jM{a b:Nat}(h:a<b:=by assumption):a<=b:=BD h
def Il{a b:Nat}(h:a<b:=by assumption):a≠b:=AY h
def Im{a b:Nat}(h:b<a:=by assumption):a≠b:=CL h
def Fl{a:Nat}(h:a≠0:=by assumption):0<a:=Nat.pos_of_ne_zero h
def Qr{a b c:Nat}(h:a<b:=by assumption)(k:b<=c:=by assumption):a<=c:=AS (BD h) k
def Io{a b c:Nat}(h:a<b:=by assumption):a<b+c:=AW h<|Bl _ _
def xV{a b:Nat}(h:a=b:=by assumption):a<=b:=Eo h
def FH{a b:Nat}(h:¬a<b:=by assumption):b<=a:=Nat.le_of_not_lt h
def Ip{a b:Nat}(h:¬b<=a:=by assumption):a<b:=Nat.lt_of_not_le h
def Iq{a b:Nat}(h:a<b+1:=by assumption):a<=b:=Nat.le_of_lt_succ h
def D_{a b:Nat}(h:0<a:=by assumption)(k:0<b:=by decide):a-b<a:=Nat.sub_lt h k
def Ir{a b c:Nat}(h:a<=c:=by assumption):a-b<=c:=AS (Nat.sub_le _ _) h
def sv{a b c:Nat}(h:a<c:=by assumption):a-b<c:=BN (Nat.sub_le _ _) h
def Ed{a b:Nat}(h:a<=b:=by assumption)(k:a≠b:=by assumption):a<b:=Nat.lt_of_le_of_ne h k
def Qs:R2:=λx y H Q=>match x,y with
 |.int i,.int j=>Q (.int<|i+j) H
 |.str a,.str b=>a.length+b.length<=sizeLine/\Q (.str<|a++b) H
 |.ref l,.ref b=>∃xs zs,H l=some (.lst xs)/\H b=some (.lst zs)/\xs.length+zs.length<=sizeLine/\∀p,H p=none->Q (.ref p) (upd H p<|.lst<|xs++zs)
 |_,_=>False
def Qt:aB X (binaryOp .Add) Qs:=by
 intro J s U H x y v u Q I g j h;cases x<;>cases y<;>first
  |exact False.elim h
  |exact OK J s U H _ _ v u Q I g j {_,_,rfl,rfl,h}
  |exact y7 J s U H _ _ v u Q I g j {_,_,rfl,rfl,h.1,h.2}
  |(obtain⟨l,o,p,r,t,C⟩:=h;exact Qo J s U H _ _ v u Q I g j {_,_,l,o,rfl,rfl,p,r,t,C})
def KD(K:Ak)(P:X6)(w:X7)(a:Addr)(kvs:List<|jb×V):Prop:=
 (a==sysModules)=false/\kvs.length<=sizeLine/\∀h:X8,K.In h->∃vs,KV kvs vs/\h.DictOf (vh P w) a vs
def Iu(K:Ak)(P:X6)(w:X7):R2:=λx y H Q=>match x,y with
 |.str z,.int i=>z.length<=sizeLine/\∃c,dZ z.cps.toList i=some c/\Q (.str ⟨#[c]⟩) H
 |.ref p,.int i=>∃xs v,(bE K H p xs\/eE K H p xs)/\dZ xs i=some v/\Q v H
 |.ref p,.str k=>∃kvs v,(Rd H p (.dK kvs)\/KD K P w p kvs)/\bw kvs (Sum.inr k)=some v/\Q v H
 |_,_=>False
def Iv{slice:Expr}{a:Addr}{vs:List<|jb×X4}{k:jb}{J:X4}{Q:VK}(I:z9 X pins σ H s)(U:s.heap.DictOf (vh X.prog X.w) a vs)(g:nr k u=true)
 (hw:valueAt vs k=some J) (r:zq v J) (q:Q v H) (hs:subscripted slice false (.ref a) u=operate [.ref a,u] (getItem (.ref a) u)):_S X (subscriptTail value slice (.ref a) u) (EP X pins σ Q) X.xe s:=
 tail_any U.typeIs DU.lookup (wpAny_getItem_of g U.mapOf hw ⟨v,H,I.tok _,r,q⟩) hs
def Qu:ZC X (Iu X.K X.prog X.w):=by
 intro value slice U s σ H x y v u Q I rx ry q r;cases x with
 |str z=>
  cases y with
  |int i=>
   obtain⟨J,c,g,j⟩:=q;exact P6 value slice U s σ H _ _ v u Q I rx ry {(z),i,c,rfl,rfl,J,g,j} r
  |_=>exact q.elim
 |ref p=>
  cases y with
  |int i=>
   obtain⟨xs,t,J,g,j⟩:=q;rcases J with J|J
   .exact P4 value slice U s σ H _ _ v u Q I rx ry {(p),xs,i,t,rfl,rfl,J,g,j} r
   .exact P5 value slice U s σ H _ _ v u Q I rx ry {(p),xs,i,t,rfl,rfl,J,g,j} r
  |str k=>
   obtain⟨a0,t,J,g,j⟩:=q;have C:zq (kV<|Sum.inr k) u:=ry;cases (show v=Value.ref p from rx);rcases J with J|J
   .obtain⟨z,hd,vs,rel,T⟩:=rV I.HT J;obtain⟨w2,hw,l⟩:=EV (v:=t) (o:=valueAt vs<|Sum.inr k) (by rw[<-g];exact rel.val _);exact Iv I T (l8 (P:=X.prog) (w:=X.w) C) hw l j r
   .obtain⟨hd,z,T⟩:=J;obtain⟨vs,rel,T⟩:=T s.heap I.Yw;obtain⟨w2,hw,l⟩:=EV (v:=t) (o:=valueAt vs<|Sum.inr k) (by rw[<-g];exact rel.val _);exact Iv I T (l8 (P:=X.prog) (w:=X.w) C) hw l j r
  |_=>exact q.elim
 |_=>cases y<;>exact q.elim
def Qv(K:Ak):X_->Hp->VK->Prop:=λxs H Q=>match xs with
 |[.str z]=>z.length<=sizeLine/\Q (.int z.length) H
 |[.ref p]=>∃ys,(bE K H p ys\/eE K H p ys)/\Q (.int ys.length) H
 |_=>False
def Qw:jx X (.builtin "len") (Qv X.K):=by
 intro J s U H j g Q I r h;obtain _|⟨x,_|⟨y,t⟩⟩:=j
 .exact h.elim
 .cases x with
  |str z=>exact uB J s U H _ g Q I r {(z),rfl,h.1,h.2}
  |ref p=>
   obtain⟨l,o,C⟩:=h;exact se J s U H _ g Q I r {(p),l,rfl,o,C}
  |_=>exact h.elim
 .cases x<;>exact h.elim
inductive Da where
 |s (v:V)
 |tup (xs:List Da)
 |lst (xs:List Da)
mutual
def Da.eq:Da->Da->Bool
 |.s v,.s w=>om v w
 |.tup xs,.tup ys=>Da.eqs xs ys
 |.lst xs,.lst ys=>Da.eqs xs ys
 |_,_=>false
def Da.eqs:List Da->List Da->Bool
 |[],[]=>true
 |x::xs,y::ys=>Da.eq x y&&Da.eqs xs ys
 |_,_=>false
end
def a9(K:Ak)(H:Hp):Nat->V->Da->Prop
 |0,v,d=>d=.s v/\bH v=true
 |n+1,v,d=>(d=.s v/\bH v=true)\/(∃a xs ds,v=.ref a/\d=.tup ds/\eE K H a xs/\Paired (a9 K H n) xs ds)\/(∃a xs ds,v=.ref a/\d=.lst ds/\bE K H a xs/\Paired (a9 K H n) xs ds)
theorem Da.YA:∀(ds es:List Da),((List.range<|min ds.length es.length).all (λj=>Da.eq (ds.getD j<|.s .KB)<|es.getD j<|.s .KB)&&ds.length==es.length)=Da.eqs ds es
 |[],[]=>by simp[Da.eqs]
 |[],e::es=>by simp[Da.eqs]
 |d::ds,[]=>by simp[Da.eqs]
 |d::ds,e::es=>by
  have I:=Da.YA ds es;rw[Da.eqs,<-I];have:min (d::ds).length (e::es).length=min ds.length es.length+1:=by simp only[Av];lia
  rw[this,List.range_succ_eq_map,Ee,List.all_map];have J:((d::ds).length==(e::es).length)=(ds.length==es.length):=by simp
  rw[J,Bool.and_assoc];rfl
theorem Paired.at{F:α->β->Prop}:∀{xs:List α} {ys:List β} {j:Nat} {x:α} {y:β},Paired F xs ys->xs[j]?=some x->ys[j]?=some y->F x y:=by
 intro xs ys j x y h
 induction h generalizing j with
 |nil=>intro h _;simp at h
 |cons r t U=>
  intro I J;cases j with|zero=>simp at I J;subst I J;exact r|succ j=>exact U (j:=j) (by simpa using I) (by simpa using J)
abbrev EU:=@Paired.at
theorem hX:∀{v:V},bH v=true->om v v=true
 |.KB,_=>rfl
 |.bl _,_=>by simp[om]
 |.int _,_=>by simp[om]
 |.str _,_=>by simp[om]
def x4{a:Addr}(h:bH (.ref a)=true):False:=by simp[bH] at h
def z9.Y_(I:z9 X pins σ H s){a:Addr}{ys:X_}(h:eE X.K H a xs)(h':bE X.K H a ys):False:=by
 obtain⟨j,_,⟨o,e,c,_⟩,_⟩:=I.tuple h;obtain⟨U,_,⟨l,p,g,J,_⟩,_⟩:=I.list h';rw[e] at g;cases g;rw[c] at J;injection J with J
 exact absurd J (by decide)
theorem t9(I:z9 X pins σ H s):∀(n:Nat) {m:Nat} {x:V} {d e:Da},a9 X.K H n x d->a9 X.K H m x e->Da.eq d e=true
 |0,m,x,d,e,h1,g=>by
  obtain⟨rfl,f⟩:=h1;cases m with
  |zero=>obtain⟨rfl,_⟩:=g;exact hX f
  |succ m=>
   rcases g with⟨rfl,_⟩|⟨a,j,l,rfl,_⟩|⟨a,j,l,rfl,_⟩
   .exact hX f
   .exact(x4 f).elim
   .exact(x4 f).elim
 |n+1,m,x,d,e,h1,g=>by
  have both:∀{j:X_} {l o:List Da} {m:Nat},Paired (a9 X.K H n) j l->Paired (a9 X.K H m) j o->Da.eqs l o=true:=by
   intro j l o m p
   induction p generalizing o with
   |nil=>intro q;cases q;rfl
   |cons r t ih=>
    intro q;cases q with|cons r' t'=>rw[Da.eqs,t9 I n r r',ih t'];rfl
  rcases h1 with⟨rfl,f⟩|⟨a,j,l,rfl,rfl,T,hp⟩|⟨a,j,l,rfl,rfl,T,hp⟩
  .cases m with
   |zero=>obtain⟨rfl,_⟩:=g;exact hX f
   |succ m=>
    rcases g with⟨rfl,_⟩|⟨a,j,l,rfl,_⟩|⟨a,j,l,rfl,_⟩
    .exact hX f
    .exact(x4 f).elim
    .exact(x4 f).elim
  .cases m with
   |zero=>exact(x4 g.2).elim
   |succ m=>
    rcases g with⟨_,f⟩|⟨a',ys,o,C,rfl,J,U⟩|⟨a',ys,o,C,rfl,J,U⟩
    .exact(x4 f).elim
    .cases C;cases I.Yz T J;exact both hp U
    .cases C;exact(I.Y_ T J).elim
  .cases m with
   |zero=>exact(x4 g.2).elim
   |succ m=>
    rcases g with⟨_,f⟩|⟨a',ys,o,C,rfl,J,U⟩|⟨a',ys,o,C,rfl,J,U⟩
    .exact(x4 f).elim
    .cases C;exact(I.Y_ J T).elim
    .cases C;cases I.Yu T J;exact both hp U
def xm{a:Addr}{eh:XR}(p:PlainL h a eh):h.IsList a eh:=let ⟨o,n,e,c,_,d⟩:=p;⟨o,e,c,n,d⟩
def xG{ys:X_}{ds es:List Da}(px:Paired (a9 X.K H n) xs ds)(py:Paired (a9 X.K H m) ys es)(I:zn xs us)(J:zn ys vs)
 (p:∀{x y:V} {d e:Da} {u v:X4},a9 X.K H n x d->a9 X.K H m y e->zq x u->zq y v->SeqAt.EqAt A.in1 s u v (Da.eq d e)):
 ∀j (h1:j<us.toArray.size) (h2:j<vs.toArray.size),SeqAt.EqAt A.in1 s us.toArray[j] vs.toArray[j] (Da.eq (ds.getD j<|.s .KB)<|es.getD j<|.s .KB):=by
 intro j h1 h2;have C:=px.length;have T:=py.length;have l3:=I.length;have l4:=J.length;rw[Az] at h1 h2;have U:xs[j]?=some xs[j]:=An (by lia);have g:ys[j]?=some ys[j]:=An (by lia);have l:ds[j]?=some ds[j]:=An (by lia);have o:es[j]?=some es[j]:=An (by lia);have r:us[j]?=some us[j]:=An (by lia);have t:vs[j]?=some vs[j]:=An (by lia);rw[BI,BI,l,o];exact p (EU px U l) (EU py g o) (EU I U r)<|EU J g t
def GG(ne:Bool)(A:Around)(s:X5)(u v:X4)(k:Bool):Prop:=match ne with
 |true=>SeqAt.RcNeAt A s u v<|!k
 |false=>SeqAt.RcAt A s u v k
def rE(ne:Bool){a b:Addr}{ys:X_}{ds es:List Da}(I:z9 X pins σ H s)(J:A.units<cLine)(l:eE X.K H a xs)(o:eE X.K H b ys)(px:Paired (a9 X.K H n) xs ds)(py:Paired (a9 X.K H m) ys es)
 (p:∀{x y:V} {d e:Da} {u v:X4},a9 X.K H n x d->a9 X.K H m y e->zq x u->zq y v->SeqAt.EqAt A.in1 s u v (Da.eq d e)):GG ne A s (.ref a) (.ref b) (Da.eqs ds es):=by
 obtain⟨r,U,g,_⟩:=I.tuple l;obtain⟨t,j,ty,_⟩:=I.tuple o;have i:=xG px py U j p;cases ne
 case' false=>have q:=SeqAt.RcAt.tuples g ty J i
 case' true=>have q:=SeqAt.RcNeAt.tuples g ty J i
 all_goals
  rw[Az,Az,<-U.length,<-j.length,px.length,py.length,Da.YA] at q;exact q
def u6(ne:Bool){a b:Addr}{ys:X_}{ds es:List Da}(I:z9 X pins σ H s)(g:A.units<cLine)(C:bE X.K H a xs)(T:bE X.K H b ys)(px:Paired (a9 X.K H n) xs ds)(py:Paired (a9 X.K H m) ys es)
 (ih:∀{x y:V} {d e:Da} {u v:X4},a9 X.K H n x d->a9 X.K H m y e->zq x u->zq y v->SeqAt.EqAt A.in1 s u v (Da.eq d e)):GG ne A s (.ref a) (.ref b) (Da.eqs ds es):=by
 obtain⟨l,o,J,_⟩:=I.list C;obtain⟨p,r,ty,_⟩:=I.list T;have J:=xm J;have ty:=xm ty;have e:=Da.YA ds es;have j:ds.length=l.toArray.size:=by rw[<-px.length,o.length,Az]
 have t:es.length=p.toArray.size:=by rw[<-py.length,r.length,Az]
 by_cases U:l.toArray.size=p.toArray.size
 .have i:=xG px py o r ih;rw[t,<-U,<-j,Nat.min_self,beq_self_eq_true,Bool.and_true] at e;cases ne
  case' false=>have q:=SeqAt.RcAt.lists J ty U g i
  case' true=>have q:=SeqAt.RcNeAt.lists J ty U g i
  all_goals
   rw[<-j,e] at q;exact q
 .rw[show(ds.length==es.length)=false by rw[j,t];simpa using U,ED] at e;rw[<-e];cases ne
  .exact SeqAt.RcAt.lists_lengths J ty (by simpa using U) g
  .exact SeqAt.RcNeAt.lists_lengths J ty (by simpa using U) g
def zG(I:z9 X pins σ H s):∀(n:Nat) {m:Nat} {A:Around} {x y:V} {d e:Da} {u v:X4},A.units+n<cLine->a9 X.K H n x d->a9 X.K H m y e->zq x u->zq y v->SeqAt.EqAt A s u v (Da.eq d e):=by
 have J:∀{A:Around} {x:V} {u:X4} {b:Addr} {C:X_},A.units<cLine->bH x=true->zq x u->(eE X.K H b C\/bE X.K H b C)->SeqAt.EqAt A s u (.ref b) false/\SeqAt.EqAt A s (.ref b) u false:=by
  intro A x u b C g f r h;have h':(∃T,s.heap.IsTuple b T)\/∃T,s.heap.IsList b T:=by
   rcases h with h|h
   .obtain⟨T,_,t,_⟩:=I.tuple h;exact .inl {_,t}
   .obtain⟨T,_,t,_⟩:=I.list h;exact .inr {_,xm t}
  cases x with
  |KB=>cases r;rcases h' with⟨_,t⟩|⟨_,t⟩;exact{.none_tuple t g,.tuple_none t g};exact{.none_list t g,.list_none t g}
  |bl k=>cases r;rcases h' with⟨_,t⟩|⟨_,t⟩;exact{.bool_tuple k t g,.tuple_bool k t g};exact{.bool_list k t g,.list_bool k t g}
  |int k=>obtain⟨tk,rfl⟩:=r;rcases h' with⟨_,t⟩|⟨_,t⟩;exact{.int_tuple k tk t g,.tuple_int k tk t g};exact{.int_list k tk t g,.list_int k tk t g}
  |str k=>obtain⟨tk,rfl⟩:=r;rcases h' with⟨_,t⟩|⟨_,t⟩;exact{.str_tuple k tk t g,.tuple_str k tk t g};exact{.str_list k tk t g,.list_str k tk t g}
  |_=>simp[bH] at f
 intro n
 induction n with
 |zero=>
  intro m A x y d e u v g h1 o rx j;obtain⟨rfl,f⟩:=h1;cases m with
  |zero=>obtain⟨rfl,l⟩:=o;exact oQ rx j f l
  |succ m=>
   rcases o with⟨rfl,l⟩|⟨b,C,es,rfl,rfl,U,py⟩|⟨b,C,es,rfl,rfl,U,py⟩
   .exact oQ rx j f l
   .cases j;exact(J (by lia) f rx<|.inl U).1
   .cases j;exact(J (by lia) f rx<|.inr U).1
 |succ n ih=>
  intro m A x y d e u v g h1 o rx j;have a1:A.in1.units+n<cLine:=by lia
  rcases h1 with⟨rfl,f⟩|⟨a,xs,ds,rfl,rfl,p,px⟩|⟨a,xs,ds,rfl,rfl,p,px⟩
  .cases m with
   |zero=>obtain⟨rfl,l⟩:=o;exact oQ rx j f l
   |succ m=>
    rcases o with⟨rfl,l⟩|⟨b,C,es,rfl,rfl,U,py⟩|⟨b,C,es,rfl,rfl,U,py⟩
    .exact oQ rx j f l
    .cases j;exact(J (by lia) f rx<|.inl U).1
    .cases j;exact(J (by lia) f rx<|.inr U).1
  .cases rx;cases m with
   |zero=>obtain⟨rfl,l⟩:=o;exact(J (by lia) l j<|.inl p).2
   |succ m=>
    rcases o with⟨rfl,l⟩|⟨b,C,es,rfl,rfl,U,py⟩|⟨b,C,es,rfl,rfl,U,py⟩
    .exact(J (by lia) l j<|.inl p).2
    .cases j;by_cases a0:a=b
     .subst a0;cases I.Yz p U;have e:=t9 I (n+1) (m:=m+1) (x:=.ref a) (.inr<|.inl {(a),xs,ds,rfl,rfl,p,px})<|.inr<|.inl {(a),xs,es,rfl,rfl,U,py};rw[e];exact .same _
     .exact .of_refs a0<|rE false I (by lia) p U px py λh1 o r1 r2=>ih a1 h1 o r1 r2
    .cases j;obtain⟨us,vx,tx,_⟩:=I.tuple p;obtain⟨vs,vy,ty,_⟩:=I.list U;exact .tuple_list tx (xm ty) (by lia)
  .cases rx;cases m with
   |zero=>obtain⟨rfl,l⟩:=o;exact(J (by lia) l j<|.inr p).2
   |succ m=>
    rcases o with⟨rfl,l⟩|⟨b,C,es,rfl,rfl,U,py⟩|⟨b,C,es,rfl,rfl,U,py⟩
    .exact(J (by lia) l j<|.inr p).2
    .cases j;obtain⟨us,vx,tx,_⟩:=I.list p;obtain⟨vs,vy,ty,_⟩:=I.tuple U;exact .list_tuple (xm tx) ty (by lia)
    .cases j;by_cases a0:a=b
     .subst a0;cases I.Yu p U;have e:=t9 I (n+1) (m:=m+1) (x:=.ref a) (.inr<|.inr {(a),xs,ds,rfl,rfl,p,px})<|.inr<|.inr {(a),xs,es,rfl,rfl,U,py};rw[e];exact .same _
     .exact .of_refs a0<|u6 false I (by lia) p U px py λh1 o r1 r2=>ih a1 h1 o r1 r2
def Qx(K:Ak)(k:Nat)(ne:Bool):R2:=λx y H Q=>match x,y with
 |.ref a,.ref b=>∃n m d e,n<=k/\a9 K H n (.ref a) d/\a9 K H m (.ref b) e/\Q (.bl<|Ff ne<|Da.eq d e) H
 |x,y=>HQ x y=true/\Q (.bl<|Ff ne<|decide<|x=y) H
def Qy(ne:Bool){k:Nat}(U:X.A.units+k<cLine):aB X (compareOp<|FE ne) (Qx X.K k ne):=by
 intro J s T H x y v u Q I rx ry h;cases x with
 |ref a=>
  cases y with
  |ref b=>
   obtain⟨n,m,d,e,hn,o,g,q⟩:=h;cases rx;cases ry;have xg:GG ne X.A s (.ref a) (.ref b) (Da.eq d e)->_S X (compareOp (FE ne) (.ref a)<|.ref b) (EP X J T Q) X.xe s:=λr=>by cases ne<;>exact r X.prog X.w X.xe (EP X J T Q) {.bl _,H,I,rfl,q}
   cases n with
   |zero=>exact(x4 o.2).elim
   |succ n=>
    cases m with
    |zero=>exact(x4 g.2).elim
    |succ m=>
     have p:X.A.in1.units+n<cLine:=by lia
     have U:X.A.units<cLine:=by lia
     rcases o with⟨_,f⟩|⟨a',xs,ds,e1,rfl,t,px⟩|⟨a',xs,ds,e1,rfl,t,px⟩
     .exact(x4 f).elim
     .cases e1;rcases g with⟨_,f⟩|⟨b',ys,es,j,rfl,l,py⟩|⟨b',ys,es,j,rfl,l,py⟩
      .exact(x4 f).elim
      .cases j;exact xg<|rE ne I U t l px py λo g r1 r2=>zG I n p o g r1 r2
      .cases j;obtain⟨us,vx,C,_⟩:=I.tuple t;obtain⟨vs,vy,ty,_⟩:=I.list l;exact xg (by cases ne;exact SeqAt.RcAt.tuple_list C (xm ty) U;exact SeqAt.RcNeAt.tuple_list C (xm ty) U)
     .cases e1;rcases g with⟨_,f⟩|⟨b',ys,es,j,rfl,l,py⟩|⟨b',ys,es,j,rfl,l,py⟩
      .exact(x4 f).elim
      .cases j;obtain⟨us,vx,C,_⟩:=I.list t;obtain⟨vs,vy,ty,_⟩:=I.tuple l;exact xg (by cases ne;exact SeqAt.RcAt.list_tuple (xm C) ty U;exact SeqAt.RcNeAt.list_tuple (xm C) ty U)
      .cases j;exact xg<|u6 ne I U t l px py λo g r1 r2=>zG I n p o g r1 r2
  |_=>exact HV ne J s T H _ _ v u Q I rx ry h
 |_=>cases y<;>exact HV ne J s T H _ _ v u Q I rx ry h
def Qz{c:Addr}(I:Gl X x)(J:X.mg x=some (.ref c))(hd:Fc x:=by decide):PE X (.Name x pos) (tC<|.ref c):=NI I J (v:=.ref c) rfl hd
def QB{T:X9}(I:Gl X x)(J:X.mg x=none)(U:bootBuiltins x=some (.type T))(g:x ≠ "__name__" := by decide)(hd:Fc x:=by decide):PE X (.Name x pos) (tC<|.ty T):=NJ I J U (v:=.ty T) rfl g hd
structure Zs(P:X6)(w:X7)(K:Ak)(mg:XM)(base:X8)(k:Nat)(x:Str)(ps:XT)(sp:Sp):Prop where
 ex:∃f fd,bp P w K mg base Zg k f fd ps sp/\aZ K fd ps []/\PySem.W.keepIn K (.ref f)=true/\mg x=some (.ref f)
def QC{k:Nat}{sp:Sp}{t:TA}{p:Pos}(c:Zs X.prog X.w X.K X.mg X.base k x ps sp)(U:wx k X.A)(g:Gl X x)(j:PA X (e::es) t)(I:Fc x:=by decide)
 (l:E9 e es X:=by rfl) (J:Fb pos es X:=by rfl):PE X (.Call (.Name x p) (e::es) [] pos) (HX sp [] E0 t):=by
 obtain⟨f,fd,F,b,o,m⟩:=c.ex;exact Pm F U g m o b .nil GC j I l J
theorem Zs.mono{P:X6}{w:X7}{K:Ak}{k:Nat}{sp:Sp}(c:Zs P w K mg base j x ps sp)(h:j<=k):Zs P w K mg base k x ps sp:=by obtain⟨f,fd,F,b,I,m⟩:=c.ex;exact{f,fd,F.mono h,b,I,m}
variable {ds:List Da}
def oR(env:Env):List (Str×NameKind)->List (Str×Addr)->List (Str×Addr)
 |[],cs=>cs
 |(n,k)::r,cs=>oR env r<|if k==.free then(n,(env.cells.lookup n).getD 0)::cs else cs
def fz(scope:Scope)(env:Env):List (Str×Addr):=oR env scope.names []
theorem vY{env:Env}:∀{names:List<|Str×NameKind} {cs:List<|Str×Addr} {p:Str×Addr},p∈oR env names cs->p∈cs\/((p.1,NameKind.free)∈names/\p.2=(env.cells.lookup p.1).getD 0)
 |[],_,_,h=>.inl h
 |(n,k)::r,cs,p,h=>by
  rcases vY (names:=r) h with q|⟨q,e⟩
  .by_cases I:(k==NameKind.free)=true
   .rw[Ay I] at q;rcases Ao.mp q with rfl|q
    .have:k=.free:=by simpa using I
     exact .inr {by rw[this];exact Ai,rfl}
    .exact .inl q
   .rw[Au I] at q;exact .inl q
  .exact .inr {Ac _ q,e}
theorem wO{env:Env}{x:Str}:∀{names:List<|Str×NameKind} {cs:List<|Str×Addr},((∃c,(x,c)∈cs)\/(x,NameKind.free)∈names)->∃c,(x,c)∈oR env names cs
 |[],_,.inl h=>h
 |[],_,.inr h=>by simp at h
 |(n,k)::r,cs,h=>by
  refine wO (names:=r) ?_;rcases h with⟨c,h⟩|h
  .left;by_cases I:(k==NameKind.free)=true
   .rw[Ay I];exact{c,Ac _ h}
   .rw[Au I];exact{(c),h}
  .rcases Ao.mp h with e|h
   .left;injection e with J U
    subst J;subst U;exact{_,Ai}
   .exact .inr h
theorem g9{x:Str}:∀{l:List<|Str×Addr} {c:Addr},(x,c)∈l->∃I,l.lookup x=some I
 |(n,d)::r,c,h=>by
  rw[Bt];cases J:x==n with
  |true=>exact{(d),rfl}
  |false=>
   rcases Ao.mp h with e|h
   .injection e with U _;subst U;simp at J
   .exact g9 h
def mB(h:∀n,(n,NameKind.free)∈scope.names->∃c,env.cells.lookup n=some c):closureFor scope env=pure (fz scope env):=by
 unfold closureFor fz;have key:∀(names:List<|Str×NameKind) (I:List<|Str×Addr),(∀n,(n,NameKind.free)∈names->∃c,env.cells.lookup n=some c)->
  (forIn names I λx (r:List<|Str×Addr)=>(match x with|(name,kind)=>if kind==NameKind.free then do let a <-cellOf env name;pure (ForInStep.yield<|(name,a)::r) else pure (ForInStep.yield r):Sem<|ForInStep<|List<|Str×Addr))=pure (oR env names I):=by
  intro names
  induction names with
  |nil=>intro I _;rfl
  |cons p r o=>
   intro I J;obtain⟨n,k⟩:=p;rw[Cq];cases U:k==NameKind.free with
   |true=>
    have g:k=.free:=by simpa using U
    subst g;obtain⟨c,t⟩:=J n Ai;have e:cellOf env n=pure c:=by unfold cellOf;rw[t]
    simp only[beq_self_eq_true,if_true,e];have j:oR env ((n,NameKind.free)::r) I=oR env r ((n,c)::I):=by show oR env r _=_;rw[t];rfl
    rw[j];exact o ((n,c)::I) λm l=>J m<|Ac _ l
   |false=>
    simp only[U,B4,if_false];have j:oR env ((n,k)::r) I=oR env r I:=by show oR env r (if (k==NameKind.free)=true then _ else _)=_;rw[U];rfl
    rw[j];exact o I λm l=>J m<|Ac _ l
 exact(BU (· >>= pure)<|key scope.names [] h)
theorem aP{env:Env}{x:Str}:∀{names:List<|Str×NameKind},
 (names.map λ(n,k)=>if (k==NameKind.free&&env.scope.kind==.function&&env.kindOf n==some .cell) then(n,NameKind.cell) else(n,k)).lookup x
  = (names.lookup x).map λk=>if (k==NameKind.free&&env.scope.kind==.function&&env.kindOf x==some .cell) then NameKind.cell else k
 |[]=>rfl
 |(n,k)::r=>by
  have g:=@aP env x r;show List.lookup x ((if (k==NameKind.free&&env.scope.kind==.function&&env.kindOf n==some .cell)=true then(n,NameKind.cell) else(n,k))::_)=_;cases J:x==n with
  |true=>
   have U:x=n:=by simpa using J
   subst U;by_cases I:(k==NameKind.free&&env.scope.kind==.function&&env.kindOf x==some .cell)=true
   .rw[Ay I];simp only[Bt,beq_self_eq_true,Option.map_some];rw[Ay I]
   .rw[Au I];simp only[Bt,beq_self_eq_true,Option.map_some];rw[Au I]
  |false=>
   by_cases I:(k==NameKind.free&&env.scope.kind==.function&&env.kindOf n==some .cell)=true
   .rw[Ay I];simp only[Bt,J];exact g
   .rw[Au I];simp only[Bt,J];exact g
def Cx.comp(X:Cx)(scope:Scope)(T:XT)(C:Addr)(fp:List Addr)(s₀:X5)(H₀:Hp):Cx:=
 {X with N:=X.N++T,s₀:=s₀,H₀:=H₀,env:=compEnvC scope (fz scope X.env) C X.env,outer:=X.stack,ex:=fp,fn:=λ_=>false,xe:=λ_ _=>False}
structure ji(X:Cx)(scope:Scope):Prop where
 kind:scope.kind=.function
 ZH:∀y∈scope.names,y.2≠.cell
 names:∀y∈scope.names,y.2=.local->scope.names.lookup y.1=some .local
 free:∀n,scope.names.lookup n=some .free->X.env.kindOf n=some .cell\/X.env.kindOf n=some .free
 Z6:∀n,(n,NameKind.free)∈scope.names->X.env.kindOf n=some .cell\/X.env.kindOf n=some .free
 apart:∀x∈X.N,scope.names.lookup x≠some .local
def ji.clo(S:ji X scope)(I:z9 X pins σ H s):closureFor scope X.env=pure (fz scope X.env):=
 mB λn h=>I.ok.has n<|S.Z6 n h
def ji.Yo(S:ji X scope)(I:z9 X pins σ H s){c:Addr}(h:(fz scope X.env).lookup x=some c):X.env.cells.lookup x=some c:=by
 rcases vY (BR h) with q|⟨q,e⟩
 .simp at q
 .obtain⟨d,hd⟩:=I.ok.has x<|S.Z6 x q;have J:c=(X.env.cells.lookup x).getD 0:=e;rw[hd] at J ⊢;rw[J];rfl
def ji.ZG(_:ji X scope)(h:scope.names.lookup x=some .free):∃c,(fz scope X.env).lookup x=some c:=by obtain⟨c,I⟩:=wO (env:=X.env) (names:=scope.names) (cs:=[]) (x:=x)<|.inr<|BR h;exact g9 I
theorem ji.kindOf(S:ji X scope)(h:(compEnvC scope (fz scope X.env) C X.env).kindOf x=some .cell\/(compEnvC scope (fz scope X.env) C X.env).kindOf x=some .free):scope.names.lookup x=some .free:=by
 have e:(compEnvC scope (fz scope X.env) C X.env).kindOf x=(scope.names.lookup x).map λk=>if (k==NameKind.free&&X.env.scope.kind==.function&&X.env.kindOf x==some .cell) then NameKind.cell else k:=aP
 rw[e] at h;cases I:scope.names.lookup x with
 |none=>rw[I] at h;rcases h with h|h<;>cases h
 |some k=>
  rw[I] at h;cases k with|free=>rfl|cell=>exact absurd rfl (S.ZH _<|BR I)|_=>rcases h with h|h<;>cases h
def ji.vis(S:ji X scope)(U:x∈X.N)(h:Db (compEnvC scope (fz scope X.env) C X.env).scope x):scope.names.lookup x=some .free:=by
 rcases h with h|h|h
 .exfalso;have e:(compEnvC scope (fz scope X.env) C X.env).kindOf x=(scope.names.lookup x).map λk=>if (k==NameKind.free&&X.env.scope.kind==.function&&X.env.kindOf x==some .cell) then NameKind.cell else k:=aP
  have I:(compEnvC scope (fz scope X.env) C X.env).kindOf x=some .local:=h;rw[e] at I;cases J:scope.names.lookup x with
  |none=>rw[J] at I;cases I
  |some k=>
   rw[J] at I;have I:(if (k==NameKind.free&&X.env.scope.kind==.function&&X.env.kindOf x==some .cell)=true then NameKind.cell else k)=.local:=AR I;split at I
   .cases I
   .subst I;exact S.apart x U J
 .exact S.kindOf (C:=C)<|.inl h
 .exact S.kindOf (C:=C)<|.inr h
def ji.back(S:ji X scope)(h:scope.names.lookup x=some .free):(compEnvC scope (fz scope X.env) C X.env).kindOf x=some .cell\/(compEnvC scope (fz scope X.env) C X.env).kindOf x=some .free:=by
 have e:(compEnvC scope (fz scope X.env) C X.env).kindOf x=(scope.names.lookup x).map λk=>if (k==NameKind.free&&X.env.scope.kind==.function&&X.env.kindOf x==some .cell) then NameKind.cell else k:=aP
 rw[e,h];show some (if _ then _ else _)=_\/some (if _ then _ else _)=_;split
 .exact .inl rfl
 .exact .inr rfl
def PF(X:Cx)(jl:XU)(t:TT):Prop:=
 ∀(pins:List<|Addr×Obj) (s:X5) (σ:St) (H:Hp) (Q:Bool->Hp->Prop),z9 X pins σ H s->t σ H Q->
  _S X (forIn jl true λc r=>if r=true then do let ok <-isTrue c X.env (eval c X.env);pure (ForInStep.yield ok) else pure (ForInStep.yield r)) (TP X pins σ Q) X.xe s
def QD:TT:=λ_ H Q=>Q true H
def QH :PF X [] QD:=λ_ _ _ H _ I h=>Al {(H),I,h}
def QJ{t:TT}(hc:PT X c t):PF X [c] t:=by intro J s U H Q I h;rw[Cq];simp only[if_true];refine Aa<|Aa<|aN (hc J s U H Q I h) λb g q=>Al ?_;exact Al q
def gD{w:X7}{R:Result->X5->Prop}{iter:Expr}{it C:X4}(I:Nat->X5->Prop)
 (turn:∀n s,I n s->wpAny (model prog w) A (pyNext it) (λr J=>match r with
  |none=>R (.ok .next) J
  |some v=>wpAny (model prog w) A (letOwnedTupleGo target it v) (λ_ J=>wpAny (model prog w) A (assign target env v) (λ_ l=>
   wpAny (model prog w) A (forIn jl true λc r=>if r=true then do let ok <-isTrue c env (eval c env);pure (ForInStep.yield ok) else pure (ForInStep.yield r)) (λok g=>
    if ok=true then wpAny (model prog w) A (eval mj env) (λx o=>
     wpAny (model prog w) A (call (.builtin "list.append") [C,x]) (λ_ p=>∃m,m<n/\I m p) (λ_ _=>False) o) (λ_ _=>False) g
    else ∃m,m<n/\I m g) (λ_ _=>False) l) (λ_ _=>False) J) (λ_ _=>False) J) (λ_ _=>False) s)
 (n:Nat) (h:I n s):
 codeAny (model prog w) A (.compLoop (.ListComp mj [{target,iter,jl,0}] scope pos) 0 it C env) R s:=by
 refine codeAny_loop rfl I (λn s hI=>?_) n h;show wpAny _ A ((compTurn (.ListComp mj [{target,iter,jl,0}] scope pos) 0 it C env).onRaise (λx=>do noteFrame x env;theTreesLotGoes x)) _ _ s;refine wpAny_noted ?_;rw[compTurn_list];refine Aa<|wpAny_standAt<|Aa<|Bd (turn n s hI) (λr J U=>?_) λ_ _ j=>j.elim;cases r with
 |none=>exact Al U
 |some v=>
  refine Aa<|Bd U (λ_ J U=>?_) λ_ _ j=>j.elim;refine Aa<|Bd U (λ_ l T=>Aa<|Bd T (λok g t=>?_) λ_ _ j=>j.elim) λ_ _ j=>j.elim;cases ok with
  |false=>exact Al {(rfl),t}
  |true=>
   exact Aa<|Aa<|Bd t (λx o a0=>Aa<|Bd a0 (λ_ p a1=>Al<|Al {(rfl),a1}) λ_ _ j=>j.elim) λ_ _ j=>j.elim
def GH(n:Nat)(wi:TI)(g:TG)(tc:TT)(te:TE):TE:=λσ H Q=>wi σ H λJ H1=>∃W:Nat->Nat->X_->Hp->Prop,(∃m,W 0 m [] H1)/\∀i m ys H,W i m ys H->
 (J.stop i H/\ys.length<=sizeLine/\∀D,H D=none->Q (.ref D) (upd H D<|.lst ys))\/
 (J.go i H/\ys.length<sizeLine/\∀x H',J.Zk i H x H'->g x (σ++List.replicate n none) H' λI H2=>tc I H2 λb j=>
  if b=true then te I j λy l=>∃U,U<m/\W (i+1) U (ys++[y]) l else ∃U,U<m/\W (i+1) U ys j)
def sF(g:TG)(n k:Nat):Prop:=∀(σ:St),σ.length=n->∀x H Q,g x (σ++List.replicate k none) H Q->
 g x (σ++List.replicate k none) H λI H2=>((I.length=n+k/\∀(i:Nat) v,(σ++List.replicate k none)[i]?=some (some v)->I[i]?=some (some v))/\Q I H2)
section
variable {T:XT}{iter:Expr}{g:TG}{tc:TT}{te:TE}
def ltN{b:Addr}{o:Obj}(e:h.get? b=some o):@LT.lt Nat instLTNat b h.objs.size:=pj e
def xN{a b:Addr}(h:@Ne Nat a b):a≠b:=h
def xT{a b:Addr}(h:@LE.le Nat instLENat a b):a<=b:=h
def QK(eh:XQ)(n:Nat)(u:X4):∃n',Obj.mapSeq (·.push u) {cls:=.type "list",data:=.seq eh.toArray n}=({cls:=.type "list",data:=.seq (eh++[u]).toArray n'}:Obj):=
 ⟨_,by simp[Obj.mapSeq];rfl⟩
def zH{w:X7}{D:Addr}(I:s.heap.get? D=some {cls:=.type "list",data:=.seq eh.toArray n})
 (hz:eh.length<=sizeLine) (h:∀h' n',Heap.SameBut D s.heap h'->h'.get? D=some {cls:=.type "list",data:=.seq (eh++[u]).toArray n'}->Q .none {s with heap:=h'}):
 wpAny (model prog w) A (call (.builtin "list.append") [.ref D,u]) Q E s:=by
 have U:s.heap.IsList D eh.toArray:={_,I,rfl,n,rfl};refine wpAny_call_entry slot_list_append U.typeIs entry_list_append ?_<|args_list_append _ _;show wpAny _ _ (updateSeq D (·.push u) >>= λ_=>ret .none) _ _ s;refine Aa ?_;obtain⟨n',J⟩:=QK eh n u;refine wpAny_updateSeq (f:=(·.push u)) I rfl (Al {.none,rfl,h _ n' (pR ..) ?_}) (by rw[Az];exact hz) (by rw[Bx,Az];exact Nat.succ_le_succ hz);rw[<-J];exact qy _ I (by rw[J];rfl)
theorem oM{Q:VK}{c2:X4}{I:X5}{RR:X4->Addr->Result->X5->Prop}
 (S:ji X scope) (hc:X.calm=true)
 (hg:∀C fp s₀ H₀,PG (X.comp scope T C fp s₀ H₀) target g) (cw:sF g X.N.length T.length) (hf:∀C fp s₀ H₀,PF (X.comp scope T C fp s₀ H₀) jl tc) (he:∀C fp s₀ H₀,PE (X.comp scope T C fp s₀ H₀) mj te)
 (h:Gp X pins σ target (λJ H1=>∃W:Nat->Nat->X_->Hp->Prop,(∃m,W 0 m [] H1)/\∀i m ys H,W i m ys H->
  (J.stop i H/\ys.length<=sizeLine/\∀D,H D=none->Q (.ref D) (upd H D<|.lst ys))\/
  (J.go i H/\ys.length<sizeLine/\∀x H',J.Zk i H x H'->g x (σ++List.replicate T.length none) H' λc3 H2=>tc c3 H2 λb H3=>
   if b=true then te c3 H3 λy H4=>∃m',m'<m/\W (i+1) m' (ys++[y]) H4 else ∃m',m'<m/\W (i+1) m' ys H3)) c2 I)
 (cx:∀D C s' H' m',z9 X pins σ H' s'->mL X pins H' C->s'.heap.Ns C m'->Q (.ref D) H'->RR (.ref D) C (.ok .next) s'):
 _S X (newList []) (λc4 al=>_S X (newFunctionEnv scope X.env.globals (fz scope X.env) [] X.env.qual none .none<|some X.env) (λbd c5=>
  codeAny (model X.prog X.w) X.A (.compStart (.ListComp mj [{target,iter,jl,0}] scope pos) 0 c2 c4 {bd with scope:=relabel scope X.env}) (RR c4 bd.locals) c5) E al) E I:=by
 obtain⟨it,fp,tn,J,H2,rfl,U,Tn,bf,f2,W,⟨m0,w0⟩,turn⟩:=h;refine BG (wpAny_newFunctionEnv S.ZH (by intro y hy;simp at hy) (λax ab t=>?_) S.kind);dsimp only at ab t ⊢;generalize bg:I.heap.push {cls:=.type "list",dict:=none,data:=.seq ([]:XQ).toArray}=G at ab t ⊢;have hC:G.objs.size=I.heap.objs.size+1:=by rw[<-bg,vc]
 obtain⟨D,eD⟩:∃D,I.heap.objs.size=D:={_,rfl};obtain⟨C,eC⟩:∃C,G.objs.size=C:={_,rfl};rw[eD] at hC ⊢;rw[eC] at hC ab t ⊢;have bh:D≠C:=by lia
 have old:∀b o,I.heap.get? b=some o->ax.get? b=some o:=λb o e=>by have j:=ltN e;exact t.extBut b o (xN (by lia))<|oi _<|bg▸oi _ e
 have c6:ax.get? D=some {cls:=.type "list",data:=.seq ([]:XQ).toArray 0}:=by refine t.extBut _ _ bh<|oi _ ?_;rw[<-bg,<-eD];exact pG _ rfl
 have bi:∀b∈fp,@LT.lt Nat instLTNat b I.heap.objs.size:=λb j=>by obtain⟨o,e,_⟩:=Tn.obj _ _ bf b j;exact ltN e
 have c7:@LT.lt Nat instLTNat X.env.locals I.heap.objs.size:=U.lt;have e4:=U.sz;have HD:=U.HT.fresh<|xT (by exact xV);have HC:H2 C=none:=U.HT.fresh<|xT (by lia);have cy:∀b:Addr,@LE.le Nat instLENat I.heap.objs.size b->b∉Ze X.stack:=λb j z=>by
  have q:=U.YI b z;rcases Ao.mp q with q|q
  .rw[<-q] at c7;exact absurd c7<|EK.mpr j
  .exact U.Z' j q
 have aL:∀x c,X.env.cells.lookup x=some c->@LT.lt Nat instLTNat c I.heap.objs.size:=λx c e=>by obtain⟨v,q⟩:=U.cell x c e;exact q.lt
 let X':Cx:=X.comp scope T C fp I H2
 have bj:X'.Ok:={
  mod:=U.ok.mod,kind:=S.kind,glob:=U.ok.glob,blt:=U.ok.blt
  above:=xT (by show @LE.le Nat instLENat I.heap.objs.size C;lia)
  inj:=λx y c h1 h2=>U.ok.inj x y c (S.Yo U h1) (S.Yo U h2)
  has:=λx hx=>S.ZG (S.kindOf hx)
  _b:=λx c hx=>absurd (show false=true from hx) (by simp)
  hd:=U.ok.hd,frames:=U.ok.frames,_t:=.inl rfl
  _B:=λb j=>{xN (by have:=bi b j;show @Ne Nat b C;lia),λx c e=>(f2 b j).2.2.2.2.1 x c<|S.Yo U e}
  bs:=U.bs,ZU:=AS U.ok.ZU U.sz
  Y4:=λb o e j=>by
   obtain⟨e0,n0⟩:=U.ok.bs b o e;rcases (f2 b j).2.2.2.1 with q|q
   .exact U.ok.Y4 b o e q
   .have q':=q;have:=ltN e0;lia
  Y5:=λb j z=>by
   rcases Ao.mp (U.YI b z) with q|q
   .exact(f2 b j).2.1 q
   .exact(f2 b j).2.2.1 q
  Yt:=U.stack,ZZ:=U.Y9}
 have I4:∀tk,0<tk->z9 X' pins (σ++List.replicate T.length none) H2 {I with heap:=ax,toks:=tk}:=λtk cz=>{
  tk:=cz,ok:=bj,os:=rfl,bare:=U.bare,base:=Un.kept old
  loc:={_,ab,λi x v e1 e2 e3=>by
   have hi:i<σ.length:=by
    by_cases hi:i<σ.length
    .exact hi
    .rw[AL (by exact FH),CB] at e2;split at e2<;>cases e2
   rw[AH hi] at e2;have cB:i<X.N.length:=by rw[<-U.len];exact hi
   have c8:X.N[i]?=some x:=by have:(X.N++T)[i]?=some x:=e1;rw[AH cB] at this;exact this
   have bm:=S.vis (Ar c8) e3;obtain⟨m,hn,hl⟩:=U.loc;have hk:=S.free x bm;obtain⟨u,r,l⟩:=hl i x v c8 e2<|.inr hk;refine{u,r,.inr {S.back bm,?_}};rcases l with⟨l,_⟩|⟨_,c,e,z⟩
   .rw[l] at hk;rcases hk with q|q<;>cases q
   .obtain⟨c',e'⟩:=S.ZG bm;have c9:=S.Yo U e';rw[e] at c9;cases c9;exact{c,e',z.keeps old}}
  cell:=λx c e=>by obtain⟨v,z⟩:=U.cell x c<|S.Yo U e;exact{v,z.keeps old}
  free:=HC,Os:=λx c e=>U.Os x c (S.Yo U e)
  pin:=λp hp=>by
   obtain⟨a,b,c,d,e⟩:=U.pin p hp;have cP:=ltN a;refine{old _ _ a,b,xN (by show @Ne Nat p.1 C;lia),λz=>?_,e};rcases Ao.mp (U.YI _ z) with q|q
   .exact c q
   .exact d q
  HT:=U.HT.kept old
  len:=by show(σ++_).length=(X.N++T).length;rw[Ab,Ab,BZ,U.len]}
 have bS:∀(au:List<|Addr×Obj) (H':Hp),(∀p∈au,p∈pins\/p.1=D)->(∀b∈fp,H' b=none)->∀b∈fp,mL X' au H' b:=λau H' hp hn b j=>by
  obtain⟨_,q1,q2,q3,q4,q5⟩:=f2 b j;have cP:=bi b j;refine{hn b j,xN (by show @Ne Nat b C;lia),bj.Y5 b j,.inl j,(bj._B b j).2,λp d0=>?_};rcases Ag.mp d0 with z|z
  .exact q5 p<|Am _ z
  .rcases hp p z with z|z
   .exact q5 p<|Ae _ z
   .rw[z];exact xN (by lia)
 have Ys:Tn.keep=Tn.keep:=rfl;have be:∀al:X5,al={I with heap:=ax,toks:=I.toks+([]:List<|Str×X4).length}->
  codeAny (model X.prog X.w) X.A (.compLoop (.ListComp mj [{target,iter,jl,0}] scope pos) 0 (.ref it) (.ref D) X'.env) (RR (.ref D) C) al:=by
  rintro al rfl;refine gD (λn s'=>∃i c0 H' ys ac k,z9 X' pins c0 H' s'/\(c0.length=X.N.length+T.length/\∀(i:Nat) v,(σ++List.replicate T.length none)[i]?=some (some v)->c0[i]?=some (some v))/\
   s'.heap.get? D=some {cls:=.type "list",data:=.seq (ac:XQ).toArray k}/\zn ys ac/\H' D=none/\tn i s'.heap/\(∀b∈fp,H' b=none)/\W i n ys H') ?_ m0
   ⟨0,_,H2,[],[],0,I4 _ U.tk,⟨by rw[Ab,BZ,U.len],λ_ _ e=>e⟩,c6,.nil,HD,Tn.keep _ _ _ bf λb _ o e=>old b o e,λb j=>(f2 b j).1,w0⟩
  rintro n s3 ⟨i,e5,H3,ys,ac,k,I3,⟨dc,dd⟩,de,bb,bc,ca,cb,w3⟩;have dV:=bb.length.symm;have cc:D∉X'.fs:=cy D (by exact xV);have ck:D≠X'.env.locals:=bh;have cm:z9 X' (pins++[(D,{cls:=.type "list",data:=.seq ac.toArray k})]) (σ++List.replicate T.length none) H3 s3:=
   (I3.weak (by rw[dc,Ab,BZ,U.len]) dd).YW λp hp=>by
    rcases Ag.mp hp with z|z
    .exact I3.pin p<|Ae _ z
    .have e:=Aj.mp z;subst e;exact{de,bc,ck,cc,λv z=>by cases z}
  have av:∀p∈pins++[(D,({cls:=.type "list",data:=.seq ac.toArray k}:Obj))],p∈pins\/p.1=D:=λp hp=>by
   rcases Ag.mp hp with z|z
   .exact .inl z
   .exact .inr (by rw[Aj.mp z])
  rcases turn i n ys H3 w3 with⟨stop,hz,qn⟩|⟨go,hz,step⟩
  .refine aN (Tn.done X' rfl rfl rfl hc i _ s3 _ H3 _ cm (bS _ H3 av cb) ca stop) λr s4 ⟨hr,a0⟩=>?_;subst hr;obtain⟨di,e6,_⟩:=a0.pin (D,_)<|Ae _<|Ae _ Ai;obtain⟨m',dj,_⟩:=a0.loc;have un:Un (Ze X.stack) fp H2 (upd H3 D<|.lst ys) I.heap s4.heap:={
    keep:=a0.base.keep,slot:=a0.base.slot
    free:=λb o e n hx=>by have:=ltN e;rw[qm<|xN (by lia)];exact a0.base.free b o e n hx
    there:=a0.base.there
    Yy:=λb xs e=>by rw[qm (λz=>by rw[z,HD] at e;cases e)];exact a0.base.Yy b xs e
    YJ:=λb o u e=>by rw[qm (λz=>by rw[z,HD] at e;cases e)];exact a0.base.YJ b o u e
    YL:=λb ps e=>by rw[qm (λz=>by rw[z,HD] at e;cases e)];exact a0.base.YL b ps e}
   have dp:gY X.prog X.w (upd H3 D<|.lst ys) s4.heap:=λb u e=>by
    by_cases j:b=D
    .subst j;rw[zg] at e;cases e;exact{(hz),ac,k,bb,di}
    .rw[qm j] at e;refine(a0.HT b u e).Ys (λ_ _ _ q=>q) (λc q=>?_) λc xs q=>?_
     .rw[qm<|zo q bc];exact q
     .rw[qm<|zo q bc];exact q
   have I5:=U.ZF (ch:=fp) a0.os un dp a0.bare λb j=>{(f2 b j).2.2.2.1,(f2 b j).2.1,(f2 b j).2.2.2.2.1,(f2 b j).2.2.2.2.2};refine cx D C s4 _ m' I5 ?_ dj<|qn D bc;refine{by rw[qm<|AJ bh];exact a0.free,?_,?_,.inr ?_,λx c e=>?_,λp hp=>?_}
   .exact xN (by lia)
   .exact U.Z'<|xT (by lia)
   .exact xT (by lia)
   .exact xN (by have:=aL x c e;lia)
   .exact xN (by have:=ltN (U.pin p hp).1;lia)
  .refine aN (Tn.item X' rfl rfl rfl hc i _ s3 _ H3 _ cm (bS _ H3 av cb) ca go) λr s4 ψ=>?_;obtain⟨u,hr,h4⟩:=ψ;subst hr;refine aN h4 λ_ s5 ψ=>?_;obtain⟨x,H5,I5,r5,y5,c1,dv⟩:=ψ;have dG:=I5.pinned (bS _ H5 av dv)<|Tn.obj _ _ c1;refine Bd ((hg C fp I H2) _ s5 _ H5 x u _ dG r5<|cw σ U.len x H5 _<|step x H5 y5) (λ_ s6 ψ=>?_) λ_ _ z=>z;obtain⟨ba,H6,I6,⟨cn,cq⟩,q6⟩:=ψ;refine Bd ((hf C fp I H2) _ s6 ba H6 _ I6 q6) (λb s7 ψ=>?_) λ_ _ z=>z;obtain⟨H7,I7,q7⟩:=ψ;have xg:∀{s8:X5} {H8:Hp} (I8:z9 X' ((pins++[(D,{cls:=.type "list",data:=.seq ac.toArray k})])++nR fp s5.heap) ba H8 s8),tn (i+1) s8.heap/\(∀b∈fp,H8 b=none)/\s8.heap.get? D=some {cls:=.type "list",data:=.seq ac.toArray k}/\H8 D=none/\z9 X' pins ba H8 s8:=λ{s8 H8} I8=>by
    refine{Tn.keep _ _ _ c1 λb j o e=>(I8.pin (b,o)<|Ae _<|Ae _<|dF j e).1,λb j=>?_,?_,?_,I8.SZ.SZ}
    .obtain⟨o,e,d⟩:=Tn.obj _ _ c1 b j;exact(I8.pin (b,o)<|Ae _<|Ae _<|dF j e).2.1
    .exact(I8.pin (D,_)<|Ae _<|Am _<|Ae _ Ai).1
    .exact(I8.pin (D,_)<|Ae _<|Am _<|Ae _ Ai).2.1
   cases b with
   |false=>
    rw[Au AK] at q7 ⊢;obtain⟨m',hm,w7⟩:=q7;obtain⟨a1,a2,a3,a4,a5⟩:=xg I7;exact{m',hm,i+1,ba,H7,ys,ac,k,a5,{(cn),cq},a3,bb,a4,a1,a2,w7}
   |true=>
    rw[Ay rfl] at q7 ⊢;refine Bd ((he C fp I H2) _ s7 ba H7 _ I7 q7) (λv s8 ψ=>?_) λ_ _ z=>z;obtain⟨y,H8,I8,r8,m',hm,w8⟩:=ψ;obtain⟨a1,a2,a3,a4,a5⟩:=xg I8;refine zH a3 (by lia) λh9 k9 cv dH=>?_;have nD:∀b∈fp,b≠D:=λb j=>xN (by have:=bi b j;lia);refine{m',hm,i+1,ba,H8,ys++[y],ac++[v],k9,?_,{(cn),cq},dH,bb.append<|.cons r8 .nil,a4,Tn.keep _ _ _ a1 λb j o e=>(cv.2 b<|nD b j).trans e,a2,w8};exact a5.turned (t':=s8.toks) (it:=D) (λb o j e=>(cv.2 b j).trans e) a4 ck (.inr (xT (by show @LE.le Nat instLENat I.heap.objs.size D;exact xV))) (λx c e=>xN (by have:=aL x c<|S.Yo U e;lia)) λp hp=>xN (by have:=ltN (U.pin p hp).1;lia)
 exact codeAny_compStart_list (be _ rfl)<|Tn.self _ _ _ _ _ (Tn.keep _ _ _ bf λb _ o e=>old b o e)<|be _ rfl
end
section
variable {T:XT}{iter:Expr}{g:TG}{tc:TT}{te:TE}
def QL(T:XT)(S:ji X scope)(hc:X.calm=true)(hi:PI X target iter wi)(t:∀C fp s₀ H₀,PG (X.comp scope T C fp s₀ H₀) target g)(j:sF g X.N.length T.length)
 (hf:∀C fp s₀ H₀,PF (X.comp scope T C fp s₀ H₀) jl tc) (he:∀C fp s₀ H₀,PE (X.comp scope T C fp s₀ H₀) mj te)
 (hs:∀x,foldedSetIterable iter X.env x=pure x:=by intro _;rfl):PE X (.ListComp mj [{target,iter,jl,0}] scope pos) (GH T.length wi g tc te):=by
 intro J s r H Q I h;rw[eval_ListComp];refine wpAny_comprehension_free (use:=none) rfl hs (S.clo I) S.kind S.names<|aN (hi J s r H _ I h) λv s1 h1=>aN h1 λa0 s2 h2=>?_;refine oM (RR:=λl C=>compPost (model X.prog X.w) X.A X.xe none (EP X J r Q) l C) S hc t j hf he h2 ?_;intro D C s' H' m' I' U hn q;exact{m',hn,λh' p=>{.ref D,H',I'.turned (t':=s'.toks) (it:=C) (λb o hb e=>(p.2 b hb).trans e) U.1 (AJ<|AJ U.2.1) U.2.2.2.1 U.2.2.2.2.1 U.2.2.2.2.2,rfl,q}}
theorem QM(T:XT){px j:Pos}(hN:X.N.Nodup)(l:X.N[i]?=some x)(hx:Loc X.env.scope x)(S:ji X scope)(hc:X.calm=true)(hi:PI X target iter wi)
 (hg:∀C fp s₀ H₀,PG (X.comp scope T C fp s₀ H₀) target g) (p:sF g X.N.length T.length)
 (hf:∀C fp s₀ H₀,PF (X.comp scope T C fp s₀ H₀) jl tc) (he:∀C fp s₀ H₀,PE (X.comp scope T C fp s₀ H₀) mj te)
 (r:swapsWith (.ListComp mj [{target,iter,jl,0}] scope j) (some<|.Name x px) pos.line X.env=pure true:=by rfl)
 (t:X.fn x=true\/X.env.scope.names.lookup x=some .local:=by first|exact .inl rfl|exact .inr rfl|assumption)
 (hs:∀x,foldedSetIterable iter X.env x=pure x:=by intro _;rfl):PS X (.Assign [.Name x px] (.ListComp mj [{target,iter,jl,0}] scope j) pos) (Go (GH T.length wi g tc te)<|eF i):=by
 intro pins s σ H D I h;rw[exec_Assign_Name_used _ _ _ _ r];refine Aa<|wpAny_standAt<|Aa ?_;show wpAny _ X.A (do let _ <-comprehension (.ListComp mj [{target,iter,jl,0}] scope j) scope X.env _ (newList []) false (eval iter X.env) (some<|assign (.Name x px) X.env)) _ _ s;refine Aa (Bd (wpAny_comprehension_free (use:=some<|assign (.Name x px) X.env) (Q:=λ_ U=>SP X pins D .next U) rfl hs (S.clo I) S.kind S.names
  (aN (hi pins s σ H _ I h) λv s1 h1=>aN h1 λa5 s2 h2=>?_)) (λ_ U hq=>Al<|Al hq) λ_ _ e=>e)
 refine oM (RR:=λa0 C=>compPost (model X.prog X.w) X.A X.xe (some<|assign (.Name x px) X.env) (λ_ U=>SP X pins D .next U) a0 C) (pins:=pins) (σ:=σ) (Q:=λx H1=>eF i x σ H1 D.nx) S hc hg p hf he h2 ?_;intro A C U H' m' I' J hn q;show wpAny _ X.A (assign (.Name x px) X.env<|.ref A) _ _ U;refine wpAny_assign_Name<|rY I' hN l hx (v:=.ref A) rfl (λa1 a2 ψ _=>?_) t;obtain⟨a,hs,ha⟩:=ψ;have a3:C≠a:=by
  rcases ha with z|z
  .rw[z];exact J.2.1
  .exactλe=>J.2.2.2.2.1 x a z e.symm
 exact{m',hn.sameBut hs a3,λh' a4=>{_,H',a2.turned (t':=a1.toks) (it:=C) (λb o hb e=>(a4.2 b hb).trans e) J.1 J.2.1 J.2.2.2.1 J.2.2.2.2.1 J.2.2.2.2.2,q}}
end
def vn(outer:Scope)(N:XT)(I:Scope):Bool:=
 decide (I.kind=.function)&&I.names.all (λp=>decide (p.2≠.cell)&&(decide (p.2≠.local)||decide (I.names.lookup p.1=some .local))&&(decide (p.2≠.free)||(decide (outer.names.lookup p.1=some .cell)||decide (outer.names.lookup p.1=some .free))))
  && N.all (λx=>decide<|I.names.lookup x≠some .local)
def vn.mk{I:Scope}(h:vn X.env.scope X.N I=true):ji X I:=by
 unfold vn at h;rw[AX,AX,Dy,Dy] at h;obtain⟨⟨l,J⟩,o⟩:=h;have j:∀n,(n,NameKind.free)∈I.names->X.env.kindOf n=some .cell\/X.env.kindOf n=some .free:=λn U=>by
  have q:=J _ U;simp only[AX,Eu,decide_eq_true_eq] at q;rcases q.2 with z|z
  .exact absurd rfl z
  .exact z
 refine{of_decide_eq_true l,λy g=>?_,λy g e=>?_,λn U=>j n<|BR U,j,λx p=>of_decide_eq_true<|o x p}
 .have q:=J _ g;simp only[AX,Eu,decide_eq_true_eq] at q;exact q.1.1
 .have q:=J _ g;simp only[AX,Eu,decide_eq_true_eq] at q;rcases q.1.2 with z|z
  .exact absurd e z
  .exact z
abbrev ES:=@vn.mk
def y4(n:Nat):sF (eF n) n 1:=by
 intro U I x H Q h;refine{{by simp[I],λi v e=>?_},h};by_cases J:i=n
 .subst J;rw[AL (by exact xV)] at e;simp[I] at e
 .rw[AZ<|AJ J];exact e
def pq:bootBuiltins "isinstance"=some (.builtin "isinstance"):=by decide +kernel
def cZ:bootBuiltins "tuple"=some (.type "tuple"):=by decide +kernel
def Iw:bootBuiltins "str"=some (.type "str"):=by decide +kernel
def yj:bootBuiltins "int"=some (.type "int"):=by decide +kernel
def wc:bootBuiltins "list"=some (.type "list"):=by decide +kernel
def QN:bootBuiltins "len"=some (.builtin "len"):=by decide +kernel
def Ix{k:Nat}(I:wx k A):A.units+128<cLine:=by have:=I.un;lia
def small(h:n<=1000):n<=sizeLine:=BD<|rO h
def Zs.of{P:X6}{w:X7}{K:Ak}{k:Nat}{sp:Sp}(F:bp P w K mg base Zg k f fd ps sp)(b:aZ K fd ps [])(I:PySem.W.keepIn K (.ref f)=true)(m:mg x=some (.ref f)):
 Zs P w K mg base k x ps sp:={(f),fd,F,b,I,m}
def bp.never{P:X6}{w:X7}{K:Ak}{k:Nat}{sp:Sp}(no:∀vs H Q E,¬sp vs H Q E):bp P w K mg base Zg k f fd ps sp:=
 ⟨λvs H Q E h=>absurd h<|no vs H Q E,λA I s H args J vs Q E _ _ _ _ h=>absurd h<|no vs H Q E⟩
section
variable (K:Ak)(P:X6)(w:X7)
end
structure zv(K:Ak)(x:Str)(st:Stmt):Prop where
 ex:∃(f:Addr) (kV gn pm:X4) (an:Option Addr) (eH ct:X4),PySem.W.nsIn K mainGlobals x=some (some<|.ref f)/\ZQ K x x st f (PySem.W.fnOf x x (vd st) (jw st) (zb st) .none kV gn pm an eH ct)
def Z7{K:Ak}{kV ct:X4}(a:PySem.W.nsIn K mainGlobals x=some (some<|.ref f))
 (l:K.lookup f=some ⟨oc,od,.func<|PySem.W.fnOf x x (vd st) (jw st) (zb st) .none kV gn pm an eH ct,mR⟩) (c:PySem.W.codeIn K eH x=true) (k:PySem.W.keepIn K (.ref f)=true):zv K x st:=
 ⟨f,kV,gn,pm,an,eH,ct,a,Ik (st:=st) l c k⟩
def zv.use{K:Ak}(D:zv K x st)(X:K.In h)(G:h.Ns mainGlobals mg)
 (I:∀(kV gn pm:X4) (an:Option Addr) (eH ct:X4) (us:XQ),us.length=ps.length->bindArgs (PySem.W.fnOf x x (vd st) (jw st) (zb st) .none kV gn pm an eH ct) ⟨us,[]⟩=pure (ps.zip us)):
 ∃f fd,ZQ K x x st f fd/\aZ K fd ps []/\mg x=some (.ref f):=by
 obtain⟨f,kV,gn,pm,an,eH,ct,a,F⟩:=D.ex;exact{f,_,F,aZ.all<|I kV gn pm an eH ct,C6 X G a}
inductive Wd where
 |leaf (t:Bool) (n:Str)
 |node (e:Bool) (l r:Wd)
def kL:Bool->Str
 |false => "plain"
 |true => "turned"
def kN:Bool->Str
 |false => "both"
 |true => "either"
def Wd.turn:Wd->Wd
 |.leaf t n=>.leaf (!t) n
 |.node e l r=>.node (!e) l.turn r.turn
def Wd.depth:Wd->Nat
 |.leaf _ _=>1
 |.node _ l r=>max l.depth r.depth+1
def Wd.Pi:Wd->Nat
 |.leaf _ _=>1
 |.node _ l r=>l.Pi+r.Pi
theorem Wd.Yp:∀w:Wd,1<=w.Pi
 |.leaf _ _=>Ap _
 |.node _ l r=>by have:=Wd.Yp l;show 1<=l.Pi+r.Pi;exact Io
theorem Wd.YM:∀w:Wd,w.depth<=w.Pi
 |.leaf _ _=>Ap _
 |.node _ l r=>by have:=Wd.YM l;have:=Wd.YM r;have:=Wd.Yp l;have:=Wd.Yp r;show max l.depth r.depth+1<=l.Pi+r.Pi;lia
def tR:Wd->Da
 |.leaf t n=>.tup [.s<|.str<|kL t,.s<|.str n]
 |.node e l r=>.tup [.s<|.str<|kN e,tR l,tR r]
def eJ(x:Str):Prop:=1<=x.length/\x.length<=8/\∀c∈x.cps.toList,97<=c/\c<=122
def Wd.ok:Wd->Prop
 |.leaf _ n=>eJ n
 |.node _ l r=>l.ok/\r.ok
theorem Paired.app{α β:Type}{F:α->β->Prop}:∀{xs I:List α} {ys J:List β},Paired F xs ys->Paired F I J->Paired F (xs++I) (ys++J)
 |_,_,_,_,.nil,s=>s
 |_,_,_,_,.cons r t,s=>.cons r<|Paired.app t s
def Paired._g{F:α->β->Prop}:∀{xs:List α} {ys:List β} {i:Nat} {x:α},Paired F xs ys->xs[i]?=some x->∃y,ys[i]?=some y/\F x y:=by
 intro xs ys i x h
 induction h generalizing i with
 |nil=>intro h;simp at h
 |cons r t I=>
  intro h;cases i with
  |zero=>simp at h;subst h;exact{_,rfl,r}
  |succ i=>
   obtain⟨y,e,q⟩:=I (i:=i) (by simpa using h);exact{y,by simpa using e,q}
def yz:bootBuiltins "max"=some (.builtin "max"):=by decide +kernel
def QP:bootBuiltins "bool"=some (.type "bool"):=by decide +kernel
def Wd.size:Wd->Nat
 |.leaf _ _=>1
 |.node _ l r=>1+l.size+r.size
theorem Wd.size_pos:∀w:Wd,1<=w.size
 |.leaf _ _=>Ap _
 |.node _ l r=>by show 1<=1+l.size+r.size;simp +arith only
theorem Wd.size_eq:∀w:Wd,w.size+1=2*w.Pi
 |.leaf _ _=>rfl
 |.node _ l r=>by have:=Wd.size_eq l;have:=Wd.size_eq r;show 1+l.size+r.size+1=2*(l.Pi+r.Pi);lia
section
variable {a:Addr}{tr:Option Addr}
end
section
variable {a b T:Addr}{tr:Option Addr}{E1:X1}
end
section
variable {k:Nat}{sp:Sp}{E1:X1}{p:Pos}{t:TA}
end
section
variable {a T:Addr}{tr:Option Addr}
end
section
variable {a T:Addr}
end
section
open PySem.W
open Builtin.ObjectAttr in
section
variable {w:X7}{K:Frag}{a:Addr}
open Builtin Builtin.ObjectAttr Builtin.Getset_descriptor in
end
def QQ(K:Ak)(H:Hp)(a C:Addr):Prop:=∃I,H a=some (.YC I<|.own 0)/\I.cls=.ref C
def uY(H:Hp)(P:Addr)(q:Str):Prop:=∃ps,H P=some (.YV ps)/\TriplesOk ps.toList/\∀pos I,codeAmong pos ps.toList=some I->∃J oc vs t,I=.ref J/\H J=some (.YC oc<|.own 0)/\oc.data=.fields vs/\vs[1]?=some (.str q t)
def uY.keep{P:Addr}{q:Str}(h:uY H P q)(e:H' P=H P)(t:∀b o u,H b=some (.YC o u)->H' b=some (.YC o u)):uY H' P q:=by obtain⟨I,J,U,g⟩:=h;refine{I,e.trans J,U,λpos j z=>?_};obtain⟨l,p,r,C,T,e2,e3⟩:=g pos j z;exact{l,p,r,C,T,t _ _ _ e2,e3}
end
inductive Y where
 |KB|bl (b:Bool)|int (i:Int)|str (x:Str)|ref (a:Addr)|ty (n:X9)|cd (kvs:List<|Str×Str)|tup (ys:List Y)|sq (ys:List Y)
abbrev _T:=List Y
inductive LO where
 |lst (ys:_T)|YD (kvs:List<|jb×Y)|ins (C:Addr) (fs:List<|Str×Y)|exc (C:Addr)|tb (q:Str)
abbrev qk:=Addr->Option LO
def qf(L:qk)(a:Addr)(o:LO):qk:=λb=>if b=a then some o else L b
def q9{L:qk}{a:Addr}{o:LO}:qf L a o a=some o:=by unfold qf;rw[Ay rfl]
def qc{L:qk}{a b:Addr}{o:LO}(h:b≠a):qf L a o b=L b:=by unfold qf;rw[Au h]
def zh{L:qk}{a:Addr}{o u:LO}:qf (qf L a o) a u=qf L a u:=by funext b;unfold qf;split<;>rfl
def w6{L:qk}{a b:Addr}{o:LO}(h:L a=some o)(h':L b=none):a≠b:=by intro e;subst e;rw[h] at h';cases h'
def Fm{L:qk}{a b:Addr}{o u:LO}(h:L a=some o)(h':L b=some u)(d:o≠u):a≠b:=by intro e;subst e;rw[h] at h';exact d<|AR h'
structure G3 where
 K:Ak
 P:X6
 w:X7
abbrev Cx.g3(X:Cx):G3:={(X.K),X.prog,X.w}
def Z8(K:Ak)(H:Hp)(a:Addr)(xs:X_):Prop:=(∃o,H a=some (.YC o<|.lst xs))\/
 ∃(o:Obj) (eh:XR) (n:Nat),K.lookup a=some o/\o.cls=.type "list" /\ o.dict=none/\o.data=.seq eh n/\eh.size<=sizeLine/\zn xs eh.toList
def Z8.sq{K:Ak}{a:Addr}(h:Z8 K H a xs):bE K H a xs:=by
 rcases h with⟨o,h⟩|h
 .exact .inl<|.inr {(o),h}
 .exact .inr h
mutual
def RV(G:G3)(H:Hp):Y->V->Prop
 |.KB,v=>v=.KB
 |.bl b,v=>v=.bl b
 |.int i,v=>v=.int i
 |.str x,v=>v=.str x
 |.ref a,v=>v=.ref a
 |.ty n,v=>v=.ty n
 |.cd kvs,v=>∃a,v=.ref a/\KD G.K G.P G.w a (kvs.map λp=>(Sum.inr p.1,V.str p.2))
 |.tup ys,v=>∃a xs,v=.ref a/\eE G.K H a xs/\xr G H ys xs
 |.sq ys,v=>∃a xs,v=.ref a/\Z8 G.K H a xs/\xr G H ys xs
def xr(G:G3)(H:Hp):_T->X_->Prop
 |[],xs=>xs=[]
 |y::ys,xs=>∃x I,xs=x::I/\RV G H y x/\xr G H ys I
end
def QR:HO->Bool
 |.tup _=>true
 |.YC _ _=>true
 |_=>false
def jc(H H':Hp):Prop:=∀a u,QR u=true->H a=some u->H' a=some u
def jc.refl(H:Hp):jc H H:=λ_ _ _ h=>h
abbrev EM:=@jc.refl
def jc.trans{H1 H2:Hp}(a:jc H H1)(b:jc H1 H2):jc H H2:=λc u i h=>b c u i<|a c u i h
def jc.new{p:Addr}{o:HO}(h:H p=none):jc H (upd H p o):=λ_ _ _ q=>by rw[qm<|zo q h];exact q
abbrev EN:=@jc.new
def jc.lst{p:Addr}{o:HO}(h:H p=some (.lst zs)):jc H (upd H p o):=λa u i q=>by rw[qm ?_];exact q;rintro rfl;rw[h] at q;cases q;cases i
abbrev EY:=@jc.lst
def eE.ts{K:Ak}{a:Addr}(h:eE K H a xs)(t:jc H H'):eE K H' a xs:=by
 rcases h with(h|⟨o,h⟩)|h
 .exact .inl<|.inl<|t _ _ rfl h
 .exact .inl<|.inr {o,t _ _ rfl h}
 .exact .inr h
def Z8.ts{K:Ak}{a:Addr}(h:Z8 K H a xs)(t:jc H H'):Z8 K H' a xs:=by
 rcases h with⟨o,h⟩|h
 .exact .inl {o,t _ _ rfl h}
 .exact .inr h
mutual
theorem RV.ts{G:G3}{H H':Hp}(t:jc H H'):∀{y:Y} {v:V},RV G H y v->RV G H' y v
 |.KB,_,h=>h
 |.bl _,_,h=>h
 |.int _,_,h=>h
 |.str _,_,h=>h
 |.ref _,_,h=>h
 |.ty _,_,h=>h
 |.cd _,_,h=>h
 |.tup _,_,ψ=>(by obtain⟨a,I,e,s,r⟩:=ψ;exact {a,I,e,eE.ts s t,xr.ts t r})
 |.sq _,_,ψ=>(by obtain⟨a,I,e,s,r⟩:=ψ;exact {a,I,e,s.ts t,xr.ts t r})
theorem xr.ts{G:G3}{H H':Hp}(t:jc H H'):∀{ys:_T} {xs:X_},xr G H ys xs->xr G H' ys xs
 |[],_,h=>h
 |_::_,_,ψ=>(by obtain⟨x,I,e,r,s⟩:=ψ;exact {x,I,e,RV.ts t r,xr.ts t s})
end
theorem xr.length{G:G3}{H:Hp}:∀{ys:_T} {xs:X_},xr G H ys xs->ys.length=xs.length
 |[],_,h=>by cases h;rfl
 |_::_,_,ψ=>by obtain⟨x,I,e,_,s⟩:=ψ;subst e;simp[xr.length s]
theorem xr.get{G:G3}{H:Hp}:∀{ys:_T} {xs:X_} {i:Nat} {y:Y},xr G H ys xs->ys[i]?=some y->∃x,xs[i]?=some x/\RV G H y x
 |[],_,_,_,_,h=>by simp at h
 |_::_,_,0,_,ψ,h=>by obtain⟨x,I,e,r,_⟩:=ψ;subst e;simp at h;subst h;exact{(x),rfl,r}
 |_::_,_,i+1,_,ψ,h=>by obtain⟨x,I,e,_,s⟩:=ψ;subst e;obtain⟨J,q,r⟩:=xr.get (i:=i) s (by simpa using h);exact{J,by simpa using q,r}
theorem xr.app{G:G3}{H:Hp}:∀{ys zs:_T} {xs us:X_},xr G H ys xs->xr G H zs us->xr G H (ys++zs) (xs++us)
 |[],_,_,_,h,q=>by cases h;exact q
 |_::_,_,_,_,ψ,q=>by obtain⟨x,I,e,r,s⟩:=ψ;subst e;exact{x,I++_,rfl,r,xr.app s q}
def xr.one{G:G3}{y:Y}{x:V}(r:RV G H y x):xr G H [y] [x]:={x,[],rfl,r,rfl}
theorem xr.take{G:G3}{H:Hp}:∀{ys:_T} {xs:X_} (n:Nat),xr G H ys xs->xr G H (ys.take n) (xs.take n)
 |[],_,n,h=>by cases h;simp[xr]
 |_::_,_,0,_=>by simp[xr]
 |_::_,_,n+1,ψ=>by obtain⟨x,I,e,r,s⟩:=ψ;subst e;exact{x,I.take n,rfl,r,xr.take n s}
theorem xr.drop{G:G3}{H:Hp}:∀{ys:_T} {xs:X_} (n:Nat),xr G H ys xs->xr G H (ys.drop n) (xs.drop n)
 |[],_,n,h=>by cases h;simp[xr]
 |_::_,_,0,h=>h
 |_::_,_,n+1,ψ=>by obtain⟨x,I,e,r,s⟩:=ψ;subst e;exact xr.drop n s
theorem xr._D{G:G3}{H:Hp}{y:Y}{x:V}(r:RV G H y x):∀{ys:_T} {xs:X_} (i:Nat),xr G H ys xs->xr G H (ys.set i y) (xs.set i x)
 |[],_,_,h=>by cases h;simp[xr]
 |_::_,_,0,ψ=>by obtain⟨J,I,e,_,s⟩:=ψ;subst e;exact{(x),I,rfl,r,s}
 |_::_,_,i+1,ψ=>by obtain⟨J,I,e,q,s⟩:=ψ;subst e;exact{J,I.set i x,rfl,q,xr._D r i s}
def xr.dropLast{G:G3}{ys:_T}(h:xr G H ys xs):xr G H ys.dropLast xs.dropLast:=by rw[List.dropLast_eq_take,List.dropLast_eq_take,h.length];exact h.take _
theorem xr.eraseIdx{G:G3}{H:Hp}:∀{ys:_T} {xs:X_} (n:Nat),xr G H ys xs->xr G H (ys.eraseIdx n) (xs.eraseIdx n)
 |[],_,n,h=>by cases h;simp[xr]
 |_::_,_,0,ψ=>by obtain⟨x,I,e,r,s⟩:=ψ;subst e;exact s
 |_::_,_,n+1,ψ=>by obtain⟨x,I,e,r,s⟩:=ψ;subst e;exact{x,I.eraseIdx n,rfl,r,xr.eraseIdx n s}
def RO(G:G3)(H:Hp)(a:Addr):LO->Prop
 |.lst ys=>∃xs,H a=some (.lst xs)/\xr G H ys xs
 |.YD kvs=>∃xs,H a=some (.dK xs)/\Paired (λ(p:jb×Y) (q:jb×V)=>p.1=q.1/\RV G H p.2 q.2) kvs xs
 |.ins C fs=>∃dx xs,H a=some (.ins C dx xs)/\Paired (λ(p:Str×Y) (q:Str×V)=>p.1=q.1/\RV G H p.2 q.2) fs xs
 |.exc C=>QQ G.K H a C
 |.tb q=>uY H a q
def j9(G:G3)(H:Hp)(L:qk):Prop:=∀a o,L a=some o->RO G H a o
theorem RO.ex{G:G3}{a:Addr}:∀{o:LO},RO G H a o->∃u,H a=some u
 |.lst _,ψ=>(by obtain⟨_,h,_⟩:=ψ;exact {_,h})
 |.YD _,ψ=>(by obtain⟨_,h,_⟩:=ψ;exact {_,h})
 |.ins _ _,ψ=>(by obtain⟨_,_,h,_⟩:=ψ;exact {_,h})
 |.exc _,ψ=>(by obtain⟨_,h,_⟩:=ψ;exact {_,h})
 |.tb _,ψ=>(by obtain⟨_,h,_⟩:=ψ;exact {_,h})
theorem j9.none{G:G3}{L:qk}(h:j9 G H L){p:Addr}(hp:H p=none):L p=none:=by cases e:L p with|none=>rfl|some o=>obtain⟨u,q⟩:=(h p o e).ex;rw[hp] at q;cases q
theorem RO.keep{G:G3}(t:jc H H'){a:Addr}(e:H' a=H a):∀{o:LO},RO G H a o->RO G H' a o
 |.lst _,ψ=>(by obtain⟨I,h,r⟩:=ψ;exact {I,e.trans h,r.ts t})
 |.YD _,ψ=>(by obtain⟨I,h,r⟩:=ψ;exact {I,e.trans h,ER r λ_ _ ψ=>(by obtain⟨a,b⟩:=ψ;exact {a,b.ts t})})
 |.ins _ _,ψ=>(by obtain⟨J,I,h,r⟩:=ψ;exact {J,I,e.trans h,ER r λ_ _ ψ=>(by obtain⟨a,b⟩:=ψ;exact {a,b.ts t})})
 |.exc _,ψ=>(by obtain⟨o,h,c⟩:=ψ;exact {o,e.trans h,c})
 |.tb _,h=>uY.keep h e λb o u z=>t b _ rfl z
def j9.skip{G:G3}{L:qk}(h:j9 G H L){p:Addr}{o:HO}(hp:H p=.none):j9 G (upd H p o) L:=λa u e=>by obtain⟨x,q⟩:=(h a u e).ex;exact(h a u e).keep (EN hp) (qm<|zo q hp)
def j9.YX{G:G3}{L:qk}(h:j9 G H L){p:Addr}{ys:_T}(hp:H p=.none)(r:xr G H ys xs):j9 G (upd H p<|.lst xs) (qf L p<|.lst ys):=λa u e=>by
 by_cases c:a=p
 .subst c;rw[q9] at e;cases e;exact{xs,zg,r.ts<|EN hp}
 .rw[qc c] at e;exact(h a u e).keep (EN hp) (qm c)
def j9.Zm{G:G3}{L:qk}(h:j9 G H L){p:Addr}{ys:_T}(hp:H p=some (.lst zs))(r:xr G H ys xs):j9 G (upd H p<|.lst xs) (qf L p<|.lst ys):=λa u e=>by
 by_cases c:a=p
 .subst c;rw[q9] at e;cases e;exact{xs,zg,r.ts<|EY hp}
 .rw[qc c] at e;exact(h a u e).keep (EY hp) (qm c)
def qg(L L':qk):Prop:=∀a o,L a=some o->L' a=some o
def qg.refl(L:qk):qg L L:=λ_ _ h=>h
abbrev EL:=@qg.refl
def qg.trans{L L1 L2:qk}(a:qg L L1)(b:qg L1 L2):qg L L2:=λc o h=>b c o<|a c o h
def qg.new{L:qk}{p:Addr}{o:LO}(h:L p=none):qg L (qf L p o):=λa u e=>by rw[qc<|w6 e h];exact e
abbrev By:=@qg.new
@[elab_as_elim] theorem pW {L:qk} {p:Addr} {o:LO} {motive:qk->Prop} (h:L p=none) (k:∀L',qg L L'->L' p=some o->motive L'):motive (qf L p o):=k _ (By h) q9
def j9.sub{G:G3}{L L':qk}(h:j9 G H L')(s:qg L L'):j9 G H L:=λa o e=>h a o<|s a o e
abbrev jq:=List<|Option Y
structure vq(G:G3)(H:Hp)(σ:St)(τ:jq):Prop where
 len:σ.length=τ.length
 get:∀(i:Nat) y,τ[i]?=some (some y)->∃v,σ[i]?=some (some v)/\RV G H y v
theorem vq.ts{G:G3}{τ:jq}(h:vq G H σ τ)(t:jc H H'):vq G H' σ τ:=
 ⟨h.len,λi y e=>let ⟨v,a,b⟩:=h.get i y e;⟨v,a,b.ts t⟩⟩
def vq.set{G:G3}{τ:jq}(h:vq G H σ τ){y:Y}(r:RV G H y v):vq G H (σ.set i<|some v) (τ.set i<|some y):=by
 refine{by simp[h.len],λj z e=>?_};by_cases c:i=j
 .subst c;have I:i<τ.length:=by
   by_cases q:i<τ.length
   .exact q
   .rw[B0 (by simp;omega)] at e;cases e
  rw[BM I] at e;cases e;exact{v,BM (by rw[h.len];exact I),r}
 .rw[AZ c] at e ⊢;exact h.get j z e
def vq.more{G:G3}{τ:jq}(h:vq G H σ τ)(n:Nat):vq G H (σ++List.replicate n none) (τ++List.replicate n none):=by
 refine{by simp[h.len],λj z e=>?_};by_cases c:j<τ.length
 .rw[AH c] at e;rw[AH (by rw[h.len];exact c)];exact h.get j z e
 .rw[AL (by omega),CB] at e;split at e<;>cases e
def Ef:jq->Nat->Option Y
 |[],_=>none
 |o::_,0=>o
 |_::r,i+1=>Ef r i
theorem sP:∀(τ:jq) (i:Nat) {y:Y},Ef τ i=some y->τ[i]?=some (some y)
 |[],_,_,h=>by cases h
 |o::_,0,_,h=>by simp[Ef] at h;simp[h]
 |_::r,i+1,_,h=>by simp only[De];exact sP r i h
abbrev YK:=Y->qk->Prop
abbrev v4:=jq->qk->YK->Prop
abbrev kR:=jq->qk->(Bool->qk->Prop)->Prop
abbrev fE:=jq->qk->(_T->qk->Prop)->Prop
structure vt where
 nx:jq->qk->Prop
 rt:YK
 bk:jq->qk->Prop:=λ_ _=>False
 ct:jq->qk->Prop:=λ_ _=>False
abbrev cH:=vt->jq->qk->Prop
abbrev mX:=Y->jq->qk->(jq->qk->Prop)->Prop
abbrev wT:=_T->jq->qk->(jq->qk->Prop)->Prop
abbrev vb:=jq->qk->(_T->(qk->Prop)->qk->Prop)->Prop
abbrev qQ:=Y->Y->qk->YK->Prop
def vB(G:G3)(H:Hp)(I:YK)(Q:VK):Prop:=∀v H' y L',jc H H'->j9 G H' L'->RV G H' y v->I y L'->Q v H'
def _o(G:G3)(H:Hp)(I:Bool->qk->Prop)(Q:Bool->Hp->Prop):Prop:=∀b H' L',jc H H'->j9 G H' L'->I b L'->Q b H'
def Iy(G:G3)(H:Hp)(I:_T->qk->Prop)(Q:X_->Hp->Prop):Prop:=∀vs H' ys L',jc H H'->j9 G H' L'->xr G H' ys vs->I ys L'->Q vs H'
def qE(G:G3)(H:Hp)(I:jq->qk->Prop)(Q:St->Hp->Prop):Prop:=∀σ H' τ L',jc H H'->vq G H' σ τ->j9 G H' L'->I τ L'->Q σ H'
def vB.ts{G:G3}{I:YK}{Q:VK}(h:vB G H I Q)(t:jc H H'):vB G H' I Q:=λv J y U g=>h v J y U<|t.trans g
def _o.ts{G:G3}{I:Bool->qk->Prop}{Q:Bool->Hp->Prop}(h:_o G H I Q)(t:jc H H'):_o G H' I Q:=λv J U g=>h v J U<|t.trans g
def qE.ts{G:G3}{I:jq->qk->Prop}{Q:St->Hp->Prop}(h:qE G H I Q)(t:jc H H'):qE G H' I Q:=λv J y U g=>h v J y U<|t.trans g
structure _q(G:G3)(H:Hp)(D3:vt)(D:yD):Prop where
 nx:qE G H D3.nx D.nx
 rt:vB G H D3.rt D.rt
 bk:qE G H D3.bk D.bk
 ct:qE G H D3.ct D.ct
theorem _q.ts{G:G3}{I:vt}{D:yD}(h:_q G H I D)(t:jc H H'):_q G H' I D:={h.nx.ts t,h.rt.ts t,h.bk.ts t,h.ct.ts t}
def uH(G:G3)(t:v4):TE:=λσ H Q=>∃τ L I,vq G H σ τ/\j9 G H L/\t τ L I/\vB G H I Q
def i_(G:G3)(t:kR):TT:=λσ H Q=>∃τ L I,vq G H σ τ/\j9 G H L/\t τ L I/\_o G H I Q
def Iz(G:G3)(t:fE):TA:=λσ H Q=>∃τ L I,vq G H σ τ/\j9 G H L/\t τ L I/\Iy G H I Q
def FI(G:G3)(t:cH):TS:=λD σ H=>∃τ L I,vq G H σ τ/\j9 G H L/\t I τ L/\_q G H I D
def Fn(G:G3)(g:mX):TG:=λv σ H Q=>∃y τ L I,RV G H y v/\vq G H σ τ/\j9 G H L/\g y τ L I/\qE G H I Q
def QU(G:G3)(g:wT):e_:=λvs σ H Q=>∃ys τ L I,xr G H ys vs/\vq G H σ τ/\j9 G H L/\g ys τ L I/\qE G H I Q
structure gr(G:G3)(H₀:Hp)(J:It)(ys:_T)(keep:qk->Prop):Prop where
 go:∀i H L,jc H₀ H->j9 G H L->keep L->i<ys.length->J.go i H
 Zk:∀i H L x H' y,jc H₀ H->j9 G H L->keep L->ys[i]?=some y->J.Zk i H x H'->jc H H'/\j9 G H' L/\RV G H' y x
 stop:∀H L,jc H₀ H->j9 G H L->keep L->J.stop ys.length H
def GI(G:G3)(wi:vb):TI:=λσ H R=>∃τ L I,vq G H σ τ/\j9 G H L/\wi τ L I/\∀J H' ys keep L',jc H H'->j9 G H' L'->gr G H' J ys keep->I ys keep L'->R J H'
def hJ(G:G3)(U:qQ):R2:=λx y H Q=>∃x3 I L J,RV G H x3 x/\RV G H I y/\j9 G H L/\U x3 I L J/\vB G H J Q
def j_(G:G3)(J:_T->qk->YK->Prop):X_->Hp->VK->Prop:=λxs H Q=>∃ys L I,xr G H ys xs/\j9 G H L/\J ys L I/\vB G H I Q
def IA(G:G3)(J:Y->qk->YK->Prop):V->Hp->VK->Prop:=λx H Q=>∃y L I,RV G H y x/\j9 G H L/\J y L I/\vB G H I Q
def PE.imp{t u:TE}(h:PE X e t)(q:∀σ H Q,u σ H Q->t σ H Q):PE X e u:=λJ s σ H Q I z=>h J s σ H Q I<|q σ H Q z
abbrev E4:=@PE.imp
def PE.Ym{G:G3}{t:TE}{u:v4}(h:PE X e t)(q:∀σ H Q τ L I,vq G H σ τ->j9 G H L->u τ L I->vB G H I Q->t σ H Q):PE X e (uH G u):=E4 h λσ H Q ψ=>(by obtain⟨τ,L,I,a,b,c,d⟩:=ψ;exact q σ H Q τ L I a b c d)
abbrev EO:=@PE.Ym
def PT.imp{t u:TT}(h:PT X e t)(q:∀σ H Q,u σ H Q->t σ H Q):PT X e u:=λJ s σ H Q I z=>h J s σ H Q I<|q σ H Q z
def PT.Ym{G:G3}{t:TT}{u:kR}(h:PT X e t)(q:∀σ H Q τ L I,vq G H σ τ->j9 G H L->u τ L I->_o G H I Q->t σ H Q):PT X e (i_ G u):=PT.imp h λσ H Q ψ=>(by obtain⟨τ,L,I,a,b,c,d⟩:=ψ;exact q σ H Q τ L I a b c d)
def PW.imp{t u:TT}(h:PW X e t)(q:∀σ H Q,u σ H Q->t σ H Q):PW X e u:=λU J s σ H Q I z=>h U J s σ H Q I<|q σ H Q z
def PW.Ym{G:G3}{t:TT}{u:kR}(h:PW X e t)(q:∀σ H Q τ L I,vq G H σ τ->j9 G H L->u τ L I->_o G H I Q->t σ H Q):PW X e (i_ G u):=PW.imp h λσ H Q ψ=>(by obtain⟨τ,L,I,a,b,c,d⟩:=ψ;exact q σ H Q τ L I a b c d)
def PA.imp{e:XU}{t u:TA}(h:PA X e t)(q:∀σ H Q,u σ H Q->t σ H Q):PA X e u:=λpos J s σ H Q I z=>h pos J s σ H Q I<|q σ H Q z
def PA.Ym{G:G3}{e:XU}{t:TA}{u:fE}(h:PA X e t)(q:∀σ H Q τ L I,vq G H σ τ->j9 G H L->u τ L I->Iy G H I Q->t σ H Q):PA X e (Iz G u):=PA.imp h λσ H Q ψ=>(by obtain⟨τ,L,I,a,b,c,d⟩:=ψ;exact q σ H Q τ L I a b c d)
def PS.imp{e:Stmt}{t u:TS}(h:PS X e t)(q:∀D σ H,u D σ H->t D σ H):PS X e u:=λJ s σ H Q I z=>h J s σ H Q I<|q _ σ H z
def PS.Ym{G:G3}{e:Stmt}{t:TS}{u:cH}(h:PS X e t)(q:∀D σ H τ L I,vq G H σ τ->j9 G H L->u I τ L->_q G H I D->t D σ H):PS X e (FI G u):=PS.imp h λD σ H ψ=>(by obtain⟨τ,L,I,a,b,c,d⟩:=ψ;exact q D σ H τ L I a b c d)
abbrev ET:=@PS.Ym
def lz.imp{e:XW}{t u:TS}(h:lz X e t)(q:∀D σ H,u D σ H->t D σ H):lz X e u:=λJ s σ H Q I z=>h J s σ H Q I<|q _ σ H z
def lz.Ym{G:G3}{e:XW}{t:TS}{u:cH}(h:lz X e t)(q:∀D σ H τ L I,vq G H σ τ->j9 G H L->u I τ L->_q G H I D->t D σ H):lz X e (FI G u):=lz.imp h λD σ H ψ=>(by obtain⟨τ,L,I,a,b,c,d⟩:=ψ;exact q D σ H τ L I a b c d)
def PF.imp{e:XU}{t u:TT}(h:PF X e t)(q:∀σ H Q,u σ H Q->t σ H Q):PF X e u:=λJ s σ H Q I z=>h J s σ H Q I<|q σ H Q z
variable {g:mX}{G:G3}{y:Y}{tA tc:kR}{ta tb te to:v4}{kvs:List<|jb×Y}{ys:_T}{L L' L0 L1:qk}{τ:jq}{gs:wT}{tr:fE}{En:vt}
def qD:Y:=(.tup [(.str "plain"),(.str "turned")])
def aa(b:Bool)(A B:Prop):Prop:=match b with
 |true=>A
 |false=>B
def QV{b:Bool}{A B:Prop}(h:b=true->A)(k:b=false->B):aa b A B:=by cases b with|true=>exact h rfl|false=>exact k rfl
def dW{b:Bool}{A B:Prop}(e:b=true)(h:A):aa b A B:=by rw[e];exact h
def aT{b:Bool}{A B:Prop}(e:b=false)(h:B):aa b A B:=by rw[e];exact h
def zp{p:Prop} [Decidable p]{A B:Prop}(h:p->A)(k:¬p->B):aa (decide p) A B:=by
 by_cases c:p
 .rw[AA c];exact h c
 .rw[AB c];exact k c
def nb(neg b:Bool):Bool:=match neg with
 |true=>!b
 |false=>b
def qh(i:Nat)(τ:jq)(L:qk)(Q:YK):Prop:=match Ef τ i with
 |some y=>Q y L
 |none=>False
def yC(y:Y)(_:jq)(L:qk)(Q:YK):Prop:=Q y L
def ku(r:qQ)(ta tb:v4)(τ:jq)(L:qk)(Q:YK):Prop:=ta τ L λx L1=>tb τ L1 λy L2=>r x y L2 Q
def FJ(r:Y->qk->YK->Prop)(ta:v4)(τ:jq)(L:qk)(Q:YK):Prop:=ta τ L λx L1=>r x L1 Q
def yI(C:Int->Int->Prop)(g:Int->Int->Y)(x y:Y)(L:qk)(Q:YK):Prop:=match x,y with
 |.int i,.int j=>C i j/\Q (g i j) L
 |_,_=>False
def p_(g:Int->Int->Y)(x y:Y)(L:qk)(Q:YK):Prop:=match x,y with
 |.int i,.int j=>Q (g i j) L
 |_,_=>False
def FK(x:Y)(L:qk)(Q:YK):Prop:=match x with
 |.int i=>Q (.int<|-i) L
 |_=>False
def cT(L:qk):Y->Option _T
 |.tup ys=>some ys
 |.sq ys=>some ys
 |.ref a=>match L a with
  |some (.lst ys)=>some ys
  |_=>none
 |_=>none
@[irreducible] def dw (L:qk) (a:Addr) (k:_T->Prop):Prop:=match L a with
 |some (.lst ys)=>k ys
 |_=>False
def ve{a:Addr}{k:_T->Prop}(h:dw L a k):∃ys,L a=some (.lst ys)/\k ys:=by
 unfold dw at h;split at h
 .rename_i ys e;exact{(ys),e,h}
 .exact h.elim
def qp{a:Addr}{k:_T->Prop}(e:L a=some (.lst ys))(h:k ys):dw L a k:=by unfold dw;rw[e];exact h
def kD(L:qk)(x:Y)(k:_T->Prop):Prop:=match x with
 |.tup ys=>k ys
 |.sq ys=>k ys
 |.ref a=>dw L a k
 |_=>False
def kz{a:Addr}(h:L a=some (.lst ys)):cT L (.ref a)=some ys:=by show(match L a with|some (.lst ys)=>some ys|_=>none)=some ys;rw[h]
def aV{x:Y}{k:_T->Prop}(h:kD L x k):∃ys,cT L x=some ys/\k ys:=by
 cases x with
 |tup ys=>exact{(ys),rfl,h}
 |sq ys=>exact{(ys),rfl,h}
 |ref a=>obtain⟨ys,e,q⟩:=ve h;exact{ys,kz e,q}
 |_=>exact h.elim
def re{a:Addr}(h:cT L (.ref a)=some ys):L a=some (.lst ys):=by
 have I:(match L a with|some (.lst ys)=>some ys|_=>none)=some ys:=h;split at I
 .rename_i e;cases I;exact e
 .cases I
def QX{x:Y}{k:_T->Prop}(e:cT L x=some ys)(h:k ys):kD L x k:=by cases x with|tup I=>cases e;exact h|sq I=>cases e;exact h|ref a=>exact qp (re e) h|_=>cases e
def qb{a:Addr}{k:_T->Prop}(e:L a=some (.lst ys))(h:k ys):kD L (.ref a) k:=QX (kz e) h
def mG(x y:Y)(L:qk)(Q:YK):Prop:=match x,y with
 |.int i,.int j=>Q (.int<|i+j) L
 |.str a,.str b=>a.length+b.length<=sizeLine/\Q (.str<|a++b) L
 |.ref a,.ref b=>∃ys zs,L a=some (.lst ys)/\L b=some (.lst zs)/\ys.length+zs.length<=sizeLine/\∀p,L p=none->Q (.ref p) (qf L p<|.lst<|ys++zs)
 |_,_=>False
def b_(L:qk)(Q:α->qk->Prop):Option α->Prop
 |some v=>Q v L
 |none=>False
def wv(kvs:List<|jb×Y)(k:jb):Option Y:=(kvs.find? λp=>decide<|p.1=k).map (·.2)
@[irreducible] def tW (L:qk) (a:Addr) (k:List (jb×Y)->Prop):Prop:=match L a with
 |some (.YD kvs)=>k kvs
 |_=>False
def iP{a:Addr}{k:List (jb×Y)->Prop}(h:tW L a k):∃kvs,L a=some (.YD kvs)/\k kvs:=by
 unfold tW at h;split at h
 .rename_i I e;exact{(I),e,h}
 .exact h.elim
def kn{a:Addr}{k:List (jb×Y)->Prop}(e:L a=some (.YD kvs))(h:k kvs):tW L a k:=by unfold tW;rw[e];exact h
def iH(x y:Y)(L:qk)(Q:YK):Prop:=match x,y with
 |.str z,.int i=>z.length<=sizeLine/\b_ L (λc L=>Q (.str {#[c]}) L) (dZ z.cps.toList i)
 |.cd kvs,.str k=>b_ L (λs L=>Q (.str s) L)<|kvs.lookup k
 |.ref a,.str k=>tW L a λkvs=>b_ L Q<|wv kvs<|.inr k
 |x,.int i=>kD L x λys=>b_ L Q<|dZ ys i
 |_,_=>False
def yU(xs:_T)(L:qk)(Q:YK):Prop:=match xs with
 |[.str z]=>z.length<=sizeLine/\Q (.int z.length) L
 |[x]=>kD L x λys=>Q (.int ys.length) L
 |_=>False
def GJ(xs:_T)(L:qk)(Q:YK):Prop:=match xs with
 |[.int i,.int j]=>Q (.int<|max i j) L
 |_=>False
def IB(xs:_T)(L:qk)(Q:YK):Prop:=match xs with
 |[.int i,.int j]=>Q (.int<|min i j) L
 |_=>False
inductive uS where
 |KB|bool|int|str|tuple|list|dict
def uS.nm:uS->X9
 |.KB => "NoneType"
 |.bool => "bool"
 |.int => "int"
 |.str => "str"
 |.tuple => "tuple"
 |.list => "list"
 |.dict => "dict"
def Eg(L:qk):Y->Option uS
 |.KB=>some .KB
 |.bl _=>some .bool
 |.int _=>some .int
 |.str _=>some .str
 |.tup _=>some .tuple
 |.sq _=>some .list
 |.ref a=>match L a with
  |some (.lst _)=>some .list
  |some (.YD _)=>some .dict
  |_=>none
 |_=>none
def QY{a:Addr}(h:L a=some (.lst ys)):Eg L (.ref a)=some .list:=by show(match L a with|some (.lst _)=>some uS.list|some (.YD _)=>some .dict|_=>none)=some .list;rw[h]
def GK:uS->uS->Bool
 |.bool,.int=>true
 |.bool,.bool=>true
 |.int,.int=>true
 |.str,.str=>true
 |.tuple,.tuple=>true
 |.list,.list=>true
 |.dict,.dict=>true
 |.KB,.KB=>true
 |_,_=>false
@[irreducible] def Fo (L:qk) (a:Addr) (k:uS->Prop):Prop:=match Eg L (.ref a) with
 |some T=>k T
 |none=>False
def QZ{a:Addr}{k:uS->Prop}(h:Fo L a k):∃T,Eg L (.ref a)=some T/\k T:=by
 unfold Fo at h;split at h
 .rename_i T e;exact{(T),e,h}
 .exact h.elim
def cA{a:Addr}{k:uS->Prop}(e:L a=some (.lst ys))(h:k .list):Fo L a k:=by unfold Fo;rw[QY e];exact h
def IC(L:qk)(x:Y)(k:uS->Prop):Prop:=match x with
 |.KB=>k .KB
 |.bl _=>k .bool
 |.int _=>k .int
 |.str _=>k .str
 |.tup _=>k .tuple
 |.sq _=>k .list
 |.ref a=>Fo L a k
 |_=>False
def Q0{x:Y}{k:uS->Prop}(h:IC L x k):∃T,Eg L x=some T/\k T:=by cases x with|ref a=>exact QZ h|ty n=>exact h.elim|cd k=>exact h.elim|_=>exact{_,rfl,h}
def Q1(S:uS)(te:v4)(τ:jq)(L:qk)(Q:YK):Prop:=te τ L λx L1=>IC L1 x λT=>Q (.bl<|GK T S) L1
def pD:Y->Bool
 |.KB=>true
 |.bl _=>true
 |.int _=>true
 |.str _=>true
 |_=>false
def tw:Y->V
 |.KB=>.KB
 |.bl b=>.bl b
 |.int i=>.int i
 |.str x=>.str x
 |_=>.ty "?"
def RV.flat :∀{y:Y} {v:V},pD y=true->RV G H y v->v=tw y:=by intro y v e h;cases y<;>first|exact h|cases e
theorem iO:∀{y:Y},pD y=true->bH (tw y)=true
 |.KB,_=>rfl
 |.bl _,_=>rfl
 |.int _,_=>rfl
 |.str _,_=>rfl
theorem xr.flat :∀{ys:_T} {xs:X_},ys.all pD=true->xr G H ys xs->xs=ys.map tw
 |[],_,_,h=>h
 |y::ys,_,f,ψ=>by obtain⟨x,I,e,r,s⟩:=ψ;rw[Ee,AX] at f;rw[e,r.flat f.1,s.flat f.2];rfl
def GL:Y->Bool
 |.ref _=>true
 |.sq _=>true
 |_=>false
def xh(L:qk):Nat->Y->Da->Prop
 |0,y,d=>pD y=true/\d=.s (tw y)
 |n+1,y,d=>(pD y=true/\d=.s (tw y))\/(∃ys ds,y=.tup ys/\d=.tup ds/\Paired (xh L n) ys ds)\/(∃ys ds,GL y=true/\d=.lst ds/\cT L y=some ys/\Paired (xh L n) ys ds)
def Ej:Y->Bool
 |.ref _=>true
 |.tup _=>true
 |.sq _=>true
 |_=>false
def uQ(neg:Bool)(x y:Y)(L:qk)(Q:YK):Prop:=match x,y with
 |.int i,.int j=>Q (.bl<|nb neg<|decide<|i=j) L
 |.str i,.str j=>Q (.bl<|nb neg<|decide<|i=j) L
 |.bl i,.bl j=>Q (.bl<|nb neg<|decide<|i=j) L
 |x,y=>Ej x=true/\Ej y=true/\∃n m d e,n<=128/\xh L n x d/\xh L m y e/\Q (.bl<|nb neg<|Da.eq d e) L
def qI(neg:Bool)(ta:v4)(τ:jq)(L:qk)(Q:YK):Prop:=ta τ L λx L1=>match x with
 |.KB=>Q (.bl<|!neg) L1
 |_=>Q (.bl neg) L1
def yB(t:v4)(τ:jq)(L:qk)(Q:Bool->qk->Prop):Prop:=t τ L λx L1=>match x with
 |.bl c=>Q c L1
 |_=>False
def Fp(t u:kR)(τ:jq)(L:qk)(Q:Bool->qk->Prop):Prop:=t τ L λc L1=>aa c (u τ L1 Q)<|Q false L1
def x_(t u:kR)(τ:jq)(L:qk)(Q:Bool->qk->Prop):Prop:=t τ L λc L1=>aa c (Q true L1)<|u τ L1 Q
def uG(t:kR)(τ:jq)(L:qk)(Q:Bool->qk->Prop):Prop:=t τ L λc L1=>Q (!c) L1
def ID(ta tb:v4)(τ:jq)(L:qk)(Q:YK):Prop:=ta τ L λx L1=>match x with
 |.bl c=>aa c (tb τ L1 Q)<|Q (.bl false) L1
 |_=>False
def Q2(ta:v4)(τ:jq)(L:qk)(Q:YK):Prop:=ta τ L λx L1=>match x with
 |.bl c=>Q (.bl<|!c) L1
 |_=>False
def GN(t:kR)(ta tb:v4)(τ:jq)(L:qk)(Q:YK):Prop:=t τ L λc L1=>aa c (ta τ L1 Q)<|tb τ L1 Q
def x8(_:jq)(L:qk)(Q:_T->qk->Prop):Prop:=Q [] L
def qt(ta:v4)(tr:fE)(τ:jq)(L:qk)(Q:_T->qk->Prop):Prop:=ta τ L λx L1=>tr τ L1 λxs L2=>Q (x::xs) L2
def mK(t:fE)(τ:jq)(L:qk)(Q:YK):Prop:=t τ L λys L1=>match Nat.ble ys.length 1000 with
 |true=>Q (.tup ys) L1
 |false=>False
def gG(t:fE)(τ:jq)(L:qk)(Q:YK):Prop:=t τ L λys L1=>match Nat.ble ys.length 1000 with
 |true=>∀p,L1 p=none->Q (.ref p) (qf L1 p<|.lst ys)
 |false=>False
def k_(r:_T->qk->YK->Prop)(t:fE)(τ:jq)(L:qk)(Q:YK):Prop:=t τ L λvs L1=>r vs L1 Q
abbrev Fq:=jq->qk->(XZ->qk->Prop)->Prop
def sg(_:jq)(L:qk)(Q:XZ->qk->Prop):Prop:=Q none L
def GO(t:v4)(τ:jq)(L:qk)(Q:XZ->qk->Prop):Prop:=t τ L λx L1=>match x with
 |.int i=>Q (some i) L1
 |_=>False
def gd(xs:_T)(lo hi:XZ):_T:=(xs.drop<|KF xs.length 0 lo).take<|KF xs.length xs.length hi-KF xs.length 0 lo
def IE(x:Y)(lo hi:XZ)(L:qk)(Q:YK):Prop:=match x with
 |.ref a=>dw L a λys=>∀p,L p=none->Q (.ref p) (qf L p<|.lst<|gd ys lo hi)
 |.sq ys=>∀p,L p=none->Q (.ref p) (qf L p<|.lst<|gd ys lo hi)
 |_=>False
def GP(r:Y->XZ->XZ->qk->YK->Prop)(te:v4)(tl th:Fq)(τ:jq)(L:qk)(Q:YK):Prop:=te τ L λx L1=>tl τ L1 λl L2=>th τ L2 λu L3=>r x l u L3 Q
def je(t u:cH)(D:vt)(τ:jq)(L:qk):Prop:=t {D with nx:=u D} τ L
def a6(D:vt)(τ:jq)(L:qk):Prop:=D.nx τ L
def Q4(D:vt)(τ:jq)(L:qk):Prop:=D.ct τ L
def bC(te:v4)(D:vt)(τ:jq)(L:qk):Prop:=te τ L λ_ L1=>D.nx τ L1
def cJ(te:v4)(D:vt)(τ:jq)(L:qk):Prop:=te τ L D.rt
def IF(D:vt)(_:jq)(L:qk):Prop:=D.rt .KB L
def cY(c:kR)(t u:cH)(D:vt)(τ:jq)(L:qk):Prop:=c τ L λb L1=>aa b (t D τ L1)<|u D τ L1
def vv(te:v4)(g:mX)(D:vt)(τ:jq)(L:qk):Prop:=te τ L λx L1=>g x τ L1 D.nx
def gH:jq->Nat->Y->jq
 |[],_,_=>[]
 |_::r,0,y=>some y::r
 |o::r,i+1,y=>o::gH r i y
theorem bM:∀(τ:jq) (i:Nat) (y:Y),gH τ i y=τ.set i (some y)
 |[],_,_=>rfl
 |_::_,0,_=>rfl
 |o::r,i+1,y=>by rw[gH,bM r i y];rfl
def qo(i:Nat)(y:Y)(τ:jq)(L:qk)(Q:jq->qk->Prop):Prop:=Q (gH τ i y) L
def cM(ys:_T)(τ:jq)(L:qk)(Q:jq->qk->Prop):Prop:=match ys with
 |[]=>Q τ L
 |_=>False
def x5(t:mX)(u:wT)(ys:_T)(τ:jq)(L:qk)(Q:jq->qk->Prop):Prop:=match ys with
 |[]=>False
 |y::r=>t y τ L λI L'=>u r I L' Q
def fM(n:Nat)(t:wT)(y:Y)(τ:jq)(L:qk)(Q:jq->qk->Prop):Prop:=match y with
 |.tup ys=>match ys.length==n with
  |true=>t ys τ L Q
  |false=>False
 |_=>False
def IG(i j:Nat)(ta:fE)(D:vt)(τ:jq)(L:qk):Prop:=ta τ L λvs L1=>match vs with
 |[v,w]=>D.nx (gH (gH τ i v) j w) L1
 |_=>False
inductive hG{α:Type}(W:α->qk->Prop)(x:α)(L:qk):Prop
 |mk:∀L',qg L' L->W x L'->hG W x L
def IH{W:α->qk->Prop}{x:α}(h:W x L):hG W x L:={L,EL L,h}
inductive jR(c:kR)(tb:cH)(D:vt)(τ:jq)(L:qk):Prop
 |mk:∀W:Nat->jq->qk->Prop,(∃m,W m τ L)->(∀m τ L,W m τ L->
 c τ L λb L1=>aa b (∃N:jq->qk->Prop,(∀τ' L',N τ' L'->∃m',m'<m/\W m' τ' L')/\tb {D with nx:=hG N,ct:=hG N,bk:=D.nx} τ L1)<|D.nx τ L1)->jR c tb D τ L
inductive xA(ys:_T)(keep:qk->Prop)(g:mX)(tb:cH)(D:vt)(τ:jq)(L1:qk):Prop
 |mk:∀W:Nat->jq->qk->Prop,W 0 τ L1->(∀i τ L,W i τ L->keep L)->
 (∀i y τ L,ys[i]?=some y->W i τ L->g y τ L λτ2 L2=>tb {D with nx:=hG<|W<|i+1,ct:=hG<|W<|i+1,bk:=D.nx} τ2 L2)->(∀τ L,W ys.length τ L->D.nx τ L)->xA ys keep g tb D τ L1
def w9{keep:qk->Prop}{tb:cH}{D:vt}(h:xA ys keep g tb D τ L1):xA ys keep g tb D τ L1:=h
def Q5{keep:qk->Prop}{tb:cH}{D:vt}(h:xA ys keep g tb D τ L1):xA ys keep g tb D τ L1:=h
def mI(wi:vb)(g:mX)(tb:cH)(D:vt)(τ:jq)(L:qk):Prop:=wi τ L λys keep L1=>xA ys keep g tb D τ L1
@[irreducible] def xJ (L:qk) (a:Addr) (R:_T->(qk->Prop)->qk->Prop):Prop:=match L a with
 |some (.lst ys)=>R ys (λL=>L a=some (.lst ys)) L
 |_=>False
def xl{a:Addr}{R:_T->(qk->Prop)->qk->Prop}(h:L a=some (.lst ys))(q:∀keep:qk->Prop,(∀L',L' a=L a->keep L')->R ys keep L):xJ L a R:=by unfold xJ;rw[h];exact q _ λL' I=>I.trans h
def u4{a:Addr}{R:_T->(qk->Prop)->qk->Prop}(h:xJ L a R):∃ys keep,cT L (.ref a)=some ys/\keep L/\(∀L',keep L'->cT L' (.ref a)=some ys)/\R ys keep L:=by
 unfold xJ at h;split at h
 .rename_i ys e;exact{ys,_,kz e,e,λL' I=>kz I,h}
 .exact h.elim
def bF(tl:v4)(τ:jq)(L:qk)(R:_T->(qk->Prop)->qk->Prop):Prop:=tl τ L λx L1=>match x with
 |.ref a=>xJ L1 a R
 |.sq ys=>R ys (λ_=>True) L1
 |_=>False
def Q6(tl:v4)(τ:jq)(L:qk)(R:_T->(qk->Prop)->qk->Prop):Prop:=tl τ L λx L1=>match x with
 |.tup ys=>R ys (λ_=>True) L1
 |_=>False
def ao(lo:Int)(n:Nat):_T:=(List.range n).map λk=>.int<|lo+(k:Nat)
def gi(ta:fE)(τ:jq)(L:qk)(R:_T->(qk->Prop)->qk->Prop):Prop:=ta τ L λvs L1=>match vs with
 |[.int j]=>(-(2 ^ 62)<=j/\j<2 ^ 62)/\R (ao 0 j.toNat) (λ_=>True) L1
 |_=>False
def zF(_:jq)(L:qk)(Q:Bool->qk->Prop):Prop:=Q true L
inductive f_(ys:_T)(keep:qk->Prop)(n:Nat)(g:mX)(tc:kR)(te:v4)(τ:jq)(L1:qk)(Q:YK):Prop
 |mk:ys.length<sizeLine->∀W:Nat->_T->qk->Prop,W 0 [] L1->(∀i zs L,W i zs L->keep L)->
 (∀i y zs L,ys[i]?=some y->W i zs L->g y (τ++List.replicate n none) L λτ2 L2=>tc τ2 L2 λb L3=>aa b (te τ2 L3 λz L4=>hG (W<|i+1) (zs++[z]) L4)<|hG (W<|i+1) zs L3)->
 (∀zs L,W ys.length zs L->∀p,L p=none->Q (.ref p) (qf L p<|.lst zs))->f_ ys keep n g tc te τ L1 Q
def xZ{keep:qk->Prop}{Q:YK}(h:f_ ys keep n g tc te τ L1 Q):f_ ys keep n g tc te τ L1 Q:=h
def Q7{keep:qk->Prop}{Q:YK}(h:f_ ys keep n g tc te τ L1 Q):f_ ys keep n g tc te τ L1 Q:=h
def g_(n:Nat)(wi:vb)(g:mX)(tc:kR)(te:v4)(τ:jq)(L:qk)(Q:YK):Prop:=wi τ L λys keep L1=>f_ ys keep n g tc te τ L1 Q
abbrev ju:=_T->qk->YK->Prop
def jg(sp:ju)(t:fE)(τ:jq)(L:qk)(Q:YK):Prop:=t τ L λys L1=>sp ys L1 Q
def vi(x:Y)(vs:_T)(L:qk)(Q:YK):Prop:=match x,vs with
 |.ref a,[v]=>dw L a λys=>ys.length<sizeLine/\Q .KB (qf L a<|.lst<|ys++[v])
 |_,_=>False
def ss(x:Y)(vs:_T)(L:qk)(Q:YK):Prop:=match x,vs with
 |.ref a,[.ref b]=>dw L a λys=>dw L b λzs=>ys.length+zs.length<=sizeLine/\Q .KB (qf L a<|.lst<|ys++zs)
 |_,_=>False
def Ep(x:Y)(vs:_T)(L:qk)(Q:YK):Prop:=match x,vs with
 |.ref a,[]=>dw L a λys=>b_ L (λv L=>Q v<|qf L a<|.lst ys.dropLast)<|ys[ys.length-1]?
 |_,_=>False
variable {sp:ju}
def aB.imp{f:X4->X4->Sem X4}{r U:R2}(h:aB X f r)(q:∀x y H Q,U x y H Q->r x y H Q):aB X f U:=λJ s g H x y v u Q I j l z=>h J s g H x y v u Q I j l<|q x y H Q z
def aB.Ym{f:X4->X4->Sem X4}{r:R2}{u:qQ}(h:aB X f r)(q:∀x y H Q x3 I L J,RV G H x3 x->RV G H I y->j9 G H L->u x3 I L J->vB G H J Q->r x y H Q):aB X f (hJ G u):=aB.imp h λx y H Q ψ=>(by obtain⟨x3,I,L,J,a,b,c,d,e⟩:=ψ;exact q x y H Q x3 I L J a b c d e)
abbrev E6:=@aB.Ym
def ZW.imp{f:X4->Sem X4}{r U:V->Hp->VK->Prop}(h:ZW X f r)(q:∀x H Q,U x H Q->r x H Q):ZW X f U:=λJ s g H x v Q I j z=>h J s g H x v Q I j<|q x H Q z
def jx.imp{f:X4}{r U:X_->Hp->VK->Prop}(h:jx X f r)(q:∀x H Q,U x H Q->r x H Q):jx X f U:=λJ s g H x v Q I j z=>h J s g H x v Q I j<|q x H Q z
def jx.Ym{f:X4}{r:X_->Hp->VK->Prop}{u:_T->qk->YK->Prop}(h:jx X f r)(q:∀xs H Q ys L I,xr G H ys xs->j9 G H L->u ys L I->vB G H I Q->r xs H Q):jx X f (j_ G u):=jx.imp h λxs H Q ψ=>(by obtain⟨ys,L,I,a,b,c,d⟩:=ψ;exact q xs H Q ys L I a b c d)
abbrev E7:=@jx.Ym
def ZC.imp{r U:R2}(h:ZC X r)(q:∀x y H Q,U x y H Q->r x y H Q):ZC X U:=λvalue slice J s g H x y v u Q I j l z=>h value slice J s g H x y v u Q I j l<|q x y H Q z
def kA.imp{id:X9}{r U:V->X_->Hp->VK->Prop}(h:kA X id r)(q:∀x xs H Q,U x xs H Q->r x xs H Q):kA X id U:=λJ s g H x xs v j Q I l o z=>h J s g H x xs v j Q I l o<|q x xs H Q z
def oG(U:j9 G H L)(r:RV G H y v)(h:cT L y=some ys):∃p xs,v=.ref p/\(bE G.K H p xs\/eE G.K H p xs)/\xr G H ys xs:=by
 cases y with
 |tup J=>
  obtain⟨a,xs,e,s,q⟩:=r;cases h;exact{a,xs,e,.inr s,q}
 |sq J=>
  obtain⟨a,xs,e,s,q⟩:=r;cases h;exact{a,xs,e,.inl s.sq,q}
 |ref a=>
  cases (show v=.ref a from r);have I:(match L a with|some (.lst ys)=>some ys|_=>none)=some ys:=h;split at I
  .rename_i J e;cases I;obtain⟨xs,g,q⟩:=U a _ e;exact{a,xs,rfl,.inl<|bE.of g,q}
  .cases I
 |_=>cases h
def Q8{i:Int}(s:xr G H ys xs)(h:dZ ys i=some y):∃x,dZ xs i=some x/\RV G H y x:=by
 unfold dZ at h ⊢;rw[<-s.length];cases e:d_ ys.length i with
 |none=>rw[e] at h;cases h
 |some j=>
  rw[e] at h;exact s.get (i:=j) h
section
variable {a b:Expr}{tc:v4}
abbrev QE(X:Cx)(e:Expr)(t:v4):Prop:=PE X e<|uH X.g3 t
abbrev QT(X:Cx)(e:Expr)(t:kR):Prop:=PT X e<|i_ X.g3 t
abbrev QW(X:Cx)(e:Expr)(t:kR):Prop:=PW X e<|i_ X.g3 t
abbrev QA(X:Cx)(es:XU)(t:fE):Prop:=PA X es<|Iz X.g3 t
abbrev QS(X:Cx)(st:Stmt)(t:cH):Prop:=PS X st<|FI X.g3 t
abbrev zP(X:Cx)(st:XW)(t:cH):Prop:=lz X st<|FI X.g3 t
abbrev QG(X:Cx)(e:Expr)(g:mX):Prop:=PG X e<|Fn X.g3 g
abbrev Fs(X:Cx)(es:XU)(g:wT):Prop:=Zz X es<|QU X.g3 g
abbrev QI(X:Cx)(tg it:Expr)(w:vb):Prop:=PI X tg it<|GI X.g3 w
abbrev QF(X:Cx)(es:XU)(t:kR):Prop:=PF X es<|i_ X.g3 t
def QE._h(h:PE X e<|Gj i):QE X e (qh i):=EO h λj H Q l L o I J z k=>by
 unfold qh at z;split at z
 .rename_i y U;obtain⟨v,ev,g⟩:=I.get i y<|sP _ _ U;exact{v,ev,k v H y L (EM _) J g z}
 .exact z.elim
def QE.ZI(h:PE X e<|tC v)(q:∀H,RV X.g3 H y v):QE X e (yC y):=EO h λJ H Q U L g j I z k=>k v H y L (EM _) I (q H) z
def qv(i:Nat)(hN:X.N[i]?=some x:=by rfl)(J:Db X.env.scope x:=by first|exact Or.inl rfl|exact Or.inr (Or.inl rfl)|exact Or.inr<|Or.inr rfl)(hd:Fc x:=by decide)
 (I:Fe x:=by decide):QE X (.Name x pos) (qh i):=QE._h<|pv i hN J hd I
def jZ :QE X (.Constant .none j pos) (yC .KB):=QE.ZI NH λ_=>rfl
def ar{b:Bool} :QE X (.Constant (.bool b) j pos) (yC<|.bl b):=QE.ZI NG λ_=>rfl
def qe{i:Int} :QE X (.Constant (.int i) j pos) (yC<|.int i):=QE.ZI NF λ_=>rfl
def jk :QE X (.Constant (.str x) j pos) (yC<|.str x):=QE.ZI dQ λ_=>rfl
def Q9{c:Addr}(I:Gl X x)(J:X.mg x=some (.ref c))(q:∀H,RV X.g3 H y<|.ref c)(hd:Fc x:=by decide):QE X (.Name x pos) (yC y):=QE.ZI (Qz I J hd) q
def FM{r:qQ}(σ:St)(H:Hp)(Q:VK):uH G (ku r ta tb) σ H Q->Fa (hJ G r) (uH G ta) (uH G tb) σ H Q:=λ ψ=>by
 obtain⟨j,L,t,l,C,z,k⟩:=ψ
 exact {j,L,_,l,C,z,λv H1 y T o I J z1=>{j,T,_,l.ts o,I,z1,λv2 H2 y2 L2 p U g z2=>{y,y2,L2,t,J.ts p,g,U,z2,k.ts<|o.trans p}}}
def ql{op:Operator}{r:qQ}(h:aB X (binaryOp op)<|hJ X.g3 r)(I:QE X a ta)(J:QE X b tb):QE X (.BinOp a op b pos) (ku r ta tb):=E4 (OI h I J) FM
def Ra{r:qQ}(h:ZC X<|hJ X.g3 r)(I:QE X a ta)(J:QE X b tb)(hp:sK b):QE X (.Subscript a b pos) (ku r ta tb):=E4 (PZ h I J hp) FM
def aC{op:CmpOp}{r:qQ}(h:aB X (compareOp op)<|hJ X.g3 r)(I:QE X a ta)(J:QE X b tb)(U:behindInMarks op b=false):QE X (.Compare a [op] [b] pos) (ku r ta tb):=E4 (OV h I J U) FM
def GQ{t:v4}(σ:St)(H:Hp)(Q:Bool->Hp->Prop):i_ G (yB t) σ H Q->Gz (uH G t) σ H Q:=λ ψ=>by
 obtain⟨g,L,C,j,l,z,k⟩:=ψ
 exact {g,L,_,j,l,z,λv o y p r I J U=>by cases y with|bl b=>exact{b,J,k b o p r I U}|_=>exact U.elim}
def II{t:v4}(σ:St)(H:Hp)(Q:Bool->Hp->Prop):i_ G (yB t) σ H Q->tB (uH G t) σ H Q:=GQ σ H Q
def jv{op:CmpOp}{r:qQ}(h:aB X (compareOp op)<|hJ X.g3 r)(J:QE X a ta)(U:QE X b tb)(g:behindInMarks op b=false):QT X (.Compare a [op] [b] pos) (yB<|ku r ta tb):=
 PT.imp (OW h J U g) λI H Q q=>by have j:=GQ I H Q q;obtain⟨l,L,o,p,t,z,k⟩:=j;exact FM I H _ {(l),L,o,p,t,z,k}
def v5(h:QE X e te)(I:∀whole,isTrue e X.env whole=(do let v <-whole;standAt e.pos;holding [v] (truthy v)):=by intro _;rfl):QT X e (yB te):=PT.imp (NM h I) II
def GR{f:X4->X4->Sem X4}{C:Int->Int->Prop}{g:Int->Int->V}{g3:Int->Int->Y}(h:aB X f<|rI C g)(e:∀i j H,RV X.g3 H (g3 i j)<|g i j):aB X f (hJ X.g3<|yI C g3):=E6 h λx y H Q J I L p U l o z k=>by
 cases J with
 |int i=>
  cases I with|int j=>exact{i,j,U,l,z.1,k _ H _ L (EM _) o (e i j H) z.2}|_=>exact z.elim
 |_=>cases I<;>exact z.elim
def FO{f:X4->X4->Sem X4}{g:Int->Int->V}{g3:Int->Int->Y}(h:aB X f<|u_ g)(e:∀i j H,RV X.g3 H (g3 i j)<|g i j):aB X f (hJ X.g3<|p_ g3):=E6 h λx y H Q J I L p U l o z k=>by
 cases J with
 |int i=>
  cases I with|int j=>exact{i,j,U,l,k _ H _ L (EM _) o (e i j H) z}|_=>exact z.elim
 |_=>cases I<;>exact z.elim
def cD:aB X (binaryOp .Sub) (hJ X.g3<|p_ λi j=>.int<|i-j):=FO OL λ_ _ _=>rfl
def l5:aB X (binaryOp .Mult) (hJ X.g3<|yI _w λi j=>.int<|i*j):=GR OM λ_ _ _=>rfl
def wm:aB X (binaryOp .FloorDiv) (hJ X.g3<|yI Gy λi j=>.int<|i / j):=GR ON λ_ _ _=>rfl
def js:aB X (binaryOp .Mod) (hJ X.g3<|yI (λ_ j=>0<j) λi j=>.int<|i % j):=GR OO λ_ _ _=>rfl
def vQ:aB X (compareOp .Lt) (hJ X.g3<|p_ λi j=>.bl<|decide<|i<j):=FO OS λ_ _ _=>rfl
def Rb:aB X (compareOp .LtE) (hJ X.g3<|p_ λi j=>.bl<|decide<|i<=j):=FO OT λ_ _ _=>rfl
def zM:aB X (compareOp .Gt) (hJ X.g3<|p_ λi j=>.bl<|decide<|j<i):=FO OU λ_ _ _=>rfl
def ja:aB X (binaryOp .Add) (hJ X.g3 mG):=E6 Qt λx y H Q t J L Q3 U g I z k=>by
 cases t with
 |int i=>
  cases J with|int j=>cases U;cases g;exact k _ H _ L (EM _) I (by rfl) z|_=>exact z.elim
 |str i=>
  cases J with|str j=>cases U;cases g;exact{z.1,k _ H _ L (EM _) I (by rfl) z.2}|_=>exact z.elim
 |ref a=>
  cases J with
  |ref b=>
   cases U;cases g;obtain⟨ys,zs,C,T,hz,q⟩:=z;obtain⟨xs,h1,o⟩:=I a _ C;obtain⟨us,h2,r⟩:=I b _ T;refine{xs,us,h1,h2,by rw[<-o.length,<-r.length];exact hz,λp l=>?_};exact k _ _ _ _ (EN l) (I.YX l<|o.app r) (by rfl)<|q p<|I.none l
  |_=>exact z.elim
 |_=>cases J<;>exact z.elim
def vI{kvs:List<|Str×Str}{k:Str}(h:kvs.lookup k=some x):bw (kvs.map λp=>((Sum.inr p.1:jb),V.str p.2)) (Sum.inr k)=some (V.str x):=by
 induction kvs with
 |nil=>simp at h
 |cons p r I=>
  obtain⟨a,b⟩:=p;unfold bw;rw[AQ,BP];rw[Bt] at h;by_cases c:k=a
  .subst c;simp at h;simp[h]
  .have J:(k==a)=false:=by simpa using c
   rw[J] at h;have U:decide ((Sum.inr a:jb)=Sum.inr k)=false:=AB λz=>c (Sum.inr.inj z).symm;simp only[U];exact I h
def rN{xs:List<|jb×V}{k:jb}(p:Paired (λ(p:jb×Y) (q:jb×V)=>p.1=q.1/\RV G H p.2 q.2) kvs xs)(h:wv kvs k=some y):∃x,bw xs k=some x/\RV G H y x:=by
 induction p with
 |nil=>cases h
 |@cons a b _ _ r t U=>
  obtain⟨J,l⟩:=a;obtain⟨g,j⟩:=b;obtain⟨e,r⟩:=r;cases (show J=g from e);unfold wv at h;unfold bw;rw[BP] at h ⊢;by_cases c:J=k
  .have I:=AA c;simp only[I] at h ⊢;cases h;exact{(j),rfl,r}
  .have I:=AB c;simp only[I] at h ⊢;exact U h
def Rc(K:Ak)(P:X6)(w:X7)(hK:X.K=K:=by rfl)(hP:X.prog=P:=by rfl)(hw:X.w=w:=by rfl):ZC X (hJ ⟨K,P,w⟩ iH):=by
 subst hK hP hw;refine ZC.imp Qu λx y H Q ψ=>?_;obtain⟨x3,j,L,Q3,I,l,o,z,k⟩:=ψ;have seq:∀{i:Int} {x3:Y},RV X.g3 H x3 x->y=.int i->(kD L x3 λg=>b_ L Q3<|dZ g i)->Iu X.K X.prog X.w x y H Q:=by
  intro i x3 I ey z;subst ey;obtain⟨g,es,z⟩:=aV z;obtain⟨p,C,e,sq,rv⟩:=oG o I es;subst e;cases ea:dZ g i with
  |none=>rw[ea] at z;exact z.elim
  |some y=>
   rw[ea] at z;obtain⟨x,ex,T⟩:=Q8 rv ea;exact{C,x,sq,ex,k _ H _ L (EM _) o T z}
 cases x3 with
 |str s=>
  cases j with
  |int i=>
   cases I;cases l;obtain⟨z1,r⟩:=z;cases ea:dZ s.cps.toList i with
   |none=>rw[ea] at r;exact r.elim
   |some c=>rw[ea] at r;exact{z1,c,ea,k _ H _ L (EM _) o (by rfl) r}
  |_=>exact z.elim
 |cd J=>
  cases j with
  |str s=>
   obtain⟨a,ea,kd⟩:=I;cases ea;cases l;have U:b_ L (λs L=>Q3 (.str s) L) (J.lookup s):=z;cases el:J.lookup s with
   |none=>rw[el] at U;exact U.elim
   |some t=>rw[el] at U;exact{_,_,.inr kd,vI el,k _ H _ L (EM _) o (by rfl) U}
  |int i=>exact z.elim
  |_=>exact z.elim
 |ref a=>
  cases j with
  |int i=>exact seq (x3:=.ref a) I l z
  |str s=>
   cases I;cases l;obtain⟨J,e,U⟩:=iP z;obtain⟨C,e2,pr⟩:=o a _ e;cases ev:wv J (Sum.inr s) with
   |none=>rw[ev] at U;exact U.elim
   |some y=>
    rw[ev] at U;obtain⟨x,ex,I⟩:=rN pr ev;exact{C,x,.inl<|.inl e2,ex,k _ H _ L (EM _) o I U}
  |_=>exact z.elim
 |tup g=>
  cases j with|int i=>exact seq (x3:=.tup g) I l z|_=>exact z.elim
 |sq g=>
  cases j with|int i=>exact seq (x3:=.sq g) I l z|_=>exact z.elim
 |_=>cases j<;>exact z.elim
def xr.inv1(h:xr G H [y] xs):∃x,xs=[x]/\RV G H y x:=by obtain⟨x,I,e,r,s⟩:=h;cases (show I=[] from s);exact{(x),e,r}
def xr.inv2{J:Y}(h:xr G H [y,J] xs):∃x I,xs=[x,I]/\RV G H y x/\RV G H J I:=by obtain⟨x,U,e,r,s⟩:=h;obtain⟨I,g,j⟩:=s.inv1;exact{x,I,by rw[e,g],r,j}
def Rf(K:Ak)(P:X6)(w:X7)(g:X.K=K:=by rfl)(j:X.prog=P:=by rfl)(hw:X.w=w:=by rfl):jx X (.builtin "len") (j_ ⟨K,P,w⟩ yU):=by
 subst g j hw;refine E7 Qw λC H Q l L T U I z k=>?_;unfold yU at z;split at z
 .obtain⟨x,rfl,r⟩:=U.inv1;cases r;exact{z.1,k _ H _ L (EM _) I (by rfl) z.2}
 .rename_i y _;obtain⟨x,rfl,r⟩:=U.inv1;obtain⟨l,o,z⟩:=aV z;obtain⟨p,t,e,sq,J⟩:=oG I r o;subst e;refine{t,sq,?_};rw[<-J.length];exact k _ H _ L (EM _) I (by rfl) z
 .exact z.elim
def Rg(i j:Int):(if j > i then j else i)=max i j:=by split<;>lia
def Rh(i j:Int):(if j<i then j else i)=min i j:=by split<;>lia
def GS(hc:X.calm=true:=by rfl):jx X (.builtin "max") (j_ X.g3 GJ):=E7 (OX hc) λl H Q o L p I J z k=>by
 unfold GJ at z;split at z
 .rename_i i j;obtain⟨x,r,rfl,U,g⟩:=I.inv2;cases U;cases g;refine{i,j,rfl,?_};rw[Rg];exact k _ H _ L (EM _) J (by rfl) z
 .exact z.elim
def IJ(hc:X.calm=true:=by rfl):jx X (.builtin "min") (j_ X.g3 IB):=E7 (OY hc) λl H Q o L p I J z k=>by
 unfold IB at z;split at z
 .rename_i i j;obtain⟨x,r,rfl,U,g⟩:=I.inv2;cases U;cases g;refine{i,j,rfl,?_};rw[Rh];exact k _ H _ L (EM _) J (by rfl) z
 .exact z.elim
def GU:ZW X (unaryOp .USub) (IA X.g3 FK):=ZW.imp OQ λx H Q ψ=>by obtain⟨y,L,U,I,J,z,k⟩:=ψ;cases y with|int i=>exact{i,I,k _ H _ L (EM _) J (by rfl) z}|_=>exact z.elim
def GV{op:UnaryOp}{r:Y->qk->YK->Prop}(h:ZW X (unaryOp op)<|IA X.g3 r)(U:QE X a ta):QE X (.UnaryOp op a pos) (FJ r ta):=EO (OJ h U) λT H Q g L j l o z k=>
 ⟨g,L,_,l,o,z,λv H1 y p t I J C=>{y,p,j,J,I,C,k.ts t}⟩
end
section
variable {a b:Expr}{tc:v4}
def fI{a:Addr}(J:j9 G H L)(h:cT L (.ref a)=some ys):∃xs,bE G.K H a xs/\xr G H ys xs:=by
 have I:(match L a with|some (.lst ys)=>some ys|_=>none)=some ys:=h;split at I
 .rename_i e;cases I;obtain⟨xs,U,q⟩:=J a _ e;exact{xs,bE.of U,q}
 .cases I
def rD(I:j9 G H L)(r:RV G H y v)(J:GL y=true)(h:cT L y=some ys):∃a xs,v=.ref a/\bE G.K H a xs/\xr G H ys xs:=by
 cases y with
 |ref a=>obtain⟨xs,s,q⟩:=fI I h;exact{(a),xs,r,s,q}
 |sq U=>obtain⟨a,xs,e,s,q⟩:=r;cases h;exact{(a),xs,e,s.sq,q}
 |_=>cases J
def Ri{G:G3}{T:uS}{σ:St}(I:z9 X pins σ H s)(rl:j9 X.g3 H L)(r:RV X.g3 H y v)(J:zq v u)(h:Eg L y=some T)
 {c:X4} {b:Bool} (e:PySem.W.kitOne X.K (.type T.nm) c=some b) (U:∀tk,Q (.bool b) {s with toks:=tk}):
 wpAny (model X.prog X.w) A (call (.builtin "isinstance") [u,c]) Q E s:=by
 cases y with
 |KB=>cases h;cases r;exact bT I J .KB e U
 |bl b=>cases h;cases r;exact bT I J (.bl _) e U
 |int i=>cases h;cases r;exact bT I J (.int _) e U
 |str x=>cases h;cases r;exact bT I J (.str _) e U
 |tup ys=>
  cases h;obtain⟨a,j,rfl,sq,_⟩:=r;cases (show u=Value.ref a from J);obtain⟨l,_,⟨o,p,t,_⟩,_⟩:=I.tuple sq;exact BF PySem.W.kitx_tuple I.Yw {(o),p,t} e (λz=>nomatch z) U
 |sq ys=>
  cases h;obtain⟨a,j,rfl,sq,_⟩:=r;cases (show u=Value.ref a from J);obtain⟨l,_,⟨o,n,p,t,_⟩,_⟩:=I.list sq.sq;exact BF DW I.Yw {(o),p,t} e (λz=>nomatch z) U
 |ref a=>
  cases (show v=.ref a from r);have g:(match L a with|some (.lst _)=>some uS.list|some (.YD _)=>some .dict|_=>none)=some T:=h;split at g
  .rename_i ys C;cases g;obtain⟨j,e2,_⟩:=rl a _ C;exact bT I J (.lst e2) e U
  .rename_i a0 C;cases g;obtain⟨j,e2,_⟩:=rl a _ C;exact bT I J (.dK e2) e U
  .cases g
 |_=>cases h
def Rj(K:Ak):∀T S:uS,PySem.W.kitOne K (.type T.nm) (.type S.nm)=some (GK T S):=by intro T S;cases T<;>cases S<;>rfl
def Rk(G:G3)(S:uS):X_->Hp->VK->Prop:=λxs H Q=>∃y v L I T,xs=[v,.ty S.nm]/\RV G H y v/\j9 G H L/\Eg L y=some T/\I (.bl<|GK T S) L/\vB G H I Q
def Rl(S:uS):jx X (.builtin "isinstance") (Rk X.g3 S):=by rintro J s o H p t Q I r⟨y,v,L,C,T,rfl,g,U,ty,q,k⟩;obtain⟨u,c,rfl,j,l⟩:=zn.two r;cases (show c=Value.type S.nm from l);exact xc I.tk<|Ri (G:=X.g3) I U g j ty (Rj _ T S) λtk ht=>{.bl _,H,I.tok _,rfl,k _ H _ L (EM _) U (by rfl) q}
def vz{p:Pos}{I:Str}(S:uS)(t:Gl X "isinstance")(C:X.mg "isinstance"=none)(J:Gl X I)(U:X.mg I=none)(g:bootBuiltins I=some (.type S.nm))(ha:QE X a ta)
 (hn:I ≠ "__name__" := by decide) (hd:(I==("__debug__" : Str))=false:=by decide)
 (hs:starEach [a,.Name I p1] X.env=(false,eval a X.env)::starEach [.Name I p1] X.env:=by rfl) (j:starEach [.Name I p1] X.env=(false,eval (.Name I p1) X.env)::starEach [] X.env:=by rfl)
 (hp:(backTo pos<|starEach [.Name I p1] X.env).any (·.1)=false:=by rfl):
 QE X (.Call (.Name "isinstance" p) [a,.Name I p1] [] pos) (Q1 S ta):=by
 refine E4 (ue (Rl S) t C pq (f9 ha (f9 (QB J U g hn hd) oX j) hs) (by decide) (by decide) hs hp) ?_;rintro σ H Q ⟨τ,L,Q3,rs,rl,z,k⟩;refine{τ,L,_,rs,rl,z,λv H1 y L1 t1 l o r=>?_};obtain⟨T,et,r⟩:=Q0 r;exact{y,v,L1,Q3,T,rfl,o,l,et,r,k.ts t1}
def Ft(neg:Bool)(x y:Y)(L:qk)(Q:YK):Prop:=kD L y λys=>pD x=true/\ys.all pD=true/\Q (.bl<|nb neg<|o_ (tw x)<|ys.map tw) L
def IK(neg:Bool){op:CmpOp}(h:aB X (compareOp op)<|GB X.K neg):aB X (compareOp op) (hJ X.g3<|Ft neg):=E6 h λx y H Q I t L C g j U z k=>by
 obtain⟨J,l,f1,f2,q⟩:=aV z;obtain⟨p,T,e,sq,o⟩:=oG U j l;rw[g.flat f1];rw[o.flat f2] at sq;refine{p,_,e,sq,iO f1,?_,?_}
 .rw[List.all_map,Dy];intro y r;exact iO<|Dy.mp f2 y r
 .have:(if neg=true then !o_ (tw I) (J.map tw) else o_ (tw I) (J.map tw))=(nb neg<|o_ (tw I)<|J.map tw):=by cases neg<;>simp[nb]
  rw[this];exact k _ H _ L (EM _) U (by rfl) q
def Rm(K:Ak)(P:X6)(w:X7)(I:X.K=K:=by rfl)(J:X.prog=P:=by rfl)(hw:X.w=w:=by rfl):aB X (compareOp .In) (hJ ⟨K,P,w⟩<|Ft false):=by subst I J hw;exact IK false Qa
def tE(K:Ak)(P:X6)(w:X7)(I:X.K=K:=by rfl)(J:X.prog=P:=by rfl)(hw:X.w=w:=by rfl):aB X (compareOp .NotIn) (hJ ⟨K,P,w⟩<|Ft true):=by subst I J hw;exact IK true sV
theorem xh.rep{G:G3}{H:Hp}{L:qk}(j:j9 G H L):∀{n:Nat} {y:Y} {d:Da} {v:V},xh L n y d->RV G H y v->a9 G.K H n v d
 |0,y,d,v,ψ,r=>by obtain⟨f,e⟩:=ψ;rw[r.flat f];exact{e,iO f}
 |n+1,y,d,v,h,r=>by
  have both:∀{U:_T} {J:List Da} {I:X_},Paired (xh L n) U J->xr G H U I->Paired (a9 G.K H n) I J:=by
   intro U J I p
   induction p generalizing I with
   |nil=>intro r;cases (show I=[] from r);exact .nil
   |cons q t l=>
    rintro⟨x,o,rfl,C,T⟩;exact .cons (xh.rep j q C)<|l T
  rcases h with⟨f,e⟩|⟨U,J,rfl,rfl,p⟩|⟨U,J,hy,rfl,es,p⟩
  .rw[r.flat f];exact .inl {e,iO f}
  .obtain⟨a,I,rfl,sq,g⟩:=r;exact .inr<|.inl {a,I,J,rfl,rfl,sq,both p g}
  .obtain⟨a,I,rfl,sq,g⟩:=rD j r hy es;exact .inr<|.inr {a,I,J,rfl,rfl,sq,both p g}
def IL(h:Ej y=true)(r:RV G H y v):∃a,v=.ref a:=by
 cases y with
 |ref a=>exact{(a),r}
 |tup I=>obtain⟨a,J,e,_⟩:=r;exact{(a),e}
 |sq I=>obtain⟨a,J,e,_⟩:=r;exact{(a),e}
 |_=>cases h
def IM(neg:Bool)(K:Ak)(P:X6)(w:X7)(g:X.A.units+128<cLine)(l:X.K=K)(o:X.prog=P)(hw:X.w=w):aB X (compareOp<|FE neg) (hJ ⟨K,P,w⟩<|uQ neg):=by
 subst l o hw;refine E6 (Qy neg g) λx y H Q x3 y3 L r J U I z k=>?_;have t:∀{p q:Prop} [Decidable p] [Decidable q],(p↔q)->Ff neg (decide p)=nb neg (decide q):=λh=>by rw[Ei.mpr h];cases neg<;>rfl
 unfold uQ at z;split at z
 any_goals
  rename_i i j;cases J;cases U;refine{rfl,?_};rw[t (q:=i=j) (by simp)];exact k _ H _ L (EM _) I (by rfl) z
 obtain⟨f1,f2,n,m,d,e,C,T,h2,q⟩:=z;obtain⟨a,rfl⟩:=IL f1 J;obtain⟨b,rfl⟩:=IL f2 U;have q:r (.bl<|Ff neg<|Da.eq d e) L:=by cases neg<;>exact q
 exact{n,m,d,e,C,T.rep I J,h2.rep I U,k _ H _ L (EM _) I (by rfl) q}
def ga(K:Ak)(P:X6)(w:X7)(I:X.A.units+128<cLine)(J:X.K=K:=by rfl)(U:X.prog=P:=by rfl)(hw:X.w=w:=by rfl):aB X (compareOp .Eq) (hJ ⟨K,P,w⟩<|uQ false):=IM false K P w I J U hw
def GW(K:Ak)(P:X6)(w:X7)(I:X.A.units+128<cLine)(J:X.K=K:=by rfl)(U:X.prog=P:=by rfl)(hw:X.w=w:=by rfl):aB X (compareOp .NotEq) (hJ ⟨K,P,w⟩<|uQ true):=IM true K P w I J U hw
def RV.Za(r:RV G H y v):decide (v=.KB)=(match y with|.KB=>true|_=>false):=by
 cases y with
 |KB=>cases r;rfl
 |cd I=>obtain⟨a,rfl,_⟩:=r;rfl
 |tup J=>obtain⟨a,U,rfl,_⟩:=r;rfl
 |sq J=>obtain⟨a,U,rfl,_⟩:=r;rfl
 |_=>cases r;rfl
def IP(σ:St)(H:Hp)(Q:VK):uH G (qI false ta) σ H Q->HF (uH G ta) σ H Q:=λ ψ=>by
 obtain⟨U,L,t,g,j,z,k⟩:=ψ
 exact {U,L,_,g,j,z,λv l y o p I J r=>by dsimp only;rw[J.Za];cases y<;>exact k _ l _ o p I (by rfl) r}
def Rn(σ:St)(H:Hp)(Q:VK):uH G (qI true ta) σ H Q->HG (uH G ta) σ H Q:=λ ψ=>by
 obtain⟨U,L,t,g,j,z,k⟩:=ψ
 exact {U,L,_,g,j,z,λv l y o p I J r=>by dsimp only;rw[J.Za];cases y<;>exact k _ l _ o p I (by rfl) r}
def Ro(h:QE X a ta):QE X (.Compare a [.Is] [.Constant .none j fx] pos) (qI false ta):=E4 (NL<|HH h) IP
def IQ{t:TE}(h:∀σ H Q,uH G te σ H Q->t σ H Q)(σ:St)(H:Hp)(Q:Bool->Hp->Prop):i_ G (yB te) σ H Q->tB t σ H Q:=λq=>h σ H _<|II σ H Q q
def oO(h:QE X a ta):QT X (.Compare a [.Is] [.Constant .none j fx] pos) (yB<|qI false ta):=PT.imp (HI<|HH h)<|IQ IP
def da(h:QE X a ta):QT X (.Compare a [.IsNot] [.Constant .none j fx] pos) (yB<|qI true ta):=PT.imp (HI<|NK h)<|IQ Rn
end
section
variable {a b:Expr}{rest:XU}{tc:v4}{tB:kR}
def aS(h:QT X a tA):QW X (.BoolOp .And [a] pos) tA:=NQ h
def oE(h:QT X a tA):QW X (.BoolOp .Or [a] pos) tA:=NR h
def bn(h:QT X a tA)(k:QW X (.BoolOp .And (b::rest) pos) tB):QW X (.BoolOp .And (a::b::rest) pos) (Fp tA tB):=PW.Ym (NS h k) λt H Q U L o g p z k=>
 ⟨U,L,_,g,p,z,λc r j J I l=>by cases c with|true=>rw[Ay rfl];exact{U,j,o,g.ts J,I,l,k.ts J}|false=>rw[Au AK];exact k _ r j J I l⟩
def rR(h:QT X a tA)(k:QW X (.BoolOp .Or (b::rest) pos) tB):QW X (.BoolOp .Or (a::b::rest) pos) (x_ tA tB):=PW.Ym (NT h k) λt H Q U L o g p z k=>
 ⟨U,L,_,g,p,z,λc r j J I l=>by cases c with|true=>rw[Ay rfl];exact k _ r j J I l|false=>rw[Au AK];exact{U,j,o,g.ts J,I,l,k.ts J}⟩
def bK(h:QW X a tA):QT X a tA:=PW.pt h
def dM(h:QT X a tA):QT X (.UnaryOp .Not a pos) (uG tA):=PT.Ym (NU h) λr H Q J L t U g z k=>
 ⟨J,L,_,U,g,z,λc j l o I p=>k _ j l o I p⟩
def jQ{op:BoolOp}(h:QE X a ta):QE X (.BoolOp op [a] pos) ta:=NX h
def gq(h:QE X a ta)(k:QE X (.BoolOp .And (b::rest) pos) tb):QE X (.BoolOp .And (a::b::rest) pos) (ID ta tb):=EO (NY h k) λT H Q g L r j t z k=>
 ⟨g,L,_,j,t,z,λv C y l J I U o=>by
  cases y with
  |bl c=>
   refine{c,U,?_};have p:=o;cases c with|true=>rw[Ay rfl];exact{g,l,r,j.ts J,I,p,k.ts J}|false=>rw[Au AK];exact k _ C _ l J I (by rfl) p
  |_=>exact o.elim⟩
def Rp(h:QE X a ta):QE X (.UnaryOp .Not a pos) (Q2 ta):=EO (NZ h) λt H Q g L C j l z k=>
 ⟨g,L,_,j,l,z,λv o y p r I J U=>by cases y with|bl c=>exact{c,J,k _ o _ p r I (by rfl) U}|_=>exact U.elim⟩
def iy(h:QT X c tA)(p:QE X a ta)(r:QE X b tb):QE X (.IfExp c a b pos) (GN tA ta tb):=EO (N5 h p r) λC H Q U L j g t z k=>
 ⟨U,L,_,g,t,z,λc T l J I o=>by cases c with|true=>rw[Ay rfl];exact{U,l,j,g.ts J,I,o,k.ts J}|false=>rw[Au AK];exact{U,l,j,g.ts J,I,o,k.ts J}⟩
def wz:QA X [] x8:=PA.Ym oX λJ H Q U L g j I z k=>k _ H _ L (EM _) I (by rfl) z
def vg(h:QE X e te)(t:QA X es tr)(hs:E9 e es X:=by rfl):QA X (e::es) (qt te tr):=PA.Ym (f9 h t hs) λσ H Q j L Q3 l C z k=>
 ⟨j,L,_,l,C,z,λv H1 y T o I J z1=>{j,T,_,l.ts o,I,z1,λp H2 ys L2 r U g z2=>k (v::p) H2 (y::ys) L2 (o.trans r) U {v,p,rfl,J.ts r,g} z2}⟩
def zj(h:QA X es tr):QE X (.Tuple es x1 pos) (mK tr):=EO (Ph h) λσ H Q l L Q3 o r z k=>
 ⟨l,L,_,o,r,z,λt H1 j C T U I J=>by
  cases e:Nat.ble j.length 1000 with
  |false=>rw[e] at J;exact J.elim
  |true=>
   rw[e] at J;have:=Dw e;refine{small (by rw[<-I.length];exact this),λp g=>?_};exact k _ _ (.tup j) C (T.trans<|EN g) (U.skip g) {p,t,rfl,eE.of zg,I.ts<|EN g} J⟩
def jm(h:QA X es tr):QE X (.List es pos) (gG tr):=EO (Pj h) λC H Q j L T l o z k=>
 ⟨j,L,_,l,o,z,λvs H1 r L1 t I J U=>by
  cases e:Nat.ble r.length 1000 with
  |false=>rw[e] at U;exact U.elim
  |true=>
   rw[e] at U;have:=Dw e;refine{small (by rw[<-J.length];exact this),λp g=>?_};exact k _ _ _ _ (t.trans<|EN g) (I.YX g J) (by rfl)<|U p<|I.none g⟩
def ko{p:Pos}{id:X9}{r:_T->qk->YK->Prop}(hc:jx X (.builtin id)<|j_ X.g3 r)(U:Gl X x)(g:X.mg x=none)(j:bootBuiltins x=some (.builtin id))(h:QA X (e::es) tr)
 (l:x ≠ "__name__" := by decide) (hd:Fc x:=by decide) (hs:E9 e es X:=by rfl) (hp:Fb pos es X:=by rfl):
 QE X (.Call (.Name x p) (e::es) [] pos) (k_ r tr):=EO (ue hc U g j h l hd hs hp) λσ H Q o L t C T z k=>
 ⟨o,L,_,C,T,z,λvs H1 ys L1 t1 I J z1=>{ys,L1,t,J,I,z1,k.ts t1}⟩
def IR(G:G3)(t:Fq):TO:=λσ H Q=>∃τ L I,vq G H σ τ/\j9 G H L/\t τ L I/\∀(o:XZ) H' L',jc H H'->j9 G H' L'->I o L'->Q o H'
abbrev QO(X:Cx)(e:Option Expr)(t:Fq):Prop:=PO X e<|IR X.g3 t
def PO.imp{e:Option Expr}{t u:TO}(h:PO X e t)(q:∀σ H Q,u σ H Q->t σ H Q):PO X e u:=λJ s σ H Q I z=>h J s σ H Q I<|q σ H Q z
def PO.Ym{e:Option Expr}{t:TO}{u:Fq}(h:PO X e t)(q:∀σ H Q τ L I,vq G H σ τ->j9 G H L->u τ L I->(∀(o:XZ) H' L',jc H H'->j9 G H' L'->I o L'->Q o H')->t σ H Q):PO X e (IR G u):=PO.imp h λσ H Q ψ=>(by obtain⟨τ,L,I,a,b,c,d⟩:=ψ;exact q σ H Q τ L I a b c d)
def uR.imp{U:V->XZ->XZ->Hp->VK->Prop}(h:uR X r)(q:∀x lo hi H Q,U x lo hi H Q->r x lo hi H Q):uR X U:=by intro J s g H x v j l lo hi o Q I p t pl C z;exact h J s g H x v j l lo hi o Q I p t pl C<|q _ _ _ _ _ z
def bz:QO X none sg:=PO.Ym PQ λJ H Q U L g j I z k=>k _ H L (EM _) I z
def ai(h:QE X e te):QO X (some e) (GO te):=PO.Ym (PR h) λt H Q g L C j l z k=>
 ⟨g,L,_,j,l,z,λv o y p r I J U=>by cases y with|int i=>exact{i,J,k _ o p r I U}|_=>exact U.elim⟩
def FP(G:G3)(r:Y->XZ->XZ->qk->YK->Prop):V->XZ->XZ->Hp->VK->Prop:=λx lo hi H Q=>∃y L I,RV G H y x/\j9 G H L/\r y lo hi L I/\vB G H I Q
def aU{lo hi:Option Expr}{tl th:Fq}{r:Y->XZ->XZ->qk->YK->Prop}(h:uR X<|FP X.g3 r)(T:QE X a ta)(hl:QO X lo tl)(hh:QO X hi th):QE X (.Subscript a (.Slice lo hi none p2) pos) (GP r ta tl th):=
 EO (PV h T hl hh) λσ H Q I L Q3 J rl z k=>
 ⟨I,L,_,J,rl,z,λv H1 y L1 U g j z1=>{I,L1,_,J.ts U,g,z1,λo H2 L2 l p z2=>{I,L2,_,J.ts<|U.trans l,p,z2,λo' H3 L3 C t z3=>{y,L3,Q3,j.ts<|l.trans C,t,z3,k.ts<|U.trans<|l.trans C}}}⟩
def sQ(r:xr G H ys xs)(lo hi:XZ):xr G H (gd ys lo hi) (vO xs lo hi):=by unfold gd vO;rw[r.length];exact(r.drop _).take _
def Rq(K:Ak)(P:X6)(w:X7)(l:X.K=K:=by rfl)(o:X.prog=P:=by rfl)(hw:X.w=w:=by rfl):uR X (FP ⟨K,P,w⟩ IE):=by
 subst l o hw;refine uR.imp P_ λx lo g H Q ψ=>?_;obtain⟨y,L,Q3,j,J,z,k⟩:=ψ;cases y with
 |ref a=>
  obtain⟨t,C,T⟩:=ve z;obtain⟨U,sq,r⟩:=fI J<|kz C;exact{a,U,j,sq,λp I=>k _ _ _ _ (EN I) (J.YX I<|sQ r lo g) (by rfl)<|T p<|J.none I}
 |sq t=>
  obtain⟨a,U,e,sf,r⟩:=j;exact{a,U,e,sf.sq,λp I=>k _ _ _ _ (EN I) (J.YX I<|sQ r lo g) (by rfl)<|z p<|J.none I}
 |_=>exact z.elim
end
section
variable {a b iter:Expr}{tc:v4}{tB:kR}{rest ny:XW}{t u:cH}
def qw:zP X [] a6:=lz.Ym N9 λD U H g L j I J z k=>k.nx _ H _ L (EM _) I J z
def qd(h:QS X st t):zP X [st] t:=Oa h
def qa(h:QS X st t)(k:zP X rest u):zP X (st::rest) (je t u):=lz.Ym (vK h k) λD σ H j L I l o z k=>
 ⟨j,L,{I with nx:=u I},l,o,z,λp H1 J r C U g T=>{J,r,I,U,g,T,k.ts C},k.rt,k.bk,k.ct⟩
def vT:QS X (.Continue pos) Q4:=ET uX λD U H g L j I J z k=>k.ct _ H _ L (EM _) I J z
def zf(h:QE X e te)(hs:swapsWith e none pos.line X.env=pure false:=by rfl):QS X (.Expr e pos) (bC te):=ET (Oe h hs) λD t H g L C J j z k=>
 ⟨g,L,_,J,j,z,λv l y o U I p r=>k.nx _ l _ o U (J.ts U) I r⟩
def qr(h:QE X e te):QS X (.Return (some e) pos) (cJ te):=ET (Og h) λD g H I L j J U z k=>{I,L,_,J,U,z,k.rt}
def IS:QS X (.Return none pos) IF:=ET Oi λD J H U L g j I z k=>k.rt _ H _ L (EM _) I (by rfl) z
def zr(h:QT X c tA)(p:zP X body t)(r:zP X ny u):QS X (.If c body ny pos) (cY tA t u):=ET (Ol h p r) λD T H U L j g C z k=>
 ⟨U,L,_,g,C,z,λc H1 l J I o=>by cases c with|true=>rw[Ay rfl];exact{U,l,j,g.ts J,I,o,k.ts J}|false=>rw[Au AK];exact{U,l,j,g.ts J,I,o,k.ts J}⟩
def dh(hN:X.N.Nodup)(I:X.N[i]?=some x)(r:Loc X.env.scope x)(h:QE X e te)(J:swapsWith e (some<|.Name x fx) pos.line X.env=pure false:=by rfl)
 (U:X.fn x=true\/X.env.scope.names.lookup x=some .local:=by first|exact .inl rfl|exact .inr rfl|assumption):QS X (.Assign [.Name x fx] e pos) (vv te<|qo i):=ET (Op hN I r h J U) λD σ H l L D3 o t z k=>
 ⟨l,L,_,o,t,z,λv C y T p g j z1=>k.nx _ C _ T p (show vq _ _ _ (gH l i y) by rw[bM];exact(o.ts p).set j) g z1⟩
def jL(h:QE X e te)(o:QG X tg g)(h1:swapsWithSole [tg] e pos.line X.env=pure false:=by rfl)(h2:swappedStores [tg] e X.env=pure none:=by rfl)
 (p:(assignEach [tg] X.env).map (·.2)=[assign tg X.env]:=by rfl):QS X (.Assign [tg] e pos) (vv te g):=ET (HM h o h1 h2 p) λD T H U L D3 j r z k=>
 ⟨U,L,_,j,r,z,λv H1 y t l I J C=>{y,U,t,_,J,j.ts l,I,C,k.nx.ts l}⟩
def PG.imp{t u:TG}(h:PG X e t)(q:∀v σ H Q,u v σ H Q->t v σ H Q):PG X e u:=λJ s σ H x v Q I r z=>h J s σ H x v Q I r<|q _ _ _ _ z
def Zz.imp{e:XU}{t u:e_}(h:Zz X e t)(q:∀v σ H Q,u v σ H Q->t v σ H Q):Zz X e u:=λJ s σ H x v Q I r z=>h J s σ H x v Q I r<|q _ _ _ _ z
def dP(hN:X.N.Nodup)(I:X.N[i]?=some x)(U:Loc X.env.scope x)(J:X.fn x=true\/X.env.scope.names.lookup x=some .local:=by first|exact .inl rfl|exact .inr rfl|assumption):QG X (.Name x pos) (qo i):=
 PG.imp (nK hN I U J) λv p H Q ψ=>(by obtain⟨y,g,L,r,j,l,o,z,k⟩:=ψ;exact k _ H _ L (EM _) (show vq _ _ _ (gH g i y) by rw[bM];exact l.set j) o z)
def km:Fs X [] cM:=Zz.imp HK λj l H Q ψ=>by obtain⟨I,o,L,p,J,U,g,z,k⟩:=ψ;cases I with|nil=>exact{J,k _ H _ L (EM _) U g z}|cons y r=>exact z.elim
def ze(h:QG X e g)(hs:Fs X es gs)(l:(assignEach (e::es) X.env).map (·.2)=assign e X.env::(assignEach es X.env).map (·.2):=by rfl):Fs X (e::es) (x5 g gs):=
 Zz.imp (pM h hs l) λvs σ H Q ψ=>by
 obtain⟨o,p,L,t,C,T,rl,z,k⟩:=ψ
 cases o with
 |nil=>exact z.elim
 |cons y r=>
  obtain⟨x,xs,rfl,r1,r2⟩:=C;exact{x,xs,rfl,y,p,L,_,r1,T,rl,z,λa0 H1 I L1 j J U z1=>{r,I,L1,t,r2.ts j,J,U,z1,k.ts j}}
def ag{j:Nat}(hc:X.calm=true)(h:Fs X es gs)(h1:(assignEach es X.env).length=n:=by rfl)(h2:(assignEach es X.env).findIdx? (·.1)=none:=by rfl):QG X (.Tuple es j pos) (fM n gs):=
 PG.imp (HL hc h h1 h2) λv C H Q ψ=>by
 obtain⟨y,U,L,g,l,o,p,z,k⟩:=ψ
 cases y with
 |tup I=>
  obtain⟨a,t,rfl,sq,r⟩:=l;have J:(match I.length==n with|true=>gs I U L g|false=>False):=z;split at J
  .rename_i e;exact{a,t,rfl,sq,by rw[<-r.length];exact beq_iff_eq.mp e,I,U,L,g,r,o,p,J,k}
  .exact J.elim
 |_=>exact z.elim
def IT{y:Str}{px py pt:Pos}{J:Nat}{I:Pos}(hc:X.calm=true)(hN:X.N.Nodup)(hi:X.N[i]?=some x)(C:X.N[j]?=some y)(U:i≠j)(T:X.env.scope.names.lookup x=some .local)(ly:X.env.scope.names.lookup y=some .local)
 (h:QA X [a,b] tr) (h1:swappedStores [.Tuple [.Name x px,.Name y py] kt pt] (.Tuple [a,b] J I) X.env=pure (some [x,y])) (h2:swapsWithSole [.Tuple [.Name x px,.Name y py] kt pt] (.Tuple [a,b] J I) pos.line X.env=pure false:=by rfl):
 QS X (.Assign [.Tuple [.Name x px,.Name y py] kt pt] (.Tuple [a,b] J I) pos) (IG i j tr):=ET (Ot hc hN hi C U T ly h h1 h2) λD σ H p L D3 r rl z k=>
 ⟨p,L,_,r,rl,z,λvs H1 ys L1 t g l o=>by
  split at o
  .rename_i v w;obtain⟨x',y',rfl,r1,r2⟩:=l.inv2;exact{x',y',rfl,k.nx _ H1 _ L1 t (show vq _ _ _ (gH (gH p i v) j w) by rw[bM,bM];exact((r.ts t).set r1).set r2) g o}
  .exact o.elim⟩
def eO(hp:PassesOwn (model X.prog X.w) X.A X.env X.xe)(h:QT X c tA)(hb:zP X body t):QS X (.While c body [] pos) (jR tA t):=PS.imp (Ov hp h hb) λD σ H ψ=>by
 obtain⟨τ,L,D3,rs,rl,⟨W,⟨m0,w0⟩,turn⟩,k⟩:=ψ
 refine{λm r H1=>∃J C,jc H H1/\vq X.g3 H1 r J/\j9 X.g3 H1 C/\W m J C,{m0,τ,L,EM _,rs,rl,w0},?_};rintro m r H1 ⟨J,C,t1,l,a1,w1⟩;refine{J,C,_,l,a1,turn m J C w1,λb H2 L2 T a0 z2=>?_};cases b with
 |false=>rw[Au AK];exact k.nx _ H2 _ L2 (t1.trans T) (l.ts T) a0 z2
 |true=>
  rw[Ay rfl];obtain⟨N,hN,z2⟩:=z2;refine{λU g=>∃I j,jc H g/\vq X.g3 g U I/\j9 X.g3 g j/\N I j,?_,?_}
  .rintro U g ⟨I,j,t',o,p,n'⟩;obtain⟨m',hm,w'⟩:=hN I j n';exact{(m'),hm,I,j,t',o,p,w'}
  .have nx:qE X.g3 H2 (hG N) (λU g=>∃I j,jc H g/\vq X.g3 g U I/\j9 X.g3 g j/\N I j):=λU g I j t' o p ψ=>(by obtain⟨L5,s5,n'⟩:=ψ;exact {I,L5,(t1.trans T).trans t',o,p.sub s5,n'});have k2:=k.ts<|t1.trans T;exact{J,L2,_,l.ts T,a0,z2,nx,k2.rt,k2.nx,nx}
def w5{wi:vb}(hp:PassesOwn (model X.prog X.w) X.A X.env X.xe)(hc:X.calm=true)(hi:QI X tg iter wi)(hg:QG X tg g)(hb:zP X body t)(hs:∀x,foldedSetIterable iter X.env x=pure x:=by intro _;rfl):
 QS X (.For tg iter body [] pos) (mI wi g t):=ET (OG hp hc hi hg hb hs) λD σ H τ L D3 rs rl z k=>by
 refine{τ,L,_,rs,rl,z,λJ H1 ys keep L1 t1 a2 yl zz=>?_};obtain⟨W,w0,wk,turn,xg⟩:=Q5 zz;refine{λi m U j=>∃I o,i+m=ys.length/\jc H1 j/\vq X.g3 j U I/\j9 X.g3 j o/\W i I o,{ys.length,τ,L1,by omega,EM _,rs.ts t1,a2,w0},?_};rintro i m al H2 ⟨l,L2,au,T,a0,p,w2⟩;by_cases a1:i<ys.length
 .refine .inr {yl.go i H2 L2 T p (wk i l L2 w2) a1,λU j=>∃I o,jc H1 j/\vq X.g3 j U I/\j9 X.g3 j o/\W (i+1) I o,?_,?_}
  .rintro U j ⟨I,o,t',r,C,w'⟩;exact{m-1,by omega,I,o,by omega,t',r,C,w'}
  .intro x H3 y3;have ey:=An a1;obtain⟨t3,a3,a4⟩:=yl.Zk i H2 L2 x H3 _ T p (wk i l L2 w2) ey y3;refine{ys[i],l,L2,_,a4,a0.ts t3,a3,turn i _ l L2 ey w2,λav H4 a5 L4 t4 ab ac z4=>?_};have nx:qE X.g3 H4 (hG<|W<|i+1) (λU j=>∃I o,jc H1 j/\vq X.g3 j U I/\j9 X.g3 j o/\W (i+1) I o):=λU j I o t' r C ψ=>(by obtain⟨L5,s5,n'⟩:=ψ;exact {I,L5,((T.trans t3).trans t4).trans t',r,C.sub s5,n'});have k2:=k.ts<|t1.trans<|(T.trans t3).trans t4;exact{a5,L4,_,ab,ac,z4,nx,k2.rt,k2.nx,nx}
 .have e:i=ys.length:=by omega
  subst e;exact .inl {yl.stop H2 L2 T p<|wk _ l L2 w2,k.nx _ H2 _ L2 (t1.trans T) a0 p<|xg l L2 w2}
def PI.imp{t u:TI}(h:PI X tg e t)(q:∀σ H Q,u σ H Q->t σ H Q):PI X tg e u:=λJ s σ H Q I z=>h J s σ H Q I<|q σ H Q z
def PI.Ym{t:TI}{u:vb}(h:PI X tg e t)(q:∀σ H R τ L I,vq G H σ τ->j9 G H L->u τ L I->(∀J H' ys keep L',jc H H'->j9 G H' L'->gr G H' J ys keep->I ys keep L'->R J H')->t σ H R):PI X tg e (GI G u):=PI.imp h λσ H R ψ=>(by obtain⟨τ,L,I,a,b,c,d⟩:=ψ;exact q σ H R τ L I a b c d)
def lD{a:Addr}{keep:qk->Prop}(h:∀H L,jc H₀ H->j9 G H L->keep L->∃xs,bE G.K H a xs/\xr G H ys xs):gr G H₀ (Gq G.K a) ys keep where
 go:=λi H L t I J U=>by
  obtain⟨xs,sq,r⟩:=h H L t I J;have:i<xs.length:=by rw[<-r.length];exact U
  exact{xs,xs[i],sq,An this}
 Zk:=λi H L x o y t I J g ψ=>by obtain⟨e,f⟩:=ψ;subst e;obtain⟨xs,sq,r⟩:=h _ L t I J;obtain⟨p,j,l⟩:=r.get g;have:=f xs sq;rw[j] at this;cases this;exact{EM _,I,l}
 stop:=λH L t I J=>by obtain⟨xs,sq,r⟩:=h H L t I J;exact{xs,sq,by rw[r.length];exact Ap _}
def vk(h:QE X e te):QI X tg e (bF te):=PI.Ym (Oz h) λσ H R τ L R3 rs l z k=>by
 refine{τ,L,_,rs,l,z,λv g y o C I U p=>?_};cases y with
 |ref a=>
  obtain⟨j,keep,es,kp,hk,z2⟩:=u4 p;have T:∀H L,jc g H->j9 X.g3 H L->keep L->∃J,bE X.K H a J/\xr X.g3 H j J:=λH L _ l e=>fI l<|hk L e;obtain⟨J,sq,_⟩:=T g o (EM _) I kp;exact{a,U,{(J),sq},k _ g j _ o C I (lD T) z2}
 |sq j=>
  obtain⟨a,J,e,sf,r⟩:=U;exact{a,e,{(J),sf.sq},k _ g j (λ_=>True) o C I (lD λH L t _ _=>{J,(sf.ts t).sq,r.ts t}) p}
 |_=>exact p.elim
def wY(lo:Int)(n:Nat):gr G H₀ (EX lo n) (ao lo n) (λ_=>True) where
 go:=λi H L t J g j=>show i<n by simpa[ao] using j
 Zk:=λi H L x l y t J g U ψ=>by
  obtain⟨e,f⟩:=ψ
  subst e f;refine{EM _,J,?_};unfold ao at U;rw[Aq] at U;obtain⟨z,I,e⟩:=AE.mp U;have:=BY (i:=i) (n:=n) (by
   by_cases c:i<n
   .exact c
   .rw[B0 (by simp;omega)] at I;cases I)
  rw[this] at I;cases I;subst e;rfl
 stop:=λH L t J g=>by simp[ao,EX]
def aJ{p:Pos}(g:Gl X "range")(l:X.mg "range"=none)(h:QA X [a] tr)(hs:starEach [a] X.env=[(false,eval a X.env)]:=by rfl):QI X tg (.Call (.Name "range" p) [a] [] pos) (gi tr):=
 PI.Ym (OD g l h hs) λσ H R o L R3 t C z k=>by
 refine{o,L,_,t,C,z,λvs T ys L1 t1 J U I=>?_};split at I
 .rename_i j;obtain⟨x,rfl,r⟩:=U.inv1;cases r;exact{j,rfl,I.1.1,I.1.2,k _ T _ _ L1 t1 J (wY 0 _) I.2}
 .exact I.elim
end
section
variable {T:XT}{iter:Expr}{wi:vb}
def gt:QF X [] zF:=PF.imp QH λJ H Q ψ=>(by obtain⟨U,L,g,j,I,z,k⟩:=ψ;exact k _ H L (EM _) I z)
def bU(h:QT X c tA):QF X [c] tA:=QJ h
def IU{g2:TG}(a0:∀v σ H Q,Fn G g v σ H Q->g2 v σ H Q)(σ:St)(H:Hp)(Q:VK):uH G (g_ n wi g tA te) σ H Q->GH n (GI G wi) g2 (i_ G tA) (uH G te) σ H Q:=λ ψ=>by
 obtain⟨τ,L,Q3,rs,rl,z,k⟩:=ψ
 refine{τ,L,_,rs,rl,z,λJ H1 o keep L1 t1 a1 yl zz=>?_};obtain⟨hz,W,w0,wk,turn,xg⟩:=Q7 zz;refine{λi m vs H'=>∃I L',i+m=o.length/\I.length<=i/\jc H1 H'/\xr G H' I vs/\j9 G H' L'/\W i I L',{o.length,[],L1,by exact Er _ _,Ap _,EM _,rfl,a1,w0},?_};rintro i m vs H2 ⟨I,L2,ac,al,l,U,j,p⟩;by_cases r:i<o.length
 .refine .inr {yl.go i H2 L2 l j (wk i I L2 p) r,by rw[<-U.length];lia,?_};intro x H3 y3;have ey:=An r;obtain⟨t3,a2,a3⟩:=yl.Zk i H2 L2 x H3 _ l j (wk i I L2 p) ey y3;refine a0 _ _ _ _ {o[i],_,L2,_,a3,(rs.ts<|(t1.trans l).trans t3).more n,a2,turn i _ I L2 ey p,λau H4 t L4 t4 C a4 z4=>?_};refine{t,L4,_,C,a4,z4,λb H5 L5 t5 T z5=>?_};cases b with
  |true=>
   rw[Ay rfl];refine{t,L5,_,C.ts t5,T,z5,λv6 H6 y6 L6 t6 a5 ab ψ=>?_};obtain⟨L7,s7,z6⟩:=ψ;have tt:=((t3.trans t4).trans t5).trans t6;exact{m-1,by omega,I++[y6],L7,by lia,by rw[Ab,Ba];exact Fk,l.trans tt,(U.ts tt).app<|xr.one ab,a5.sub s7,z6}
  |false=>
   rw[Au AK];have tt:=(t3.trans t4).trans t5;obtain⟨L7,s7,z6⟩:=z5;exact{m-1,by lia,I,L7,by lia,by exact GF,l.trans tt,U.ts tt,T.sub s7,z6}
 .have ei:i=o.length:=by lia
  subst ei;refine .inl {yl.stop H2 L2 l j<|wk _ I L2 p,by rw[<-U.length];lia,λD hD=>?_};exact k _ _ _ _ ((t1.trans l).trans<|EN hD) (j.YX hD U) (by rfl)<|xg I L2 p D<|j.none hD
structure Es(X:Cx)(scope:Scope)(T:XT)(target:Expr)(g:mX):Prop where
 ex:∃g2:TG,(∀C fp s₀ H₀,PG (X.comp scope T C fp s₀ H₀) target g2)/\sF g2 X.N.length T.length/\∀v σ H Q,Fn X.g3 g v σ H Q->g2 v σ H Q
def Rr(i:Nat)(v:V)(σ:St)(H:Hp)(Q:St->Hp->Prop):Fn G (qo i) v σ H Q->eF i v σ H Q:=λ ψ=>by
 obtain⟨y,I,L,j,J,U,g,z,k⟩:=ψ
 exact k _ H _ L (EM _) (show vq _ _ _ (gH I i y) by rw[bM];exact U.set J) g z
def aw{p:Pos}(hN:(X.N++[x]).Nodup)(J:∀C fp s₀ H₀,Loc (X.comp scope [x] C fp s₀ H₀).env.scope x)(I:∀C fp s₀ H₀,(X.comp scope [x] C fp s₀ H₀).env.scope.names.lookup x=some .local):Es X scope [x] (.Name x p) (qo X.N.length):=
 ⟨eF X.N.length,λC fp s₀ H₀=>nK (X:=X.comp scope [x] C fp s₀ H₀) hN (by show(X.N++[x])[X.N.length]?=some x;simp) (J C fp s₀ H₀)<|.inr<|I C fp s₀ H₀,y4 _,Rr _⟩
def Rs{K:Ak}(n:Nat):sF (Gn K 2<|wI (eF n)<|wI (eF<|n+1) Gm) n 2:=by
 rintro o I x H Q ⟨a,J,e,sq,len,v,r,U,w,g,j,l,q⟩;refine{a,J,e,sq,len,v,r,U,w,g,j,l,{by simp[I],λi u ei=>?_},q};have p:i<n:=by
  by_cases c:i<n
  .exact c
  .rw[AL (by lia),CB] at ei;split at ei<;>cases ei
 rw[AZ (by lia),AZ (by exact Im)];exact ei
def Rv(i j:Nat)(v:V)(σ:St)(H:Hp)(Q:St->Hp->Prop):Fn G (fM 2<|x5 (qo i)<|x5 (qo j) cM) v σ H Q->Gn G.K 2 (wI (eF i)<|wI (eF j) Gm) v σ H Q:=λ ψ=>by
 obtain⟨y,U,L,g,o,p,t,z,k⟩:=ψ
 cases y with
 |tup I=>
  obtain⟨a,xs,rfl,sq,r⟩:=o;have J:(match I.length==2 with|true=>x5 (qo i) (x5 (qo j) cM) I U L g|false=>False):=z;split at J
  .rename_i e;have C:=beq_iff_eq.mp e
   match I,C with
   |[T,y2],_=>
    obtain⟨x1,l,rfl,r1,r2⟩:=r.inv2;have z2:g (gH (gH U i T) j y2) L:=J;exact{a,_,rfl,sq,rfl,x1,[l],rfl,l,[],rfl,rfl,k _ H _ L (EM _) (by rw[bM,bM];exact(p.set r1).set r2) t z2}
  .exact J.elim
 |_=>exact z.elim
def Rw{y:Str}{p I pt:Pos}(hc:X.calm=true)(hN:(X.N++[x,y]).Nodup)(U:∀C fp s₀ H₀,(X.comp scope [x,y] C fp s₀ H₀).env.scope.names.lookup x=some .local)(J:∀C fp s₀ H₀,(X.comp scope [x,y] C fp s₀ H₀).env.scope.names.lookup y=some .local)
 (h1:∀env,(assignEach [.Name x p,.Name y I] env).length=2:=by intro _;rfl) (h2:∀env,(assignEach [.Name x p,.Name y I] env).findIdx? (·.1)=none:=by intro _;rfl)
 (g:∀env,(assignEach [.Name x p,.Name y I] env).map (·.2)=assign (.Name x p) env::(assignEach [.Name y I] env).map (·.2):=by intro _;rfl) (j:∀env,(assignEach [.Name y I] env).map (·.2)=assign (.Name y I) env::(assignEach [] env).map (·.2):=by intro _;rfl):
 Es X scope [x,y] (.Tuple [.Name x p,.Name y I] kt pt) (fM 2<|x5 (qo X.N.length)<|x5 (qo<|X.N.length+1) cM):=
 ⟨_,λC fp s₀ H₀=>HL (X:=X.comp scope [x,y] C fp s₀ H₀) hc (pM (nK hN (by show(X.N++[x,y])[X.N.length]?=some x;simp) (.inl<|U C fp s₀ H₀)<|.inr<|U C fp s₀ H₀) (pM (nK hN (by show(X.N++[x,y])[X.N.length+1]?=some y;simp) (.inl<|J C fp s₀ H₀)<|.inr<|J C fp s₀ H₀) HK<|j _)<|g _) (h1 _)<|h2 _,Rs _,Rv _ _⟩
def gN(T:XT)(S:ji X scope)(hc:X.calm=true)(hi:QI X target iter wi)(I:Es X scope T target g)
 (J:∀C fp s₀ H₀,QF (X.comp scope T C fp s₀ H₀) jl tA) (U:∀C fp s₀ H₀,QE (X.comp scope T C fp s₀ H₀) mj te)
 (hs:∀x,foldedSetIterable iter X.env x=pure x:=by intro _;rfl):QE X (.ListComp mj [{target,iter,jl,0}] scope pos) (g_ T.length wi g tA te):=by
 obtain⟨g2,j,l,o⟩:=I.ex;exact E4 (QL T S hc hi j l J U hs)<|IU o
def ak(T:XT){px o:Pos}(hN:X.N.Nodup)(I:X.N[i]?=some x)(hx:Loc X.env.scope x)(S:ji X scope)(hc:X.calm=true)(hi:QI X target iter wi)
 (hg:Es X scope T target g) (hf:∀C fp s₀ H₀,QF (X.comp scope T C fp s₀ H₀) jl tA) (he:∀C fp s₀ H₀,QE (X.comp scope T C fp s₀ H₀) mj te)
 (J:swapsWith (.ListComp mj [{target,iter,jl,0}] scope o) (some<|.Name x px) pos.line X.env=pure true:=by rfl)
 (U:X.fn x=true\/X.env.scope.names.lookup x=some .local:=by first|exact .inl rfl|exact .inr rfl|assumption)
 (hs:∀x,foldedSetIterable iter X.env x=pure x:=by intro _;rfl):QS X (.Assign [.Name x px] (.ListComp mj [{target,iter,jl,0}] scope o) pos) (vv (g_ T.length wi g tA te)<|qo i):=by
 obtain⟨g2,h1,h2,h3⟩:=hg.ex;refine PS.imp (QM (tc:=i_ X.g3 tA) (te:=uH X.g3 te) T hN I hx S hc hi h1 h2 hf he J U hs) λD σ H ψ=>?_;obtain⟨p,L,D3,r,rl,z,k⟩:=ψ;refine IU h3 σ H _ {p,L,_,r,rl,z,λv H1 y L1 t j l z1=>?_};exact k.nx _ H1 _ L1 t (show vq _ _ _ (gH p i y) by rw[bM];exact(r.ts t).set l) j z1
def dn(G:G3)(sp:ju):Sp:=λvs H Q _=>∃ys L I,xr G H ys vs/\j9 G H L/\sp ys L I/\vB G H I Q
abbrev GX(P:X6)(w:X7)(K:Ak)(mg:XM)(base:X8)(k:Nat)(x:Str)(ps:XT)(sp:ju):Prop:=Zs P w K mg base k x ps<|dn {(K),P,w} sp
abbrev Zw(P:X6)(w:X7)(K:Ak)(mg:XM)(base:X8)(k:Nat)(f:Addr)(fd:FuncData)(ps:XT)(sp:ju):Prop:=bp P w K mg base Zg k f fd ps<|dn {(K),P,w} sp
def Rx{k:Nat}{p:Pos}(c:GX X.prog X.w X.K X.mg X.base k x ps sp)(j:wx k X.A)(l:Gl X x)(o:QA X (e::es) tr)(I:Fc x:=by decide)
 (r:E9 e es X:=by rfl) (J:Fb pos es X:=by rfl):QE X (.Call (.Name x p) (e::es) [] pos) (jg sp tr):=
 EO (QC c j l o I r J) λσ H Q t L C T rl z k=>
 ⟨t,L,_,T,rl,z,λvs H1 ys L1 t1 U g z1=>{ys,L1,C,by rw[Aw];exact g,U,z1,k.ts t1}⟩
def gB(Q:YK):YK:=λy L=>∃L2,qg L2 L/\Q y L2
def jI(N:XT)(ys:_T):jq:=ys.map some++List.replicate (N.length-ys.length) none
def rJ{N:XT}{vs:X_}(r:xr G H ys vs):vq G H (start N vs) (jI N ys):=by unfold start jI;rw[<-r.length];refine vq.more {by simp[r.length],λi y e=>?_} _;rw[Aq] at e;obtain⟨g,I,J⟩:=AE.mp e;cases J;obtain⟨x,ex,U⟩:=r.get I;exact{x,by rw[Aq,ex];rfl,U}
def Ry{P:X6}{w:X7}{K:Ak}{N:XT}{k:Nat}(F:ZQ K x eA st f fd)(S:bN N ps<|zb st)(len:∀ys L Q,sp ys L Q->ys.length=ps.length)
 (I:∀(eH:X4) (A:Around) (outer:List Env) (s:X5) (H:Hp) (E:XK),wx k (A.deeper<|PyProof.Rows.envOfC eA (zb st) s.heap.objs.size f eH)->
  ∃t,zP (qJ Zg P w K mg base N eA (zb st) f eH A outer s H E).Z0 (jw st) t/\∀ys L Q,sp ys L Q->t {nx:=λ_ L'=>gB Q .KB L',rt:=gB Q} (jI N ys) L):Zw P w K mg base (k+1) f fd ps sp:=by
 refine F.ok S (λT H Q E ψ=>by obtain⟨ys,L,U,g,C,z,_⟩:=ψ;rw[<-g.length];exact len ys L U z) λeH A outer s H T Q E hr ψ=>?_;obtain⟨ys,L,U,g,C,z,k⟩:=ψ;obtain⟨t,ht,q⟩:=I eH A outer s H E hr;refine{_,ht,jI N ys,L,_,rJ g,C,q ys L U z,?_};refine{λσ j τ L' l a0 J ψ=>(by obtain⟨L2,o,p⟩:=ψ;exact k .KB j .KB L2 l (J.sub o) (by rfl) p),λv j y L' l J r ψ=>(by obtain⟨L2,o,p⟩:=ψ;exact k v j y L2 l (J.sub o) r p),λ_ _ _ _ _ _ _ z=>z.elim,λ_ _ _ _ _ _ _ z=>z.elim}
def l_(G:G3)(r:Y->_T->qk->YK->Prop):V->X_->Hp->VK->Prop:=λx xs H Q=>∃y ys L I,RV G H y x/\xr G H ys xs/\j9 G H L/\r y ys L I/\vB G H I Q
def kA.Ym{id:X9}{r:V->X_->Hp->VK->Prop}{u:Y->_T->qk->YK->Prop}(h:kA X id r)(q:∀x xs H Q y ys L I,RV G H y x->xr G H ys xs->j9 G H L->u y ys L I->vB G H I Q->r x xs H Q):kA X id (l_ G u):=kA.imp h λx xs H Q ψ=>(by obtain⟨y,ys,L,I,a,b,c,d,e⟩:=ψ;exact q x xs H Q y ys L I a b c d e)
def Rz:kA X "list.append" (l_ X.g3 vi):=kA.Ym Qg λx p H Q y t L C U g J z k=>by
 unfold vi at z;split at z
 .rename_i a v;obtain⟨T,e,z⟩:=ve z;obtain⟨j,I,r⟩:=J a _ e;obtain⟨l,rfl,o⟩:=g.inv1;exact{a,j,l,U,rfl,I,by rw[<-r.length];exact z.1,k _ _ _ _ (EY I) (J.Zm I<|r.app<|xr.one o) (by rfl) z.2}
 .exact z.elim
def RA:kA X "list.extend" (l_ X.g3 ss):=kA.Ym Qi λx T H Q y ys L Q3 g j I z k=>by
 unfold ss at z;split at z
 .rename_i a b;obtain⟨zs,e,z⟩:=ve z;obtain⟨us,l,z⟩:=ve z;obtain⟨o,J,r⟩:=I a _ e;obtain⟨p,t,U⟩:=I b _ l;obtain⟨v',rfl,C⟩:=j.inv1;cases C;exact{a,b,o,p,g,rfl,J,t,by rw[<-r.length,<-U.length];exact z.1,k _ _ _ _ (EY J) (I.Zm J<|r.app U) (by rfl) z.2}
 .exact z.elim
def RB:kA X "list.pop" (l_ X.g3 Ep):=kA.Ym Qk λx l H Q y T L Q3 o p U z k=>by
 unfold Ep at z;split at z
 .rename_i a;obtain⟨g,e,z⟩:=ve z;obtain⟨t,I,r⟩:=U a _ e;cases (show l=[] from p);cases J:g[g.length-1]? with
  |none=>rw[J] at z;exact z.elim
  |some v=>
   rw[J] at z;obtain⟨u,j,C⟩:=r.get J;rw[r.length] at j;exact{a,t,u,o,rfl,I,j,k _ _ _ _ (EY I) (U.Zm I r.dropLast) (C.ts<|EY I) z}
 .exact z.elim
def IV{a:Addr}(I:j9 G H L)(h:cT L (.ref a)=some ys):FF G.K "list" (.ref a) H:=by obtain⟨J,sq,_⟩:=fI I h;exact .inl {(rfl),J,sq}
def mC(r:Y->_T->qk->YK->Prop)(to:v4)(t:fE)(τ:jq)(L:qk)(Q:YK):Prop:=to τ L λx L1=>match x with
 |.ref a=>kD L1 (.ref a) λ_=>t τ L1 λxs L2=>r (.ref a) xs L2 Q
 |_=>False
structure ya(X:Cx)(o e:Expr)(es:XU)(name:Str)(apos eK:Pos):Prop where
 h4:attributeBase o name X.env (eval o X.env)=eval o X.env
 h5:((backTo eK<|starEach (e::es) X.env).all (λx=>!x.1)&&(backToKw eK<|keywordEach [] X.env).all (λx=>x.1.isSome)&&decide ((e::es).length+([]:List Keyword).length+(if ([]:List Keyword).isEmpty=true then 0 else 1)<30))=true
 h6:(apos.endLine==eK.line)=true
 h7:E9 e es X
 h8:Fb eK es X
def tK{id:X9}{r:Y->_T->qk->YK->Prop}(h2:Slot "list" name id)(h3:typeOf (.builtin id)=pure (.type "method_descriptor"))(hm:kA X id<|l_ X.g3 r)(ho:QE X o to)(ha:QA X (e::es) tr)
 (I:ya X o e es name apos eK:=by exact{(rfl),rfl,rfl,rfl,rfl}):
 QE X (.Call (.Attribute o name apos) (e::es) [] eK) (mC r to tr):=EO (Ij PySem.F.plainAttrs_list h2 h3 hm ho ha I.h4 I.h5 I.h6 I.h7 I.h8) λσ H Q p L Q3 t rl z k=>
 ⟨p,L,_,t,rl,z,λv H1 y L1 C J U g=>by
  split at g
  .rename_i a;obtain⟨T,es,g⟩:=aV g;exact{by cases U;exact IV J es,p,L1,_,t.ts C,J,g,λvs H2 T L2 t2 j l z2=>{.ref a,T,L2,Q3,U.ts t2,l,j,z2,k.ts<|C.trans t2}}
  .exact g.elim⟩
def RC{id:X9}{r:Y->_T->qk->YK->Prop}(h2:Slot "list" name id)(g:typeOf (.builtin id)=pure (.type "method_descriptor"))(j:kA X id<|l_ X.g3 r)(l:QE X o to)
 (p:attributeBase o name X.env (eval o X.env)=eval o X.env:=by rfl) (t:(apos.endLine==eK.line)=true:=by rfl):
 QE X (.Call (.Attribute o name apos) [] [] eK) (mC r to x8):=EO (Qd PySem.F.plainAttrs_list h2 g j l p t) λσ H Q C L T rs rl z k=>
 ⟨C,L,_,rs,rl,z,λv H1 y L1 t1 I J U=>by
  split at U
  .rename_i a;obtain⟨ys,es,U⟩:=aV U;exact{by cases J;exact IV I es,.ref a,[],L1,T,J,rfl,I,U,k.ts t1}
  .exact U.elim⟩
def za(I:QE X o to)(J:QA X (e::es) tr)(U:ya X o e es "append" apos eK:=by exact{(rfl),rfl,rfl,rfl,rfl}):
 QE X (.Call (.Attribute o "append" apos) (e::es) [] eK) (mC vi to tr):=tK PySem.F.slot_list_append PySem.F.type_list_append Rz I J U
def RE(I:QE X o to)(J:QA X (e::es) tr)(U:ya X o e es "extend" apos eK:=by exact{(rfl),rfl,rfl,rfl,rfl}):
 QE X (.Call (.Attribute o "extend" apos) (e::es) [] eK) (mC ss to tr):=tK PySem.F.slot_list_extend PySem.F.type_list_extend RA I J U
def RF(I:QE X o to)(J:attributeBase o "pop" X.env (eval o X.env)=eval o X.env:=by rfl)(U:(apos.endLine==eK.line)=true:=by rfl):
 QE X (.Call (.Attribute o "pop" apos) [] [] eK) (mC Ep to x8):=RC PySem.F.slot_list_pop PySem.F.type_list_pop RB I J U
end
abbrev Et:qQ:=p_ λi j=>.int<|i-j
abbrev a3f:qQ:=yI _w λi j=>.int<|i*j
abbrev RG:qQ:=yI Gy λi j=>.int<|i / j
abbrev wF:qQ:=yI (λ_ j=>0<j) λi j=>.int<|i % j
abbrev RH:qQ:=p_ λi j=>.bl<|decide<|i<j
abbrev yLe:qQ:=p_ λi j=>.bl<|decide<|i<=j
abbrev GY:qQ:=p_ λi j=>.bl<|decide<|j<i
structure IW(G:G3)(mg:XM)(x:Str)(y:Y):Prop where
 ex:∃c,mg x=some (.ref c)/\∀H,RV G H y<|.ref c
def RI(t:IW X.g3 X.mg x y)(I:Gl X x)(hd:Fc x:=by decide):QE X (.Name x pos) (yC y):=by obtain⟨c,J,q⟩:=t.ex;exact Q9 I J q hd
def IX(kvs:List<|Str×Str):LO:=.YD<|kvs.map λp=>(Sum.inr p.1,Y.str p.2)
def RJ(kvs:List<|Str×Str)(_:jq)(L:qk)(Q:YK):Prop:=∀p,L p=none->Q (.ref p) (qf L p<|IX kvs)
def yp(kvs:List<|Str×Str):List (jb×V):=kvs.map λp=>(Sum.inr p.1,V.str p.2)
theorem wL{σ:St}{H:Hp}{Q:List (V×V)->Hp->Prop}:∀{kvs:List<|Str×Str},Q (kvs.map λp=>(V.str p.1,V.str p.2)) H->uK (kvs.map λp=>(tC<|.str p.1,tC<|.str p.2)) σ H Q
 |[],h=>h
 |_::r,h=>wL (kvs:=r) h
theorem zQ{G:G3}{H:Hp}:∀kvs:List (Str×Str),Paired (λ(p:jb×Y) (q:jb×V)=>p.1=q.1/\RV G H p.2 q.2) (kvs.map λp=>(Sum.inr p.1,Y.str p.2))<|yp kvs
 |[]=>.nil
 |_::r=>.cons {(rfl),rfl}<|zQ r
def RK{keys:List<|Option Expr}{values:XU}(kvs:List<|Str×Str)(h:Fh X pos keys values<|kvs.map λp=>(tC<|.str p.1,tC<|.str p.2))(h1:(keys.all λx=>x.isSome)=true)(h2:keys.length=values.length)(U:keys≠[])(g:keys.length<=15)
 (j:kvs.length<=15:=by decide) (nd:jW [] (yp kvs)=yp kvs:=by decide +kernel):QE X (.Dict keys values pos) (RJ kvs):=EO (PM h h1 h2 U g) λl H Q o L r t J z k=>by
 intro p I;refine wL {zg,yp kvs,by simp[yp,kV],by simpa[yp] using j,?_};rw[nd,HE];refine k _ _ _ (qf L p<|IX kvs) (EN I) ?_ (by rfl)<|z p<|J.none I;intro a u e;by_cases c:a=p
 .subst c;rw[q9] at e;cases e;exact{yp kvs,zg,zQ kvs}
 .rw[qc c] at e;exact(J a u e).keep (EN I) (qm c)
def m8{Q:α->qk->Prop}{o:Option α}(h:b_ L Q o):∃v,o=some v/\Q v L:=by cases o with|none=>exact h.elim|some v=>exact{(v),rfl,h}
def kZ{kvs:List<|Str×Str}{k:Str}(h:kvs.lookup k=some x):wv (kvs.map λp=>((Sum.inr p.1:jb),Y.str p.2)) (Sum.inr k)=some (Y.str x):=by
 induction kvs with
 |nil=>simp at h
 |cons p r I=>
  obtain⟨a,b⟩:=p;unfold wv;rw[AQ,BP];rw[Bt] at h;by_cases c:k=a
  .subst c;simp at h;simp[h]
  .have J:(k==a)=false:=by simpa using c
   rw[J] at h;have U:decide ((Sum.inr a:jb)=Sum.inr k)=false:=AB λz=>c (Sum.inr.inj z).symm;simp only[U];exact I h
def zO(h:(ao lo n)[i]?=some y):i<n/\y=.int (lo+i):=by
 unfold ao at h;rw[Aq] at h;obtain⟨z,I,e⟩:=AE.mp h;have J:i<n:=by
  by_cases c:i<n
  .exact c
  .rw[B0 (by simp;exact FH)] at I;cases I
 rw[BY J] at I;cases I;exact{(J),e.symm}
def fQ(lo:Int)(n:Nat):(ao lo n).length=n:=by simp[ao]
def sT{tb:cH}{D:vt}(W:Nat->jq->qk->Prop)(J:W 0 τ L)
 (hs:∀i τ L,i<n->W i τ L->g (.int<|lo+i) τ L λI L2=>tb {D with nx:=hG<|W<|i+1,ct:=hG<|W<|i+1,bk:=D.nx} I L2) (hd:∀τ L,W n τ L->D.nx τ L):xA (ao lo n) (λ_=>True) g tb D τ L:=by
 refine w9 {W,J,λ_ _ _ _=>trivial,λi y τ L e w=>?_,λτ L w=>hd τ L (by rw[fQ] at w;exact w)};obtain⟨U,rfl⟩:=zO e;exact hs i τ L U w
def RL{a:Addr}{v:Y}{Q:YK}(e:L a=some (.lst<|ys++[v]))(q:Q v<|qf L a<|.lst ys):kD L (.ref a) (λ_=>x8 τ L λxs L2=>Ep (.ref a) xs L2 Q):=by
 refine qb e<|qp e ?_;have:(ys++[v])[(ys++[v]).length-1]?=some v:=by simp
 rw[this,List.dropLast_concat];exact q
def mv{tb:cH}{D:vt}{a:Addr}(h:cT L (.ref a)=some ys)(W:Nat->jq->qk->Prop)(J:W 0 τ L)(U:∀i τ L',W i τ L'->L' a=L a)
 (hs:∀i y τ L,ys[i]?=some y->W i τ L->g y τ L λI L2=>tb {D with nx:=hG<|W<|i+1,ct:=hG<|W<|i+1,bk:=D.nx} I L2) (hd:∀τ L,W ys.length τ L->D.nx τ L):
 xJ L a λys keep L1=>xA ys keep g tb D τ L1:=xl (re h) λkeep j=>w9 {W,J,λi τ L' w=>j L'<|U i τ L' w,hs,hd}
def dS{keep:qk->Prop}{Q:YK}(I:Nat->_T->Prop)(hz:ys.length<sizeLine)(j:keep L)(l:I 0 [])
 (turn:∀(i:Nat) y zs,ys[i]?=some y->I i zs->g y (τ++List.replicate n none) L λJ L2=>tc J L2 λb L3=>aa b (te J L3 λz o=>hG (λzs L'=>L'=L/\I (i+1) zs) (zs++[z]) o)<|hG (λzs L'=>L'=L/\I (i+1) zs) zs L3)
 (r:∀zs,I ys.length zs->∀p,L p=none->Q (.ref p) (qf L p<|.lst zs)):f_ ys keep n g tc te τ L Q:=by
 refine xZ {hz,λi zs L'=>L'=L/\I i zs,{(rfl),l},?_,?_,?_}
 .rintro i zs L' ⟨rfl,_⟩;exact j
 .rintro i y zs L' t ⟨rfl,U⟩;exact turn i y zs t U
 .rintro zs L' ⟨rfl,U⟩ p C;exact r zs U p C
def oT{Q:YK}(I:Nat->_T->Prop)(hz:m<sizeLine)(j:I 0 [])
 (turn:∀(i:Nat) zs,i<m->I i zs->g (.int<|lo+i) (τ++List.replicate n none) L λJ L2=>tc J L2 λb L3=>aa b (te J L3 λz l=>hG (λzs L'=>L'=L/\I (i+1) zs) (zs++[z]) l)<|hG (λzs L'=>L'=L/\I (i+1) zs) zs L3)
 (o:∀zs,I m zs->∀p,L p=none->Q (.ref p) (qf L p<|.lst zs)):f_ (ao lo m) (λ_=>True) n g tc te τ L Q:=by
 refine dS (keep:=λ_=>True) I (by rw[fQ];exact hz) trivial j (λi y zs e U=>?_) λzs U=>o zs (by rw[fQ] at U;exact U);obtain⟨r,rfl⟩:=zO e;exact turn i zs r U
def RM(ys:_T)(n:Nat):gd ys (some ((n:Nat):Int)) none=ys.drop n:=by
 unfold gd;rw[Yr,YG];by_cases h:n<=ys.length
 .rw[BW h,AU (by rw[BQ];simp +arith only)]
 .rw[Cm (by lia),List.drop_of_length_le<|Ap _,List.drop_of_length_le (by lia),List.take_nil]
def RN(ys:_T)(n:Nat):gd ys none (some ((n:Nat):Int))=ys.take n:=by
 unfold gd;rw[Yr,YG,DQ,Nat.sub_zero];by_cases h:n<=ys.length
 .rw[BW h]
 .rw[Cm (by lia),AU<|Ap _,AU (by lia)]
def aX{I:List α}{f:α->Y}{w:α}(h:I[i]?=some w):dZ (I.map f) (i:Int)=some (f w):=jo (by rw[Aq,h];rfl)
def jz(t:cH)(n:Nat)(ys:_T)(L:qk)(Q:YK):Prop:=t {nx:=λ_ L'=>gB Q .KB L',rt:=gB Q} (ys.map some++List.replicate (n-ys.length) none) L
abbrev _f(sp:_T->qk->YK->Prop)(t:cH)(n:Nat):Prop:=∀ys L Q,sp ys L Q->jz t n ys L Q
def xg{Q:YK}(h:Q y L):gB Q y L:={L,EL L,h}
def fC{Q:YK}(s:qg L L')(h:Q y L):gB Q y L':={(L),s,h}
theorem Zw.never{P:X6}{w:X7}{K:Ak}{k:Nat}(no:∀ys L Q,¬sp ys L Q):Zw P w K mg base k f fd ps sp:=
 bp.never λJ H Q E ψ=>(by obtain⟨ys,L,I,_,_,z,_⟩:=ψ;exact no ys L I z)
def qg.upd{a:Addr}{o:LO}(s:qg L L')(h:L a=none):qg L (qf L' a o):=λb u e=>by rw[qc<|w6 e h];exact s b u e
def qg.put{a:Addr}{o:LO}(s:qg L L')(h:L' a=some o):qg (qf L a o) L':=λb u e=>by
 by_cases c:b=a
 .subst c;rw[q9] at e;cases e;exact h
 .rw[qc c] at e;exact s b u e
theorem wA{G:G3}{H:Hp}:∀I:XX,xr G H (I.map Y.int)<|I.map V.int
 |[]=>rfl
 |_::r=>{_,_,rfl,rfl,wA r}
section
variable {σ:St}
def pL(I:z9 X pins σ H s)(U:∀b∈fp,H b=none)(k:∀b o,b∉fp->s.heap.get? b=some o->h'.get? b=some o):gY X.prog X.w H h':=λb u e=>by
 refine(I.HT b u e).Ys (λc v g q=>k c v (λz=>?_) q) (λ_ q=>q) λ_ _ q=>q;have J:=U c z;rcases g with w|w
 .rw[w,e] at J;cases J
 .rw[w] at J;cases J
def RP{fs:List Addr}(k:∀b o,b∉fp->h.get? b=some o->h'.get? b=some o):Un fs fp H H h h':=
 ⟨λb o q _ _ x=>k b o x q,λb o q _ _ x=>{o.slots,k b o x q},λ_ _ _ n _=>n,λb o q x=>{o,k b o x q},λ_ _ q=>q,λ_ _ _ q=>q,λb I q=>{#[],by rw[q];simp}⟩
def z9.Zb(I:z9 X pins σ H s)(k:∀b o,b∉fp->s.heap.get? b=some o->h'.get? b=some o)(U:∀b∈fp,mL X pins H b)(g:0<t':=by walk_at "t"):z9 X pins σ H {s with heap:=h',toks:=t'}:=
 I.ZF (s':={s with heap:=h',toks:=t'}) (ch:=fp) rfl (RP k) (pL I (λb J=>(U b J).1) k) I.bare λb J=>{(U b J).2.2.2.1,(U b J).2.1,(U b J).2.2.2.2.1,(U b J).2.2.2.2.2}
def z9.Zc{a:Addr}{o:HO}(I:z9 X pins σ H s)(k:∀b o,b∉fp->s.heap.get? b=some o->h'.get? b=some o)(U:∀b∈fp,mL X pins H b)(j:s.heap.objs.size<=a)
 (new:vf X.prog X.w (upd H a o) h' a o) (p:0<t':=by walk_at "t"):z9 X pins σ (upd H a o) {s with heap:=h',toks:=t'}:=by
 have g:=I.HT.fresh j;have lt:∀b ob,s.heap.get? b=some ob->b≠a:=λb ob q=>AY<|AW (pj q) j;refine I.ZF (s':={s with heap:=h',toks:=t'}) (ch:=fp) rfl ?_ ?_ I.bare λb J=>{(U b J).2.2.2.1,(U b J).2.1,(U b J).2.2.2.2.1,(U b J).2.2.2.2.2}
 .exact{λb ob q _ _ x=>k b ob x q,λb ob q _ _ x=>{ob.slots,k b ob x q},λb ob q n _=>by rw[qm<|lt b ob q];exact n,λb ob q x=>{ob,k b ob x q},
   λb l q=>by rw[qm<|zo q g];exact q,λb ob u q=>by rw[qm<|zo q g];exact q,λb r q=>{#[],by rw[qm<|zo q g,q];simp}}
 .intro b u e;by_cases J:b=a
  .subst J;rw[zg] at e;cases e;exact new
  .rw[qm J] at e;have ok:=pL I (h':=h') (λb J=>(U b J).1) k b u e;exact ok.Ys (λ_ _ _ q=>q) (λc q=>by rw[qm<|zo q g];exact q) λc l q=>by rw[qm<|zo q g];exact q
end
def GZ(K:Ak)(a:Addr):It:=
 ⟨λi H=>∃xs x,bE K H a xs/\xs[i]?=some x,λi H v H'=>∃p x,H p=none/\v=.ref p/\H'=upd H p (.tup [.int i,x])/\∀xs,bE K H a xs->xs[i]?=some x,λi H=>∃xs,bE K H a xs/\xs.length<=i⟩
def RQ{P:X6}{w:X7}{K:Ak}(a e it:Addr)(l:e≠it):DT P w K (.Tuple mE x1 tp) (GZ K a) [e,it] e (λi h=>(∃old,IsEnum h e it i old)/\h.IsListIter it a i) where
 mem:=by simp
 obj:=λi h ψ b g=>by
  obtain⟨⟨old,J⟩,U⟩:=ψ
  rcases Ao.mp g with rfl|g
  .exact{_,J,λv z=>by cases z}
  .cases Aj.mp g;obtain⟨o,T,hc,hd⟩:=U;exact{o,T,λv z=>by rw[hd] at z;cases z}
 keep:=λi h h' ψ k=>(by obtain⟨⟨old,J⟩,U⟩:=ψ;exact {{old,k e (by simp) _ J},U.at λo q=>k it (by simp) o q})
 item:=by
  rintro X hP hw hK hc i r s σ H E I t ⟨⟨old,J⟩,U⟩ hg;subst hP hw hK;obtain⟨xs,x,C,hx⟩:=hg;obtain⟨a0,rv,p,hz⟩:=I.list C;obtain⟨u,hu,ru⟩:=rv.get hx;refine wpAny_pyNext_enum_item J U p.isList (x:=u) (by simpa using hu) l λh1 a1 a2 ht a5 hk=>{.ref s.heap.objs.size,rfl,wpAny_letOwnedTupleGo_enum a1 λh2 a3 j=>?_};have el:=pj J;have il:it<s.heap.objs.size:=by obtain⟨o,T,_⟩:=U;exact pj T
  have kk:∀b o,b∉[e,it]->s.heap.get? b=some o->h2.get? b=some o:=λb o nb q=>by have n1:b≠e:=λz=>nb (by simp[z]);have n2:b≠it:=λz=>nb (by simp[z]);exact j.extBut b o n1<|hk b o n1 n2 q
  have tg:=j.extBut _ _ (CL el) ht;refine{.ref s.heap.objs.size,upd H s.heap.objs.size<|.tup [.int i,x],?_,rfl,{_,x,I.HT.fresh<|Ap _,rfl,rfl,λys hy=>by rw[I.Yu hy C];exact hx},{{_,a3},a2.at λo q=>j.extBut _ _ (AJ l) q},λb g=>?_}
  .exact I.Zc (t':=s.toks+1) kk t (Ap _) {by show 2<=sizeLine;decide,[.int i s.toks,u],.cons {_,rfl}<|.cons ru .nil,{_,tg,rfl,_,rfl}}
  .have a4:b<s.heap.objs.size:=by rcases Ao.mp g with rfl|g;exact el;cases Aj.mp g;exact il
   rw[qm<|AY a4];exact(t b g).1
 done:=by rintro X hP hw hK hc i r s σ H E I t ⟨⟨old,J⟩,U⟩ hg;subst hP hw hK;obtain⟨xs,C,hx⟩:=hg;obtain⟨a0,rv,p,hz⟩:=I.list C;have hl:=rv.length;exact wpAny_pyNext_enum_end (I.ok.hd hc) J U p.isList (by simp;omega) λh1 eb=>{rfl,I.Zb (t':=s.toks) (fp:=[e,it]) (λb o nb q=>eb b o (λz=>nb (by simp[z])) q) t}
 self:=λ_ _ _ _ _ ψ h=>(by obtain⟨⟨_,J⟩,_⟩:=ψ;exact wpAny_pyIter_enum J h)
def RS(K:Ak)(ta:TA):TI:=λσ H R=>ta σ H λvs H1=>∃a,vs=[.ref a]/\(∃xs,bE K H1 a xs)/\R (GZ K a) H1
def sH:bootBuiltins "enumerate"=some (.type "enumerate"):=by decide +kernel
def RT{a:Expr}{ta:TA}{p:Pos}(t:Gl X "enumerate")(C:X.mg "enumerate"=none)(T:PA X [a] ta)(hs:starEach [a] X.env=[(false,eval a X.env)]:=by rfl):
 PI X (.Tuple mE x1 tp) (.Call (.Name "enumerate" p) [a] [] pos) (RS X.K ta):=by
 intro U s σ H R I h;refine Call_<|dm I t C sH<|Cg (aN (T pos U s σ H _ I h) λus J ψ=>?_) hs rfl;obtain⟨vs,H1,j,r1,q1⟩:=ψ;obtain⟨l,e,⟨xs,hq⟩,q⟩:=q1;subst e;obtain⟨u,rfl,ru⟩:=rZ r1;cases ru;obtain⟨a0,rv,pl,hz⟩:=j.list hq;refine call_enumerate_list pl.isList λh1 r hi a1 hk=>?_;have I2:=j.kept (t':=J.toks) hk;refine wpAny_pyIter_enum (s:={J with heap:=h1}) r ?_;refine{J.heap.objs.size+1,[J.heap.objs.size+1,J.heap.objs.size],_,_,H1,rfl,I2,RQ l _ _<|Nat.succ_ne_self _,{{_,r},hi},λb o=>?_,q};have g:J.heap.objs.size<=b:=by rcases Ao.mp o with rfl|o;exact CK _;cases Aj.mp o;exact Ap _
 exact j.Zj g<|j.HT.fresh g
def lg{a:Addr}{keep:qk->Prop}(h:∀H L,jc H₀ H->j9 G H L->keep L->∃xs,bE G.K H a xs/\xr G H ys xs):gr G H₀ (GZ G.K a) (ys.zipIdx.map λp=>Y.tup [.int (p.2:Nat),p.1]) keep where
 go:=λi H L t I J o=>by
  obtain⟨xs,sq,r⟩:=h H L t I J;have:i<xs.length:=by rw[<-r.length];simpa using o
  exact{xs,xs[i],sq,An this}
 Zk:=λi H L x H' y t I J l ψ=>by obtain⟨p,z,U,C,T,f⟩:=ψ;subst C T;obtain⟨xs,sq,r⟩:=h H L t I J;rw[Aq,List.getElem?_zipIdx] at l;obtain⟨⟨y',j⟩,ey,e3⟩:=AE.mp l;obtain⟨a0,g,e4⟩:=AE.mp ey;cases e4;subst e3;obtain⟨x',e',rv⟩:=r.get g;have:=f xs sq;rw[e'] at this;cases this;refine{EN U,I.skip U,p,_,rfl,eE.of zg,{_,_,rfl,?_,_,_,rfl,rv.ts<|EN U,rfl}};congr 1;simp
 stop:=λH L t I J=>by obtain⟨xs,sq,r⟩:=h H L t I J;exact{xs,sq,by rw[Ah,List.length_zipIdx,r.length];exact Ap _}
def lJ(ys:_T):_T:=ys.zipIdx.map λp=>Y.tup [.int (p.2:Nat),p.1]
def cg(h:(lJ ys)[i]?=some y):∃z,ys[i]?=some z/\y=.tup [.int i,z]:=by unfold lJ at h;rw[Aq,List.getElem?_zipIdx] at h;obtain⟨⟨J,j⟩,U,g⟩:=AE.mp h;obtain⟨l,I,o⟩:=AE.mp U;cases o;exact{J,I,by rw[<-g];simp}
def cR(ys:_T):(lJ ys).length=ys.length:=by simp[lJ]
def IY(tl:v4)(τ:jq)(L:qk)(R:_T->(qk->Prop)->qk->Prop):Prop:=tl τ L λx L1=>match x with
 |.ref a=>xJ L1 a λys keep L=>R (lJ ys) keep L
 |.sq ys=>R (lJ ys) (λ_=>True) L1
 |_=>False
def dJ{a:Expr}{p:Pos}(hg:Gl X "enumerate")(hm:X.mg "enumerate"=none)(ha:QE X a te)(hs:starEach [a] X.env=[(false,eval a X.env)]:=by rfl)
 (j:starEach [a] X.env=(false,eval a X.env)::starEach [] X.env:=by rfl):QI X (.Tuple mE x1 tp) (.Call (.Name "enumerate" p) [a] [] pos) (IY te):=PI.Ym (RT hg hm (f9 ha oX j) hs) λσ H R τ L R3 rs l z k=>by
 refine{τ,L,_,rs,l,z,λv g y o T I U C=>?_};cases y with
 |ref a=>
  obtain⟨ys,keep,es,kp,hk,z2⟩:=u4 C;have hy:∀H L,jc g H->j9 X.g3 H L->keep L->∃J,bE X.K H a J/\xr X.g3 H ys J:=λH L _ l e=>fI l<|hk L e;obtain⟨J,sq,_⟩:=hy g o (EM _) I kp;cases U;exact{a,rfl,{(J),sq},k _ g _ _ o T I (lg hy) z2}
 |sq ys=>
  obtain⟨a,J,e,sf,r⟩:=U;subst e;exact{a,rfl,{(J),sf.sq},k _ g _ (λ_=>True) o T I (lg λH L t _ _=>{J,(sf.ts t).sq,r.ts t}) C}
 |_=>exact C.elim
def dq(t:Bool)(h:X8)(it l:Addr)(k:Nat):Prop:=match t with
 |false=>h.IsListIter it l k
 |true=>h.IsTupleIter it l k
def kJ(t:Bool)(h:X8)(l:Addr)(xs:XR):Prop:=match t with
 |false=>h.IsList l xs
 |true=>h.IsTuple l xs
def dq.on{k:Nat}(x:dq t h it l k)(e:∀o,h.get? it=some o->h'.get? it=some o):dq t h' it l k:=by cases t with|false=>exact Heap.IsListIter.at x e|true=>exact Heap.IsTupleIter.at x e
def kJ.on{xs:XR}(x:kJ t h l xs)(e:∀o,h.get? l=some o->h'.get? l=some o):kJ t h' l xs:=by cases t with|false=>exact Heap.IsList.at x e|true=>exact Heap.IsTuple.at x e
def dq.ob{k:Nat}(x:dq t h it l k):∃o,h.get? it=some o/\∀v,o.data≠.cell v:=by
 cases t with
 |false=>obtain⟨o,e,c,d⟩:=x;exact{o,e,λv z=>by rw[d] at z;cases z}
 |true=>obtain⟨o,e,c,d⟩:=x;exact{o,e,λv z=>by rw[d] at z;cases z}
def IZ(l:Addr):¬((Value.ref l==Value.none)=true):=AK
section
variable {w:X7}
theorem xY{xs:XR}{x:X4}(hi:s.heap.IsTupleIter it l i)(U:s.heap.IsTuple l xs)(g:xs[i]?=some x)
 (q:∀h',h'.IsTupleIter it l (i+1)->Heap.SameBut it s.heap h'->Q x {s with heap:=h'}):wpAny (model prog w) A (Builtin.SmallTypes.nextOf<|.ref it) Q E s:=by
 obtain⟨o,J,ci,I⟩:=id hi;obtain⟨u,ul,_,n,dl⟩:=U;unfold Builtin.SmallTypes.nextOf;refine Aa<|wpAny_callSpecial?_slot (name:="__next__") hi.typeIs sn<|wpAny_call_entry sn hi.typeIs F.entry_tuple_iterator_next ?_<|F.args_tuple_iterator_next_1 _;refine Aa (m:=field (.ref it) 0)<|A8 J I (x:=.ref l) rfl ?_;rw[Au<|IZ l];refine Aa (m:=field (.ref it) 1)<|A8 J I (x:=.int i 0) rfl<|Aa (m:=seqItems?<|.ref l)<|Bv ul dl ?_;simp only[BB,g];refine Aa<|wpAny_setField J I (by simp)<|Al {x,rfl,Al<|q _ {_,qy _ J<|Obj.isFreed_of_fields<|Obj.data_mapFields I _,(Obj.cls_mapFields ..).trans ci,?_}<|pR ..};rw[Obj.data_mapFields I];simp[rawInt]
theorem RU{xs:XR}(U:A.handled=none)(hi:s.heap.IsTupleIter it l i)(g:s.heap.IsTuple l xs)(j:xs[i]?=none)
 (q:∀h' e,Heap.ExtBut it s.heap h'->(∃o,h'.get? e=some o/\o.cls=.type "StopIteration")->E (.ref e) {s with heap:=h'}):wpAny (model prog w) A (Builtin.SmallTypes.nextOf<|.ref it) Q E s:=by
 obtain⟨o,I,ci,J⟩:=id hi;obtain⟨u,ul,_,n,dl⟩:=g;unfold Builtin.SmallTypes.nextOf;refine Aa<|wpAny_callSpecial?_slot (name:="__next__") hi.typeIs sn<|wpAny_call_entry sn hi.typeIs F.entry_tuple_iterator_next ?_<|F.args_tuple_iterator_next_1 _;refine Aa (m:=field (.ref it) 0)<|A8 I J (x:=.ref l) rfl ?_;rw[Au<|IZ l];refine Aa (m:=field (.ref it) 1)<|A8 I J (x:=.int i 0) rfl<|Aa (m:=seqItems?<|.ref l)<|Bv ul dl ?_;simp only[BB,j];refine Aa<|BH<|Aa<|wpAny_setField I J (by simp) ?_;refine Aa (m:=newExc (.type "StopIteration") []) ?_;simp only[newExc,newTuple];refine Aa (BG (Aa (m:=firstArgMember _ _) (wpAny_of_eq (a:=Value.none) (by first|rfl|(simp only[firstArgMember];rfl))<|BG ?_ (by size_fits))) (by size_fits));simp only[raiseNew];refine Aa<|wpAny_handled ?_
 first|rw[show A.in1.handled=none from U]|rw[U]
 exact Aa<|Al<|wpAny_throw<|q _ _ (((pR ..).extBut.push _).push _) {_,pG _ rfl,rfl}
def dq.next{xs:XR}{x:X4}(hi:dq t s.heap it l i)(I:kJ t s.heap l xs)(J:xs[i]?=some x)
 (q:∀h',dq t h' it l (i+1)->Heap.SameBut it s.heap h'->Q x {s with heap:=h'}):wpAny (model prog w) A (Builtin.SmallTypes.nextOf<|.ref it) Q E s:=by
 cases t with|false=>exact wpAny_nextOf_list_item hi I J q|true=>exact xY hi I J q
def dq.stop{xs:XR}(I:A.handled=none)(hi:dq t s.heap it l i)(J:kJ t s.heap l xs)(U:xs[i]?=none)
 (q:∀h' e,Heap.ExtBut it s.heap h'->(∃o,h'.get? e=some o/\o.cls=.type "StopIteration")->E (.ref e) {s with heap:=h'}):wpAny (model prog w) A (Builtin.SmallTypes.nextOf<|.ref it) Q E s:=by
 cases t with|false=>exact wpAny_nextOf_list_end I hi J U q|true=>exact RU I hi J U q
structure Fu(z TI TO i1 i2 l1 l2:Addr):Prop where
 n1:TI≠z
 n2:TO≠z
 n3:i1≠z
 n4:i2≠z
 n5:TO≠i1
 n6:TO≠i2
 n7:i1≠i2
 n8:l1≠z
 n9:l1≠TO
 n10:l1≠i1
 n11:l1≠i2
 _O:l2≠z
 n13:l2≠TO
 _N:l2≠i1
 n15:l2≠i2
def RW{z TI TO:Addr}{k:Nat}{xs ys:XR}{x y a b:X4}(D:Fu z TI TO i1 i2 l1 l2)(hz:IsZip s.heap z TI TO .none)(hI:IsPair s.heap TI (.ref i1)<|.ref i2)(hO:IsPair s.heap TO a b)
 (h1:dq t1 s.heap i1 l1 k) (h2:dq t2 s.heap i2 l2 k) (q1:kJ t1 s.heap l1 xs) (q2:kJ t2 s.heap l2 ys) (hx:xs[k]?=some x) (hy:ys[k]?=some y)
 (q:∀h',IsZip h' z TI TO (rawInt s.heap.objs.size)->IsPair h' TO x y->dq t1 h' i1 l1 (k+1)->dq t2 h' i2 l2 (k+1)->IsPair h' s.heap.objs.size x y->
  (∀c o,c≠z->c≠TO->c≠i1->c≠i2->s.heap.get? c=some o->h'.get? c=some o)->Q (.ref s.heap.objs.size) {s with heap:=h'}):
 wpAny (model prog w) A (Builtin.«zip.__next__» ⟨[.ref z],[]⟩) (λxg s'=>∃v,xg=.done (.ret v)/\Q v s') E s:=by
 refine Aa (m:=field (.ref z) 2)<|A8 hz rfl (x:=.bool false) rfl<|Aa (m:=field (.ref z) 3)<|A8 hz rfl (x:=.ref TI) rfl<|Aa<|Bv hI rfl ?_;refine Aa (m:=Builtin.SmallTypes.ownedTupleIsFree<|.ref z) ?_;unfold Builtin.SmallTypes.ownedTupleIsFree;refine Aa<|A8 hz rfl (x:=.none) rfl<|Al ?_;simp only[if_true];refine Aa<|BH<|Aa<|A8 hz rfl (x:=.ref TO) rfl<|Aa<|wpAny_setField_rec hz (by simp) λg1 z1 J=>?_;have a0:IsZip g1 z TI TO .ellipsis:=z1;refine Aa ?_;simp only[Ek,List.zipIdx_nil,Cq,Dm];refine Aa<|Aa<|wpAny_onRaise<|Aa (m:=Builtin.SmallTypes.nextOf<|.ref i1)<|(h1.on λo e=>J.extBut _ _ D.n3 e).next (q1.on λo e=>J.extBut _ _ D.n8 e) hx λg2 a5 g=>Al ?_;have O2:IsPair g2 TO a b:=g.extBut _ _ D.n5<|J.extBut _ _ D.n2 hO;refine Aa<|Bv O2 rfl<|Aa<|wpAny_updateSeq_pair O2 λg3 O3 j=>Aa<|wpAny_letGo<|Al ?_;have ab:IsPair g3 TO x b:=O3;refine Aa (Aa (wpAny_onRaise (Aa (m:=Builtin.SmallTypes.nextOf<|.ref i2) (dq.next (l:=l2) (i:=k) (xs:=ys) (x:=y) (t:=t2) (h2.on λo e=>j.extBut _ _ (AJ D.n6)<|g.extBut _ _ (AJ D.n7)<|J.extBut _ _ D.n4 e)
  (q2.on λo e=>j.extBut _ _ D.n13<|g.extBut _ _ D._N<|J.extBut _ _ D._O e) hy λg4 ac p=>Al ?_))))
 have O4:IsPair g4 TO x b:=p.extBut _ _ D.n6 ab;refine Aa<|Bv O4 rfl<|Aa<|wpAny_updateSeq_pair O4 λI O5 r=>Aa<|wpAny_letGo<|Al<|Al ?_;have C:IsPair I TO x y:=O5;refine Aa<|Bv C rfl<|Aa<|wpAny_newTuple ?_;have sz:I.objs.size=s.heap.objs.size:=by rw[r.1,p.1,j.1,g.1,J.1]
 have z5:IsZip I z TI TO .ellipsis:=r.extBut _ _ (AJ D.n2)<|p.extBut _ _ (AJ D.n4)<|j.extBut _ _ (AJ D.n2)<|g.extBut _ _ (AJ D.n3) a0;have k5:∀c o,c≠z->c≠TO->c≠i1->c≠i2->s.heap.get? c=some o->I.get? c=some o:=λc o U T a3 a4 e=>r.extBut _ _ T<|p.extBut _ _ a4<|j.extBut _ _ T<|g.extBut _ _ a3<|J.extBut _ _ U e;have zl:=pj z5;refine Aa (m:=Builtin.SmallTypes.ownedTupleHandOut (.ref z)<|.ref I.objs.size) ?_;unfold Builtin.SmallTypes.ownedTupleHandOut;refine Aa<|wpAny_setField_rec (show IsZip (I.push {cls:=.type "tuple",data:=.seq #[x,y]}) z TI TO .ellipsis from oi _ z5) (by simp) λg7 z7 e7=>?_;have al:IsZip g7 z TI TO (rawInt I.objs.size):=z7;refine wpAny_setField_rec al (by simp) λg8 z8 e8=>Al {_,rfl,?_};have au:IsZip g8 z TI TO (rawInt I.objs.size):=z8;have up:∀c o,c≠z->I.get? c=some o->g8.get? c=some o:=λc o U e=>e8.extBut _ _ U<|e7.extBut _ _ U<|oi _ e;have T8:IsPair g8 I.objs.size x y:=e8.extBut _ _ (CL zl)<|e7.extBut _ _ (CL zl)<|pG _ rfl;have xg:=q g8 (by rw[<-sz];exact au) (up _ _ D.n2 C) (a5.on λo e=>up _ o D.n3<|r.extBut _ _ (AJ D.n5)<|p.extBut _ _ D.n7<|j.extBut _ _ (AJ D.n5) e) (ac.on λo e=>up _ o D.n4<|r.extBut _ _ (AJ D.n6) e)
  (by rw[<-sz];exact T8) λc o U T a3 a4 e=>up c o U<|k5 c o U T a3 a4 e
 show Q (.ref I.objs.size) _;rw[sz];exact xg
def RX{z TI TO:Addr}{k:Nat}{xs ys:XR}{a b:X4}{Q:Fin->X5->Prop}(hh:A.handled=none)(D:Fu z TI TO i1 i2 l1 l2)(hz:IsZip s.heap z TI TO .none)(hI:IsPair s.heap TI (.ref i1)<|.ref i2)(hO:IsPair s.heap TO a b)
 (h1:dq t1 s.heap i1 l1 k) (h2:dq t2 s.heap i2 l2 k) (q1:kJ t1 s.heap l1 xs) (q2:kJ t2 s.heap l2 ys) (J:xs[k]?=none\/ys[k]?=none)
 (q:∀h' e,(∀c o,c≠z->c≠TO->c≠i1->c≠i2->s.heap.get? c=some o->h'.get? c=some o)->(∃o,h'.get? e=some o/\o.cls=.type "StopIteration")->E (.ref e) {s with heap:=h'}):
 wpAny (model prog w) A (Builtin.«zip.__next__» ⟨[.ref z],[]⟩) Q E s:=by
 refine Aa (m:=field (.ref z) 2)<|A8 hz rfl (x:=.bool false) rfl<|Aa (m:=field (.ref z) 3)<|A8 hz rfl (x:=.ref TI) rfl<|Aa<|Bv hI rfl ?_;refine Aa (m:=Builtin.SmallTypes.ownedTupleIsFree<|.ref z) ?_;unfold Builtin.SmallTypes.ownedTupleIsFree;refine Aa<|A8 hz rfl (x:=.none) rfl<|Al ?_;simp only[if_true];refine Aa<|BH<|Aa<|A8 hz rfl (x:=.ref TO) rfl<|Aa<|wpAny_setField_rec hz (by simp) λg1 z1 I=>?_;have U:IsZip g1 z TI TO .ellipsis:=z1;refine Aa ?_;simp only[Ek,List.zipIdx_nil,Cq,Dm];refine Aa<|Aa<|wpAny_onRaise<|Aa (m:=Builtin.SmallTypes.nextOf<|.ref i1) ?_;have g:=h1.on λo e=>I.extBut _ _ D.n3 e;have j:=q1.on λo e=>I.extBut _ _ D.n8 e;cases T:xs[k]? with
 |none=>
  refine dq.stop hh g j T λg2 e s2 he=>?_;obtain⟨oe,ge,ce⟩:=he;have z2:IsZip g2 z TI TO .ellipsis:=s2 _ _ (AJ D.n3) U;have nz:e≠z:=λw=>by subst w;rw[z2] at ge;cases ge;simp at ce
  exact wpAny_setField_rec z2 (by simp) λg3 _ s3=>q g3 e (λc o p _ a3 _ w=>s3.extBut _ _ p<|s2 _ _ a3<|I.extBut _ _ p w) {oe,s3.extBut _ _ nz ge,ce}
 |some x=>
  have hy:ys[k]?=none:=by rcases J with h|h;rw[T] at h;cases h;exact h
  refine dq.next g j T λg2 a0 r=>Al ?_;have O2:IsPair g2 TO a b:=r.extBut _ _ D.n5<|I.extBut _ _ D.n2 hO;refine Aa<|Bv O2 rfl<|Aa<|wpAny_updateSeq_pair O2 λg3 O3 C=>Aa<|wpAny_letGo<|Al ?_;refine Aa (Aa (wpAny_onRaise (Aa (m:=Builtin.SmallTypes.nextOf<|.ref i2) (dq.stop (t:=t2) (l:=l2) (i:=k) (xs:=ys) hh (h2.on λo e=>C.extBut _ _ (AJ D.n6)<|r.extBut _ _ (AJ D.n7)<|I.extBut _ _ D.n4 e)
   (q2.on λo e=>C.extBut _ _ D.n13<|r.extBut _ _ D._N<|I.extBut _ _ D._O e) hy λg4 e s4 he=>?_))))
  obtain⟨oe,ge,ce⟩:=he;have z4:IsZip g4 z TI TO .ellipsis:=s4 _ _ (AJ D.n4)<|C.extBut _ _ (AJ D.n2)<|r.extBut _ _ (AJ D.n3) U;have nz:e≠z:=λw=>by subst w;rw[z4] at ge;cases ge;simp at ce
  exact wpAny_setField_rec z4 (by simp) λg5 _ s5=>q g5 e (λc o p a2 a3 a4 w=>s5.extBut _ _ p<|s4 _ _ a4<|C.extBut _ _ a2<|r.extBut _ _ a3<|I.extBut _ _ p w) {oe,s5.extBut _ _ nz ge,ce}
end
def Fv(t:Bool):X9:=if t then "tuple_iterator" else "list_iterator"
section
variable {w:X7}
def kJ.iter{xs:XR}(I:kJ t s.heap l xs)(q:Q (.ref s.heap.objs.size) {s with heap:=s.heap.push {cls:=.type<|Fv t,data:=.fields #[.ref l,.int 0 0]}}):wpAny (model prog w) A (pyIter<|.ref l) Q E s:=by cases t with|false=>exact wpAny_pyIter_list I q|true=>exact wpAny_pyIter_tuple I q
end
def dq.new(e:h.get? it=some {cls:=.type<|Fv t,data:=.fields #[.ref l,.int 0 0]}):dq t h it l 0:=by cases t with|false=>exact{_,e,rfl,rfl}|true=>exact{_,e,rfl,rfl}
abbrev FQ(t1:Bool)(h:X8)(l1:Addr):X8:=h.push {cls:=.type<|Fv t1,data:=.fields #[.ref l1,.int 0 0]}
abbrev FR(t1 t2:Bool)(h:X8)(l1 l2:Addr):X8:=(FQ t1 h l1).push {cls:=.type<|Fv t2,data:=.fields #[.ref l2,.int 0 0]}
abbrev FT(t1 t2:Bool)(h:X8)(l1 l2:Addr):X8:=(FR t1 t2 h l1 l2).push {cls:=.type "tuple",data:=.seq #[.ref h.objs.size,.ref (FQ t1 h l1).objs.size]}
abbrev FU(t1 t2:Bool)(h:X8)(l1 l2:Addr):X8:=(FT t1 t2 h l1 l2).push {cls:=.type "tuple",data:=.seq #[.none,.none]}
abbrev Ev(t1 t2:Bool)(h:X8)(l1 l2:Addr):X8:=(FU t1 t2 h l1 l2).push {cls:=.type "zip",data:=.fields #[.none,.bool false,.bool false,.ref (FR t1 t2 h l1 l2).objs.size,.ref (FT t1 t2 h l1 l2).objs.size]}
def zC(t1 t2:Bool)(l1 l2:Addr)(xs ys:XR):Meets (Builtin.«zip.__new__» ⟨[.type "zip",.ref l1,.ref l2],[]⟩) (λ_ R s=>kJ t1 s.heap l1 xs/\kJ t2 s.heap l2 ys/\R (.ok<|.ret<|.ref (FU t1 t2 s.heap l1 l2).objs.size) {s with heap:=Ev t1 t2 s.heap l1 l2}):=
 .of_wp λI w A R s h=>by
  obtain⟨U,g,d,j,os⟩:=s;obtain⟨l,p,h⟩:=h;have J:=sub_zip;have r:=l;have t:kJ t2 (Shared.heap ⟨U.push {cls:=.type<|Fv t1,data:=.fields #[.ref l1,.int 0 0]},g,d,j,os⟩) l2 ys:=p.on λo e=>oi _ e
  wp_walk using kJ.iter r,kJ.iter t
  exact{_,rfl,h}
theorem RY{w:X7}{xs ys:XR}(p:kJ t1 s.heap l1 xs)(r:kJ t2 s.heap l2 ys)
 (q:∀h',IsZip h' (s.heap.objs.size+4) (s.heap.objs.size+2) (s.heap.objs.size+3) .none->IsPair h' (s.heap.objs.size+2) (.ref s.heap.objs.size) (.ref<|s.heap.objs.size+1)->IsPair h' (s.heap.objs.size+3) .none .none->
  dq t1 h' s.heap.objs.size l1 0->dq t2 h' (s.heap.objs.size+1) l2 0->(∀c o,s.heap.get? c=some o->h'.get? c=some o)->Q (.ref<|s.heap.objs.size+4) {s with heap:=h'}):
 wpAny (model prog w) A (call (.type "zip") [.ref l1,.ref l2]) Q E s:=by
 refine callType_new F.called_zip (by decide) (F.typeCall_zip_2 _ _) (F.newCall_zip_2 _ _) (λobj=>F.args_object_init_3 obj _ _) F.entry_zip_new (zC t1 t2 l1 l2 xs ys) {p,r,?_};have I:(FQ t1 s.heap l1).objs.size=s.heap.objs.size+1:=vc ..;have J:(FR t1 t2 s.heap l1 l2).objs.size=s.heap.objs.size+2:=by rw[vc,I]
 have U:(FT t1 t2 s.heap l1 l2).objs.size=s.heap.objs.size+3:=by rw[vc,J]
 have j:(FU t1 t2 s.heap l1 l2).objs.size=s.heap.objs.size+4:=by rw[vc,U]
 have g:(Ev t1 t2 s.heap l1 l2).get? (FU t1 t2 s.heap l1 l2).objs.size=some _:=pG _ rfl;have l:(Ev t1 t2 s.heap l1 l2).get? (FT t1 t2 s.heap l1 l2).objs.size=some _:=oi _<|pG _ rfl;have g3:(Ev t1 t2 s.heap l1 l2).get? (FR t1 t2 s.heap l1 l2).objs.size=some _:=oi _<|oi _<|pG _ rfl;have g2:(Ev t1 t2 s.heap l1 l2).get? (FQ t1 s.heap l1).objs.size=some _:=oi _<|oi _<|oi _<|pG _ rfl;have g1:(Ev t1 t2 s.heap l1 l2).get? s.heap.objs.size=some _:=oi _<|oi _<|oi _<|oi _<|pG _ rfl;show _/\_;rw[J,U,j] at g;rw[I,J] at g3;rw[U] at l;rw[I] at g2;rw[j];exact{{_,g,rfl},q _ g g3 l (dq.new g1) (dq.new g2) λc o e=>oi _<|oi _<|oi _<|oi _<|oi _ e}
def Sq(t:Bool)(K:Ak)(H:Hp)(a:Addr)(xs:X_):Prop:=match t with
 |false=>bE K H a xs
 |true=>eE K H a xs
section
variable {σ:St}
def z9.seq{a:Addr}(I:z9 X pins σ H s)(h:Sq t X.K H a xs):∃eh:XQ,zn xs eh/\kJ t s.heap a eh.toArray/\xs.length<=sizeLine:=by
 cases t with
 |false=>obtain⟨eh,v,p,z⟩:=I.list h;exact{(eh),v,p.isList,z}
 |true=>obtain⟨eh,v,p,z⟩:=I.tuple h;exact{(eh),v,p,z}
end
def RZ:bootBuiltins "zip"=some (.type "zip"):=by decide +kernel
def I0(I:j9 G H L)(r:RV G H y v)(h:cT L y=some ys):∃t p xs,v=.ref p/\Sq t G.K H p xs/\xr G H ys xs:=by
 obtain⟨p,xs,e,s,q⟩:=oG I r h;rcases s with s|s
 .exact{(false),p,xs,e,s,q}
 .exact{(true),p,xs,e,s,q}
def G4(xs ys:_T):_T:=List.zipWith (λa b=>Y.tup [a,b]) xs ys
def I9(xs:_T)(L:qk)(Q:YK):Prop:=match xs with
 |[x]=>kD L x λys=>∀p,L p=none->Q (.ref p) (qf L p<|.lst ys)
 |_=>False
def bY :jx X (.type "list") (j_ X.g3 I9):=E7 tF λt H Q C L T U I z k=>by
 unfold I9 at z;split at z
 .rename_i x;obtain⟨u,rfl,g⟩:=U.inv1;obtain⟨zs,j,z⟩:=aV z;obtain⟨p,o,e,sq,r⟩:=oG I g j;subst e;exact{p,o,rfl,sq,λl J=>k _ _ _ _ (EN J) (I.YX J r) (by rfl)<|z l<|I.none J}
 .exact z.elim
def am{T:X9}{p:Pos}{r:_T->qk->YK->Prop}(hc:jx X (.type T)<|j_ X.g3 r)(U:Gl X x)(g:X.mg x=none)(j:bootBuiltins x=some (.type T))(h:QA X (e::es) tr)
 (l:x ≠ "__name__" := by decide) (hd:Fc x:=by decide) (hs:E9 e es X:=by rfl) (hp:Fb pos es X:=by rfl):
 QE X (.Call (.Name x p) (e::es) [] pos) (k_ r tr):=EO (kM hc U g j h l hd hs hp) λσ H Q o L t C rl z k=>
 ⟨o,L,_,C,rl,z,λvs H1 ys L1 t1 I J z1=>{ys,L1,t,J,I,z1,k.ts t1}⟩
def uC(x:Y)(vs:_T)(L:qk)(Q:YK):Prop:=match x,vs with
 |.ref a,[.int i]=>dw L a λys=>0<=i/\i<ys.length/\b_ L (λv L=>Q v<|qf L a<|.lst<|ys.eraseIdx i.toNat) (ys[i.toNat]?)
 |_,_=>False
def R4 :kA X "list.pop" (l_ X.g3 uC):=λJ s l H x xs v o Q I p t ψ=>by
 obtain⟨y,ys,L,Q3,C,T,j,z,k⟩:=ψ
 unfold uC at z;split at z
 .rename_i a i;obtain⟨zs,e,h0,h1,z⟩:=ve z;obtain⟨ws,U,r⟩:=j a _ e;obtain⟨i',rfl,ri⟩:=T.inv1;cases ri;cases g:zs[i.toNat]? with
  |none=>rw[g] at z;exact z.elim
  |some w=>
   rw[g] at z;obtain⟨u,eu,ru⟩:=r.get g;obtain⟨_,_,_,hz⟩:=I.list<|bE.of U;have hl:=r.length;have hs:sizeLine<2 ^ 62:=by decide
   refine Qm J s l H x _ v o Q I p t {a,ws,i,i.toNat,u,C,rfl,U,by lia,by lia,?_,eu,k _ _ _ _ (EY U) (j.Zm U<|r.eraseIdx _) (ru.ts<|EY U) z};unfold seqIndex?;rw[Au (show ¬i<0 by lia),Ay (by simp;lia)]
 .exact z.elim
def cL(I:QE X o to)(J:QA X (e::es) tr)(U:ya X o e es "pop" apos eK:=by exact{(rfl),rfl,rfl,rfl,rfl}):
 QE X (.Call (.Attribute o "pop" apos) (e::es) [] eK) (mC uC to tr):=tK PySem.F.slot_list_pop PySem.F.type_list_pop R4 I J U
def FV(i:Int)(n d:Nat):max 0 (min (if i<0 then i+(n:Int) else i) n)=((KF n d (some i):Nat):Int):=by
 simp only[KF];by_cases h:i<0
 .simp only[h,if_true]<;>lia
 .simp only[h,if_false]<;>lia
def R5(l u:XZ)(n:Nat):Builtin.Str.strSliceIndices l u 1 n=(List.range<|KF n n u-KF n 0 l).map (KF n 0 l+·):=by
 have y:(n:Int)=((KF n n none:Nat):Int):=rfl;cases l with
 |none=>
  cases u with
  |none=>exact sliceRange_one 0 n
  |some j=>
   show sliceRange 0 (max 0<|min (if j<0 then j+(n:Int) else j) n) 1=_;rw[FV j n n];exact sliceRange_one 0 _
 |some i=>
  cases u with
  |none=>
   show sliceRange (max 0<|min (if i<0 then i+(n:Int) else i) n) n 1=_;rw[FV i n 0];exact sliceRange_one _ n
  |some j=>
   show sliceRange (max 0<|min (if i<0 then i+(n:Int) else i) n) (max 0<|min (if j<0 then j+(n:Int) else j) n) 1=_;rw[FV i n 0,FV j n n];exact sliceRange_one _ _
def rM(x:Str)(l u:XZ):(Txt.slice x l u).cps.toList=(x.cps.toList.drop<|KF x.length 0 l).take (KF x.length x.length u-KF x.length 0 l):=by
 have U:x.length=x.cps.toList.length:=by simp[Str.length]
 have I:=pick_run x.cps (KF x.length 0 l)<|KF x.length x.length u-KF x.length 0 l;unfold Txt.slice;rw[R5];split
 .rename_i h;simp only[beq_self_eq_true,C7,Ah,Bb,beq_iff_eq] at h;have g:=ZD x.length 0 (Bf _) l;have j:=ZD x.length x.length (Ap _) u;have J:KF x.length 0 l=0:=by lia
  rw[h,J,DQ,AU<|xV]
 .show(List.filterMap (λi=>x.cps[i]?) _).toArray.toList=_;rw[List.toList_toArray];exact I
def R6:V->XZ->XZ->Hp->VK->Prop:=λx lo hi H Q=>∃z,x=.str z/\z.length<=sizeLine/\Q (.str<|Txt.slice z lo hi) H
theorem apg:uR X R6:=by
 rintro J s σ H x v U g lo j sl Q I o p pl r⟨z,rfl,C,q⟩;obtain⟨t,rfl⟩:=o;obtain⟨l,rfl,T⟩:∃l:Option (Int×Tok),U=partValue l/\l.map (·.1)=lo:=by cases pl with|none=>exact{(none),rfl,rfl}|int i t=>exact{some (i,t),rfl,rfl}
 obtain⟨u,rfl,hu⟩:∃u:Option (Int×Tok),g=partValue u/\u.map (·.1)=j:=by cases r with|none=>exact{(none),rfl,rfl}|int i t=>exact{some (i,t),rfl,rfl}
 subst T hu;refine{"str",_,F.slot_str_getitem.lookup,typeIs_str _ _ _,xc I.tk<|wpAny_getItem_str_slice (l:=l) (u:=u) (st:=none) p rfl ?_};exact post_val_or_str {AS (Txt.slice_le z _ _) C,λt' k ht=>{.str _,H,I.tok _,{(t'),rfl},q}}
def zD{zs:XT}:∀{us:XQ},zn (zs.map V.str) us->StrsAre us zs:=by
 induction zs with
 |nil=>intro us r;rw[Dl] at r;cases r;exact .nil
 |cons z zs I=>
  intro us r;rw[AQ] at r;cases r with
  |cons J U=>
   obtain⟨t,e⟩:=J;subst e;exact .cons z t<|I U
def R7(K:Ak):V->X_->Hp->VK->Prop:=λx vs H Q=>∃z a zs,x=.str z/\vs=[.ref a]/\bE K H a ((zs:XT).map V.str)/\(zs.map (·.length)).sum+zs.length*z.length<=16777216/\Q (.str<|Txt.join z zs) H
def R8:kA X "str.join" (R7 X.K):=by rintro J s σ H x vs v us Q I U g⟨z,a,zs,rfl,rfl,j,l,q⟩;obtain⟨t,rfl⟩:=U;obtain⟨u,rfl,o⟩:=g.one;cases o;obtain⟨C,r,p,_⟩:=I.list j;exact xc I.tk<|PyProof.Rows.join_list p.isList (by simpa using zD r) l λT k ht=>{.str _,H,I.tok _,{(T),rfl},q}
def G5(x:Y)(lo hi:XZ)(L:qk)(Q:YK):Prop:=match x with
 |.str z=>z.length<=sizeLine/\Q (.str<|Txt.slice z lo hi) L
 |x=>IE x lo hi L Q
def qL(K:Ak)(P:X6)(w:X7)(U:X.K=K:=by rfl)(g:X.prog=P:=by rfl)(hw:X.w=w:=by rfl):uR X (FP ⟨K,P,w⟩ G5):=by refine uR.imp (apg.or<|Rq K P w U g hw) λx lo l H Q ψ=>?_;obtain⟨y,L,j,I,J,z,k⟩:=ψ;cases y with|str s=>exact .inl {s,I,z.1,k _ H _ L (EM _) J (by rfl) z.2}|_=>exact .inr {_,L,j,I,J,z,k}
def Ja(r:Y->_T->qk->YK->Prop)(to:v4)(t:fE)(τ:jq)(L:qk)(Q:YK):Prop:=to τ L λx L1=>match x with
 |.str z=>t τ L1 λxs L2=>r (.str z) xs L2 Q
 |_=>False
def R9{id:X9}{r:Y->_T->qk->YK->Prop}(h2:Slot "str" name id)(T:typeOf (.builtin id)=pure (.type "method_descriptor"))(hm:kA X id<|l_ X.g3 r)(ho:QE X o to)(ha:QA X (e::es) tr)
 (I:ya X o e es name apos eK:=by exact{(rfl),rfl,rfl,rfl,rfl}):
 QE X (.Call (.Attribute o name apos) (e::es) [] eK) (Ja r to tr):=EO (Ij PySem.F.plainAttrs_str h2 T hm ho ha I.h4 I.h5 I.h6 I.h7 I.h8) λσ H Q p L Q3 t rl z k=>
 ⟨p,L,_,t,rl,z,λv H1 y L1 C J U g=>by
  split at g
  .rename_i s;cases U;exact{rfl,p,L1,_,t.ts C,J,g,λvs H2 ys L2 t2 j l z2=>{.str s,ys,L2,Q3,rfl,l,j,z2,k.ts<|C.trans t2}}
  .exact g.elim⟩
theorem wC{G:G3}{H:Hp}:∀{zs:XT} {xs:X_},xr G H (zs.map Y.str) xs->xs=zs.map V.str
 |[],_,h=>h
 |z::r,_,ψ=>by obtain⟨x,I,e,q,s⟩:=ψ;rw[e,show x=V.str z from q,wC s];rfl
def G6(x:Y)(vs:_T)(L:qk)(Q:YK):Prop:=match x,vs with
 |.str z,[.ref a]=>dw L a λys=>∃zs,ys=zs.map Y.str/\(zs.map (·.length)).sum+zs.length*z.length<=16777216/\Q (.str<|Txt.join z zs) L
 |_,_=>False
def Sa :kA X "str.join" (l_ X.g3 G6):=kA.Ym R8 λx p H Q y t L C U g I z k=>by
 unfold G6 at z;split at z
 .rename_i s a;obtain⟨T,e,j,rfl,l,z⟩:=ve z;obtain⟨ws,J,r⟩:=I a _ e;obtain⟨u,rfl,o⟩:=g.inv1;cases o;rw[wC r] at J;exact{s,a,j,U,rfl,bE.of J,l,k _ H _ L (EM _) I (by rfl) z}
 .exact z.elim
def Sb(I:QE X o to)(J:QA X (e::es) tr)(U:ya X o e es "join" apos eK:=by exact{(rfl),rfl,rfl,rfl,rfl}):
 QE X (.Call (.Attribute o "join" apos) (e::es) [] eK) (Ja G6 to tr):=R9 PySem.F.slot_str_join PySem.F.type_str_join Sa I J U
def tS(zs:XT):(Txt.join "" zs).cps.toList=zs.flatMap λz=>z.cps.toList:=by
 have e:∀zs:XT,(Str.join "" zs).cps.toList=zs.flatMap λz=>z.cps.toList:=by
  intro zs
  induction zs with
  |nil=>rfl
  |cons z r I=>
   cases r with
   |nil=>simp[Str.join]
   |cons y r=>
    show(z ++ "" ++ Str.join "" (y::r)).cps.toList=_;have:(z ++ "" ++ Str.join "" (y::r)).cps=z.cps++#[]++(Str.join ""<|y::r).cps:=rfl;rw[this];simp only[Bk,I,Bc,Array.append_empty]
 exact(BU (λx:Str=>x.cps.toList)<|StrLaws.glued_eq_join "" zs).trans (e zs)
inductive FW(t u:cH)(D:vt)(τ:jq)(L:qk):Prop
 |mk:∀J:jq->qk->Prop,t {D with nx:=J} τ L->(∀τ' L',J τ' L'->u D τ' L')->FW t u D τ L
def ke{rest:XW}{t u:cH}(h:QS X st t)(k:zP X rest u):zP X (st::rest) (FW t u):=lz.imp (vK h k) λD σ H ψ=>by
 obtain⟨o,L,j,p,r,⟨J,z,q⟩,k⟩:=ψ
 exact {o,L,{j with nx:=J},p,r,z,λC H1 I l T U g z1=>{I,l,j,U,g,q I l z1,k.ts T},k.rt,k.bk,k.ct}
def cj{a b:Addr}{o u:LO}(h:a≠b):qf (qf L a o) b u=qf (qf L b u) a o:=by
 funext c;by_cases I:c=a
 .subst I;rw[qc h,q9,q9]
 .by_cases J:c=b
  .subst J;rw[q9,qc I,q9]
  .rw[qc J,qc I,qc I,qc J]
abbrev X3:=jq->Addr->qk->Prop
section
variable {E3:X3}
end
section
variable {cp:Pos}
end
section
variable {a:Expr}{p pt:Pos}{vs:X_}
end
def Sc(_:vt)(_:jq)(_:qk):Prop:=False
def uf :QS X st Sc:=λ_ _ _ _ _ _ ψ=>(by obtain⟨_,_,_,_,_,z,_⟩:=ψ;exact z.elim)
def Jb:X3:=λ_ _ _=>False
section
open PySem.W
section
variable {K:Frag}{D:Addr}{t c:X4}{b:Bool}
end
end
def kI(X:Cx)(ops:List CmpOp)(es:XU)(t:V->TE):Prop:=∀(pos:Pos) (pins:List<|Addr×Obj) (s:X5) (σ:St) (H:Hp) (x:V) (v:X4) (Q:Bool->Hp->Prop),z9 X pins σ H s->zq x v->(t x σ H λz H'=>∃k,z=.bl k/\Q k H')->_S X (testChain pos v ops<|evalEach es X.env) (TP X pins σ Q) X.xe s
def Jc(r:R2)(tb:TE):V->TE:=λx σ H Q=>tb σ H λy H1=>r x y H1 Q
def Jd(r:R2)(tb:TE)(u:V->TE):V->TE:=λx σ H Q=>tb σ H λy H1=>r x y H1 λz H2=>∃k,z=.bl k/\(if k=true then u y σ H2 Q else Q (.bl false) H2)
section
variable {a b:Expr}{ta tb:TE}{op nq:CmpOp}{ops:List CmpOp}{r:R2}{u:V->TE}
def Sd(g:aB X (compareOp op) r)(j:PE X b tb):kI X [op] [b] (Jc r tb):=by intro pos J s U H x v Q I l h;refine test_last<|aN (j J s U H _ I h) λo p ⟨y,t,C,T,q1⟩=>aN (g J p U t x y v o _ C l T q1) λd s2 ψ=>?_;obtain⟨z,H2,I2,r2,k,e,q2⟩:=ψ;subst e;cases r2;exact wpAny_truthy_bool {(H2),I2,q2}
def Se(t:aB X (compareOp op) r)(C:PE X b tb)(T:kI X (nq::ops) (c::es) u):kI X (op::nq::ops) (b::c::es) (Jd r tb u):=by
 intro pos J s U H x v Q I rx h;refine test_link<|aN (C J s U H _ I h) λg s1 ⟨y,H1,I1,j,q1⟩=>aN (t J s1 U H1 x y v g _ I1 rx j q1) λd s2 ψ=>?_;obtain⟨z,l,o,r2,k,e,p⟩:=ψ;subst e;cases r2;refine wpAny_truthy_bool ?_;cases k with
 |false=>
  obtain⟨k',e',q'⟩:=p;cases e';exact ite_ff {(l),o,q'}
 |true=>exact ite_tt<|T pos J s2 U l y g Q o j p
def Sf(U:PE X a ta)(h:kI X (op::nq::ops) (b::c::es) u)(g:lastMarks (op::nq::ops) (b::c::es)=false):PT X (.Compare a (op::nq::ops) (b::c::es) pos) (Gz λσ H Q=>ta σ H λx H1=>u x σ H1 Q):=by intro J s σ H Q I j;exact isTrue_chain (aN (U J s σ H _ I j) λv l ψ=>(by obtain⟨x,H1,o,p,r⟩:=ψ;exact h pos J l σ H1 x v Q o p r)) g
end
def Je(ta:v4)(u:Y->v4)(τ:jq)(L:qk)(Q:YK):Prop:=ta τ L λx L1=>u x τ L1 Q
def Jf(r:qQ)(tb:v4)(x:Y)(τ:jq)(L:qk)(Q:YK):Prop:=tb τ L λy L1=>r x y L1 Q
def Jg(r:qQ)(tb:v4)(u:Y->v4)(x:Y)(τ:jq)(L:qk)(Q:YK):Prop:=tb τ L λy L1=>r x y L1 λz L2=>match z with
 |.bl k=>aa k (u y τ L2 Q)<|Q (.bl false) L2
 |_=>False
def v_(G:G3)(u:Y->v4):V->TE:=λx σ H Q=>∃y τ L I,RV G H y x/\vq G H σ τ/\j9 G H L/\u y τ L I/\vB G H I Q
def kI.imp{ops:List CmpOp}{t u:V->TE}(h:kI X ops es t)(q:∀x σ H Q,u x σ H Q->t x σ H Q):kI X ops es u:=λpos J s σ H x v Q I r z=>h pos J s σ H x v Q I r<|q _ _ _ _ z
def Sg{r:qQ}(x:V)(σ:St)(H:Hp)(Q:VK):v_ G (Jf r tb) x σ H Q->Jc (hJ G r) (uH G tb) x σ H Q:=λ ψ=>by
 obtain⟨y,g,L,j,l,o,p,z,k⟩:=ψ
 exact {g,L,_,o,p,z,λv H1 t C U I J T=>{y,t,C,j,l.ts U,J,I,T,k.ts U}}
def amp{r:qQ}{u:Y->v4}(x:V)(σ:St)(H:Hp)(Q:VK):v_ G (Jg r tb u) x σ H Q->Jd (hJ G r) (uH G tb) (v_ G u) x σ H Q:=λ⟨y,o,L,Q3,rv,p,rl,z,k⟩=>
 ⟨o,L,_,p,rl,z,λv H1 t L1 U j I z1=>{y,t,L1,_,rv.ts U,I,j,z1,λv2 H2 y2 L2 g J l C=>by
  cases y2 with
  |bl T=>
   refine{T,l,?_};have z3:=C;cases T with|true=>rw[Ay rfl];exact{t,o,L2,Q3,I.ts g,p.ts<|U.trans g,J,z3,k.ts<|U.trans g}|false=>rw[Au AK];exact k _ H2 _ L2 (U.trans g) J (by rfl) z3
  |_=>exact C.elim}⟩
section
variable {a b:Expr}{op nq:CmpOp}{ops:List CmpOp}{r:qQ}{u:Y->v4}
def Sh(I:aB X (compareOp op)<|hJ X.g3 r)(J:QE X b tb):kI X [op] [b] (v_ X.g3<|Jf r tb):=kI.imp (Sd I J) Sg
def Si(I:aB X (compareOp op)<|hJ X.g3 r)(J:QE X b tb)(U:kI X (nq::ops) (c::es)<|v_ X.g3 u):kI X (op::nq::ops) (b::c::es) (v_ X.g3<|Jg r tb u):=kI.imp (Se I J U) amp
def Sj(σ:St)(H:Hp)(Q:VK):uH G (Je ta u) σ H Q->(λσ H Q=>uH G ta σ H λx H1=>v_ G u x σ H1 Q) σ H Q:=λ ψ=>by
 obtain⟨U,L,l,g,o,z,k⟩:=ψ
 exact {U,L,_,g,o,z,λv H1 y p j I J r=>{y,U,p,l,J,g.ts j,I,r,k.ts j}}
def Sk(J:QE X a ta)(h:kI X (op::nq::ops) (b::c::es)<|v_ X.g3 u)(U:lastMarks (op::nq::ops) (b::c::es)=false:=by with_unfolding_all rfl):QT X (.Compare a (op::nq::ops) (b::c::es) pos) (yB<|Je ta u):=
 PT.imp (Sf J h U) λI H Q q=>Sj I H _<|GQ I H Q q
end
def FX:Y->Option jb
 |.int i=>some<|.inl i
 |.str x=>some<|.inr x
 |_=>none
def nX{k:jb}(h:FX y=some k)(r:RV G H y v):v=kV k:=by cases y with|int i=>cases h;exact r|str x=>cases h;exact r|_=>cases h
def oA(kvs:List<|jb×Y)(k:jb)(y:Y):List (jb×Y):=
 if (kvs.any λI=>decide<|I.1=k)=true then kvs.map (λI=>if I.1=k then(I.1,y) else I) else kvs++[(k,y)]
def jc.YD{p:Addr}{zs:List<|jb×V}{o:HO}(h:H p=some (.dK zs)):jc H (upd H p o):=λa u i q=>by rw[qm ?_];exact q;rintro rfl;rw[h] at q;cases q;cases i
def Sl{xs:List<|jb×V}(p:Paired (λ(p:jb×Y) (q:jb×V)=>p.1=q.1/\RV G H p.2 q.2) kvs xs)(k:jb):(kvs.any λI=>decide<|I.1=k)=xs.any λI=>decide (I.1=k):=by induction p with|nil=>rfl|cons r t J=>rw[Cy,Cy,J,r.1]
def Sm{xs:List<|jb×V}(p:Paired (λ(p:jb×Y) (q:jb×V)=>p.1=q.1/\RV G H p.2 q.2) kvs xs)(k:jb)(r:RV G H y v):
 Paired (λ(p:jb×Y) (q:jb×V)=>p.1=q.1/\RV G H p.2 q.2) (kvs.map λI=>if I.1=k then(I.1,y) else I) (xs.map λI=>if I.1=k then(I.1,v) else I):=by
 induction p with
 |nil=>exact .nil
 |@cons a b _ _ J t U=>
  refine .cons ?_ U;obtain⟨e,q⟩:=J;dsimp only;by_cases c:a.1=k
  .rw[Ay c,Ay<|e▸c];exact{(e),r}
  .rw[Au c,Au λz=>c<|e.trans z];exact{(e),q}
def Sn{xs:List<|jb×V}(p:Paired (λ(p:jb×Y) (q:jb×V)=>p.1=q.1/\RV G H p.2 q.2) kvs xs)(k:jb)(r:RV G H y v):
 Paired (λ(p:jb×Y) (q:jb×V)=>p.1=q.1/\RV G H p.2 q.2) (kvs++[(k,y)]) (xs++[(k,v)]):=by
 induction p with|nil=>exact .cons {(rfl),r} .nil|cons I t J=>exact .cons I J
def So{xs:List<|jb×V}(p:Paired (λ(p:jb×Y) (q:jb×V)=>p.1=q.1/\RV G H p.2 q.2) kvs xs)(k:jb)(r:RV G H y v):
 Paired (λ(p:jb×Y) (q:jb×V)=>p.1=q.1/\RV G H p.2 q.2) (oA kvs k y) (fO xs k v):=by
 unfold oA fO;rw[Sl p k];by_cases c:(xs.any λI=>decide<|I.1=k)=true
 .rw[Ay c,Ay c];exact Sm p k r
 .rw[Au c,Au c];exact Sn p k r
def wZ{R:α->β->Prop}{l:List α}{m:List β}(p:Paired R l m):l.length=m.length:=by induction p with|nil=>rfl|cons _ _ I=>rw[Av,Av,I]
def Jh(_:jq)(L:qk)(Q:YK):Prop:=∀p,L p=none->Q (.ref p) (qf L p<|.YD [])
def Sr(td ti:v4)(τ:jq)(L:qk)(Q:YK):Prop:=td τ L λx L1=>ti τ L1 λy L2=>match x,FX y with
 |.ref a,some k=>tW L2 a λkvs=>b_ L2 Q<|wv kvs k
 |_,_=>False
def wB(td ti tv:v4)(D:vt)(τ:jq)(L:qk):Prop:=tv τ L λv L1=>td τ L1 λx L2=>ti τ L2 λy L3=>match x,FX y with
 |.ref a,some k=>tW L3 a λkvs=>kvs.length<sizeLine/\D.nx τ (qf L3 a<|.YD<|oA kvs k v)
 |_,_=>False
section
variable {i:Expr}{td ti tv:v4}
def Ji:QE X (.Dict [] [] pos) Jh:=EO PJ λU H Q g L j l J z k=>λp I=>by
 refine k _ _ _ (qf L p<|.YD []) (EN I) (λa u e=>?_) (by rfl)<|z p<|J.none I;by_cases c:a=p
 .subst c;rw[q9] at e;cases e;exact{[],zg,.nil}
 .rw[qc c] at e;exact(J a u e).keep (EN I) (qm c)
def db(hu:X.A.units+128<cLine)(t:QE X o td)(hi:QE X i ti)(hs:GA i):QE X (.Subscript o i pos) (Sr td ti):=EO (PB (by omega) t hi hs) λσ H Q l L Q3 p C z k=>
 ⟨l,L,_,p,C,z,λv H1 x T r J U z1=>{l,T,_,p.ts r,J,z1,λw H2 y L2 t2 I g j=>by
  split at j
  .rename_i a kk ek;obtain⟨a0,e,z3⟩:=iP j;obtain⟨yv,ev,q⟩:=m8 z3;obtain⟨xs,e2,pr⟩:=I a _ e;obtain⟨xv,ex,rx⟩:=rN pr ev;exact{a,xv,U,.inl {xs,kk,.inl e2,nX ek g,ex.symm},k _ H2 _ L2 (r.trans t2) I rx q}
  .exact j.elim}⟩
theorem hW(hu:X.A.units+128<cLine)(ho:QE X o td)(hi:QE X i ti)(hv:QE X value tv)(hs:swapsWith value (some<|.Subscript o i fx) pos.line X.env=pure false:=by rfl):QS X (.Assign [.Subscript o i fx] value pos) (wB td ti tv):=
 ET (PD (by omega) ho hi hv hs) λD σ H l L D3 J rl z k=>
 ⟨l,L,_,J,rl,z,λv H1 vy L1 U p r z1=>{l,L1,_,J.ts U,p,z1,λx H2 xy L2 g t C z2=>{l,L2,_,J.ts<|U.trans g,t,z2,λw H3 y L3 T I a0 z3=>by
  split at z3
  .rename_i a kk ek;obtain⟨a1,e,hl,q⟩:=iP z3;obtain⟨xs,e2,pr⟩:=I a _ e;have j:jc H3 (upd H3 a<|.dK<|fO xs kk v):=jc.YD e2;cases (show x=V.ref a from C);refine{a,_,rfl,.inl {xs,kk,e2,nX ek a0,by rw[<-wZ pr];exact hl,rfl},?_};refine k.nx _ _ _ _ (((U.trans g).trans T).trans j) (J.ts<|((U.trans g).trans T).trans j) (λb u eb=>?_) q;by_cases c:b=a
   .subst c;rw[q9] at eb;cases eb;exact{_,zg,ER (So pr kk<|r.ts<|g.trans T) λ_ _ ψ=>(by obtain⟨h1,h2⟩:=ψ;exact {h1,h2.ts j})}
   .rw[qc c] at eb;exact(I b u eb).keep j (qm c)
  .exact z3.elim}}⟩
end
def o8(to ti tv:v4)(D:vt)(τ:jq)(L:qk):Prop:=tv τ L λv L1=>to τ L1 λx L2=>ti τ L2 λy L3=>match x,y with
 |.ref a,.int i=>dw L3 a λys=>b_ L3 (λj L=>D.nx τ<|qf L a<|.lst<|ys.set j v)<|d_ ys.length i
 |_,_=>False
section
variable {i:Expr}{ti tv:v4}
theorem fY(ho:QE X o to)(hi:QE X i ti)(hv:QE X value tv)
 (ha:∀v,assign (.Subscript o i fx) X.env v=(do
  let J <-holding [v] (eval o X.env)
  let p <-holding [v,J] (eval i X.env)
  standAt fx
  holding [v,J,p] (setItem J p v)
  release [v,J,p] []):=by intro _;rfl)
 (h1:swapsWithSole [.Subscript o i fx] value pos.line X.env=pure false:=by rfl) (h2:swappedStores [.Subscript o i fx] value X.env=pure none:=by rfl)
 (h3:(assignEach [.Subscript o i fx] X.env).map (·.2)=[assign (.Subscript o i fx) X.env]:=by rfl):QS X (.Assign [.Subscript o i fx] value pos) (o8 to ti tv):=
 ET (HM hv (Oo ho hi P8 ha) h1 h2 h3) λD σ H t L D3 U rl z k=>
 ⟨t,L,_,U,rl,z,λv H1 vy L1 g C T z1=>{t,L1,_,U.ts g,C,z1,λx H2 xy L2 l a0 a1 z2=>{t,L2,_,U.ts<|g.trans l,a0,z2,λw H3 y L3 t3 I a2 z3=>by
  split at z3
  .rename_i a ii;obtain⟨ys,e,z4⟩:=ve z3;obtain⟨j,ej,q⟩:=m8 z4;obtain⟨xs,e2,r⟩:=I a _ e;cases (show x=V.ref a from a1);cases (show w=V.int ii from a2);have tt:jc H3 (upd H3 a<|.lst<|xs.set j v):=EY e2;exact{a,xs,ii,j,rfl,rfl,e2,by rw[<-r.length];exact ej,k.nx _ _ _ _ (((g.trans l).trans t3).trans tt) (U.ts<|((g.trans l).trans t3).trans tt) (I.Zm e2<|xr._D (T.ts<|l.trans t3) j r) q}
  .exact z3.elim}}⟩
end
section
variable {v₁ v₂:Expr}{te:TE}{u:Str->TE}
end
section
variable {v₁ v₂:Expr}{u:Str->v4}
end
@[irreducible] def yZ (L:qk) (a:Addr) (k:Addr->List (Str×Y)->Prop):Prop:=match L a with
 |some (.ins C fs)=>k C fs
 |_=>False
def wu{a:Addr}{fs:List<|Str×Y}{k:Addr->List (Str×Y)->Prop}(e:L a=some (.ins C fs))(h:k C fs):yZ L a k:=by unfold yZ;rw[e];exact h
def ot{a:Addr}{k:Addr->List (Str×Y)->Prop}(h:yZ L a k):∃C fs,L a=some (.ins C fs)/\k C fs:=by
 unfold yZ at h;split at h
 .rename_i C fs e;exact{(C),fs,e,h}
 .exact h.elim
abbrev FY(G:G3)(H:Hp):List (Str×Y)->List (Str×V)->Prop:=Paired λ(p:Str×Y) (q:Str×V)=>p.1=q.1/\RV G H p.2 q.2
def Ss{fs:List<|Str×Y}{xs:List<|Str×V}(p:FY G H fs xs){f:Str}(h:fs.lookup f=some y):∃v,xs.lookup f=some v/\RV G H y v:=by
 induction p with
 |nil=>cases h
 |@cons a b _ _ r t J=>
  obtain⟨I,j⟩:=a;obtain⟨U,g⟩:=b;obtain⟨e,r⟩:=r;cases (show I=U from e);rw[Bt] at h ⊢;cases c:(f==I) with
  |true=>rw[c] at h;cases h;exact{(g),rfl,r}
  |false=>rw[c] at h;exact J h
def Su{fs:List<|Str×Y}{xs:List<|Str×V}(p:FY G H fs xs){f:Str}(h:fs.lookup f=none):xs.lookup f=none:=by
 induction p with
 |nil=>rfl
 |@cons a b _ _ r t J=>
  obtain⟨I,g⟩:=a;obtain⟨U,j⟩:=b;obtain⟨e,r⟩:=r;cases (show I=U from e);rw[Bt] at h ⊢;cases c:(f==I) with
  |true=>rw[c] at h;cases h
  |false=>rw[c] at h;exact J h
def FZ(f:Str)(y:Y):List (Str×Y)->List (Str×Y)
 |[]=>[(f,y)]
 |(g,x)::r=>if g=f then(g,y)::r else(g,x)::FZ f y r
def Sv{fs:List<|Str×Y}{xs:List<|Str×V}(p:FY G H fs xs)(f:Str)(r:RV G H y v):FY G H (FZ f y fs) (dI f v xs):=by
 induction p with
 |nil=>exact .cons {(rfl),r} .nil
 |@cons a b _ _ J t U=>
  obtain⟨I,j⟩:=a;obtain⟨g,l⟩:=b;obtain⟨e,q⟩:=J;cases (show I=g from e);unfold FZ dI;by_cases c:I=f
  .rw[Ay c,Ay c];exact .cons {(rfl),r} t
  .rw[Au c,Au c];exact .cons {(rfl),q} U
def jc.ins{p:Addr}{zs:List<|Str×V}{o:HO}(h:H p=some (.ins C dx zs)):jc H (upd H p o):=λa u i q=>by rw[qm ?_];exact q;rintro rfl;rw[h] at q;cases q;cases i
def ym(K:Ak)(f:Str)(te:v4)(τ:jq)(L:qk)(Q:YK):Prop:=te τ L λx L1=>match x with
 |.ref a=>yZ L1 a λC fs=>YH K C/\P3 K C f/\b_ L1 Q (fs.lookup f)
 |_=>False
def Jj(K:Ak)(f:Str)(to tv:v4)(D:vt)(τ:jq)(L:qk):Prop:=tv τ L λv L1=>to τ L1 λx L2=>match x with
 |.ref a=>yZ L2 a λC fs=>YH K C/\P3 K C f/\fs.length<1000/\D.nx τ (qf L2 a<|.ins C<|FZ f v fs)
 |_=>False
def G7(C:Addr)(sp:ju)(t:fE)(τ:jq)(L:qk)(Q:YK):Prop:=t τ L λys L1=>∀x,L1 x=none->sp (.ref x::ys) (qf L1 x<|.ins C []) λv L2=>v=.KB/\Q (.ref x) L2
section
variable {tv:v4}{p:Pos}{f m:Str}{g:Addr}
def kG(h:QE X e te)(j:attributeBase e f X.env (eval e X.env)=eval e X.env:=by rfl):QE X (.Attribute e f pos) (ym X.K f te):=EO (Pa h j) λσ H Q l L Q3 o p z k=>
 ⟨l,L,_,o,p,z,λv r y t T I J U=>by
  split at U
  .rename_i a;obtain⟨C,fs,e,c,n,z2⟩:=ot U;obtain⟨y,ey,q⟩:=m8 z2;obtain⟨dx,xs,e2,pr⟩:=I a _ e;obtain⟨w,ew,g⟩:=Ss pr ey;exact{a,C,dx,xs,w,J,e2,c,n,ew,k _ r _ t T I g q}
  .exact U.elim⟩
def Sw(ho:QE X o to)(hv:QE X value tv)(hs:swapsWith value (some<|.Attribute o f fx) pos.line X.env=pure false:=by rfl):QS X (.Assign [.Attribute o f fx] value pos) (Jj X.K f to tv):=ET (Pb ho hv hs) λD σ H τ L D3 U rl z k=>
 ⟨τ,L,_,U,rl,z,λv H1 vy L1 g j l z1=>{τ,L1,_,U.ts g,j,z1,λw H2 y L2 p I r t=>by
  split at t
  .rename_i a;obtain⟨C,fs,e,c,n,hl,q⟩:=ot t;obtain⟨T,xs,e2,pr⟩:=I a _ e;have J:jc H2 (upd H2 a<|.ins C T<|dI f v xs):=jc.ins e2;refine{a,C,T,xs,r,e2,c,n,by rw[<-wZ pr];exact hl,k.nx _ _ _ _ ((g.trans p).trans J) (U.ts<|(g.trans p).trans J) (λb u eb=>?_) q};by_cases cc:b=a
   .subst cc;rw[q9] at eb;cases eb;exact{T,_,zg,ER (Sv pr f<|l.ts p) λ_ _ ψ=>(by obtain⟨h1,h2⟩:=ψ;exact {h1,h2.ts J})}
   .rw[qc cc] at eb;exact(I b u eb).keep J (qm cc)
  .exact t.elim}⟩
def Sx{k:Nat}(M:Mk X.K C g)(F:Zw X.prog X.w X.K X.mg X.base k g fd ps sp)(hr:wx (k+1) X.A)(hg:Gl X x)(hm:X.mg x=some (.ref C))(hb:aZ X.K fd ps [])(ha:QA X (e::es) tr)
 (l:Fc x:=by decide) (he:E9 e es X:=by rfl) (o:Fb pos es X:=by rfl):
 QE X (.Call (.Name x p) (e::es) [] pos) (G7 C sp tr):=EO (Pp M F hr hg hm hb .nil GC ha l he o) λσ H Q τ L Q3 rs rl z k=>
 ⟨τ,L,_,rs,rl,z,λvs U ys L1 t1 I r z1=>λx J hx j ne=>by
  have ta:jc U (upd U J<|.own x):=EN j;have t:upd U J (.own x) x=none:=by rw[qm<|AJ ne];exact hx
  have T:jc U (upd (upd U J<|.own x) x<|.ins C J []):=ta.trans<|EN t;refine{.ref x::ys,qf L1 x<|.ins C [],_,{.ref x,vs++[],by simp,rfl,by rw[Aw];exact r.ts T},λb u eb=>?_,z1 x<|I.none hx,λv H2 y L2 t2 a0 a1 ⟨ev,q⟩=>?_}
  .by_cases cc:b=x
   .subst cc;rw[q9] at eb;cases eb;exact{J,[],zg,.nil}
   .rw[qc cc] at eb;have nd:b≠J:=λz=>by obtain⟨w,ew⟩:=(I b u eb).ex;rw[z,j] at ew;cases ew
    exact(I b u eb).keep T (by rw[qm cc,qm nd])
  .subst ev;exact{a1,k _ H2 _ L2 (t1.trans<|T.trans t2) a0 (by rfl) q}⟩
end
open PySem.AutoSeq1 (wpAny_loadPart')
section
open MeetsSeq MeetsSeq2 MeetsSeq3 SeqRoads2
end
section
open PySem.Builtin.Str
def len_list(x:Str):x.cps.toList.length=x.length:=by simp[Str.length]
end
section
variable {isp imk c j1 j2:Nat}{sp mk:Str}{u:Tok}{m:XM}{p6 p7 p8 p9 p10:Pos}{Q:Flow->X5->Prop}
end
def mz(s:Stmt):XW:=match s with
 |.ClassDef _ _ _ b _ _ _ _ _ _ _=>b
 |_=>[]
structure _n(P:X6)(w:X7)(K:Ak)(mg:XM)(base:X8)(k:Nat)(C:Addr)(m:Str)(ps:XT)(sp:ju):Prop where
 ex:∃g fd,Fg K C m g/\Zw P w K mg base k g fd ps sp/\aZ K fd ps []
structure _z(P:X6)(w:X7)(K:Ak)(mg:XM)(base:X8)(k:Nat)(C:Addr)(ps:XT)(sp:ju):Prop where
 ex:∃g fd,Mk K C g/\(∃j,k=j+1/\Zw P w K mg base j g fd ps sp)/\aZ K fd ps []
theorem _n.mono{P:X6}{w:X7}{K:Ak}{k:Nat}{m:Str}(c:_n P w K mg base j C m ps sp)(h:j<=k):_n P w K mg base k C m ps sp:=by obtain⟨g,fd,M,F,b⟩:=c.ex;exact{g,fd,M,F.mono h,b}
theorem _z.mono{P:X6}{w:X7}{K:Ak}{k:Nat}(c:_z P w K mg base j C ps sp)(h:j<=k):_z P w K mg base k C ps sp:=by obtain⟨g,fd,M,⟨i,e,F⟩,b⟩:=c.ex;subst e;exact{g,fd,M,{k-1,by omega,F.mono (by omega)},b}
section
variable {p:Pos}{m:Str}{k:Nat}
def Sy(ci:_z X.prog X.w X.K X.mg X.base k C ps sp)(U:wx k X.A)(l:Gl X x)(o:X.mg x=some (.ref C))(r:QA X (e::es) tr)
 (I:Fc x:=by decide) (t:E9 e es X:=by rfl) (J:Fb pos es X:=by rfl):
 QE X (.Call (.Name x p) (e::es) [] pos) (G7 C sp tr):=by
 obtain⟨g,fd,M,⟨j,T,F⟩,b⟩:=ci.ex;subst T;exact Sx M F U l o b r I t J
end
structure dg(K:Ak)(C:Addr)(x eA:Str)(st:Stmt):Prop where
 ex:∃(f:Addr) (kV gn pm:X4) (an:Option Addr) (eH ct:X4),PySem.W.findIn K (.ref C) x=some (some<|.ref f)/\PySem.W.isFn K (.ref f)=true/\ZQ K x eA st f (PySem.W.fnOf x eA (vd st) (jw st) (zb st) .none kV gn pm an eH ct)
def ZX{K:Ak}{kV ct:X4}(a:PySem.W.findIn K (.ref C) x=some (some<|.ref f))
 (l:K.lookup f=some ⟨oc,od,.func<|PySem.W.fnOf x eA (vd st) (jw st) (zb st) .none kV gn pm an eH ct,mR⟩) (c:PySem.W.codeIn K eH eA=true) (k:PySem.W.keepIn K (.ref f)=true) (i:PySem.W.isFn K (.ref f)=true):dg K C x eA st:=
 ⟨f,kV,gn,pm,an,eH,ct,a,i,Ik (st:=st) l c k⟩
theorem dg.use{K:Ak}(D:dg K C x eA st)
 (I:∀(kV gn pm:X4) (an:Option Addr) (eH ct:X4) (us:XQ),us.length=ps.length->bindArgs (PySem.W.fnOf x eA (vd st) (jw st) (zb st) .none kV gn pm an eH ct) ⟨us,[]⟩=pure (ps.zip us)):
 ∃f fd,ZQ K x eA st f fd/\aZ K fd ps []/\Fg K C x f:=by
 obtain⟨f,kV,gn,pm,an,eH,ct,a,i,F⟩:=D.ex;exact{f,_,F,aZ.all<|I kV gn pm an eH ct,{(a),i,F.kp}}
def top(i:Nat):Stmt:=PySem.Challenge.pw_oncewise_k52_right_stays_right.main.body.getD i<|.Pass {0,0,0,0}
abbrev gU:Stmt:=(mz<|top 18).getD 0<|.Pass {0,0,0,0}
abbrev cQ:Stmt:=(mz<|top 18).getD 1<|.Pass {0,0,0,0}
abbrev fD:Stmt:=(mz<|top 18).getD 2<|.Pass {0,0,0,0}
abbrev rL:Stmt:=top 5
abbrev rB:Stmt:=top 6
abbrev rS:Stmt:=top 8
abbrev fB:Stmt:=top 9
abbrev oY:Stmt:=top 10
abbrev iM:Stmt:=top 11
abbrev iK:Stmt:=top 13
abbrev dt:Stmt:=top 14
abbrev o4:Stmt:=top 15
abbrev lU:Stmt:=top 16
abbrev oH:Stmt:=top 20
abbrev iJ:Stmt:=top 21
abbrev nU:Stmt:=top 22
abbrev sO:Stmt:=top 23
abbrev zE:Stmt:=top 24
abbrev sm:Stmt:=top 25
abbrev yP:Stmt:=top 26
abbrev bL:Stmt:=top 27
abbrev lF:Stmt:=top 28
abbrev fA:Stmt:=top 30
abbrev lB:Stmt:=top 31
abbrev lO:Stmt:=top 32
abbrev oW:Stmt:=top 33
abbrev lH:Stmt:=top 34
abbrev l7:Stmt:=top 35
abbrev lM:Stmt:=top 36
abbrev gT:Stmt:=top 37
abbrev qF:Stmt:=top 38
abbrev lZ:Stmt:=top 39
abbrev lT:Stmt:=top 40
abbrev yF:Stmt:=top 41
abbrev lV:Stmt:=top 42
abbrev gZ:Stmt:=top 43
abbrev nV:Stmt:=top 44
abbrev u7:Stmt:=top 45
abbrev SB:Stmt:=top 46
abbrev iI:Stmt:=top 47
abbrev gW:Stmt:=top 48
abbrev uO:Stmt:=top 49
abbrev gR:Stmt:=top 50
abbrev ig:Stmt:=top 51
abbrev lK:Stmt:=top 52
abbrev kQ:Stmt:=top 53
abbrev kW:Stmt:=top 54
abbrev iV:Stmt:=top 55
abbrev iz:Stmt:=top 56
abbrev i3:Stmt:=top 57
abbrev vZ:Stmt:=top 58
structure V_ where
 (P:X6) (w:X7) (K:Ak) (mg:XM) (base:X8) (Pt:Addr) (Ca:Addr)
structure _R(V:V_):Prop where
 bb:V.mg "list"=none
 be:V.mg "range"=none
 bg:V.mg "enumerate"=none
 bi:V.mg "max"=none
 b_min:V.mg "min"=none
 bh:V.mg "sorted"=none
 ba:V.mg "len"=none
 b_zip:V.mg "zip"=none
 bj:V.mg "sum"=none
 b_isinstance:V.mg "isinstance"=none
 b_tuple:V.mg "tuple"=none
 b_int:V.mg "int"=none
 b_bool:V.mg "bool"=none
 b_str:V.mg "str"=none
 zA0:IW ⟨V.K,V.P,V.w⟩ V.mg "LEAF_KINDS" qD
abbrev Q_(V:V_)(k:Nat)(x:Str)(ps:XT)(sp:ju):Prop:=GX V.P V.w V.K V.mg V.base k x ps sp
def I_{a b:Expr}(I:QE X a ta)(J:QE X b tb)(hp:sK b:=by exactλ_ _=>rfl):QE X (.Subscript a b pos) (ku iH ta tb):=Ra (Rc X.K X.prog X.w) I J hp
def jy{t:v4}(h:QE X e t)(s:starEach [e] X.env=[(false,eval e X.env)]:=by rfl):QA X [e] (qt t x8):=vg h wz s
def ki{f:Expr}{t u:v4}(h:QE X e t)(g:QE X f u)(s:starEach [e,f] X.env=[(false,eval e X.env),(false,eval f X.env)]:=by rfl)(r:starEach [f] X.env=[(false,eval f X.env)]:=by rfl):QA X [e,f] (qt t<|qt u x8):=vg h (jy g r) (by show _=_;rw[s,r])
def bq{f d:Expr}{t u v:v4}(h:QE X e t)(g:QE X f u)(i:QE X d v)(s:starEach [e,f,d] X.env=[(false,eval e X.env),(false,eval f X.env),(false,eval d X.env)]:=by rfl)(r:starEach [f,d] X.env=[(false,eval f X.env),(false,eval d X.env)]:=by rfl)(q:starEach [d] X.env=[(false,eval d X.env)]:=by rfl):QA X [e,f,d] (qt t<|qt u<|qt v x8):=vg h (ki g i r q) (by show _=_;rw[s,r])
def E_{a b:Expr}(I:X.A.units+128<cLine)(J:QE X a ta)(U:QE X b tb):QT X (.Compare a [.Eq] [b] pos) (yB<|ku (uQ false) ta tb):=jv (ga X.K X.prog X.w I) J U<|jt _
def N_{a b:Expr}(I:X.A.units+128<cLine)(J:QE X a ta)(U:QE X b tb):QT X (.Compare a [.NotEq] [b] pos) (yB<|ku (uQ true) ta tb):=jv (GW X.K X.prog X.w I) J U<|jt _
def S_(i:Nat)(hN:X.N.Nodup)(h:QE X e te)(I:X.N[i]?=some x:=by rfl)(g:Loc X.env.scope x:=by exact Or.inl rfl)(J:swapsWith e (some<|.Name x fx) pos.line X.env=pure false:=by rfl)(U:X.fn x=true\/X.env.scope.names.lookup x=some .local:=by first|exact .inl rfl|exact .inr rfl|assumption):QS X (.Assign [.Name x fx] e pos) (vv te<|qo i):=dh (i:=i) hN I g h J U
def G_(i:Nat)(hN:X.N.Nodup)(I:X.N[i]?=some x:=by rfl)(U:Loc X.env.scope x:=by exact Or.inl rfl)(J:X.fn x=true\/X.env.scope.names.lookup x=some .local:=by first|exact .inl rfl|exact .inr rfl|assumption):QG X (.Name x pos) (qo i):=dP (i:=i) hN I U J
def C_{p:Pos}{k:Nat}(c:GX X.prog X.w X.K X.mg X.base j x ps sp)(U:wx k X.A)(g:QA X (e::es) tr)(l:j<=k:=by first|decide|exact Ap _|exact AS (by decide)<|DF _ _)(o:Gl X x:=by rfl)(I:Fc x:=by decide)(r:E9 e es X:=by rfl)(J:Fb pos es X:=by rfl):QE X (.Call (.Name x p) (e::es) [] pos) (jg sp tr):=Rx (Zs.mono c l) U o g I r J
def J_{n:Int}{k:Nat}{p q:Pos}(i:Nat)(hN:X.N[i]?=some x:=by rfl)(I:Db X.env.scope x:=by first|exact Or.inl rfl|exact Or.inr (Or.inl rfl)|exact Or.inr<|Or.inr rfl)(hd:Fc x:=by decide)(hc:Fe x:=by decide):QE X (.Subscript (.Name x p) (.Constant (.int n) k q) pos) (ku iH (qh i)<|yC<|.int n):=I_ (qv i hN I hd hc) qe λ_ _=>rfl
def L_{t:v4}{p:Pos}(I:X.mg "len"=none)(h:QE X e t)(s:starEach [e] X.env=[(false,eval e X.env)]:=by rfl)(J:Gl X "len" := by rfl):QE X (.Call (.Name "len" p) [e] [] pos) (k_ yU<|qt t x8):=ko (Rf X.K X.prog X.w) J I QN (jy h s) (hs:=s)
def h_{l:XT}(h:decide l.Nodup=true:=by kernel_rfl):l.Nodup:=of_decide_eq_true h
abbrev Fw(V:V_):=Q_ V 1 "is_leaf" ["word"]
abbrev Jk(V:V_):=Q_ V 122 "size_of" ["word"]
abbrev Jl(V:V_):=Q_ V 122 "word_at" ["knots","place"]
abbrev G8(V:V_):=Q_ V 1 "places_there" ["knots"]
abbrev G9(V:V_):=Q_ V 2 "parts_of" ["knot"]
abbrev Jm(V:V_):=Q_ V 1 "eithers_of" ["web"]
abbrev Jn(V:V_):=Q_ V 1 "partner_of" ["links","place"]
abbrev Jo(V:V_):=Q_ V 2 "links_without" ["links","p","q"]
abbrev Sz(V:V_):=Q_ V 3 "cut_step" ["web","k"]
abbrev SA(V:V_):=Q_ V 123 "steps_due" ["web"]
abbrev Jp(V:V_):=Q_ V 2 "boths_of" ["web"]
abbrev Jq(V:V_):=Q_ V 3 "part_edges" ["knots","places"]
abbrev Jr(V:V_):=Q_ V 4 "joins_of" ["web"]
abbrev SD(V:V_):=Q_ V 3 "join_steps" ["pieces","joins"]
abbrev SE(V:V_):=Q_ V 3 "can_fold" ["pieces","knots","place"]
abbrev SF(V:V_):=Q_ V 4 "fold_steps" ["pieces","knots","eithers"]
abbrev Js(V:V_):=Q_ V 5 "steps_by" ["knots","joins","eithers"]
abbrev Jt(V:V_):=Q_ V 6 "all_come_together" ["knots","joins","eithers"]
abbrev SG(V:V_):=Q_ V 7 "right_web" ["web"]
abbrev Ju(V:V_):=Q_ V 1 "_law_cell_at" ["_law_script","_law_k"]
abbrev SH(V:V_):=Q_ V 1 "_law_stir" ["_law_script"]
abbrev F1(V:V_):=Q_ V 1 "_law_pick" ["_law_stir_here","_law_factor"]
abbrev G'(V:V_):=Q_ V 1 "_law_mix" ["_law_cell","_law_k","_law_factor"]
abbrev Jv(V:V_):=Q_ V 1 "_law_name" ["_law_seed","_law_which"]
abbrev Jw(V:V_):=Q_ V 121 "_law_word" ["_law_knots","_law_p"]
abbrev SI(V:V_):=Q_ V 121 "_law_flip" ["_law_word_here"]
abbrev Jx(V:V_):=Q_ V 121 "_law_weight" ["_law_word_here"]
abbrev Jy(V:V_):=Q_ V 170 "_law_mirror" ["_law_knots","_law_word_here"]
abbrev Jz(V:V_):=Q_ V 1 "_law_join" ["_law_knots","_law_forest","_law_one","_law_two"]
abbrev JA(V:V_):=Q_ V 1 "_law_fold" ["_law_knots","_law_tree_here","_law_one","_law_two"]
abbrev JB(V:V_):=Q_ V 171 "_law_cut" ["_law_knots","_law_forest","_law_one","_law_two"]
abbrev JC(V:V_):=Q_ V 172 "_law_tree" ["_law_cells","_law_seed","_law_room"]
abbrev JD(V:V_):=Q_ V 121 "_law_gather" ["_law_rule","_law_links","_law_cuts"]
abbrev JE(V:V_):=Q_ V 122 "_law_web" ["_law_tree_here"]
abbrev JF(V:V_):=Q_ V 1 "_law_open" ["_law_web_here"]
abbrev JG(V:V_):=Q_ V 2 "_law_order" ["_law_knots","_law_seed"]
abbrev JH(V:V_):=Q_ V 121 "_law_moved" ["_law_rule","_law_at"]
abbrev JI(V:V_):=Q_ V 122 "_law_gapped" ["_law_tree_here","_law_stir_here"]
abbrev JJ(V:V_):=Q_ V 1 "_law_reach" ["_law_many","_law_edges","_law_start"]
abbrev JK(V:V_):=Q_ V 1 "_law_number" ["_law_x"]
abbrev SJ(V:V_):=Q_ V 6 "_law_alike" ["_law_found","_law_due"]
abbrev SK(V:V_):=Q_ V 1 "_law_copy" ["_law_web_here"]
abbrev JL(V:V_):=Q_ V 173 "_law_sown" ["_law_script","_law_stir_here","_law_wide"]
abbrev JM(V:V_):=Q_ V 171 "_law_deep" ["_law_tree_here","_law_number_here"]
abbrev SM(V:V_):=Q_ V 174 "_law_grown" ["_law_script","_law_stir_here","_law_wide"]
abbrev SN(V:V_):=Q_ V 2 "_law_drawn" ["_law_web_here","_law_number_here"]
abbrev SO(V:V_):=Q_ V 1 "_law_three" ["_law_web_here"]
abbrev Fx(V:V_)(k:Nat)(N:XT)(x:Str)(st:Stmt)(f:Addr)(t:cH):Prop:=∀(eH:X4) (A:Around) (outer:List Env) (s:X5) (H:Hp) (E:XK),wx k (A.deeper<|PyProof.Rows.envOfC x (zb st) s.heap.objs.size f eH)->N.Nodup->(A.deeper<|PyProof.Rows.envOfC x (zb st) s.heap.objs.size f eH).units+128<cLine->zP (qJ Zg V.P V.w V.K V.mg V.base N x (zb st) f eH A outer s H E).Z0 (jw st) t
abbrev Ha(x:Str)(st:Stmt)(ps:XT):Prop:=∀(kV gn pm:X4) (an:Option Addr) (eH ct:X4) (us:XQ),us.length=ps.length->bindArgs (PySem.W.fnOf x x (vd st) (jw st) (zb st) .none kV gn pm an eH ct) ⟨us,[]⟩=pure (ps.zip us)
abbrev RD(x:Str)(st:Stmt)(k:Nat)(N:XT)(h:V_->Prop):=PSigma λt:cH=>∀V:V_,_R V->h V->∀f:Addr,Fx V k N x st f t
abbrev RR(x:Str)(st:Stmt)(k:Nat)(ps N:XT)(p:ju)(h:V_->Prop):=PSigma λt:cH=>∀V:V_,_R V->h V->∀(n:Nat) (f:Addr),Q_ V (n+k) x ps p->Fx V (n+k) N x st f t
def sJ{p:Pos}(i:Nat)(hi:X.N.length=i:=by rfl)(hN:(X.N++[x]).Nodup:=by exact h_)(J:∀C fp s₀ H₀,Loc (X.comp scope [x] C fp s₀ H₀).env.scope x:=by exactλ_ _ _ _=>Or.inl rfl)(I:∀C fp s₀ H₀,(X.comp scope [x] C fp s₀ H₀).env.scope.names.lookup x=some .local:=by exactλ_ _ _ _=>rfl):Es X scope [x] (.Name x p) (qo i):=hi▸aw hN J I
def JN{y:Str}{p I pt:Pos}(i:Nat)(hi:X.N.length=i:=by rfl)(hc:X.calm=true:=by rfl)(hN:(X.N++[x,y]).Nodup:=by exact h_)(U:∀C fp s₀ H₀,(X.comp scope [x,y] C fp s₀ H₀).env.scope.names.lookup x=some .local:=by exactλ_ _ _ _=>rfl)(J:∀C fp s₀ H₀,(X.comp scope [x,y] C fp s₀ H₀).env.scope.names.lookup y=some .local:=by exactλ_ _ _ _=>rfl)(h1:∀env,(assignEach [.Name x p,.Name y I] env).length=2:=by intro _;rfl)(h2:∀env,(assignEach [.Name x p,.Name y I] env).findIdx? (·.1)=none:=by intro _;rfl)(g:∀env,(assignEach [.Name x p,.Name y I] env).map (·.2)=assign (.Name x p) env::(assignEach [.Name y I] env).map (·.2):=by intro _;rfl)(j:∀env,(assignEach [.Name y I] env).map (·.2)=assign (.Name y I) env::(assignEach [] env).map (·.2):=by intro _;rfl):Es X scope [x,y] (.Tuple [.Name x p,.Name y I] kt pt) (fM 2<|x5 (qo i)<|x5 (qo<|i+1) cM):=hi▸Rw hc hN U J h1 h2 g j
section
variable {te:TE}
end
section
variable {a T:Addr}{tr:Option Addr}
end
section
variable {T:XT}{iter:Expr}{g:TG}{tc:TT}{te:TE}
end
section
variable {a b T:Addr}{tr:Option Addr}{E1:X1}
end
section
variable {k:Nat}{sp:Sp}{E1:X1}{p:Pos}{t:TA}
end
theorem vA:∀{I:XX} {us:XQ},zn (I.map V.int) us->∃l:List (Int×Tok),l.map (·.1)=I/\us=l.map λp=>Value.int p.1 p.2
 |[],_,.nil=>{[],rfl,rfl}
 |n::I,_,.cons r t=>by obtain⟨J,rfl⟩:=(show ∃t,_=Value.int n t from r);obtain⟨l,e,rfl⟩:=vA t;exact{(n,J)::l,by rw[AQ,e],rfl}
def SQ(hc:X.calm=true:=by rfl):jx X (.builtin "sum") (λxs H Q=>∃(a:Addr) (J:XX),xs=[.ref a]/\bE X.K H a (J.map V.int)/\Q (.int J.sum) H):=by
 rintro U s σ H xs us Q I r⟨a,J,rfl,sq,q⟩;obtain⟨u,rfl,j⟩:=rZ r;cases j;obtain⟨o,t,pl,_⟩:=I.list sq;obtain⟨l,C,rfl⟩:=vA t;have g:=xm pl;have ei:(l.map λp=>Value.int p.1 p.2).toArray=intItems l.toArray:=by unfold intItems;simp
 rw[ei] at g;refine xc I.tk<|sum_intListG (I.ok.hd hc) g λh' T t' hk ht=>?_;have es:preSum (numAt l.toArray) l.toArray.size=J.sum:=by rw[preSum_eq,AU (by simp),<-C]
 rw[es];exact{.int J.sum,H,I.kept (h':=h') (t':=T) hk ht,{_,rfl},q}
section
variable {T:XT}{iter:Expr}{wi:vb}{E3:X3}{Ea:Addr->qk->Prop}
end
def xB:_T->Option (XX)
 |[]=>some []
 |.int b::r=>(xB r).map (b::·)
 |_::_=>none
def rK(bs:XX):xB (bs.map Y.int)=some bs:=by induction bs with|nil=>rfl|cons b r I=>show(xB<|r.map Y.int).map (b::·)=_;rw[I];rfl
theorem rW{G:G3}{H:Hp}:∀{ys:_T} {xs:X_} {bs:XX},xB ys=some bs->xr G H ys xs->xs=bs.map V.int
 |[],_,_,h,r=>by cases h;exact r
 |y::ys,_,bs,h,ψ=>by
  obtain⟨x,I,e,J,U⟩:=ψ
  cases y with
  |int b=>
   have g:=h;obtain⟨l,j,rfl⟩:=AE.mp g;cases (show x=V.int b from J);rw[e,rW j U];rfl
  |_=>cases h
def Hb(xs:_T)(L:qk)(Q:YK):Prop:=match xs with
 |[y]=>GL y=true/\kD L y λys=>b_ L (λbs L=>Q (.int bs.sum) L)<|xB ys
 |_=>False
def JO(hc:X.calm=true:=by rfl):jx X (.builtin "sum") (j_ X.g3 Hb):=E7 (SQ hc) λj H Q l L o J I z k=>by
 unfold Hb at z;split at z
 .rename_i y;obtain⟨x,rfl,r⟩:=J.inv1;obtain⟨U,z⟩:=z;obtain⟨p,g,z⟩:=aV z;obtain⟨bs,eb,z⟩:=m8 z;obtain⟨a,t,rfl,sq,rr⟩:=rD I r U g;cases rW eb rr;exact{a,bs,rfl,sq,k _ H _ L (EM _) I (by rfl) z}
 .exact z.elim
def JP:bootBuiltins "sum"=some (.builtin "sum"):=by decide +kernel
section
variable {w:X7}
theorem wM{it t:Addr}{eh:XR}(I:t≠it):∀(n i:Nat) (s:X5) (Q:XQ->X5->Prop),s.heap.IsListIter it t i->s.heap.IsList t eh->i+n<=eh.size->
 (∀h',h'.IsListIter it t (i+n)->Heap.SameBut it s.heap h'->Q ((eh.toList.drop i).take n) {s with heap:=h'})->wpAny (model prog w) A (draw (.ref it) n) Q E s
 |0,i,s,Q,hit,_,_,g=>by unfold draw;exact Al (by simpa using g s.heap hit (Heap.SameBut.refl ..))
 |n+1,i,s,Q,hit,p,r,g=>by
  have J:i<eh.size:=by omega
  unfold draw;refine Aa<|wpAny_pyNext_list_item hit p (x:=eh[i]) (by simp[J]) λg1 j U=>?_;refine Aa<|A9<|wM I n (i+1) _ _ j (p.extBut U.extBut I) (by lia) λg2 l o=>Al ?_;have e:eh.toList.drop i=eh[i]::eh.toList.drop (i+1):=by simp[B9,J]
  have q:=g g2 (by rw[show i+(n+1)=i+1+n by simp +arith only];exact l)
   (U.trans o)
  rw[e,List.take_succ_cons] at q;exact q
def SS{t:Addr}{eh:XR}{Q:XJ}(T:A.handled=none)(I:s.heap.IsList t eh)(hn:(assignEach mE env).length=eh.size)(j:(assignEach mE env).findIdx? (·.1)=none)
 (h:∀g,Heap.ExtBut s.heap.objs.size s.heap g->wpAny (model prog w) A (assignInOrder ((assignEach mE env).map (·.2)) eh.toList) Q E {s with heap:=g}):wpAny (model prog w) A (assign (.Tuple mE x1 pos) env<|.ref t) Q E s:=by
 have J:t≠s.heap.objs.size:=by obtain⟨o,ho,_⟩:=I;exact AY<|pj ho
 rw[arm_assign_Tuple];refine Aa<|wpAny_standAt ?_;unfold unpack;rw[hn,j];refine Aa<|A9 ?_;unfold unpackItems notIterableAtAll;refine Aa<|Aa<|wpAny_specialOf I.typeIs slot_list_iter.lookup ?_;refine Al ?_;rw[Au (by simp)];refine Aa<|A9<|wpAny_pyIter_list I ?_;refine Aa<|A9<|wM J eh.size 0 _ _ {_,pG _ rfl,rfl,rfl} (I.push _) (by simp +arith only) λg1 l U=>?_;have all:List.take eh.size (List.drop 0 eh.toList)=eh.toList:=by rw[DQ];exact AU (by simp)
 rw[all,Au (by simp)];have p:=(I.push _).extBut U.extBut J;refine Aa<|A9<|wpAny_pyNext_list_end T l p (by simp) λg2 r=>?_;rw[Au (by simp)];exact Al<|h g2 λb o C e=>r b o C<|U.extBut b o C<|oi _ e
end
def SU(K:Ak)(n:Nat)(t:e_):TG:=λv σ H Q=>∃a xs,v=.ref a/\bE K H a xs/\xs.length=n/\t xs σ H Q
def SV{k:Nat}{t:e_}(hc:X.calm=true)(h:Zz X es t)
 (j:(assignEach es X.env).length=n:=by rfl) (U:(assignEach es X.env).findIdx? (·.1)=none:=by rfl):PG X (.Tuple es k pos) (SU X.K n t):=by
 rintro J s l H v u Q I r⟨a,p,C,T,hl,hw⟩;subst C;cases r;obtain⟨a0,g,pl,hz⟩:=I.list T;have ht:=xm pl;refine SS (I.ok.hd hc) ht (by simp[j,<-hl,g.length]) U λh' hx=>?_;have I1:=I.kept (t':=s.toks) λb o e=>hx b o (AY<|pj e) e;exact h J _ l H p _ Q I1 (by simpa using g) hw
def SW(l:Addr)(eh:XR)(n:Nat)(x:X4)(b:Nat->Bool)(j:Nat)(C:j<eh.size)(hit:b j=true)(hz:eh.size<=sizeLine):∀(k i:Nat),j-i=k->i<=j->(∀m,i<=m->m<j->b m=false)->
 Meets (Builtin.«list.remove.loop» ⟨[.ref l,x,rawInt i],[]⟩) (λA R s=>s.heap.get? l=some {cls:=.type "list",dict:=none,data:=.seq eh n,slots:=#[]}/\(∀m (hm:m<eh.size),SeqAt.EqAt A.in1 s eh[m] x<|b m)/\R (.ok<|.ret .none) {s with heap:=s.heap.update l (Obj.mapSeq λxs=>xs.eraseIdxIfInBounds j)}):=by
 intro k
 induction k with
 |zero=>
  intro i T p J I w A R s h;obtain⟨hp,g,d,tk,os⟩:=s;obtain⟨U,eq,h⟩:=h;have e:i=j:=by lia
  subst e
  (wp_walk using wpAny_loadPart' U)
  have r:eh[((i:Nat):Int).toNat]?=some eh[i]:=by simp[C]
  rw[r];refine Aa<|eq i C I w _ _ ?_;rw[hit];have t:(eh.eraseIdxIfInBounds i).size<=sizeLine+1:=AS (MeetsSeq.size_erased eh _)<|Cc hz
  (wp_walk using (wpAny_updateSeq U rfl (hz:=hz) (_hz':=t)),wpAny_loadPart' U)
  simpa using h
 |succ k ih=>
  intro i T p J I w A R s h;obtain⟨hp,g,d,tk,os⟩:=s;obtain⟨U,eq,h⟩:=h;have o:i<eh.size:=by exact qG
  (wp_walk using wpAny_loadPart' U)
  have r:eh[((i:Nat):Int).toNat]?=some eh[i]:=by simp[o]
  have hc:((i:Int)+1)=((i+1:Nat):Int):=by rfl
  rw[r];refine Aa<|eq i o I w _ _ ?_;rw[J i (Ap _) (by omega)]
  wp_walk
  rw[hc];refine{plainId_quiet uv _,codeAny_builtin MeetsSeq.entry_remove_loop ?_};rw[xa uv _];exact ih (i+1) (by omega) (by omega) (λm h1 h2=>J m (by exact jM) h2) I w A R _ {(U),eq,h}
def SX(l:Addr)(eh:XR)(n:Nat)(x:X4)(b:Nat->Bool)(j:Nat)(o:j<eh.size)(hit:b j=true)(hz:eh.size<=sizeLine)(J:∀m,m<j->b m=false):
 Meets (Builtin.«list.remove» ⟨[.ref l,x],[]⟩) (λA R s=>s.heap.get? l=some {cls:=.type "list",dict:=none,data:=.seq eh n,slots:=#[]}/\(∀m (r:m<eh.size),SeqAt.EqAt A.in1 s eh[m] x<|b m)/\R (.ok<|.ret .none) {s with heap:=s.heap.update l (Obj.mapSeq λxs=>xs.eraseIdxIfInBounds j)}):=by
 intro I w A R s h;obtain⟨t,g,d,C,os⟩:=s;obtain⟨U,eq,h⟩:=h
 (wp_walk using wpAny_loadPart' U)
 refine{plainId_quiet uv _,codeAny_builtin MeetsSeq.entry_remove_loop ?_};rw[xa uv _];exact SW l eh n x b j o hit hz _ 0 rfl (Bf _) (λm _ p=>J m p) I w A R _ {(U),eq,h}
theorem zn.ZJ:∀{xs:X_} {us:XQ} (n:Nat),zn xs us->zn (xs.eraseIdx n) (us.eraseIdx n)
 |[],_,n,.nil=>by simp;exact .nil
 |_::_,_,0,.cons _ t=>t
 |_::_,_,n+1,.cons r t=>.cons r<|zn.ZJ n t
def SY(X:Cx):V->X_->Hp->VK->Prop:=λx vs H Q=>∃l xs y ds e,∃n m j:Nat,x=.ref l/\vs=[y]/\H l=some (.lst xs)/\n<=126/\Paired (a9 X.K H n) xs ds/\a9 X.K H m y e/\j<ds.length/\(∃d,ds[j]?=some d/\Da.eq d e=true)/\
 (∀(k:Nat) d,k<j->ds[k]?=some d->Da.eq d e=false)/\Q .KB (upd H l<|.lst<|xs.eraseIdx j)
theorem S0(hu:X.A.units+128<cLine):kA X "list.remove" (SY X):=by
 rintro a4 s σ H x vs v us Q I rx rv⟨l,p,y,g,e,n,m,j,rfl,rfl,hH,hn,pd,ry,hj,⟨dj,t,C⟩,T,q⟩;cases rx;obtain⟨u,rfl,ru⟩:=rv.one;obtain⟨z,J,nn,r,hl,eo⟩:=I.YO hH;have l1:=pd.length;have l2:=r.length.symm;obtain⟨arr,U⟩:∃arr:XR,arr=J.toArray:={_,rfl};have a0:arr.size=J.length:=by rw[U,Az]
 have b:Nat->Bool:=λ_=>true;have a1:arr.size<=sizeLine:=by rw[a0];lia
 have M:=SX l arr nn u (λk=>((g[k]?).map λd=>Da.eq d e).getD false) j (by lia) (by show((g[j]?).map λd=>Da.eq d e).getD false=true;rw[t];exact C) a1 (λk o=>by show((g[k]?).map λd=>Da.eq d e).getD false=false;cases ek:g[k]? with|none=>rfl|some d=>exact T k d o ek)
 rw[U] at M;refine call_meets F.slot_list_remove {_,eo,rfl} F.entry_list_remove (F.args_list_remove_2 _ _) M {eo,λk o=>?_,?_}
 .have a5:k<J.length:=by rw[Az] at o;exact o
  obtain⟨d,ed,rd⟩:=Paired._g pd<|An (by lia:k<p.length);show SeqAt.EqAt _ s _ u (((g[k]?).map λd=>Da.eq d e).getD false);rw[ed];obtain⟨u',a2,a3⟩:=Paired._g r<|An (by lia:k<p.length);have eg:J.toArray[k]=u':=by have:=(AN.mp a2).2;simpa using this
  rw[eg];exact zG I n (by show X.A.units+1+n<cLine;lia) rd ry a3 ru
 .refine{.KB,_,I.Zl (its':=J.eraseIdx j) hH eo ?_ (r.ZJ j) ?_,rfl,q}
  .have:j<J.length:=by lia
   simp[Array.eraseIdxIfInBounds,this]
  .have:=Df p j;exact GD
def JQ(n:Nat)(t:wT)(y:Y)(τ:jq)(L:qk)(Q:jq->qk->Prop):Prop:=match y with
 |.ref a=>dw L a λys=>match ys.length==n with
  |true=>t ys τ L Q
  |false=>False
 |_=>False
def JR{U:Nat}(hc:X.calm=true)(h:Fs X es gs)(h1:(assignEach es X.env).length=n:=by rfl)(h2:(assignEach es X.env).findIdx? (·.1)=none:=by rfl):QG X (.Tuple es U pos) (JQ n gs):=
 PG.imp (SV hc h h1 h2) λv σ H Q ψ=>by
 obtain⟨y,g,L,j,l,o,J,z,k⟩:=ψ
 cases y with
 |ref a=>
  cases (show v=.ref a from l);obtain⟨p,e,I⟩:=ve z;obtain⟨t,C,r⟩:=J a _ e;split at I
  .rename_i T;exact{a,t,rfl,bE.of C,by rw[<-r.length];exact beq_iff_eq.mp T,p,g,L,j,r,o,J,I,k}
  .exact I.elim
 |_=>exact z.elim
def me(x:Y)(vs:_T)(L:qk)(Q:YK):Prop:=match x,vs with
 |.ref a,[v]=>dw L a λys=>∃ds e,∃n m j:Nat,n<=126/\Paired (xh L n) ys ds/\xh L m v e/\j<ds.length/\(∃d,ds[j]?=some d/\Da.eq d e=true)/\(∀(k:Nat) d,k<j->ds[k]?=some d->Da.eq d e=false)/\Q .KB (qf L a<|.lst<|ys.eraseIdx j)
 |_,_=>False
def S1(C:X.A.units+128<cLine):kA X "list.remove" (l_ X.g3 me):=kA.Ym (S0 C) λx I H Q y U L Q3 T r2 g z k=>by
 unfold me at z;split at z
 .rename_i a v;obtain⟨zs,e,J,de,n,m,j,hn,pd,dv,hj,hit,l,z⟩:=ve z;obtain⟨us,o,r⟩:=g a _ e;obtain⟨v',rfl,rv⟩:=r2.inv1;have both:∀{U:_T} {J:List Da} {I:X_},Paired (xh L n) U J->xr X.g3 H U I->Paired (a9 X.K H n) I J:=by
   intro U J I p
   induction p generalizing I with
   |nil=>intro q;cases (show I=[] from q);exact .nil
   |cons h t ih=>
    rintro⟨x,a0,rfl,q1,q2⟩;exact .cons (xh.rep g h q1)<|ih q2
  exact{a,us,v',J,de,n,m,j,T,rfl,o,hn,both pd r,xh.rep g dv rv,hj,hit,l,k _ _ _ _ (EY o) (g.Zm o<|r.eraseIdx j) (by rfl) z}
 .exact z.elim
def S2(I:X.A.units+128<cLine)(J:QE X o to)(U:QA X (e::es) tr)(g:ya X o e es "remove" apos eK:=by exact{(rfl),rfl,rfl,rfl,rfl}):
 QE X (.Call (.Attribute o "remove" apos) (e::es) [] eK) (mC me to tr):=tK PySem.F.slot_list_remove PySem.F.type_list_remove (S1 I) J U g
def S3:X_->Hp->VK->Prop:=λxs H Q=>∃n:Int,xs=[.int n]/\∀p,H p=none->Q (.ref p) (upd H p<|._s 0 n)
def S4:jx X (.type "range") S3:=by rintro J s g H j l Q I r⟨n,rfl,q⟩;obtain⟨u,rfl,U⟩:=r.one;obtain⟨t,rfl⟩:=(show ∃t,u=Value.int n t from U);refine call_range_1 ?_;refine{.ref s.heap.objs.size,_,I.laid (t':=s.toks+1+1) (o:=._s 0 n) (λb ob q=>oi _ q) (Ap _) ?_,rfl,q _<|I.HT.fresh<|Ap _};exact{s.toks,t,s.toks+1,pG _ rfl}
def yo{I:XR}(h:ItemsOf (λi v=>∃t,v=.int (0+(i:Int)*1) t) I n):zn ((List.range n).map λi:Nat=>V.int<|0+(i:Int)) I.toList:=by
 have len:I.toList.length=n:=by rw[Be];exact h.1
 have key:∀(l:XQ) (k:Nat),(∀(j:Nat) v,l[j]?=some v->∃t,v=Value.int (0+((k+j:Nat):Int)*1) t)->zn ((List.range' k l.length).map λi:Nat=>V.int<|0+(i:Int)) l:=by
  intro l
  induction l with
  |nil=>intro k _;exact .nil
  |cons v r g=>
   intro k U;rw[Av,El,AQ];obtain⟨t,e⟩:=U 0 v rfl;refine .cons ?_<|g (k+1) λj o J=>?_
   .exact{t,by rw[e];simp}
   .have:=U (j+1) o J;rw[show k+1+j=k+(j+1) by simp +arith only];exact this
 have:=key I.toList 0 λj v J=>by rw[C1];exact h.2 j v (by simpa using J)
 rw[len,<-List.range_eq_range'] at this;exact this
def S5:X_->Hp->VK->Prop:=λxs H Q=>∃a,∃n:Nat,xs=[.ref a]/\H a=some (._s 0 n)/\n<=100000/\∀p,H p=none->Q (.ref p) (upd H p<|.lst ((List.range n).map λi:Nat=>V.int<|0+(i:Int)))
theorem S6(hc:X.calm=true):jx X (.type "list") S5:=by
 rintro g s σ H xs us Q I r⟨a,n,rfl,j,l,q⟩;obtain⟨u,rfl,p⟩:=r.one;cases (show u=Value.ref a from p);obtain⟨t,u,v,e⟩:=I.HT a _ j;have hb:(100000:Nat)<=sizeLine:=by decide
 have C:Builtin.Range.rangeSize 0 (n:Int) 1=((n:Nat):Int):=by rw[rangeSize_one];split<;>lia
 refine xc I.tk<|call_list_range (I.ok.hd hc) (show IsRange s.heap a 0 (n:Int) 1 t u v from e) (small_one (by decide) (by decide) (by exact A4 _) (by omega)) C (AS l (by decide)) λh' T U c hk hS J ht=>?_;refine{.ref s.heap.objs.size,_,I.laid (t':=T) (o:=.lst ((List.range n).map λi:Nat=>V.int<|0+(i:Int))) hk (Ap _) ?_,rfl,q _<|I.HT.fresh<|Ap _};refine{by rw[Ah,Bb];exact GD,U.toList,c,yo J,?_};rw[hS]
def S7:bootBuiltins "range"=some (.type "range"):=by decide +kernel
def pP(te:v4)(τ:jq)(L:qk)(Q:YK):Prop:=te τ L λy L1=>match y with
 |.int n=>(0<=n/\n<=100000)/\∀p,L1 p=none->Q (.ref p) (qf L1 p<|.lst<|ao 0 n.toNat)
 |_=>False
def S8(n:Nat):xr G H (ao 0 n) ((List.range n).map λi:Nat=>V.int<|0+(i:Int)):=by
 unfold ao;generalize List.range n=l
 induction l with|nil=>rfl|cons k r I=>exact{_,_,rfl,rfl,I}
theorem nv{p I:Pos}(hc:X.calm=true)(T:Gl X "list")(hm:X.mg "list"=none)(j:Gl X "range")(l:X.mg "range"=none)(h:QE X e te)
 (h1:starEach [.Call (.Name "range" p2) [e] [] I] X.env=(false,eval (.Call (.Name "range" p2) [e] [] I) X.env)::starEach [] X.env:=by rfl) (h2:(backTo pos<|starEach [] X.env).any (·.1)=false:=by rfl)
 (C:starEach [e] X.env=(false,eval e X.env)::starEach [] X.env:=by rfl) (h4:(backTo I<|starEach [] X.env).any (·.1)=false:=by rfl):
 QE X (.Call (.Name "list" p) [.Call (.Name "range" p2) [e] [] I] [] pos) (pP te):=
 EO (kM (S6 hc) T hm wc (f9 (kM S4 j l S7 (f9 h oX C) (by decide) (by decide) C h4) oX h1) (by decide) (by decide) h1 h2) λσ H Q τ L Q3 rs rl z k=>
 ⟨τ,L,_,rs,rl,z,λv H1 y L1 t1 J o U=>by
  cases y with
  |int n=>
   obtain⟨⟨h0,h5⟩,U⟩:=U;cases (show v=V.int n from o);obtain⟨m,rfl⟩:∃m:Nat,n=(m:Int):={n.toNat,by lia};refine{_,rfl,λq r=>{q,m,rfl,zg,by lia,λp g=>?_}};have t:H1 p=none:=by
    by_cases c:p=q
    .subst c;exact r
    .rw[qm c] at g;exact g
   exact k _ _ _ _ (t1.trans<|(EN r).trans<|EN g) ((J.skip r).YX g<|S8 m) (by rfl) (U p<|J.none t)
  |_=>exact U.elim⟩
def lL(C:Addr)(m:Str)(sp:ju)(to:v4)(t:fE)(τ:jq)(L:qk)(Q:YK):Prop:=to τ L λx L1=>match x with
 |.ref a=>yZ L1 a λI fs=>I=C/\fs.lookup m=none/\t τ L1 λys L2=>sp (.ref a::ys) L2 Q
 |_=>False
section
variable {m:Str}{g:Addr}
theorem S9{pl:Sem Bool}{k:Nat}(ho:QE X o to)(c:YH X.K C)(hm:Fg X.K C m g)(F:Zw X.prog X.w X.K X.mg X.base k g fd ps sp)(hr:wx k X.A)(hb:aZ X.K fd ps [])(ha:QA X (e::es) tr)
 (J:E9 e es X:=by rfl) (U:Fb pos es X:=by rfl)
 (ht:eval (.Call (.Attribute o m apos) (e::es) [] pos) X.env=(do
  let t <-eval o X.env
  standAt apos.atName
  let (f,first) <-holding [t] (getMethod t m pl)
  callWith pos f first (backTo pos<|starEach (e::es) X.env) (backToKw pos<|keywordEach [] X.env)):=by rfl):
 QE X (.Call (.Attribute o m apos) (e::es) [] pos) (lL C m sp to tr):=E4 (Pn (pl:=pl) ho c hm F hr hb .nil GC ha J U ht) λσ H Q ⟨T,L,Q3,rs,rl,z,k⟩=>
 ⟨T,L,_,rs,rl,z,λv H1 y L1 t1 I j l=>by
  split at l
  .rename_i a;obtain⟨C',fs,e,ec,n,q⟩:=ot l;subst ec;obtain⟨dx,xs,e2,pr⟩:=I a _ e;cases (show v=V.ref a from j);exact{a,dx,xs,rfl,e2,Su pr n,T,L1,_,rs.ts t1,I,q,λvs H2 ys L2 t2 p r z2=>{.ref a::ys,L2,Q3,{.ref a,vs++[],rfl,rfl,by rw[Aw];exact r},p,z2,k.ts<|t1.trans t2}}
  .exact l.elim⟩
def EG{pl:Sem Bool}{k:Nat}(j:_n X.prog X.w X.K X.mg X.base k C m ps sp)(l:wx k X.A)(c:YH X.K C)(p:QE X o to)(r:QA X (e::es) tr)
 (I:E9 e es X:=by rfl) (J:Fb pos es X:=by rfl)
 (t:eval (.Call (.Attribute o m apos) (e::es) [] pos) X.env=(do
  let U <-eval o X.env
  standAt apos.atName
  let (f,first) <-holding [U] (getMethod U m pl)
  callWith pos f first (backTo pos<|starEach (e::es) X.env) (backToKw pos<|keywordEach [] X.env)):=by rfl):
 QE X (.Call (.Attribute o m apos) (e::es) [] pos) (lL C m sp to tr):=by
 obtain⟨g,fd,M,F,b⟩:=j.ex;exact S9 (pl:=pl) p c M F l b r I J t
end
abbrev Yl:=Keyed->Int
abbrev Yk:=Array Keyed
abbrev Yj:=List Keyed
def S':Bool->Keyed->Yk->Nat->Nat->Nat->StateT SortSt Sem (Option Nat):=sortPriv% PySem.Builtin.gallop
section
variable {w:X7}
structure Ord(prog:X6)(w:X7)(A:Around)(s:X5)(κ:SortKind)(Ok:Keyed->Prop)(f:Yl):Prop where
 lt:∀x y,Ok x->Ok y->∀{E:XI} {Q:Bool->X5->Prop},Q (decide<|f x<f y) s->wpAny (model prog w) A (keyLt' κ x.1 y.1) Q E s
variable {κ:SortKind}{Ok:Keyed->Prop}{f:Yl}
def w_lt(O:Ord prog w A s κ Ok f){st:SortSt}{x y:Keyed}{Q:Option Bool->SortSt->Prop}(I:kindOf st=κ)(J:Ok x)(U:Ok y)(h:Q (some<|decide<|f x<f y) st):wpS (model prog w) A E s (lt' x y) Q st:=by rw[lt'_eq];refine Ad<|wpS_get ?_;rw[I];refine Ad<|wpS_lift<|wpAny_attempt<|O.lt x y J U {rfl,?_};exact Af h
def xt{arr:Yk}{x:Keyed}{st:SortSt}{Q:Keyed->SortSt->Prop}(h:arr[i]?=some x)(q:Q x st):wpS (model prog w) A E s (elem' arr i) Q st:=by rw[elem'_eq,h];exact Af q
def JS(left:Bool)(key:Keyed)(arr:Yk)(i:Nat):StateT SortSt Sem (Option Bool):=elem' arr i >>= λx=>if left=true then lt' x key else lt' key x >>= λr=>pure<|r.map λb=>!b
def Ta(O:Ord prog w A s κ Ok f){left:Bool}{key x:Keyed}{arr:Yk}{st:SortSt}{Q:Option Bool->SortSt->Prop}(J:kindOf st=κ)(I:Ok key)(U:Ok x)(hi:arr[i]?=some x)
 (q:Q (some<|if left=true then decide (f x<f key) else !decide (f key<f x)) st):wpS (model prog w) A E s (JS left key arr i) Q st:=by
 refine Ad<|xt hi ?_;cases left with|true=>exact w_lt O J U I q|false=>exact Ad<|w_lt O J I U<|Af q
def cO(O:Ord prog w A s κ Ok f){left:Bool}{key:Keyed}{arr:Yk}{base hint:Nat}{st:SortSt}{Q:Option Nat->SortSt->Prop}(hk:kindOf st=κ)(a2:Ok key)(hh:hint<n)
 (it:Nat->Keyed) (hit:∀i,i<n->arr[base+i]?=some (it i)/\Ok (it i)) (o:Nat->Bool) (a3:∀i,i<n->o i=if left=true then decide (f (it i)<f key) else !decide (f key<f (it i)))
 (mono:∀i j,i<=j->j<n->o j=true->o i=true)
 (q:∀k,k<=n->(∀i,i<k->o i=true)->(∀i,k<=i->i<n->o i=false)->Q (some k) st):wpS (model prog w) A E s (S' left key arr base n hint) Q st:=by
 have go:∀i,i<n->∀Q':Option Bool->SortSt->Prop,Q' (some<|o i) st->wpS (model prog w) A E s (JS left key arr<|base+i) Q' st:=λi U Q' h=>Ta O hk a2 (hit i U).2 (hit i U).1 (by rw[<-a3 i U];exact h);refine Ad<|go hint hh _ ?_;dsimp only;cases hb:o hint with
 |true=>
  rw[Ay rfl];refine Ad (A6 (AO (I:=λx c g=>g=st/\∃l J,c=(none,l,J)/\l<J/\l<n-hint/\o (hint+l)=true/\x+1<=J)
   (Q:=λc g=>g=st/\∃l J,c=(none,l,J)/\l<J/\l<n-hint/\o (hint+l)=true/\(n-hint<=J\/o (hint+J)=false)) ?_ ?_ ⟨rfl,0,1,rfl,Bz _,by omega,hb,Bz _⟩) ?_)
  .rintro x c g _ hx ⟨rfl,l,J,rfl,h1,h2,r,t⟩;by_cases c:J>=n-hint
   .rw[Ay c];exact Af {rfl,l,J,rfl,h1,h2,r,.inl c}
   .rw[Au c];refine Ad<|go (hint+J) (by lia) _ ?_;dsimp only;cases C:o (hint+J) with
    |true=>
     rw[Au (by simp)];exact Af {rfl,J,2*J+1,rfl,by simp +arith only,Ip,C,by lia}
    |false=>
     rw[Ay (by simp)];exact Af {rfl,l,J,rfl,h1,h2,r,.inr C}
  .rintro c g ⟨rfl,l,J,rfl,h1,h2,r,t⟩;exact{rfl,l,J,rfl,h1,h2,r,.inl (by lia)}
  .rintro c g ⟨rfl,l,J,rfl,h1,h2,r,t⟩;obtain⟨lo,a0⟩:∃lo,lo=hint+l+1:={_,rfl};obtain⟨U,a1⟩:∃U,U=hint+min J (n-hint):={_,rfl};rw[<-a0,<-a1];have g1:lo<=U:=by omega
   have g2:U<=n:=by lia
   have g3:∀i,i<lo->o i=true:=λi U=>mono i (hint+l) (by lia) (by lia) r;have g4:∀i,U<=i->i<n->o i=false:=λi h5 h6=>by
    rcases t with t|t
    .omega
    .cases e:o i with
     |false=>rfl
     |true=>
      by_cases c:J<n-hint
      .rw[mono (hint+J) i (by omega) h6 e] at t;cases t
      .omega
   refine Ad (A6 (AO (I:=λx c sx=>sx=g/\∃lo U,c=(none,lo,U)/\lo<=U/\U<=n/\(∀i,i<lo->o i=true)/\(∀i,U<=i->i<n->o i=false)/\U-lo+x<=n)
    (Q:=λc sx=>sx=g/\∃U,c=(none,U,U)/\U<=n/\(∀i,i<U->o i=true)/\(∀i,U<=i->i<n->o i=false)) ?_ ?_ ⟨rfl,lo,U,rfl,g1,g2,g3,g4,Ir⟩) ?_)
   .rintro x c p _ hx ⟨rfl,lo,U,rfl,k1,T,k3,k4,k5⟩;by_cases c:lo>=U
    .rw[Ay c];have:lo=U:=by lia
     subst this;exact Af {(rfl),lo,rfl,T,k3,k4}
    .rw[Au c];refine Ad<|go (lo+(U-lo) / 2) (by lia) _ ?_;dsimp only;cases C:o (lo+(U-lo) / 2) with
     |true=>
      rw[Ay rfl];exact Af {rfl,lo+(U-lo) / 2+1,U,rfl,by lia,T,λi h5=>mono i _ (Iq) (by lia) C,k4,by lia}
     |false=>
      rw[Au (by simp)];refine Af {rfl,lo,lo+(U-lo) / 2,rfl,Bl _ _,by lia,k3,λi h5 h6=>?_,by omega};cases e:o i with|false=>rfl|true=>rw[mono _ i h5 h6 e] at C;cases C
   .rintro c p ⟨rfl,lo,U,rfl,k1,T,k3,k4,k5⟩;have:lo=U:=by lia
    subst this;exact{(rfl),lo,rfl,T,k3,k4}
   .rintro c p ⟨rfl,U,rfl,T,k3,k4⟩;exact Af<|q U T k3 k4
 |false=>
  rw[Au (by simp)];refine Ad (A6 (AO (I:=λx c g=>g=st/\∃l J,c=(none,l,J)/\l<J/\l<hint+1/\o (hint-l)=false/\x+1<=J)
   (Q:=λc g=>g=st/\∃l J,c=(none,l,J)/\l<J/\l<hint+1/\o (hint-l)=false/\(hint+1<=J\/o (hint-J)=true)) ?_ ?_ ⟨rfl,0,1,rfl,by lia,Cf _,hb,by lia⟩) ?_)
  .rintro x c g _ hx ⟨rfl,l,J,rfl,h1,h2,r,t⟩;by_cases c:J>=hint+1
   .rw[Ay c];exact Af {rfl,l,J,rfl,h1,h2,r,.inl c}
   .rw[Au c];refine Ad<|go (hint-J) (sv) _ ?_;dsimp only;cases C:o (hint-J) with
    |true=>
     rw[Ay rfl];exact Af {rfl,l,J,rfl,h1,h2,r,.inr C}
    |false=>
     rw[Au (by simp)];exact Af {rfl,J,2*J+1,rfl,by lia,Ip,C,by lia}
  .rintro c g ⟨rfl,l,J,rfl,h1,h2,r,t⟩;exact{rfl,l,J,rfl,h1,h2,r,.inl<|sM}
  .rintro c g ⟨rfl,l,J,rfl,h1,h2,r,t⟩;obtain⟨lo,a0⟩:∃lo,lo=hint+1-min J (hint+1):={_,rfl};obtain⟨U,a1⟩:∃U,U=hint-l:={_,rfl};rw[<-a0,<-a1];have g1:lo<=U:=by omega
   have g2:U<=n:=by omega
   have g3:∀i,i<lo->o i=true:=λi h5=>by
    rcases t with t|t
    .omega
    .exact mono i (hint-J) (by omega) (sv) t
   have g4:∀i,U<=i->i<n->o i=false:=λi h5 h6=>by cases e:o i with|false=>rfl|true=>rw[mono (hint-l) i (by lia) h6 e] at r;cases r
   refine Ad (A6 (AO (I:=λx c sx=>sx=g/\∃lo U,c=(none,lo,U)/\lo<=U/\U<=n/\(∀i,i<lo->o i=true)/\(∀i,U<=i->i<n->o i=false)/\U-lo+x<=n)
    (Q:=λc sx=>sx=g/\∃U,c=(none,U,U)/\U<=n/\(∀i,i<U->o i=true)/\(∀i,U<=i->i<n->o i=false)) ?_ ?_ ⟨rfl,lo,U,rfl,g1,g2,g3,g4,Ir⟩) ?_)
   .rintro x c p _ hx ⟨rfl,lo,U,rfl,k1,T,k3,k4,k5⟩;by_cases c:lo>=U
    .rw[Ay c];have:lo=U:=by lia
     subst this;exact Af {(rfl),lo,rfl,T,k3,k4}
    .rw[Au c];refine Ad<|go (lo+(U-lo) / 2) (by lia) _ ?_;dsimp only;cases C:o (lo+(U-lo) / 2) with
     |true=>
      rw[Ay rfl];exact Af {rfl,lo+(U-lo) / 2+1,U,rfl,by lia,T,λi h5=>mono i _ (by lia) (by lia) C,k4,by lia}
     |false=>
      rw[Au (by simp)];refine Af {rfl,lo,lo+(U-lo) / 2,rfl,by lia,by lia,k3,λi h5 h6=>?_,by lia};cases e:o i with|false=>rfl|true=>rw[mono _ i h5 h6 e] at C;cases C
   .rintro c p ⟨rfl,lo,U,rfl,k1,T,k3,k4,k5⟩;have:lo=U:=by lia
    subst this;exact{(rfl),lo,rfl,T,k3,k4}
   .rintro c p ⟨rfl,U,rfl,T,k3,k4⟩;exact Af<|q U T k3 k4
end
def Tb:Yk->Yk->StateT SortSt Sem (Yk):=sortPriv% PySem.Builtin.mergeLo
def Tc:Yk->Yk->StateT SortSt Sem (Yk):=sortPriv% PySem.Builtin.mergeHi
structure MI(f:Yl)(la lb fm ra rb:Yj):Prop where
 perm:(fm++(ra++rb)).Perm (la++lb)
 so:fm.Pairwise λx y=>f x<=f y
 sa:ra.Pairwise λx y=>f x<=f y
 sb:rb.Pairwise λx y=>f x<=f y
 oa:∀x∈fm,∀y∈ra,f x<=f y
 ob:∀x∈fm,∀y∈rb,f x<=f y
def MI.a{f:Yl}{g j fm seg l U:Yj}(h:MI f g j fm (seg++l) U)(hs:∀x∈seg,∀y∈U,f x<=f y):MI f g j (fm++seg) l U:=by
 have sa:=A3.mp h.sa;refine{?_,A3.mpr {h.so,sa.1,λx I y J=>h.oa x I y<|Am _ J},sa.2.1,h.sb,λx I y J=>?_,λx I y J=>?_}
 .have:=h.perm;rw[AC] at this ⊢;exact this
 .rcases Ag.mp I with I|I
  .exact h.oa x I y<|Ae _ J
  .exact sa.2.2 x I y J
 .rcases Ag.mp I with I|I
  .exact h.ob x I y J
  .exact hs x I y J
def MI.b{f:Yl}{l o fm seg U g:Yj}(h:MI f l o fm U<|seg++g)(hs:∀x∈seg,∀y∈U,f x<=f y):MI f l o (fm++seg) U g:=by
 have j:=A3.mp h.sb;refine{?_,A3.mpr {h.so,j.1,λx I y J=>h.ob x I y<|Am _ J},h.sa,j.2.1,λx I y J=>?_,λx I y J=>?_}
 .refine List.Perm.trans ?_ h.perm;rw[AC];exact(BL fm).mpr (by rw[<-AC,<-AC];exact(BJ g).mpr Br)
 .rcases Ag.mp I with I|I
  .exact h.oa x I y J
  .exact hs x I y J
 .rcases Ag.mp I with I|I
  .exact h.ob x I y<|Ae _ J
  .exact j.2.2 x I y J
def wn(f:Yl)(I J r:Yj):Prop:=r.Perm (I++J)/\r.Pairwise λx y=>f x<=f y
def MI.ea{f:Yl}{I J fm U:Yj}(h:MI f I J fm U []):wn f I J (fm++U):={by have:=h.perm;rwa[Aw] at this,A3.mpr {(h.so),h.sa,h.oa}}
def MI.eb{f:Yl}{g j fm J U:Yj}(h:MI f g j fm J U)(hs:∀x∈U,∀y∈J,f x<=f y):wn f g j (fm++U++J):=by
 refine{List.Perm.trans ?_ h.perm,?_}
 .rw[AC];exact(BL fm).mpr Br
 .rw[AC];refine A3.mpr {h.so,A3.mpr {(h.sb),h.sa,hs},λx l y I=>?_};rcases Ag.mp I with I|I
  .exact h.ob x l y I
  .exact h.oa x l y I
structure MP(f:Yl)(a b fm:Yk)(ia ib:Nat):Prop where
 mi:MI f a.toList b.toList fm.toList (a.toList.drop ia) (b.toList.drop ib)
 sz:fm.size=ia+ib
 la:ia<=a.size
 lb:ib<=b.size
def JT(a:Yk)(h:i<a.size):a.toList.drop i=a[i]::a.toList.drop (i+1):=by rw[B9 (by simpa using h)];simp
def iQ(a:Yk)(i j:Nat):(a.extract i j).toList=(a.toList.drop i).take (j-i):=by rw[Array.toList_extract,List.extract_eq_drop_take]
def JU(l:Yj)(i k:Nat):(l.drop i).take k++l.drop (i+k)=l.drop i:=by rw[<-List.drop_drop,Bh]
def tG{a:Yk}{k:Nat}{x:Keyed}(h:x∈(a.toList.drop i).take k):∃j,∃I:i+j<a.size,j<k/\a[i+j]=x:=by
 obtain⟨j,I,e⟩:=BS h;rw[A7,BQ] at I;have J:i+j<a.size:=by have:a.toList.length=a.size:=Be;omega
 refine{j,J,by omega,?_};rw[<-e];simp
def iB{a:Yk}{x:Keyed}(h:x∈a.toList.drop i):∃j,∃I:j<a.size,i<=j/\a[j]=x:=by
 obtain⟨j,I,e⟩:=BS h;rw[BQ] at I;have J:i+j<a.size:=by have:a.toList.length=a.size:=Be;omega
 refine{i+j,J,Bl _ _,?_};rw[<-e];simp
def q_{f:Yl}{a:Yk}(s:a.toList.Pairwise λx y=>f x<=f y)(I:i<=j)(J:j<a.size):f (a[i]'(qG))<=f a[j]:=by
 rcases DR I with h|h
 .have:=C3.mp s i j (by simpa using (qG:i<a.size)) (by simpa using J) h;simpa using this
 .subst h;exact Dg _
section
variable {f:Yl}{a b fm:Yk}{ia ib:Nat}
def MP._i(M:MP f a b fm ia ib){k:Nat}(J:ia+k<=a.size)(h:∀i (hi:ia+i<a.size),i<k->∀j (I:j<b.size),ib<=j->f a[ia+i]<=f b[j]):MP f a b (fm++a.extract ia (ia+k)) (ia+k) ib:=by
 refine{?_,?_,J,M.lb}
 .rw[Bk,iQ,show ia+k-ia=k by omega];refine MI.a (by rw[JU];exact M.mi) λx U y g=>?_;obtain⟨i,hi,l,rfl⟩:=tG U;obtain⟨j,I,o,rfl⟩:=iB g;exact h i hi l j I o
 .rw[B6,Dc,M.sz];lia
def MP._j(M:MP f a b fm ia ib){k:Nat}(J:ib+k<=b.size)(h:∀i (hi:ib+i<b.size),i<k->∀j (I:j<a.size),ia<=j->f b[ib+i]<=f a[j]):MP f a b (fm++b.extract ib (ib+k)) ia (ib+k):=by
 refine{?_,?_,M.la,J}
 .rw[Bk,iQ,show ib+k-ib=k by lia];refine MI.b (by rw[JU];exact M.mi) λx U y g=>?_;obtain⟨i,hi,l,rfl⟩:=tG U;obtain⟨j,I,o,rfl⟩:=iB g;exact h i hi l j I o
 .rw[B6,Dc,M.sz];lia
def MP.ZK(M:MP f a b fm ia ib)(hi:ia<a.size)(h:∀j (I:j<b.size),ib<=j->f a[ia]<=f b[j]):MP f a b (fm.push a[ia]) (ia+1) ib:=by refine{?_,by rw[Bx,M.sz];simp +arith only,hi,M.lb};rw[Do];refine MI.a (seg:=[a[ia]]) (by rw[Cp,<-JT a hi];exact M.mi) λx J y U=>?_;obtain⟨j,I,g,rfl⟩:=iB U;rw[Aj.mp J];exact h j I g
def MP.ZL(M:MP f a b fm ia ib)(hi:ib<b.size)(h:∀j (I:j<a.size),ia<=j->f b[ib]<=f a[j]):MP f a b (fm.push b[ib]) ia (ib+1):=by refine{?_,by rw[Bx,M.sz];exact Nat.add_assoc _ _ _,M.la,hi};rw[Do];refine MI.b (seg:=[b[ib]]) (by rw[Cp,<-JT b hi];exact M.mi) λx J y U=>?_;obtain⟨j,I,g,rfl⟩:=iB U;rw[Aj.mp J];exact h j I g
def MP.done(M:MP f a b fm ia ib)(h:ib=b.size):wn f a.toList b.toList (fm++a.extract ia++b.extract ib).toList:=by have e:b.toList.drop ib=[]:=List.drop_eq_nil_of_le (by rw[Be];lia);have m:=M.mi;rw[e] at m;have:=m.ea;rw[Bk,Bk,iQ,iQ,e,List.take_nil,Aw,AU (by simp)];exact this
def MP.last(M:MP f a b fm ia ib)(h:ia+1=a.size)(I:∀x∈b.toList,f x<f (a[a.size-1]'(by omega))):wn f a.toList b.toList (fm++b.extract ib++a.extract ia).toList:=by
 have:=M.mi.eb λx J y U=>by
  obtain⟨j,g,l,rfl⟩:=iB U;have e:j=a.size-1:=by omega
  subst e;exact BX<|I x<|CW J
 rw[Bk,Bk,iQ,iQ,AU (by simp),AU (by simp)];exact this
end
section
variable {w:X7}{κ:SortKind}{Ok:Keyed->Prop}{f:Yl}
abbrev jA(st:SortSt)(g:Nat):SortSt:=SortSt.mk' (kindOf st) (arrOf st) (pendingOf st) g<|failedOf st
def xF{c:Prop}{_:Decidable c}{K:β->StateT SortSt Sem α}{y:β}{Q:α->SortSt->Prop}{st:SortSt}(key:∀z,wpS (model prog w) A E s (K z) Q st):∀x,wpS (model prog w) A E s (if c then K x else K y) Q st:=λx=>by
 by_cases h:c
 .rw[Ay h];exact key x
 .rw[Au h];exact key y
def mQ{I:Type}{c:Prop}{_:Decidable c}{K T:β->I->StateT SortSt Sem α}{P:β->I->Prop}{x:β}{i:I}{Q:α->SortSt->Prop}{st:SortSt}(key:∀o j,P o j->wpS (model prog w) A E s (K o j) Q st)(J:¬c->P x i)
 (hp:c->(∀o j,P o j->wpS (model prog w) A E s (K o j) Q st)->wpS (model prog w) A E s (T x i) Q st):∀o,x=o->∀j,i=j->wpS (model prog w) A E s (if c then T o j else K o j) Q st:=by
 rintro _ rfl _ rfl;by_cases h:c
 .rw[Ay h];exact hp h key
 .rw[Au h];exact key x i<|J h
def xz{c:Prop} [Decidable c]{x y:StateT SortSt Sem α}{Q:α->SortSt->Prop}{st:SortSt}(h:c)(k:wpS M A E s x Q st):wpS M A E s (if c then x else y) Q st:=by rw[Ay h];exact k
def xi{c:Prop} [Decidable c]{x y:StateT SortSt Sem α}{Q:α->SortSt->Prop}{st:SortSt}(h:¬c)(k:wpS M A E s y Q st):wpS M A E s (if c then x else y) Q st:=by rw[Au h];exact k
def fU{c:Prop} [Decidable c]{x y:StateT SortSt Sem α}{Q:α->SortSt->Prop}{st:SortSt}(h:c->wpS M A E s x Q st)(k:¬c->wpS M A E s y Q st):wpS M A E s (if c then x else y) Q st:=by
 by_cases d:c
 .rw[Ay d];exact h d
 .rw[Au d];exact k d
def yu{a:Yk}(ok:∀x∈a.toList,Ok x)(sa:a.toList.Pairwise λx y=>f x<=f y)(d:Keyed):∃t:Nat->Keyed,(∀i (hi:i<a.size),t i=a[i])/\(∀i,i<a.size->a[i]?=some (t i))/\(∀i,i<a.size->Ok (t i))/\∀{i j},i<=j->j<a.size->f (t i)<=f (t j):=by
 have e:∀i (hi:i<a.size),(a[i]?).getD d=a[i]:=λi hi=>by simp[hi]
 exact{λi=>(a[i]?).getD d,e,λi hi=>by simp[hi],λi hi=>by show Ok ((a[i]?).getD d);rw[e i hi];exact ok _ (by simp),λ{i j} I J=>by show f ((a[i]?).getD d)<=f ((a[j]?).getD d);rw[e i<|qG,e j J];exact q_ sa I J}
theorem Td(O:Ord prog w A s κ Ok f){a b:Yk}{st:SortSt}{Q:Yk->SortSt->Prop}(hk:kindOf st=κ)(bh:∀x∈a.toList,Ok x)(bi:∀x∈b.toList,Ok x)
 (sa:a.toList.Pairwise λx y=>f x<=f y) (sb:b.toList.Pairwise λx y=>f x<=f y) (ha:0<a.size) (hb:0<b.size) (h0:∀x∈a.toList,f b[0]<f x) (hl:∀x∈b.toList,f x<f a[a.size-1])
 (q:∀r g,wn f a.toList b.toList r.toList->Q r (jA st g)):wpS (model prog w) A E s (Tb a b) Q st:=by
 refine Ad<|wpS_lift<|BH {rfl,?_};refine Ad<|xt (x:=b[0]) (by simp[hb]) ?_;have M0:MP f a b #[b[0]] 0 1:=by have M:MP f a b #[] 0 0:={{by simp,by simp,by simpa using sa,by simpa using sb,by simp,by simp},rfl,Bf _,Bf _};have:=M.ZL hb λj hj _=>BX<|h0 a[j] (by simp);simpa using this
 by_cases c1:(1==b.size)=true
 .refine xz c1 ?_;exact Af<|q _ (gallopOf st)<|M0.done (by simpa using c1)
 refine xi c1 ?_;by_cases c2:(0+1==a.size)=true
 .refine xz c2 ?_;exact Af<|q _ (gallopOf st)<|M0.last (by simpa using c2) hl
 refine xi c2 ?_;have c1:¬1=b.size:=by simpa using c1
 have c2:¬1=a.size:=by simpa using c2
 refine Ad<|wpS_get ?_;have bj:∀i (hi:i<a.size),Ok a[i]:=λi hi=>bh _ (by simp);have bm:∀i (hi:i<b.size),Ok b[i]:=λi hi=>bi _ (by simp);have a5:∀i (hi:i<a.size),a[i]?=some a[i]:=λi hi=>by simp[hi]
 have ab:∀i (hi:i<b.size),b[i]?=some b[i]:=λi hi=>by simp[hi]
 obtain⟨tA,bb,c5,c6,c7⟩:=yu (f:=f) bh sa b[0];obtain⟨tB,bS,c8,c9,ca⟩:=yu (f:=f) bi sb b[0];refine Ad (A6 (AO (I:=λx c p=>(∃g,p=jA st g)/\∃a2 l U mg,c=(none,a2,l,U,mg)/\MP f a b a2 l U/\l+1<a.size/\U<b.size/\x+1<=a2.size)
  (Q:=λc p=>(∃g,p=jA st g)/\∃r,c.1=some r/\wn f a.toList b.toList r.toList) ?_ ?_ ⟨⟨gallopOf st,rfl⟩,_,_,_,_,rfl,M0,Ed,Ed,by simp⟩) ?_)
 .rintro x c p _ hx ⟨⟨g,rfl⟩,a2,l,U,mg,rfl,M,T,t,hs⟩;refine Ad (A6 (AO (I:=λy c p=>p=jA st g/\∃J l U ac bc,c=(none,J,l,U,ac,bc)/\MP f a b J l U/\l+1<a.size/\U<b.size/\a2.size+y<=J.size)
   (Q:=λc p=>p=jA st g/\((∃r,c.1=some r/\wn f a.toList b.toList r.toList)\/∃J l U ac bc,c=(none,J,l,U,ac,bc)/\MP f a b J l U/\l+1<a.size/\U<b.size/\a2.size+1<=J.size)) ?_ ?_ ⟨rfl,_,_,_,_,_,rfl,M,T,t,Ap _⟩) ?_)
  .rintro y c p _ hy ⟨rfl,J,l,U,ac,bc,rfl,M,T,t,c0⟩;have al:l<a.size:=jM;refine Ad<|xt (ab U t) ?_;refine Ad<|xt (a5 l al) ?_;refine Ad<|w_lt O hk (bm U t) (bj l al) ?_;by_cases c:f b[U]<f a[l]
   .refine xz (AA c) ?_;refine Ad<|xt (ab U t) ?_;have M':=M.ZL t λj hj a0=>BX<|Int.lt_of_lt_of_le c<|q_ sa a0 hj;have s2:(J.push b[U]).size=J.size+1:=Bx _;by_cases e1:(U+1==b.size)=true
    .refine xz e1 ?_;exact Af {rfl,.inl {_,rfl,M'.done (by simpa using e1)}}
    .refine xi e1 ?_;have e1:¬U+1=b.size:=by simpa using e1
     refine fU (λ_=>?_) λ_=>?_
     .exact Af {rfl,.inr {_,_,_,_,_,rfl,M',T,Ed,by lia}}
     .exact Af {rfl,_,_,_,_,_,rfl,M',T,by lia,by lia}
   .refine xi (by rw[AB c];decide) ?_;refine Ad<|xt (a5 l al) ?_;have M':=M.ZK (by lia) λj hj a0=>B1 (by omega)<|q_ sb a0 hj;have s2:(J.push a[l]).size=J.size+1:=Bx _;by_cases e1:(l+1+1==a.size)=true
    .refine xz e1 ?_;exact Af {rfl,.inl {_,rfl,M'.last (by simpa using e1) hl}}
    .refine xi e1 ?_;have e1:¬l+1+1=a.size:=by simpa using e1
     refine fU (λ_=>?_) λ_=>?_
     .exact Af {rfl,.inr {_,_,_,_,_,rfl,M',Ed,t,by lia}}
     .exact Af {rfl,_,_,_,_,_,rfl,M',by lia,t,by lia}
  .rintro c p ⟨rfl,J,l,U,ac,bc,rfl,M,T,t,c0⟩;have:=M.sz;omega
  .rintro c p ⟨rfl,h⟩;rcases h with⟨r,er,hr⟩|⟨ax,l,U,ac,bc,rfl,M,T,t,c0⟩
   .obtain⟨c1,c2⟩:=c;cases er;exact Af {{(g),rfl},r,rfl,hr}
   .dsimp only;refine Ad<|wpS_lift<|BH {rfl,?_};refine Ad (A6 (AO (I:=λy c p=>(∃g,p=jA st g)/\∃J l U mg ac bc,c=(none,J,l,U,mg,ac,bc)/\MP f a b J l U/\l+1<a.size/\U<b.size/\ax.size+y<=J.size)
     (Q:=λc p=>(∃g,p=jA st g)/\((∃r,c.1=some r/\wn f a.toList b.toList r.toList)\/∃J l U mg ac bc,c=(none,J,l,U,mg,ac,bc)/\MP f a b J l U/\l+1<a.size/\U<b.size/\ax.size<=J.size)) ?_ ?_ ⟨⟨g,rfl⟩,_,_,_,_,_,_,rfl,M,T,t,Ap _⟩) ?_)
    .rintro y c p _ hy ⟨⟨g',rfl⟩,J,l,U,bd,ac,bc,rfl,M,T,t,aL⟩;have al:l<a.size:=jM;generalize bd-1=cb;revert cb;refine xF (y:=bd) λcc=>?_
     all_goals
      refine Ad<|wpS_modify ?_;refine Ad<|xt (ab U t) ?_;refine Ad<|cO O hk (bm U t) (by lia) (λi=>tA<|l+i) (λi hi=>{c5 _ (by lia),c6 _ (by lia)}) (λi=>!decide (f b[U]<f (tA<|l+i))) (λi hi=>by rw[Au (by simp)]) (λi j a0 hj h=>?_) λk cm au be=>?_
      .have:=c7 (i:=l+i) (j:=l+j) (by lia) (by lia);simp at h ⊢;lia
      have au:∀i,i<k->f (tA<|l+i)<=f b[U]:=λi hi=>by have:=au i hi;simpa using this
      have be:∀i,k<=i->i<a.size-l->f b[U]<f (tA<|l+i):=λi hi hj=>by have:=be i hi hj;simpa using this
      have kl:k<a.size-l:=by
       rcases DR cm with h|h
       .exact h
       .exfalso;have h1:=au (a.size-1-l) (by lia);have h2:=hl b[U] (by simp);rw[show l+(a.size-1-l)=a.size-1 by lia,bb _<|D_] at h1;omega
      have M1:MP f a b (J++a.extract l (l+k)) (l+k) U:=M._i (by lia) λi hi bf j hj a0=>by have h1:=au i bf;rw[bb _ hi] at h1;exact B1 h1<|q_ sb a0 hj
      have pB:∀j (hj:j<a.size),l+k<=j->f b[U]<=f a[j]:=λj hj a0=>by have h1:=be (j-l) (by lia) (by lia);rw[show l+(j-l)=j by lia,bb _ hj] at h1;lia
      dsimp only;generalize cn:J=o0;generalize cq:l=j0;revert j0;revert o0;refine mQ (P:=λ(o:Yk) (j:Nat)=>MP f a b o j U/\J.size<=o.size/\j+1<a.size/\∀j' (hj:j'<a.size),j<=j'->f b[U]<=f a[j']) (x:=J) (i:=l) (λa1 C hP=>?tail) (λck=>?hN) λck key=>?hY
      case hN=>
       obtain rfl:k=0:=by lia
       exact{M,Ap _,T,λj hj a0=>pB j hj (by lia)}
      case hY=>
       by_cases e1:(l+k+1==a.size)=true
       .refine xz e1 ?_;exact Af {{_,rfl},.inl {_,rfl,M1.last (by simpa using e1) hl}}
       .refine xi e1 (xi (show ¬(l+k==a.size)=true by simp;lia) ?_);have e1:¬l+k+1=a.size:=by simpa using e1
        exact key _ _ {M1,by rw[B6];exact Bl _ _,by lia,pB}
      obtain⟨M1,h3,l3,pB⟩:=hP;have bg:C<a.size:=jM
      all_goals
       refine Ad<|xt (ab U t) ?_;have M2:=M1.ZL t pB;have s2:(a1.push b[U]).size=a1.size+1:=Bx _;by_cases e2:(U+1==b.size)=true
       case' pos=>
        refine xz e2 ?_;exact Af {{_,rfl},.inl {_,rfl,M2.done (by simpa using e2)}}
       case' neg=>
        refine xi e2 ?_;have e2:¬U+1=b.size:=by simpa using e2
        refine Ad<|xt (a5 C bg) ?_;refine Ad<|cO O hk (bj C bg) (by lia) (λi=>tB<|U+1+i) (λi hi=>{c8 _ (by omega),c9 _ (by lia)}) (λi=>decide<|f (tB<|U+1+i)<f a[C]) (λi hi=>by rw[Ay rfl]) (λi j a0 hj h=>?_) λk2 cv a3 a4=>?_
        .have:=ca (i:=U+1+i) (j:=U+1+j) (by lia) (by omega);simp at h ⊢;lia
        have a3:∀i,i<k2->f (tB<|U+1+i)<f a[C]:=λi hi=>by have:=a3 i hi;simpa using this
        have a4:∀i,k2<=i->i<b.size-(U+1)->f a[C]<=f (tB<|U+1+i):=λi hi hj=>by have:=a4 i hi hj;simpa using this
        have M3:MP f a b (a1.push b[U]++b.extract (U+1) (U+1+k2)) C (U+1+k2):=M2._j (by omega) λi hi bf j hj a0=>by have h1:=a3 i bf;rw[bS _ hi] at h1;exact B1 (BX h1)<|q_ sa a0 hj
        have pA:∀j (hj:j<b.size),U+1+k2<=j->f a[C]<=f b[j]:=λj hj a0=>by have h1:=a4 (j-(U+1)) (by lia) (by omega);rw[show U+1+(j-(U+1))=j by lia,bS _ hj] at h1;exact h1
        obtain⟨o3,c3⟩:∃o,o=a1.push b[U]:={_,rfl};obtain⟨av,c4⟩:∃i,i=U+1:={_,rfl};rw[<-c3] at s2;rw[<-c3,<-c4] at M2 M3 ⊢;rw[<-c4] at pA cv;generalize cn:o3=o0;generalize cq:av=j0;revert j0;revert o0;refine mQ (P:=λ(o:Yk) (j:Nat)=>MP f a b o C j/\a1.size+1<=o.size/\j<b.size/\∀j' (hj:j'<b.size),j<=j'->f a[C]<=f b[j']) (x:=o3) (i:=av) (λba cx hP=>?tail2) (λck=>?hN) λck key=>?hY
        case hN=>
         obtain rfl:k2=0:=by lia
         exact{M2,by lia,by lia,λj hj a0=>pA j hj (by lia)}
        case hY=>
         by_cases e3:(av+k2==b.size)=true
         .refine xz e3 ?_;exact Af {{_,rfl},.inl {_,rfl,M3.done (by simpa using e3)}}
         .refine xi e3 ?_;have e3:¬av+k2=b.size:=by simpa using e3
          exact key _ _ {M3,by rw[B6];lia,by lia,pA}
        obtain⟨M3,h4,l4,pA⟩:=hP
        all_goals
         refine Ad<|xt (a5 C bg) ?_;have M4:=M3.ZK (by lia) pA;have s4:(ba.push a[C]).size=ba.size+1:=Bx _;by_cases e4:(C+1+1==a.size)=true
         .refine xz e4 ?_;exact Af {{_,rfl},.inl {_,rfl,M4.last (by simpa using e4) hl}}
         .refine xi e4 ?_;have e4:¬C+1+1=a.size:=by simpa using e4
          refine fU (λ_=>?_) λ_=>?_
          .exact Af {{_,rfl},.inr {_,_,_,_,_,_,rfl,M4,Ed,l4,by lia}}
          .exact Af {{_,rfl},_,_,_,_,_,_,rfl,M4,by lia,l4,by lia}
    .rintro c p ⟨⟨g',rfl⟩,J,l,U,bd,ac,bc,rfl,M,T,t,aL⟩;have:=M.sz;omega
    .rintro c p ⟨⟨g',rfl⟩,h⟩;rcases h with⟨r,er,hr⟩|⟨cw,l,U,cc,ac,bc,rfl,M,T,t,aL⟩
     .obtain⟨c1,c2⟩:=c;cases er;exact Af {{(g'),rfl},r,rfl,hr}
     .dsimp only;refine Ad<|wpS_modify ?_;exact Af {{_,rfl},_,_,_,_,rfl,M,T,t,by lia}
 .rintro c p ⟨⟨g,rfl⟩,a2,l,U,mg,rfl,M,T,t,hs⟩;have:=M.sz;lia
 .rintro c p ⟨⟨g,rfl⟩,r,er,hr⟩;obtain⟨c1,c2⟩:=c;cases er;exact Af<|q r g hr
end
structure MH(f:Yl)(la lb ra rb o:Yj):Prop where
 perm:(ra++rb++o).Perm (la++lb)
 so:o.Pairwise λx y=>f x<=f y
 sa:ra.Pairwise λx y=>f x<=f y
 sb:rb.Pairwise λx y=>f x<=f y
 oa:∀x∈ra,∀y∈o,f x<=f y
 ob:∀x∈rb,∀y∈o,f x<=f y
def MH.a{f:Yl}{j l o seg U g:Yj}(h:MH f j l (U++seg) g o)(hs:∀x∈g,∀y∈seg,f x<=f y):MH f j l U g (seg++o):=by
 have sa:=A3.mp h.sa;refine{List.Perm.trans ?_ h.perm,A3.mpr {sa.2.1,h.so,λx J y I=>h.oa x (Ae _ J) y I},sa.1,h.sb,λx J y I=>?_,λx J y I=>?_}
 .rw[<-AC];refine(BJ o).mpr ?_;rw[AC,AC];exact(BL U).mpr Br
 .rcases Ag.mp I with I|I
  .exact sa.2.2 x J y I
  .exact h.oa x (Am _ J) y I
 .rcases Ag.mp I with I|I
  .exact hs x J y I
  .exact h.ob x J y I
def MH.b{f:Yl}{l p o seg U g:Yj}(h:MH f l p U (g++seg) o)(hs:∀x∈U,∀y∈seg,f x<=f y):MH f l p U g (seg++o):=by
 have j:=A3.mp h.sb;refine{?_,A3.mpr {j.2.1,h.so,λx J y I=>h.ob x (Ae _ J) y I},h.sa,j.1,λx J y I=>?_,λx J y I=>?_}
 .have:=h.perm;rw[<-AC,AC U g seg];exact this
 .rcases Ag.mp I with I|I
  .exact hs x J y I
  .exact h.oa x J y I
 .rcases Ag.mp I with I|I
  .exact j.2.2 x J y I
  .exact h.ob x (Am _ J) y I
def MH.ea{f:Yl}{I J o U:Yj}(h:MH f I J [] U o):wn f I J (U++o):={by have:=h.perm;rwa[CO] at this,A3.mpr {(h.sb),h.so,h.ob}}
def MH.eb{f:Yl}{g j o J U:Yj}(h:MH f g j J U o)(hs:∀x∈U,∀y∈J,f x<=f y):wn f g j (U++J++o):=by
 refine{List.Perm.trans ?_ h.perm,?_}
 .exact(BJ o).mpr Br
 .refine A3.mpr {A3.mpr {(h.sb),h.sa,hs},h.so,λx I y l=>?_};rcases Ag.mp I with I|I
  .exact h.ob x I y l
  .exact h.oa x I y l
structure HP(f:Yl)(a b fm:Yk)(na nb:Nat):Prop where
 mi:MH f a.toList b.toList (a.toList.take na) (b.toList.take nb) fm.toList.reverse
 sz:fm.size+na+nb=a.size+b.size
 la:na<=a.size
 lb:nb<=b.size
def JV(a:Yk)(h:i<a.size):a.toList.take (i+1)=a.toList.take i++[a[i]]:=by rw[Bm];simp[h]
def jB{a:Yk}{x:Keyed}(h:x∈a.toList.take i):∃j,∃I:j<a.size,j<i/\a[j]=x:=by
 obtain⟨j,I,e⟩:=BS h;rw[A7] at I;have J:j<a.size:=by have:a.toList.length=a.size:=Be;omega
 refine{j,J,by omega,?_};rw[<-e];simp
def F2(l:Yj){k:Nat}(h:i<=k):l.take i++(l.drop i).take (k-i)=l.take k:=by have:=List.take_add (l:=l) (i:=i) (j:=k-i);rw[show i+(k-i)=k by omega] at this;exact this.symm
section
variable {f:Yl}{a b fm:Yk}{na nb:Nat}
def HP._i(M:HP f a b fm na nb){k:Nat}(J:k<=na)(h:∀i (hi:i<a.size),k<=i->i<na->∀j (I:j<b.size),j<nb->f b[j]<=f a[i]):HP f a b (fm++(a.extract k na).reverse) k nb:=by
 have o:=M.la;refine{?_,?_,GD,M.lb}
 .rw[Bk,C5,CY,List.reverse_reverse,iQ];refine MH.a (by rw[F2 _ J];exact M.mi) λx U y g=>?_;obtain⟨j,I,l,rfl⟩:=jB U;obtain⟨i,hi,p,rfl⟩:=tG g;exact h (k+i) hi (Bl _ _) (by lia) j I l
 .have:=M.sz;rw[B6,Array.size_reverse,Dc];lia
def HP._j(M:HP f a b fm na nb){k:Nat}(J:k<=nb)(h:∀i (hi:i<b.size),k<=i->i<nb->∀j (I:j<a.size),j<na->f a[j]<=f b[i]):HP f a b (fm++(b.extract k nb).reverse) na k:=by
 have o:=M.lb;refine{?_,?_,M.la,by lia}
 .rw[Bk,C5,CY,List.reverse_reverse,iQ];refine MH.b (by rw[F2 _ J];exact M.mi) λx U y g=>?_;obtain⟨j,I,l,rfl⟩:=jB U;obtain⟨i,hi,p,rfl⟩:=tG g;exact h (k+i) hi (by lia) (by lia) j I l
 .have:=M.sz;rw[B6,Array.size_reverse,Dc];lia
def HP.ZK(M:HP f a b fm (na+1) nb)(hi:na<a.size)(h:∀j (I:j<b.size),j<nb->f b[j]<=f a[na]):HP f a b (fm.push a[na]) na nb:=by refine{?_,by have:=M.sz;rw[Bx];lia,jM,M.lb};rw[Do,C5];refine MH.a (seg:=[a[na]]) (by rw[<-JV a hi];exact M.mi) λx J y U=>?_;obtain⟨j,I,g,rfl⟩:=jB J;rw[Aj.mp U];exact h j I g
def HP.ZL(M:HP f a b fm na<|nb+1)(hi:nb<b.size)(h:∀j (I:j<a.size),j<na->f a[j]<=f b[nb]):HP f a b (fm.push b[nb]) na nb:=by refine{?_,by have:=M.sz;rw[Bx];lia,M.la,by lia};rw[Do,C5];refine MH.b (seg:=[b[nb]]) (by rw[<-JV b hi];exact M.mi) λx J y U=>?_;obtain⟨j,I,g,rfl⟩:=jB J;rw[Aj.mp U];exact h j I g
def HP.done(M:HP f a b fm na nb)(h:na=0):wn f a.toList b.toList (a.extract 0 na++b.extract 0 nb++fm.reverse).toList:=by subst h;have:=M.mi;rw[List.take_zero] at this;have:=this.ea;rw[Bk,Bk,iQ,iQ,CY];simpa using this
def HP.last(M:HP f a b fm na nb)(h:nb=1)(g:0<b.size)(I:∀x∈a.toList,f b[0]<f x):wn f a.toList b.toList (b.extract 0 nb++a.extract 0 na++fm.reverse).toList:=by
 have:=M.mi.eb λx J y U=>by
  obtain⟨j,l,o,rfl⟩:=jB J;have e:j=0:=by lia
  subst e;exact BX<|I y<|BK U
 rw[Bk,Bk,iQ,iQ,CY];simpa using this
end
def HP._E{f:Yl}{a b fm:Yk}{na nb:Nat}(M:HP f a b fm na nb)(I:0<na)(h:∀j (J:j<b.size),j<nb->f b[j]<=f (a[na-1]'(by have:=M.la;omega))):HP f a b (fm.push (a[na-1]'(by have:=M.la;omega))) (na-1) nb:=by obtain⟨n,rfl⟩:∃n,na=n+1:={na-1,by lia};have U:=M.la;exact HP.ZK M (by assumption) h
def HP._F{f:Yl}{a b fm:Yk}{na nb:Nat}(M:HP f a b fm na nb)(I:0<nb)(h:∀j (J:j<a.size),j<na->f a[j]<=f (b[nb-1]'(by have:=M.lb;omega))):HP f a b (fm.push (b[nb-1]'(by have:=M.lb;lia))) na (nb-1):=by obtain⟨n,rfl⟩:∃n,nb=n+1:={nb-1,by lia};have U:=M.lb;exact HP.ZL M (by lia) h
section
variable {w:X7}{κ:SortKind}{Ok:Keyed->Prop}{f:Yl}
theorem Te(O:Ord prog w A s κ Ok f){a b:Yk}{st:SortSt}{Q:Yk->SortSt->Prop}(hk:kindOf st=κ)(bi:∀x∈a.toList,Ok x)(bj:∀x∈b.toList,Ok x)
 (sa:a.toList.Pairwise λx y=>f x<=f y) (sb:b.toList.Pairwise λx y=>f x<=f y) (ha:0<a.size) (hb:0<b.size) (h0:∀x∈a.toList,f b[0]<f x) (hl:∀x∈b.toList,f x<f a[a.size-1])
 (q:∀r g,wn f a.toList b.toList r.toList->Q r (jA st g)):wpS (model prog w) A E s (Tc a b) Q st:=by
 have bm:∀i (l:i<a.size),Ok a[i]:=λi l=>bi _ (by simp);have bS:∀i (l:i<b.size),Ok b[i]:=λi l=>bj _ (by simp);have a5:∀i (l:i<a.size),a[i]?=some a[i]:=λi l=>by simp[l]
 have al:∀i (l:i<b.size),b[i]?=some b[i]:=λi l=>by simp[l]
 obtain⟨tA,c0,be,c6,c7⟩:=yu (f:=f) bi sa b[0];obtain⟨tB,bf,bg,c8,c9⟩:=yu (f:=f) bj sb b[0];have be:∀i,i<a.size->a[0+i]?=some (tA i):=λi l=>by rw[C1];exact be i l
 have bg:∀i,i<b.size->b[0+i]?=some (tB i):=λi l=>by rw[C1];exact bg i l
 refine Ad<|wpS_lift<|BH {rfl,?_};refine Ad<|xt (x:=a[a.size-1]) (a5 _ (by exact D_)) ?_;dsimp only;obtain⟨n0,cP⟩:∃n,a.size=n+1:={a.size-1,by lia};have M0:HP f a b #[a[a.size-1]] (a.size-1) b.size:=by
  have M:HP f a b #[] (a.size-1+1) b.size:=by
   refine{{?_,by simp,?_,?_,by simp,by simp},by simp;lia,by exact D_,Ap _}
   .rw[AU (by simp;lia),AU (by simp)];simp
   .rw[AU (by simp;lia)];exact sa
   .rw[AU (by simp)];exact sb
  have:=M.ZK (by lia) λj hj _=>BX<|hl b[j] (by simp);simpa using this
 by_cases c1:(a.size-1==0)=true
 .refine xz c1 ?_;exact Af<|q _ (gallopOf st)<|M0.done (by simpa using c1)
 refine xi c1 ?_;by_cases c2:(b.size==1)=true
 .refine xz c2 ?_;exact Af<|q _ (gallopOf st)<|M0.last (by simpa using c2) hb h0
 refine xi c2 ?_;have c1:¬a.size-1=0:=by simpa using c1
 have c2:¬b.size=1:=by simpa using c2
 refine Ad<|wpS_get ?_;refine Ad (A6 (AO (I:=λx c U=>(∃g,U=jA st g)/\∃na nb a3 mg,c=(none,na,nb,a3,mg)/\HP f a b a3 na nb/\0<na/\1<nb/\x+1<=a3.size)
  (Q:=λc U=>(∃g,U=jA st g)/\∃r,c.1=some r/\wn f a.toList b.toList r.toList) ?_ ?_ ⟨⟨gallopOf st,rfl⟩,_,_,_,_,rfl,M0,by exact Fl,by lia,by simp⟩) ?_)
 .rintro x c U _ hx ⟨⟨g,rfl⟩,na,nb,a3,mg,rfl,M,p,T,hs⟩;dsimp only;refine Ad (A6 (AO (I:=λy c U=>U=jA st g/\∃na nb J ac bc,c=(none,na,nb,J,ac,bc)/\HP f a b J na nb/\0<na/\1<nb/\a3.size+y<=J.size)
   (Q:=λc U=>U=jA st g/\((∃r,c.1=some r/\wn f a.toList b.toList r.toList)\/∃na nb J ac bc,c=(none,na,nb,J,ac,bc)/\HP f a b J na nb/\0<na/\1<nb/\a3.size+1<=J.size)) ?_ ?_ ⟨rfl,_,_,_,_,_,rfl,M,p,T,Ap _⟩) ?_)
  .rintro y c U _ hy ⟨rfl,na,nb,J,ac,bc,rfl,M,p,T,c3⟩;have ca:=M.la;have cb:=M.lb;have a0:nb-1<b.size:=by omega
   have ab:na-1<a.size:=by lia
   dsimp only;refine Ad<|xt (al (nb-1) a0) ?_;refine Ad<|xt (a5 (na-1) ab) ?_;refine Ad<|w_lt O hk (bS (nb-1) a0) (bm (na-1) ab) ?_;dsimp only;by_cases c:f b[nb-1]<f a[na-1]
   .refine xz (AA c) ?_;refine Ad<|xt (a5 (na-1) ab) ?_;have M':=M._E p λj hj t=>BX<|Int.lt_of_le_of_lt (q_ sb (i:=j) (j:=nb-1) (CZ t) a0) c;have s2:(J.push a[na-1]).size=J.size+1:=Bx _;by_cases e1:(na-1==0)=true
    .refine xz e1 ?_;exact Af {rfl,.inl {_,rfl,M'.done (by simpa using e1)}}
    .refine xi e1 ?_;have e1:¬na-1=0:=by simpa using e1
     refine fU (λ_=>?_) λ_=>?_
     .exact Af {rfl,.inr {_,_,_,_,_,rfl,M',by exact Fl,T,by lia}}
     .exact Af {rfl,_,_,_,_,_,rfl,M',by lia,T,by lia}
   .refine xi (by rw[AB c];decide) ?_;refine Ad<|xt (al (nb-1) a0) ?_;have M':=M._F (by exact jM) λj hj t=>B1 (q_ sa (i:=j) (j:=na-1) (CZ t) ab) (by omega);have s2:(J.push b[nb-1]).size=J.size+1:=Bx _;by_cases e1:(nb-1==1)=true
    .refine xz e1 ?_;exact Af {rfl,.inl {_,rfl,M'.last (by simpa using e1) hb h0}}
    .refine xi e1 ?_;have e1:¬nb-1=1:=by simpa using e1
     refine fU (λ_=>?_) λ_=>?_
     .exact Af {rfl,.inr {_,_,_,_,_,rfl,M',p,by lia,by lia}}
     .exact Af {rfl,_,_,_,_,_,rfl,M',p,by lia,by lia}
  .rintro c U ⟨rfl,na,nb,J,ac,bc,rfl,M,p,T,c3⟩;have:=M.sz;omega
  .rintro c U ⟨rfl,h⟩;rcases h with⟨r,er,hr⟩|⟨na,nb,ba,ac,bc,rfl,M,p,T,c3⟩
   .obtain⟨c1,c2⟩:=c;cases er;exact Af {{(g),rfl},r,rfl,hr}
   .dsimp only;refine Ad<|wpS_lift<|BH {rfl,?_};refine Ad (A6 (AO (I:=λy c U=>(∃g,U=jA st g)/\∃na nb J mg ac bc,c=(none,na,nb,J,mg,ac,bc)/\HP f a b J na nb/\0<na/\1<nb/\ba.size+y<=J.size)
     (Q:=λc U=>(∃g,U=jA st g)/\((∃r,c.1=some r/\wn f a.toList b.toList r.toList)\/∃na nb J mg ac bc,c=(none,na,nb,J,mg,ac,bc)/\HP f a b J na nb/\0<na/\1<nb/\ba.size<=J.size)) ?_ ?_ ⟨⟨g,rfl⟩,_,_,_,_,_,_,rfl,M,p,T,Ap _⟩) ?_)
    .rintro y c U _ hy ⟨⟨g',rfl⟩,na,nb,J,bh,ac,bc,rfl,M,p,T,bb⟩;have ca:=M.la;have cb:=M.lb;have a0:nb-1<b.size:=by omega
     have ab:na-1<a.size:=by lia
     dsimp only;generalize bh-1=cc;revert cc;refine xF (y:=bh) λcm=>?_
     all_goals
      refine Ad<|wpS_modify ?_;refine Ad<|xt (al (nb-1) a0) ?_;refine Ad<|cO O hk (bS (nb-1) a0) (by exact D_) tA (λi l=>{be _ (by exact Fi),c6 _ (by lia)}) (λi=>!decide (f b[nb-1]<f (tA i))) (λi l=>by rw[Au (by simp)]) (λi j t hj h=>?_) λk cq au av=>?_
      .have:=c7 (i:=i) (j:=j) (by lia) (by exact Fi);simp at h ⊢;lia
      have au:=λi l=>by have:=au i l;simpa using this
      have av:=λi l hj=>by have:=av i l hj;simpa using this
      have M1:=M._i cq λi l h1 h2 j hj t=>by have h3:=av i h1 h2;rw[c0 _ l] at h3;exact B1 (q_ sb (i:=j) (j:=nb-1) (CZ t) a0)<|BX h3
      have pB:=λj hj t=>by have h1:=au j t;rw[c0 _ hj] at h1;exact h1
      dsimp only;generalize d0:na-k=cn;generalize cv:J=o0;generalize cw:na=j0;revert j0;revert o0;refine mQ (P:=λ(o:Yk) (j:Nat)=>HP f a b o j nb/\J.size<=o.size/\0<j/\∀j' (hj:j'<a.size),j'<j->f a[j']<=f b[nb-1]) (x:=J) (i:=na) (λa1 C hP=>?tail) (λck=>?hN) λck key=>?hY
      case hN=>
       obtain rfl:k=na:=by lia
       exact{M,Ap _,by lia,pB}
      case hY=>
       by_cases e1:(k==0)=true
       .refine xz e1 ?_;exact Af {{_,rfl},.inl {_,rfl,M1.done (by simpa using e1)}}
       .refine xi e1 ?_;have e1:¬k=0:=by simpa using e1
        exact key _ _ {M1,by rw[B6];exact Bl _ _,by exact Fl,pB}
      clear pB M1 au av;obtain⟨M1,h3,l3,pB⟩:=hP
      all_goals
       have cz:=M1.la;have ax:C-1<a.size:=by lia
       refine Ad<|xt (al (nb-1) a0) ?_;have M2:=M1._F (by exact jM) pB;have s2:(a1.push b[nb-1]).size=a1.size+1:=Bx _;by_cases e2:(nb-1==1)=true
       case' pos=>
        refine xz e2 ?_;exact Af {{_,rfl},.inl {_,rfl,M2.last (by simpa using e2) hb h0}}
       case' neg=>
        refine xi e2 ?_;have e2:¬nb-1=1:=by simpa using e2
        refine Ad<|xt (a5 (C-1) ax) ?_;refine Ad<|cO O hk (bm (C-1) ax) (by lia) tB (λi l=>{bg _ (by exact sM),c8 _ (by lia)}) (λi=>decide<|f (tB i)<f a[C-1]) (λi l=>by rw[Ay rfl]) (λi j t hj h=>?_) λk2 c4 a4 a2=>?_
        .have:=c9 (i:=i) (j:=j) (by lia) (by exact sM);simp at h ⊢;lia
        have a4:=λi l=>by have:=a4 i l;simpa using this
        have a2:=λi l hj=>by have:=a2 i l hj;simpa using this
        have k1:0<k2:=by
         rcases Nat.eq_zero_or_pos k2 with h|h
         .exfalso;have h5:=a2 0 (by exact xV) (by lia);rw[bf _ hb] at h5;have h6:=h0 a[C-1] (by simp);lia
         .exact h
        have M3:HP f a b (a1.push b[nb-1]++(b.extract k2<|nb-1).reverse) C k2:=M2._j c4 λi l h1 h2 j hj t=>by have h5:=a2 i h1 h2;rw[bf _ l] at h5;exact B1 (q_ sa (i:=j) (j:=C-1) (CZ t) ax) h5
        have pA:=λj hj t=>by have h5:=a4 j t;rw[bf _ hj] at h5;exact BX h5
        dsimp only;generalize cx:nb-1-k2=dc;obtain⟨o3,cy⟩:∃o,o=a1.push b[nb-1]:={_,rfl};obtain⟨aL,c5⟩:∃i,i=nb-1:={_,rfl};have eb:b[nb-1]=b[aL]'(by lia):=by subst c5;rfl
        rw[<-cy] at s2 M2 M3 ⊢;rw[<-c5] at M2 M3 cx c4 ⊢;generalize cv:o3=o0;generalize cw:aL=j0;revert j0;revert o0;refine mQ (P:=λ(o:Yk) (j:Nat)=>HP f a b o C j/\a1.size+1<=o.size/\1<j/\∀j' (hj:j'<b.size),j'<j->f b[j']<=f a[C-1]) (x:=o3) (i:=aL) (λbd dd hP=>?tail2) (λck=>?hN) λck key=>?hY
        case hN=>
         obtain rfl:k2=aL:=by lia
         exact{M2,by lia,by lia,pA}
        case hY=>
         by_cases e3:(k2==1)=true
         .refine xz e3 ?_;exact Af {{_,rfl},.inl {_,rfl,M3.last (by simpa using e3) hb h0}}
         .refine xi e3 (xi (show ¬(k2==0)=true by simp;exact Im) ?_);have e3:¬k2=1:=by simpa using e3
          exact key _ _ {M3,by rw[B6];lia,by lia,pA}
        clear pA M3 a4 a2;obtain⟨M3,h4,l4,pA⟩:=hP
        all_goals
         refine Ad<|xt (a5 (C-1) ax) ?_;have M4:=M3._E l3 pA;have s4:(bd.push a[C-1]).size=bd.size+1:=Bx _;by_cases e4:(C-1==0)=true
         .refine xz e4 ?_;exact Af {{_,rfl},.inl {_,rfl,M4.done (by simpa using e4)}}
         .refine xi e4 ?_;have e4:¬C-1=0:=by simpa using e4
          refine fU (λ_=>?_) λ_=>?_
          .exact Af {{_,rfl},.inr {_,_,_,_,_,_,rfl,M4,by exact Fl,l4,by lia}}
          .exact Af {{_,rfl},_,_,_,_,_,_,rfl,M4,by lia,l4,by lia}
    .rintro c U ⟨⟨g',rfl⟩,na,nb,J,bh,ac,bc,rfl,M,p,T,bb⟩;have:=M.sz;omega
    .rintro c U ⟨⟨g',rfl⟩,h⟩;rcases h with⟨r,er,hr⟩|⟨na,nb,cB,cm,ac,bc,rfl,M,p,T,bb⟩
     .obtain⟨c1,c2⟩:=c;cases er;exact Af {{(g'),rfl},r,rfl,hr}
     .dsimp only;refine Ad<|wpS_modify ?_;exact Af {{_,rfl},_,_,_,_,rfl,M,p,T,by lia}
 .rintro c U ⟨⟨g,rfl⟩,na,nb,a3,mg,rfl,M,p,T,hs⟩;have:=M.sz;lia
 .rintro c U ⟨⟨g,rfl⟩,r,er,hr⟩;obtain⟨c1,c2⟩:=c;cases er;exact Af<|q r g hr
end
def Tf{σ:Type}{st I:σ}{Q:PUnit->σ->Prop}(h:Q ⟨⟩ I):wpS M A E s (set I:StateT σ Sem PUnit) Q st:=by unfold wpS;rw[StateT.run_set];exact Al {(rfl),h}
theorem nO{α:Type}:∀(m:List α) (arr:Array α) (i k:Nat),i+k+m.length<=arr.size->((m.zipIdx k).foldl (λ(a:Array α) (I:α×Nat)=>a.setIfInBounds (i+I.2) I.1) arr).toList=arr.toList.take (i+k)++(m++arr.toList.drop (i+k+m.length))
 |[],arr,i,k,h=>by simp
 |x::m,arr,i,k,h=>by
  rw[Ek,List.foldl_cons];simp only[Av] at h;rw[nO m _ i (k+1) (by simp;lia)];have e:(arr.setIfInBounds (i+k) x).toList=arr.toList.set (i+k) x:=by simp
  have l:arr.toList.length=arr.size:=Be;rw[e,List.drop_set,Ay (by exact Bl _ _),<-Nat.add_assoc,Bm,BM (by lia),List.take_set_of_le (by simp +arith only),Av];simp;congr 1;simp +arith only
section
variable {w:X7}{κ:SortKind}{Ok:Keyed->Prop}{f:Yl}
def uq{l:Yj}(s:l.Pairwise λx y=>f x<=f y)(I:i<=j)(J:j<l.length):f (l[i]'(qG))<=f l[j]:=by
 rcases DR I with h|h
 .exact C3.mp s i j (qG) J h
 .subst h;exact Dg _
def Hc{l:Yj}{x:Keyed}(h:x∈l):∃i,∃hi:i<l.length,l[i]=x:=BS h
def Hd{l:Yj}{x:Keyed}(h:x∈l.take m):∃i,∃hi:i<l.length,i<m/\l[i]=x:=by obtain⟨i,hi,rfl⟩:=BS h;rw[A7] at hi;exact{i,by lia,by lia,BV.symm}
def F4{l:Yj}{x:Keyed}{k:Nat}(h:x∈l.drop k):∃i,∃hi:i<l.length,k<=i/\l[i]=x:=by obtain⟨i,hi,rfl⟩:=BS h;rw[BQ] at hi;exact{k+i,by lia,Bl _ _,DY.symm}
theorem Tg(O:Ord prog w A s κ Ok f){st:SortSt}{X Y:Yj}{w1 w2:Nat}{Q:Bool->SortSt->Prop}(hk:kindOf st=κ)(hf:failedOf st=none)(hp:pendingOf st=#[(0,X.length,w1),(X.length,Y.length,w2)])(ea:(arrOf st).toList=X++Y)(ok:∀x∈X++Y,Ok x)
 (lX:0<X.length) (lY:0<Y.length) (sX:X.Pairwise λx y=>f x<=f y) (sY:Y.Pairwise λx y=>f x<=f y) (q:∀T,failedOf T=none->(pendingOf T).size=1->(arrOf T).toList.Perm (X++Y)->((arrOf T).toList.Pairwise λx y=>f x<=f y)->Q true T):wpS (model prog w) A E s (mergeAt' 0) Q st:=by
 have a1:(pendingOf st)[0]?=some (0,X.length,w1):=by rw[hp];rfl
 have a2:(pendingOf st)[0+1]?=some (X.length,Y.length,w2):=by rw[hp];rfl
 have a3:(((pendingOf st).setIfInBounds 0 (0,X.length+Y.length,w1)).eraseIdxIfInBounds<|0+1).size=1:=by simp[hp]
 refine Ad<|wpS_get ?_;rw[show(sortPriv% PySem.Builtin.SortState.pending) st=pendingOf st from rfl,a1,a2];refine Ad<|Tf ?_;generalize ((pendingOf st).setIfInBounds 0 (0,X.length+Y.length,w1)).eraseIdxIfInBounds (0+1)=pn at a3 ⊢;have au:∀i (I:i<X.length),(arrOf st)[i]?=some X[i]:=λi I=>by rw[<-Bi,ea,AH I];simp
 have av:∀i (I:i<Y.length),(arrOf st)[X.length+i]?=some Y[i]:=λi I=>by rw[<-Bi,ea,AL<|Bl _ _,Bq];simp
 have ab:∀x∈X,Ok x:=λx l=>ok x<|Am _ l;have ac:∀x∈Y,Ok x:=λx l=>ok x<|Ae _ l;obtain⟨tX,ax⟩:∃t:Nat->Keyed,t=λi=>(X[i]?).getD X[0]:={_,rfl};have p:∀i (I:i<X.length),tX i=X[i]:=λi I=>by rw[ax];simp[I]
 obtain⟨tY,aL⟩:∃t:Nat->Keyed,t=λi=>(Y[i]?).getD X[0]:={_,rfl};have C:∀i (I:i<Y.length),tY i=Y[i]:=λi I=>by rw[aL];simp[I]
 refine Ad<|xt (x:=Y[0]) (av 0 lY) ?_;refine Ad (cO O hk (ac _<|CD _) lX tX (λi I=>{by rw[p i I,C1];exact au i I,by rw[p i I];exact ab _<|CD _}) (λi=>!decide (f Y[0]<f (tX i))) (λi I=>by rw[Au (by simp)]) (λi j al J h=>?_) λk ba a4 a5=>?_)
 .have:=uq sX al J;rw[p j J] at h;rw[p i<|qG];simp at h ⊢;omega
 have a4:∀i (I:i<k),f (X[i]'(Fi))<=f Y[0]:=λi I=>by have:=a4 i I;rw[p i (by lia)] at this;simpa using this
 have a5:∀i (J:i<X.length),k<=i->f Y[0]<f X[i]:=λi J I=>by have:=a5 i I J;rw[p i J] at this;simpa using this
 dsimp only;rw[C1];by_cases c:(X.length-k==0)=true
 .rw[Ay c];have c:X.length-k=0:=by simpa using c
  refine Af (q _ hf a3 (by rw[ea]) (by rw[ea];refine A3.mpr {sX,sY,λx l y hy=>?_};obtain⟨i,I,rfl⟩:=Hc l;obtain⟨j,J,rfl⟩:=Hc hy;exact B1 (a4 i (by lia))<|uq sY (Bf _) J))
 rw[Au c];have c:k<X.length:=by lia
 refine Ad (xt (x:=X[X.length-1]) (by rw[show k+(X.length-k)-1=X.length-1 by lia];exact au _ (by lia)) ?_);refine Ad (cO O hk (ab _<|CD _) (by lia) tY (λi I=>{by rw[C i I];exact av i I,by rw[C i I];exact ac _<|CD _}) (λi=>decide<|f (tY i)<f X[X.length-1]) (λi I=>by rw[Ay rfl]) (λi j al J h=>?_) λm bb a0 o=>?_)
 .have:=uq sY al J;rw[C j J] at h;rw[C i<|qG];simp at h ⊢;omega
 have a0:∀i (I:i<m),f (Y[i]'(Fi))<f X[X.length-1]:=λi I=>by have:=a0 i I;rw[C i (by lia)] at this;simpa using this
 have o:∀i (J:i<Y.length),m<=i->f X[X.length-1]<=f Y[i]:=λi J I=>by have:=o i I J;rw[C i J] at this;simpa using this
 have m0:0<m:=Nat.pos_of_ne_zero λh=>by have h5:=o 0 lY (by lia);have h6:=a5 (X.length-1) (by lia) (by lia);omega
 dsimp only;rw[Au (show ¬(m==0)=true by simp;lia)];have ex:((arrOf st).extract k X.length).toList=X.drop k:=by rw[iQ,ea,List.drop_append_of_le_length (by lia),Dz (by simp),AU (by simp)]
 have ey:((arrOf st).extract X.length<|X.length+m).toList=Y.take m:=by rw[iQ,ea,List.drop_left,Bq]
 have xg:∀(r:Yk) (g:Nat),wn f (X.drop k) (Y.take m) r.toList->Q (failedOf st).isNone (SortSt.mk' (kindOf st) (r.toList.zipIdx.foldl (λa x=>a.setIfInBounds (k+x.2) x.1)<|arrOf st) pn g<|failedOf st):=by
  rintro r g ⟨hm,hs⟩;have lr:r.toList.length=X.length-k+m:=by rw[hm.length_eq];simp;lia
  have pt:=nO r.toList (arrOf st) k 0 (by rw[lr,<-Be,ea,Ab];lia);rw[ea,lr,Nat.add_zero,show k+(X.length-k+m)=X.length+m by lia,Dz (by lia),List.drop_length_add_append] at pt;rw[hf];refine q _ rfl a3 ((Ew pt).trans ?_)<|Eq.subst (motive:=List.Pairwise λx y=>f x<=f y) pt.symm ?_
  .have h1:=(BL<|X.take k).mpr<|(BJ<|Y.drop m).mpr hm;rwa[AC<|X.drop k,Bh,<-AC (X.take k) (X.drop k),Bh] at h1
  .refine A3.mpr {sX.sublist<|DX _ _,A3.mpr {hs,sY.sublist<|List.drop_sublist _ _,λx l y hy=>?_},λx l y hy=>?_}
   .obtain⟨j,J,h2,rfl⟩:=F4 hy;rcases Ag.mp (hm.mem_iff.mp l) with h|h
    .obtain⟨i,I,_,rfl⟩:=F4 h;exact B1 (uq sX (by lia) (by lia))<|o j J h2
    .obtain⟨i,I,h1,rfl⟩:=Hd h;exact uq sY (by lia) J
   .obtain⟨i,I,h1,rfl⟩:=Hd l;have low:∀z∈Y,f X[i]<=f z:=λz hz=>by obtain⟨j,J,rfl⟩:=Hc hz;exact B1 (a4 i h1) (uq sY (Bf _) J)
    rcases Ag.mp hy with h|h
    .rcases Ag.mp (hm.mem_iff.mp h) with h|h
     .obtain⟨j,J,h2,rfl⟩:=F4 h;exact uq sX (by lia) J
     .exact low y<|BK h
    .exact low y<|CW h
 generalize (arrOf st).extract k X.length=U at ex ⊢;generalize (arrOf st).extract X.length (X.length+m)=V at ey ⊢;have zU:U.size=X.length-k:=by rw[<-Be,ex];simp
 have zV:V.size=m:=by rw[<-Be,ey];simp;lia
 have q5:0<U.size:=by lia
 have q6:0<V.size:=by lia
 have v0:V[0]=Y[0]:=by
  have:V.toList[0]?=(Y.take m)[0]?:=by rw[ey]
  rw[Bi,List.getElem?_take,Ay m0] at this;simpa[q6,lY] using this
 have ul:U[U.size-1]=X[X.length-1]:=by
  have:U.toList[U.size-1]?=(X.drop k)[U.size-1]?:=by rw[ex]
  rw[Bi,List.getElem?_drop,show k+(U.size-1)=X.length-1 by lia] at this;rw[Array.getElem?_eq_getElem (by lia),An (by lia)] at this;exact AR this
 have q1:∀x∈U.toList,Ok x:=λx l=>ab x (CW (by rw[ex] at l;exact l));have q2:∀x∈V.toList,Ok x:=λx l=>ac x (BK (by rw[ey] at l;exact l));have q3:U.toList.Pairwise λx y=>f x<=f y:=by rw[ex];exact sX.sublist<|List.drop_sublist _ _
 have q4:V.toList.Pairwise λx y=>f x<=f y:=by rw[ey];exact sY.sublist<|DX _ _
 have q7:∀x∈U.toList,f V[0]<f x:=λx l=>by rw[v0];rw[ex] at l;obtain⟨i,I,h1,rfl⟩:=F4 l;exact a5 i I h1
 have q8:∀x∈V.toList,f x<f U[U.size-1]:=λx l=>by rw[ul];rw[ey] at l;obtain⟨i,I,h1,rfl⟩:=Hd l;exact a0 i h1
 rw[<-ex,<-ey] at xg;split
 .exact Ad<|Td O hk q1 q2 q3 q4 q5 q6 q7 q8 λr g h=>Ad<|wpS_modify<|Ad<|wpS_get<|Af<|xg r g h
 .exact Ad<|Te O hk q1 q2 q3 q4 q5 q6 q7 q8 λr g h=>Ad<|wpS_modify<|Ad<|wpS_get<|Af<|xg r g h
end
def lh{arr:Array α}{P R:List α}(h:arr.toList=P++R)(J:n<=R.length):(mirror arr P.length (P.length+n)<|(P.length+n-P.length) / 2).toList=P++((R.take n).reverse++R.drop n):=by
 have U:P.length+n<=arr.size:=by rw[<-Be,h,Ab];exact Nat.add_le_add_left J _
 have ap:∀(B:List α) (t:Nat),(P++B)[P.length+t]?=B[t]?:=λB t=>by rw[AL<|Bl ..,Bq]
 have I:=Dp J;refine Dq λk=>?_;rw[Bi,getElem?_mirror_all U,<-Bi,<-Bi,h];rcases Ct k P.length with c|c
 .rw[Au λz=>EK.mpr z.1 c,AH c,AH c]
 obtain⟨j,rfl⟩:=Cd c;rw[ap ((R.take n).reverse++R.drop n) j];rcases Ct j n with d|d
 .rw[Ay {c,Nat.add_lt_add_left d _},show P.length+(P.length+n)-1-(P.length+j)=P.length+(n-1-j) by lia,ap,AH (by rw[DJ,I];exact d),List.getElem?_reverse (by rw[I];exact d),I,List.getElem?_take,Ay (by lia)]
 .obtain⟨t,rfl⟩:=Cd d;rw[Au λz=>EK.mpr (Bl n t)<|Nat.lt_of_add_lt_add_left z.2,ap,AL (by rw[DJ,I];exact d),DJ,I,Bq,List.getElem?_drop]
def Th{arr:Array α}{A Y Z:List α}{r:α}(h:arr.toList=A++(Y++r::Z)):(bubble arr (A.length+Y.length) Y.length).toList=A++r::(Y++Z):=by
 have J:A.length+Y.length<arr.size:=by rw[<-Be,h,Ab,Ab];exact Nat.add_lt_add_left (Dh<|Cf _) _
 refine Dq λi=>?_;rw[Bi,getElem?_bubble J _<|DF ..,Nat.add_sub_cancel,<-Bi,<-Bi,<-Bi,h];rcases Ct i A.length with c|c
 .rw[Au<|AY c,Au λz=>Nat.lt_asymm z.1 c,AH c,AH c]
 obtain⟨j,rfl⟩:=Cd c;have ap:∀(B:List α) (t:Nat),(A++B)[A.length+t]?=B[t]?:=λB t=>by rw[AL<|Bl ..,Bq]
 have I:∀(B:List α) (t:Nat),(Y++B)[Y.length+t]?=B[t]?:=λB t=>by rw[AL<|Bl ..,Bq]
 rw[ap (r::(Y++Z)) j];cases j with
 |zero=>rw[Ay<|Nat.add_zero _,ap,List.getElem?_cons_zero];exact I _ 0
 |succ j=>
  rw[Au<|CL<|Dh<|Cf _,De,show A.length+(j+1)-1=A.length+j from rfl,ap _ j,ap _<|j+1];rcases Ct j Y.length with d|d
  .rw[Ay {Dh<|Cf _,Nat.add_le_add_left d _},AH d,AH d]
  .obtain⟨t,rfl⟩:=Cd d;rw[Au λz=>EK.mpr d<|Nat.le_of_add_le_add_left z.2,I,show Y.length+t+1=Y.length+(t+1) from rfl,I,De]
def vD{arr:Array α}{P R:List α}{k l:Nat}(h:arr.toList=P++R)(I:k<R.length)(J:l<=k):(bubble arr (P.length+k)<|P.length+k-(P.length+l)).toList=P++(R.take l++R[k]::((R.drop l).take (k-l)++R.drop (k+1))):=by
 obtain⟨d,rfl⟩:=Cd J;have U:R.take l++((R.drop l).take d++R[l+d]::R.drop (l+d+1))=R:=by rw[<-B9 I,<-List.drop_drop,Bh,Bh]
 have g:=Dp<|AS J<|BD I;have j:((R.drop l).take d).length=d:=Dp (by rw[BQ];lia);have b:=Th (arr:=arr) (A:=P++R.take l) (Y:=(R.drop l).take d) (Z:=R.drop<|l+d+1) (r:=R[l+d]) (by rw[AC,U];exact h);rw[Ab,g,j,AC] at b;rw[Bq,show P.length+(l+d)=P.length+l+d from(Nat.add_assoc _ _ _).symm,Bq];exact b
section
variable {w:X7}{κ:SortKind}{Ok:Keyed->Prop}{f:Yl}
structure Tl(κ:SortKind)(Ok:Keyed->Prop)(st:SortSt)(P R:Yj):Prop where
 kind:kindOf st=κ
 arr:(arrOf st).toList=P++R
 ok:∀x∈R,Ok x
def jN(O:Ord prog w A s κ Ok f){st:SortSt}{P R:Yj}(T:Tl κ Ok st P R)(hi:i<R.length)(J:j<R.length){a b:Nat}(ea:a=P.length+i)(eb:b=P.length+j){Q:Option Bool->SortSt->Prop}(q:Q (some<|decide<|f R[i]<f R[j]) st):wpS (model prog w) A E s (ltAt' a b) Q st:=by
 have I:∀i (hi:i<R.length),(arrOf st)[P.length+i]?=some R[i]:=λi hi=>by rw[<-Bi,T.arr,AL<|Bl _ _,Bq];simp
 subst ea eb;rw[ltAt'_eq];refine Ad<|wpS_get ?_;refine Ad<|xt (I i hi)<|Ad<|xt (I j J) ?_;exact w_lt O T.kind (T.ok _<|CD _) (T.ok _<|CD _) q
def Up(f:Yl)(R:Yj)(n:Nat):Prop:=∀i j (_:i<=j) (_:j<R.length),j<n->f (R[i]'(by exact qG))<=f R[j]
def Up.snoc{R:Yj}(h:Up f R n)(h1:1<=n)(l:n<R.length)(hs:f (R[n-1]'(sv))<=f R[n]):Up f R (n+1):=λi j I J U=>by
 rcases Ct j n with c|c
 .exact h i j I J c
 .have e:j=n:=by lia
  subst e;rcases Ct i j with g|g
  .exact B1 (h i (j-1) (by omega) (sv)<|D_) hs
  .have e:i=j:=by lia
   subst e;exact Dg _
def Up.pair{R:Yj}(h:Up f R n)(g:n<=R.length):(R.take n).Pairwise λx y=>f x<=f y:=by rw[C3];intro i j I J U;rw[A7] at I J;rw[BV,BV];exact h i j (jM) (by lia) (by lia)
end
section
variable {w:X7}{κ:SortKind}{Ok:Keyed->Prop}{f:Yl}
def Tl.same{st:SortSt}{P R R':Yj}(T:Tl κ Ok st P R)(p:R'.Perm R){arr:Yk}(h:arr.toList=P++R'):Tl κ Ok (setArr st arr) P R':={T.kind,h,λx I=>T.ok x<|p.mem_iff.mp I}
def Up.one{R:Yj}:Up f R 1:=λi j I J h=>by
 have:i=j:=by lia
 subst this;exact Dg _
def kH{c:Prop}{_:Decidable c}{K T:StateT SortSt Sem α}{P:SortSt->Prop}{Q:α->SortSt->Prop}{st:SortSt}(J:¬c->P st)(key:∀I,P I->wpS (model prog w) A E s K Q I)
 (hp:c->(∀I,P I->wpS (model prog w) A E s K Q I)->wpS (model prog w) A E s T Q st):wpS (model prog w) A E s (if c then T else K) Q st:=by
 by_cases h:c
 .rw[Ay h];exact hp h key
 .rw[Au h];exact key st<|J h
def gg(f:Yl)(R:Yj)(n:Nat):Prop:=∀i j (_:i<=j) (_:j<R.length),j<n->f R[j]<=f (R[i]'(by exact qG))
def JW{R R':Yj}(e:R'.map f=R.map f)(h1:i<R'.length)(h2:i<R.length):f R'[i]=f R[i]:=by
 have:(R'.map f)[i]?=(R.map f)[i]?:=by rw[e]
 rw[Aq,Aq,An h1,An h2] at this;exact AR this
def gg.same{R R':Yj}(D:gg f R n)(e:R'.map f=R.map f):gg f R' n:=λi j I U J=>by
 have l:R'.length=R.length:=by have:=BU List.length e;rwa[Ah,Ah] at this
 rw[JW e U (by lia),JW e (by lia) (by lia)];exact D i j I (by lia) J
def gg.snoc{R:Yj}(h:gg f R n)(h1:1<=n)(l:n<R.length)(hs:f R[n]<=f (R[n-1]'(by exact sv))):gg f R (n+1):=λi j I J U=>by
 rcases Ct j n with c|c
 .exact h i j I J c
 .have e:j=n:=by lia
  subst e;rcases Ct i j with g|g
  .exact B1 hs<|h i (j-1) (by omega) (by exact sv) (by exact D_)
  .have e:i=j:=by lia
   subst e;exact Dg _
def pN{arr:Yk}{P R:Yj}{a b:Nat}{v:Int}(h:arr.toList=P++R)(U:a<=b)(o:b<=R.length)(g:∀i (_:i<R.length),a<=i->i<b->f R[i]=v):
 ∃R',(mirror arr (P.length+a) (P.length+b)<|(P.length+b-(P.length+a)) / 2).toList=P++R'/\R'.Perm R/\R'.map f=R.map f:=by
 have j:(P++R.take a).length=P.length+a:=by simp;lia
 have I:R=R.take a++((R.drop a).take (b-a)++(R.drop a).drop (b-a)):=by rw[Bh,Bh]
 have m:=lh (P:=P++R.take a) (R:=R.drop a) (n:=b-a) (by rw[h,AC,Bh]) (by simp;lia);rw[j,show P.length+a+(b-a)=P.length+b by lia,AC] at m;refine{_,m,?_,?_}
 .refine List.Perm.trans ?_<|Ew I.symm;exact(BL _).mpr ((BJ _).mpr<|DZ _)
 .have r:((R.drop a).take<|b-a).map f=List.replicate (b-a) v:=by refine List.ext_getElem (by simp;lia) λi p l=>?_;rw[List.getElem_map,BV,DY,List.getElem_replicate];rw[BZ] at l;exact g _ _ (by lia) (by lia)
  have J:=BU (List.map f) I;rw[AI,AI,r] at J;rw[AI,AI,List.map_reverse,r,List.reverse_replicate,J]
theorem Ti(O:Ord prog w A s κ Ok f){st:SortSt}{P R:Yj}(T:Tl κ Ok st P R)(h1:1<=R.length){Q:Option Nat->SortSt->Prop}
 (q:∀n R' arr,1<=n->n<=R.length->R'.Perm R->arr.toList=P++R'->Up f R' n->Q (some n) (setArr st arr)):wpS (model prog w) A E s (countRun' P.length R.length) Q st:=by
 have aL:setArr st (arrOf st)=st:=rfl;refine Ad (A6 (AO (I:=λx c g=>g=st/\c=(none,x)/\Up f R x)
  (Q:=λc g=>g=st/\∃n,c=(none,n)/\1<=n/\n<=R.length/\Up f R n/\(n=R.length\/∃h:n<R.length,f R[n]<f (R[n-1]'(by exact sv)))) ?_ ?_ ⟨rfl,rfl,Up.one⟩) ?_)
 .rintro x c g t hx ⟨rfl,rfl,U⟩;dsimp only;refine Ad<|jN O T (i:=x) (j:=x-1) hx (by exact sv) rfl (by lia) ?_;dsimp only;by_cases c:f R[x]<f (R[x-1]'(by omega))
  .rw[AA c,Ay rfl];exact Af {rfl,x,rfl,t,by exact jM,U,.inr {(hx),c}}
  .rw[AB c,Au (by simp)];exact Af {rfl,rfl,U.snoc t hx (by omega)}
 .rintro c g ⟨rfl,rfl,U⟩;exact{rfl,_,rfl,by lia,by lia,by rw[Cn h1] at *;exact U,.inl (by lia)}
 .rintro c g ⟨rfl,n,rfl,a0,a3,U,a5⟩;dsimp only;by_cases c1:(n==R.length)=true
  .rw[Ay c1];exact Af<|q n R (arrOf g) a0 a3 (C0 _) T.arr U
  rw[Au c1];have c1:¬n=R.length:=by simpa using c1
  have ab:n<R.length:=by exact Ed
  have hd:f R[n]<f (R[n-1]'(by omega)):=by
   rcases a5 with h|⟨h,h'⟩
   .exact absurd h c1
   .exact h'
  refine kH (P:=λo=>∃arr R',o=setArr g arr/\arr.toList=P++R'/\R'.Perm R/\gg f R' (n+1)) (λc2=>{arrOf g,R,rfl,T.arr,C0 _,?_}) ?_ λc2 key=>?_
  .obtain rfl:n=1:=by lia
   exact gg.snoc (λi j ac hj a4=>by (have e:i=j:=by lia);(subst e;exact Dg _)) (Ap _) ab<|BX hd
  rotate_left
  .refine Ad<|jN O T (i:=0) (j:=n-1) (by assumption) (by exact sv) rfl (by omega) ?_;dsimp only;by_cases c3:f R[0]<f (R[n-1]'(by omega))
   .rw[AA c3,Ay rfl];exact Af<|q n R (arrOf g) a0 a3 (C0 _) T.arr U
   rw[AB c3,Au (by simp)];have al:∀i (_:i<R.length),0<=i->i<n->f R[i]=f R[0]:=λi hi _ ax=>by have a1:=U 0 i (Bf _) hi ax;have a2:=U i (n-1) (by lia) (by lia) (by lia);lia
   obtain⟨R',m1,m2,m3⟩:=pN (f:=f) T.arr (Bf n) a3 al;refine Ad<|wpS_modify<|key _ {_,R',rfl,m1,m2,gg.same (gg.snoc (λi j ac hj a4=>?_) a0 ab<|BX hd) m3};rw[al j hj (Bf _) a4,al i (by lia) (Bf _) (by lia)];exact Dg _
  rintro _ ⟨arr,R0,rfl,p,au,D0⟩;refine Ad<|wpS_lift<|BH {rfl,?_};have l0:=au.length_eq;refine Ad (A6 (AO (I:=λx c o=>∃J arr R',c=(none,x,J)/\o=setArr g arr/\arr.toList=P++R'/\R'.Perm R/\gg f R' x/\J+1<=x/\∃v,∀i (_:i<R'.length),x-(J+1)<=i->i<x->f R'[i]=v)
   (Q:=λc o=>∃n J arr R',c=(none,n,J)/\o=setArr g arr/\arr.toList=P++R'/\R'.Perm R/\gg f R' n/\J+1<=n/\n<=R.length/\∃v,∀i (_:i<R'.length),n-(J+1)<=i->i<n->f R'[i]=v) ?_ ?_ ⟨0,arr,R0,rfl,rfl,p,au,D0,by lia,f<|R0[n]'(by lia),λi hi h2 h3=>by (have e:i=n:=by lia);(subst e;rfl)⟩) ?_)
  .rintro x c o t hx ⟨J,arr,r,rfl,rfl,p,l,D,hq,v,C⟩;have l1:=l.length_eq;have T1:=T.same l p;dsimp only;refine Ad<|jN O T1 (i:=x) (j:=x-1) (by lia) (by lia) rfl (by lia) ?_;dsimp only;by_cases c:f (r[x]'(by lia))<f (r[x-1]'(by omega))
   .rw[AA c,Ay rfl];refine kH (P:=λo=>∃arr R',o=setArr g arr/\arr.toList=P++R'/\R'.Perm R/\gg f R' (x+1)) (λ_=>{arr,r,rfl,p,l,D.snoc (by lia) (by lia)<|BX c}) ?_ λc2 key=>?_
    .rintro _ ⟨arr,R',rfl,p,l,D⟩;exact Af {0,arr,R',rfl,rfl,p,l,D,by lia,f (R'[x]'(by have:=l.length_eq;lia)),λi hi h2 h3=>by (have e:i=x:=by lia);(subst e;rfl)}
    .obtain⟨R',m1,m2,m3⟩:=pN (f:=f) (a:=x-(J+1)) (b:=x) p (by lia) (by lia) C;refine Ad<|wpS_modify<|key _ {_,R',rfl,?_,m2.trans l,gg.same (D.snoc (by lia) (by lia)<|BX c) m3};rw[<-m1];show(mirror arr (P.length+x-(J+1)) (P.length+x)<|(P.length+x-(P.length+x-(J+1))) / 2).toList=_;rw[show P.length+x-(J+1)=P.length+(x-(J+1)) by lia]
   .rw[AB c,Au (by simp)];refine Ad<|jN O T1 (i:=x-1) (j:=x) (by omega) (by lia) (by lia) rfl ?_;dsimp only;by_cases c3:f (r[x-1]'(by omega))<f (r[x]'(by lia))
    .rw[AA c3,Ay rfl];exact Af {x,J,arr,r,rfl,rfl,p,l,D,hq,by lia,v,C}
    .rw[AB c3,Au (by simp)];refine Af {J+1,arr,r,rfl,rfl,p,l,D.snoc (by lia) (by lia) (by lia),by lia,v,λi hi h2 h3=>?_};rcases Ct i x with h|h
     .exact C i hi (by lia) h
     .have:i=x:=by lia
      subst this;rw[<-C (i-1) (by lia) (by lia) (by lia)];lia
  .rintro c o ⟨J,arr,r,rfl,rfl,p,l,D,hq,v,C⟩;exact{_,J,arr,r,rfl,rfl,p,l,D,hq,by lia,v,C}
  .rintro c o ⟨n,J,arr,r,rfl,rfl,p,l,D,hq,g2,v,C⟩;have l1:=l.length_eq;dsimp only;refine kH (P:=λo=>∃arr R',o=setArr g arr/\arr.toList=P++R'/\R'.Perm R/\gg f R' n) (λ_=>{(arr),r,rfl,p,l,D}) ?_ (λc2 key=>?_)
   rotate_left
   .obtain⟨R',m1,m2,m3⟩:=pN (f:=f) (a:=n-(J+1)) (b:=n) p (by lia) (by lia) C;refine Ad<|wpS_modify<|key _ {_,R',rfl,?_,m2.trans l,D.same m3};rw[<-m1];show(mirror arr (P.length+n-(J+1)) (P.length+n)<|(P.length+n-(P.length+n-(J+1))) / 2).toList=_;rw[show P.length+n-(J+1)=P.length+(n-(J+1)) by lia]
   clear C D p l l1;rintro _ ⟨arr,r,rfl,p,l,D⟩;have l1:=l.length_eq;have T1:=T.same l p;have T':=T1.same (R':=(r.take n).reverse++r.drop n) (((BJ _).mpr<|DZ _).trans (by rw[Bh]))<|lh p (by lia);obtain⟨R',eR⟩:∃R',R'=(r.take n).reverse++r.drop n:={_,rfl};have av:R'.Perm R:=by rw[eR];exact(((BJ _).mpr<|DZ _).trans (by rw[Bh])).trans l
   have lR:=av.length_eq;have U':Up f R' n:=λi j ac hj a4=>by
    subst eR;rw[List.getElem_append_left (by simp;lia),List.getElem_append_left (by simp;lia),List.getElem_reverse,List.getElem_reverse,BV,BV];refine D _ _ ?_ (by simp;omega) ?_
    .simp;omega
    .simp;omega
   rw[<-eR] at T';refine Ad<|wpS_modify ?_;refine Ad (A6 (AO (I:=λx c o=>o=setArr g (mirror arr P.length (P.length+n)<|(P.length+n-P.length) / 2)/\c=(none,x)/\Up f R' x)
    (Q:=λc o=>o=setArr g (mirror arr P.length (P.length+n)<|(P.length+n-P.length) / 2)/\∃n,c=(none,n)/\1<=n/\n<=R.length/\Up f R' n) ?_ ?_ ⟨rfl,rfl,U'⟩) ?_)
   .rintro x c o t hx ⟨rfl,rfl,U⟩;dsimp only;refine Ad<|jN O T' (i:=x) (j:=x-1) (by lia) (by omega) rfl (by lia) ?_;dsimp only;by_cases c:f (R'[x]'(by omega))<f (R'[x-1]'(by omega))
    .rw[AA c,Ay rfl];exact Af {rfl,x,rfl,by lia,by exact jM,U}
    .rw[AB c,Au (by simp)];exact Af {rfl,rfl,U.snoc (by omega) (by lia) (by omega)}
   .rintro c o ⟨rfl,rfl,U⟩;exact{rfl,_,rfl,by lia,by lia,U}
   .rintro c o ⟨rfl,n,rfl,k1,k2,U⟩;exact Af<|q n R' _ k1 k2 av T'.arr U
end
section
variable {w:X7}{κ:SortKind}{Ok:Keyed->Prop}{f:Yl}
def Up.of{R:Yj}(h:(R.take n).Pairwise λx y=>f x<=f y):Up f R n:=λi j I U J=>by have:=uq h (i:=i) (j:=j) I (by simp;lia);rw[BV,BV] at this;exact this
def Tj{R:Yj}{k l:Nat}(I:k<R.length)(J:l<=k):(R.take l++R[k]::((R.drop l).take (k-l)++R.drop (k+1))).Perm R:=by
 have e:R=R.take l++((R.drop l).take (k-l)++(R[k]::R.drop (k+1))):=by rw[<-AC,F2 _ J,<-B9 I,Bh]
 refine List.Perm.trans ?_<|Ew e.symm;exact(BL _).mpr C2.symm
def Tk{R:Yj}{k l:Nat}(p:k<R.length)(r:l<=k)(U:Up f R k)(lo:∀i (_:i<l),f (R[i]'(by lia))<=f R[k])(hi:∀i (_:i<k),l<=i->f R[k]<=f (R[i]'(sM))):
 Up f (R.take l++R[k]::((R.drop l).take (k-l)++R.drop (k+1))) (k+1):=by
 apply Up.of;have e:R.take l++R[k]::((R.drop l).take (k-l)++R.drop (k+1))=(R.take l++R[k]::(R.drop l).take (k-l))++R.drop (k+1):=by simp
 rw[e,List.take_left' (by simp;lia)];have I:=U.pair<|BD p;rw[<-F2 R r] at I;have I:=A3.mp I;have t:∀y∈(R.drop l).take (k-l),f R[k]<=f y:=λy J=>by obtain⟨j,o,rfl⟩:=BS J;rw[A7,BQ] at o;rw[BV,DY];exact hi (l+j) (by lia)<|Bl _ _
 have C:∀x∈R.take l,f x<=f R[k]:=λx g=>by obtain⟨j,o,rfl⟩:=BS g;rw[A7] at o;rw[BV];exact lo j (by lia)
 refine A3.mpr {I.1,List.pairwise_cons.mpr {(t),I.2.1},λx g y J=>?_};rcases Ao.mp J with rfl|J
 .exact C x g
 .exact I.2.2 x g y J
def To(O:Ord prog w A s κ Ok f){st:SortSt}{P R:Yj}(T:Tl κ Ok st P R){ok:Nat}(hn:n<=R.length)(h1:1<=ok)(ho:ok<=n)(U:Up f R ok){Q:Bool->SortSt->Prop}
 (q:∀R' arr,R'.Perm R->arr.toList=P++R'->Up f R' n->Q true (setArr st arr)):wpS (model prog w) A E s (binarySort' P.length n ok) Q st:=by
 refine Ad (A6 (AO (I:=λx c J=>c=(none,())/\∃R' arr,J=setArr st arr/\R'.Perm R/\arr.toList=P++R'/\Up f R' x)
  (Q:=λc J=>c=(none,())/\∃R' arr,J=setArr st arr/\R'.Perm R/\arr.toList=P++R'/\Up f R' n) ?_ ?_ ⟨rfl,R,arrOf st,rfl,C0 _,T.arr,by rw[Cr h1];exact U⟩) ?_)
 .rintro x c J a0 hx ⟨rfl,R',arr,rfl,p,t,o⟩;have T':=T.same p t;have lR:=p.length_eq;have g:x<R'.length:=by lia
  refine Ad (A6 (AO (I:=λy c J=>J=setArr st arr/\∃l r,c=(none,l,r)/\l<=r/\r<=x/\r-l+y<=x/\(∀i (_:i<l) (_:i<R'.length),f R'[i]<=f R'[x])/\(∀i (_:i<x),r<=i->f R'[x]<=f (R'[i]'(sM))))
   (Q:=λc J=>J=setArr st arr/\∃l,c=(none,l,l)/\l<=x/\(∀i (_:i<l) (_:i<R'.length),f R'[i]<=f R'[x])/\(∀i (_:i<x),l<=i->f R'[x]<=f (R'[i]'(by lia)))) ?_ ?_ ⟨rfl,0,x,rfl,Bf _,Ap _,Nat.sub_le _ _,λi h=>by lia,λi h h'=>by omega⟩) ?_)
  .rintro y c J _ hy ⟨rfl,l,r,rfl,g1,g2,g3,C,g5⟩;by_cases c:l>=r
   .rw[Ay c];obtain rfl:l=r:=by lia
    exact Af {(rfl),l,rfl,g2,C,g5}
   .rw[Au c];refine Ad<|jN O T' (i:=x) (j:=(l+r) / 2) g (by lia) rfl rfl ?_;dsimp only;by_cases e:f R'[x]<f (R'[(l+r) / 2]'(by lia))
    .rw[AA e,Ay rfl];refine Af {rfl,l,(l+r) / 2,rfl,by lia,by lia,by omega,C,λi h h'=>?_};exact B1 (BX e)<|o _ _ h' (sM) h
    .rw[AB e,Au (by simp)];refine Af {rfl,(l+r) / 2+1,r,rfl,by lia,g2,by omega,λi h h'=>?_,g5};exact B1 (o i ((l+r) / 2) (Iq) (by lia) (by lia)) (by omega)
  .rintro c J ⟨rfl,l,r,rfl,g1,g2,g3,C,g5⟩;obtain rfl:l=r:=by lia
   exact{(rfl),l,rfl,g2,C,g5}
  .rintro c J ⟨rfl,l,rfl,g2,C,g5⟩;refine Ad<|wpS_modify ?_;exact Af {rfl,_,_,rfl,(Tj g g2).trans p,vD t g g2,Tk g g2 o (λi h=>C i h (by lia)) g5}
 .rintro c J ⟨rfl,R',arr,rfl,p,t,o⟩;exact{rfl,R',arr,rfl,p,t,by rw[Cr h1,Cn ho] at o;exact o}
 .rintro c J ⟨rfl,R',arr,rfl,p,t,o⟩;exact Af<|q R' arr p t o
end
section
variable {w:X7}{κ:SortKind}{Ok:Keyed->Prop}{f:Yl}
def Tp{N:Nat}(h:N<128):N<=2*(sortPriv% PySem.Builtin.minRun) N N 0:=by
 show N<=2*minRun' N N 0;cases N with
 |zero=>exact Bf _
 |succ r=>
  rw[minRun'_succ];split
  .lia
  .cases r with|zero=>lia|succ r=>rw[minRun'_succ,Ay (by lia)];lia
def He(f:Yl)(I:Nat)(pn:Array<|Nat×Nat×Nat)(X Y R:Yj):Prop:=
 (pn=#[]/\X=[]/\Y=[])\/(∃w,pn=#[(0,X.length,w)]/\Y=[]/\(I<=X.length\/R=[])/\X.Pairwise λx y=>f x<=f y)\/
  ∃w v,pn=#[(0,X.length,w),(X.length,Y.length,v)]/\0<X.length/\0<Y.length/\R=[]/\(X.Pairwise λx y=>f x<=f y)/\Y.Pairwise λx y=>f x<=f y
theorem JX(O:Ord prog w A s κ Ok f){st:SortSt}{Q:Unit->SortSt->Prop}(a2:(arrOf st).size<128)(hk:kindOf st=κ)(hp:pendingOf st=#[])(hf:failedOf st=none)(ok:∀x∈(arrOf st).toList,Ok x)
 (q:∀g,failedOf g=none->(arrOf g).toList.Perm (arrOf st).toList->((arrOf g).toList.Pairwise λx y=>f x<=f y)->Q () g):wpS (model prog w) A E s sortRuns' Q st:=by
 refine Ad<|wpS_get ?_;dsimp only;have lN:(arrOf st).toList.length=(arrOf st).size:=Be;obtain⟨N,eN⟩:∃N,N=(arrOf st).size:={_,rfl};rw[<-eN] at a2 lN ⊢;obtain⟨Z,eZ⟩:∃Z,Z=(arrOf st).toList:={_,rfl};rw[<-eZ] at lN ok q;have ac:=Tp a2;generalize (sortPriv% PySem.Builtin.minRun) N N 0=mr at ac ⊢;refine Ad (A6 (AO (I:=λx c g=>∃X Y R lo,c=(none,lo)/\kindOf g=κ/\failedOf g=none/\(arrOf g).toList=X++Y++R/\(X++Y++R).Perm Z/\lo=(X++Y).length/\He f mr (pendingOf g) X Y R/\x<=lo)
  (Q:=λc g=>∃X Y lo,c=(none,lo)/\kindOf g=κ/\failedOf g=none/\(arrOf g).toList=X++Y/\(X++Y).Perm Z/\He f mr (pendingOf g) X Y []) ?_ ?_ ⟨[],[],Z,0,rfl,hk,hf,eZ.symm,.refl _,rfl,.inl ⟨hp,rfl,rfl⟩,Ap _⟩) ?_)
 .rintro x c g _ hx ⟨X,Y,R,lo,rfl,k1,k2,t,r,rfl,k6,k7⟩;have lt:=r.length_eq;rw[Ab,lN] at lt;by_cases c:(X++Y).length>=N
  .rw[Ay c];cases Cb (show R.length=0 by lia);rw[Aw] at t r;exact Af {X,Y,_,rfl,k1,k2,t,r,k6}
  rw[Au c,show N-(X++Y).length=R.length by lia];have T:Tl κ Ok g (X++Y) R:={k1,t,λx hx=>ok x<|r.mem_iff.mp<|Ae _ hx};refine Ad<|Ti O T (by lia) λn R1 a3 g1 g2 a0 a5 U1=>?_;dsimp only;have l1:=a0.length_eq;have xg:∀{J:SortSt} {R2:Yj} {j:Nat} {pn:Array<|Nat×Nat×Nat},kindOf J=κ->failedOf J=none->(arrOf J).toList=X++Y++R2->pendingOf J=pn.push ((X++Y).length,j,0)->((pendingOf g=#[]/\pn=#[])\/∃v,pn=(pendingOf g).modify ((pendingOf g).size-1) λp=>(p.1,p.2.1,v))->R2.Perm R->1<=j->j<=R.length->(mr<=j\/j=R.length)->Up f R2 j->
   ∃X' Y' R' lo,((none,(X++Y).length+j):Option Unit×Nat)=(none,lo)/\kindOf J=κ/\failedOf J=none/\(arrOf J).toList=X'++Y'++R'/\(X'++Y'++R').Perm Z/\lo=(X'++Y').length/\He f mr (pendingOf J) X' Y' R'/\x+1<=lo:=λ{J R2 j pn} h1 h2 h3 h4 hn p2 h5 h6 h7 U=>by
   have l2:=p2.length_eq;have al:(R2.take j).length=j:=by rw[A7];lia
   have U':=U.pair (by lia);have pz:=((BL _).mpr p2).trans r;rcases k6 with⟨o,rfl,rfl⟩|⟨w,o,rfl,h8,h9⟩|⟨w,v',o,_,_,rfl,_⟩
   .have e2:pn=#[]:=by
     rcases hn with⟨_,h⟩|⟨v,h⟩
     .exact h
     .rw[h,o];rfl
    refine{R2.take j,[],R2.drop j,_,rfl,h1,h2,by rw[h3];simp,by simpa using pz,by simp;lia,.inr (.inl {0,by rw[h4,e2,al];rfl,rfl,?_,U'}),by lia};rcases h7 with h|h
    .exact .inl (by lia)
    .exact .inr<|List.drop_eq_nil_of_le (by lia)
   .have e2:∃v,pn=#[(0,X.length,v)]:=by
     rcases hn with⟨h,_⟩|⟨v,h⟩
     .rw[o] at h;cases h
     .exact{v,by rw[h,o];rfl}
    obtain⟨v,e2⟩:=e2;have r0:R≠[]:=λe=>by rw[e] at h6;exact absurd h6 (by simp;lia)
    have h8:=h8.resolve_right r0;rw[Aw] at h3 h4 pz lt c ⊢;have en:j=R2.length:=by rcases h7 with h'|h'<;>lia
    rw[AU (by lia)] at U';exact{X,R2,[],_,rfl,h1,h2,by rw[h3];simp,by simpa using pz,by rw[Ab,en],.inr (.inr {v,0,by rw[h4,e2,en];rfl,by lia,by lia,rfl,h9,U'}),by lia}
   .exact absurd h6 (by simp;lia)
  have sz:(pendingOf g).size<=1:=by
   rcases k6 with⟨o,_⟩|⟨w,o,_⟩|⟨w,v',o,_,_,rfl,_⟩
   .rw[o];exact Bf _
   .rw[o];exact Ap _
   .exact absurd lt (by simp at c ⊢;lia)
  by_cases cm:n<mr
  case' pos=>
   rw[Ay cm];refine Ad<|wpS_lift<|BH {rfl,?_};refine Ad<|To O (T.same a0 a5) (by lia) g1 (by lia) U1 λR2 ab au av U2=>?_;rw[Au (by simp)];obtain⟨j,a1⟩:∃j,j=min R.length mr:={_,rfl};rw[<-a1] at U2 ⊢;have p2:=au.trans a0;have h7:mr<=j\/j=R.length:=by lia
   obtain⟨l,C⟩:∃l,l=setArr (setArr g a3) ab:={_,rfl}
  case' neg=>
   rw[Au cm];obtain⟨j,a1⟩:∃j,j=n:={_,rfl};obtain⟨R2,a4⟩:∃R2,R2=R1:={_,rfl};rw[<-a1,<-a4] at U1;rw[<-a1];have U2:=U1;have p2:R2.Perm R:=by rw[a4];exact a0
   have h7:mr<=j\/j=R.length:=by lia
   obtain⟨l,C⟩:∃l,l=setArr g a3:={_,rfl}
  all_goals
   have n1:1<=j:=by lia
   have n3:j<=R.length:=by lia
   have o:kindOf l=κ:=by rw[C];exact k1
   have e2:failedOf l=none:=by rw[C];exact k2
   have e3:(arrOf l).toList=X++Y++R2:=by rw[C];first|exact av|(rw[a4];exact a5)
   have e4:pendingOf l=pendingOf g:=by rw[C]
   rw[<-C];refine Ad<|wpS_get ?_;split
   .refine Ad<|A6 (AO (I:=λy c J=>c=(none,())/\J=l) (Q:=λc J=>c=(none,())/\J=l) ?_ ?_ {(rfl),rfl}) ?_
    .rintro y c J _ hy ⟨rfl,rfl⟩;refine Ad<|wpS_get ?_;rw[Au (show ¬(pendingOf J).size > 1 by rw[e4];lia)];exact Af {(rfl),rfl}
    .exactλc J h=>h
    .rintro c J ⟨rfl,rfl⟩;refine Ad<|wpS_modify<|Ad<|wpS_modify<|Af ?_;exact xg o e2 e3 rfl (.inr {_,by rw[<-e4]}) p2 n1 n3 h7 U2
   .rename_i hb;have hb:(pendingOf l).back?=none:=Option.eq_none_iff_forall_ne_some.mpr λp=>hb p.1 p.2.1 p.2.2;rw[e4,Array.back?_eq_none_iff] at hb;exact Ad<|wpS_modify<|Af<|xg o e2 e3 rfl (.inl {hb,e4.trans hb}) p2 n1 n3 h7 U2
 .rintro c g ⟨X,Y,R,lo,rfl,k1,k2,t,r,rfl,k6,k7⟩;have lt:=r.length_eq;rw[Ab,lN] at lt;cases Cb (show R.length=0 by lia);rw[Aw] at t r;exact{X,Y,_,rfl,k1,k2,t,r,k6}
 .rintro c g ⟨X,Y,lo,rfl,k1,k2,t,r,k6⟩;have lt:=r.length_eq;rw[lN] at lt;refine Ad (A6 (AO (I:=λy c J=>c=(none,())/\((y=0/\J=g)\/(failedOf J=none/\(pendingOf J).size<=1/\(arrOf J).toList.Perm Z/\(arrOf J).toList.Pairwise λx y=>f x<=f y)))
   (Q:=λc J=>c=(none,())/\failedOf J=none/\(arrOf J).toList.Perm Z/\(arrOf J).toList.Pairwise λx y=>f x<=f y) ?_ ?_ ⟨rfl,.inl ⟨rfl,rfl⟩⟩) ?_)
  .rintro y c J _ hy ⟨rfl,h⟩;refine Ad<|wpS_get ?_;rcases h with⟨rfl,rfl⟩|⟨h1,h2,h3⟩
   .rcases k6 with⟨o,rfl,rfl⟩|⟨w,o,rfl,_,h9⟩|⟨w,v,o,lX,lY,_,sX,sY⟩
    .rw[Ay (show(pendingOf J).size<=1 by rw[o];exact Bf _)];exact Af {rfl,k2,by rw[t];exact r,by rw[t];exact .nil}
    .rw[Ay (show(pendingOf J).size<=1 by rw[o];exact Ap _)];exact Af {rfl,k2,by rw[t];exact r,by rw[t,Aw];exact h9}
    .rw[Au (show ¬(pendingOf J).size<=1 by rw[o];exact Nat.not_succ_le_self 1)];have gen:∀b:Bool,(if b=true then(pendingOf J).size-2-1 else(pendingOf J).size-2)=0:=λb=>by cases b<;>rw[o]<;>rfl
     refine Ad ?_;rw[gen];refine Tg O k1 k2 o t (λx hx=>ok x<|r.mem_iff.mp hx) lX lY sX sY λax b1 b2 b3 b4=>?_;rw[Au (by simp)];exact Af {rfl,.inr {b1,by rw[b2];exact Ap _,b3.trans r,b4}}
   .rw[Ay h2];exact Af {(rfl),h1,h3}
  .rintro c J ⟨rfl,h⟩;rcases h with⟨h0,rfl⟩|⟨h1,_,h3⟩
   .have e:X++Y=[]:=Cb (by lia);rw[e] at t r;exact{rfl,k2,by rw[t];exact r,by rw[t];exact .nil}
   .exact{(rfl),h1,h3}
  .rintro c J ⟨rfl,h1,h2,h3⟩;exact Af<|q J h1 h2 h3
end
section
open PySem.W
def JY(h:X8)(B:Int)(x:Keyed):Prop:=∃a o n r p t u,x.1=.ref a/\h.get? a=some o/\o.data=.seq #[.int r t,.int p u] n/\0<=p/\p<B
noncomputable def num(h:X8)(B:Int)(x:Keyed):Int:=match x.1 with
 |.ref a=>match h.get? a with
  |some o=>match o.data with
   |.seq xs _=>match xs.toList with
    |[.int r _,.int p _]=>r*B+p
    |_=>0
   |_=>0
  |none=>0
 |_=>0
def Yx{B:Int}{x:Keyed}{a:Addr}{o:Obj}{r p:Int}{t u:Tok}(I:x.1=.ref a)(J:h.get? a=some o)(U:o.data=.seq #[.int r t,.int p u] n):num h B x=r*B+p:=by unfold num;simp[I,J,U]
def uk{w:X7}{B:Int}:Ord prog w A s (tuples' true) (JY s.heap B) (num s.heap B):=by
 constructor;rintro x y ⟨r,t,C,I,J,T,u1,l,g1,d1,b1,c1⟩ ⟨a2,o2,n2,U,g,t2,u2,o,g2,d2,b2,c2⟩ E Q h;rw[Yx l g1 d1,Yx o g2 d2] at h;rw[l,o];refine kat_lt g1 d1 g2 d2 ?_;refine kat_cons<|wpAny_eqBool_int ?_;by_cases c:I=U
 .subst c;rw[beq_self_eq_true];refine kat_yes<|kat_cons<|wpAny_eqBool_int ?_;by_cases p:J=g
  .subst p;rw[beq_self_eq_true];refine kat_yes<|kat_nil ?_;have e:decide (I*B+J<I*B+J)=false:=AB (by lia);rw[e] at h;exact h
  .rw[Ex p];refine kat_no<|kat_one _ _<|PyProof.Rows.lt_int ?_;have e:decide (I*B+J<I*B+g)=decide (J<g):=by
    by_cases z:J<g
    .rw[AA z];exact AA (by lia)
    .rw[AB z];exact AB (by lia)
   rw[e] at h;exact h
 .rw[Ex c];refine kat_no<|oneLt_int ?_;have e:decide (I*B+J<U*B+g)=decide (I<U):=by
   by_cases z:I<U
   .rw[AA z];have j:(I+1)*B<=U*B:=CF (by assumption) (by lia);rw[EE,Int.one_mul] at j;exact AA (by omega)
   .rw[AB z];have j:(U+1)*B<=I*B:=CF (by lia) (by lia);rw[EE,Int.one_mul] at j;exact AB (by lia)
  rw[e] at h;exact h
section
variable {w:X7}
def qA(h:X8)(B:Int)(v:X4):Prop:=∃a o n r p t u,v=.ref a/\h.get? a=some o/\o.cls=.type "tuple" /\ o.data=.seq #[.int r t,.int p u] n/\0<=p/\p<B
def qA.pair{B:Int}{x:Keyed}(k:qA h B x.1):JY h B x:=by obtain⟨a,o,n,r,p,t,u,I,J,_,U,g,j⟩:=k;exact{(a),o,n,r,p,t,u,I,J,U,g,j}
theorem Yy{h:X8}{B:Int}:∀{ks:XQ},(∀v∈ks,qA h B v)->∃fs,KatTups h ks fs/\fs.length=ks.length/\∀v∈fs,∃r t,v=Value.int r t
 |[],_=>{[],trivial,rfl,λv I=>by simp at I}
 |k::ks,J=>by
  obtain⟨fs,U,g,j⟩:=Yy (ks:=ks) λv I=>J v<|Ac _ I;obtain⟨a,o,n,r,p,t,u,rfl,l,C,T,_,_⟩:=J k<|Ai ..;refine{.int r t::fs,KatTups.cons l C T rfl U,by simp[g],λv I=>?_};rcases Ao.mp I with rfl|I
  .exact{(r),t,rfl}
  .exact j v I
def JZ{B:Int}{ks:XQ}{Q:SortKind->X5->Prop}(I:∀v∈ks,qA s.heap B v)(j:0<ks.length)(q:Q (tuples' true) s):wpAny (model prog w) A (keyKind' ks.toArray) Q E s:=by
 obtain⟨fs,J,l,U⟩:=Yy I;refine kat_kind (T:=.type "int") J (by lia) (λv g=>?_) (by decide) ?_
 .obtain⟨r,t,rfl⟩:=U v g;exact .now
 .exact q
theorem xI{R:α->α->Prop}:∀{l:List α},l.length<2->l.Pairwise R
 |[],_=>List.Pairwise.nil
 |[_],_=>List.pairwise_singleton _ _
 |_::_::_,h=>absurd h (by simp)
def Tq{a kS:Addr}{ks:XQ}{e p:Nat}{B:Int}{P:PySem.Fin->X5->Prop}(r:s.heap.get? kS=some (seqObj "list" ks.toArray e))(ha:s.heap.get? a=some (seqObj "list" #[] p))(t:kS≠a)(hl:ks.length=vs.length)(g:vs.length<=127)
 (hk:∀v∈ks,qA s.heap B v)
 (h:∀h' tk (xs:Yj) c,(∀b,b≠kS->b≠a->h'.get? b=s.heap.get? b)->h'.get? a=some (seqObj "list" (List.toArray (xs.map (·.2))) c)->xs.Perm (ks.zip vs)->(xs.Pairwise λx y=>num s.heap B x<=num s.heap B y)->P (.done<|.ret .none) {s with heap:=h',toks:=tk}):
 wpAny (model prog w) A (ksk_end a false vs.toArray p (.ref kS) ks.toArray) P E s:=by
 have hz:vs.length<=sizeLine:=AS g (by decide);have l:(ks.toArray.zip vs.toArray).toList=ks.zip vs:=by simp
 have tail:∀st:SortSt,failedOf st=none->(arrOf st).toList.Perm (ks.zip vs)->((arrOf st).toList.Pairwise λx y=>num s.heap B x<=num s.heap B y)->wpAny (model prog w) A (ksk_tail a false p (.ref kS) st) P E s:=by
  intro st hf hp hs;have s1:=pR s.heap kS<|Obj.mapSeq λ_=>(#[]:XR);have J:=(s1.2 a t.symm).trans ha;have s2:=pR (s.heap.update kS<|Obj.mapSeq λ_=>(#[]:XR)) a (Obj.mapSeq λ_=>(arrOf st).map (·.2));have len:((arrOf st).map (·.2)).size<=sizeLine:=by have:=hp.length_eq;rw[C9,Be] at this;rw[Array.size_map];lia
  unfold ksk_tail
  try dsimp only
  refine Aa (listUpdate_at r rfl ?_ (by rw[Az];lia)<|Bf _);refine Aa<|wpAny_letGo ?_;refine Aa<|seqEpoch_at J rfl ?_;refine Aa (listUpdate_at J rfl ?_ (Bf _) (by simp only[B4,if_false];exact Cc len));rw[hf];simp only[bne_self_eq_false,B4,if_false];obtain⟨C,j⟩:∃C,((s.heap.update kS<|Obj.mapSeq λ_=>(#[]:XR)).update a (Obj.mapSeq λ_=>(arrOf st).map (·.2))).get? a=some (seqObj "list" ((arrOf st).map (·.2)) C):={_,get?_update_seq J λ_=>(arrOf st).map (·.2)};refine Al<|h _ _ (arrOf st).toList C (λb T a0=>?_) ?_ hp hs
  .exact(s2.2 b a0).trans (s1.2 b T)
  .have em:(arrOf st).map (·.2)=List.toArray ((arrOf st).toList.map (·.2)):=by apply Array.toList_inj.mp;rw[Array.toList_map]
   rw[em] at j ⊢;exact j
 unfold ksk_end;simp only[B4,if_false];by_cases U:vs.toArray.size<2
 .rw[Ay U,Ay U];refine Aa<|Al ?_;rw[StateT.run_pure];refine Aa<|Al ?_;refine tail _ rfl (by show(ks.toArray.zip vs.toArray).toList.Perm _;rw[l]) ?_;show(ks.toArray.zip vs.toArray).toList.Pairwise _;rw[l];rw[Az] at U;have:(ks.zip vs).length<2:=by rw[C9];lia
  exact xI this
 .rw[Au U,Au U];rw[Az] at U;refine Aa<|JZ hk (by omega) ?_;refine Aa (Bd (JX (E:=E) (uk (B:=B)) (st:=SortSt.mk' (tuples' true) (ks.toArray.zip vs.toArray) #[] 7 none)
   (Q:=λ_ I=>failedOf I=none/\(arrOf I).toList.Perm (ks.zip vs)/\((arrOf I).toList.Pairwise λx y=>num s.heap B x<=num s.heap B y)) (by show(ks.toArray.zip vs.toArray).size<128;simp;lia) rfl rfl rfl (λx o=>?_) λI b1 b2 b3=>{b1,?_,b3}) ?_ λ_ _ e=>e)
  .have o:x∈(ks.toArray.zip vs.toArray).toList:=o;rw[l] at o;exact qA.pair<|hk _ (DC (a:=x.1) (b:=x.2) o).1
  .have b2:(arrOf I).toList.Perm (ks.toArray.zip vs.toArray).toList:=b2;rw[l] at b2;exact b2
  .rintro⟨⟨⟩,I⟩ s' ⟨rfl,b1,b2,b3⟩;exact tail I b1 b2 b3
end
def Y0(f:α->β):∀{l m:List β},l.Perm m->∀{T:List α},T.map f=m->∃U:List α,U.Perm T/\U.map f=l:=by
 intro l m p
 induction p with
 |nil=>intro T e;exact{T,C0 _,e}
 |cons x _ o=>
  intro T e;cases T with
  |nil=>cases e
  |cons t r=>
   rw[AQ] at e;obtain⟨I,J⟩:=List.cons.inj e;obtain⟨U,C,e'⟩:=o J;exact{t::U,C.cons t,by rw[AQ,e',I]}
 |swap x y l=>
  intro T e
  match T,e with
  |t::u::r,e=>
   rw[AQ,AQ] at e;obtain⟨I,J⟩:=List.cons.inj e;obtain⟨e3,e4⟩:=List.cons.inj J;exact{u::t::r,List.Perm.swap t u r,by rw[AQ,AQ,I,e3,e4]}
 |trans _ _ g j=>
  intro T e;obtain⟨T1,p1,I⟩:=j e;obtain⟨T2,p2,J⟩:=g I;exact{T2,p2.trans p1,J}
section
variable {w:X7}
def dN{x:Keyed}(h:x∈vs.zip vs):x.1∈vs/\x.1=x.2:=by
 induction vs with
 |nil=>simp at h
 |cons v r I=>
  rw[List.zip_cons_cons] at h;rcases Ao.mp h with rfl|h
  .exact{Ai ..,rfl}
  .exact{Ac _ (I h).1,(I h).2}
def J0(prog:X6)(w:X7)(s:X5)(keep:X8->Prop)(κ:SortKind)(vs:XQ)(nm:Yl):Prop:=∀(A:Around) (E:XI) (g:X8),keep g->
 Ord prog w A {s with heap:=g} κ (λx=>x∈vs.zip vs) nm/\(¬vs.length<2->∀Q:SortKind->X5->Prop,Q κ {s with heap:=g}->wpAny (model prog w) A (keyKind' vs.toArray) Q E {s with heap:=g})
def Ts{a:Addr}{κ:SortKind}{nm:Yl}{P:PySem.Fin->X5->Prop}(ho:s.heap.get? a=some (seqObj "list" vs.toArray n))(hz:vs.length<=127)(ok:J0 prog w s (λg=>∀b o,b≠a->s.heap.get? b=some o->g.get? b=some o) κ vs nm)
 (h:∀h' tk (xs:Yj) c,(∀b o,b≠a->s.heap.get? b=some o->h'.get? b=some o)->h'.get? a=some (seqObj "list" (List.toArray (xs.map (·.2))) c)->xs.Perm (vs.zip vs)->(xs.Pairwise λx y=>nm x<=nm y)->P (.done<|.ret .none) {s with heap:=h',toks:=tk}):
 wpAny (model prog w) A (Builtin.«list.sort» ⟨[.ref a],[]⟩) P E s:=by
 have big:(100000:Nat)+1<=sizeLine:=by rw[sizeLine_eq];exact DF _ _
 have t:(vs.toArray.zip vs.toArray).toList=vs.zip vs:=by simp
 have s1:=pR s.heap a<|Obj.mapSeq λ_=>(#[]:XR);obtain⟨e1,p⟩:∃e1,(s.heap.update a<|Obj.mapSeq λ_=>(#[]:XR)).get? a=some (seqObj "list" #[] e1):={_,get?_update_seq ho λ_=>#[]};obtain⟨I,U⟩:∃g,g=((s.heap.update a<|Obj.mapSeq λ_=>(#[]:XR)).push<|seqObj "tuple" vs.toArray 0).push (seqObj "list" #[] 0):={_,rfl};have k3:∀b o,b≠a->s.heap.get? b=some o->I.get? b=some o:=λb o C e=>by rw[U];exact oi _<|oi _<|(s1.2 b C).trans e
 have j:I.get? a=some (seqObj "list" #[] e1):=by rw[U];exact oi _<|oi _ p
 have tail:∀st:SortSt,(arrOf st).toList.Perm (vs.zip vs)->((arrOf st).toList.Pairwise λx y=>nm x<=nm y)->
  ∀tk,P (.done<|.ret .none) {s with heap:=I.update a (Obj.mapSeq λ_=>(arrOf st).map (·.2)),toks:=tk}:=by
  intro st hp hs tk;have s2:=pR I a (Obj.mapSeq λ_=>(arrOf st).map (·.2));obtain⟨c2,r⟩:∃c2,(I.update a (Obj.mapSeq λ_=>(arrOf st).map (·.2))).get? a=some (seqObj "list" ((arrOf st).map (·.2)) c2):={_,get?_update_seq j λ_=>(arrOf st).map (·.2)};have em:(arrOf st).map (·.2)=List.toArray ((arrOf st).toList.map (·.2)):=by apply Array.toList_inj.mp;rw[Array.toList_map]
  refine h _ tk (arrOf st).toList c2 (λb o C e=>(s2.2 b C).trans<|k3 b o C e) ?_ hp hs;rw[em] at r ⊢;exact r
 have len:∀st:SortSt,(arrOf st).toList.Perm (vs.zip vs)->((arrOf st).map (·.2)).size<=sizeLine+1:=λst hp=>by have:=hp.length_eq;rw[C9,Be] at this;rw[Array.size_map];lia
 rw[list_sort_plain];refine Aa<|listItems_at ho rfl ?_;refine Aa (listUpdate_at ho rfl ?_ (by rw[Az];exact Fj)<|Bf _);refine Aa<|seqEpoch_at p rfl ?_;refine Aa<|wpAny_newTuple ?_ (by lia);refine Aa<|wpAny_newList ?_<|Bf _;refine A9 ?_;rw[<-U];dsimp only;by_cases l:vs.toArray.size<2
 .rw[Ay l,Ay l];refine Aa<|Al ?_;rw[StateT.run_pure];refine Aa<|Al ?_;refine Aa<|seqEpoch_at j rfl ?_;have pz:(arrOf<|SortSt.mk' κ (vs.toArray.zip vs.toArray) #[] 7 none).toList.Perm (vs.zip vs):=by rw[t]
  refine Aa<|listUpdate_at j rfl ?_ (Bf _)<|len _ pz;simp only[bne_self_eq_false,B4,if_false];refine Al<|tail (SortSt.mk' κ (vs.toArray.zip vs.toArray) #[] 7 none) pz ?_ _;rw[t];rw[Az] at l;have:(vs.zip vs).length<2:=by rw[C9];lia
  exact xI this
 .rw[Au l,Au l];rw[Az] at l;refine Aa<|(ok _ _ I k3).2 l _ ?_;refine Aa (Bd (JX (E:=E) (ok _ E I k3).1 (st:=SortSt.mk' κ (vs.toArray.zip vs.toArray) #[] 7 none)
   (Q:=λ_ J=>failedOf J=none/\(arrOf J).toList.Perm (vs.zip vs)/\((arrOf J).toList.Pairwise λx y=>nm x<=nm y)) (by show(vs.toArray.zip vs.toArray).size<128;simp;lia) rfl rfl rfl (λx T=>?_) λJ b1 b2 b3=>{b1,?_,b3}) ?_ λ_ _ e=>e)
  .have T:=T;rw[t] at T;exact T
  .have b2:=b2;rw[t] at b2;exact b2
  .rintro⟨⟨⟩,J⟩ s' ⟨rfl,b1,b2,b3⟩;refine Aa<|seqEpoch_at j rfl ?_;refine Aa<|listUpdate_at j rfl ?_ (Bf _)<|len _ b2;rw[b1];simp only[bne_self_eq_false,B4,if_false];exact Al<|tail J b2 b3 _
def Tt{κ:SortKind}{nm:Yl}(r:s.heap.IsList l vs.toArray)(hz:vs.length<=127)(ok:J0 prog w s (λg=>∀b o,s.heap.get? b=some o->g.get? b=some o) κ vs nm)
 (h:∀h' tk (xs:Yj) D c,s.heap.objs.size<=D->(∀b o,s.heap.get? b=some o->h'.get? b=some o)->h'.get? D=some (seqObj "list" (List.toArray (xs.map (·.2))) c)->xs.Perm (vs.zip vs)->(xs.Pairwise λx y=>nm x<=nm y)->Q (.ref D) {s with heap:=h',toks:=tk}):
 wpAny (model prog w) A (call (.builtin "sorted") [.ref l]) Q E s:=by
 have big:(100000:Nat)+1<=sizeLine:=by rw[sizeLine_eq];lia
 refine Calls.call_function_entry kind_sorted plain_sorted entry_sorted (args_sorted1 _) ?_;refine Aa (m:=checkCount "sorted" 1 1 _)<|Al ?_;refine Aa<|collect_list r ?_ (by lia);refine Aa<|wpAny_newList ?_ (by lia);obtain⟨g,j⟩:∃g,g=(s.heap.push<|seqObj "list" #[] 0).update s.heap.objs.size (Obj.mapSeq (· ++ vs.toArray)):={_,rfl};have p:g.objs.size=s.heap.objs.size+1:=by rw[j,Heap.size_update,size_push']
 have t:∀b o,s.heap.get? b=some o->g.get? b=some o:=λb o q=>by have I:=pj q;rw[j,Heap.get?_update_ne _ _ _ _<|AY I];exact oi _ q
 rw[<-j];have U:(g.push<|seqObj "list" vs.toArray 0).get? g.objs.size=some (seqObj "list" vs.toArray 0):=pG _ rfl;have keep:∀J:X8,(∀b o,b≠g.objs.size->(g.push<|seqObj "list" vs.toArray 0).get? b=some o->J.get? b=some o)->∀b o,s.heap.get? b=some o->J.get? b=some o:=λJ k b o q=>k b o (λz=>by have I:=pj q;rw[z,p] at I;exact Nat.not_succ_lt_self I)<|oi _<|t b o q
 refine Aa<|A9<|wpAny_call_entry slot_list_sort {_,U,rfl} entry_list_sort ?body<|args_list_sort _
 case body=>
  refine Ts (s:={s with heap:=g.push (seqObj "list" vs.toArray 0)}) U hz (λA E J k=>ok A E J<|keep J k) λh' tk xs c C T pm pw=>?_;exact{_,rfl,Al {_,rfl,h h' tk xs g.objs.size c (by rw[p];exact CK _) (keep h' C) T pm pw}}
def ZE{B:Int}(hl:s.heap.IsList l vs.toArray)(hz:vs.length<=127)(C:∀v∈vs,qA s.heap B v)
 (h:∀h' tk (xs:Yj) D c,s.heap.objs.size<=D->(∀b o,s.heap.get? b=some o->h'.get? b=some o)->h'.get? D=some (seqObj "list" (List.toArray (xs.map (·.2))) c)->xs.Perm (vs.zip vs)->(xs.Pairwise λx y=>num s.heap B x<=num s.heap B y)->Q (.ref D) {s with heap:=h',toks:=tk}):
 wpAny (model prog w) A (call (.builtin "sorted") [.ref l]) Q E s:=by
 refine Tt (κ:=tuples' true) hl hz (λA E g k=>?_) h;have j:∀v∈vs,qA g B v:=λv hv=>by obtain⟨a,o,m,r,p,t,u,I,J,r'⟩:=C v hv;exact{a,o,m,r,p,t,u,I,k _ _ J,r'}
 have nk:∀x∈vs.zip vs,num g B x=num s.heap B x:=λx U=>by obtain⟨a,o,m,r,p,t,u,I,J,e3,T,_⟩:=C _ (dN U).1;rw[Yx I J T,Yx I (k _ _ J) T]
 refine{{λx y U hy {E Q} q=>?_},λh2 Q q=>JZ (s:={s with heap:=g}) j (by lia) q};rw[<-nk x U,<-nk y hy] at q;exact(uk (s:={s with heap:=g})).lt x y (qA.pair<|j _ (dN U).1) (qA.pair<|j _ (dN hy).1) q
end
end
def rT(f:α->β){l m:List β}(p:l.Perm m){T:List α}(e:T.map f=m):∃I:List α,I.Perm T/\I.map f=l:=Y0 f p e
theorem gf{α β I:Type}{R:β->I->Prop}{g:α->β}{h:α->I}:∀{T:List α},(∀t∈T,R (g t)<|h t)->Paired R (T.map g) (T.map h)
 |[],_=>.nil
 |t::_,k=>.cons (k t<|Ai ..)<|gf λu J=>k u<|Ac _ J
def uA{J:Type}{R:α->β->Prop}{S:α->J->Prop}:∀{xs:List α} {ys:List β} {zs:List J},Paired R xs ys->Paired S xs zs->∃T:List (α×β×J),T.map (·.1)=xs/\T.map (λt=>t.2.1)=ys/\T.map (λt=>t.2.2)=zs/\∀t∈T,R t.1 t.2.1/\S t.1 t.2.2
 := by
 intro xs ys zs p q
 induction p generalizing zs with
 |nil=>cases q;exact{[],rfl,rfl,rfl,λt I=>by cases I}
 |cons r p l=>
  cases q with
  |cons q o=>
   rename_i x y U g z j;obtain⟨T,C,e2,e3,k⟩:=l o;refine{(x,y,z)::T,by rw[AQ,C],by rw[AQ,e2],by rw[AQ,e3],λt I=>?_};rcases Ao.mp I with rfl|I
   .exact{(r),q}
   .exact k t I
theorem wW{α β:Type}{f:α->β}:∀{l:List α},(∀x∈l,∀y∈l,f x=f y->x=y)->l.Nodup->(l.map f).Nodup
 |[],_,_=>Dr
 |a::r,h,n=>by obtain⟨J,U⟩:=AD.mp n;rw[AQ];refine AD.mpr {λz=>?_,wW (λx g y I=>h x (Ac _ g) y<|Ac _ I) U};obtain⟨y,I,e⟩:=BE.mp z;have:=h y (Ac _ I) a (Ai ..) e;exact J<|this▸I
def Hf(p q:Int×Int):Prop:=p.1<q.1\/(p.1=q.1/\p.2<=q.2)
abbrev F5(K:Ak)(H:Hp)(v:V)(p:Int×Int):Prop:=∃a,v=.ref a/\eE K H a [.int p.1,.int p.2]
def Tu{B:Int}{p q:Int×Int}(hp:0<=p.2/\p.2<B)(J:0<=q.2/\q.2<B)(h:p.1*B+p.2<=q.1*B+q.2):Hf p q:=by
 by_cases c:p.1<q.1
 .exact .inl c
 .right;by_cases d:q.1<p.1
  .have I:(q.1+1)*B<=p.1*B:=CF (by assumption) (by lia);rw[EE,Int.one_mul] at I;omega
  .have e:p.1=q.1:=by lia
   rw[e] at h;exact{e,by lia}
def Tv(X:Cx):X_->Hp->VK->Prop:=λxs H Q=>∃l ys ps,xs=[.ref l]/\bE X.K H l ys/\Paired (F5 X.K H) ys ps/\(∀p∈ps,0<=p.2/\p.2<1000000)/\ps.Nodup/\ys.length<=127/\
 ∀D zs qs,H D=none->Paired (F5 X.K H) zs qs->qs.Perm ps->qs.Pairwise Hf->Q (.ref D) (upd H D<|.lst zs)
def yY:jx X (.builtin "sorted") (Tv X):=by
 rintro a3 s σ H xs us Q I r⟨l,ys,ps,rfl,hl,pr,hb,a5,C,q⟩;obtain⟨u,rfl,ru⟩:=r.one;cases (show u=Value.ref l from ru);obtain⟨a0,rv,pl,hz⟩:=I.list hl;have l1:=rv.length;obtain⟨T,e1,e2,e3,kT⟩:=uA rv pr;have U:∀t∈T,(∃a o n g j,t.2.1=Value.ref a/\s.heap.get? a=some o/\o.cls=.type "tuple" /\ o.data=.seq #[.int t.2.2.1 g,.int t.2.2.2 j] n)/\0<=t.2.2.2/\t.2.2.2<1000000:=λt J=>by obtain⟨r1,a,ea,hs⟩:=kT t J;obtain⟨a4,a1,⟨o,g1,g2,n,g3⟩,_⟩:=I.tuple hs;obtain⟨w1,w2,rfl,x1,x2⟩:=a1.two;obtain⟨g,rfl⟩:=(show ∃g,w1=Value.int t.2.2.1 g from x1);obtain⟨j,rfl⟩:=(show ∃j,w2=Value.int t.2.2.2 j from x2);rw[ea] at r1;refine{{(a),o,n,g,j,r1,g1,g2,g3},?_};exact hb _ (by rw[<-e3];exact CA (f:=λt:V×X4×(Int×Int)=>t.2.2) J)
 have nT:∀t∈T,num s.heap 1000000 (t.2.1,t.2.1)=t.2.2.1*1000000+t.2.2.2:=λt J=>by obtain⟨⟨a,o,n,g,j,g0,g1,g2,g3⟩,_⟩:=U t J;exact Yx g0 g1 g3
 have ez:a0.zip a0=T.map λt=>(t.2.1,t.2.1):=by rw[<-e2,List.zip_map']
 refine xc I.tk (ZE (B:=1000000) pl.isList (by rw[<-l1];exact C) (λv hv=>?_) λh' tk ks D c hD hk hg pm pw J=>?_)
 .rw[<-e2] at hv;obtain⟨t,J,rfl⟩:=BE.mp hv;obtain⟨⟨a,o,n,g,j,g0,g1,g2,g3⟩,b1,b2⟩:=U t J;exact{a,o,n,_,_,g,j,g0,g1,g2,g3,b1,b2}
 .rw[ez] at pm;obtain⟨T',pT,eT⟩:=rT _ pm rfl;subst eT;have p:∀t,t∈T'->t∈T:=λt=>pT.mem_iff.mp;have a2:=Cu.mp pw;refine{.ref D,_,I.laid (t':=tk) (o:=.lst (T'.map (·.1))) hk hD ?_,rfl,q D (T'.map (·.1)) (T'.map λt=>t.2.2) (I.HT.fresh hD) (gf λt J=>(kT t<|p t J).2) ?_ ?_}
  .refine{?_,T'.map λt=>t.2.1,c,gf λt J=>(kT t<|p t J).1,?_}
   .rw[Ah,pT.length_eq];have:T.length=ys.length:=by rw[<-e1,Ah]
    rw[this];exact hz
   .rw[hg,Ci];rfl
  .rw[<-e3];exact pT.map _
  .refine Cu.mpr<|List.Pairwise.imp_of_mem (λ{x y} hx hy z=>?_) a2;rw[nT x<|p x hx,nT y<|p y hy] at z;exact Tu (U x<|p x hx).2 (U y<|p y hy).2 z
def Fy(p:Int×Int):Y:=.tup [.int p.1,.int p.2]
theorem xH{G:G3}{H:Hp}:∀{ps:List<|Int×Int} {xs:X_},xr G H (ps.map Fy) xs->Paired (F5 G.K H) xs ps
 |[],_,h=>by cases (show _=[] from h);exact .nil
 |p::r,_,ψ=>by obtain⟨x,U,e,⟨a,zs,ea,g,j,l,o,I,t,C,T,J,e3⟩,s⟩:=ψ;subst e ea o T e3;cases (show j=V.int p.1 from I);cases (show t=V.int p.2 from J);exact .cons {(a),rfl,g}<|xH s
def Tw :∀{ps:List<|Int×Int} {xs:X_},Paired (F5 G.K H) xs ps->xr G H (ps.map Fy) xs:=by
 intro ps xs h
 induction h with
 |nil=>exact rfl
 |cons z t I=>
  obtain⟨a,ea,J⟩:=z;subst ea;exact{_,_,rfl,{a,_,rfl,J,_,_,rfl,rfl,_,_,rfl,rfl,rfl},I}
def gc(xs:_T)(L:qk)(Q:YK):Prop:=match xs with
 |[.ref a]=>dw L a λys=>∃ps:List (Int×Int),ys=ps.map Fy/\(∀p∈ps,0<=p.2/\p.2<1000000)/\ps.Nodup/\ps.length<=127/\∀(D:Addr) (qs:List<|Int×Int),L D=none->qs.Perm ps->qs.Pairwise Hf->Q (.ref D) (qf L D<|.lst<|qs.map Fy)
 |_=>False
def fk:bootBuiltins "sorted"=some (.builtin "sorted"):=by decide +kernel
theorem m9 :jx X (.builtin "sorted") (j_ X.g3 gc):=E7 yY λxs H Q ys L Q3 j J z k=>by
 unfold gc at z;split at z
 .rename_i a;obtain⟨l,e,o,rfl,p,U,I,z⟩:=ve z;obtain⟨t,C,r⟩:=J a _ e;obtain⟨u,rfl,T⟩:=j.inv1;cases (show u=V.ref a from T);have pr:=xH r;exact{a,t,o,rfl,bE.of C,pr,p,U,by rw[<-r.length,Ah];exact I,λD l qs g pz pm pw=>k _ _ _ _ (EN g) (J.YX g<|Tw pz) (by rfl)<|z D qs (J.none g) pm pw}
 .exact z.elim
def cI:Wd->Y
 |.leaf t n=>.tup [.str<|kL t,.str n]
 |.node e l r=>.tup [.str<|kN e,cI l,cI r]
def qj{Q:α->qk->Prop}{o:Option α}{v:α}(e:o=some v)(h:Q v L):b_ L Q o:=by rw[e];exact h
def qN:RD "is_leaf" rL 0 ["word"] (λ_=>True):={_,λV B c _ _ _ _ _ _ _ I hN J=>(qd<|qr<|aC (Rm _ _ _) (J_ 0) (RI B.zA0 rfl) (by with_unfolding_all rfl))}
def kX:Bool->Bool->Str
 |true,t=>kL t
 |false,e=>kN e
inductive aD(ys:_T)(L:qk)(Q:YK):Prop
 |mk:∀lf b rest,(ys=[.tup<|.str (kX lf b)::rest])->(Q (.bl lf) L)->aD ys L Q
def Tx(t:Bool):o_ (.str<|kL t) [.str "plain",.str "turned"]=true:=by cases t<;>decide +kernel
def Tz(t:Bool):o_ (.str<|kN t) [.str "plain",.str "turned"]=false:=by cases t<;>decide +kernel
def yq:_f aD qN.1 1:=by
 rintro ys L Q ⟨lf,b,rest,rfl,q⟩;have I:dZ (Y.str (kX lf b)::rest) 0=some (Y.str<|kX lf b):=jo (xs:=Y.str (kX lf b)::rest) (j:=0) rfl;walk_at "w";rw[I];refine{rfl,rfl,xg ?_};cases lf with
 |true=>
  rw[show nb false (o_ (tw<|.str<|kX true b)<|[Y.str "plain",.str "turned"].map tw)=true from Tx b];exact q
 |false=>
  rw[show nb false (o_ (tw<|.str<|kX false b)<|[Y.str "plain",.str "turned"].map tw)=false from Tz b];exact q
def TB(t:Bool):List.lookup (kL t) [(("plain" : Str),("turned" : Str)),("turned","plain"),("both","either"),("either","both")]=some (kL<|!t):=by cases t<;>decide +kernel
def TC(t:Bool):List.lookup (kN t) [(("plain" : Str),("turned" : Str)),("turned","plain"),("both","either"),("either","both")]=some (kN<|!t):=by cases t<;>decide +kernel
def rG(J U:ju):RR "size_of" rB 2 ["word"] ["word"] U (λV=>Fw V J):={_,λV B c _ _ I _ _ _ _ _ _ g hN j=>(qa (zr (v5<|C_ c g<|jy<|qv 0) (qd<|qr qe) qw)<|qd<|qr<|ql ja (ql ja qe<|C_ I g<|jy<|J_ 0)<|C_ I g<|jy<|J_ 0)}
inductive af(n:Nat)(ys:_T)(L:qk)(Q:YK):Prop
 |mk:∀wd,(ys=[cI wd])->(wd.depth<=n)->(Q (.int wd.size) L)->af n ys L Q
def yb(n:Nat):_f (af (n+1)) (rG aD<|af n).1 1:=by
 rintro ys L Q ⟨I,rfl,hd,q⟩;cases I with
 |leaf t n=>exact{true,t,_,rfl,xg q}
 |node e l r=>
  have J:max l.depth r.depth+1<=n+1:=hd;refine{false,e,_,rfl,l,rfl,by lia,r,rfl,by lia,xg ?_};have e:(1+(l.size:Int)+(r.size:Int))=(((Wd.node e l r).size:Nat):Int):=by rfl
  rw[e];exact q
def cr(s:qg L L'){p:Addr}(h:L' p=none):L p=none:=by cases e:L p with|none=>rfl|some o=>rw[s _ _ e] at h;cases h
def xh.str(x:Str):xh L n (.str x) (.s<|.str x):=by cases n with|zero=>exact{(rfl),rfl}|succ n=>exact .inl {(rfl),rfl}
abbrev E8:=@xh.str
def xh.int(x:Int):xh L n (.int x) (.s<|.int x):=by cases n with|zero=>exact{(rfl),rfl}|succ n=>exact .inl {(rfl),rfl}
abbrev EZ:=@xh.int
theorem i9{L:qk}:∀{wd:Wd} {n:Nat},wd.depth<=n->xh L n (cI wd) (tR wd)
 |.leaf t nm,n+1,_=>.inr<|.inl {_,_,rfl,rfl,.cons (E8 _)<|.cons (E8 _) .nil}
 |.node e l r,n+1,h=>by have I:max l.depth r.depth+1<=n+1:=h;exact .inr<|.inl {_,_,rfl,rfl,.cons (E8 _)<|.cons (i9 (by lia))<|.cons (i9 (by lia)) .nil}
def bQ{a:Addr}(e:L a=some (.lst ys))(p:Paired (xh L n) ys ds):xh L (n+1) (.ref a) (.lst ds):=.inr<|.inr {ys,ds,rfl,rfl,kz e,p}
def eY(p:Paired (xh L n) ys ds):xh L (n+1) (.tup ys) (.tup ds):=.inr<|.inl {(ys),ds,rfl,rfl,p}
def TD{neg:Bool}{u v:Wd}{Q:YK}(J:u.depth<=128)(q:Q (.bl<|nb neg<|Da.eq (tR u)<|tR v) L):uQ neg (cI u) (cI v) L Q:=by
 have I:∀w:Wd,Ej (cI w)=true:=λw=>by cases w<;>rfl
 have:Ej (cI u)=true/\Ej (cI v)=true/\∃n m d e,n<=128/\xh L n (cI u) d/\xh L m (cI v) e/\Q (.bl<|nb neg<|Da.eq d e) L:=
  ⟨I u,I v,u.depth,v.depth,tR u,tR v,J,i9<|Ap _,i9<|Ap _,q⟩
 cases u<;>cases v<;>exact this
def iw{neg:Bool}{a b:Addr}{zs:_T}{es:List Da}{Q:YK}(I:n<128)(ea:L a=some (.lst ys))(eb:L b=some (.lst zs))(pa:Paired (xh L n) ys ds)(pb:Paired (xh L m) zs es)(q:Q (.bl<|nb neg<|Da.eqs ds es) L):
 uQ neg (.ref a) (.ref b) L Q:={rfl,rfl,n+1,m+1,_,_,I,bQ ea pa,bQ eb pb,q}
def xW:∀ys L Q,¬af 0 ys L Q:=by rintro ys L Q ⟨I,_,hd,_⟩;cases I<;>simp[Wd.depth] at hd
abbrev gJ(i:Int):v4:=yC<|.int i
abbrev r_(x:Str):v4:=yC<|.str x
abbrev gE(i:Nat)(n:Int):v4:=ku iH (qh i)<|yC<|.int n
abbrev xO(i:Nat):v4:=k_ yU<|qt (qh i) x8
abbrev y_(a b:v4):kR:=yB<|ku (uQ false) a b
abbrev z_(a b:v4):kR:=yB<|ku (uQ true) a b
abbrev Hg(a b:v4):v4:=mK<|qt a<|qt b x8
abbrev bv(a:v4):fE:=qt a x8
abbrev rm(a b:v4):fE:=qt a<|qt b x8
def qB(K:Ak):cH:=(Jj K "heads" (qh 0)<|pP<|qh 1)
def kC(K:Ak):cH:=(je (vv (qh 1)<|qo 2)
 (je (jR (z_ (ku iH (ym K "heads"<|qh 0)<|qh 2)<|qh 2) (je (o8 (ym K "heads"<|qh 0) (qh 2)<|ku iH (ym K "heads"<|qh 0)<|ku iH (ym K "heads"<|qh 0)<|qh 2)
 (vv (ku iH (ym K "heads"<|qh 0)<|qh 2)<|qo 2)))
 (cJ<|qh 2)))
def oK(K:Ak)(I:Addr)(J:ju):cH:=(je (vv (lL I "head_of" J (qh 0)<|bv<|qh 1)<|qo 3)
 (je (vv (lL I "head_of" J (qh 0)<|bv<|qh 2)<|qo 4)
 (je (o8 (ym K "heads"<|qh 0) (qh 3)<|qh 4)
 (cJ<|ku (uQ true) (qh 3)<|qh 4))))
structure ZR(K:Ak)(C:Addr):Prop where
 cl:YH K C
 na:P3 K C "heads"
def nY(hs:XS):_T:=hs.map λn:Nat=>.int (n:Int)
def pC(hp:Addr):List (Str×Y):=[("heads",.ref hp)]
def cN :(pC hp).lookup ("heads" : Str)=some (.ref hp):=by unfold pC;rw[Bt,show((("heads" : Str)==("heads" : Str)))=true by decide +kernel]
def ff :(pC hp).lookup ("head_of" : Str)=none:=by unfold pC;rw[Bt,show((("head_of" : Str)==("heads" : Str)))=false by decide +kernel];rfl
def og :(pC hp).lookup ("unite" : Str)=none:=by unfold pC;rw[Bt,show((("unite" : Str)==("heads" : Str)))=false by decide +kernel];rfl
def TF(n:Nat):ao 0 n=nY (List.range n):=by unfold ao nY;exact List.map_congr_left λk _=>by rw[B3]
def xn(hs:XS):(nY hs).length=hs.length:=by unfold nY;rw[Ah]
def vV{h:Nat}(e:hs[i]?=some h):dZ (nY hs) (i:Int)=some (.int (h:Int)):=jo (by unfold nY;rw[Aq,e];rfl)
def J1(hs:XS)(i g:Nat):(nY hs).set i (.int (g:Int))=nY (hs.set i g):=by unfold nY;rw[List.map_set]
def iX(h:j<n):d_ n (j:Int)=some j:=by unfold d_;rw[Ay (by exact A4 _),Ay (by omega)];rfl
def vj{a p:Addr}{o:LO}(h:qf L a o p=none):L p=none:=by
 by_cases c:p=a
 .subst c;rw[q9] at h;cases h
 .rw[qc c] at h;exact h
def aH{a:Addr}{o:LO}(h:L a=some o):qf L a o=L:=by
 funext b;unfold qf;split
 .rename_i e;rw[e,h]
 .rfl
def gu(rk:X0)(hs:XS):Prop:=∀i h,hs[i]?=some h->h<hs.length/\(h≠i->rk h<rk i)
inductive aK(hs:XS):Nat->Nat->Prop
 |root {r:Nat}:hs[r]?=some r->aK hs r r
 |step {i h r:Nat}:hs[i]?=some h->h≠i->aK hs h r->aK hs i r
def aK.top{r:Nat}(h:aK hs i r):hs[r]?=some r:=by induction h with|root e=>exact e|step _ _ _ I=>exact I
def aK.uniq{r s:Nat}(h:aK hs i r)(k:aK hs i s):r=s:=by
 induction h generalizing s with
 |root e=>
  cases k with|root _=>rfl|step I ne _=>rw[e] at I;exact absurd (AR I).symm ne
 |step e ne t J=>
  cases k with|root I=>rw[e] at I;exact absurd (AR I) ne|step I _ U=>rw[e] at I;cases I;exact J U
def aK.YY{r:Nat}(h:aK hs i r)(e:hs[i]?=some i):r=i:=h.uniq<|.root e
theorem gu.rep{rk:X0}{hs:XS}(I:gu rk hs):∀(n i:Nat),rk i<n->i<hs.length->∃r,aK hs i r
 |0,_,h,_=>absurd h<|Nat.not_lt_zero _
 |n+1,i,h,J=>by
  have e:=An J;by_cases c:hs[i]=i
  .exact{i,.root (by rw[e,c])}
  .obtain⟨U,g⟩:=I i _ e;obtain⟨r,t⟩:=gu.rep I n hs[i] (by have:=g c;omega) U;exact{r,.step e c t}
def gu.SC(I:gu rk hs)(hi:i<hs.length):∃r,aK hs i r:=I.rep (rk i+1) i (Bz _) hi
def qz{l:List α}{x:α}(h:l[i]?=some x):i<l.length:=(AN.mp h).1
def we{l:List α}{x:α}(h:i<l.length):(l.set i x)[i]?=some x:=by rw[List.getElem?_set];simp[h]
def kh{l:List α}{x:α}(h:i≠j):(l.set i x)[j]?=l[j]?:=by rw[List.getElem?_set,Au h]
def gu.ZM(I:gu rk hs){h g:Nat}(ei:hs[i]?=some h)(ne:h≠i)(J:hs[h]?=some g):gu rk (hs.set i g)/\rk g<rk i:=by
 have U:rk g<rk i:=by
  have l:=(I i h ei).2 ne;by_cases c:g=h
  .rw[c];exact l
  .have:=(I h g J).2 c;exact sM
 refine{λj x e=>?_,U};rw[Bn];by_cases c:i=j
 .subst c;rw[we<|qz ei] at e;cases e;exact{(I h _ J).1,λ_=>U}
 .rw[kh c] at e;exact I j x e
theorem jT{rk:X0}{hs:XS}(l:gu rk hs){i h g:Nat}(ei:hs[i]?=some h)(ne:h≠i)(U:hs[h]?=some g):∀(n j r:Nat),rk j<n->aK hs j r->aK (hs.set i g) j r
 |0,_,_,h,_=>absurd h<|Nat.not_lt_zero _
 |n+1,j,r,hn,t=>by
  have o:=jT l ei ne U n;have p:=(l.ZM ei ne U).2;cases t with
  |root e=>
   have c:i≠j:=λc=>by subst c;rw[ei] at e;exact ne<|AR e
   exact .root (by rw[kh c];exact e)
  |step e I t=>
   rename_i C;have lt:=(l j C e).2 I;by_cases c:i=j
   .subst c;rw[ei] at e;cases e;by_cases d:g=h
    .subst d;exact .step (we<|qz ei) I<|o _ r (by lia) t
    .cases t with
     |root J=>rw[U] at J;exact absurd (AR J) d
     |step J T t2=>
      rw[U] at J;cases J;refine .step (we<|qz ei) (λz=>?_)<|o _ r (by lia) t2;rw[z] at p;exact Cw _ p
   .exact .step (by rw[kh c];exact e) I<|o _ r (by lia) t
def dz(hs:XS):Nat:=(List.range hs.length).countP λi=>decide<|hs[i]?=some i
def TH(J:gu rk hs){h g:Nat}(ei:hs[i]?=some h)(ne:h≠i)(U:hs[h]?=some g):dz (hs.set i g)=dz hs:=by
 unfold dz;rw[Bn];refine B7 λj l=>?_;have I:=(J.ZM ei ne U).2;by_cases c:i=j
 .subst c;rw[we<|qz ei,ei];have d:g≠i:=λz=>by rw[z] at I;exact Cw _ I
  simp[d,ne]
 .rw[kh c]
theorem bW{p:Nat->Bool}{a:Nat}(I:p a=true):∀{l:XS},l.Nodup->a∈l->l.countP (λj=>p j&&!decide (j=a))+1=l.countP p
 |[],_,h=>by cases h
 |x::r,J,h=>by
  obtain⟨U,g⟩:=AD.mp J;rw[BA,BA];by_cases c:x=a
  .subst c;have e:r.countP (λj=>p j&&!decide (j=x))=r.countP p:=by refine B7 λj o=>?_;have:j≠x:=λz=>U<|z▸o;simp[this]
   rw[e];simp[I]
  .have t:a∈r:=by
    rcases Ao.mp h with z|z
    .exact absurd z.symm c
    .exact z
   have C:=bW I g t;simp only[AB c,Bool.not_false,Bool.and_true];lia
def gu.join(I:gu rk hs){a b:Nat}(ea:hs[a]?=some a)(eb:hs[b]?=some b):∃J,gu J (hs.set a b):=by
 by_cases c:a=b
 .subst c;refine{rk,λi h e=>?_};rw[Bn];by_cases d:a=i
  .subst d;rw[we<|qz ea] at e;cases e;exact I _ _ ea
  .rw[kh d] at e;exact I i h e
 .refine{λx=>if x=b then 0 else rk x+1,λi h e=>?_};rw[Bn];by_cases d:a=i
  .subst d;rw[we<|qz ea] at e;cases e;refine{qz eb,λ_=>?_};show(if b=b then 0 else rk b+1)<if a=b then 0 else rk a+1
   rw[Ay rfl,Au c];exact Cf _
  .rw[kh d] at e;refine{(I i h e).1,λne=>?_};have nb:i≠b:=λz=>by subst z;rw[eb] at e;exact ne (AR e).symm
   show(if h=b then 0 else rk h+1)<if i=b then 0 else rk i+1
   rw[Au nb];have:=(I i h e).2 ne;split<;>lia
def TJ{a b:Nat}(ea:hs[a]?=some a)(eb:hs[b]?=some b){r:Nat}(t:aK hs i r):aK (hs.set a b) i (if r=a then b else r):=by
 induction t with
 |root e=>
  rename_i r;by_cases c:r=a
  .subst c;rw[Ay rfl];by_cases d:r=b
   .subst d;exact .root<|we<|qz ea
   .exact .step (we<|qz ea) (λz=>d z.symm) (.root (by rw[kh d];exact eb))
  .rw[Au c];exact .root (by rw[kh λz=>c z.symm];exact e)
 |step e ne t I=>
  rename_i i h r;have c:a≠i:=λz=>by subst z;rw[ea] at e;exact ne (AR e).symm
  exact .step (by rw[kh c];exact e) ne I
def TK{a b:Nat}(ea:hs[a]?=some a)(eb:hs[b]?=some b)(ne:a≠b):dz (hs.set a b)+1=dz hs:=by
 unfold dz;rw[Bn];have e:=bW (p:=λi=>decide<|hs[i]?=some i) (a:=a) (AA ea) (l:=List.range hs.length) Bw<|AM.mpr<|qz ea;rw[<-e];congr 1;refine B7 λj I=>?_;by_cases c:a=j
 .subst c;rw[we<|qz ea];simp[AJ ne]
 .rw[kh c];simp[AJ c]
inductive ie(C:Addr)(ys:_T)(L:qk)(Q:YK):Prop
 |mk:∀o,∀n:Nat,∀ni:Int,(ys=[.ref o,.int ni])->(ni=(n:Int))->(L o=some (.ins C []))->(n<=1000)->(∀hp,L hp=none->Q .KB (qf (qf L hp<|.lst<|nY<|List.range n) o<|.ins C<|pC hp))->ie C ys L Q
def TL{K:Ak}(xf:ZR K C):_f (ie C) (qB K) 2:=by rintro ys L Q ⟨o,n,g,rfl,rfl,J,j,q⟩;refine{{by exact A4 _,by lia},λU I=>?_};refine wu ((qc<|w6 J I).trans J) {xf.cl,xf.na,by decide,?_};rw[show((n:Nat):Int).toNat=n from rfl,TF];exact xg<|q U I
inductive iE(C:Addr)(ys:_T)(L:qk)(Q:YK):Prop
 |mk:∀o hp,∀hs:XS,∀p:Nat,∀pi:Int,∀rk,(ys=[.ref o,.int pi])->(pi=(p:Int))->(L o=some (.ins C<|pC hp))->(L hp=some (.lst<|nY hs))->(gu rk hs)->(p<hs.length)->(∀(r:Nat) fi,fi.length=hs.length->gu rk fi->aK hs p r->(∀i s,aK hs i s->aK fi i s)->dz fi=dz hs->Q (.int (r:Int)) (qf L hp<|.lst<|nY fi))->iE C ys L Q
def TM{K:Ak}(xf:ZR K C):_f (iE C) (kC K) 3:=by
 rintro ys L Q ⟨o,hp,hs,p,pi,rk,rfl,rfl,ho,a0,hr,a1,q⟩;obtain⟨r0,t0⟩:=hr.SC a1;have a3:=Fm ho a0 (λe=>by cases e);refine{λm τ L'=>∃(J:XS) (I:Nat),τ=[some<|.ref o,some<|.int (p:Int),some<|.int (I:Int)]/\L'=qf L hp (.lst<|nY J)/\J.length=hs.length/\gu rk J/\I<hs.length/\aK J I r0/\(∀i s,aK hs i s->aK J i s)/\dz J=dz hs/\m=rk I,{_,hs,p,rfl,(aH a0).symm,rfl,hr,a1,t0,λ_ _ h=>h,rfl,rfl},?_};rintro m τ L' ⟨J,I,rfl,rfl,hl,U,hh,t,l,a2,rfl⟩;have j:∀z,(qf L hp<|.lst z) o=some (.ins C<|pC hp):=λz=>(qc a3).trans ho;obtain⟨h,r⟩:∃h,J[I]?=some h:={_,An (by lia)};refine wu (j _) {xf.cl,xf.na,qj cN<|qb q9<|qj (vV r) ?_};by_cases c:h=I
 .subst c;refine aT (by show(!decide (((h:Nat):Int)=(h:Int)))=false;rw[AA rfl];rfl) ?_;have e:=t.YY r;subst e;exact xg<|q _ J hl U t0 l a2
 .refine dW (by show(!decide (((h:Nat):Int)=(I:Int)))=true;rw[AB (by lia)];rfl) ?_;refine{_,λ_ _ h=>h,?_};obtain⟨g,T⟩:∃g,J[h]?=some g:={_,An (U I h r).1};refine wu (j _) {xf.cl,xf.na,qj cN<|wu (j _) {xf.cl,xf.na,qj cN<|qb q9<|qj (vV r)<|qb q9<|qj (vV T) ?_}};refine wu (j _) {xf.cl,xf.na,qj cN<|qp q9<|qj (v:=I) ?_ ?_}
  .exact iX (by rw[xn];lia)
  rw[zh,J1];have es:(J.set I g)[I]?=some g:=we (by lia);refine wu (j _) {xf.cl,xf.na,qj cN<|qb q9<|qj (vV es) ?_};obtain⟨a4,a5⟩:=U.ZM r c T;refine{_,EL _,rk g,a5,J.set I g,g,rfl,rfl,by rw[Bn];exact hl,a4,?_,?_,λi s z=>jT U r c T (rk i+1) i s (Bz _)<|l i s z,by rw[TH U r c T];exact a2,rfl}
  .rw[<-hl];exact(U h g T).1
  .have t2:=jT U r c T (rk I+1) I r0 (Bz _) t;cases t2 with|root e2=>rw[es] at e2;cases e2;exact .root es|step e2 ab t3=>rw[es] at e2;cases e2;exact t3
inductive fH(C:Addr)(ys:_T)(L:qk)(Q:YK):Prop
 |mk:∀o hp,∀hs:XS,∀p q a b:Nat,∀pi qi:Int,(ys=[.ref o,.int pi,.int qi])->(pi=(p:Int))->(qi=(q:Int))->(L o=some (.ins C<|pC hp))->(L hp=some (.lst<|nY hs))->((∃rk,gu rk hs))->(aK hs p a)->(aK hs q b)->(p<hs.length)->(q<hs.length)->(∀fi,fi.length=hs.length->(∃rk,gu rk fi)->(∀i s,aK hs i s->aK fi i (if s=a then b else s))->(a=b->dz fi=dz hs)->(a≠b->dz fi+1=dz hs)->Q (.bl<|!decide (a=b)) (qf L hp<|.lst<|nY fi))->fH C ys L Q
def TN{K:Ak}(xf:ZR K C):_f (fH C) (oK K C<|iE C) 5:=by
 rintro ys L Q ⟨o,g,hs,p,q,a,b,pi,qi,rfl,rfl,rfl,l,U,⟨rk,hr⟩,ta,tb,t,a3,k⟩;have T:=Fm l U (λe=>by cases e);have I:∀z,(qf L g<|.lst z) o=some (.ins C<|pC g):=λz=>(qc T).trans l;refine wu l {rfl,ff,o,g,hs,p,_,rk,rfl,rfl,l,U,hr,t,λr1 a0 l1 k1 t1 r n1=>?_};cases t1.uniq ta;refine wu (I _) {rfl,ff,o,g,a0,q,_,rk,rfl,rfl,I _,q9,k1,by lia,λr2 J l2 k2 t2 a2 n2=>?_};cases t2.uniq (r _ _ tb);rw[zh];have ea:=(a2 _ _<|r _ _ ta).top;have eb:=(a2 _ _<|r _ _ tb).top;refine wu (I _) {xf.cl,xf.na,qj cN (qp q9 (qj (v:=a) (iX (by rw[xn];exact qz ea)) ?_))};rw[zh,J1];have e0:(decide<|(a:Int)=(b:Int))=decide (a=b):=by
  by_cases c:a=b
  .rw[AA c];exact AA (by lia)
  .rw[AB c];exact AB (by lia)
 show gB Q (.bl<|!decide ((a:Int)=(b:Int))) _;rw[e0];refine xg (k (J.set a b) (by rw[Bn];lia) (k2.join ea eb) (λi s z=>TJ ea eb<|a2 _ _<|r _ _ z) (λe=>?_) λne=>?_)
 .subst e;have:J.set a a=J:=by
   apply Dq;intro j;by_cases c:a=j
   .subst c;rw[we<|qz ea,ea]
   .rw[kh c]
  rw[this,n2,n1]
 .have:=TK ea eb ne;lia
def eV:RD "_law_cell_at" fA 0 ["_law_script","_law_k"] (λ_=>True):={_,λV B c _ _ _ _ _ _ _ I hN J=>(qa (zr (jv vQ (qv 1) (L_ B.ba<|qv 0)<|jt _) (qd<|qr<|I_ (qv 0)<|qv 1) qw)<|qd<|qr qe)}
def oB:RD "_law_mix" oW 0 ["_law_cell","_law_k","_law_factor"] (λ_=>True):={_,λV B c _ _ _ _ _ _ _ I hN J=>(qd<|qr<|ql wm (ql js (ql l5 (ql ja (ql ja (ql l5 (ql js (qv 0) qe) qe)<|ql l5 (qv 1)<|qv 1) qe)<|qv 2) qe) qe)}
def gK(J:ju):RR "_law_weight" gT 1 ["_law_word_here"] ["_law_word_here"] J (λ_=>True):={_,λV B c _ _ I _ _ _ _ _ _ U hN g=>(qa (zr (E_ g (L_ B.ba<|qv 0) qe) (qd<|qr qe) qw)<|qd<|qr<|ql ja (ql ja qe<|C_ I U<|jy<|J_ 0)<|C_ I U<|jy<|J_ 0)}
def lG(J:ju):RR "_law_word" l7 1 ["_law_knots","_law_p"] ["_law_knots","_law_p","_law_knot"] J (λ_=>True):={_,λV B c _ _ I _ _ _ _ _ _ U hN g=>(qa (S_ 2 hN<|I_ (qv 0)<|qv 1)<|qa (zr (E_ g (L_ B.ba<|qv 2) qe) (qd<|qr<|qv 2) qw)<|qd<|qr<|zj<|bq (J_ 2) (C_ I U<|ki (qv 0)<|J_ 2)<|C_ I U<|ki (qv 0)<|J_ 2)}
def sC(J U:ju):RR "word_at" rS 2 ["knots","place"] ["knots","place","knot"] U (λV=>Fw V J):={_,λV B c _ _ I _ _ _ _ _ _ g hN j=>(qa (S_ 2 hN<|I_ (qv 0)<|qv 1)<|qa (zr (v5<|C_ c g<|jy<|qv 2) (qd<|qr<|qv 2) qw)<|qd<|qr<|zj<|bq (J_ 2) (C_ I g<|ki (qv 0)<|J_ 2)<|C_ I g<|ki (qv 0)<|J_ 2)}
inductive dO(ys:_T)(L:qk)(Q:YK):Prop
 |mk:∀ns:XX,∀k:Int,(ys=[.sq<|ns.map Y.int,.int k])->(0<=k)->(∀v,Q (.int v) L)->dO ys L Q
def yi:_f dO eV.1 2:=by rintro ys L Q ⟨I,k,rfl,U,q⟩;refine zp (λc=>?_) λc=>xg<|q 0;have J:=c;rw[Ah] at J;obtain⟨j,rfl⟩:∃j:Nat,k=(j:Int):={k.toNat,by lia};have e:dZ (I.map Y.int) (j:Int)=some (Y.int<|I[j]'(by omega)):=aX<|An _;walk_at "w";rw[e];exact xg<|q _
inductive eM(ys:_T)(L:qk)(Q:YK):Prop
 |mk:∀c k f:Int,(ys=[.int c,.int k,.int f])->(0<=k)->(k<1000000)->(0<f)->(f<1000000)->(∀v,0<=v->v<134217728->Q (.int v) L)->eM ys L Q
def TQ:_f eM oB.1 3:=by
 rintro ys L Q ⟨c,k,f,rfl,I,J,U,g,q⟩;refine{(by decide:(0:Int)<1000003),.inr {by decide,by decide},.inl {by lia,by lia},.inr {by lia,by lia},(by decide:(0:Int)<2147483647),{by decide,by decide},xg<|q _ ?_ ?_}
 all_goals
  generalize ((c % 1000003*7+k*k+1)*f)=z;lia
def TR(cs:XS):(Txt.join ""<|cs.map λc=>({#[c]}:Str)).cps.toList=cs:=by
 rw[tS]
 induction cs with|nil=>rfl|cons c r I=>rw[AQ,Bc,I];rfl
inductive aG(n:Nat)(ys:_T)(L:qk)(Q:YK):Prop
 |mk:∀wd,(ys=[cI wd])->(wd.depth<=n)->(Q (.int wd.size) L)->aG n ys L Q
def oq:∀ys L Q,¬aG 0 ys L Q:=by rintro ys L Q ⟨I,_,hd,_⟩;cases I<;>simp[Wd.depth] at hd
def TU(n:Nat):_f (aG (n+1)) (gK<|aG n).1 1:=by
 rintro ys L Q ⟨I,rfl,hd,q⟩;cases I with
 |leaf t n=>exact xg q
 |node e l r=>
  have J:max l.depth r.depth+1<=n+1:=hd;refine{l,rfl,by lia,r,rfl,by lia,xg ?_};have e:(1+(l.size:Int)+(r.size:Int))=(((Wd.node e l r).size:Nat):Int):=by show _=((1+l.size+r.size:Nat):Int);rfl
  rw[e];exact q
def KW(ks:_T):Nat->Wd->Prop
 |p,.leaf t n=>ks[p]?=some (.tup [.str<|kL t,.str n])
 |p,.node e l r=>∃i j:Nat,ks[p]?=some (.tup [.str<|kN e,.int i,.int j])/\KW ks i l/\KW ks j r
theorem KW.more{ks:_T}(ms:_T):∀{wd:Wd} {p:Nat},KW ks p wd->KW (ks++ms) p wd
 |.leaf _ _,p,h=>by have I:ks[p]?=some _:=h;show(ks++ms)[p]?=some _;rw[AH (AN.mp I).1];exact I
 |.node _ _ _,p,ψ=>(by obtain⟨i,j,h,a,b⟩:=ψ;exact {i,j,by rw[AH (AN.mp h).1];exact h,KW.more ms a,KW.more ms b})
inductive x6(n:Nat)(ys:_T)(L:qk)(Q:YK):Prop
 |mk:∀k ks p wd,(ys=[.ref k,.int ((p:Nat):Int)])->(L k=some (.lst ks))->(KW ks p wd)->(wd.depth<=n)->(Q (cI wd) L)->x6 n ys L Q
def oU:∀ys L Q,¬x6 0 ys L Q:=by rintro ys L Q ⟨k,J,p,I,_,_,_,hd,_⟩;cases I<;>simp[Wd.depth] at hd
def uL:∀ys L Q,¬x6 0 ys L Q:=oU
def yr(n:Nat):_f (x6 (n+1)) (sC aD<|x6 n).1 3:=by
 rintro ys L Q ⟨k,J,p,U,rfl,I,h,hd,q⟩;cases U with
 |leaf t nm=>exact qb I<|qj (jo h) {true,t,_,rfl,xg q}
 |node e l r=>
  obtain⟨i,j,h,g,o⟩:=h;have C:max l.depth r.depth+1<=n+1:=hd;exact qb I<|qj (jo h) {false,e,_,rfl,k,J,i,l,rfl,I,g,by lia,k,J,j,r,rfl,I,o,by lia,xg q}
def vJ(n:Nat):_f (x6 (n+1)) (lG<|x6 n).1 3:=by
 rintro ys L Q ⟨k,J,p,U,rfl,I,h,hd,q⟩;cases U with
 |leaf t nm=>exact qb I<|qj (jo h)<|xg q
 |node e l r=>
  obtain⟨i,j,h,g,o⟩:=h;have C:max l.depth r.depth+1<=n+1:=hd;exact qb I<|qj (jo h) {k,J,i,l,rfl,I,g,by lia,k,J,j,r,rfl,I,o,by lia,xg q}
def s_(l:XS):Str:={(l.toArray)}
def J2(x:Str):s_ x.cps.toList=x:=by cases x;rfl
def J3(J:ju):RR "_law_flip" lM 1 ["_law_word_here"] ["_law_word_here","_law_sides"] J (λ_=>True):={_,λV B c _ _ I _ _ _ _ _ _ U hN g=>(qa (S_ 1 hN<|RK [ ("plain" ,"turned") ,("turned" ,"plain") ,("both" ,"either") ,("either" ,"both") ] (iG dQ dQ<|iG dQ dQ<|iG dQ dQ<|iG dQ dQ PK) rfl rfl (List.cons_ne_nil _ _)<|Dw rfl)<|qa (zr (E_ g (L_ B.ba<|qv 0) qe) (qd<|qr<|zj<|ki (I_ (qv 1)<|J_ 0)<|J_ 0) qw)<|qd<|qr<|zj<|bq (I_ (qv 1)<|J_ 0) (C_ I U<|jy<|J_ 0)<|C_ I U<|jy<|J_ 0)}
def TX(I:ju)(p1:ju):cH:=(je (cY (y_ (xO 1)<|gJ 2) (je (bC<|mC vi (qh 0)<|qt (jg I<|bv<|qh 1) x8)
 (je (bC<|mC vi (qh 0)<|bv<|qh 1)
 (cJ<|gG<|qt (mK<|qt (r_ "link")<|qt (ku Et (xO 0)<|gJ 2)<|qt (ku Et (xO 0)<|gJ 1) x8)<|qt (ku Et (xO 0)<|gJ 2)<|qt (ku Et (xO 0)<|gJ 1) x8))) a6)
 (je (vv (jg p1<|rm (qh 0)<|gE 1 1)<|qo 2)
 (je (vv (jg p1<|rm (qh 0)<|gE 1 2)<|qo 3)
 (je (bC<|mC vi (qh 0)<|qt (mK<|qt (ku iH (jg I<|bv<|qh 1)<|gJ 0)<|rm (gE 2 1)<|gE 3 1) x8)
 (je (bC<|mC vi (qh 0)<|qt (mK<|qt (gE 1 0)<|rm (gE 2 2)<|gE 3 2) x8)
 (je (IG 4 5<|qt (ku Et (xO 0)<|gJ 2)<|qt (ku Et (xO 0)<|gJ 1) x8)
 (je (vv (GN (y_ (gE 1 0)<|r_ "either") (qh 4)<|qh 5)<|qo 6)
 (je (vv (GN (y_ (gE 1 0)<|r_ "either") (qh 5)<|qh 4)<|qo 7)
 (cJ<|gG<|qt (mK<|qt (r_ "either")<|qt (qh 7)<|qt (mK<|qt (r_ "both")<|qt (qh 6)<|rm (gE 2 0)<|gE 3 0) x8)<|rm (qh 4)<|qh 5)))))))))
set_option genInjectivity true in
inductive Kn where
 |lf (t:Bool) (n:Str)|nd (e:Bool) (i j:Nat)
abbrev Yh:=Option Kn
abbrev Yg:=List Kn
def qH:Kn->Y
 |.lf t n=>.tup [.str<|kL t,.str n]
 |.nd e i j=>.tup [.str<|kN e,.int ((i:Nat):Int),.int ((j:Nat):Int)]
inductive Ru where
 |link (p q:Nat)|ei (r:Nat) (A:Ru)|bo (r:Nat) (A B:Ru)|cu (p q:Nat) (A B:Ru)
def j8:Ru->Y
 |.link p q=>.tup [.str "link",.int ((p:Nat):Int),.int ((q:Nat):Int)]
 |.ei r A=>.tup [.str "either",.int ((r:Nat):Int),j8 A]
 |.bo r A B=>.tup [.str "both",.int ((r:Nat):Int),j8 A,j8 B]
 |.cu p q A B=>.tup [.str "cut",.int ((p:Nat):Int),.int ((q:Nat):Int),j8 A,j8 B]
def qu:Ru->XS
 |.link p q=>[p,q]
 |.ei r A=>r::qu A
 |.bo r A B=>r::(qu A++qu B)
 |.cu _ _ A B=>qu A++qu B
abbrev kq(ks:Yg):_T:=ks.map qH
def du(ks:Yg)(p:Nat)(w:Wd):Prop:=KW (kq ks) p w
theorem du.more{ks:Yg}{w:Wd}(h:du ks p w)(ms:Yg):du (ks++ms) p w:=by unfold du kq;rw[AI];exact KW.more _ h
def ef(ks:Yg):Prop:=∀(p:Nat) (k:Kn),ks[p]?=some k->match k with
 |.lf _ n=>eJ n
 |.nd _ i j=>i<p/\j<p
def ef.snoc{ks:Yg}{k:Kn}(h:ef ks)(I:match k with|.lf _ n=>eJ n|.nd _ i j=>i<ks.length/\j<ks.length):ef (ks++[k]):=by
 intro p J e;by_cases c:p<ks.length
 .rw[AH c] at e;exact h p J e
 .rw[AL<|FH] at e;have U:p=ks.length:=by
   by_cases g:p-ks.length=0
   .omega
   .rw[B0 (by simp;exact Fl)] at e;cases e
  subst U;rw[DN] at e;cases e;exact I
def fJ(l:List α)(x:α)(r:List α):(l++x::r)[l.length]?=some x:=by rw[AL<|Ap _,DN];rfl
def kE{l r:List α}{x:α}(h:l[p]?=some x):(l++r)[p]?=some x:=by rw[AH (AN.mp h).1];exact h
inductive SR(ks:Yg):Ru->XS->Prop
 |link {p q:Nat} {t:Bool} {n:Str} {E:XS}:p<q->ks[p]?=some (.lf t n)->ks[q]?=some (.lf (!t) n)->(∀x,x∈E↔x=p\/x=q)->E.Nodup->SR ks (.link p q) E
 |ei {r i j:Nat} {A:Ru} {EA E:XS}:ks[r]?=some (.nd true i j)->SR ks A EA->i∈EA->j∈EA->i≠j->(∀x,x∈E↔(x∈EA/\x≠i/\x≠j)\/x=r)->E.Nodup->SR ks (.ei r A) E
 |bo {r i j:Nat} {A B:Ru} {EA EB E:XS}:ks[r]?=some (.nd false i j)->SR ks A EA->SR ks B EB->i∈EA->j∈EB->(∀x,x∈E↔(x∈EA/\x≠i)\/(x∈EB/\x≠j)\/x=r)->E.Nodup->SR ks (.bo r A B) E
 |cu {p q:Nat} {A B:Ru} {EA EB E:XS} {w:Wd}:SR ks A EA->SR ks B EB->p∈EA->q∈EB->du ks p w->du ks q w.turn->(∀x,x∈E↔(x∈EA/\x≠p)\/(x∈EB/\x≠q))->E.Nodup->SR ks (.cu p q A B) E
theorem SR.more{ks:Yg}{R:Ru}{E:XS}(h:SR ks R E)(ms:Yg):SR (ks++ms) R E:=by induction h with|link j r l I J=>exact .link j (kE r) (kE l) I J|ei j _ l I J o p t=>exact .ei (kE j) t l I J o p|bo j _ _ I J o p U g=>exact .bo (kE j) U g I J o p|cu _ _ l I J o p C U g=>exact .cu U g l I (J.more ms) (o.more ms) p C
def SR.sub{ks:Yg}{R:Ru}{E:XS}(h:SR ks R E):∀x∈E,x∈qu R:=by
 induction h with
 |link _ _ _ j _=>intro x I;rcases (j x).mp I with rfl|rfl<;>simp[qu]
 |ei _ _ _ _ _ g _ l=>intro x I;rcases (g x).mp I with⟨h,_⟩|rfl;exact Ac _<|l x h;exact Ai ..
 |bo _ _ _ _ _ g _ J U=>
  intro x I;rcases (g x).mp I with⟨h,_⟩|⟨h,_⟩|rfl
  .exact Ac _<|Am _<|J x h
  .exact Ac _<|Ae _<|U x h
  .exact Ai ..
 |cu _ _ _ _ _ _ o _ J U=>
  intro x I;rcases (o x).mp I with⟨h,_⟩|⟨h,_⟩
  .exact Am _<|J x h
  .exact Ae _<|U x h
inductive aO(n:Nat)(ys:_T)(L:qk)(Q:YK):Prop
 |mk:∀wd,(ys=[cI wd])->(wd.depth<=n)->(Q (cI wd.turn) L)->aO n ys L Q
def TY:∀ys L Q,¬aO 0 ys L Q:=by rintro ys L Q ⟨I,_,hd,_⟩;cases I<;>simp[Wd.depth] at hd
def y8(t:Bool):wv ([(("plain" : Str),("turned" : Str)),("turned","plain"),("both","either"),("either","both")].map λp=>((Sum.inr p.1:jb),Y.str p.2)) (Sum.inr<|kL t)=some (.str<|kL<|!t):=kZ<|TB t
def xX(t:Bool):wv ([(("plain" : Str),("turned" : Str)),("turned","plain"),("both","either"),("either","both")].map λp=>((Sum.inr p.1:jb),Y.str p.2)) (Sum.inr<|kN t)=some (.str<|kN<|!t):=kZ<|TC t
def TZ(n:Nat):_f (aO (n+1)) (J3<|aO n).1 2:=by
 rintro ys L Q ⟨J,rfl,hd,q⟩;intro p I;cases J with
 |leaf t nm=>
  refine kn q9<|qj (y8 t) ?_;exact fC (By I) q
 |node e l r=>
  have U:max l.depth r.depth+1<=n+1:=hd;refine kn q9<|qj (xX e) ?_;refine{l,rfl,by lia,r,rfl,by lia,?_};exact fC (By I) q
structure At(ks:Yg)(w:Wd)(ms:Yg)(R:Ru)(tp sp:Nat):Prop where
 len:ms.length=2*w.size
 sr:SR (ks++ms) R [tp,sp]
 wt:du (ks++ms) tp w.turn
 ws:du (ks++ms) sp w
 tm:∀x,x∈qu R↔ks.length<=x/\x<ks.length+ms.length
 nd:(qu R).Nodup
 ok:ef (ks++ms)
def du.leaf{ks:Yg}{n:Str}(h:ks[p]?=some (.lf t n)):du ks p (.leaf t n):=by show(kq ks)[p]?=_;rw[Aq,h];rfl
def du.node{ks:Yg}{e:Bool}{l r:Wd}(h:ks[p]?=some (.nd e i j))(I:du ks i l)(J:du ks j r):du ks p (.node e l r):=by refine{i,j,?_,I,J};rw[Aq,h];rfl
abbrev E5:=@du.node
def uz{ks:Yg}(g:ef ks){n:Str}(I:eJ n):At ks (.leaf t n) [.lf (!t) n,.lf t n] (.link ks.length<|ks.length+1) ks.length (ks.length+1):=by
 have J:(ks++[Kn.lf (!t) n,.lf t n])[ks.length]?=some (.lf (!t) n):=fJ _ _ _;have U:(ks++[Kn.lf (!t) n,.lf t n])[ks.length+1]?=some (.lf t n):=by have:=fJ (ks++[Kn.lf (!t) n]) (Kn.lf t n) [];rw[Ab,AC] at this;exact this
 refine{rfl,.link (t:=!t) (n:=n) (Bz _) J (by rw[DO];exact U) (by simp) (by simp),du.leaf J,du.leaf U,λx=>?_,by simp[qu],?_}
 .show x∈[ks.length,ks.length+1]↔ks.length<=x/\x<ks.length+2;simp;lia
 .have:=(g.snoc (k:=.lf (!t) n) I).snoc (k:=.lf t n) I;rw[AC] at this;exact this
def SR.Zn{ks:Yg}{R:Ru}{E:XS}(h:SR ks R E):E.Nodup:=by cases h<;>assumption
def T0{x h lo a r N:Nat}(I:(h=N/\lo=N+1)\/(h=N+1/\lo=N))(hN:N=a+m+r):x=h\/x=lo\/(a<=x/\x<a+m)\/a+m<=x/\x<a+m+r↔a<=x/\x<N+2:=by subst hN;rcases I with⟨rfl,rfl⟩|⟨rfl,rfl⟩<;>lia
def T3{x a b c d N:Nat}(h:a≠b)(k:c≠d):x∈[b,d,N]↔(x∈[a,b]/\x≠a)\/(x∈[c,d]/\x≠c)\/x=N:=by simp only[Ao,Bo,or_false];lia
def T4{x a b c d N:Nat}(h:a≠b)(k:c≠d):x∈[a,c,N]↔(x∈[a,b]/\x≠b)\/(x∈[c,d]/\x≠d)\/x=N:=by simp only[Ao,Bo,or_false];lia
def T5{x a b N M:Nat}(h:a<N)(k:b<N):x∈[N,M]↔(x∈[a,b,N]/\x≠a/\x≠b)\/x=M:=by simp only[Ao,Bo,or_false];lia
def T6{x a b N M:Nat}(h:a<N)(k:b<N):x∈[M,N]↔(x∈[a,b,N]/\x≠a/\x≠b)\/x=M:=by simp only[Ao,Bo,or_false];lia
def J4{a b N:Nat}(h:a<N)(k:b<N)(d:a≠b):[a,b,N].Nodup:=by rw[AD,AD];simp;lia
def T7{a r N t s u v:Nat}(I:a<=t/\t<a+m)(J:a<=s/\s<a+m)(b1:a+m<=u/\u<a+m+r)(b2:a+m<=v/\v<a+m+r)(hN:N=a+m+r):t<N/\s<N/\u<N/\v<N/\t≠u/\s≠v:=by lia
def J5{h lo a r N:Nat}(I:(h=N/\lo=N+1)\/(h=N+1/\lo=N))(hN:N=a+m+r):¬(h=lo\/(a<=h/\h<a+m)\/a+m<=h/\h<a+m+r)/\¬((a<=lo/\lo<a+m)\/a+m<=lo/\lo<a+m+r):=by lia
def T9{x y a r:Nat}(h1:a<=x/\x<a+m)(h2:a+m<=y/\y<a+m+r)(e:x=y):False:=by lia
def Ua{ks I g:Yg}{e:Bool}{l r:Wd}{A B:Ru}{tl J tr U:Nat}(p:At ks l I A tl J)(o:At (ks++I) r g B tr U){N:Nat}(hN:N=ks.length+(I++g).length):
 At ks (.node e l r) (I++g++[.nd (!e) tl tr,.nd e J U]) (.ei (if e=true then N+1 else N)<|.bo (if e=true then N else N+1) A B) N (N+1):=by
 have hA:∀x∈[tl,J],ks.length<=x/\x<ks.length+I.length:=λx T=>(p.tm x).mp<|p.sr.sub x T;have hB:∀x∈[tr,U],ks.length+I.length<=x/\x<ks.length+I.length+g.length:=λx T=>by have:=(o.tm x).mp<|o.sr.sub x T;rw[Ab] at this;exact this
 have a1:=hA tl (by simp);have a2:=hA J (by simp);have b1:=hB tr (by simp);have b2:=hB U (by simp);have nA:tl≠J:=by have:=p.sr.Zn;simpa using this
 have nB:tr≠U:=by have:=o.sr.Zn;simpa using this
 have t:N=ks.length+I.length+g.length:=by rw[hN,Ab];simp +arith only
 obtain⟨d1,d2,d3,d4,d5,d6⟩:=T7 a1 a2 b1 b2 t;generalize j:ks++(I++g++[Kn.nd (!e) tl tr,.nd e J U])=K;have k1:K=(ks++I)++(g++[Kn.nd (!e) tl tr,.nd e J U]):=by rw[<-j];simp
 have k2:K=((ks++I)++g)++[Kn.nd (!e) tl tr,.nd e J U]:=by rw[<-j];simp
 have k3:K=(((ks++I)++g)++[Kn.nd (!e) tl tr])++[.nd e J U]:=by rw[<-j];simp
 have l2:((ks++I)++g).length=N:=by rw[Ab,Ab];lia
 have g1:K[N]?=some (.nd (!e) tl tr):=by rw[k2,<-l2];exact fJ _ _ _
 have g2:K[N+1]?=some (.nd e J U):=by
  have l3:(((ks++I)++g)++[Kn.nd (!e) tl tr]).length=N+1:=by rw[Ab,l2];rfl
  rw[k3,<-l3];exact fJ _ _ _
 have sA:SR K A [tl,J]:=by rw[k1];exact p.sr.more _
 have sB:SR K B [tr,U]:=by rw[k2];exact o.sr.more _
 have a0:ef K:=by have o1:=o.ok.snoc (k:=.nd (!e) tl tr) (by rw[l2];exact{(d1),d3});have o2:=o1.snoc (k:=.nd e J U) (by rw[Ab,l2];exact{B8 d2,B8 d4});rw[k3];exact o2
 have tA:=p.tm;have tB:=o.tm;rw[Ab] at tB;have wt:=E5 g1 (by rw[k1];exact p.wt.more _) (by rw[k2];exact o.wt.more _);have a3:=E5 g2 (by rw[k1];exact p.ws.more _) (by rw[k2];exact o.ws.more _);have C:(I++g++[Kn.nd (!e) tl tr,.nd e J U]).length=2*(Wd.node e l r).size:=by have h1:=p.len;have h2:=o.len;show _=2*(1+l.size+r.size);rw[Ab,Ab];simp;lia
 have lt:ks.length+(I++g++[Kn.nd (!e) tl tr,.nd e J U]).length=N+2:=by rw[Ab];simp[hN];rfl
 have tt:∀h lo:Nat,(h=N/\lo=N+1)\/(h=N+1/\lo=N)->(∀x,x∈qu (.ei h<|.bo lo A B)↔ks.length<=x/\x<ks.length+(I++g++[Kn.nd (!e) tl tr,.nd e J U]).length)/\(qu<|.ei h<|.bo lo A B).Nodup:=by
  intro h lo hh;constructor
  .intro x;rw[lt];show x∈h::lo::(qu A++qu B)↔_;rw[Ao,Ao,Ag,tA,tB];exact T0 hh t
  .show(h::lo::(qu A++qu B)).Nodup;rw[AD,AD,AG];refine{?_,?_,p.nd,o.nd,λx T y hy e=>?_}
   .rw[Ao,Ag,tA,tB];exact(J5 hh t).1
   .rw[Ag,tA,tB];exact(J5 hh t).2
   .exact T9 ((tA x).mp T) ((tB y).mp hy) e
 cases e with
 |true=>
  have s1:SR K (.bo N A B) [J,U,N]:=by exact .bo g1 sA sB (by simp) (by simp) (λx=>T3 nA nB)<|J4 d2 d4 d6
  have s2:SR K (.ei (N+1)<|.bo N A B) [N,N+1]:=by exact .ei g2 s1 (by simp) (by simp) d6 (λx=>T5 d2 d4) (by simp)
  obtain⟨t1,t2⟩:=tt (N+1) N<|.inr {(rfl),rfl};exact{C,by rw[j];exact s2,by rw[j];exact wt,by rw[j];exact a3,t1,t2,by rw[j];exact a0}
 |false=>
  have s1:SR K (.bo (N+1) A B) [tl,tr,N+1]:=by exact .bo g2 sA sB (by simp) (by simp) (λx=>T4 nA nB)<|J4 (B8 d1) (B8 d3) d5
  have s2:SR K (.ei N<|.bo (N+1) A B) [N,N+1]:=by exact .ei g1 s1 (by simp) (by simp) d5 (λx=>T6 (B8 d1)<|B8 d3) (by simp)
  obtain⟨t1,t2⟩:=tt N (N+1)<|.inl {(rfl),rfl};exact{C,by rw[j];exact s2,by rw[j];exact wt,by rw[j];exact a3,t1,t2,by rw[j];exact a0}
inductive w4(n:Nat)(ys:_T)(L:qk)(Q:YK):Prop
 |mk:∀a,∀ks:Yg,∀w:Wd,(ys=[.ref a,cI w])->(L a=some (.lst<|kq ks))->(w.depth<=n)->(n<=120)->(w.ok)->(ef ks)->(ks.length+2*w.size<=10000)->(∀ms R tp sp p,L p=none->At ks w ms R tp sp->Q (.ref p) (qf (qf L a<|.lst<|kq<|ks++ms) p<|.lst [j8 R,.int ((tp:Nat):Int),.int ((sp:Nat):Int)]))->w4 n ys L Q
def Ub:∀ys L Q,¬w4 0 ys L Q:=by rintro ys L Q ⟨a,J,I,_,_,hd,_⟩;cases I<;>simp[Wd.depth] at hd
def J6{a p:Addr}{o x y:LO}(I:L a=some o)(hp:L p=none):qf (qf L a x) p y a=some x/\qf (qf L a x) p y p=some y/\∀b u,b≠a->L b=some u->qf (qf L a x) p y b=some u:=
 ⟨(qc<|w6 I hp).trans q9,q9,λ_ _ n e=>(qc<|w6 e hp).trans<|(qc n).trans e⟩
def vN{a p:Addr}{o x:LO}(I:L a=some o)(hp:qf L a x p=none):L p=none:=by
 have:p≠a:=λe=>by rw[e,q9] at hp;cases hp
 rw[qc this] at hp;exact hp
def a_:∀m:Nat,m<=20000->m<sizeLine:=λm h=>BN h (by decide)
def Uc{FS:ju}(hF:∀ys L Q,aO 120 ys L Q->FS ys L Q)(n:Nat):_f (w4 (n+1)) (TX FS<|w4 n) 8:=by
 rintro ys L Q ⟨a,I,w,rfl,ha,hd,hn,C,hk,hb,q⟩;have big:=a_;cases w with
 |leaf t nm=>
  have hb:=hb;refine qb ha (hF _ _ _ {.leaf t nm,rfl,Cf _,qp ha {big _ (by rw[Ah];lia),?_}});refine qb q9 (qp q9 {big _ (by rw[Ab,Ah];simp;lia),?_});rw[zh];obtain⟨W,T⟩:∃W,W=kq (I++[Kn.lf (!t) nm,.lf t nm]):={_,rfl};have e1:(kq I++[cI (Wd.leaf t nm).turn])++[cI<|.leaf t nm]=W:=by rw[T];unfold kq;rw[AI,AC];rfl
  have e2:W.length=I.length+2:=by rw[T,Ah,Ab];rfl
  have i1:((W.length:Nat):Int)-2=((I.length:Nat):Int):=by rw[e2];lia
  have i2:((W.length:Nat):Int)-1=((I.length+1:Nat):Int):=by rw[e2];lia
  have ac:=e1
  first|rw[e1]|rw[ac]
  refine qb q9<|qb q9<|qb q9<|qb q9 λp J=>?_;have np:=vN ha J;have:=q _ _ _ _ p np<|uz hk C;rw[<-T] at this;show gB Q (.ref p) (qf _ p<|.lst [.tup [.str "link",.int<|((W.length:Nat):Int)-2,.int<|((W.length:Nat):Int)-1],.int<|((W.length:Nat):Int)-2,.int<|((W.length:Nat):Int)-1]);rw[i1,i2];exact xg this
 |node e l r=>
  have au:max l.depth r.depth+1<=n+1:=hd;have hb:I.length+2*(1+l.size+r.size)<=10000:=hb;refine{a,I,l,rfl,ha,by lia,jM,C.1,hk,by lia,λU A tl sl p1 a4 ML=>?_};obtain⟨g,g1,o1⟩:=J6 (x:=.lst<|kq<|I++U) (y:=.lst [j8 A,.int ((tl:Nat):Int),.int ((sl:Nat):Int)]) ha a4;have a5:=AJ<|w6 ha a4;have av:=ML.len;generalize qf (qf L a<|.lst<|kq<|I++U) p1 _=L1 at g g1 o1 ⊢;refine{a,I++U,r,rfl,g,by lia,jM,C.2,ML.ok,by rw[Ab];lia,λj B tr sr p2 ab MR=>?_};obtain⟨a0,h2,o2⟩:=J6 (x:=.lst<|kq<|(I++U)++j) (y:=.lst [j8 B,.int ((tr:Nat):Int),.int ((sr:Nat):Int)]) g ab;have al:=AJ<|w6 g ab;have h1:=o2 _ _ a5 g1;have ax:=MR.len;generalize qf (qf L1 a<|.lst<|kq<|(I++U)++j) p2 _=L2 at a0 h1 h2 o2 ⊢;have aL:(kq<|(I++U)++j).length=I.length+U.length+j.length:=by rw[Ah,Ab,Ab]
  refine qb a0<|hF _ _ _ {.node e l r,rfl,by exact Fi,qb h1<|qb h2<|qp a0 {big _ (by lia),?_}};have a1:=λo=>(qc (L:=L2) (o:=o) a5).trans h1;have a2:=λo=>(qc (L:=L2) (o:=o) al).trans h2;refine qb q9 (qb (a1 _) (qb (a2 _) (qp q9 {big _ (by rw[Ab];simp;lia),?_})));rw[zh];obtain⟨N,hN⟩:∃N,N=I.length+(U++j).length:={_,rfl};have M:=Ua (e:=e) ML MR hN;obtain⟨W,T⟩:∃W,W=kq (I++(U++j++[.nd (!e) tl tr,.nd e sl sr])):={_,rfl};have e1:(kq ((I++U)++j)++[.tup [.str<|kN<|!e,.int ((tl:Nat):Int),.int ((tr:Nat):Int)]])++[.tup [.str<|kN e,.int ((sl:Nat):Int),.int ((sr:Nat):Int)]]=W:=by rw[T];unfold kq;simp[qH]
  rw[e1];have lN:W.length=N+2:=by rw[T,Ah,Ab,Ab,hN];simp;rfl
  have i1:((W.length:Nat):Int)-2=((N:Nat):Int):=by rw[lN];lia
  have i2:((W.length:Nat):Int)-1=((N+1:Nat):Int):=by rw[lN];lia
  refine qb q9<|qb q9 ?_;have done:∀p,qf L2 a (.lst W) p=none->∀R,At I (.node e l r) (U++j++[Kn.nd (!e) tl tr,.nd e sl sr]) R N (N+1)->
   gB Q (.ref p) (qf (qf L2 a<|.lst W) p<|.lst [j8 R,.int ((N:Nat):Int),.int ((N+1:Nat):Int)]):=λp J R MM=>by
   have a3:p≠a:=λz=>by rw[z,q9] at J;cases J
   rw[qc a3] at J;have np:L p=none:=by cases z:L p with|none=>rfl|some o=>rw[o2 p o a3<|o1 p o a3 z] at J;cases J
   refine fC ?_<|q _ _ _ _ p np MM;rw[<-T];intro b o z;by_cases c1:b=p
   .subst c1;rw[q9] at z ⊢;exact z
   .rw[qc c1] at z ⊢;by_cases c2:b=a
    .subst c2;rw[q9] at z ⊢;exact z
    .rw[qc c2] at z ⊢;exact o2 b o c2<|o1 b o c2 z
  cases e with
  |true=>
   walk_at "w";refine qb (a1 _)<|qb (a2 _) λp J=>?_;show gB Q (.ref p) (qf _ p<|.lst [.tup [.str "either",.int<|((W.length:Nat):Int)-1,.tup [.str "both",.int<|((W.length:Nat):Int)-2,j8 A,j8 B]],.int<|((W.length:Nat):Int)-2,.int<|((W.length:Nat):Int)-1]);rw[i1,i2];exact done p J _ M
  |false=>
   walk_at "w";refine qb (a1 _)<|qb (a2 _) λp J=>?_;show gB Q (.ref p) (qf _ p<|.lst [.tup [.str "either",.int<|((W.length:Nat):Int)-2,.tup [.str "both",.int<|((W.length:Nat):Int)-1,j8 A,j8 B]],.int<|((W.length:Nat):Int)-2,.int<|((W.length:Nat):Int)-1]);rw[i1,i2];exact done p J _ M
variable {As F:List Ru}{R:Ru}{ks wd:List<|Option Kn}{ms:List Kn}
def oZ(I:ju):RD "parts_of" oY 1 ["knot"] (λV=>Fw V I):={_,λV B c _ _ _ _ _ _ _ J hN U=>(qa (zr (bK<|rR (oO<|qv 0)<|oE<|v5<|C_ c J<|jy<|qv 0) (qd<|qr<|jm wz) qw)<|qd<|qr<|jm<|ki (J_ 0)<|J_ 0)}
def fP:RD "places_there" fB 0 ["knots"] (λ_=>True):={_,λV B c _ _ _ _ _ _ _ I hN J=>(qd<|qr<|gN ["place","knot" ] (ES (by rfl)) rfl (dJ rfl B.bg<|qv 0) (JN 1) (λ_ _ _ _=>bU<|da<|qv 2) λ_ _ _ _=>(qv 1))}
def hV:RD "eithers_of" iM 0 ["web"] (λ_=>True):={_,λV B c _ _ _ _ _ _ _ J hN I=>(qd<|qr<|gN ["place","knot" ] (ES (by rfl)) rfl (dJ rfl B.bg<|J_ 0) (JN 1) (λ_ _ _ _=>bU<|bK<|bn (da<|qv 2)<|aS<|E_ I (J_ 2) jk) λ_ _ _ _=>(qv 1))}
def pF(I:ju):RD "boths_of" oH 1 ["web"] (λV=>G8 V I):={_,λV B c _ _ _ _ _ _ _ J hN U=>(qd<|qr<|gN ["place"] (ES (by rfl)) rfl (vk<|C_ c J<|jy<|J_ 0) (sJ 1) (λ_ _ _ _=>bU<|E_ U (I_ (I_ (J_ 0)<|qv 1) qe) jk) λ_ _ _ _=>(qv 1))}
def iW(I:ju):RD "part_edges" iJ 2 ["knots","places","edges","place"] (λV=>G9 V I):={_,λV B c _ _ _ _ _ _ _ J hN U=>(qa (S_ 2 hN<|jm wz)<|qa (w5 pK rfl (vk<|qv 1) (dP (i:=3) hN rfl<|Or.inr rfl)<|qd<|zf<|RE (qv 2)<|jy<|gN ["part"] (ES (by rfl)) rfl (vk<|C_ c J<|jy<|I_ (qv 0)<|qv 3) (sJ 4) (λ_ _ _ _=>gt) λ_ _ _ _=>(zj<|ki (qv 3)<|qv 4))<|qd<|qr<|qv 2)}
def o7(I:ju)(J:ju):RD "joins_of" nU 3 ["web"] (λV=>Jq V I/\Jp V J):={_,λV B c _ _ _ _ _ _ _ U hN g=>(qd<|qr<|ql ja (ql ja (J_ 0)<|J_ 0)<|C_ c.1 U<|ki (J_ 0)<|C_ c.2 U<|jy<|qv 0)}
def eI:Yh->Y
 |none=>.KB
 |some k=>qH k
abbrev xx(ks:List<|Yh):_T:=ks.map eI
def zm:Yh->XS
 |some (.nd _ i j)=>[i,j]
 |_=>[]
inductive bX(ys:_T)(L:qk)(Q:YK):Prop
 |mk:∀k:Yh,(ys=[eI k])->(∀p,L p=none->Q (.ref p) (qf L p<|.lst<|nY<|zm k))->bX ys L Q
def Ud:_f bX (oZ aD).1 1:=by
 rintro ys L Q ⟨k,rfl,q⟩;cases k with
 |none=>exactλp I=>xg<|q p I
 |some k=>
  cases k with|lf t n=>exact{true,t,_,rfl,λp I=>xg<|q p I}|nd e i j=>exact{false,e,_,rfl,λp I=>xg<|q p I}
def ij(f:Yh->Bool)(ks:List<|Yh)(i:Nat):XS:=(List.range i).filter λp=>match ks[p]? with
 |some k=>f k
 |none=>false
def br{f:Yh->Bool}{k:Yh}(h:ks[i]?=some k):ij f ks (i+1)=ij f ks i++if f k=true then [i] else []:=by unfold ij;rw[CP,BC];congr 1;rw[B5];simp only[h,Ce]
def dk{f:Yh->Bool}(h:p∈ij f ks i):p<i/\∃k,ks[p]?=some k/\f k=true:=by
 unfold ij at h;obtain⟨J,I⟩:=AF.mp h;refine{AM.mp J,?_};split at I
 .rename_i k e;exact{(k),e,I}
 .cases I
def dX(f:Yh->Bool)(ks:List<|Yh)(i:Nat):(ij f ks i).length<=i:=by unfold ij;exact AS (CQ _ _) (by rw[Bb];simp +arith only)
def df:Yh->Bool
 |some _=>true
 |none=>false
def wo(e:Bool):Yh->Bool
 |some (.nd I _ _)=>decide<|I=e
 |_=>false
abbrev zc(ks:List<|Yh):XS:=ij df ks ks.length
abbrev zd(e:Bool)(ks:List<|Yh):XS:=ij (wo e) ks ks.length
def fF(a b:XS):nY (a++b)=nY a++nY b:=by unfold nY;rw[AI]
def eG(h:(nY hs)[i]?=some y):∃n,hs[i]?=some n/\y=.int (n:Int):=by unfold nY at h;rw[Aq] at h;obtain⟨n,I,J⟩:=AE.mp h;exact{(n),I,J.symm}
def uh{f:Yh->Bool}{keep:qk->Prop}{Q:YK}(hz:ks.length<=1000)(j:keep L)
 (turn:∀(i:Nat) (k:Yh) (R:_T->qk->Prop) zs,ks[i]?=some k->(f k=true->R (zs++[.int (i:Int)]) L)->(f k=false->R zs L)->g (.tup [.int (i:Nat),eI k]) (τ++List.replicate 2 none) L λI L2=>tc I L2 λb L3=>aa b (te I L3 λz l=>R (zs++[z]) l)<|R zs L3)
 (o:∀p,L p=none->Q (.ref p) (qf L p<|.lst<|nY<|ij f ks ks.length)):f_ (lJ<|xx ks) keep 2 g tc te τ L Q:=by
 refine dS (λi zs=>zs=nY (ij f ks i)) (by rw[cR,Ah];exact BN hz (by decide)) j rfl ?_ ?_
 .rintro i y zs r rfl;obtain⟨z,U,rfl⟩:=cg r;rw[Aq] at U;obtain⟨k,J,rfl⟩:=AE.mp U;refine turn i k _ _ J (λh=>{L,EL _,rfl,?_}) λh=>{L,EL _,rfl,?_}
  .rw[br J,Ay h,fF];rfl
  .rw[br J,Au (by rw[h];exact AK),Aw]
 .rintro zs rfl;rw[cR,Ah];exact o
inductive eU(ys:_T)(L:qk)(Q:YK):Prop
 |mk:∀a,∀ks:List (Yh),(ys=[.ref a])->(L a=some (.lst<|xx ks))->(ks.length<=1000)->(∀p,L p=none->Q (.ref p) (qf L p<|.lst<|nY<|zc ks))->eU ys L Q
def Ue:_f eU fP.1 1:=by
 rintro ys L Q ⟨a,o,rfl,I,J,q⟩;refine xl I λkeep U=>uh (f:=df) J (U L rfl) (λi k R r t g j=>?_) λp l=>xg<|q p l;cases k with
 |none=>exact j rfl
 |some k=>cases k<;>exact g rfl
abbrev aY(a l c:Addr):Y:=.tup [.ref a,.ref l,.ref c]
inductive ip(ys:_T)(L:qk)(Q:YK):Prop
 |mk:∀a l c,∀ks:List (Yh),(ys=[aY a l c])->(L a=some (.lst<|xx ks))->(ks.length<=1000)->(∀p,L p=none->Q (.ref p) (qf L p<|.lst<|nY<|zd true ks))->ip ys L Q
def Uf:_f ip hV.1 1:=by
 rintro ys L Q ⟨a,l,c,C,rfl,J,U,q⟩;refine xl J λkeep g=>uh (f:=wo true) U (g L rfl) (λi k R T ek o I=>?_) λp r=>xg<|q p r;cases k with
 |none=>exact I rfl
 |some k=>
  cases k with
  |lf t n=>cases t<;>exact I rfl
  |nd e i j=>
   cases e with|true=>exact o rfl|false=>exact I rfl
inductive i0(ys:_T)(L:qk)(Q:YK):Prop
 |mk:∀a l c,∀ks:List (Yh),(ys=[aY a l c])->(L a=some (.lst<|xx ks))->(ks.length<=1000)->(∀p,L p=none->Q (.ref p) (qf L p<|.lst<|nY<|zd false ks))->i0 ys L Q
def Ug(f g:Yh->Bool)(ks:List<|Yh)(i:Nat):((ij f ks i).filter λp=>match ks[p]? with|some k=>g k|none=>false)=ij (λk=>f k&&g k) ks i:=by unfold ij;rw[List.filter_filter];refine Cv λp _=>?_;cases ks[p]? with|none=>rfl|some k=>exact Bool.and_comm _ _
def zK(e:Bool)(ks:List<|Yh)(i:Nat):ij (λk=>df k&&wo e k) ks i=ij (wo e) ks i:=by unfold ij;refine Cv λp _=>?_;cases ks[p]? with|none=>rfl|some k=>cases k<;>rfl
def Uh:_f i0 (pF eU).1 1:=by
 rintro ys L Q ⟨a,l,c,I,rfl,ha,hz,q⟩;refine{a,I,rfl,ha,hz,λp j=>?_};have r:=By (o:=.lst<|nY<|zc I) j _ _ ha;refine xl q9 λkeep kp=>dS (λi J=>J=nY (((zc I).take i).filter λp=>match I[p]? with|some k=>wo false k|none=>false)) (by rw[xn];exact BN (AS (dX _ _ _) hz) (by decide)) (kp _ rfl) rfl ?_ ?_
 .rintro i y J ey rfl;obtain⟨n,en,rfl⟩:=eG ey;obtain⟨hn,k,g,hk⟩:=dk<|Ar en;have C:(zc I).take (i+1)=(zc I).take i++[n]:=by rw[Bm,en];rfl
  have a1:dZ (xx I) (n:Int)=some (eI k):=jo (by rw[Aq,g];rfl);refine qb r<|qj a1 ?_;cases k with
  |none=>cases hk
  |some k=>
   cases k with
   |lf t nm=>
    have z:hG (λJ L'=>L'=qf L p (.lst<|nY<|zc I)/\J=nY (((zc I).take<|i+1).filter λp=>match I[p]? with|some k=>wo false k|none=>false)) (nY<|((zc I).take i).filter λp=>match I[p]? with|some k=>wo false k|none=>false) (qf L p<|.lst<|nY<|zc I):=by refine{_,EL _,rfl,?_};rw[C,BC,B5];simp[g,wo]
    cases t<;>exact z
   |nd e i' j'=>
    cases e with
    |true=>
     refine{_,EL _,rfl,?_};rw[C,BC,B5];simp[g,wo]
    |false=>
     refine{_,EL _,rfl,?_};rw[C,BC,B5];simp[g,wo,nY]
 .rintro J rfl p2 T;rw[xn,Bp,Ug,zK];have U:=cr (By j) T;refine fC (L:=qf L p2<|.lst<|nY<|zd false I) ?_<|q p2 U;exact qg.put ((By (o:=.lst<|nY<|zc I) j).upd U) q9
def Ui(a b:Nat):min (a:Int) (b:Int)=((min a b:Nat):Int):=by omega
def Uj(a b:Nat):max (a:Int) (b:Int)=((max a b:Nat):Int):=by omega
def A_(p:X2):Y:=.tup [.int ((p.1:Nat):Int),.int ((p.2:Nat):Int)]
abbrev qx(l:XN):_T:=l.map A_
def jr(ks:List<|Yh)(pl:XS):XO:=pl.flatMap λp=>match ks[p]? with
 |some k=>(zm k).map λq=>(p,q)
 |none=>[]
def jY(ks:List<|Yh)(a b:XS):jr ks (a++b)=jr ks a++jr ks b:=by unfold jr;rw[AV]
def jV{k:Yh}(h:ks[p]?=some k):jr ks [p]=(zm k).map λq=>(p,q):=by unfold jr;simp[h]
def jK(k:Yh):(zm k).length<=2:=by unfold zm;split<;>simp
theorem fv(ks:List<|Yh):∀pl:XS,(jr ks pl).length<=2*pl.length
 |[]=>by simp[jr]
 |p::r=>by
  have I:=fv ks r;have e:=jY ks [p] r;rw[Cp] at e;rw[e,Ab,Av];cases h:ks[p]? with
  |none=>
   have:jr ks [p]=[]:=by unfold jr;simp[h]
   rw[this];simp;lia
  |some k=>
   rw[jV h,Ah];have:=jK k;lia
inductive fu(ys:_T)(L:qk)(Q:YK):Prop
 |mk:∀a b,∀ks:List (Yh),∀pl:XS,(ys=[.ref a,.ref b])->(L a=some (.lst<|xx ks))->(L b=some (.lst<|nY pl))->(pl.length<=1000)->((∀p∈pl,p<ks.length))->(∀p,L p=none->Q (.ref p) (qf L p<|.lst<|qx<|jr ks pl))->fu ys L Q
def Uk:_f fu (iW bX).1 4:=by
 rintro ys L Q ⟨a,b,J,pl,rfl,ha,C,hz,T,q⟩;intro p U;have a0:=w6 ha U;have g:=w6 C U;refine mv (ys:=nY pl) (kz<|(qc g).trans C) (λi r t=>∃c,r=[some<|.ref a,some<|.ref b,some<|.ref p,c]/\t=qf L p (.lst<|qx<|jr J<|pl.take i)) {_,rfl,rfl} ?_ ?_ ?_
 .rintro i r t ⟨c,rfl,rfl⟩;rw[qc g,qc g]
 .rintro i y r t hy ⟨c,rfl,rfl⟩;obtain⟨n,en,rfl⟩:=eG hy;have hn:=T n<|Ar en;obtain⟨k,ek⟩:∃k,J[n]?=some k:={_,An hn};have a1:dZ (xx J) (n:Int)=some (eI k):=jo (by rw[Aq,ek];rfl);have et:pl.take (i+1)=pl.take i++[n]:=by rw[Bm,en];rfl
  refine qb q9<|qb ((qc a0).trans ha)<|qj a1 {k,rfl,λp2 I=>?_};refine xl q9 λkeep kp=>dS (λj zs=>zs=qx (((zm k).take j).map λq=>(n,q))) (by rw[xn];exact BN (jK k) (by decide)) (kp _ rfl) rfl ?_ ?_
  .rintro j y zs ey rfl;obtain⟨m,em,rfl⟩:=eG ey;refine{_,EL _,rfl,?_};rw[Bm,em,AI];unfold qx;rw[AI];rfl
  .rintro zs rfl p3 l;rw[xn,Bp];have o:=w6 ((qc<|w6 q9 I).trans q9) l;refine qp ((qc o).trans<|(qc<|w6 q9 I).trans q9)<|qp q9 {?_,?_}
   .rw[Ah,Ah,Ah];have h1:=fv J<|pl.take i;have h2:=jK k;have h3:(pl.take i).length<=1000:=by rw[A7];lia
    have C:(3000:Nat)<=sizeLine:=by decide
    lia
   .refine{qf L p<|.lst<|qx<|jr J<|pl.take<|i+1,?_,_,rfl,rfl};have e:qx (jr J<|pl.take i)++qx ((zm k).map λq=>(n,q))=qx (jr J<|pl.take<|i+1):=by rw[et,jY,jV ek];unfold qx;rw[AI]
    rw[e];have n2:=cr (By U) I;have n3:=cr ((By U).trans<|By I) l;exact qg.put ((((By U).trans<|By I).trans<|By l).upd U) q9
 .rintro r t ⟨c,rfl,rfl⟩;rw[xn,Bp];exact xg<|q p U
def jj(ks:List<|Yh)(lk ct:XN):XO:=(lk++ct)++jr ks (zd false ks)
inductive jC(ys:_T)(L:qk)(Q:YK):Prop
 |mk:∀a l c,∀ks:List (Yh),∀lk ct:XO,(ys=[aY a l c])->(L a=some (.lst<|xx ks))->(L l=some (.lst<|qx lk))->(L c=some (.lst<|qx ct))->(ks.length<=1000)->(lk.length<=1000)->(ct.length<=1000)->(∀p,L p=none->Q (.ref p) (qf L p<|.lst<|qx<|jj ks lk ct))->jC ys L Q
def Ul:_f jC (o7 fu i0).1 1:=by
 rintro ys L Q ⟨a,l,c,I,lk,U,rfl,ha,hl,hc,T,a0,a1,q⟩;have hb:(10000:Nat)<sizeLine:=by decide
 refine{_,_,hl,hc,by rw[Ah,Ah];lia,λp1 g=>?_};have j:=By (o:=.lst<|qx lk++qx U) g _ _ ha;refine{a,l,c,I,rfl,j,T,λp2 J=>?_};have t:=By (o:=.lst<|nY<|zd false I) J _ _ j;refine{a,p2,I,zd false I,rfl,t,q9,AS (dX _ _ _) T,λp hp=>(dk hp).1,λp3 r=>?_};have e1:=By (o:=.lst<|qx<|jr I<|zd false I) r _ _<|By (o:=.lst<|nY<|zd false I) J _ _<|q9 (L:=L) (a:=p1) (o:=.lst<|qx lk++qx U);refine{_,_,e1,q9,?_,λp4 C=>?_}
 .have:=fv I<|zd false I;have:(zd false I).length<=I.length:=dX (wo false) I I.length;rw[Ab,Ah,Ah,Ah];lia
 .have n1:qg L (qf (qf (qf L p1<|.lst<|qx lk++qx U) p2<|.lst<|nY<|zd false I) p3<|.lst<|qx<|jr I<|zd false I):=((By g).trans<|By J).trans<|By r;have n4:=cr n1 C;refine fC (L:=qf L p4<|.lst<|qx<|jj I lk U) ?_<|q p4 n4;have e:qx lk++qx U++qx (jr I<|zd false I)=qx (jj I lk U):=by unfold qx jj;rw[AI,AI]
  rw[e];exact qg.put (n1.upd n4) q9
section
open PySem.W PySem.Calls
section
variable {w:X7}
abbrev KM(kx px:Str)(p1 p2 p3 p4 p5:Pos)(n:Nat):Expr:=.Tuple [.Subscript (.Name kx p1) (.Name px p2) p3,.Name px p4] n p5
structure pJ(h:X8)(f:Addr)(kx px:Str)(scope:Scope)(kvs:XQ):Prop where
 ex:∃(name eA:Str) (params:Arguments) (p1 p2 p3 p4 p5:Pos) (n:Nat) (pm ctv:X4) (c' cell k:Addr),h.get? f=some (kla_obj name eA params (KM kx px p1 p2 p3 p4 p5 n) scope [(kx,cell)] pm c' ctv)/\h.CodeRec (.ref c') eA/\
  h.IsCell cell (some<|.ref k)/\h.IsList k kvs.toArray/\∀v:X4,bindArgs (kla_fn name eA params (KM kx px p1 p2 p3 p4 p5 n) scope [(kx,cell)] pm (.ref c') ctv) ⟨[v],[]⟩=pure [(px,v)]
 lim:h.NoLimit
structure YE(scope:Scope)(kx px:Str):Prop where
 kind:scope.kind=.function
 co:scope.isCoroutine=false
 gen:scope.isGenerator=false
 nc:∀x∈scope.names,x.2≠.cell
 lp:scope.names.lookup px=some .local
 lk:scope.names.lookup kx=some .free
 d1:(kx==("__debug__" : Str))=false
 d2:(px==("__debug__" : Str))=false
 d3:(kx==("__classdict__" : Str))=false
theorem pJ.keeps{kvs:XQ}(k:pJ h f kx px scope kvs)(J:∀b o,h.get? b=some o->h'.get? b=some o):pJ h' f kx px scope kvs:=by
 obtain⟨name,U,I,p,r,t,C,T,n,pm,l,c',cell,kk,g1,g2,g3,g4,g5⟩:=k.ex;refine{{name,U,I,p,r,t,C,T,n,pm,l,c',cell,kk,J _ _ g1,?_,?_,?_,g5},k.lim.keeps J}
 .obtain⟨c,oc,vs,tq,g,j,e3⟩:=g2;exact{c,oc,vs,tq,g,J _ _ j,e3}
 .obtain⟨o,g,j⟩:=g3;exact{o,J _ _ g,j}
 .obtain⟨o,g,j⟩:=g4;exact{o,J _ _ g,j}
def Um{kvs:XQ}{u t:Tok}{r:Int}(K:pJ s.heap f kx px scope kvs)(S:YE scope kx px)(J:A.depth<recursionLimit)(hi:kvs[i]?=some (.int r t))(a0:i<2 ^ 40)
 (h:∀h' tk a,(∀b o,s.heap.get? b=some o->h'.get? b=some o)->h'.get? a=some {cls:=.type "tuple",data:=.seq #[.int r t,.int (i:Int) u]}->Q (.ref a) {s with heap:=h',toks:=tk}):
 wpAny (model prog w) A (call (.ref f) [.int (i:Int) u]) Q E s:=by
 obtain⟨name,U,l,p1,p2,p3,p4,p5,n,pm,a1,c',cell,kk,g1,g2,g3,g4,g5⟩:=K.ex;refine wpAny_call<|kla_callFunE J g1 rfl S.co S.gen rfl g2 ?_;rw[g5];refine Al (wpAny_newFunctionEnv S.nc (λx hx=>by rw[Aj.mp hx];exact S.lp) (λI g j=>{K.lim.fresh _ j,?_}) S.kind);have p:∀b o,s.heap.get? b=some o->I.get? b=some o:=λb o e=>j.extBut b o (AY<|pj e)<|oi _ e;refine kla_codeExpr ?_;have look:(([(px,Value.int (i:Int) u)]:List<|Str×X4).reverse.lookup px)=some (.int (i:Int) u):=by simp
 have kf:=S.lk;have kp:=S.lp;have cl:(envX U scope s.heap.objs.size f (.ref c') [(kx,cell)]).cells.lookup kx=some cell:=by simp
 have ic:I.IsCell cell (some<|.ref kk):=by obtain⟨o,C,T⟩:=g3;exact{o,p _ _ C,T}
 have il:I.IsList kk kvs.toArray:=by obtain⟨o,C,T⟩:=g4;exact{o,p _ _ C,T}
 refine wpAny_Tuple_spliced<|wh<|Subscript_<|wpAny_Name (wpAny_loadName_free S.kind kf cl ic (wpAny_Name (wpAny_loadName_local S.kind kp g look ?_) S.d2) S.d3) S.d1;refine item_listL il (A4 _) (by omega) (by rw[show((i:Nat):Int).toNat=i from rfl];exact hi) ?_;refine wh<|wpAny_Name (wpAny_loadName_local S.kind kp g look ?_) S.d2;refine xp {by show 2<=sizeLine;decide,?_};exact h _ _ _ (λb o e=>oi _<|p b o e)<|pG _ rfl
end
def YP(x:Nat×Tok):X4:=.int (x.1:Int) x.2
def Hh(h:X8)(kS:Addr)(rk:Nat->Int)(k:X4)(x:Nat×Tok):Prop:=∃a t u,k=.ref a/\a≠kS/\h.get? a=some {cls:=.type "tuple",data:=.seq #[.int (rk x.1) t,.int (x.1:Int) u]}
def lu(h:X8)(kS:Addr)(rk:Nat->Int):XQ->List (Nat×Tok)->Prop
 |[],[]=>True
 |k::ks,x::xs=>Hh h kS rk k x/\lu h kS rk ks xs
 |_,_=>False
theorem lu.len{h:X8}{kS:Addr}{rk:Nat->Int}:∀{ks:XQ} {xs:List<|Nat×Tok},lu h kS rk ks xs->ks.length=xs.length
 |[],[],_=>rfl
 |_::_,_::_,ψ=>by obtain⟨_,b⟩:=ψ;rw[Av,Av,lu.len b]
 |[],_::_,z=>z.elim
 |_::_,[],z=>z.elim
theorem lu.mem{h:X8}{kS:Addr}{rk:Nat->Int}:∀{ks:XQ} {xs:List<|Nat×Tok},lu h kS rk ks xs->∀t∈ks.zip xs,Hh h kS rk t.1 t.2
 |[],[],_,t,I=>by cases I
 |_::_,_::_,ψ,t,I=>by
  obtain⟨a,b⟩:=ψ
  rw[List.zip_cons_cons] at I;rcases Ao.mp I with rfl|I
  .exact a
  .exact lu.mem b t I
 |[],_::_,z,_,_=>z.elim
 |_::_,[],z,_,_=>z.elim
section
variable {w:X7}
theorem J7{g:X8}{f:Addr}{kx px:Str}{scope:Scope}{kvs:XQ}{kS:Addr}{rk:Nat->Int}{body:X4->PUnit->Sem (ForInStep PUnit)}(K:pJ g f kx px scope kvs)(S:YE scope kx px)(I:A.depth<recursionLimit)(hn:g.get? kS=none)
 (hb:∀(x:X4) (s:X5) (Q':ForInStep PUnit->X5->Prop),wpAny (model prog w) A (call (.ref f) [x]) (λk s'=>wpAny (model prog w) A (Builtin.List.listUpdate (.ref kS) (·.push k)) (λ_ T=>Q' (.yield ⟨⟩) T) E s') (λ_ _=>False) s->wpAny (model prog w) A (body x ⟨⟩) Q' E s):
 ∀(ps:List<|Nat×Tok) (ks:XQ) (e:Nat) (s:X5) (Q:PUnit->X5->Prop),(∀b o,g.get? b=some o->s.heap.get? b=some o)->s.heap.get? kS=some (seqObj "list" ks.toArray e)->ks.length+ps.length<=100000->
  (∀x∈ps,x.1<2 ^ 40/\∃t,kvs[x.1]?=some (.int (rk x.1) t))->
  (∀h' tk j e',(∀b o,b≠kS->s.heap.get? b=some o->h'.get? b=some o)->h'.get? kS=some (seqObj "list" (ks++j).toArray e')->lu h' kS rk j ps->Q ⟨⟩ {s with heap:=h',toks:=tk})->
  wpAny (model prog w) A (forIn (ps.map YP) PUnit.unit body) Q E s
 |[],ks,e,s,Q,hg,hk,hz,hp,q=>by rw[Dl,Dm];exact Al (q s.heap s.toks [] e (λ_ _ _ h=>h) (by rw[Aw];exact hk) trivial)
 |x::r,ks,e,s,Q,hg,hk,hz,hp,q=>by
  rw[AQ,Cq];rw[Av] at hz;obtain⟨a0,t,ht⟩:=hp x<|Ai ..;have big:(100000:Nat)+1<=sizeLine:=by rw[sizeLine_eq];exact DF _ _
  refine Aa<|hb (YP x) s _<|Um (K.keeps hg) S I ht a0 λl p a k1 ha=>?_;have J:=k1 _ _ hk;have s1:=pR l kS (Obj.mapSeq (·.push (.ref a)));have ea:ks.toArray.push (.ref a)=List.toArray (ks++[.ref a]):=by simp
  obtain⟨c2,a1⟩:∃c2,(l.update kS (Obj.mapSeq (·.push (.ref a)))).get? kS=some (seqObj "list" (List.toArray<|ks++[.ref a]) c2):={_,by rw[<-ea];exact get?_update_seq J (·.push (.ref a))};have C:a≠kS:=λz=>by
   rw[z,J] at ha;have:=BU (λo:Option Obj=>o.map (·.cls)) ha;have z2:=this;injection z2 with z3
   injection z3 with z4
   exact absurd z4 (by decide)
  refine listUpdate_at (s:={s with heap:=l,toks:=p}) J rfl ?_ (by rw[Az];lia) (AS (Eo<|Bx ..) (by rw[Az];lia));refine J7 K S I hn hb r (ks++[.ref a]) c2 {s with heap:=l.update kS (Obj.mapSeq (·.push (.ref a))),toks:=p} Q (λb o e=>?_) a1 (by rw[Ab,Ba];lia) (λy hy=>hp y<|Ac _ hy) λh' tk j e' kk a2 vs=>?_
  .have nb:b≠kS:=λz=>by rw[z,hn] at e;cases e
   exact(s1.2 b nb).trans (k1 b o<|hg b o e)
  .have U:∀b o,b≠kS->l.get? b=some o->h'.get? b=some o:=λb o nb e=>kk b o nb<|(s1.2 b nb).trans e;refine q h' tk (.ref a::j) e' (λb o nb e=>U b o nb<|k1 b o e) (by rw[a2,AC];rfl) {{a,t,x.2,rfl,C,U a _ C ha},vs}
end
section
variable {w:X7}
def Uo{g:X8}{kvs:XQ}{kS a:Addr}{rk:Nat->Int}{ps:List<|Nat×Tok}{e1 e0:Nat}{B:Int}{P:PySem.Fin->X5->Prop}(K:pJ g f kx px scope kvs)(S:YE scope kx px)(I:A.depth<recursionLimit)(hn:g.get? kS=none)
 (hg:∀b o,g.get? b=some o->s.heap.get? b=some o) (hk:s.heap.get? kS=some (seqObj "list" #[] e0)) (ha:s.heap.get? a=some (seqObj "list" #[] e1)) (l:kS≠a) (hz:ps.length<=127)
 (hp:∀x∈ps,x.1<2 ^ 40/\∃t,kvs[x.1]?=some (.int (rk x.1) t)) (hB:∀x∈ps,((x.1:Nat):Int)<B) (nd:(ps.map (·.1)).Nodup)
 (h:∀h' tk (qs:List<|Nat×Tok) c,(∀b o,b≠kS->b≠a->s.heap.get? b=some o->h'.get? b=some o)->h'.get? a=some (seqObj "list" (qs.map YP).toArray c)->qs.Perm ps->(qs.Pairwise λx y=>rk x.1*B+(x.1:Int)<=rk y.1*B+(y.1:Int))->P (.done<|.ret .none) {s with heap:=h',toks:=tk}):
 wpAny (model prog w) A (ksk_rest a (.ref f) false (ps.map YP).toArray e1<|.ref kS) P E s:=by
 refine Aa<|BH ?_;rw[List.forIn_toArray];refine Aa (J7 (rk:=rk) K S I hn (λx s' Q' hx=>?_) ps [] e0 s _ hg hk (by simp;lia) hp λh' tk ks e' keep J kv=>?_)
 .refine Aa (wpAny_attempt<|Bd hx (λk a4 hk=>?_) λ_ _ hF=>hF.elim)
  try dsimp only
  exact Aa<|Bd hk (λ_ s3 q=>Al q) λ_ _ e=>e
 .try dsimp only
  rw[CO] at J;refine Aa<|listItems_at (s:={s with heap:=h',toks:=tk}) J rfl ?_;have a0:=keep _ _ (AJ l) ha;have len:=kv.len;obtain⟨T,C⟩:∃T,T=ks.zip ps:={_,rfl};have kT:∀t∈T,Hh h' kS rk t.1 t.2:=λt p=>kv.mem t<|C▸p;have e2:T.map (·.2)=ps:=by rw[C];exact List.map_snd_zip (by lia)
  have ez:ks.zip (ps.map YP)=T.map λt=>(t.1,YP t.2):=by rw[C,List.zip_map_right];rfl
  have mp:∀t∈T,t.2∈ps:=λt p=>by rw[<-e2];exact CA p
  have nT:∀t∈T,num h' B (t.1,YP t.2)=rk t.2.1*B+(t.2.1:Int):=λt p=>by obtain⟨b,tt,u,r,x2,x3⟩:=kT t p;exact Yx r x3 rfl
  refine Tq (s:={s with heap:=h',toks:=tk}) (vs:=ps.map YP) (ks:=ks) (B:=B) J a0 l (by rw[Ah];exact len) (by rw[Ah];exact hz) (λv hv=>?_) λh2 a1 xs c U hc pm pw=>?_
  .obtain⟨j,hj⟩:=DA hv;have a2:j<ps.length:=by rw[<-len];exact(AN.mp hj).1
   have hm:(v,ps[j])∈T:=by rw[C];refine Dx.mpr {j,?_};rw[DV];exact{hj,An a2}
   obtain⟨b,tt,u,r,x2,x3⟩:=kT _ hm;have r:=r;exact{b,_,_,_,_,tt,u,r,x3,rfl,rfl,A4 _,hB _<|mp _ hm}
  .rw[ez] at pm;obtain⟨T',pT,a3⟩:=Y0 _ pm rfl;subst a3;have mT:∀t,t∈T'->t∈T:=λt=>pT.mem_iff.mp;refine h h2 a1 (T'.map (·.2)) c (λb o n1 n2 e=>?_) ?_ ?_ ?_
   .rw[U b n1 n2];exact keep b o n1 e
   .rw[hc,Ci,Ci];rfl
   .rw[<-e2];exact pT.map _
   .refine Cu.mpr<|List.Pairwise.imp_of_mem (λ{x y} hx hy z=>?_)<|Cu.mp pw;rw[nT x<|mT x hx,nT y<|mT y hy] at z;exact z
def Zf{kvs:XQ}{rk:Nat->Int}{ps:List<|Nat×Tok}{B:Int}(K:pJ s.heap f kx px scope kvs)(S:YE scope kx px)(j:A.in1.in1.depth<recursionLimit)
 (hl:s.heap.IsList l (ps.map YP).toArray) (hz:ps.length<=127)
 (hp:∀x∈ps,x.1<2 ^ 40/\∃t,kvs[x.1]?=some (.int (rk x.1) t)) (hB:∀x∈ps,((x.1:Nat):Int)<B) (nd:(ps.map (·.1)).Nodup)
 (h:∀h' tk (qs:List<|Nat×Tok) D c,s.heap.objs.size<=D->(∀b o,s.heap.get? b=some o->h'.get? b=some o)->h'.get? D=some (seqObj "list" (qs.map YP).toArray c)->qs.Perm ps->(qs.Pairwise λx y=>rk x.1*B+(x.1:Int)<=rk y.1*B+(y.1:Int))->Q (.ref D) {s with heap:=h',toks:=tk}):
 wpAny (model prog w) A (call (.builtin "sorted") [.ref l] [(Str.ofString "key",.ref f)]) Q E s:=by
 have big:(100000:Nat)+1<=sizeLine:=by rw[sizeLine_eq];lia
 have a1:(ps.map YP).length<=100000:=by rw[Ah];lia
 refine call_function_entry_kw kind_sorted plain_sorted entry_sorted (ksk_s1 _ _) ?_;refine Aa (m:=checkCount "sorted" 1 1 _)<|Al ?_;refine Aa<|collect_list hl ?_<|Fj;refine Aa<|wpAny_newList ?_ (by lia);obtain⟨g1,C⟩:∃g1,g1=(s.heap.push<|seqObj "list" #[] 0).update s.heap.objs.size (Obj.mapSeq (· ++ (ps.map YP).toArray)):={_,rfl};have T:g1.objs.size=s.heap.objs.size+1:=by rw[C,Heap.size_update,size_push']
 have gk:∀b o,s.heap.get? b=some o->g1.get? b=some o:=λb o q=>by have J:=pj q;rw[C,Heap.get?_update_ne _ _ _ _<|AY J];exact oi _ q
 rw[<-C];have I:(g1.push<|seqObj "list" (ps.map YP).toArray 0).get? g1.objs.size=some (seqObj "list" (ps.map YP).toArray 0):=pG _ rfl;have keep:∀b o,s.heap.get? b=some o->(g1.push<|seqObj "list" (ps.map YP).toArray 0).get? b=some o:=λb o q=>oi _<|gk b o q;refine Aa<|A9<|wpAny_call_entry_kw slot_list_sort {_,I,rfl} entry_list_sort ?body<|ksk_l1 _ _
 case body=>
  obtain⟨D,eD⟩:∃D,D=g1.objs.size:={_,rfl};rw[<-eD] at I ⊢;rw[ksk_t1];obtain⟨g2,p⟩:∃g2,g2=g1.push (seqObj "list" (ps.map YP).toArray 0):={_,rfl};rw[<-p] at I keep ⊢;have s1:=pR g2 D<|Obj.mapSeq λ_=>(#[]:XR);obtain⟨e1,r⟩:∃e1,(g2.update D<|Obj.mapSeq λ_=>(#[]:XR)).get? D=some (seqObj "list" #[] e1):={_,get?_update_seq I λ_=>#[]};have nD:∀b o,s.heap.get? b=some o->b≠D:=λb o q z=>by have J:=pj q;rw[z,eD,T] at J;exact Nat.not_succ_lt_self J
  refine Aa<|listItems_at (s:={s with heap:=g2}) I rfl ?_;refine Aa (listUpdate_at (s:={s with heap:=g2}) I rfl ?_ (by rw[Az];exact Fj)<|Bf _);refine Aa<|seqEpoch_at r rfl ?_;refine Aa<|wpAny_newTuple ?_ (by lia);refine Aa<|wpAny_newList ?_<|Bf _;refine A9 ?_;obtain⟨g3,U⟩:∃g3,g3=(g2.update D<|Obj.mapSeq λ_=>(#[]:XR)).push (seqObj "tuple" (ps.map YP).toArray 0):={_,rfl};have k3:∀b o,s.heap.get? b=some o->g3.get? b=some o:=λb o q=>by rw[U];exact oi _<|(s1.2 b<|nD b o q).trans<|keep b o q
  have d3:g3.get? D=some (seqObj "list" #[] e1):=by rw[U];exact oi _ r
  rw[<-U];have a0:(g3.push<|seqObj "list" #[] 0).get? g3.objs.size=some (seqObj "list" #[] 0):=pG _ rfl;refine Uo (s:={s with heap:=g3.push (seqObj "list" #[] 0)}) (g:=s.heap) (kS:=g3.objs.size) (a:=D) (rk:=rk) (B:=B) K S j (Heap.get?_none_of_le ?_) (λb o q=>oi _<|k3 b o q) a0 (oi _ d3) ?_ hz hp hB nd λh' tk qs c kp hD pm pw=>?_
  .have l1:g3.objs.size=g1.objs.size+2:=by rw[U,size_push',Heap.size_update,p,size_push']
   rw[l1,T];exact AS (CK _)<|Bl _ 2
  .exact(AY<|pj d3).symm
  .refine{_,rfl,Al {_,rfl,h h' tk qs D c (by rw[eD,T];exact CK _) (λb o q=>?_) hD pm pw}};exact kp b o (AY<|pj<|k3 b o q) (nD b o q)<|oi _<|k3 b o q
end
end
def sk{i j:Int}{t u:Tok}{c:X4}(l:XQ)(h:TriplesOk l):TriplesOk (l++[.int i t,.int j u,c]):=by
 fun_induction TriplesOk l with
 |case1=>trivial
 |case2 _ _ _ _ _ rest I=>exact I h
 |case3=>exact h.elim
def yN{i j:Int}{t u:Tok}{c I:X4}(l:XQ)(h:TriplesOk l)(e:codeAmong pos (l++[.int i t,.int j u,c])=some I):codeAmong pos l=some I\/I=c:=by
 fun_induction TriplesOk l with
 |case1=>
  right;have e:(if i==pos.line&&j==pos.col then some c else none)=some I:=e;split at e
  .cases e;rfl
  .cases e
 |case2 a _ b _ d rest J=>
  have e:(if a==pos.line&&b==pos.col then some d else codeAmong pos (rest++[.int i t,.int j u,c]))=some I:=e;show(if a==pos.line&&b==pos.col then some d else codeAmong pos rest)=some I\/I=c;split at e
  .rename_i z;rw[Ay z];exact .inl e
  .rename_i z;rw[Au z];exact J h e
 |case3=>exact h.elim
structure EH(K:Ak)(eH:X4)(P:Addr):Prop where
 ex:∃c oc,eH=.ref c/\K.lookup c=some oc/\∀h:X8,h.get? c=some oc->PySem.W.CodeHd h c P
 bm:∃bm ob,PySem.W.nsIn K mainGlobals "__builtins__"=some (some<|.ref bm)/\bm≠builtinsNs/\bm≠mainGlobals/\K.lookup bm=some ob/\ob.cls=.type "module" /\ ob.dict=some builtinsNs/\ob.data=.plain
theorem vL:∀{l:XS} {us:XQ},zn (l.map λi:Nat=>V.int<|0+(i:Int)) us->∃ps:List (Nat×Tok),us=ps.map YP/\ps.map (·.1)=l
 |[],_,.nil=>{[],rfl,rfl}
 |i::r,_,.cons (b:=u) h t=>by obtain⟨ps,J,U⟩:=vL (l:=r) t;obtain⟨I,g⟩:=(show ∃I,u=Value.int (0+(i:Int)) I from h);refine{(i,I)::ps,?_,by rw[AQ,U]};rw[AQ,J,g];show _=Value.int (i:Int) I::_;rw[B3]
theorem vX:∀ps:List (Nat×Tok),zn (ps.map λx=>V.int ((x.1:Nat):Int))<|ps.map YP
 |[]=>.nil
 |x::r=>.cons {(x.2),rfl}<|vX r
def Uq(P:Addr)(q:Str)(J:Nat)(te:TE):TE:=λσ H Q=>te σ H λv H1=>∃l I,∃n:Nat,∃rks:XX,v=.ref l/\H1 l=some (.lst ((List.range n).map λi:Nat=>V.int<|0+(i:Int)))/\σ[J]?=some (some<|.ref I)/\H1 I=some (.lst<|rks.map V.int)/\rks.length=n/\n<=127/\uY H1 P q/\
 ∀H2 D (qs:XS),(∀b u,b≠P->H1 b=some u->H2 b=some u)->uY H2 P q->H1 D=none->D≠P->H2 D=some (.lst (qs.map λi:Nat=>V.int (i:Int)))->qs.Perm (List.range n)->(qs.Pairwise λi j=>rks.getD i 0*1000000+(i:Int)<=rks.getD j 0*1000000+(j:Int))->Q (.ref D) H2
def Ur{kk cell c':Addr}{J:Arguments}{g:X4}{Q:VK}(I:z9 X pins σ H s)(S:YE eQ kx px)(hr:X.A.depth+3<recursionLimit)
 (hf:s.heap.get? f=some (PySem.W.kla_obj name eA J (KM kx px p1 p2 p3 p4 p5 x1) eQ [(kx,cell)] pm c' g)) (a0:s.heap.CodeRec (.ref c') eA) (p:s.heap.IsCell cell<|some<|.ref kk)
 (hb:∀v:X4,bindArgs (PySem.W.kla_fn name eA J (KM kx px p1 p2 p3 p4 p5 x1) eQ [(kx,cell)] pm (.ref c') g) ⟨[v],[]⟩=pure [(px,v)])
 (hl:H l=some (.lst ((List.range n).map λi:Nat=>V.int<|0+(i:Int)))) (hk:H kk=some (.lst<|rks.map V.int)) (hn:rks.length=n) (hz:n<=127)
 (q:∀D (qs:XS),H D=none->qs.Perm (List.range n)->(qs.Pairwise λi j=>rks.getD i 0*1000000+(i:Int)<=rks.getD j 0*1000000+(j:Int))->Q (.ref D) (upd H D<|.lst (qs.map λi:Nat=>V.int (i:Int)))):
 _S X (call (.builtin "sorted") [.ref l] [(Str.ofString "key",.ref f)]) (EP X pins σ Q) X.xe s:=by
 obtain⟨a3,rv,pl,_⟩:=I.list<|bE.of hl;obtain⟨C,rk,pk,_⟩:=I.list<|bE.of hk;obtain⟨ps,rfl,U⟩:=vL rv;have lp:ps.length=n:=by have:=BU List.length U;rwa[Ah,Bb] at this
 have big:(100000:Nat)<=sizeLine:=by decide
 refine xc I.tk<|Zf (rk:=λi=>rks.getD i 0) (B:=1000000) (kvs:=C) {{(name),eA,J,p1,p2,p3,p4,p5,x1,pm,g,c',cell,kk,hf,a0,p,pk.isList,hb},I.nolimit} S ?_ pl.isList (by lia) (λx hx=>?_) (λx hx=>?_) ?_ λh' tk qs D c hD keep hg T pw ht=>?_
 .show X.A.depth<recursionLimit;lia
 .have r:x.1∈List.range n:=by rw[<-U];exact CA hx
  have a1:=AM.mp r;refine{by lia,?_};have e1:(rks.map V.int)[x.1]?=some (V.int<|rks.getD x.1 0):=by rw[Aq,An (by lia),BI,An (by lia)];rfl
  obtain⟨u,e2,r2⟩:=Paired._g rk e1;obtain⟨t,rfl⟩:=(show ∃t,u=Value.int (rks.getD x.1 0) t from r2);exact{(t),e2}
 .have r:x.1∈List.range n:=by rw[<-U];exact CA hx
  have a1:=AM.mp r;omega
 .rw[U];exact Bw
 .have a2:=I.HT.fresh hD;refine{.ref D,_,I.laid (t':=tk) (o:=.lst ((qs.map (·.1)).map λi:Nat=>V.int (i:Int))) keep hD ?_,rfl,q D (qs.map (·.1)) a2 ?_ ?_}
  .refine{?_,qs.map YP,c,?_,hg}
   .rw[Ah,Ah,T.length_eq];lia
   .rw[Ci];exact vX qs
  .rw[<-U];exact T.map _
  .exact Cu.mpr pw
def z9._k{P U:Addr}{ps more:XR}{oc fo:Obj}{tk:Nat}(I:z9 X pins σ H s)(T:H P=some (.YV ps))(hx:Heap.ExtBut P s.heap h')(g:h'.get? P=some (PySem.W.tabObj<|ps++more))
 (hc:s.heap.objs.size<=U) (j:h'.get? U=some oc) (ht:0<tk):z9 X pins σ (upd (upd H P<|.YV<|ps++more) U<|.YC oc<|.own 0) {s with heap:=h'.push fo,toks:=tk}:=by
 have nc:=I.HT.fresh hc;have t:∀b,H b=none->b≠P:=λb e z=>by rw[z,T] at e;cases e
 have l:∀b u,H b=some u->b≠U:=λb u e z=>by rw[z,nc] at e;cases e
 have p:∀b o,s.heap.get? b=some o->b≠U:=λb o e=>AY<|AW (pj e) hc;have C:∀b o,b≠P->s.heap.get? b=some o->(h'.push fo).get? b=some o:=λb o n e=>oi _<|hx b o n e;have J:∀b u,H b=some u->(∀ps,u≠.YV ps)->b≠P:=λb u e d z=>by rw[z,T] at e;cases e;exact d _ rfl
 refine I.step (ch:=[]) (g':=s.gens) (d':=s.drawn) (t':=tk) (λ_ z=>nomatch z) (λb o _ _ _ e n=>C b o (t b n) e) (λb o _ _ _ e n=>{o.slots,C b o (t b n) e}) (λb o _ e n=>?_) (λb o _ e=>?_) (λb xs e=>?_) (λb o u e=>?_) (λb qs e=>?_) (λm hm=>?_) (λb u e=>?_) I.bare ht
 .rw[qm<|p b o e,qm<|t b n];exact n
 .by_cases c:b=P
  .subst c;exact{_,oi _ g}
  .exact{o,C b o c e}
 .rw[qm<|l b _ e,qm (J b _ e λ_ z=>by cases z)];exact e
 .rw[qm<|l b _ e,qm (J b _ e λ_ z=>by cases z)];exact e
 .rw[qm<|l b _ e];by_cases c:b=P
  .subst c;rw[T] at e;cases e;exact{(more),zg}
  .rw[qm c];exact{#[],by rw[e];simp}
 .exact(hm.extBut hx<|t _ I.free).push _
 .by_cases c:b=U
  .subst c;rw[zg] at e;cases e;exact{oi _ j,_,oi _ j}
  .rw[qm c] at e;by_cases d:b=P
   .subst d;rw[zg] at e;cases e;exact oi _ g
   .rw[qm d] at e;refine(I.HT b u e).Ys (λa v ha r=>C a v ?_ r) (λa r=>?_) (λa xs r=>?_)
    .rcases ha with rfl|ha
     .exact d
     .exact J a _ ha λ_ z=>by cases z
    .rw[qm<|l a _ r,qm (J a _ r λ_ z=>by cases z)];exact r
    .rw[qm<|l a _ r,qm (J a _ r λ_ z=>by cases z)];exact r
def Us{te:TE}{J:Arguments}{U p:Pos}{ik:Nat}{P:Addr}{q:Str}(hg:Gl X "sorted")(hm:X.mg "sorted"=none)(he:PE X e te)(S:YE eQ kx px)(C:EH X.K X.env.code P)(hr:X.A.depth+3<recursionLimit)
 (hq:X.env.qual ++ "<lambda>" = q) (bi:X.N[ik]?=some kx) (au:X.env.scope.names.lookup kx=some .cell) (av:∃cell,X.env.cells.lookup kx=some cell/\closureFor eQ X.env=pure [(kx,cell)])
 (ax:defaultsOf J X.env=([],[])) (hb:∀(name eA:Str) (cl:List<|Str×Addr) (pm cd ct v:X4),bindArgs (PySem.W.kla_fn name eA J (KM kx px p1 p2 p3 p4 p5 x1) eQ cl pm cd ct) ⟨[v],[]⟩=pure [(px,v)])
 (h1:starEach [e] X.env=(false,eval e X.env)::starEach [] X.env:=by rfl) (h2:(backTo pos<|starEach [e] X.env).any (·.1)=false:=by rfl)
 (h3:backTo pos (starEach [e] X.env)=(false,eval e X.env)::backTo pos (starEach [] X.env):=by rfl):
 PE X (.Call (.Name "sorted" p) [e] [{some "key",.Lambda J (KM kx px p1 p2 p3 p4 p5 x1) eQ U,nC}] pos) (Uq P q ik te):=by
 intro a0 s σ H Q I h;refine wpAny_Call_Name_kw<|dm I hg hm (by decide +kernel:bootBuiltins "sorted"=some (.builtin "sorted")) ?_ (by decide) (by decide);refine PyProof.Rows.callWith_kw ?_ h3 h2;rw[h3];refine wh<|aN (he a0 s σ H _ I h) λv s1 ψ=>?_;obtain⟨x,H1,g,rx,l,kk,n,rks,ev,hl,hs,hk,hn,hz,T,qq⟩:=ψ;refine xp ?_;subst ev;cases (show v=Value.ref l from rx);show wpAny _ _ (evalAll ((do let v <-eval (.Lambda J (KM kx px p1 p2 p3 p4 p5 x1) eQ U) X.env;standAt pos;pure v)::[])) _ _ s1;refine wpAny_evalAll_cons<|Aa ?_;obtain⟨cell,a2,ab⟩:=av;obtain⟨c,bj,aL,lc,hC⟩:=C.ex;obtain⟨bm,ob,b1,b2,b3,b4,b5,b6,b7⟩:=C.bm;obtain⟨al,tP,tok,a3⟩:=T;have ba:=g.ok.mod.glob.keeps g.bk;have bb:=g.HT P _ tP;have bc:=hC _<|g.Yw c bj lc;have a1:∀b o,X.base.get? b=some o->b≠P:=λb o e z=>by have:=(g.bs b o e).2;rw[z,tP] at this;cases this
 have ac:=g.ok.mod.Z_ bm ob b4;have hB:s1.heap.BuiltinsAt X.mg P:={bm,ob,C6 g.ok.mod.Z_ g.ok.mod.glob b1,b2,b3,a1 _ _ ac,(g.bs _ _ ac).1,b5,b6,b7};have bS:mainGlobals≠P:=by obtain⟨o,es,ep,e,hd,_⟩:=g.ok.mod.glob;exact a1 _ _ e
 have a4:s1.heap.IsCell cell (some<|.ref kk):=by
  obtain⟨m,_,c0⟩:=g.loc;obtain⟨u,ru,lk⟩:=c0 ik kx _ bi hs<|.inr<|.inl au;cases (show u=Value.ref kk from ru);rcases lk with⟨k1,_⟩|⟨_,c2,e2,c1⟩
  .have k1:X.env.scope.names.lookup kx=some .local:=k1;rw[au] at k1;cases k1
  .rw[a2] at e2;cases e2;exact c1
 refine PySem.W.kla_eval ax ?_;rw[hq];have xg:∀(s2:X5) (H2:Hp) (f r:Addr) (j pm:X4),z9 X a0 σ H2 s2->s2.heap.get? f=some (PySem.W.kla_obj "<lambda>" q J (KM kx px p1 p2 p3 p4 p5 x1) eQ [(kx,cell)] pm r j)->s2.heap.CodeRec (.ref r) q->s2.heap.IsCell cell (some<|.ref kk)->
  (∀b u,b≠P->H1 b=some u->H2 b=some u)->uY H2 P q->(∀b,H2 b=none->H1 b=none)->
  _S X (do standAt pos;pure (Value.ref f)) (λv s'=>_S X (evalAll []) (λvs c3=>_S X (call (.builtin "sorted") [.ref l]<|[Str.ofString "key"].zip<|v::vs) (EP X a0 σ Q) X.xe c3) X.xe s') X.xe s2:=by
  intro s2 H2 f r j pm I2 g1 g2 g3 g4 g5 g6;refine Aa<|wpAny_standAt<|Al<|wpAny_evalAll_nil ?_;have lP:l≠P:=λz=>by rw[z,tP] at hl;cases hl
  have kP:kk≠P:=λz=>by rw[z,tP] at hk;cases hk
  refine Ur (n:=n) (rks:=rks) I2 S hr g1 g2 g3 (λv=>hb _ _ _ _ _ _ v) (g4 _ _ lP hl) (g4 _ _ kP hk) hn hz λD qs hD c4 pw=>?_;have bd:D≠P:=λz=>by obtain⟨c8,e2,_⟩:=g5;rw[z,e2] at hD;cases hD
  refine qq _ D qs (λb u n e=>?_) ?_ (g6 D hD) bd zg c4 pw
  .rw[qm<|zo (g4 b u n e) hD];exact g4 b u n e
  .exact g5.keep (qm<|AJ bd) λb o u e=>by rw[qm<|zo e hD];exact e
 cases hf:codeAmong U al.toList with
 |some cv=>
  obtain⟨r,oc,vs,t,c5,f1,f2,f3⟩:=a3 U cv hf;subst c5;refine xc g.tk<|PySem.W.kla_makeFunctionHit (mg:=X.mg) ab g.ok.glob ba aL bc bb tok hf hB λj h' tk be c9 ht=>?_;have I2:z9 X a0 σ H1 {s1 with heap:=h'.push {cls:=.type "function",data:=.func (PySem.W.kla_fn "<lambda>" q J (KM kx px p1 p2 p3 p4 p5 x1) eQ [(kx,cell)] ((X.mg "__name__").getD .none) (.ref r) j)},toks:=tk}:=g.kept (t':=tk) λb o e=>oi _<|be b o e;obtain⟨a5,_⟩:=I2.HT r _ f1;refine xg _ H1 _ r j _ I2 (pG _ rfl) {(r),oc,vs,t,rfl,a5,f2,f3} ?_ (λb u _ e=>e) {(al),tP,tok,a3} λb e=>e;obtain⟨o,e1,e2⟩:=a4;exact{o,oi _<|be _ _ e1,e2}
 |none=>
  refine xc g.tk<|PySem.W.kla_makeFunction (mg:=X.mg) ab g.ok.glob ba aL bc bb tok hf bS hB λr j h' tk hx bf ca bg c6 ht=>?_;obtain⟨c2,oc,vs,t,e2,a5,f2,f3⟩:=bg;cases e2;have I2:=g._k (fo:=PySem.W.kla_obj "<lambda>" q J (KM kx px p1 p2 p3 p4 p5 x1) eQ [(kx,cell)] ((X.mg "__name__").getD .none) r j) tP hx c6 bf a5 ht;have nc:=g.HT.fresh bf;have cP:r≠P:=λz=>by rw[z,tP] at nc;cases nc
  refine xg _ _ _ r j _ I2 (pG _ rfl) {r,oc,vs,t,rfl,oi _ a5,f2,f3} ?_ (λb u n e=>?_) ?_ λb e=>?_
  .obtain⟨o,e1,e2⟩:=a4;have nP:cell≠P:=λz=>by have:=g.Os kx cell a2;rw[z,tP] at this;cases this
   exact{o,oi _<|hx _ _ nP e1,e2}
  .rw[qm<|zo e nc,qm n];exact e
  .refine{al++#[rawInt U.line,rawInt U.col,.ref r],by rw[qm<|AJ cP,zg],?_,λbh cv z=>?_}
   .rw[Bk];exact sk _ tok
   .rw[Bk] at z;rcases yN _ tok z with z|z
    .obtain⟨d',od,c7,t',k1,k2,k3⟩:=a3 bh cv z;have nP:d'≠P:=λz=>by rw[z,tP] at k2;cases k2
     exact{d',od,c7,t',k1,by rw[qm<|zo k2 nc,qm nP];exact k2,k3}
    .exact{(r),oc,vs,t,z,zg,f2,f3}
  .by_cases d:b=r
   .subst d;exact nc
   .rw[qm d] at e;by_cases d2:b=P
    .subst d2;rw[zg] at e;cases e
    .rw[qm d2] at e;exact e
def J8(Pt:Addr)(q:Str)(J:Nat)(te:v4)(τ:jq)(L:qk)(Q:YK):Prop:=te τ L λy L1=>match y with
 |.ref l=>dw L1 l λys=>∃(n:Nat) (rks:XX) (I:Addr),ys=ao 0 n/\Ef τ J=some (.ref I)/\L1 I=some (.lst<|rks.map Y.int)/\rks.length=n/\n<=127/\L1 Pt=some (.tb q)/\
  ∀(D:Addr) (qs:XS),L1 D=none->qs.Perm (List.range n)->(qs.Pairwise λi j=>rks.getD i 0*1000000+(i:Int)<=rks.getD j 0*1000000+(j:Int))->Q (.ref D) (qf L1 D<|.lst (qs.map λi:Nat=>Y.int (i:Int)))
 |_=>False
theorem qK{G:G3}{H:Hp}:∀{l:XS} {xs:X_},xr G H (l.map λi:Nat=>Y.int<|0+(i:Int)) xs->xs=l.map λi:Nat=>V.int<|0+(i:Int)
 |[],_,h=>h
 |_::_,_,ψ=>by obtain⟨x,I,e,r,s⟩:=ψ;subst e;cases r;rw[qK s];rfl
theorem iY{G:G3}{H:Hp}:∀{l:XX} {xs:X_},xr G H (l.map Y.int) xs->xs=l.map V.int
 |[],_,h=>h
 |_::_,_,ψ=>by obtain⟨x,I,e,r,s⟩:=ψ;subst e;cases r;rw[iY s];rfl
theorem wV{G:G3}{H:Hp}:∀qs:XS,xr G H (qs.map λi:Nat=>Y.int (i:Int)) (qs.map λi:Nat=>V.int (i:Int))
 |[]=>rfl
 |_::r=>{_,_,rfl,rfl,wV r}
def Ut{I:Arguments}{U p:Pos}{r:Nat}{q:Str}(hg:Gl X "sorted")(hm:X.mg "sorted"=none)(he:QE X e te)(S:YE eQ kx px)(C:EH X.K X.env.code Pt)(hr:X.A.depth+3<recursionLimit)
 (hq:X.env.qual ++ "<lambda>" = q) (t:X.N[r]?=some kx) (a0:X.env.scope.names.lookup kx=some .cell) (g:∃cell,X.env.cells.lookup kx=some cell/\closureFor eQ X.env=pure [(kx,cell)])
 (j:defaultsOf I X.env=([],[])) (hb:∀(name eA:Str) (cl:List<|Str×Addr) (pm cd ct v:X4),bindArgs (PySem.W.kla_fn name eA I (KM kx px p1 p2 p3 p4 p5 x1) eQ cl pm cd ct) ⟨[v],[]⟩=pure [(px,v)])
 (h1:starEach [e] X.env=(false,eval e X.env)::starEach [] X.env:=by rfl) (h2:(backTo pos<|starEach [e] X.env).any (·.1)=false:=by rfl)
 (h3:backTo pos (starEach [e] X.env)=(false,eval e X.env)::backTo pos (starEach [] X.env):=by rfl):
 QE X (.Call (.Name "sorted" p) [e] [{some "key",.Lambda I (KM kx px p1 p2 p3 p4 p5 x1) eQ U,nC}] pos) (J8 Pt q r te):=
 EO (Us hg hm he S C hr hq t a0 g j hb h1 h2 h3) λσ H Q τ L Q3 rs rl z k=>by
  refine{τ,L,_,rs,rl,z,λv H1 y L1 t1 J rv z=>?_};cases y with
  |ref l=>
   obtain⟨ys,e1,n,a1,kk,rfl,e2,e3,hn,hz,eP,qq⟩:=ve z;cases rv;obtain⟨xs,h1,r1⟩:=J l _ e1;obtain⟨xk,h2,r2⟩:=J kk _ e3;have T:=J Pt _ eP;cases qK r1;cases iY r2;obtain⟨v,hv,rv⟩:=rs.get r _<|sP _ _ e2;cases rv;refine{l,kk,n,a1,rfl,h1,hv,h2,hn,hz,T,λH2 D qs kp T2 hD a3 a2 pm pw=>?_};have tb:∃o,H1 Pt=some (.YV o):=let ⟨o,e,_⟩:=T;⟨o,e⟩;have t2:jc H1 H2:=λa u i h=>kp a u (λc=>by obtain⟨o,e⟩:=tb;rw[c,e] at h;cases h;cases i) h
   refine k _ _ _ _ (t1.trans t2) (λa u e=>?_) (by rfl)<|qq D qs (J.none hD) pm pw;by_cases c:a=D
   .subst c;rw[q9] at e;cases e;exact{_,a2,wV qs}
   .rw[qc c] at e;by_cases d:a=Pt
    .subst d;rw[eP] at e;cases e;exact T2
    .obtain⟨x,hx⟩:=(J a u e).ex;exact(J a u e).keep t2 (by rw[hx];exact kp a x d hx)
  |_=>exact z.elim
structure Hi(K:Ak)(x eA:Str)(st:Stmt)(f:Addr)(fd:FuncData)(Pt:Addr):Prop where
 ex:∃(oc:X4) (od:Option Addr) (kV gn pm:X4) (an:Option Addr) (eH ct:X4) (mR:Array<|XY),
  fd=PySem.W.fnOf x eA (vd st) (jw st) (zb st) .none kV gn pm an eH ct/\K.lookup f=some ⟨oc,od,.func fd,mR⟩/\PySem.W.codeIn K eH eA=true/\EH K eH Pt
 kp:PySem.W.keepIn K (.ref f)=true
def Uu{P:X6}{w:X7}{K:Ak}{N:XT}{k:Nat}(F:Hi K x eA st f fd Pt)(S:bN N ps<|zb st)(len:∀ys L Q,sp ys L Q->ys.length=ps.length)
 (I:∀(eH:X4) (A:Around) (outer:List Env) (s:X5) (H:Hp) (E:XK),EH K eH Pt->wx k (A.deeper<|PyProof.Rows.envOfC eA (zb st) s.heap.objs.size f eH)->
  ∃t,zP (qJ Zg P w K mg base N eA (zb st) f eH A outer s H E).Z0 (jw st) t/\∀ys L Q,sp ys L Q->t {nx:=λ_ L'=>gB Q .KB L',rt:=gB Q} (jI N ys) L):Zw P w K mg base (k+1) f fd ps sp:=by
 obtain⟨oc,od,kV,a0,pm,an,eH,ct,a1,rfl,lk,U,C⟩:=F.ex;refine HZ lk U S (λvs H Q E ψ=>by obtain⟨ys,L,g,j,rl,z,_⟩:=ψ;rw[<-j.length];exact len ys L g z) λA outer s H vs Q E hr ψ=>?_;obtain⟨ys,L,g,j,rl,z,k⟩:=ψ;obtain⟨t,ht,q⟩:=I eH A outer s H E C hr;refine{_,lz.Z0 ht,jI N ys,L,_,rJ j,rl,q ys L g z,?_};exact{λσ l τ L' o a2 J ψ=>(by obtain⟨L2,p,r⟩:=ψ;exact k .KB l .KB L2 o (J.sub p) (by rfl) r),λv l y L' o J T ψ=>(by obtain⟨L2,p,r⟩:=ψ;exact k v l y L2 o (J.sub p) T r),λ_ _ _ _ _ _ _ z=>z.elim,λ_ _ _ _ _ _ _ z=>z.elim}
inductive mw(Pt:Addr)(q:Str)(ys:_T)(L:qk)(Q:YK):Prop
 |mk:∀ns:XX,(ys=[.sq<|ns.map Y.int])->(ns.length<=63)->(L=qf (λ_=>none) Pt (.tb q))->(∀L',Q (.bl true) L')->mw Pt q ys L Q
def YR(q:Str)(K:Ak)(Pt:Addr):Sp:=λvs H Q _=>∃(a:Addr) (I:XX),vs=[.ref a]/\Z8 K H a (I.map V.int)/\I.length<=63/\H Pt=some (.YV #[])/\∀H',Q (.bl true) H'
def Uv{q:Str}{vs:X_}{Q:VK}{E:XK}(h:YR q G.K Pt vs H Q E):dn G (mw Pt q) vs H Q E:=by
 obtain⟨a,I,rfl,J,U,g,z⟩:=h;refine{[.sq<|I.map Y.int],qf (λ_=>none) Pt<|.tb q,λy _=>y=.bl true,xr.one {a,_,rfl,J,wA I},(λb u e=>?_),{I,rfl,U,rfl,λ_=>rfl},?_}
 .by_cases c:b=Pt
  .subst c;rw[q9] at e;cases e;exact{#[],g,trivial,λpos o z=>by cases z}
  .rw[qc c] at e;cases e
 .rintro v j y p _ _ l rfl;cases l;exact z j
def GT(Pt:Addr):Ak->Ak
 |[]=>[]
 |(a,o)::r=>if a==Pt then GT Pt r else(a,o)::GT Pt r
theorem xo{Pt a:Addr}(h:a≠Pt):∀K:Ak,(GT Pt K).lookup a=K.lookup a
 |[]=>rfl
 |(b,o)::r=>by
  unfold GT;by_cases c:(b==Pt)=true
  .rw[Ay c,xo h r,Bt];have:(a==b)=false:=by have I:=eq_of_beq c;subst I;exact Ex h
   rw[this]
  .rw[Au c,Bt,Bt,xo h r]
theorem aE{Pt:Addr}:∀K:Ak,(GT Pt K).lookup Pt=none
 |[]=>rfl
 |(b,o)::r=>by
  unfold GT;by_cases c:(b==Pt)=true
  .rw[Ay c];exact aE r
  .rw[Au c,Bt];have:(Pt==b)=false:=by cases d:Pt==b with|false=>rfl|true=>exact absurd (beq_iff_eq.mpr (eq_of_beq d).symm) c
   rw[this];exact aE r
def oJ{a:Addr}{K:Ak}{o:Obj}(e:(GT Pt K).lookup a=some o):a≠Pt/\K.lookup a=some o:=by
 by_cases c:a=Pt
 .subst c;rw[aE] at e;cases e
 .rw[xo c] at e;exact{(c),e}
def Zx{K:Ak}(X:K.In h):(GT Pt K).In h:=λa o e=>X a o (oJ e).2
structure J9(K:Ak)(Pt:Addr):Prop where
 tab:K.lookup Pt=some (PySem.W.tabObj #[])
 hd:∃c,∀h:X8,K.In h->PySem.W.CodeHd h c Pt
 st:Pt≠cStatics
section
variable {K:Ak}(T:K.lookup Pt=some (PySem.W.tabObj #[]))
include T
def YF{a:Addr}{r:Option<|XY}(e:PySem.W.nsIn K a x=r):PySem.W.nsIn (GT Pt K) a x=r:=by
 rw[<-e];unfold PySem.W.nsIn;by_cases c:a=Pt
 .subst c;rw[aE,T]
 .rw[xo c]
def YQ{a:Addr}{o:Obj}(e:K.lookup a=some o)(n:o.cls≠.none):(GT Pt K).lookup a=some o:=by
 rw[xo ?_]
 .exact e
 .rintro rfl;rw[T] at e;cases e;exact n rfl
def YU{cd:X4}{q:Str}(e:PySem.W.codeIn K cd q=true):PySem.W.codeIn (GT Pt K) cd q=true:=by
 unfold PySem.W.codeIn at e ⊢;split at e
 .rename_i c;by_cases d:c=Pt
  .subst d;rw[T] at e;simp at e
  .rw[xo d];exact e
 .cases e
def Uw{v:X4}:PySem.W.ownIn (GT Pt K) x v=PySem.W.ownIn K x v:=by
 unfold PySem.W.ownIn;split
 .rfl
 .rename_i a;by_cases d:a=Pt
  .subst d;rw[aE,T]
  .rw[xo d];split
   .exact YF T rfl
   .rfl
 .rfl
theorem uu{x:Str}:∀l:XQ,PySem.W.alongIn (GT Pt K) x l=PySem.W.alongIn K x l
 |[]=>rfl
 |c::r=>by unfold PySem.W.alongIn;rw[Uw T,uu r]
def Yd{v:X4}:PySem.W.findIn (GT Pt K) v x=PySem.W.findIn K v x:=by
 unfold PySem.W.findIn;split
 .rfl
 .rename_i a;by_cases d:a=Pt
  .subst d;rw[aE,T]
  .rw[xo d];split
   .exact uu T _
   .rfl
 .rfl
def nQ{a:Addr}(n:a≠Pt):PySem.W.specialIn (GT Pt K) (.ref a) x=PySem.W.specialIn K (.ref a) x:=by unfold PySem.W.specialIn PySem.W.typeIn;dsimp only;rw[xo n];congr 1;funext t;exact Yd T
def YB{f:X4}(e:PySem.W.keepIn K f=true):PySem.W.keepIn (GT Pt K) f=true:=by
 unfold PySem.W.keepIn at e ⊢;split at e
 .rename_i a;by_cases d:a=Pt
  .subst d;rw[T] at e;simp at e
  .rw[xo d,nQ T d];exact e
 .cases e
end
def Ux{P:X6}{w:X7}{K:Ak}{mb:XM}{CX:c_}{k:Nat}{a:Addr}{sp:Sp}{I:X5}{T:XX}
 (KX:K.In I.heap) (TI:J9 K Pt) (a0:I.heap.Ns mainGlobals mg) (hb:I.heap.Ns builtinsNs mb) (ac:∀x:Str,x ≠ "__name__" -> mb x=bootBuiltins x) (a1:I.heap.NoLimit) (hg:I.gens=#[]) (al:0<I.toks)
 (p:I.heap.get? a=some {cls:=.type "list",data:=.seq vs.toArray}) (hi:IntsAre vs T) (hl:T.length<=sizeLine) (hr:wx k callerA)
 (F:∀base:X8,(GT Pt K).In base->base.Ns mainGlobals mg->bp P w (GT Pt K) mg base CX k fa fd [x] sp) (l:∀(s:X5) (u:X4),BindsTo s fd ⟨[u],[]⟩ [(x,u)])
 (au:∀H:Hp,H Pt=some (.YV #[])->(H a=none\/∃o xs,H a=some (.YC o<|.lst xs))->bE (GT Pt K) H a (T.map V.int)->sp [.ref a] H (λv _=>v=.bl true) λ_ _ _=>False)
 (av:∀H e s',CX [] H I (λ_ _ _=>False) e s'->False):
 codeAny (model P w) callerA (.call (.ref fa) ⟨[.ref a],[]⟩) (λr s'=>r=.ok (.ret<|.bool true)/\OldK I.heap s'.heap/\s'.os=I.os/\AllBare s'.gens) I:=by
 have rv:=sG hi;have a2:=hi.length;have hP:=KX Pt _ TI.tab;have U:a≠Pt:=λz=>by rw[z,hP] at p;cases p
 have core:∀H:Hp,H Pt=some (.YV #[])->(∀b,b≠a->b≠Pt->H b=none)->(H a=none\/∃o xs,H a=some (.YC o<|.lst xs))->bE (GT Pt K) H a (T.map V.int)->(∀u,H a=some u->vf P w H I.heap a u)->(H a≠none->K.lookup a=none)->
  codeAny (model P w) callerA (.call (.ref fa) ⟨[.ref a],[]⟩) (λr s'=>r=.ok (.ret<|.bool true)/\OldK I.heap s'.heap/\s'.os=I.os/\AllBare s'.gens) I:=by
  intro H HP Hn HO HS a3 ax;have a4:gY P w H I.heap:=λb u e=>by
   by_cases c:b=a
   .subst c;exact a3 u e
   .by_cases d:b=Pt
    .subst d;rw[HP] at e;cases e;exact hP
    .rw[Hn b c d] at e;cases e
  have J:∀{b:Addr} {o:Obj},I.heap.get? b=some o->H b=none->(si I.heap H).get? b=some o:=λe n=>NB e n;have aL:∀{b:Addr} {o:Obj} {t:Array DictEntry} {C:Nat},I.heap.get? b=some o->o.data=.dict t C->H b=none:=λ{b o t C} e d=>by
   refine Hn b (λz=>?_) λz=>?_
   .subst z;rw[p] at e;cases e;have d':Data.seq vs.toArray _=Data.dict t C:=d;cases d'
   .subst z;rw[hP] at e;cases e;have d':Data.fields _=Data.dict t C:=d;cases d'
  have g:∀{b:Addr} {m:XM},I.heap.Ns b m->(si I.heap H).Ns b m:=λ{b m} ψ=>(by obtain⟨o,t,C,e,d,r⟩:=ψ;exact {o,t,C,J e<|aL e d,d,r});have a5:(GT Pt K).In (si I.heap H):=λb o e=>by
   obtain⟨n,e⟩:=oJ e;refine J (KX b o e) ?_;by_cases c:b=a
   .subst c;cases q:H b with|none=>rfl|some u=>rw[ax (by rw[q];simp)] at e;cases e
   .exact Hn b c n
  have hM:Mod (GT Pt K) mg (si I.heap H):={a5,g a0,{mb,g hb,ac},let ⟨mc,h1,h2⟩:=a1;⟨mc,g h1,h2⟩};have e0:yh P w (GT Pt K) mg (si I.heap H) callerA [] I H:={rfl,hM,λb o e=>NC e,Eo<|NA _ _,trivial,λb hb=>absurd (show b∈([]:List Addr) from hb) (by simp),a4,.of_eq hg,al};refine codeAny_mono ((F _ a5<|g a0).run callerA [] I H {[.ref a],[]} [.ref a] [.ref a] _ _ hr e0 (l I<|.ref a) (.cons rfl .nil)<|au H HP HO HS) λr s' h=>?_;cases r with
  |error e=>exact(av H e s' h).elim
  |ok fl=>
   cases fl with
   |next=>exact False.elim h
   |brk=>exact False.elim h
   |cont=>exact False.elim h
   |ret u=>
    obtain⟨v,H',os,bare,un,j,r',q,_⟩:=h;have q':=q;subst q';obtain rfl:u=Value.bool true:=r';obtain⟨more,em⟩:=un.YL Pt _ HP;have gP:s'.heap.get? Pt=some (PySem.W.tabObj<|#[]++more):=j Pt _ em;have kp:∀b o,b≠Pt->I.heap.get? b=some o->s'.heap.get? b=some o:=λb o n e=>by
     have ab:=λz=>un.keep b o e z (by intro z;exact absurd (show b∈([]:List Addr) from z) (by simp)) (by simp);by_cases c:b=a
     .subst c;rcases HO with z|⟨ob,xs,z⟩
      .exact ab z
      .have z2:=un.YJ _ _ _ z;obtain⟨e1,_⟩:=a4 _ _ z;obtain⟨e2,_⟩:=j _ _ z2;rw[e] at e1;cases e1;exact e2
     .exact ab<|Hn b c n
    obtain⟨c,hc⟩:=TI.hd;refine{rfl,{λb o e=>?_,λb o e=>?_},os,bare}
    .by_cases n:b=Pt
     .subst n;rw[hP] at e;cases e;exact .inr<|.inl {((hc _ KX).tab hP).isCodeTable,rfl,#[],more,rfl,gP}
     .exact .inl<|kp b o n e
    .by_cases n:b=Pt
     .subst n;exact{_,gP}
     .exact{o,kp b o n e}
 cases hk:K.lookup a with
 |some o=>
  have e:=KX a o hk;rw[p] at e;cases e;refine core (λb=>if b=Pt then some (.YV #[]) else none) (Ay rfl) (λb _ n=>Au n) (.inl<|Au U) (.inr {_,vs.toArray,_,(xo U K).trans hk,rfl,rfl,rfl,by rw[Az,a2];exact hl,by simpa using rv}) (λu z=>by have z':=(Au U).symm.trans z;cases z') λz=>absurd (Au U) z
 |none=>
  refine core (λb=>if b=a then some (.YC {cls:=.type "list",data:=.seq vs.toArray}<|.lst<|T.map V.int) else if b=Pt then some (.YV #[]) else none) ((Au<|AJ U).trans<|Ay rfl) (λb n1 n2=>(Au n1).trans<|Au n2) (.inr {_,_,Ay rfl}) (.inl<|.inr {_,Ay rfl}) (λu z=>?_) λ_=>hk;have z':=(Ay rfl).symm.trans z;cases z';exact{p,by rw[Ah];exact hl,vs,_,rv,p}
def Zi{l:PySem.W.OpenLaw}{k:Nat}{q:X6}{loose:XT}{XP:(XM)->X8->Prop}{Z2:List Addr}{N t:Nat}{d:DefRec}{K:Params->Ak}{CX:c_}{sp:Ak->Addr->Sp}
 (hn:l.most=some n) (r:n<=sizeLine) (C:d.params.defaults=[]) (hr:wx k callerA) (ek:∀P,Z2=(K P).map (·.1)) (a0:0<t)
 (F:∀(w:X7) (mg:XM) (fa:Addr) (h:X8),(K w.params).In h->h.Ns mainGlobals mg->mg d.name=some (.ref fa)->
  ∃Pt:Addr,J9 (K w.params) Pt/\∃fd:FuncData,(∀(s:X5) (u:X4),BindsTo s fd ⟨[u],[]⟩ [(x,u)])/\
   ∀base:X8,(GT Pt<|K w.params).In base->base.Ns mainGlobals mg->bp l.prog w (GT Pt<|K w.params) mg base CX k fa fd [x] (sp (GT Pt<|K w.params) Pt))
 (a1:∀(K:Ak) (Pt:Addr) (H:Hp) (a:Addr) (p:XX),p.length<=n->H Pt=some (.YV #[])->(H a=none\/∃o xs,H a=some (.YC o<|.lst xs))->bE K H a (p.map V.int)->sp K Pt [.ref a] H (λv _=>v=.bl true) λ_ _ _=>False)
 (a2:∀(H:Hp) (s:X5) (e:X4) (s':X5),CX [] H s (λ_ _ _=>False) e s'->False):
 PySem.W.WalkX q loose XP (PySem.W.X.obsZ Z2) (PySem.W.X.valZ K N t) l.row.toRowW d [] (λf vs=>PySem.call f vs):=by
 refine YS hn C ek a0 λw a4 U mg mb fa o pm cd a5 a vs p G KX tk ho hd ab a3 j J I hg=>?_;obtain⟨Pt,TI,fd,hb,hF⟩:=F w mg fa _ KX G.T.g a3;exact Ux KX TI G.T.g G.T.b G.T.builtins G.T.nolimit hg tk j J (AS I r) hr hF hb (λH hP hO hS=>a1 _ Pt H a p I hP hO hS) λH e s'=>a2 H U e s'
def Y3{q:Str}:∀(K:Ak) (Pt:Addr) (H:Hp) (a:Addr) (I:XX),I.length<=63->H Pt=some (.YV #[])->(H a=none\/∃o xs,H a=some (.YC o<|.lst xs))->bE K H a (I.map V.int)->YR q K Pt [.ref a] H (λv _=>v=.bl true) λ_ _ _=>False:=by
 intro K Pt H a I J U g j;refine{a,I,rfl,?_,J,U,λ_=>rfl};rcases j with(h|⟨o,h⟩)|h
 .rcases g with z|⟨o,xs,z⟩<;>rw[h] at z<;>cases z
 .exact .inl {(o),h}
 .exact .inr h
structure Yn(K:Ak)(x:Str)(st:Stmt)(Pt:Addr):Prop where
 ex:∃(f:Addr) (kV gn pm:X4) (an:Option Addr) (eH ct:X4),PySem.W.nsIn K mainGlobals x=some (some<|.ref f)/\Hi K x x st f (PySem.W.fnOf x x (vd st) (jw st) (zb st) .none kV gn pm an eH ct) Pt
def Yn.use{K:Ak}(D:Yn K x st Pt)(X:K.In h)(G:h.Ns mainGlobals mg)
 (I:∀(kV gn pm:X4) (an:Option Addr) (eH ct:X4) (us:XQ),us.length=ps.length->bindArgs (PySem.W.fnOf x x (vd st) (jw st) (zb st) .none kV gn pm an eH ct) ⟨us,[]⟩=pure (ps.zip us)):
 ∃f fd,Hi K x x st f fd Pt/\aZ K fd ps []/\mg x=some (.ref f):=by
 obtain⟨f,kV,gn,pm,an,eH,ct,a,F⟩:=D.ex;exact{f,_,F,.all<|I kV gn pm an eH ct,C6 X G a}
section
variable {hQ:St}
def z9._G(M:XT)(I:z9 X pins σ H s)(J:M.length=X.N.length)(hs:hQ.length=σ.length)(h:∀(j:Nat) v,hQ[j]?=some (some v)->σ[j]?=some (some v)/\X.N[j]?=M[j]?):z9 {X with N:=M} pins hQ H s:=by obtain⟨m,U,l⟩:=I.loc;have o:=I.ok;exact {ok:={(o.mod),o.kind,o.glob,o.blt,o.above,o.inj,o.has,o._b,o.hd,o.frames,o._t,o._B,o.bs,o.ZU,o.Y4,o.Y5,o.Yt,o.ZZ},os:=I.os,bare:=I.bare,base:=I.base,cell:=I.cell,free:=I.free,Os:=I.Os,pin:=I.pin,HT:=I.HT,tk:=I.tk,len:=(by rw[hs,I.len];exact J.symm),loc:={m,U,λi x v g p r=>by obtain⟨a,b⟩:=h i v p;exact l i x v (b.trans g) a r}}
def xC(h:(σ.set i none)[j]?=some (some v)):j≠i/\σ[j]?=some (some v):=by
 by_cases c:i=j
 .subst c;rw[Di] at h;cases e:σ[i]? with|none=>rw[e] at h;cases h|some o=>rw[e] at h;cases h
 .rw[AZ c] at h;exact{AJ c,h}
def Uy(i:Nat)(t:TS):TS:=λD σ H=>t {nx:=λhQ H'=>D.nx (hQ.set i none) H',rt:=D.rt,bk:=λhQ H'=>D.bk (hQ.set i none) H',ct:=λhQ H'=>D.ct (hQ.set i none) H'} (σ.set i none) H
def Uz{t:TS}(h:PS {X with N:=X.N.set i x} st t):PS X st (Uy i t):=by
 intro g s p H D I z;have C:z9 {X with N:=X.N.set i x} g (p.set i none) H s:=I._G _ (by rw[Bn]) (by rw[Bn]) λj v e=>by obtain⟨a,b⟩:=xC e;exact{b,by rw[AZ<|AJ a]}
 refine aN (h g s _ H _ C z) λf o q=>?_;have back:∀{U:St} {l:Hp},z9 {X with N:=X.N.set i x} g U l o->z9 X g (U.set i none) l o:=λ{U l} J=>
  z9._G (X:={X with N:=X.N.set i x}) X.N J (by rw[Bn]) (by rw[Bn]) λj v e=>by obtain⟨a,b⟩:=xC e;exact{b,by rw[AZ<|AJ a]}
 cases f with
 |next=>obtain⟨U,l,J,q⟩:=q;exact{_,l,back J,q}
 |brk=>obtain⟨U,l,J,q⟩:=q;exact{_,l,back J,q}
 |cont=>obtain⟨U,l,J,q⟩:=q;exact{_,l,back J,q}
 |ret u=>obtain⟨v,U,l,J,r,q⟩:=q;exact{v,_,l,back J,r,q}
end
def iR:jq->Nat->jq
 |[],_=>[]
 |_::r,0=>none::r
 |o::r,i+1=>o::iR r i
theorem uZ:∀(τ:jq) (i:Nat),iR τ i=τ.set i none
 |[],_=>rfl
 |_::_,0=>rfl
 |o::r,i+1=>by unfold iR;rw[uZ r i];rfl
def rH(i:Nat)(t:cH)(D:vt)(τ:jq)(L:qk):Prop:=t {nx:=λI L'=>D.nx (iR I i) L',rt:=D.rt,bk:=λI L'=>D.bk (iR I i) L',ct:=λI L'=>D.ct (iR I i) L'} (iR τ i) L
def vq.forget(h:vq G H σ τ)(i:Nat):vq G H (σ.set i none) (iR τ i):=by
 rw[uZ];refine{by rw[Bn,Bn];exact h.len,λj y e=>?_};by_cases c:i=j
 .subst c;rw[Di] at e;cases I:τ[i]? with|none=>rw[I] at e;cases e|some o=>rw[I] at e;cases e
 .rw[AZ c] at e ⊢;exact h.get j y e
def mY(x:Str){t:cH}(h:QS {X with N:=X.N.set i x} st t):QS X st (rH i t):=
 ET (Uz h) λD T H p L D3 r C z k=>{iR p i,L,_,r.forget i,C,z,
  ⟨λU g j l o I J q=>k.nx _ g _ l o (I.forget i) J q,k.rt,λU g j l o I J q=>k.bk _ g _ l o (I.forget i) J q,λU g j l o I J q=>k.ct _ g _ l o (I.forget i) J q⟩}
def Ka:bootBuiltins "min"=some (.builtin "min"):=by decide +kernel
def UA(x:Y)(lo hi:XZ)(L:qk)(Q:YK):Prop:=match x with
 |.tup ys=>¬(KF ys.length 0 lo=0/\KF ys.length ys.length hi=ys.length)/\Q (.tup<|gd ys lo hi) L
 |_=>False
def Hj(K:Ak)(P:X6)(w:X7)(U:X.K=K:=by rfl)(g:X.prog=P:=by rfl)(hw:X.w=w:=by rfl):uR X (FP ⟨K,P,w⟩ UA):=by
 subst U g hw;refine uR.imp PY λx lo J H Q ψ=>?_;obtain⟨y,L,Q3,j,l,z,k⟩:=ψ;cases y with
 |tup o=>
  obtain⟨a,t,e,sq,r⟩:=j;obtain⟨C,T⟩:=z;exact{a,t,e,sq,by rw[<-r.length];exact C,λp I=>k _ _ (.tup<|gd o lo J) L (EN I) (l.skip I) {p,_,rfl,.inl<|.inl zg,(sQ r lo J).ts<|EN I} T}
 |_=>exact z.elim
def yn{a:Addr}{keep:qk->Prop}(h:∀H L,jc H₀ H->j9 G H L->keep L->∃xs,eE G.K H a xs/\xr G H ys xs):gr G H₀ (Gr G.K a) ys keep where
 go:=λi H L t I J U=>by
  obtain⟨xs,sq,r⟩:=h H L t I J;have:i<xs.length:=by rw[<-r.length];exact U
  exact{xs,xs[i],sq,An this}
 Zk:=λi H L x o y t I J g ψ=>by obtain⟨e,f⟩:=ψ;subst e;obtain⟨xs,sq,r⟩:=h _ L t I J;obtain⟨p,j,l⟩:=r.get g;have:=f xs sq;rw[j] at this;cases this;exact{EM _,I,l}
 stop:=λH L t I J=>by obtain⟨xs,sq,r⟩:=h H L t I J;exact{xs,sq,by rw[r.length];exact Ap _}
def yX(h:QE X e te):QI X tg e (Q6 te):=PI.Ym (OA h) λσ H R j L R3 l o z k=>by
 refine{j,L,_,l,o,z,λv p y C T I J U=>?_};cases y with
 |tup ys=>
  obtain⟨a,g,e,sq,r⟩:=J;exact{a,e,{(g),sq},k _ p ys (λ_=>True) C T I (yn λH L t _ _=>{g,eE.ts sq t,r.ts t}) U}
 |_=>exact U.elim
def UB{k:Nat}(I:wx k A):A.depth+3<recursionLimit:=by have:=I.dp;omega
abbrev YT:Str:="_law_order.<locals>.<lambda>"
def xP(ks:List<|Yh):Prop:=∀(p:Nat) (e:Bool) (i j:Nat),ks[p]?=some (some<|.nd e i j)->i<p/\j<p
def _p(ks:List<|Yh)(rks:XX):Prop:=∀(p:Nat) (e:Bool) (i j:Nat),p<rks.length->ks[p]?=some (some<|.nd e i j)->rks.getD i 0<rks.getD p 0/\rks.getD j 0<rks.getD p 0
def pU{r:Int}(h:i<rks.length):(rks++[r]).getD i 0=rks.getD i 0:=by rw[BI,BI,AH h]
def UC{r:Int}:(rks++[r]).getD rks.length 0=r:=by rw[BI,AL<|Ap _,DN];rfl
def _p.snoc{r:Int}{k:Yh}(ok:xP ks)(h:_p ks rks)(U:ks[rks.length]?=some k)(g:∀e i j,k=some (.nd e i j)->rks.getD i 0<r/\rks.getD j 0<r):_p ks (rks++[r]):=by
 intro p e i j I J;obtain⟨l,o⟩:=ok p e i j J;rw[Ab] at I;have I:p<rks.length+1:=I;rw[pU (show i<rks.length by lia),pU (show j<rks.length by lia)];by_cases c:p<rks.length
 .rw[pU c];exact h p e i j c J
 .have:p=rks.length:=by lia
  subst this;rw[UC];exact g e i j<|AR<|U.symm.trans J
def gx(ks:List<|Yh)(qs:XS):Prop:=qs.Pairwise λx y=>∀e i j,ks[x]?=some (some<|.nd e i j)->y≠i/\y≠j
def UD(ok:xP ks)(h:_p ks rks)(I:rks.length=ks.length)(hw:qs.Pairwise λi j=>rks.getD i 0*1000000+(i:Int)<=rks.getD j 0*1000000+(j:Int)):gx ks qs:=by refine hw.imp λ{x y} z e i j ex=>?_;obtain⟨J,U⟩:=ok x e i j ex;obtain⟨g,l⟩:=h x e i j (by rw[I];exact qz ex) ex;exact{λc=>by subst c;lia,λc=>by subst c;lia}
def wS(h:i<rks.length):(rks.map Y.int)[i]?=some (.int<|rks.getD i 0):=by rw[Aq,BI,An h];rfl
def wP:RD "_law_name" lH 0 ["_law_seed","_law_which","_law_letters","_law_size","_law_place","_law_base","_law_sign"] (λ_=>True):={_,λV B c _ _ _ _ _ _ _ J hN I=>(qa (dh (i:=2) hN rfl (Or.inr rfl) jk)<|qa (S_ 3 hN<|ql ja qe<|ql js (qv 0) qe)<|qa (S_ 4 hN<|ql js (ql wm (qv 0) qe)<|qv 3)<|qa (S_ 5 hN<|Sb jk<|jy<|gN ["_law_k"] (ES (by rfl)) rfl (aJ rfl B.be<|jy qe) (sJ 7) (λ_ _ _ _=>gt) λ_ _ _ _=>(I_ (qv 2)<|ql js (ql ja (ql wm (qv 0) qe)<|ql l5 qe<|qv 7) qe))<|qa (zr (E_ I (ql js (ql wm (qv 0) qe) qe) qe) (qd<|qr<|aU (qL _ _ _) (qv 5) bz<|ai<|ql ja qe<|ql js (ql ja (qv 1)<|qv 0) qe) qw)<|qa (S_ 6 hN<|I_ (qv 2)<|ql js (ql ja (ql ja (ql wm (qv 0) qe)<|ql l5 qe<|qv 4)<|qv 1) qe)<|qd<|qr<|ql ja (ql ja (aU (qL _ _ _) (qv 5) bz<|ai<|qv 4)<|qv 6)<|aU (qL _ _ _) (qv 5) (ai<|ql ja (qv 4) qe)<|ai<|qv 3)}
def eL(i:Int):Nat:=97+(i % 26).toNat
def Kb(i:Int):dZ ("abcdefghijklmnopqrstuvwxyz" : Str).cps.toList (i % 26)=some (eL i):=by
 obtain⟨n,I⟩:∃n:Nat,i % 26=n:={(i % 26).toNat,by lia};have h:n<26:=by lia
 unfold eL;rw[I];have key:∀n,n<26->("abcdefghijklmnopqrstuvwxyz" : Str).cps.toList[n]?=some (97+n):=by decide +kernel
 exact jo<|key n h
def zW(i:Int):97<=eL i/\eL i<=122:=by unfold eL;lia
def dr(s:Int):XS:=(List.range 8).map λk:Nat=>eL<|s / 64+3*(k:Int)
def nN(s:Int):(dr s).length=8:=by unfold dr;simp
def nW(s:Int):∀c∈dr s,97<=c/\c<=122:=λc I=>by obtain⟨k,_,rfl⟩:=BE.mp I;exact zW _
def qM(s:Int):Nat:=(s / 8 % (1+s % 8)).toNat
def Z4(s:Int):Nat:=(1+s % 8).toNat
def Kc(s:Int):qM s<Z4 s/\Z4 s<=8/\s / 8 % (1+s % 8)=(qM s:Int)/\1+s % 8=(Z4 s:Int):=by
 have I:0<1+s % 8:=by lia
 have J:0<=s / 8 % (1+s % 8):=DG _ (by lia);have U:s / 8 % (1+s % 8)<1+s % 8:=CM _ I;unfold qM Z4;lia
def aj(s w:Int):XS:=
 if s / 64 % 3=1 then(dr s).take (1+(w+s) % 3).toNat
 else((dr s).take (qM s)++[eL<|s / 64+3*(qM s:Int)+w])++((dr s).drop<|qM s+1).take (Z4 s-(qM s+1))
def um(s w:Int):eJ (s_<|aj s w):=by
 have I:(s_<|aj s w).length=(aj s w).length:=by rw[<-len_list];show(aj s w).toArray.toList.length=_;simp
 have J:(s_<|aj s w).cps.toList=aj s w:=by show(aj s w).toArray.toList=_;simp
 have U:=nN s;obtain⟨g,j,_,_⟩:=Kc s;refine{?_,?_,?_}
 .rw[I];unfold aj;split
  .rw[A7];omega
  .rw[Ab,Ab];simp;simp +arith only
 .rw[I];unfold aj;split
  .rw[A7];omega
  .rw[Ab,Ab,A7,A7,BQ];simp;lia
 .rw[J];intro c h;unfold aj at h;split at h
  .exact nW s c<|BK h
  .rcases Ag.mp h with h|h
   .rcases Ag.mp h with h|h
    .exact nW s c<|BK h
    .rw[Aj.mp h];exact zW _
   .exact nW s c<|CW<|BK h
inductive iA(ys:_T)(L:qk)(Q:YK):Prop
 |mk:∀s w:Int,(ys=[.int s,.int w])->(Q (.str<|s_<|aj s w) L)->iA ys L Q
def UE(h:m<=n)(h2:n<=x.length):(Txt.slice x (some (m:Int))<|some (n:Int)).cps.toList=(x.cps.toList.drop m).take (n-m):=by have e:=rM x (some (m:Int))<|some (n:Int);rw[Yr,Yr,BW h2,BW<|AS h h2] at e;exact e
def qX(h:n<=x.length):(Txt.slice x none<|some (n:Int)).cps.toList=x.cps.toList.take n:=by have e:=rM x none<|some (n:Int);rw[Yr,YG,DQ,Nat.sub_zero,BW h] at e;exact e
def UF:_f iA wP.1 7:=by
 rintro ys L Q ⟨s,w,rfl,q⟩;have j:0<1+s % 8:=by lia
 refine{(by decide:(0:Int)<8),{by decide,by decide},j,{by decide,by decide},?_};refine oT (m:=8) (λi zs=>zs=((List.range i).map λk:Nat=>Y.str {#[eL<|s / 64+3*(k:Int)]})) (by decide) rfl ?_ ?_
 .rintro i _ hi rfl;have I:=Kb<|s / 64+3*(0+(i:Int));refine{{by decide,by decide},.inl {by decide,by decide},(by decide:(0:Int)<26),by decide +kernel,?_};walk_at "w";rw[I];refine{_,EL _,rfl,?_};rw[CP,AI,show(0:Int)+(i:Int)=(i:Int) by simp +arith only];rfl
 .rintro _ rfl p t;have e0:((List.range 8).map λk:Nat=>Y.str {#[eL<|s / 64+3*(k:Int)]})=((dr s).map λc=>({#[c]}:Str)).map Y.str:=by unfold dr;rw[Ci,Ci];rfl
  rw[e0];refine qp q9 {(dr s).map λc=>({#[c]}:Str),rfl,?_,?_}
  .have J:∀U:XS,((U.map λc=>({#[c]}:Str)).map (·.length)).sum=U.length:=λU=>by induction U with|nil=>rfl|cons c r ih=>rw[AQ,AQ,List.sum_cons,ih,Av];exact Er _ _
   rw[J,nN];show 8+_*0<=_;rw[Nat.mul_zero];decide
  .have g:=TR<|dr s;have l:(Txt.join ""<|(dr s).map λc=>({#[c]}:Str)).length=8:=by rw[<-len_list,g,nN]
   generalize Txt.join "" ((dr s).map λc=>({#[c]}:Str))=base at l g;obtain⟨p1,p2,o,C⟩:=Kc s;refine{{by decide,by decide},(by decide:(0:Int)<3),?_};refine zp (λc=>?_) λc=>?_
   .have e:1+(w+s) % 3=((1+(w+s) % 3).toNat:Int):=by lia
    refine{(by decide:(0:Int)<3),small (by lia),fC (By t) ?_};have es:=qX (x:=base) (n:=(1+(w+s) % 3).toNat) (by lia);have eq:Txt.slice base none (some<|1+(w+s) % 3)=s_ (aj s w):=by rw[e];refine(J2 _).symm.trans ?_;rw[es,g];unfold aj;rw[Ay c]
    rw[<-eq] at q;exact q
   .have I:=Kb<|s / 64+3*(s / 8 % (1+s % 8))+w;refine{{by decide,by decide},.inl {by decide,by decide},(by decide:(0:Int)<26),by decide +kernel,?_};walk_at "w";rw[I];have T:=qX (x:=base) (n:=qM s) (by lia);have s2:=UE (x:=base) (m:=qM s+1) (n:=Z4 s) (by assumption) (by lia);have l1:(Txt.slice base none<|some (qM s:Int)).length=qM s:=by rw[<-len_list,T,A7,len_list];lia
    have l2:(Txt.slice base (some ((qM s+1:Nat):Int))<|some (Z4 s:Int)).length<=8:=by rw[<-len_list,s2,A7];lia
    refine{small (by lia),?_};refine{small (by rw[o,l1];show qM s+1<=1000;lia),?_};refine{small (by lia),?_};have J:((qM s:Int)+1)=((qM s+1:Nat):Int):=by rfl
    have l3:(Txt.slice base none (some (qM s:Int))++(⟨#[eL<|s / 64+3*(s / 8 % (1+s % 8))+w]⟩:Str)).length=qM s+1:=by rw[PySem.Str.length_append,l1];rfl
    refine{small ?_,fC (By t) ?_}
    .rw[o] at l3 ⊢;rw[l3,J,C];lia
    .have eq:(Txt.slice base none (some (qM s:Int))++(⟨#[eL<|s / 64+3*(qM s:Int)+w]⟩:Str))++Txt.slice base (some ((qM s+1:Nat):Int)) (some (Z4 s:Int))=s_ (aj s w):=by
      refine(J2 _).symm.trans ?_;have ca:∀a b:Str,(a++b).cps.toList=a.cps.toList++b.cps.toList:=λa b=>by show(a.cps++b.cps).toList=_;simp
      rw[ca,ca,T,s2,g];unfold aj;rw[Au c]
     rw[o,J,C,eq];exact q
def UG(t t':Bool)(n n':Str):Da.eq (tR<|.leaf t n) (tR<|.leaf t' n')=(decide (t=t')&&decide (n=n')):=by
 by_cases h:n=n'
 .subst h;cases t<;>cases t'<;>simp[tR,Da.eq,Da.eqs,om,kL]<;>decide +kernel
 .cases t<;>cases t'<;>simp[tR,Da.eq,Da.eqs,om,kL,h]<;>decide +kernel
theorem jJ{α β:Type}(f:α->β):∀(l:List α) (n:Nat),(l.map f).eraseIdx n=(l.eraseIdx n).map f
 |[],n=>by simp
 |_::_,0=>rfl
 |x::r,n+1=>by rw[AQ,CC,CC,AQ,jJ f r n]
def a8(a:jb)(b:Y)(r:List<|jb×Y)(k:jb):wv ((a,b)::r) k=if a=k then some b else wv r k:=by
 unfold wv;rw[BP];by_cases h:a=k
 .rw[Ay h,show decide ((a,b).1=k)=true from AA h];rfl
 .rw[Au h,show decide ((a,b).1=k)=false from AB h]
theorem vW(k J:jb)(y:Y):∀kvs:List (jb×Y),wv (kvs.map λU=>if U.1=k then(U.1,y) else U) J=if J=k then(wv kvs J).map (λ_=>y) else wv kvs J
 |[]=>by rw[Dl];split<;>rfl
 |(a,b)::r=>by
  have g:=vW k J y r;rw[AQ,a8];by_cases h:a=k
  .rw[Ay<|show(a,b).1=k from h,a8,g];by_cases I:J=k
   .rw[Ay I,Ay I,Ay<|h.trans I.symm,Ay<|h.trans I.symm];rfl
   .rw[Au I,Au I,Au λz=>I<|z.symm.trans h,Au λz=>I<|z.symm.trans h]
  .rw[Au<|show ¬(a,b).1=k from h,a8,g];by_cases I:J=k
   .rw[Ay I,Ay I,Au λz=>h<|z.trans I,Au λz=>h<|z.trans I]
   .rw[Au I,Au I]
theorem ui(k I:jb)(y:Y):∀kvs:List (jb×Y),wv (kvs++[(k,y)]) I=(wv kvs I).or (if k=I then some y else none)
 |[]=>by rw[CO,a8];have:wv [] I=none:=rfl;rw[this];split<;>rfl
 |(a,b)::r=>by rw[List.cons_append,a8,a8,ui k I y r];split<;>rfl
theorem uW(k:jb):∀kvs:List (jb×Y),(kvs.any λI=>decide<|I.1=k)=(wv kvs k).isSome
 |[]=>rfl
 |(a,b)::r=>by
  rw[Cy,a8,uW k r];by_cases h:a=k
  .rw[Ay h,show decide ((a,b).1=k)=true from AA h];rfl
  .rw[Au h,show decide ((a,b).1=k)=false from AB h];rfl
def vC(kvs:List<|jb×Y)(k I:jb)(y:Y):wv (oA kvs k y) I=if I=k then some y else wv kvs I:=by
 unfold oA;rw[uW];cases e:wv kvs k with
 |some v=>
  rw[Ay<|show(some v).isSome=true from rfl,vW];by_cases h:I=k
  .rw[Ay h,Ay h,h,e];rfl
  .rw[Au h,Au h]
 |none=>
  rw[Au (by simp),ui];by_cases h:I=k
  .rw[Ay h,h,e,Ay rfl];rfl
  .rw[Au h,Au λz=>h z.symm];cases wv kvs I<;>rfl
def wJ(kvs:List<|jb×Y)(k:jb)(y:Y):(oA kvs k y).length<=kvs.length+1:=by
 unfold oA;split
 .rw[Ah];omega
 .rw[Ab];simp
def pY(f:X0):Yh->Yh
 |some (.nd e i j)=>some<|.nd e (f i)<|f j
 |k=>k
theorem yy{f g:X0}:∀{k:Yh},(∀e i j,k=some (.nd e i j)->f i=g i/\f j=g j)->pY f k=pY g k
 |none,_=>rfl
 |some (.lf _ _),_=>rfl
 |some (.nd e i j),h=>by obtain⟨a,b⟩:=h e i j rfl;show some (Kn.nd e (f i)<|f j)=some (Kn.nd e (g i)<|g j);rw[a,b]
structure yx(ks:List<|Yh)(ps:XS)(f:X0)(wd:List<|Yh):Prop where
 at_:∀p∈ps,∀k,ks[p]?=some k->wd[f p]?=some (pY f k)
 inj:∀p∈ps,∀q∈ps,f p=f q->p=q
 only:∀x k,wd[x]?=some (some k)->∃p∈ps,x=f p
 ok:xP wd
def yx.nil(ks:List<|Yh)(f:X0):yx ks [] f []:={λp I=>(Bo I).elim,λp I=>(Bo I).elim,λx k h=>(by simp at h),λp e i j h=>(by simp at h)}
def xP.gap(h:xP wd):xP (wd++[none]):=by
 intro p e i j I;by_cases c:p<wd.length
 .rw[AH c] at I;exact h p e i j I
 .rw[AL<|FH] at I;cases J:p-wd.length with|zero=>rw[J] at I;cases I|succ m=>rw[J] at I;cases I
theorem yx.gap{ps:XS}{f:X0}(h:yx ks ps f wd):yx ks ps f (wd++[none]):=by
 refine{λp U k g=>kE<|h.at_ p U k g,h.inj,λx k I=>?_,h.ok.gap};by_cases c:x<wd.length
 .rw[AH c] at I;exact h.only x k I
 .rw[AL (by lia)] at I;cases J:x-wd.length with|zero=>rw[J] at I;cases I|succ m=>rw[J] at I;cases I
def yx.lt{ps:XS}{f:X0}(h:yx ks ps f wd)(hp:p∈ps)(I:p<ks.length):f p<wd.length:=qz<|h.at_ p hp _<|An I
def yx.step{ps:XS}{f:X0}(h:yx ks ps f wd)(r:∀p∈ps,p<ks.length){k:Yh}(hp:p∉ps)(C:ks[p]?=some k)(o:∀x∈ps,∀e i j,ks[x]?=some (some<|.nd e i j)->i∈ps/\j∈ps)(J:∀e i j,k=some (.nd e i j)->i∈ps/\j∈ps):
 yx ks (ps++[p]) (λx=>if x=p then wd.length else f x) (wd++[pY f k]):=by
 have old:∀x∈ps,(if x=p then wd.length else f x)=f x:=λx I=>Au λ(c:x=p)=>hp<|c▸I;have _G:∀l,(∀e i j,l=some (.nd e i j)->i∈ps/\j∈ps)->pY (λx=>if x=p then wd.length else f x) l=pY f l:=λl U=>yy λe i j z=>by obtain⟨a,b⟩:=U e i j z;exact{old i a,old j b}
 refine{λx I l U=>?_,λx I y g e=>?_,λx l I=>?_,λx e i j I=>?_}
 .rcases Ag.mp I with I|I
  .show(wd++[pY f k])[if x=p then wd.length else f x]?=_;rw[old x I,_G l λe i j z=>o x I e i j (by rw[U,z])];exact kE<|h.at_ x I l U
  .have I:=Aj.mp I;subst I;rw[C] at U;cases U;rw[Ay rfl,_G k J];exact fJ wd _ []
 .have e:=e;rcases Ag.mp I with I|I<;>rcases Ag.mp g with g|g
  .rw[old x I,old y g] at e;exact h.inj x I y g e
  .cases Aj.mp g;rw[old x I,Ay rfl] at e;have:=h.lt I<|r x I;lia
  .cases Aj.mp I;rw[old y g,Ay rfl] at e;have:=h.lt g<|r y g;lia
  .rw[Aj.mp I,Aj.mp g]
 .by_cases c:x<wd.length
  .rw[AH c] at I;obtain⟨q,t,e⟩:=h.only x l I;exact{q,Am _ t,by rw[e];exact(old q t).symm}
  .refine{p,Ae _<|Aj.mpr rfl,?_};have:=qz I;rw[Ab] at this;have:x<wd.length+1:=this;rw[Ay rfl];lia
 .by_cases c:x<wd.length
  .rw[AH c] at I;exact h.ok x e i j I
  .have:=qz I;rw[Ab] at this;have:x<wd.length+1:=this;have:x=wd.length:=by lia
   subst this;rw[AL<|Ap _,DN] at I;have I:=AR I;cases k with
   |none=>cases I
   |some k=>
    cases k with
    |lf=>cases I
    |nd T i' j'=>
     obtain⟨a,b⟩:=J T i' j' rfl;cases I;exact{h.lt a<|r _ a,h.lt b<|r _ b}
def oo(ok:xP ks)(pm:qs.Perm<|List.range ks.length)(l:gx ks qs)(hp:qs[n]?=some p){e:Bool}(h:ks[p]?=some (some<|.nd e i j)):i∈qs.take n/\j∈qs.take n:=by
 obtain⟨C,T⟩:=ok p e i j h;have hl:=qz h;have o:=qz hp;have ind:∀x,x<ks.length->x≠p->(∀y∈qs.drop (n+1),y≠x)->x∈qs.take n:=λx t ne U=>by
  have I:=pm.mem_iff.mpr<|AM.mpr t;have g:qs=qs.take n++p::qs.drop (n+1):=by rw[An o] at hp;rw[<-AR hp,CN,Bh]
  rw[g] at I;rcases Ag.mp I with I|I
  .exact I
  .rcases Ao.mp I with I|I
   .exact absurd I ne
   .exact absurd rfl<|U x I
 have r:∀y∈qs.drop (n+1),y≠i/\y≠j:=λy J=>by
  have g:qs=qs.take n++p::qs.drop (n+1):=by rw[An o] at hp;rw[<-AR hp,CN,Bh]
  rw[g] at l;have:=(A3.mp l).2.1;exact(List.pairwise_cons.mp this).1 y J e i j h
 exact{ind i (sM) (Il) λy J=>(r y J).1,ind j (sM) (Il) λy J=>(r y J).2}
def Kd:RD "_law_join" lZ 0 ["_law_knots","_law_forest","_law_one","_law_two","_law_first","_law_second","_law_left","_law_right","_law_ends"] (λ_=>True):={_,λV B c _ _ _ _ _ _ _ I hN J=>(qa (S_ 4 hN<|cL (qv 1)<|jy<|ql js (qv 3)<|L_ B.ba<|qv 1)<|qa (S_ 5 hN<|cL (qv 1)<|jy<|ql js (qv 2)<|L_ B.ba<|qv 1)<|qa (dh (i:=6) hN rfl (Or.inr rfl)<|I_ (J_ 4)<|ql js (ql wm (qv 3) qe)<|L_ B.ba<|J_ 4)<|qa (dh (i:=7) hN rfl (Or.inr rfl)<|I_ (J_ 5)<|ql js (ql wm (qv 2) qe)<|L_ B.ba<|J_ 5)<|qa (zf<|za (qv 0)<|jy<|zj<|bq jk (qv 6)<|qv 7)<|qa (ak ["_law_p"] (i:=8) hN rfl (Or.inl rfl) (ES (by rfl)) rfl (vk<|ql ja (J_ 4)<|J_ 5) (sJ 9) (λ_ _ _ _=>bU<|jv (tE _ _ _) (qv 9) (zj<|ki (qv 6)<|qv 7) (by with_unfolding_all rfl)) λ_ _ _ _=>(qv 9))<|qd<|zf<|za (qv 1)<|jy<|jm<|ki (zj<|vg jk<|bq (ql cD (L_ B.ba<|qv 0) qe) (J_ 4)<|J_ 5)<|ql ja (qv 8)<|jm<|jy<|ql cD (L_ B.ba<|qv 0) qe)}
def Ke:RD "_law_fold" lT 0 ["_law_knots","_law_tree_here","_law_one","_law_two","_law_left","_law_right"] (λ_=>True):={_,λV B c _ _ _ _ _ _ _ I hN J=>(qa (zr (jv vQ (L_ B.ba<|J_ 1) qe<|jt _) (qd IS) qw)<|qa (S_ 4 hN<|cL (J_ 1)<|jy<|ql js (qv 3)<|L_ B.ba<|J_ 1)<|qa (S_ 5 hN<|cL (J_ 1)<|jy<|ql js (qv 2)<|L_ B.ba<|J_ 1)<|qa (zf<|za (qv 0)<|jy<|zj<|bq jk (qv 4)<|qv 5)<|qa (fY (qv 1) qe<|zj<|bq jk (ql cD (L_ B.ba<|qv 0) qe)<|J_ 1)<|qd<|zf<|za (J_ 1)<|jy<|ql cD (L_ B.ba<|qv 0) qe)}
theorem dD{ks:Yg}:∀{w v:Wd} {p:Nat},du ks p w->du ks p v->w=v
 |.leaf t n,.leaf g C,p,h,k=>by
  have h:=h;have k:(kq ks)[p]?=some (.tup [.str<|kL g,.str C]):=k;rw[h] at k;injection k with k;injection k with k;injection k with J I;injection I with I _
  injection J with J;injection I with I
  have:t=g:=by cases t<;>cases g<;>first|rfl|(exfalso;revert J;decide +kernel)
  rw[this,I]
 |.leaf t n,.node e l r,p,h,k=>by obtain⟨i,j,k,_⟩:=k;have h:=h;rw[h] at k;injection k with k;injection k with k;injection k with _ k;injection k with _ k;cases k
 |.node e l r,.leaf t n,p,h,k=>by obtain⟨i,j,h,_⟩:=h;have k:(kq ks)[p]?=some (.tup [.str<|kL t,.str n]):=k;rw[h] at k;injection k with k;injection k with k;injection k with _ k;injection k with _ k;cases k
 |.node e l r,.node o l' r',p,ψ,χ=>by
  obtain⟨i,j,h,T,hr⟩:=ψ;obtain⟨i',j',k,kl,kr⟩:=χ
  rw[h] at k;injection k with k;injection k with k;injection k with J I;injection I with I U;injection U with U _
  injection J with J;injection I with I;injection U with U
  have e1:i=i':=by lia
  have e2:j=j':=by lia
  subst e1 e2;have:e=o:=by cases e<;>cases o<;>first|rfl|(exfalso;revert J;decide +kernel)
  rw[this,dD (ks:=ks) T kl,dD (ks:=ks) hr kr]
theorem jU{ks:Yg}(I:ef ks):∀(m p:Nat),p<m->p<ks.length->∃w,du ks p w/\w.depth<=p+1/\w.ok
 |0,p,h,_=>absurd h (by lia)
 |m+1,p,h,g=>by
  obtain⟨k,J⟩:∃k,ks[p]?=some k:={_,An g};have U:=I p k J;cases k with
  |lf t n=>exact{.leaf t n,du.leaf J,by exact Cf _,U}
  |nd e i j=>
   have U:=U;obtain⟨l,o,T,C⟩:=jU I m i (by lia) (by omega);obtain⟨r,b1,b2,b3⟩:=jU I m j (by lia) (by lia);exact{.node e l r,E5 J o b1,by show max l.depth r.depth+1<=p+1;lia,C,b3}
def TV(v:Str->Bool):Wd->Bool
 |.leaf t n=>if t=true then !v n else v n
 |.node e l r=>if e=true then TV v l||TV v r else TV v l&&TV v r
theorem nH(v:Str->Bool):∀w:Wd,TV v w.turn=!TV v w
 |.leaf t n=>by cases t<;>simp[Wd.turn,TV]
 |.node e l r=>by cases e<;>simp[Wd.turn,TV,nH v l,nH v r]
theorem SR.lt{ks:Yg}{E:XS}(h:SR ks R E):∀x∈qu R,x<ks.length:=by
 have lt:∀{p:Nat} {k:Kn},ks[p]?=some k->p<ks.length:=λh=>(AN.mp h).1
 induction h with
 |link _ j l _ _=>intro x I;simp[qu] at I;rcases I with rfl|rfl;exact lt j;exact lt l
 |ei g _ _ _ _ _ _ o=>intro x I;rcases Ao.mp I with rfl|I;exact lt g;exact o x I
 |bo g _ _ _ _ _ _ J U=>
  intro x I;rcases Ao.mp I with rfl|I
  .exact lt g
  .rcases Ag.mp I with I|I
   .exact J x I
   .exact U x I
 |cu _ _ _ _ _ _ _ _ J U=>
  intro x I;rcases Ag.mp I with I|I
  .exact J x I
  .exact U x I
theorem SR.tv{ks:Yg}(hk:ef ks)(v:Str->Bool){E:XS}(h:SR ks R E):∃x∈E,∃w,du ks x w/\TV v w=true:=by
 have ex:∀{R':Ru} {E':XS},SR ks R' E'->∀x∈E',∃w,du ks x w:=λs x U=>by obtain⟨w,hw,_⟩:=jU hk (x+1) x (Bz _)<|s.lt x<|s.sub x U;exact{(w),hw}
 induction h with
 |@link p q t n E _ h2 h3 h4 _=>
  cases ht:TV v (.leaf t n) with
  |true=>exact{p,(h4 p).mpr<|.inl rfl,_,du.leaf h2,ht}
  |false=>
   refine{q,(h4 q).mpr<|.inr rfl,_,du.leaf h3,?_};have:=nH v<|.leaf t n;rw[ht] at this;exact this
 |@ei r i j A EA E h1 hA hi hj _ g _ ih=>
  obtain⟨x,U,w,hw,tv⟩:=ih;obtain⟨wi,l⟩:=ex hA i hi;obtain⟨wj,o⟩:=ex hA j hj;by_cases I:x=i
  .subst I;rw[dD hw l] at tv;exact{r,(g r).mpr<|.inr rfl,_,E5 h1 l o,by simp[TV,tv]}
  .by_cases J:x=j
   .subst J;rw[dD hw o] at tv;exact{r,(g r).mpr<|.inr rfl,_,E5 h1 l o,by simp[TV,tv]}
   .exact{x,(g x).mpr<|.inl {(U),I,J},w,hw,tv}
 |@bo r i j A B EA EB E h1 hA hB hi hj g _ C T=>
  obtain⟨x,U,w,hw,tv⟩:=C;obtain⟨y,hy,u,hu,tu⟩:=T;by_cases I:x=i
  .by_cases J:y=j
   .subst I J;exact{r,(g r).mpr<|.inr<|.inr rfl,_,E5 h1 hw hu,by simp[TV,tv,tu]}
   .exact{y,(g y).mpr<|.inr<|.inl {(hy),J},u,hu,tu}
  .exact{x,(g x).mpr<|.inl {(U),I},w,hw,tv}
 |@cu p q A B EA EB E w0 hA hB hp hq a0 a1 h7 _ C T=>
  obtain⟨x,U,w,hw,tv⟩:=C;obtain⟨y,hy,u,hu,tu⟩:=T;by_cases I:x=p
  .by_cases J:y=q
   .subst I J;rw[dD hw a0] at tv;rw[dD hu a1,nH,tv] at tu;cases tu
   .exact{y,(h7 y).mpr<|.inr {(hy),J},u,hu,tu}
  .exact{x,(h7 x).mpr<|.inl {(U),I},w,hw,tv}
def SR.ends{ks:Yg}(I:ef ks){E:XS}(h:SR ks R E):0<E.length:=by obtain⟨x,J,_⟩:=h.tv I λ_=>true;exact Cj J
structure Tr where
 a:Addr
 b:Addr
 R:Ru
 E:XS
abbrev Yi:=List Tr
abbrev jh(E:XS):_T:=E.map λn:Nat=>Y.int (n:Int)
def Tr.Ye(t:Tr):List Addr:=[t.a,t.b]
structure bx(L0 L:qk)(ka fa:Addr)(ks:Yg)(fo:Yi):Prop where
 hk:L ka=some (.lst<|kq ks)
 ht:∀t∈fo,L t.a=some (.lst [j8 t.R,.ref t.b])/\L t.b=some (.lst<|jh t.E)
 sr:∀t∈fo,SR ks t.R t.E
 nd:(fo.flatMap λt=>qu t.R).Nodup
 tm:∀x,x∈(fo.flatMap λt=>qu t.R)↔x<ks.length
 ad:(ka::fa::fo.flatMap Tr.Ye).Nodup
 ok:ef ks
 sub:qg L0 L
 fr:∀x∈ka::fa::fo.flatMap Tr.Ye,L0 x=none
def zx(fo:Yi):_T:=fo.map λt=>Y.ref t.a
structure ph(L0 L:qk)(ka fa:Addr)(ks:Yg)(fo:Yi):Prop where
 b:bx L0 L ka fa ks fo
 hf:L fa=some (.lst<|zx fo)
def EI:Ru->Prop
 |.link _ _=>True
 |.ei _ A=>EI A
 |.bo _ A B=>EI A/\EI B
 |.cu _ _ _ _=>False
def Kf(ks:Yg)(fo:Yi)(I:Yg)(fo':Yi):Prop:=(∃ms:Yg,I=ks++ms/\∀k∈ms,∃e i j,k=.nd e i j)/\((∀t∈fo,EI t.R)->∀t∈fo',EI t.R)
def bx.perm{ks:Yg}{fo fo':Yi}(h:bx L0 L ka fa ks fo)(p:fo.Perm fo'):bx L0 L ka fa ks fo':=by have J:(fo.flatMap λt=>qu t.R).Perm (fo'.flatMap λt=>qu t.R):=p.flatMap_right _;have U:(fo.flatMap Tr.Ye).Perm (fo'.flatMap Tr.Ye):=p.flatMap_right _;refine{h.hk,λt I=>h.ht t<|p.mem_iff.mpr I,λt I=>h.sr t<|p.mem_iff.mpr I,J.nodup_iff.mp h.nd,λx=>by rw[<-J.mem_iff];exact h.tm x,((U.cons _).cons _).nodup_iff.mp h.ad,h.ok,h.sub,λx g=>h.fr x<|((U.cons _).cons _).mem_iff.mpr g}
variable {fo rest:List Tr}
theorem x9{α:Type}:∀{l:List α} {j:Nat} {x:α},l[j]?=some x->l.Perm (x::l.eraseIdx j)
 |[],_,_,h=>by simp at h
 |y::r,0,x,h=>by
  have:y=x:=by simpa using h
  subst this;exact .refl _
 |y::r,j+1,x,h=>by have I:=x9 (l:=r) (j:=j) (x:=x) (by simpa using h);rw[CC];exact(I.cons y).trans (.swap _ _ _)
def oV(fo:Yi)(j:Nat):(zx fo).eraseIdx j=zx (fo.eraseIdx j):=jJ _ fo j
theorem qg.none(s:qg L L'){p:Addr}(h:L' p=none):L p=none:=by cases z:L p with|none=>rfl|some o=>rw[s _ _ z] at h;cases h
def bx.Zt{ks:Yg}(h:bx L0 L ka fa ks fo):ka≠fa:=by have ad:=h.ad;rw[AD] at ad;exactλe=>ad.1<|e▸Ai ..
def bx.nk{ks:Yg}(h:bx L0 L ka fa ks fo):∀t∈fo,t.a≠fa/\t.b≠fa/\t.a≠ka/\t.b≠ka:=λt I=>by have ad:=h.ad;rw[AD,AD] at ad;have J:t.a∈fo.flatMap Tr.Ye:=A5.mpr {t,I,by simp[Tr.Ye]};have U:t.b∈fo.flatMap Tr.Ye:=A5.mpr {t,I,by simp[Tr.Ye]};exact{λe=>ad.2.1<|e▸J,λe=>ad.2.1<|e▸U,λe=>ad.1<|Ac _<|e▸J,λe=>ad.1<|Ac _<|e▸U}
def bx.Y2{ks:Yg}(h:bx L0 L ka fa ks fo)(o:LO):bx L0 (qf L fa o) ka fa ks fo:=by
 refine{by rw[qc h.Zt];exact h.hk,λt I=>?_,h.sr,h.nd,h.tm,h.ad,h.ok,λb u e=>?_,h.fr}
 .obtain⟨J,U,_,_⟩:=h.nk t I;rw[qc J,qc U];exact h.ht t I
 .have:b≠fa:=λz=>by rw[z,h.fr fa (by simp)] at e;cases e
  rw[qc this];exact h.sub _ _ e
def bx.mono{ks:Yg}(h:bx L0 L ka fa ks fo)(s:qg L L'):bx L0 L' ka fa ks fo:=
 ⟨s _ _ h.hk,λt I=>{s _ _ (h.ht t I).1,s _ _ (h.ht t I).2},h.sr,h.nd,h.tm,h.ad,h.ok,h.sub.trans s,h.fr⟩
def bx.exs{ks:Yg}(h:bx L0 L ka fa ks fo):∀z∈fo.flatMap Tr.Ye,∃o,L z=some o:=λz I=>by
 obtain⟨t,J,I⟩:=A5.mp I;obtain⟨U,g⟩:=h.ht t J;have I:z=t.a\/z=t.b:=by simpa[Tr.Ye] using I
 rcases I with rfl|rfl
 .exact{_,U}
 .exact{_,g}
def UH{l:List Addr}(nd:l.Nodup)(ex:∀z∈l,∃o,L z=some o)(U:L pa=none)(g:L pb=none)(ne:pa≠pb):(l++[pa,pb]).Nodup:=by
 rw[AG];refine{nd,by simp[ne],λu j v J e=>?_};subst e;obtain⟨o,I⟩:=ex u j;simp at J;rcases J with rfl|rfl
 .rw[U] at I;cases I
 .rw[g] at I;cases I
def bx.step{ks:Yg}{old:Yi}{t':Tr}(h:bx L0 L ka fa ks<|old++rest)(C:L' ka=some (.lst<|kq<|ks++ms))(T:L' t'.a=some (.lst [j8 t'.R,.ref t'.b])/\L' t'.b=some (.lst<|jh t'.E))
 (keep:∀t∈rest,L' t.a=L t.a/\L' t.b=L t.b) (sub:qg L0 L') (ad:(ka::fa::(rest++[t']).flatMap Tr.Ye).Nodup) (fr:∀x∈t'.Ye,L0 x=none) (ok:ef<|ks++ms) (sr:SR (ks++ms) t'.R t'.E)
 (tp:(qu t'.R).Perm<|List.range' ks.length ms.length++old.flatMap λt=>qu t.R):bx L0 L' ka fa (ks++ms) (rest++[t']):=by
 have U:=h.nd;have g:=h.tm;rw[AV] at U;have r:((rest++[t']).flatMap λt=>qu t.R)=(rest.flatMap λt=>qu t.R)++qu t'.R:=by rw[AV];simp
 have mem:∀x,x∈qu t'.R↔(ks.length<=x/\x<ks.length+ms.length)\/x∈(old.flatMap λt=>qu t.R):=λx=>by rw[tp.mem_iff,Ag,Ds]
 refine{C,λt J=>?_,λt J=>?_,?_,λx=>?_,ad,ok,sub,λx I=>?_}
 .rcases Ag.mp J with J|J
  .obtain⟨k1,k2⟩:=keep t J;rw[k1,k2];exact h.ht t<|Ae _ J
  .rw[Aj.mp J];exact T
 .rcases Ag.mp J with J|J
  .exact(h.sr t<|Ae _ J).more _
  .rw[Aj.mp J];exact sr
 .rw[r,AG];rw[AG] at U;refine{U.2.1,tp.nodup_iff.mpr ?_,λx I y j e=>?_}
  .rw[AG];refine{Eb,U.1,λx I y j e=>?_};have I:=Ds.mp I;have j:=(g y).mp (by rw[AV];exact Am _ j);lia
  .subst e;rcases (mem x).mp j with j|j
   .have:=(g x).mp (by rw[AV];exact Ae _ I);lia
   .exact U.2.2 x j x I rfl
 .rw[r,Ag,mem,Ab];have o:=g x;rw[AV,Ag] at o;constructor
  .rintro(l|l|l)
   .have:=o.mp<|.inr l;exact Io
   .lia
   .have:=o.mp<|.inl l;lia
  .intro l;by_cases c:x<ks.length
   .rcases o.mpr c with p|p
    .exact .inr<|.inr p
    .exact .inl p
   .exact .inr<|.inl (by lia)
 .rcases Ao.mp I with rfl|I
  .exact h.fr _<|Ai ..
  .rcases Ao.mp I with rfl|I
   .exact h.fr _<|Ac _<|Ai ..
   .rw[AV] at I;rcases Ag.mp I with I|I
    .exact h.fr _ (Ac _ (Ac _ (by rw[AV];exact Ae _ I)))
    .exact fr x (by simpa using I)
def bx.put{M:qk}{ks:Yg}{old:Yi}{E:XS}{fs:LO}(h:bx L0 L ka fa ks<|old++rest)(U:∀z o,z≠ka->L z=some o->M z=some o)(g:M ka=some (.lst<|kq<|ks++ms))(r:M fa=some fs)(na:M pa=none)(nb:M pb=none)(ne:pa≠pb)(s:qg M L')(C:L' pa=some (.lst [j8 R,.ref pb]))(T:L' pb=some (.lst<|jh E))
 (ok:ef<|ks++ms) (sr:SR (ks++ms) R E) (tp:(qu R).Perm<|List.range' ks.length ms.length++old.flatMap λt=>qu t.R):bx L0 L' ka fa (ks++ms) (rest++[{(pa),pb,R,E}]):=by
 have J:∀z o,L0 z=some o->M z=some o:=λz o e=>U _ _ (λw=>by rw[w,h.fr ka (by simp)] at e;cases e)<|h.sub _ _ e;have two:∀z,z∈(⟨pa,pb,R,E⟩:Tr).Ye->M z=none:=λz I=>by
  have I:z=pa\/z=pb:=by simpa[Tr.Ye] using I
  rcases I with rfl|rfl<;>assumption
 refine bx.step (old:=old) (t':={(pa),pb,R,E}) h (s _ _ g) {(C),T} (λt j=>?_) (λz o e=>s _ _<|J z o e) ?_ (λz I=>?_) ok sr tp
 .obtain⟨_,_,n3,n4⟩:=h.nk t<|Ae _ j;obtain⟨l,p⟩:=h.ht t<|Ae _ j;rw[l,p];exact{s _ _<|U _ _ n3 l,s _ _<|U _ _ n4 p}
 .have ad:=h.ad;rw[AV] at ad;have:=UH (L:=M) ((((C4 ..).cons_cons _).cons_cons _).nodup ad) (λz I=>?_) na nb ne
  .rw[AV];simpa[Tr.Ye] using this
  .rcases Ao.mp I with rfl|I
   .exact{_,g}
   rcases Ao.mp I with rfl|I
   .exact{_,r}
   obtain⟨o,e⟩:=h.exs z (by rw[AV];exact Ae _ I);exact{o,U _ _ (λw=>(AD.mp ad).1 (by rw[<-w];exact Ac _<|Ae _ I)) e}
 .cases e:L0 z with|none=>rfl|some o=>have w:=J z o e;rw[two z I] at w;cases w
inductive nL(ys:_T)(L:qk)(Q:YK):Prop
 |mk:∀L0 ka fa ks fo,∀one two:Int,(ys=[.ref ka,.ref fa,.int one,.int two])->(ph L0 L ka fa ks fo)->(2<=fo.length)->(fo.length<=200)->(ks.length<=200)->(∀L' ks' fo',ph L0 L' ka fa ks' fo'->ks'.length=ks.length+1->fo'.length+1=fo.length->Kf ks fo ks' fo'->Q .KB L')->nL ys L Q
def sI{l:List α}(h:0<l.length)(k:Int):∃(j:Nat) (x:α),k % (l.length:Int)=(j:Int)/\j<l.length/\l[j]?=some x:=by have I:0<=k % (l.length:Int):=DG _ (by lia);have J:k % (l.length:Int)<(l.length:Int):=CM _ (by omega);refine{(k % (l.length:Int)).toNat,l[(k % (l.length:Int)).toNat]'(by lia),by lia,by lia,An (by lia)}
theorem wf:∀(n:Nat) (l:XS),l.Nodup->(∀x∈l,x<n)->l.length<=n
 |0,l,_,h=>by cases l with|nil=>exact Ap _|cons x r=>exact absurd (h x<|Ai ..) (by lia)
 |n+1,l,nd,h=>by
  by_cases c:n∈l
  .have p:=List.perm_cons_erase c;have J:=wf n (l.erase n) (nd.erase n) λx I=>by have:=(List.Nodup.mem_erase_iff nd).mp I;have:=h x this.2;lia
   rw[p.length_eq,Av];exact Fk
  .exact Cc (wf n l nd λx I=>by have:=h x I;have:x≠n:=λe=>c<|e▸I;lia)
def bu{ks:Yg}(h:bx L0 L ka fa ks fo){t:Tr}(I:t∈fo):0<t.E.length/\t.E.length<=ks.length:=by have s:=h.sr t I;exact{s.ends h.ok,wf _ _ s.Zn λx J=>s.lt x<|s.sub x J}
def tL(x l r:Nat):o_ (tw<|.int (x:Int)) (([.int (l:Int),.int (r:Int)]:_T).map tw)=decide (x=l\/x=r):=by
 show(om (.int (l:Int)) (.int (x:Int))||(om (.int (r:Int)) (.int (x:Int))||false))=_;have e:∀a b:Nat,om (.int (a:Int)) (.int (b:Int))=decide (b=a):=λa b=>by
  show decide ((a:Int)=(b:Int))=decide (b=a);by_cases c:b=a
  .subst c;simp
  .rw[AB c];apply AB;lia
 rw[e,e];by_cases I:x=l<;>by_cases J:x=r<;>simp[I,J]
def mh{E:XS}(h:0<E.length)(k:Int):∃x,x∈E/\dZ (jh E) (k % ((jh E).length:Int))=some (.int ((x:Nat):Int)):=by obtain⟨j,x,I,J,ex⟩:=sI h k;refine{x,Ar ex,?_};rw[Ah,I];exact jo (by rw[Aq,ex];rfl)
def ww(E1 E2:XS)(l r:Nat):XS:=(E1++E2).filter λx=>!decide (x=l\/x=r)
def Kg{U:Addr}{E:XS}{l r k:Nat}{Q:YK}(hp:L U=some (.lst<|jh E))(I:E.length<=1000)
 (C:∀y (g:Bool->qk->Prop),Ft true y (.tup [.int (l:Int),.int (r:Int)]) L (λx L'=>match x with|.bl c=>g c L'|_=>False)->tc (gH (τ++List.replicate 1 none) k y) L g)
 (T:∀y,Ef (gH (τ++List.replicate 1 none) k y) k=some y)
 (hq:∀p,L p=none->Q (.ref p) (qf L p<|.lst<|jh<|E.filter λx=>!decide (x=l\/x=r))):
 xJ L U λys keep L2=>f_ ys keep 1 (qo k) tc (qh k) τ L2 Q:=by
 refine xl hp λkeep kp=>dS (λj zs=>zs=jh ((E.take j).filter λx=>!decide (x=l\/x=r))) (by rw[Ah];exact rO I) (kp L rfl) rfl ?_ ?_
 .rintro j y _ o rfl;obtain⟨x,ex,rfl⟩:∃x:Nat,E[j]?=some x/\y=Y.int (x:Int):=by rw[Aq] at o;obtain⟨x,e1,e2⟩:=AE.mp o;exact{(x),e1,e2.symm}
  refine C _ _ {rfl,rfl,?_};rw[tL];show aa (!decide (x=l\/x=r)) _ _;have t:(E.take<|j+1).filter (λx=>!decide (x=l\/x=r))=(E.take j).filter (λx=>!decide (x=l\/x=r))++[x].filter (λx=>!decide (x=l\/x=r)):=by rw[Bm,ex,BC];rfl
  by_cases c:x=l\/x=r
  .refine aT (by rw[AA c];rfl) ?_;refine IH {rfl,?_};rw[t,Dj (by simp[c]),Ce,Aw]
  .refine dW (by rw[AB c];rfl) ?_;unfold qh;rw[T];refine IH {rfl,?_};rw[t,Dk (by simp[c]),Ce];unfold jh;rw[AI];rfl
 .rintro _ rfl p J;rw[Ah,Bp];exact hq p J
def xU{k:Int}(U:L fa=some (.lst<|zx fo))(h:0<fo.length):∃(j:Nat) (t:Tr),fo[j]?=some t/\0<=k % ((zx fo).length:Int)/\k % ((zx fo).length:Int)<((zx fo).length:Int)/\
 (zx fo)[(k % ((zx fo).length:Int)).toNat]?=some (.ref t.a)/\qf L fa (.lst<|(zx fo).eraseIdx (k % ((zx fo).length:Int)).toNat) fa=some (.lst<|zx<|fo.eraseIdx j):=by
 obtain⟨j,t,J,g,I⟩:=sI h k;have e:(zx fo).length=fo.length:=Ah ..;rw[e,J];refine{j,t,I,A4 _,by lia,?_,?_}
 .show(zx fo)[j]?=_;unfold zx;rw[Aq,I];rfl
 .rw[q9];show some (LO.lst<|(zx fo).eraseIdx j)=_;rw[oV]
def bx.two{ks:Yg}{t1 t2:Tr}(h:bx L0 L ka fa ks<|t1::t2::rest):∀x,x∈qu t1.R->x∈qu t2.R->False:=by intro x I J;have nd:=h.nd;rw[Bc,Bc,AG] at nd;exact nd.2.2 x I x (Am _ J) rfl
def Kh{E1 E2:XS}{l r:Nat}(I:l∉E2)(J:r∉E1)(x:Nat):x∈ww E1 E2 l r↔(x∈E1/\x≠l)\/(x∈E2/\x≠r):=by
 unfold ww;rw[AF,Ag];constructor
 .rintro⟨h,c⟩;have c:¬(x=l\/x=r):=by simpa using c
  rcases h with h|h
  .exact .inl {h,λe=>c<|.inl e}
  .exact .inr {h,λe=>c<|.inr e}
 .rintro(⟨h,c⟩|⟨h,c⟩)
  .refine{.inl h,?_};have:x≠r:=λe=>J<|e▸h;simp[c,this]
  .refine{.inr h,?_};have:x≠l:=λe=>I<|e▸h;simp[c,this]
def Ki{E1 E2:XS}{l r:Nat}(h1:E1.Nodup)(h2:E2.Nodup)(d:∀x,x∈E1->x∈E2->False):(ww E1 E2 l r).Nodup:=by
 have h:(E1++E2).Nodup:=by rw[AG];exact{h1,h2,λx I y J e=>d x I<|e▸J}
 exact DB _ h
def jP(a b:XS):jh (a++b)=jh a++jh b:=AI
def gj(a:Yi)(t:Tr):zx (a++[t])=zx a++[.ref t.a]:=AI
theorem UI:_f nL Kd.1 9:=by
 rintro ys L Q ⟨L0,ka,fa,g,fo,one,two,rfl,F,h2,c0,bd,q⟩;have big:=a_;have p:∀fo:Yi,(zx fo).length=fo.length:=λfo=>Ah ..;have U:∀E:XS,(jh E).length=E.length:=λE=>Ah ..;obtain⟨j1,I,be,a1,a2,a3,j⟩:=xU (k:=two) F.hf<|jM;have p1:=x9 be;refine qb F.hf (qb F.hf {(by rw[p];lia),qp F.hf {a1,a2,qj a3 ?_}});have B:=(F.b.perm p1).Y2<|.lst<|(zx fo).eraseIdx (two % ((zx fo).length:Int)).toNat;generalize qf L fa _=L1 at j B ⊢;have l1:=p1.length_eq;generalize fo.eraseIdx j1=a4 at l1 j B p1 ⊢;rw[Av] at l1;obtain⟨j2,J,bf,b1,b2,b3,a5⟩:=xU (k:=one) j (by lia);have p2:=x9 bf;refine qb j (qb j {(by rw[p];lia),qp j {b1,b2,qj b3 ?_}});replace B:=(B.perm<|p2.cons _).Y2<|.lst<|(zx a4).eraseIdx (one % ((zx a4).length:Int)).toNat;generalize qf L1 fa _=L2 at a5 B ⊢;have l2:=p2.length_eq;have ba:=p1.trans<|p2.cons _;generalize a4.eraseIdx j2=rest at l2 a5 B ba ⊢;rw[Av] at l2;have m1:I∈I::J::rest:=by simp
 have m2:J∈I::J::rest:=by simp
 obtain⟨C,ab⟩:=B.ht I m1;obtain⟨T,ac⟩:=B.ht J m2;obtain⟨_,_,n1,n2⟩:=B.nk I m1;obtain⟨_,_,n3,n4⟩:=B.nk J m2;have bg:=bu B m1;have bh:=bu B m2;obtain⟨x,hx,ex⟩:=mh bg.1<|two / 64;obtain⟨y,hy,ey⟩:=mh bh.1<|one / 64;refine qb C {{by decide,by decide},qb C (qb ab {(by rw[U];omega),qb ab<|qj ex ?_})};refine qb T {{by decide,by decide},qb T (qb ac {(by rw[U];omega),qb ac<|qj ey ?_})};refine qb B.hk (qp B.hk {big _ (by rw[Ah];exact Fj),?_});have ek:kq g++[.tup [.str "both",.int ((x:Nat):Int),.int ((y:Nat):Int)]]=kq (g++[.nd false x y]):=by unfold kq;rw[AI];rfl
 rw[ek];have k3:∀z o,z≠ka->L2 z=some o->qf L2 ka (.lst<|kq<|g++[.nd false x y]) z=some o:=λz o n e=>(qc n).trans e;have bb:qf L2 ka (.lst<|kq<|g++[.nd false x y]) ka=some (.lst<|kq<|g++[.nd false x y]):=q9;generalize qf L2 ka _=L3 at bb k3 ⊢;refine qb (k3 _ _ n1 C) (qb (k3 _ _ n3 T) {_,_,k3 _ _ n2 ab,k3 _ _ n4 ac,small (by rw[U,U];lia),λpp bi=>?_});rw[<-jP];refine Kg (E:=I.E++J.E) (l:=x) (r:=y) (k:=9) q9 (by rw[Ab];lia) (λy' Q' h=>h) (λ_=>rfl) λpe bj=>?_;generalize hL:qf (qf L3 pp _) pe _=L4;have s4:qg L3 L4:=by rw[<-hL];exact(By bi).trans (By bj)
 have bS:L4 pe=some (.lst<|jh<|ww I.E J.E x y):=by rw[<-hL];exact q9
 have k4:∀z o,z≠ka->L2 z=some o->L4 z=some o:=λz o n e=>s4 _ _<|k3 z o n e;have al:=s4 _ _ bb;have au:=k4 _ _ (AJ B.Zt) a5;have nn:(((kq<|g++[.nd false x y]).length:Nat):Int)-1=((g.length:Nat):Int):=by rw[Ah,Ab];simp
 have lb:(ww I.E J.E x y).length<=(I.E++J.E).length:=CQ ..;rw[Ab] at lb;refine qb au<|qb al<|qb (k4 _ _ n1 C)<|qb (k4 _ _ n3 T)<|qb al λpn a0=>?_;refine{_,_,By a0 _ _ bS,q9,small (by rw[U];show _+1<=1000;lia),λpb av pa ax=>?_};have bc:=w6 q9 ax;have nb:=(By a0).none av;have na:=((By a0).trans<|By av).none ax;generalize hL:qf (qf (qf L4 pn _) pb _) pa _=L7;have s7:qg L4 L7:=by rw[<-hL];exact((By a0).trans<|By av).trans (By ax)
 have ea:L7 pa=some (.lst [j8<|.bo g.length I.R J.R,.ref pb]):=by rw[<-hL,q9];dsimp only;rw[nn];rfl
 have eb:L7 pb=some (.lst<|jh<|ww I.E J.E x y++[g.length]):=by rw[<-hL,qc bc,q9];dsimp only;rw[nn,jP];rfl
 refine qp (s7 _ _ au) {big _ (by rw[p];lia),?_};have s1:=B.sr I m1;have s2:=B.sr J m2;have aL:∀z,z∈I.E->z∈J.E->False:=λz h1 h2=>B.two z (s1.sub z h1)<|s2.sub z h2;have bm:=Kh (E1:=I.E) (E2:=J.E) (λh=>aL x hx h) λh=>aL y h hy;refine xg (q _ (g++[.nd false x y]) (rest++[{pa,pb,.bo g.length I.R J.R,ww I.E J.E x y++[g.length]}]) {(bx.put (old:=[I,J]) B k4 al au na nb (AJ bc) s7 ea eb (B.ok.snoc {s1.lt x<|s1.sub x hx,s2.lt y<|s2.sub y hy}) (.bo (fJ _ _ _) (s1.more _) (s2.more _) hx hy (λz=>?_) ?_) ?_).Y2 _,by rw[q9,gj]} (by rw[Ab];rfl) (by rw[Ab];simp;lia) {{_,rfl,λk hk=>{_,_,_,Aj.mp hk}},λh t ht=>?_})
 .rw[Ag,bm,Aj,or_assoc]
 .rw[AG];refine{Ki s1.Zn s2.Zn aL,by simp,λu hu v hv e=>?_};rw[Aj.mp hv] at e;rcases (bm u).mp hu with⟨h,_⟩|⟨h,_⟩
  .have:=s1.lt u<|s1.sub u h;lia
  .have:=s2.lt u<|s2.sub u h;lia
 .show(g.length::(qu I.R++qu J.R)).Perm (List.range' g.length 1++([I,J].flatMap λt=>qu t.R));simp[El]
 .have h':∀u∈I::J::rest,EI u.R:=λu hu=>h u<|ba.mem_iff.mpr hu;rcases Ag.mp ht with ht|ht
  .exact h' t<|Ac _<|Ac _ ht
  .rw[Aj.mp ht];exact{h' I m1,h' J m2}
def ur{E:XS}{k:Int}(h:0<E.length):∃(j x:Nat),E[j]?=some x/\0<=k % ((jh E).length:Int)/\k % ((jh E).length:Int)<((jh E).length:Int)/\
 (jh E)[(k % ((jh E).length:Int)).toNat]?=some (.int ((x:Nat):Int))/\(jh E).eraseIdx (k % ((jh E).length:Int)).toNat=jh (E.eraseIdx j):=by
 obtain⟨j,x,J,U,I⟩:=sI h k;have e:(jh E).length=E.length:=Ah ..;rw[e,J];refine{j,x,I,A4 _,by lia,?_,?_}
 .show(jh E)[j]?=_;rw[Aq,I];rfl
 .exact jJ _ E j
def Hk{a:Addr}{o:LO}:∀z u,z≠a->L z=some u->qf L a o z=some u:=λz u n e=>(qc n).trans e
inductive iD(ys:_T)(L:qk)(Q:YK):Prop
 |mk:∀L0 ka fa ks,∀pre post:Yi,∀t:Tr,∀one two:Int,(ys=[.ref ka,.ref t.a,.int one,.int two])->(ph L0 L ka fa ks<|pre++t::post)->(ks.length<=200)->(∀L' ks' fo',ph L0 L' ka fa ks' fo'->ks'.length<=ks.length+1->fo'.length=(pre++t::post).length->Kf ks (pre++t::post) ks' fo'->Q .KB L')->iD ys L Q
theorem UJ:_f iD Ke.1 6:=by
 rintro ys L Q ⟨L0,C,fa,I,pre,post,t,one,two,rfl,F,ba,q⟩;have big:=a_;have mt:t∈pre++t::post:=by simp
 have B:=F.b;obtain⟨ta,tb⟩:=B.ht t mt;have le:=bu B mt;have s:=B.sr t mt;have U:∀E:XS,(jh E).length=E.length:=λE=>Ah ..;refine qb ta<|qb tb ?_;refine zp (λc=>?_) λc=>?_
 .exact xg<|q L I _ F (CK _) rfl {{[],(Aw _).symm,λk hk=>by cases hk},λh=>h}
 have c:=c;rw[U] at c;have ad:=B.ad;have Zt:=B.Zt;have nk:=B.nk;have r:t.a≠t.b:=by rw[AD,AD,AV,Bc,AG,AG] at ad;have:=ad.2.2.2.1.1;simpa[Tr.Ye] using this
 obtain⟨j1,x,e1,a1,a2,a3,a4⟩:=ur (k:=two) le.1;refine qb ta (qb tb (qb ta (qb tb {(by rw[U];omega),qp tb {a1,a2,qj a3 ?_}})));rw[a4];have bd:(t.E.eraseIdx j1).length+1=t.E.length:=by have:=(x9 e1).length_eq;rw[Av] at this;lia
 have a0:qf L t.b (.lst<|jh<|t.E.eraseIdx j1) t.a=some (.lst [j8 t.R,.ref t.b]):=by rw[qc r];exact ta
 obtain⟨j2,y,e2,b1,b2,b3,b4⟩:=ur (E:=t.E.eraseIdx j1) (k:=one) (by lia);refine qb a0 (qb q9 (qb a0 (qb q9 {(by rw[U];omega),qp q9 {b1,b2,qj b3 ?_}})));rw[b4,zh];have bb:((t.E.eraseIdx j1).eraseIdx j2).length+1=(t.E.eraseIdx j1).length:=by have:=(x9 e2).length_eq;rw[Av] at this;lia
 have pE:=(x9 e1).trans<|(x9 e2).cons _;generalize (t.E.eraseIdx j1).eraseIdx j2=j at bb pE;have nt:=nk t mt;have k1:=Hk (L:=L) (a:=t.b) (o:=.lst<|jh j);have a5:qf L t.b (.lst<|jh j) t.b=some (.lst<|jh j):=q9;generalize qf L t.b _=L1 at k1 a5 ⊢;have ab:=k1 _ _ (AJ nt.2.2.2) B.hk;refine qb ab (qp ab {big _ (by rw[Ah];exact Fj),?_});have ek:kq I++[.tup [.str "either",.int ((x:Nat):Int),.int ((y:Nat):Int)]]=kq (I++[.nd true x y]):=by unfold kq;rw[AI];rfl
 rw[ek];have nn:(((kq<|I++[.nd true x y]).length:Nat):Int)-1=((I.length:Nat):Int):=by rw[Ah,Ab];simp
 have k2:=Hk (L:=L1) (a:=C) (o:=.lst<|kq<|I++[.nd true x y]);have T:qf L1 C (.lst<|kq<|I++[.nd true x y]) C=some (.lst<|kq<|I++[.nd true x y]):=q9;generalize qf L1 C _=L2 at k2 T ⊢;have ac:=k2 _ _ nt.2.2.1<|k1 _ _ r ta;refine qb T<|qb ac<|qp ac<|qj (v:=0) rfl ?_;generalize hL:qf L2 t.a _=L3;have al:L3 t.a=some (.lst [j8<|.ei I.length t.R,.ref t.b]):=by rw[<-hL,q9];dsimp only;rw[nn];rfl
 have k3:∀z o,z≠t.a->L2 z=some o->L3 z=some o:=by rw[<-hL];exact Hk
 have au:=k3 _ _ (AJ nt.2.2.1) T;have av:=k3 _ _ (AJ r)<|k2 _ _ nt.2.2.2 a5;have g:∀b u,b≠t.a->b≠t.b->b≠C->L b=some u->L3 b=some u:=λb u n1 n2 n3 e=>k3 _ _ n1<|k2 _ _ n3<|k1 _ _ n2 e;refine qb al (qb av (qb au (qp av {big _ (by rw[U];lia),?_})));have en:jh j++[.int<|(((kq<|I++[.nd true x y]).length:Nat):Int)-1]=jh (j++[I.length]):=by rw[nn];unfold jh;rw[AI];rfl
 have l:=pE.nodup_iff.mp s.Zn;rw[AD,AD] at l;have hx:x∈t.E:=pE.mem_iff.mpr (by simp);have hy:y∈t.E:=pE.mem_iff.mpr (by simp);have bc:∀u∈pre++post,u.a≠t.a/\u.a≠t.b/\u.b≠t.a/\u.b≠t.b:=λu J=>by have p:(pre++t::post).Perm (t::(pre++post)):=C2;have ax:=(p.flatMap_right Tr.Ye).nodup_iff.mp (by rw[AD,AD] at ad;exact ad.2.2);rw[Bc,AG] at ax;have k:=ax.2.2;have ma:u.a∈(pre++post).flatMap Tr.Ye:=A5.mpr {u,J,by simp[Tr.Ye]};have mb:u.b∈(pre++post).flatMap Tr.Ye:=A5.mpr {u,J,by simp[Tr.Ye]};exact{λe=>k t.a (by simp[Tr.Ye]) u.a ma e.symm,λe=>k t.b (by simp[Tr.Ye]) u.a ma e.symm,λe=>k t.a (by simp[Tr.Ye]) u.b mb e.symm,λe=>k t.b (by simp[Tr.Ye]) u.b mb e.symm}
 refine xg (q _ (I++[.nd true x y]) (pre++⟨t.a,t.b,.ei I.length t.R,j++[I.length]⟩::post) {?_,?_} (by rw[Ab];exact Ap _) (by simp) {{_,rfl,λk hk=>{_,_,_,Aj.mp hk}},λh u J=>?_})
 rotate_right
 .rcases Ag.mp J with J|J
  .exact h u<|Am _ J
  .rcases Ao.mp J with rfl|J
   .exact h t mt
   .exact h u<|Ae _<|Ac _ J
 .have B':=B.perm (fo':=[t]++(pre++post)) C2;have st:=bx.step (old:=[t]) (rest:=pre++post) (t':={t.a,t.b,.ei I.length t.R,j++[I.length]}) (ms:=[.nd true x y]) (L':=qf L3 t.b<|.lst<|jh j++[.int<|(((kq<|I++[.nd true x y]).length:Nat):Int)-1]) B' ?_ {?_,?_} (λu J=>?_) (λb o e=>?_) ?_ (λz hz=>?_) ?_ ?_ ?_
  .exact st.perm (by have p1:((pre++post)++[({t.a,t.b,.ei I.length t.R,j++[I.length]}:Tr)]).Perm ((⟨t.a,t.b,.ei I.length t.R,j++[I.length]⟩:Tr)::(pre++post)):=Co _ _;exact p1.trans C2.symm)
  .rw[qc<|AJ (nk t mt).2.2.2];exact au
  .rw[qc r];exact al
  .rw[q9,en]
  .have aL:u∈pre++t::post:=by rcases Ag.mp J with h|h;exact Am _ h;exact Ae _ (Ac _ h)
   obtain⟨n1,n2,n3,n4⟩:=bc u J;obtain⟨k1,k2,k3,k4⟩:=nk u aL;obtain⟨h1,h2⟩:=B.ht u aL;rw[h1,h2,qc n2,qc n4];exact{g _ _ n1 n2 k3 h1,g _ _ n3 n4 k4 h2}
  .have fr:=B.fr;have n0:∀z,L0 z=none->b≠z:=λz hz w=>by rw[w,hz] at e;cases e
   have n1:=n0 C<|fr C (by simp);have n2:=n0 t.a<|fr t.a (by simp[Tr.Ye]);have n3:=n0 t.b<|fr t.b (by simp[Tr.Ye]);rw[qc n3];exact g _ _ n2 n3 n1<|B.sub _ _ e
  .have p:(pre++t::post).Perm ((pre++post)++[t]):=C2.trans (Co _ _).symm;have e:((pre++post)++[({t.a,t.b,.ei I.length t.R,j++[I.length]}:Tr)]).flatMap Tr.Ye=((pre++post)++[t]).flatMap Tr.Ye:=by simp[AV,Tr.Ye]
   rw[e];exact(((p.flatMap_right Tr.Ye).cons _).cons _).nodup_iff.mp ad
  .have hz:z=t.a\/z=t.b:=by simpa[Tr.Ye] using hz
   rcases hz with rfl|rfl
   .exact B.fr _ (by simp[Tr.Ye])
   .exact B.fr _ (by simp[Tr.Ye])
  .exact B.ok.snoc {s.lt x<|s.sub x hx,s.lt y<|s.sub y hy}
  .refine .ei (fJ _ _ _) (s.more _) hx hy (λe=>l.1 (by rw[e];exact Ai ..)) (λz=>?_) ?_
   .rw[Ag,Aj];have hm:=pE.mem_iff (a:=z);rw[Ao,Ao] at hm;have h1:z∈j->z≠x/\z≠y:=λh=>{λe=>l.1 (by rw[<-e];exact Ac _ h),λe=>l.2.1<|e▸h};constructor
    .rintro(h|h)
     .exact .inl {hm.mpr<|.inr<|.inr h,h1 h}
     .exact .inr h
    .rintro(⟨h,c1,c2⟩|h)
     .rcases hm.mp h with e|e|e
      .exact absurd e c1
      .exact absurd e c2
      .exact .inl e
     .exact .inr h
   .rw[AG];refine{l.2.2,by simp,λu J v hv e=>?_};rw[Aj.mp hv] at e;have:=pE.mem_iff.mpr<|Ac _<|Ac _ J;have:=s.lt u<|s.sub u this;lia
  .show(I.length::qu t.R).Perm (List.range' I.length 1++([t].flatMap λt=>qu t.R));simp[El]
 .have nf:=nk t mt;rw[qc<|AJ nf.2.1];have:=g fa _ (AJ nf.1) (AJ nf.2.1) (AJ Zt) F.hf;rw[this];unfold zx;rw[AI,AI];rfl
def UK(I:ju)(p1:ju)(p2:ju)(p3:ju):cH:=(je (vv (mC uC (qh 1)<|qt (ku wF (qh 3)<|xO 1) x8)<|qo 4)
 (je (vv (ku iH (gE 4 1)<|ku wF (ku RG (qh 3)<|gJ 64)<|k_ yU<|bv<|gE 4 1)<|qo 5)
 (je (vv (jg I<|rm (qh 0)<|qh 5)<|qo 6)
 (je (vv (Hg (yC .KB)<|yC .KB)<|fM 2<|x5 (qo 7)<|x5 (qo 8) cM)
 (je (mI (gi<|bv<|xO 1) (qo 9)<|mI (bF<|ku iH (ku iH (qh 1)<|qh 9)<|gJ 1) (qo 10)<|cY (Fp (yB<|qI false<|qh 7)<|y_ (jg I<|rm (qh 0)<|qh 10)<|jg p1<|bv<|qh 6) (vv (mK<|qt (ku iH (qh 1)<|qh 9)<|bv<|qh 10)<|fM 2<|x5 (qo 7)<|x5 (qo 8) cM) a6)
 (je (cY (Fp (yB<|qI false<|qh 7)<|yB<|ku GY (jg p2<|bv<|qh 6)<|gJ 5) (je (bC<|mC vi (qh 1)<|bv<|qh 4)
 IF) a6)
 (FW (cY (yB<|qI false<|qh 7) (je (vv (jg p3<|rm (qh 0)<|qh 6)<|JQ 3<|x5 (qo 11)<|x5 (qo 8)<|x5 (qo 12) cM)
 (vv (gG<|qt (qh 11)<|qt (gG<|rm (qh 8)<|qh 12) x8)<|qo 7))<|bC<|mC me (qh 1)<|bv<|qh 7)
 (je (vv (g_ 1 (bF<|ku mG (gE 4 1)<|gE 7 1) (qo 14) (yB<|ku (Ft true) (qh 14)<|Hg (qh 5)<|qh 8)<|qh 14)<|qo 13)
 (cY (y_ (ku wF (qh 2)<|gJ 2)<|gJ 0) (bC<|mC vi (qh 1)<|qt (gG<|qt (mK<|qt (r_ "cut")<|qt (qh 5)<|qt (qh 8)<|rm (gE 4 0)<|gE 7 0)<|bv<|qh 13) x8)<|bC<|mC vi (qh 1)<|qt (gG<|qt (mK<|qt (r_ "cut")<|qt (qh 8)<|qt (qh 5)<|rm (gE 7 0)<|gE 4 0)<|bv<|qh 13) x8)))))))))
theorem uI:∀a b:List Da,Da.eqs a b=true->a.length=b.length
 |[],[],_=>rfl
 |[],_::_,h=>by cases h
 |_::_,[],h=>by cases h
 |x::r,y::q,h=>by have h:(Da.eq x y&&Da.eqs r q)=true:=h;rw[AX] at h;rw[Av,Av,uI r q h.2]
def UL(u:Wd):∀v:Wd,Da.eq (tR u) (tR v)=true->u=v:=by
 induction u with
 |leaf t n=>
  intro v h;cases v with
  |leaf T n'=>
   rw[UG,AX] at h;rw[of_decide_eq_true h.1,of_decide_eq_true h.2]
  |node e l r=>exact absurd (uI _ _ h) (by intro z;cases z)
 |node e l r g j=>
  intro v h;cases v with
  |leaf t n=>exact absurd (uI _ _ h) (by intro z;cases z)
  |node I J U=>
   have h:(om (.str<|kN e) (.str<|kN I)&&(Da.eq (tR l) (tR J)&&(Da.eq (tR r) (tR U)&&true)))=true:=h;rw[AX,AX,AX] at h;obtain⟨o,p,C,_⟩:=h;have:e=I:=by cases e<;>cases I<;>first|rfl|(exfalso;revert o;decide +kernel)
   rw[this,g J p,j U C]
def vo:Ru->Nat
 |.link _ _=>1
 |.ei _ A=>vo A+1
 |.bo _ A B=>max (vo A) (vo B)+1
 |.cu _ _ A B=>max (vo A) (vo B)+1
theorem aF:∀R:Ru,vo R+1<=(qu R).length
 |.link _ _=>Ap _
 |.ei _ A=>by have:=aF A;simp[vo,qu];lia
 |.bo _ A B=>by have:=aF A;have:=aF B;simp[vo,qu];lia
 |.cu _ _ A B=>by have:=aF A;have:=aF B;simp[vo,qu];lia
def eX:Ru->Da
 |.link p q=>.tup [.s<|.str "link",.s<|.int (p:Int),.s<|.int (q:Int)]
 |.ei r A=>.tup [.s<|.str "either",.s<|.int (r:Int),eX A]
 |.bo r A B=>.tup [.s<|.str "both",.s<|.int (r:Int),eX A,eX B]
 |.cu p q A B=>.tup [.s<|.str "cut",.s<|.int (p:Int),.s<|.int (q:Int),eX A,eX B]
theorem fT{L:qk}:∀{R:Ru} {n:Nat},vo R<=n->xh L n (j8 R) (eX R)
 |.link p q,n+1,_=>eY<|.cons (E8 _)<|.cons (EZ _)<|.cons (EZ _) .nil
 |.ei r A,n+1,h=>eY (.cons (E8 _) (.cons (EZ _) (.cons (fT (by simp[vo] at h;lia)) .nil)))
 |.bo r A B,n+1,h=>eY (.cons (E8 _) (.cons (EZ _) (.cons (fT (by simp[vo] at h;lia)) (.cons (fT (by simp[vo] at h;lia)) .nil))))
 |.cu p q A B,n+1,h=>eY (.cons (E8 _) (.cons (EZ _) (.cons (EZ _) (.cons (fT (by simp[vo] at h;lia)) (.cons (fT (by simp[vo] at h;lia)) .nil)))))
 |.link _ _,0,h=>by simp[vo] at h
 |.ei _ _,0,h=>by simp[vo] at h
 |.bo _ _ _,0,h=>by simp[vo] at h
 |.cu _ _ _ _,0,h=>by simp[vo] at h
theorem bR:∀R:Ru,Da.eq (eX R) (eX R)=true
 |.link p q=>by simp[eX,Da.eq,Da.eqs,om]
 |.ei r A=>by simp[eX,Da.eq,Da.eqs,om,bR A]
 |.bo r A B=>by simp[eX,Da.eq,Da.eqs,om,bR A,bR B]
 |.cu p q A B=>by simp[eX,Da.eq,Da.eqs,om,bR A,bR B]
def i4(E:XS):List Da:=E.map λn:Nat=>Da.s<|.int (n:Int)
theorem uD{L:qk}{n:Nat}:∀E:XS,Paired (xh L n) (jh E)<|i4 E
 |[]=>.nil
 |_::r=>.cons (EZ _)<|uD r
theorem nI:∀E I:XS,Da.eqs (i4 E) (i4 I)=true↔E=I
 |[],[]=>by simp[i4,Da.eqs]
 |[],_::_=>by simp[i4,Da.eqs]
 |_::_,[]=>by simp[i4,Da.eqs]
 |x::r,y::J=>by
  have U:=nI r J;show(Da.eq (.s<|.int (x:Int)) (.s<|.int (y:Int))&&Da.eqs (i4 r) (i4 J))=true↔_;rw[AX,U];have:Da.eq (.s<|.int (x:Int)) (.s<|.int (y:Int))=true↔x=y:=by show decide ((x:Int)=(y:Int))=true↔_;rw[BO];lia
  rw[this];constructor
  .rintro⟨rfl,rfl⟩;rfl
  .intro e;injection e with g j;exact{(g),j}
def gC(t:Tr):Da:=.lst [eX t.R,.lst<|i4 t.E]
def tQ{t:Tr}(I:L t.a=some (.lst [j8 t.R,.ref t.b]))(J:L t.b=some (.lst<|jh t.E))(h:vo t.R<=n+1):xh L (n+2) (.ref t.a) (gC t):=
 bQ I (.cons (fT h)<|.cons (bQ J<|uD _) .nil)
def UM{t u:Tr}:Da.eq (gC t) (gC u)=true->t.E=u.E:=by intro h;have h:(Da.eq (eX t.R) (eX u.R)&&(Da.eqs (i4 t.E) (i4 u.E)&&true))=true:=h;rw[AX,AX] at h;exact(nI _ _).mp h.2.1
def UN(t:Tr):Da.eq (gC t) (gC t)=true:=by show(Da.eq (eX t.R) (eX t.R)&&(Da.eqs (i4 t.E) (i4 t.E)&&true))=true;rw[bR,(nI _ _).mpr rfl];rfl
def bx.rd{ks:Yg}(h:bx L0 L ka fa ks fo){t:Tr}(I:t∈fo):vo t.R<=ks.length:=by
 have U:=aF t.R;have nd:(qu t.R).Nodup:=by obtain⟨a,b,rfl⟩:=Dd I;have:=h.nd;rw[AV,Bc,AG,AG] at this;exact this.2.1.1
 have:=wf _ _ nd λx J=>(h.sr t I).lt x J;exact Qr
def bx.one{ks:Yg}(h:bx L0 L ka fa ks fo){t u:Tr}(hi:fo[i]?=some t)(I:fo[j]?=some u)(e:t.E=u.E):i=j:=by
 by_cases c:i=j
 .exact c
 .exfalso;have s:=h.sr t<|Ar hi;have l:=s.ends h.ok;obtain⟨x,J⟩:∃x,x∈t.E:=by cases g:t.E with|nil=>rw[g] at l;simp at l|cons x r=>exact{x,Ai ..}
  have o:=h.sr u<|Ar I;have p:=x9 hi;have U:u∈fo.eraseIdx i:=by rw[CG];exact{j,λz=>c z.symm,I}
  obtain⟨a,b,C⟩:=Dd U;have nd:=(p.flatMap_right λt:Tr=>qu t.R).nodup_iff.mp h.nd;rw[Bc,AG] at nd;exact nd.2.2 x (s.sub x J) x (A5.mpr {u,U,o.sub x<|e▸J}) rfl
theorem iT:∀w:Wd,w.turn.turn=w
 |.leaf t n=>by simp[Wd.turn]
 |.node e l r=>by simp[Wd.turn,iT l,iT r]
theorem gh:∀w:Wd,w.turn.depth=w.depth
 |.leaf t n=>rfl
 |.node e l r=>by simp[Wd.turn,Wd.depth,gh l,gh r]
def Fd(ks:Yg)(w:Wd)(rest:Yi)(I J:Y):Prop:=(I=.KB/\J=.KB)\/∃(j:Nat) (u:Tr) (q:Nat),rest[j]?=some u/\q∈u.E/\du ks q w.turn/\I=.ref u.a/\J=.int (q:Int)
def UO{U g:qk}{ks:Yg}{t1 u:Tr}{x:Nat}{w:Wd}(B:bx L0 U ka fa ks<|t1::u::rest){fs:LO}(hf:U fa=some fs)(T:x∈t1.E)(hq:q∈u.E)(j:du ks x w)(o:du ks q w.turn){pe:Addr}(s:qg U g)(a0:U pe=none)
 (he:g pe=some (.lst<|jh<|ww t1.E u.E x q)) (I:g pa=none) (hR:R=.cu x q t1.R u.R\/R=.cu q x u.R t1.R):bx L0 (qf g pa<|.lst [j8 R,.ref pe]) ka fa ks (rest++[{pa,pe,R,ww t1.E u.E x q}]):=by
 have p:=w6 he I;have t:=B.sr t1 (by simp);have C:=B.sr u (by simp);have J:=λz h1 h2=>B.two z (t.sub z h1)<|C.sub z h2;have bm:=Kh (E1:=t1.E) (E2:=u.E) (λh=>J x T h) λh=>J q h hq;have Zn:=Ki (l:=x) (r:=q) t.Zn C.Zn J;have st:=bx.put (M:=U) (L':=qf g pa<|.lst [j8 R,.ref pe]) (old:=[t1,u]) (ms:=[]) (R:=R) (E:=ww t1.E u.E x q) (pa:=pa) (pb:=pe) B (λ_ _ _ e=>e) (by rw[Aw];exact B.hk) hf (s.none I) a0 (AJ p) (s.trans<|By I) q9 (by rw[qc p];exact he) (by rw[Aw];exact B.ok) ?_ ?_
 .rw[Aw] at st;exact st
 .rw[Aw];rcases hR with rfl|rfl
  .exact .cu t C T hq j o bm Zn
  .exact .cu (w:=w.turn) C t hq T o (by rw[iT];exact j) (λz=>by rw[bm];exact Or.comm) Zn
 .rcases hR with rfl|rfl
  .show(qu t1.R++qu u.R).Perm _;simp
  .show(qu u.R++qu t1.R).Perm _;simpa using Br
def CJ(L0:qk)(ka fa:Addr)(ks:Yg)(one two:Int)(t1:Tr)(x:Nat)(w:Wd)(n:Nat)(τ:jq)(L:qk):Prop:=∃ms u q rest g I J U,τ=[some<|.ref ka,some<|.ref fa,some<|.int one,some<|.int two,some<|.ref t1.a,some<|.int (x:Int),some<|cI w,some<|.ref u.a,some<|.int ((q:Nat):Int),g,I,J,U,none]/\
 bx L0 L ka fa (ks++ms) (t1::u::rest)/\L fa=some (.lst<|zx rest)/\q∈u.E/\du (ks++ms) q w.turn/\ms.length<=10/\rest.length<=n
inductive nJ(ys:_T)(L:qk)(Q:YK):Prop
 |mk:∀L0 ka fa ks fo,∀one two:Int,(ys=[.ref ka,.ref fa,.int one,.int two])->(ph L0 L ka fa ks fo)->(1<=fo.length)->(fo.length<=110)->(ks.length<=110)->(∀L' ks' fo',ph L0 L' ka fa ks' fo'->ks'.length<=ks.length+10->1<=fo'.length->fo'.length<=fo.length->Q .KB L')->nJ ys L Q
theorem UP{FS MS:ju}(hF:∀ys L Q,aO 120 ys L Q->FS ys L Q)(hM:∀ys L Q,w4 5 ys L Q->MS ys L Q):_f nJ (UK (x6 120) FS (aG 120) MS) 14:=by
 rintro ys L Q ⟨L0,ka,fa,ks,fo,one,two,rfl,F,h1,c1,bi,q⟩;have big:=a_;have C:∀fo:Yi,(zx fo).length=fo.length:=λfo=>Ah ..;obtain⟨j1,I,ba,a1,a2,a3,g⟩:=xU (k:=two) F.hf (by assumption);have l1:(fo.eraseIdx j1).length+1=fo.length:=by have:=(x9 ba).length_eq;rw[Av] at this;lia
 refine qb F.hf (qb F.hf {(by show(0:Int)<((zx fo).length:Int);rw[C];lia),qp F.hf {a1,a2,qj a3 ?_}});have B:=(F.b.perm<|x9 ba).Y2<|.lst<|(zx fo).eraseIdx (two % ((zx fo).length:Int)).toNat;generalize qf L fa _=L1 at g B ⊢;generalize fo.eraseIdx j1=rest at l1 g B;clear a1 a2 a3;have m1:I∈I::rest:=by simp
 obtain⟨a0,a5⟩:=B.ht I m1;have ab:=bu B m1;have s1:=B.sr I m1;obtain⟨x,hx,ex⟩:=mh ab.1<|two / 64;refine qb a0 {{by decide,by decide},qb a0 (qb a5 {(by show(0:Int)<((jh I.E).length:Int);rw[Ah];omega),qb a5<|qj ex ?_})};obtain⟨w,hw,c3,bb⟩:=jU B.ok (x+1) x (by exact Bz _)<|s1.lt x<|s1.sub x hx;have c4:=s1.lt x<|s1.sub x hx;refine{ka,kq ks,x,w,rfl,B.hk,hw,by lia,?_};have c5:=gh w;refine qb g {{by show _<=(((zx rest).length:Nat):Int);exact A4 _,by show(((zx rest).length:Nat):Int)<_;rw[C];omega},?_};refine sT (λi τ L'=>∃v7 v8 c9 T,τ=[some<|.ref ka,some<|.ref fa,some<|.int one,some<|.int two,some<|.ref I.a,some<|.int (x:Int),some<|cI w,some v7,some v8,c9,T,none,none,none]/\L'=L1/\Fd ks w rest v7 v8) {_,_,_,_,rfl,rfl,.inl {(rfl),rfl}} ?_ ?_
 .rintro i τ L' hi ⟨v7,v8,c9,T,rfl,rfl,fd⟩;have hi:i<rest.length:=by have:=hi;rw[C] at this;assumption
  obtain⟨u,hu⟩:∃u,rest[i]?=some u:={_,An hi};have mu:u∈I::rest:=Ac _<|Ar hu;obtain⟨ua,ub⟩:=B.ht u mu;have ei:(zx rest)[i]?=some (.ref u.a):=by unfold zx;rw[Aq,hu];rfl
  have e0:(0:Int)+(i:Int)=((i:Nat):Int):=by simp +arith only
  rw[e0];have bc:=jo ei;have le:=bu B mu;have su:=B.sr u mu;refine qb g<|qj bc<|qb ua ?_;refine mv (ys:=jh u.E) (kz ub) (λk τ ac=>∃v7 v8 T,τ=[some<|.ref ka,some<|.ref fa,some<|.int one,some<|.int two,some<|.ref I.a,some<|.int (x:Int),some<|cI w,some v7,some v8,some<|.int ((i:Nat):Int),T,none,none,none]/\ac=L'/\Fd ks w rest v7 v8) {_,_,_,rfl,rfl,fd} ?_ ?_ ?_
  .rintro k τ _ ⟨_,_,_,_,rfl,_⟩;rfl
  .rintro k y τ ac ey ⟨v7,v8,T,rfl,rfl,fd⟩;obtain⟨z,ez,rfl⟩:∃z:Nat,u.E[k]?=some z/\y=Y.int (z:Int):=by rw[Aq] at ey;obtain⟨z,e1,e2⟩:=AE.mp ey;exact{(z),e1,e2.symm}
   have hz:=Ar ez;rcases fd with⟨rfl,rfl⟩|⟨j,t,q0,h1,h2,h3,rfl,rfl⟩
   .have bj:=su.lt z<|su.sub z hz;obtain⟨v,hv,c6,c2⟩:=jU B.ok (z+1) z (by exact Bz _) bj;refine{ka,kq ks,z,v,rfl,B.hk,hv,by lia,hF _ _ _ {w,rfl,by lia,?_}};refine TD (u:=v) (v:=w.turn) (by lia) ?_;show aa (Da.eq (tR v)<|tR w.turn) _ _;refine QV (λc=>?_) λc=>?_
    .have hh:=UL _ _ c;refine qb g<|qj bc ?_;refine{_,EL _,?_};exact{_,_,_,rfl,rfl,.inr {i,u,z,hu,hz,hh▸hv,rfl,rfl}}
    .refine{_,EL _,?_};exact{_,_,_,rfl,rfl,.inl {(rfl),rfl}}
   .refine{_,EL _,?_};exact{_,_,_,rfl,rfl,.inr {(j),t,q0,h1,h2,h3,rfl,rfl}}
  .rintro τ ac ⟨v7,v8,T,rfl,rfl,fd⟩;refine{_,EL _,?_};exact{_,_,_,_,rfl,rfl,fd}
 .rintro τ L' ⟨v7,v8,c9,T,rfl,rfl,fd⟩;rcases fd with⟨rfl,rfl⟩|⟨j,u,q0,hj,al,au,rfl,rfl⟩
  case' inl=>
   refine{w,rfl,by lia,?_};show aa (decide<|(w.size:Int) > 5) _ _;refine zp (λc=>?_) λc=>?_
   case' refine_1=>
    refine qb g (qp g {big _ (by rw[C];lia),?_});rw[<-gj];exact xg (q _ ks (rest++[I]) {(B.perm (Co _ _).symm).Y2 _,q9} (by exact Bl _ _) (by simp) (by rw[Ab];simp;exact xV))
   case' refine_2=>
    refine{CJ L0 ka fa ks one two I x w rest.length,?_,?_}
    .refine hM _ _ _ {ka,ks,w,rfl,B.hk,(by have h1:=w.YM;have h2:=w.size_eq;lia),(by decide),bb,B.ok,by lia,λms R tp sp p hp a4=>?_};refine qp q9 ?_;intro pb av pa J;have ax:qf L' ka (.lst<|kq<|ks++ms) p=none:=by rw[qc<|AJ<|w6 B.hk hp];exact hp
     have bd:=w6 q9 J;have nb:=(By ax).none av;have na:=((By ax).trans<|By av).none J;have be:qf L' ka (.lst<|kq<|ks++ms) fa=some (.lst<|zx rest):=by rw[qc<|AJ B.Zt];exact g
     generalize hL:qf (qf (qf _ p _) pb _) pa _=LF;have sA:qg (qf L' ka<|.lst<|kq<|ks++ms) LF:=by rw[<-hL];exact((By ax).trans<|By av).trans (By J)
     have ea:LF pa=some (.lst [j8 R,.ref pb]):=by rw[<-hL];exact q9
     have eb:LF pb=some (.lst<|jh [tp,sp]):=by rw[<-hL,qc bd];exact q9
     clear hL;refine{ms,{pa,pb,R,[tp,sp]},tp,rest,_,_,_,_,rfl,?_,sA _ _ be,Ai ..,a4.wt,by have:=a4.len;lia,Ap _};have st:=bx.put (old:=[]) B (λz o n e=>(qc n).trans e) q9 be na nb (AJ bd) sA ea eb a4.ok a4.sr (by rw[CH,Aw];exact(Bg a4.nd Eb).mpr λz=>by rw[a4.tm,Ds]);exact st.perm<|(Co _ _).trans<|List.Perm.swap _ _ _
  case' inr=>
   refine{CJ L0 ka fa ks one two I x w rest.length,?_,?_}
   .refine qb g<|qp g {rest.map gC,gC u,120,120,j,by decide,?_,?_,?_,{gC u,?_,UN u},λk d hk ek=>?_,?_}
    .have dd:∀l:Yi,(∀t∈l,t∈I::rest)->Paired (xh L' 120) (zx l) (l.map gC):=λl=>by
      induction l with
      |nil=>intro _;exact .nil
      |cons t r ih=>
       intro h;have mt:=h t<|Ai ..;obtain⟨h1,h2⟩:=B.ht t mt;have:=B.rd mt;exact .cons (tQ (n:=118) h1 h2 (by lia))<|ih λt ht=>h t<|Ac _ ht
     exact dd rest λt ht=>Ac _ ht
    .have mt:u∈I::rest:=Ac _<|Ar hj;obtain⟨h1,h2⟩:=B.ht u mt;have:=B.rd mt;exact tQ (n:=118) h1 h2 (by omega)
    .rw[Ah];exact(AN.mp hj).1
    .rw[Aq,hj];rfl
    .rw[Aq] at ek;obtain⟨v,ev,rfl⟩:=AE.mp ek;cases c:Da.eq (gC v) (gC u) with
     |false=>rfl
     |true=>
      have:=B.one (i:=k+1) (j:=j+1) (by simpa using ev) (by simpa using hj)<|UM c;lia
    .rw[oV];have B2:=(B.perm<|(x9 hj).cons _).Y2<|.lst<|zx<|rest.eraseIdx j;exact{[],u,q0,rest.eraseIdx j,_,_,_,_,rfl,(Aw ks).symm▸B2,q9,al,(Aw ks).symm▸au,Bf _,Df ..}
  all_goals
   rintro c7 L' ⟨ms,u,q0,U,c9,T,c8,ca,rfl,B',hf,al,au,cb,cc⟩;have m1:I∈I::u::U:=by simp
   have m2:u∈I::u::U:=by simp
   obtain⟨a0,a5⟩:=B'.ht I m1;obtain⟨aL,bm⟩:=B'.ht u m2;have ab:=bu B' m1;have bS:=bu B' m2;rw[Ab] at ab bS;refine qb a0 (qb aL {_,_,a5,bm,small (by rw[Ah,Ah];omega),λpp bf=>?_});rw[<-jP];refine Kg (E:=I.E++u.E) (l:=x) (r:=q0) (k:=14) q9 (by rw[Ab];omega) (λy' Q' h=>h) (λ_=>rfl) λpe bg=>?_;have bh:=(By bf).none bg;generalize hL:qf (qf L' pp _) pe _=L4;have s4:qg L' L4:=by rw[<-hL];exact(By bf).trans (By bg)
   have c0:L4 pe=some (.lst<|jh<|ww I.E u.E x q0):=by rw[<-hL];exact q9
   have done:∀(R:Ru) pa,L4 pa=none->(R=.cu x q0 I.R u.R\/R=.cu q0 x u.R I.R)->Q .KB (qf (qf L4 pa<|.lst [j8 R,.ref pe]) fa<|.lst<|zx U++[.ref pa]):=λR pa J hR=>by rw[<-gj U ⟨pa,pe,R,ww I.E u.E x q0⟩];exact q _ (ks++ms) (U++[{pa,pe,R,ww I.E u.E x q0}]) {(UO B' hf hx al (hw.more ms) au s4 bh c0 J hR).Y2 _,q9} (by rw[Ab];omega) (by simp) (by rw[Ab];simp;omega)
   refine{(by show(0:Int)<2;decide),?_};show aa (decide<|one % 2=0) _ _;refine zp (λc=>?_) λc=>?_
   .refine qb (s4 _ _ hf)<|qb (s4 _ _ a0)<|qb (s4 _ _ aL) λpa J=>?_;refine qp (By J _ _<|s4 _ _ hf) {big _ (by rw[C];omega),?_};exact xg<|done _ pa J<|.inl rfl
   .refine qb (s4 _ _ hf)<|qb (s4 _ _ aL)<|qb (s4 _ _ a0) λpa J=>?_;refine qp (By J _ _<|s4 _ _ hf) {big _ (by rw[C];omega),?_};exact xg<|done _ pa J<|.inr rfl
theorem ph.mono{ks:Yg}(h:ph L0 L ka fa ks fo)(s:qg L L'):ph L0 L' ka fa ks fo:={h.b.mono s,s _ _ h.hf}
def bx.plus{I:qk}{ks:Yg}{t':Tr}{fs:LO}(B:bx L0 L ka fa ks rest)(j:L fa=some fs)(sA:qg (qf L ka<|.lst<|kq<|ks++ms) I)(ea:I t'.a=some (.lst [j8 t'.R,.ref t'.b]))(eb:I t'.b=some (.lst<|jh t'.E))
 (J:qf L ka (.lst<|kq<|ks++ms) t'.a=none) (U:qf L ka (.lst<|kq<|ks++ms) t'.b=none) (g:t'.a≠t'.b) (ok:ef<|ks++ms) (l:SR (ks++ms) t'.R t'.E) (p:∀x,x∈qu t'.R↔ks.length<=x/\x<ks.length+ms.length) (nd:(qu t'.R).Nodup):
 bx L0 I ka fa (ks++ms) (rest++[t']):=by
 exact bx.put (old:=[]) B (λz o n e=>(qc n).trans e) q9 (by rw[qc<|AJ B.Zt];exact j) J U g sA ea eb ok l (by rw[CH,Aw];exact(Bg nd Eb).mpr λz=>by rw[p,Ds])
theorem ph.link{ks:Yg}(F:ph L0 L ka fa ks fo){nm:Str}(j:eJ nm)(b:Bool)(J:qf L ka (.lst<|kq<|ks++[.lf b nm,.lf (!b) nm]) pb=none)
 (U:qf (qf L ka<|.lst<|kq<|ks++[.lf b nm,.lf (!b) nm]) pb (.lst<|jh [ks.length,ks.length+1]) pa=none) {fs:_T} (g:fs=zx fo++[.ref pa]):
 ph L0 (qf (qf (qf (qf L ka<|.lst<|kq<|ks++[.lf b nm,.lf (!b) nm]) pb<|.lst<|jh [ks.length,ks.length+1]) pa<|.lst [j8<|.link ks.length<|ks.length+1,.ref pb]) fa<|.lst fs) ka fa (ks++[.lf b nm,.lf (!b) nm]) (fo++[{pa,pb,.link ks.length<|ks.length+1,[ks.length,ks.length+1]}]):=by
 have I:=w6 q9 U;have M:=uz F.b.ok (t:=!b) j;rw[DO] at M;refine{(bx.plus F.b F.hf ((By J).trans<|By U) q9 (by rw[qc I];exact q9) ((By J).none U) J (AJ I) M.ok M.sr M.tm M.nd).Y2 _,?_};rw[q9,g];unfold zx;rw[AI];rfl
def bx._H{ks:Yg}(h:bx L0 L ka fa ks fo)(o:ks.length<=120):Paired (xh L 124) (zx fo) (fo.map gC):=by
 have J:∀l:Yi,(∀t∈l,t∈fo)->Paired (xh L 124) (zx l) (l.map gC):=λl=>by
  induction l with
  |nil=>intro _;exact .nil
  |cons t r U=>
   intro k;have mt:=k t<|Ai ..;obtain⟨g,j⟩:=h.ht t mt;have:=h.rd mt;exact .cons (tQ (n:=122) g j (by lia))<|U λt I=>k t<|Ac _ I
 exact J fo λt I=>I
def Kj(fo:Yi):Da.eqs (fo.map gC) []=decide (fo=[]):=by cases fo<;>rfl
def TW(L0:qk)(ka fa:Addr)(s:Int)(room:Nat)(τ:jq)(L:qk):Prop:=∃J U g j l o I ks fo,τ=[J,some<|.int s,some<|.int (room:Int),some<|.ref ka,some<|.ref fa,U,g,j,l,o,I]/\ph L0 L ka fa ks fo/\ks.length+fo.length<=room
def TW.of{s:Int}{room:Nat}{ks:Yg}{J U g j l o I:Option Y}(F:ph L0 L ka fa ks fo)(h:ks.length+fo.length<=room):TW L0 ka fa s room [J,some<|.int s,some<|.int (room:Int),some<|.ref ka,some<|.ref fa,U,g,j,l,o,I] L:={_,_,_,_,_,_,_,ks,fo,rfl,F,h}
def gm(p q:X2):Prop:=p.1<q.1\/(p.1=q.1/\p.2<=q.2)
def vS(p:X2):Int×Int:=((p.1:Int),(p.2:Int))
def UQ{p q:X2}(h:vS p=vS q):p=q:=by obtain⟨a,b⟩:=p;obtain⟨c,d⟩:=q;have I:(a:Int)=c:=BU Prod.fst h;have J:(b:Int)=d:=BU Prod.snd h;rw[Ck.mp I,Ck.mp J]
def vU(ps:XN):qx ps=(ps.map vS).map Fy:=by rw[Ci];rfl
def F6{a:Addr}{ps:XN}{Q:YK}(U:L a=some (.lst<|qx ps))(g:∀p∈ps,p.2<1000000)(nd:ps.Nodup)(j:ps.length<=127)
 (q:∀D qs,L D=none->qs.Perm ps->qs.Pairwise gm->Q (.ref D) (qf L D<|.lst<|qx qs)):gc [.ref a] L Q:=by
 refine qp U {ps.map vS,vU ps,λp l=>?_,?_,by rw[Ah];exact j,λD qs o pm t=>?_}
 .obtain⟨r,C,rfl⟩:=BE.mp l;have:=g r C;exact{A4 _,by show((r.2:Nat):Int)<1000000;omega}
 .exact wW (λx _ y _ e=>UQ e) nd
 .obtain⟨T,pT,rfl⟩:=rT vS pm rfl;rw[<-vU];refine q D T o pT<|(Cu.mp t).imp λ{x y} z=>?_;unfold gm;rcases z with z|⟨I,J⟩
  .left;have z:((x.1:Nat):Int)<y.1:=z;lia
  .right;have I:((x.1:Nat):Int)=y.1:=I;have J:((x.2:Nat):Int)<=y.2:=J;exact{by lia,by lia}
structure tZ(L0:qk)(ks:List<|Yh)(qs:XS)(d w D:Addr)(i ex:Nat)(f:X0)(wd:List<|Yh)(kvs:List<|jb×Y)(L:qk):Prop where
 sub:qg L0 L
 hd:L d=some (.YD kvs)
 hw:L w=some (.lst<|xx wd)
 hD:L D=some (.lst<|nY qs)
 len:kvs.length<=i
 val:∀p:Nat,wv kvs (.inl (p:Int))=if p∈qs.take i then some (.int (f p:Int)) else none
 gap:yx ks (qs.take i) f wd
 _l:wd.length<=2*i+ex
structure Z9(f:X0)(ks wd:List<|Yh):Prop where
 gap:yx ks (List.range ks.length) f wd
 len:wd.length<=2*ks.length+1
def uo(wd:List<|Yh)(k:Yh):xx wd++[eI k]=xx (wd++[k]):=by unfold xx;rw[AI];rfl
def aR(wd:List<|Yh):(xx wd).length=wd.length:=Ah ..
def tZ.wide{w D:Addr}{ex ex':Nat}{f:X0}{wd':List<|Yh}(G:tZ L0 ks qs d w D i ex f wd kvs L)(U:L0 w=none)(I:d≠w)(J:w≠D)(g:yx ks (qs.take i) f wd')(h:wd'.length<=2*i+ex'):
 tZ L0 ks qs d w D i ex' f wd' kvs (qf L w<|.lst<|xx wd'):=
 ⟨G.sub.upd U,(qc I).trans G.hd,q9,(qc<|AJ J).trans G.hD,G.len,G.val,g,h⟩
def zu:Ru->XO
 |.link p q=>[(p,q)]
 |.ei _ A=>zu A
 |.bo _ A B=>zu A++zu B
 |.cu _ _ A B=>zu A++zu B
def zy:Ru->XO
 |.link _ _=>[]
 |.ei _ A=>zy A
 |.bo _ A B=>zy A++zy B
 |.cu p q A B=>(p,q)::(zy A++zy B)
def iL:Ru->Nat
 |.link _ _=>1
 |.ei _ A=>iL A+1
 |.bo _ A B=>iL A+iL B+1
 |.cu _ _ A B=>iL A+iL B+1
def aQ:Ru->List Ru
 |.link _ _=>[]
 |.ei _ A=>[A]
 |.bo _ A B=>[A,B]
 |.cu _ _ A B=>[A,B]
def u0:Ru->XO
 |.link p q=>[(p,q)]
 |_=>[]
def yg:Ru->XO
 |.cu p q _ _=>[(p,q)]
 |_=>[]
def yc(A:Ru):zu A=u0 A++(aQ A).flatMap zu:=by cases A<;>simp[zu,u0,aQ]
def UR(A:Ru):zy A=yg A++(aQ A).flatMap zy:=by cases A<;>simp[zy,yg,aQ]
def US(A:Ru):((aQ A).map iL).sum+1=iL A:=by cases A<;>simp[iL,aQ]
def qW{A B:Ru}(h:B∈aQ A):vo B<vo A:=by cases A<;>simp[aQ] at h<;>(try rcases h with rfl|rfl)<;>(try subst h)<;>simp[vo]<;>omega
def cU(l:XN)(p:X2):qx l++[A_ p]=qx (l++[p]):=by unfold qx;rw[AI];rfl
def tI(I:Addr)(J:ju):cH:=(je (vv (gG x8)<|qo 2)
 (je (mI (bF<|qh 1) (fM 2<|x5 (qo 3)<|x5 (qo 4) cM)<|cY (yB<|lL I "unite" J (qh 0)<|rm (qh 3)<|qh 4) (bC<|mC vi (qh 2)<|qt (mK<|qt (r_ "join")<|rm (qh 3)<|qh 4) x8) a6)
 (cJ<|qh 2)))
def yH(I:Addr)(J:ju)(p1:ju):cH:=(je (vv (g_ 1 (bF<|jg J<|qt (ku iH (qh 1)<|qh 2) x8) (qo 4) zF<|lL I "head_of" p1 (qh 0)<|bv<|qh 4)<|qo 3)
 (cJ<|ID (ku (uQ false) (gE 3 0)<|gE 3 1)<|ku (uQ true) (gE 3 0)<|lL I "head_of" p1 (qh 0)<|bv<|qh 2))
def sS(I:Addr)(J:ju)(p1:ju):cH:=(je (vv (gG x8)<|qo 3)
 (je (vv (FJ FK<|gJ 1)<|qo 4)
 (je (jR (yB<|ku RH (qh 4)<|xO 3) (je (vv (xO 3)<|qo 4)
 (mI (bF<|qh 2) (qo 5) (cY (yB<|jg J<|qt (qh 0)<|rm (qh 1)<|qh 5) (je (bC<|lL I "unite" p1 (qh 0)<|qt (qh 5)<|qt (ku iH (ku iH (qh 1)<|qh 5)<|gJ 1) x8)
 (bC<|mC vi (qh 3)<|qt (Hg (r_ "fold")<|qh 5) x8)) a6))))
 (cJ<|qh 3))))
def ye(I:Addr)(J:ju)(p1:ju)(p2:ju):cH:=(je (vv (G7 I J<|bv<|xO 0)<|qo 3)
 (cJ<|ku mG (jg p1<|rm (qh 3)<|qh 1)<|jg p2<|qt (qh 3)<|rm (qh 0)<|qh 2))
def bJ(I:ju)(J:ju):RD "all_come_together" bL 5 ["knots","joins","eithers","due"] (λV=>G8 V I/\Js V J):={_,λV B c _ _ _ _ _ _ _ U hN g=>(qa (S_ 3 hN<|ql cD (L_ B.ba<|C_ c.1 U<|jy<|qv 0) qe)<|qd<|qr<|gq (aC (ga _ _ _ g) (ql ja (L_ B.ba<|qv 1)<|L_ B.ba<|qv 2) (qv 3)<|jt _)<|jQ<|aC (ga _ _ _ g) (L_ B.ba<|C_ c.2 U<|bq (qv 0) (qv 1)<|qv 2) (qv 3)<|jt _)}
def lW(I:ju)(J:ju)(U:ju):RD "right_web" lF 6 ["web"] (λV=>Jt V I/\Jm V J/\Jr V U):={_,λV B c _ _ _ _ _ _ _ g hN j=>(qd<|qr<|C_ c.1 g<|bq (J_ 0) (C_ c.2.2 g<|jy<|qv 0)<|C_ c.2.1 g<|jy<|qv 0)}
def sj(hs:XS)(a b:Nat):Prop:=∃r,aK hs a r/\aK hs b r
def Mon(hs fi:XS):Prop:=∀a b,sj hs a b->sj fi a b
def Mon.trans{a b c:XS}(h:Mon a b)(k:Mon b c):Mon a c:=λx y z=>k x y<|h x y z
def oh(h:∀x s,aK hs x s->aK fi x s):Mon hs fi:=λ_ _ ψ=>(by obtain⟨r,p,q⟩:=ψ;exact {r,h _ _ p,h _ _ q})
def ow{a b:Nat}(h:∀i s,aK hs i s->aK fi i (if s=a then b else s)):Mon hs fi:=λ_ _ ψ=>(by obtain⟨_,p,q⟩:=ψ;exact {_,h _ _ p,h _ _ q})
def UT{a b:Nat}(h:∀i s,aK hs i s->aK fi i (if s=a then b else s))(ta:aK hs p a)(tb:aK hs q b):sj fi p q:=by
 have J:=h _ _ ta;have I:=h _ _ tb;rw[Ay rfl] at J;refine{b,J,?_};by_cases c:b=a
 .rw[Ay c] at I;exact I
 .rw[Au c] at I;exact I
def wH{a b I J:Nat}(h:∀x s,aK hs x s->aK fi x s)(ta:aK hs a I)(tb:aK hs b J):sj fi a b->sj hs a b:=λ ψ=>by obtain⟨r,p,q⟩:=ψ;have U:=(h _ _ ta).uniq p;have g:=(h _ _ tb).uniq q;exact{r,U▸ta,g▸tb}
def F7(ks:List<|Yh)(hs es:XS):Prop:=∀p∈es,∀e i j,ks[p]?=some (some<|.nd e i j)->sj hs i j->sj hs p i
structure xM(R:Nat->Nat->Prop):Prop where
 r:∀a,R a a
 s:∀{a b},R a b->R b a
 t:∀{a b c},R a b->R b c->R a c
def uF(R:Nat->Nat->Prop)(hs:XS):Prop:=∀a b,sj hs a b->R a b
def aK.lt{r:Nat}(h:aK hs i r):i<hs.length:=by cases h with|root e=>exact qz e|step e _ _=>exact qz e
def r6{R:Nat->Nat->Prop}(I:gu rk hs)(U:fi.length=hs.length)(h:∀x s,aK hs x s->aK fi x s)(F:uF R hs):uF R fi:=λx y ψ=>by obtain⟨r,p,q⟩:=ψ;obtain⟨g,J⟩:=I.SC (i:=x) (by have:=p.lt;lia);obtain⟨j,ty⟩:=I.SC (i:=y) (by have:=q.lt;lia);exact F x y<|wH h J ty {(r),p,q}
def sE{R:Nat->Nat->Prop}{a b:Nat}(j:gu rk hs)(hl:fi.length=hs.length)(h:∀i s,aK hs i s->aK fi i (if s=a then b else s))(ta:aK hs p a)(tb:aK hs q b)(E:xM R)(I:R p q)(F:uF R hs):uF R fi:=λx y ψ=>by
 obtain⟨r,l,o⟩:=ψ
 obtain⟨U,J⟩:=j.SC (i:=x) (by have:=l.lt;lia);obtain⟨g,ty⟩:=j.SC (i:=y) (by have:=o.lt;lia);have e:=((h _ _ J).uniq l).trans ((h _ _ ty).uniq o).symm;have C:U=a->R x p:=λz=>F x p {a,z▸J,ta};have T:g=a->R y p:=λz=>F y p {a,z▸ty,ta};by_cases c:U=a
 .by_cases d:g=a
  .exact E.t (C c)<|E.s<|T d
  .rw[Ay c,Au d] at e;exact E.t (E.t (C c) I)<|F q y {b,tb,e▸ty}
 .by_cases d:g=a
  .rw[Au c,Ay d] at e;exact E.t (F x q {b,e▸J,tb})<|E.s<|E.t (T d) I
  .rw[Au c,Au d] at e;exact F x y {U,J,e▸ty}
def yV{R:Nat->Nat->Prop}(E:xM R)(n:Nat):uF R (List.range n):=λx y ψ=>by obtain⟨r,p,q⟩:=ψ;have h:∀{i r:Nat},aK (List.range n) i r->r=i:=λ{i r} t=>t.YY (BY (by have:=t.lt;rwa[Bb] at this));have I:=h p;have J:=h q;subst I;rw[J];exact E.r _
def _r(hs fi:XS)(ps:XN):Prop:=Mon hs fi/\(∀x∈ps,sj fi x.1 x.2)/\∀R,xM R->(∀x∈ps,R x.1 x.2)->uF R hs->uF R fi
def Fz(ks:List<|Yh)(es:XS)(R:Nat->Nat->Prop):Prop:=∀p∈es,∀e i j,ks[p]?=some (some<|.nd e i j)->R i j->R p i
def Hl(ks:List<|Yh)(hs fi es:XS):Prop:=Mon hs fi/\∀R,xM R->Fz ks es R->uF R hs->uF R fi
def _r.snoc{I:XS}{ps:XN}{a b:Nat}(j:_r hs fi ps)(U:gu rk fi)(g:I.length=fi.length)(h:∀i s,aK fi i s->aK I i (if s=a then b else s))(ta:aK fi p a)(tb:aK fi q b):_r hs I (ps++[(p,q)]):=by
 refine{j.1.trans<|ow h,λx J=>?_,λR E c F=>sE U g h ta tb E (c (p,q)<|Ae _<|Aj.mpr rfl)<|j.2.2 R E (λx J=>c x<|Am _ J) F};rcases Ag.mp J with J|J
 .exact ow h _ _<|j.2.1 x J
 .rw[Aj.mp J];exact UT h ta tb
def Gd(hs fi:XS):Prop:=fi.length=hs.length/\∃rk,gu rk fi
def UU:(100000:Nat)<=sizeLine:=by decide
inductive f8(C:Addr)(ys:_T)(L:qk)(Q:YK):Prop
 |mk:∀o hp j,∀hs:XS,∀ps:XO,(ys=[.ref o,.ref j])->(L o=some (.ins C<|pC hp))->(L hp=some (.lst<|nY hs))->(L j=some (.lst<|qx ps))->(j≠hp)->((∃rk,gu rk hs))->((∀x∈ps,x.1<hs.length/\x.2<hs.length))->(ps.length<=10000)->(∀s zs fi,L s=none->Gd hs fi->zs.length<=ps.length->zs.length+dz fi=dz hs->_r hs fi ps->Q (.ref s) (qf (qf L hp<|.lst<|nY fi) s<|.lst zs))->f8 C ys L Q
def UV :_f (f8 C) (tI C<|fH C) 5:=by
 rintro ys L Q ⟨o,l,j,hs,ps,rfl,ho,r,hj,a3,a4,a5,hz,q⟩;intro s U;have ab:=Fm ho r (λe=>by cases e);have ac:=w6 ho U;have a2:=w6 r U;have t:=w6 hj U;have fo:∀A Z,(qf (qf L l A) s Z) o=some (.ins C<|pC l):=λA Z=>(qc ac).trans<|(qc ab).trans ho;have fh:∀A Z,(qf (qf L l A) s Z) l=some A:=λA Z=>(qc a2).trans q9;have fj:∀A Z,(qf (qf L l A) s Z) j=some (.lst<|qx ps):=λA Z=>(qc t).trans<|(qc a3).trans hj;have e0:qf L s (.lst [])=qf (qf L l<|.lst<|nY hs) s (.lst []):=by rw[aH r]
 refine mv (ys:=qx ps) (kz<|(qc t).trans hj) (λi τ L'=>∃I J c3 c4,τ=[some<|.ref o,some<|.ref j,some<|.ref s,c3,c4]/\L'=qf (qf L l<|.lst<|nY I) s (.lst J)/\Gd hs I/\J.length<=i/\J.length+dz I=dz hs/\_r hs I (ps.take i)) {hs,[],_,_,rfl,e0,{(rfl),a4},Ap _,C1 _,λ_ _ z=>z,(λx hx=>by cases hx),λ_ _ _ F=>F} ?_ ?_ ?_
 .rintro i τ L' ⟨I,J,c3,c4,rfl,rfl,_⟩;rw[fj,qc t,hj]
 .rintro i y τ L' hy ⟨I,J,c3,c4,rfl,rfl,⟨g1,rk,g2⟩,T,a0,jn⟩;rw[Aq] at hy;obtain⟨⟨p,q'⟩,ex,rfl⟩:=AE.mp hy;obtain⟨h1,h2⟩:=a5 _<|Ar ex;have h1:=h1;have h2:=h2;have hi:=qz ex;obtain⟨a,ta⟩:=g2.SC (i:=p) (by lia);obtain⟨b,tb⟩:=g2.SC (i:=q') (by lia);refine wu (fo _ _) {rfl,og,o,l,I,p,q',a,b,_,_,rfl,rfl,rfl,fo _ _,fh _ _,{(rk),g2},ta,tb,by lia,by lia,λa1 l2 k2 r2 e1 e2=>?_};rw[cj<|AJ a2,zh];have nw:_r hs a1 (ps.take<|i+1):=by
   have et:ps.take (i+1)=ps.take i++[(p,q')]:=by rw[Bm,ex];rfl
   rw[et];exact jn.snoc g2 l2 r2 ta tb
  by_cases c:a=b
  .refine aT (by rw[AA c];rfl) {_,EL _,a1,J,_,_,rfl,rfl,{by lia,k2},GF,by rw[e1 c];exact a0,nw}
  .refine dW (by rw[AB c];rfl) ?_;refine qb q9<|qp q9 {BN (by lia:J.length<=10000) (by decide),_,EL _,a1,J++[_],_,_,rfl,zh,{by lia,k2},?_,?_,nw}
   .rw[Ab,Ba];exact Fk
   .rw[Ab,Ba];lia
 .rintro τ L' ⟨I,J,c3,c4,rfl,rfl,g,T,a0,jn⟩;rw[Ah] at T jn;rw[Bp] at jn;exact xg<|q s J I U g T a0 jn
inductive jE(C:Addr)(ys:_T)(L:qk)(Q:YK):Prop
 |mk:∀o hp a,∀hs:XS,∀ks:List (Yh),∀p i j:Nat,∀e:Bool,∀pi:Int,(ys=[.ref o,.ref a,.int pi])->(pi=(p:Int))->(L o=some (.ins C<|pC hp))->(L hp=some (.lst<|nY hs))->(L a=some (.lst<|xx ks))->(a≠hp)->((∃rk,gu rk hs))->(ks[p]?=some (some<|.nd e i j))->(p<hs.length)->(i<hs.length)->(j<hs.length)->(∀ri rj rp fi,aK hs i ri->aK hs j rj->aK hs p rp->Gd hs fi->(∀x s,aK hs x s->aK fi x s)->dz fi=dz hs->Q (.bl<|decide (ri=rj)&&!decide (ri=rp)) (qf L hp<|.lst<|nY fi))->jE C ys L Q
def tM(a b:Nat):decide ((a:Int)=(b:Int))=decide (a=b):=by
 by_cases c:a=b
 .rw[AA c];exact AA (by lia)
 .rw[AB c];exact AB (by lia)
def UW :_f (jE C) (yH C bX<|iE C) 4:=by
 rintro ys L Q ⟨o,U,a,hs,ks,p,i,j,e,pi,rfl,rfl,ho,T,ha,ba,⟨rk,hr⟩,ek,au,a3,a4,q⟩;have a1:dZ (xx ks) (p:Int)=some (eI<|some<|.nd e i j):=jo (by rw[Aq,ek];rfl);obtain⟨g,ti⟩:=hr.SC a3;obtain⟨l,tj⟩:=hr.SC a4;obtain⟨rp,tp⟩:=hr.SC au;refine qb ha<|qj a1 {some<|.nd e i j,rfl,λp2 t=>?_};have av:=Fm ho T (λe=>by cases e);have ax:=w6 ho t;have a5:=w6 T t;have fo:∀A Z,(qf (qf L p2 Z) U A) o=some (.ins C<|pC U):=λA Z=>(qc av).trans<|(qc ax).trans ho;refine xl q9 λkeep kp=>xZ {by show 2<sizeLine;decide,λk zs L'=>∃I,L'=qf (qf L p2<|.lst<|nY [i,j]) U (.lst<|nY I)/\I.length=hs.length/\gu rk I/\(∀x s,aK hs x s->aK I x s)/\dz I=dz hs/\zs=nY ([g,l].take k),{hs,?_,rfl,hr,λ_ _ h=>h,rfl,rfl},?_,?_,?_}
 .exact(aH<|(qc a5).trans T).symm
 .rintro k zs L' ⟨I,rfl,_⟩;exact kp _ (by rw[qc<|AJ a5];rfl)
 .rintro k y zs L' hy ⟨I,rfl,l1,k1,t1,n1,rfl⟩;obtain⟨n,en,rfl⟩:=eG hy;have hn:n<hs.length/\∃rn,aK hs n rn/\nY ([g,l].take k)++[.int (rn:Int)]=nY ([g,l].take<|k+1):=by
   match k,en with
   |0,en=>cases en;exact{(a3),g,ti,rfl}
   |1,en=>cases en;exact{(a4),l,tj,rfl}
  obtain⟨hn,rn,tn,aL⟩:=hn;refine wu (fo _ _) {rfl,ff,o,U,I,n,_,rk,rfl,rfl,fo _ _,q9,k1,by lia,λr J l2 k2 t2 a2 n2=>?_};cases t2.uniq (t1 _ _ tn);exact{_,EL _,J,zh,by lia,k2,λx s z=>a2 x s<|t1 x s z,by lia,aL}
 .rintro zs L' ⟨I,rfl,l1,k1,t1,n1,rfl⟩ p3 a0;have ab:=cr (By t)<|vj a0;have ac:=w6 q9 a0;have f0:dZ (nY<|[g,l].take (nY<|zm<|some<|Kn.nd e i j).length) 0=some (.int (g:Int)):=rfl;have f1:dZ (nY<|[g,l].take (nY<|zm<|some<|Kn.nd e i j).length) 1=some (.int (l:Int)):=rfl;refine qb q9<|qj f0<|qb q9<|qj f1 ?_;have al:∀Z,(qf (qf (qf L p2<|.lst<|nY [i,j]) U<|.lst<|nY I) p3 Z) o=some (.ins C<|pC U):=λZ=>(qc<|w6 (fo _ _) a0).trans<|fo _ _;have sub:∀(J:XS) Z,qg (qf L U<|.lst<|nY J) (qf (qf (qf (qf L p2<|.lst<|nY [i,j]) U<|.lst<|nY I) p3 Z) U<|.lst<|nY J):=λJ Z b u e=>by
   by_cases c:b=U
   .subst c;rw[q9] at e ⊢;exact e
   .rw[qc c] at e;rw[qc c,qc<|w6 e ab,qc c,qc<|w6 e t];exact e
  show aa (decide<|(g:Int)=(l:Int)) _ _;rw[tM];refine zp (λc=>?_) λc=>?_
  .refine qb q9<|qj f0 ?_;refine wu (al _) {rfl,ff,o,U,I,p,_,rk,rfl,rfl,al _,(qc ac).trans q9,k1,by lia,λr J l2 k2 t2 a2 n2=>?_};cases t2.uniq (t1 _ _ tp);show gB Q (.bl<|!decide ((g:Int)=(rp:Int))) _;rw[tM];have:=q g l rp J ti tj tp {by lia,rk,k2} (λx s z=>a2 x s<|t1 x s z) (by lia);rw[AA c,C7] at this;exact fC (sub J _) this
  .have:=q g l rp I ti tj tp {by lia,rk,k1} t1 n1;rw[AB c,Bool.false_and] at this;refine fC (L:=qf L U<|.lst<|nY I) (λb u eb=>?_) this;have z:=sub I (.lst<|nY<|[g,l].take (nY<|zm<|some<|Kn.nd e i j).length) b u;have e2:qf (qf (qf (qf L p2<|.lst<|nY [i,j]) U<|.lst<|nY I) p3<|.lst<|nY<|[g,l].take (nY<|zm<|some<|Kn.nd e i j).length) U (.lst<|nY I)=qf (qf (qf L p2<|.lst<|nY [i,j]) U<|.lst<|nY I) p3 (.lst<|nY<|[g,l].take (nY<|zm<|some<|Kn.nd e i j).length):=aH<|(qc ac).trans q9;rw[e2] at z;exact z eb
def F8(ks:List<|Yh)(n p:Nat):Prop:=∃e i j,ks[p]?=some (some<|.nd e i j)/\p<n/\i<n/\j<n
inductive fV(C:Addr)(ys:_T)(L:qk)(Q:YK):Prop
 |mk:∀o hp a b,∀hs:XS,∀ks:List (Yh),∀es:XS,(ys=[.ref o,.ref a,.ref b])->(L o=some (.ins C<|pC hp))->(L hp=some (.lst<|nY hs))->(L a=some (.lst<|xx ks))->(L b=some (.lst<|nY es))->(a≠hp)->(b≠hp)->((∃rk,gu rk hs))->((∀p∈es,F8 ks hs.length p))->(hs.length<=1000)->(∀s zs fi,L s=none->Gd hs fi->zs.length+dz fi=dz hs->(Hl ks hs fi es/\F7 ks fi es)->Q (.ref s) (qf (qf L hp<|.lst<|nY fi) s<|.lst zs))->fV C ys L Q
def Kk(hs:XS):dz hs<=hs.length:=by exact AS (List.countP_le_length) (by rw[Bb];simp +arith only)
def acl :_f (fV C) (sS C (jE C)<|fH C) 6:=by
 rintro ys L Q ⟨o,l,a,b,hs,ks,es,rfl,ho,a3,ha,hb,a5,ax,aL,ab,be,q⟩;intro s T;have ba:=Fm ho a3 (λe=>by cases e);have bb:=w6 ho T;have a4:=w6 a3 T;have fo:∀A Z,(qf (qf L l A) s Z) o=some (.ins C<|pC l):=λA Z=>(qc bb).trans<|(qc ba).trans ho;have fh:∀A Z,(qf (qf L l A) s Z) l=some A:=λA Z=>(qc a4).trans q9;have fa:∀A Z,(qf (qf L l A) s Z) a=some (.lst<|xx ks):=λA Z=>(qc<|w6 ha T).trans<|(qc a5).trans ha;have fb:∀A Z,(qf (qf L l A) s Z) b=some (.lst<|nY es):=λA Z=>(qc<|w6 hb T).trans<|(qc ax).trans hb;have e0:qf L s (.lst [])=qf (qf L l<|.lst<|nY hs) s (.lst []):=by rw[aH a3]
 refine{λm τ L'=>∃U zs,∃bf:Int,∃c5,τ=[some<|.ref o,some<|.ref a,some<|.ref b,some<|.ref s,some<|.int bf,c5]/\L'=qf (qf L l<|.lst<|nY U) s (.lst zs)/\Gd hs U/\zs.length+dz U=dz hs/\(Hl ks hs U es/\(bf<(zs.length:Int)\/F7 ks U es))/\m=2*dz U+(if bf<(zs.length:Int) then 1 else 0),{_,hs,[],-1,_,rfl,e0,{(rfl),aL},C1 _,{{λ_ _ z=>z,λ_ _ _ F=>F},.inl (by decide)},rfl},?_};rintro m τ L' ⟨U,zs,bf,c5,rfl,rfl,g,ac,⟨mo,sh⟩,rfl⟩;refine qb q9 ?_;refine zp (λc=>?_) λc=>xg<|q s zs U T g ac {mo,sh.resolve_left c};refine{_,λ_ _ h=>h,qb q9 ?_};refine mv (ys:=nY es) (kz<|fb _ _) (λi τ L'=>∃J I c5,τ=[some<|.ref o,some<|.ref a,some<|.ref b,some<|.ref s,some<|.int (zs.length:Int),c5]/\L'=qf (qf L l<|.lst<|nY J) s (.lst I)/\Gd hs J/\I.length+dz J=dz hs/\zs.length<=I.length/\(Hl ks hs J es/\(zs.length<I.length\/F7 ks J (es.take i)))) {U,zs,_,rfl,rfl,g,ac,Ap _,mo,.inr λp l=>by cases l} ?_ ?_ ?_
 .rintro i τ L' ⟨J,I,c5,rfl,rfl,_⟩;rw[fb,fb]
 .rintro i y τ L' hy ⟨J,I,c5,rfl,rfl,⟨g1,rk,g2⟩,a2,al,t,a0⟩;obtain⟨p,ep,rfl⟩:=eG hy;obtain⟨e,i',j',ek,h1,h2,h3⟩:=ab p<|Ar ep;have a1:dZ (xx ks) (p:Int)=some (eI<|some<|.nd e i' j'):=jo (by rw[Aq,ek];rfl);refine{o,l,a,J,ks,p,i',j',e,_,rfl,rfl,fo _ _,fh _ _,fa _ _,a5,{(rk),g2},ek,by lia,by lia,by lia,λri rj rp au ti tj tp ⟨l3,k3⟩ j n3=>?_};rw[cj<|AJ a4,zh];cases cc:(decide (ri=rj)&&!decide (ri=rp)) with
  |false=>
   refine{_,EL _,au,I,_,rfl,rfl,{by lia,k3},by lia,al,{t.1.trans<|oh j,λR E c F=>r6 g2 l3 j<|t.2 R E c F},a0.imp id λsh=>?_};have et:es.take (i+1)=es.take i++[p]:=by rw[Bm,ep];rfl
   rw[et];intro x hx f u v ex cx;rcases Ag.mp hx with hx|hx
   .obtain⟨f',u',v',av,_,hu,hv⟩:=ab x<|BK hx;rw[ex] at av;cases av;obtain⟨ru,tu⟩:=g2.SC (i:=u) (by lia);obtain⟨rv,tv⟩:=g2.SC (i:=v) (by lia);exact oh j _ _<|sh x hx f u v ex<|wH j tu tv cx
   .rw[Aj.mp hx] at ex ⊢;rw[ek] at ex;cases ex;obtain⟨r,c3,c4⟩:=cx;have e5:=(j _ _ ti).uniq c3;have e6:=(j _ _ tj).uniq c4;rw[AA<|e5.trans e6.symm,C7] at cc;by_cases e7:ri=rp
    .exact{ri,e7▸j _ _ tp,j _ _ ti}
    .rw[AB e7] at cc;cases cc
  |true=>
   have c2:ri≠rp:=by have:=(AX _ _▸cc).2;intro z;rw[AA z] at this;cases this
   refine wu (fo _ _) {rfl,og,qb (fa _ _)<|qj a1 {o,l,au,p,i',rp,ri,_,_,rfl,rfl,rfl,fo _ _,fh _ _,k3,j _ _ tp,j _ _ ti,by lia,by lia,λbc l4 k4 r4 e1 e2=>?_}};rw[cj<|AJ a4,zh];have bg:=Kk hs;refine qb q9 (qp q9 {BN (by lia:I.length<=1000) (by decide),_,EL _,bc,I++[_],_,rfl,zh,{by lia,k4},?_,?_,{(t.1.trans<|oh j).trans<|ow r4,λR E c F=>?_},.inl (by rw[Ab,Ba];exact Fk)})
   .rw[Ab,Ba];lia
   .rw[Ab,Ba];exact GF
   .obtain⟨bh,bd⟩:=k3;have F3:=r6 g2 l3 j<|t.2 R E c F;have c1:=of_decide_eq_true (AX _ _▸cc).1;exact sE bd l4 r4 (j _ _ tp) (j _ _ ti) E (c p (Ar ep) e i' j' ek<|F3 _ _ {ri,j _ _ ti,c1▸j _ _ tj}) F3
 .rintro τ L' ⟨J,I,c5,rfl,rfl,g2,a2,al,t,a0⟩;rw[xn,Bp] at a0;refine{_,EL _,2*dz J+(if ((zs.length:Nat):Int)<(I.length:Int) then 1 else 0),?_,J,I,_,_,rfl,rfl,g2,a2,{t,a0.imp (λz=>by lia) id},rfl};rw[Ay c];split<;>lia
def sN(m:X0)(e:X2):X0:=λx=>if m x=m e.1 then m e.2 else m x
def cK(es:XN)(m:X0):X0:=es.foldl sN m
def mF(n:Nat)(m:X0):Nat:=(List.range n).countP λx=>decide<|m x=x
def FB(n:Nat)(m:X0):Prop:=∀x,x<n->m x<n/\m (m x)=m x
def FB.step{m:X0}{e:X2}(h:FB n m)(h1:e.1<n)(h2:e.2<n):FB n (sN m e):=λx I=>by
 obtain⟨J,U⟩:=h _ h2;obtain⟨b1,b2⟩:=h _ I;unfold sN;by_cases c:m x=m e.1
 .rw[Ay c];refine{J,?_};rw[U,ite_self]
 .rw[Au c];refine{b1,?_};rw[b2,Au c]
def arm{m:X0}{e:X2}{x y:Nat}(h:m x=m y):sN m e x=sN m e y:=by unfold sN;rw[h]
def UX(m:X0)(e:X2):sN m e e.1=sN m e e.2:=by
 unfold sN;rw[Ay rfl];by_cases c:m e.2=m e.1
 .rw[Ay c]
 .rw[Au c]
theorem Kl:∀(es:XN) {m:X0} {x y:Nat},m x=m y->cK es m x=cK es m y
 |[],_,_,_,h=>h
 |e::r,m,_,_,h=>Kl r (m:=sN m e)<|arm h
theorem mM:∀(es:XN) (m:X0),∀e∈es,cK es m e.1=cK es m e.2
 |[],_,e,h=>by cases h
 |d::r,m,e,h=>by
  rcases Ao.mp h with rfl|h
  .exact Kl r<|UX m e
  .exact mM r (sN m d) e h
def UY{m:X0}{e:X2}(c:m e.1=m e.2):mF n (sN m e)=mF n m:=by
 have:sN m e=m:=funext λx=>by
  unfold sN;by_cases d:m x=m e.1
  .rw[Ay d,d,c]
  .rw[Au d]
 rw[this]
def UZ{m:X0}{e:X2}(h:FB n m)(h1:e.1<n)(h2:e.2<n)(c:m e.1≠m e.2):mF n (sN m e)+1=mF n m:=by
 obtain⟨U,I⟩:=h _ h1;have b:=bW (p:=λx=>decide<|m x=x) (a:=m e.1) (AA I) (l:=List.range n) Bw<|AM.mpr U;unfold mF;rw[<-b];congr 1;refine B7 λx J=>?_;have J:=AM.mp J;rw[AX,BO,BO,Bool.not_eq_true',decide_eq_false_iff_not];unfold sN;constructor
 .intro z;by_cases d:m x=m e.1
  .rw[Ay d] at z;rw[<-z,(h _ h2).2] at d;exact absurd d.symm c
  .rw[Au d] at z;exact{z,λy=>d (by rw[y,I])}
 .rintro⟨z,y⟩;rw[Au λd=>y<|z.symm.trans d];exact z
theorem vM:∀(es:XN) {n:Nat} {m:X0},FB n m->(∀e∈es,e.1<n/\e.2<n)->mF n m<=mF n (cK es m)+es.length/\(mF n (cK es m)+es.length<=mF n m->∀i e,es[i]?=some e->cK (es.take i) m e.1≠cK (es.take i) m e.2)
 |[],n,m,_,_=>{Ap _,λ_ i e h=>by simp at h}
 |d::r,n,m,h,J=>by
  obtain⟨d1,d2⟩:=J d<|Ai ..;obtain⟨g,U⟩:=vM r (h.step d1 d2) λe I=>J e<|Ac _ I;have eq:cK (d::r) m=cK r (sN m d):=rfl;rw[eq,Av];by_cases c:m d.1=m d.2
  .have s:=UY (n:=n) c;exact{by lia,λz=>by lia}
  .have s:=UZ h d1 d2 c;refine{by lia,λz i e I=>?_};cases i with|zero=>cases I;exact c|succ i=>exact U (by lia) i e I
def U0(n:Nat):FB n id:=λ_ h=>{(h),rfl}
def U3(n:Nat):mF n id=n:=by refine Eq.trans (CS.mpr λi _=>AA rfl) Bb
def Km(n:Nat)(ps:XN):Prop:=∀x∈ps,x.1<n/\x.2<n
def gA(n:Nat)(ks:List<|Yh)(ps:XN)(es:XS):Prop:=∀R:Nat->Nat->Prop,(∀a,R a a)->(∀a b,R a b->R b a)->(∀a b c,R a b->R b c->R a c)->(∀x∈ps,R x.1 x.2)->
 (∀p∈es,∀e i j,ks[p]?=some (some<|.nd e i j)->R i j->R p i)->∀a b,a<n->b<n->R a b
def w_(ks:List<|Yh)(ps:XN)(es:XS)(a b:Nat):Prop:=∀R,xM R->(∀x∈ps,R x.1 x.2)->Fz ks es R->R a b
theorem U4{ps:XN}{es:XS}:xM (w_ ks ps es):={λa R E _ _=>E.r a,λh R E p f=>E.s<|h R E p f,λh k R E p f=>E.t (h R E p f)<|k R E p f}
def U5{ps:XN}{es:XS}:Fz ks es (w_ ks ps es):=λp I e i j J h R E q f=>f p I e i j J<|h R E q f
theorem nM{R:Nat->Nat->Prop}(E:xM R):∀(es:XN) {m:X0},(∀x y,m x=m y->R x y)->(∀e∈es,R e.1 e.2)->∀x y,cK es m x=cK es m y->R x y
 |[],_,h,_,x,y,e=>h x y e
 |d::r,m,h,c,x,y,e=>by
  refine nM E r (m:=sN m d) (λx y z=>?_) (λe I=>c e<|Ac _ I) x y e;have hd:=c d<|Ai ..;unfold sN at z;by_cases a:m x=m d.1
  .by_cases b:m y=m d.1
   .exact h x y<|a.trans b.symm
   .rw[Ay a,Au b] at z;exact E.t (E.t (h _ _ a) hd)<|h _ _ z
  .by_cases b:m y=m d.1
   .rw[Au a,Ay b] at z;exact E.t (h _ _ z)<|E.s<|E.t (h _ _ b) hd
   .rw[Au a,Au b] at z;exact h x y z
theorem Ko:∀(l T:XS),l.Nodup->(∀x∈l,x∈T)->l.length<=T.length
 |[],_,_,_=>Bf _
 |a::r,T,nd,h=>by obtain⟨U,g⟩:=AD.mp nd;have I:=h a<|Ai ..;have:=Ko r (T.erase a) g λx J=>(List.mem_erase_of_ne (λe:x=a=>U<|e▸J)).mpr<|h x<|Ac _ J;rw[List.length_erase_of_mem I] at this;have:=Cj I;rw[Av];omega
def Hm{I:XN}{T:XS}(J:∀e∈I,e.1<n/\e.2<n)(h:∀x,x<n->∃t∈T,cK I id x=cK I id t):n<=T.length+I.length:=by
 have U:=(vM I (U0 n) J).1;rw[U3] at U;have g:mF n (cK I id)<=(T.map<|cK I id).length:=by unfold mF;rw[Bj];refine Ko _ _ (Bw.filter _) λx j=>?_;obtain⟨l,o⟩:=AF.mp j;obtain⟨t,p,e⟩:=h x<|AM.mp l;exact BE.mpr {t,p,e.symm.trans<|of_decide_eq_true o}
 rw[Ah] at g;omega
def YZ(ks:List<|Yh)(p b:Nat):Nat:=match ks[p]? with
 |some (some<|.nd _ i j)=>if b=0 then i else j
 |_=>p
def fK{e:Bool}(h:ks[p]?=some (some<|.nd e i j))(b:Nat):YZ ks p b=if b=0 then i else j:=by unfold YZ;rw[h]
open Classical in
theorem U6{e:Bool}{ps:XN}{es:XS}(hk:ks[p]?=some (some<|.nd e i j))(ab:Km n ps)(a2:∀q∈es,F8 ks n q)(hi:i<n)(cnt:ps.length+es.length+2=n)
 (c0:gA n ks (ps++[(p,i)]) es) (c1:gA n ks (ps++[(p,j)]) es):gA n ks ps (p::es):=by
 by_cases yu:∀a b,a<n->b<n->w_ ks ps (p::es) a b
 .exactλR r s t hp hf a b ha hb=>yu a b ha hb R {r,λ{a b}=>s a b,λ{a b c}=>t a b c} hp hf
 exfalso;have E:xM (w_ ks ps<|p::es):=U4;have fo:Fz ks (p::es) (w_ ks ps<|p::es):=U5;have _m:∀x∈ps,w_ ks ps (p::es) x.1 x.2:=λx I R _ h _=>h x I;have g:∀R,xM R->(∀x∈ps,R x.1 x.2)->Fz ks (p::es) R->∀a b,w_ ks ps (p::es) a b->R a b:=λR E h f a b k=>k R E h f;generalize w_ ks ps (p::es)=K at yu E fo _m g;have a3:¬K i j:=λh=>yu<|c0 K E.r (λ_ _=>E.s) (λ_ _ _=>E.t) (λx I=>by
  rcases Ag.mp I with I|I
  .exact _m x I
  .rw[Aj.mp I];exact fo p (Ai ..) e i j hk h) λq J=>fo q<|Ac _ J
 let C:Nat->Prop:=λq=>∀e i j,ks[q]?=some (some<|.nd e i j)->K i j
 have all:∀h,gA n ks (ps++[(p,h)]) es->∀x,x<n->K x p\/K x h\/∃q∈es.filter λq=>decide ¬C q,K x q:=λh c=>by
  let M:Nat->Prop:=λx=>K x p\/K x h\/∃q∈es.filter λq=>decide ¬C q,K x q
  have mm:∀{x y},K x y->M y->M x:=λk m=>by
   rcases m with m|m|⟨q,J,m⟩
   .exact .inl<|E.t k m
   .exact .inr<|.inl<|E.t k m
   .exact .inr<|.inr {q,J,E.t k m}
  have S:=c (λx y=>K x y\/M x/\M y) (λa=>.inl<|E.r a) (λa b z=>z.imp E.s λ ψ=>(by obtain⟨u,v⟩:=ψ;exact {(v),u})) (λa b d y z=>by
   rcases y with y|⟨y1,y2⟩
   .rcases z with z|⟨z1,z2⟩
    .exact .inl (E.t y z)
    .exact .inr {mm y z1,z2}
   .rcases z with z|⟨z1,z2⟩
    .exact .inr {y1,mm (E.s z) y2}
    .exact .inr {(y1),z2}) (λx I=>by
    rcases Ag.mp I with I|I
    .exact .inl (_m x I)
    .rw[Aj.mp I];exact .inr {.inl<|E.r _,.inr<|.inl<|E.r _}) (λq J e' U j' o z=>by
    by_cases k:K U j'
    .exact .inl (fo q (Ac _ J) e' U j' o k)
    .rcases z with z|⟨z1,_⟩
     .exact absurd z k
     .exact .inr {.inr<|.inr {q,AF.mpr {J,AA λw=>k<|w e' U j' o},E.r q},z1})
  intro x I;apply Classical.byContradiction;intro nx;refine yu λa b ha hb=>?_;have one:∀a,a<n->K a x:=λa ha=>(S a x ha I).elim id λ ψ=>(by obtain⟨_,z⟩:=ψ;exact absurd z nx);exact E.t (one a ha)<|E.s<|one b hb
 have a1:=all j c1 i hi;have ac:∀x,x<n->∃t∈p::es.filter (λq=>decide ¬C q),K x t:=λx I=>by
  have w:K x i->∃t∈p::es.filter (λq=>decide ¬C q),K x t:=λk=>by
   rcases a1 with z|z|⟨q,J,z⟩
   .exact{p,Ai ..,E.t k z}
   .exact absurd z a3
   .exact{q,Ac _ J,E.t k z}
  rcases all i c0 x I with z|z|⟨q,J,z⟩
  .exact{p,Ai ..,z}
  .exact w z
  .exact{q,Ac _ J,z}
 obtain⟨ed,a0⟩:∃ed,ed=ps++(es.filter λq=>decide<|C q).map λq=>(q,YZ ks q 0):={_,rfl};have hs:=a2;have a4:∀x∈ed,K x.1 x.2/\x.1<n/\x.2<n:=λx I=>by
  rw[a0] at I;rcases Ag.mp I with I|I
  .exact{_m x I,ab x I}
  .obtain⟨q,J,rfl⟩:=BE.mp I;obtain⟨h1,h2⟩:=AF.mp J;obtain⟨e',U,j',o,l1,l2,l3⟩:=a2 q h1;have e0:YZ ks q 0=U:=fK o 0;show K q (YZ ks q 0)/\q<n/\YZ ks q 0<n;rw[e0];exact{fo q (Ac _ h1) e' U j' o<|of_decide_eq_true h2 e' U j' o,l1,l2}
 have G:∀a b,K a b->cK ed id a=cK ed id b:=g _ {λ_=>rfl,λh=>h.symm,λh k=>h.trans k} (λx I=>mM ed id x (by rw[a0];exact Am _ I)) λq J e' U j' o z=>by
  have k:K U j':=nM E ed (m:=id) (λx y (h:x=y)=>h▸E.r x) (λx I=>(a4 x I).1) U j' z;rcases Ao.mp J with rfl|J
  .rw[hk] at o;cases o;exact absurd k a3
  .have e0:YZ ks q 0=U:=fK o 0;refine mM ed id (q,U) ?_;rw[a0];refine Ae _<|BE.mpr {q,AF.mpr {J,AA λe2 i2 j2 a5=>?_},by rw[e0]};rw[o] at a5;cases a5;exact k
 have xg:=Hm (T:=p::es.filter λq=>decide ¬C q) (λx I=>(a4 x I).2) λx I=>let ⟨t,ht,k⟩:=ac x I;⟨t,ht,G _ _ k⟩;have l1:=List.length_eq_countP_add_countP (λq=>decide<|C q) (l:=es);have l2:(es.filter λq=>decide ¬C q).length=es.countP λq=>decide ¬decide (C q)=true:=by rw[<-Bj];exact B7 λq _=>by simp
 rw[a0,Ab,Ah,Av,l2,<-Bj] at xg;omega
def xK(ks:List<|Yh)(es bs:XS):XO:=List.zipWith (λp b=>(p,YZ ks p b)) es bs
def U7{ps:XN}{es:XS}{b:Nat}(c:gA n ks ps<|p::es):gA n ks (ps++[(p,YZ ks p b)]) es:=λR r s t J g=>c R r s t (λx l=>J x<|Am _ l) λq I e i j U z=>by
 rcases Ao.mp I with rfl|I
 .have k:=J _<|Ae ps<|Aj.mpr rfl;have o:=fK U b;have k:=k;rw[o] at k;by_cases c:b=0
  .rw[Ay c] at k;exact k
  .rw[Au c] at k;exact t _ _ _ k<|s _ _ z
 .exact g q I e i j U z
theorem wN{n:Nat}{ks:List<|Yh}:∀{es bs:XS} {ps:XN},es.length=bs.length->gA n ks ps es->gA n ks (ps++xK ks es bs) []
 |[],[],ps,_,c=>by rw[show xK ks [] []=[] from rfl,Aw];exact c
 |p::es,b::bs,ps,h,c=>by have:=wN (es:=es) (bs:=bs) (ps:=ps++[(p,YZ ks p b)]) (by simpa using h)<|U7 c;rw[AC] at this;exact this
 |[],_::_,_,h,_=>by simp at h
 |_::_,[],_,h,_=>by simp at h
def U8(n:Nat):gu (λ_=>0) (List.range n):=λi h e=>by
 have I:i<n:=by have:=qz e;rwa[Bb] at this
 rw[BY I] at e;cases e;exact{by rw[Bb];exact I,λz=>absurd rfl z}
def U9(n:Nat):dz (List.range n)=n:=by unfold dz;rw[Bb];refine Eq.trans (CS.mpr λi I=>?_) Bb;exact AA<|BY<|AM.mp I
def U_ :(jj ks lk ct).length<=lk.length+ct.length+2*ks.length:=by unfold jj;rw[Ab,Ab];have I:=fv ks<|zd false ks;have J:=dX (wo false) ks ks.length;lia
def GM(lk:XN):XS:=lk.flatMap λx=>[x.1,x.2]
def xq(a b:XN):GM (a++b)=GM a++GM b:=by unfold GM;rw[AV]
def aW(x:X2):GM [x]=[x.1,x.2]:=by simp[GM]
def aq(lk:XN):(GM lk).length=2*lk.length:=by
 induction lk with
 |nil=>rfl
 |cons x r I=>
  have:=xq [x] r;rw[Cp] at this;rw[this,Ab,I,aW,Av];simp;exact Er _ _
def zI{f:Yh->Bool}{k:Yh}(h:ks[p]?=some k)(I:f k=true)(hi:p<i):p∈ij f ks i:=by refine AF.mpr {AM.mpr hi,?_};simp only[h];exact I
def jf{c:X2}(h:c∈ct):c.1∈GM ct/\c.2∈GM ct:=by
 induction ct with
 |nil=>cases h
 |cons d r I=>
  have e:GM (d::r)=[d.1,d.2]++GM r:=by rw[<-aW,<-xq];rfl
  rw[e];rcases Ao.mp h with rfl|h
  .simp
  .obtain⟨a,b⟩:=I h;exact{Ae _ a,Ae _ b}
def bB{x:Nat}(h:x∈GM ct):∃c∈ct,x=c.1\/x=c.2:=by
 induction ct with
 |nil=>cases h
 |cons d r I=>
  have e:GM (d::r)=[d.1,d.2]++GM r:=by rw[<-aW,<-xq];rfl
  rw[e] at h;rcases Ag.mp h with h|h
  .exact{d,Ai ..,by simpa using h}
  .obtain⟨c,J,U⟩:=I h;exact{c,Ac _ J,U}
def dE(p th:Nat->Bool)(l:XS):l.countP p=l.countP (λx=>p x&&th x)+l.countP (λx=>p x&&!th x):=by
 induction l with
 |nil=>rfl
 |cons x r I=>
  rw[BA,BA,BA,I];cases th x<;>cases p x<;>simp<;>lia
def Va{th:Nat->Bool}(C:hs.length=n)(J:gu rk hs)(sep:∀a b,sj hs a b->a=b\/(th a=true/\th b=true))
 (all:∀a b,a<n->b<n->th a=true->th b=true->sj hs a b) {z:Nat} (hz:z<n) (T:th z=true):dz hs=(List.range n).countP (λx=>!th x)+1:=by
 unfold dz;rw[C,dE _ th,Er];congr 1
 .refine B7 λx U=>?_;have U:=AM.mp U;rw[AX,BO];refine{λh=>h.2,λh=>{?_,h}};obtain⟨r,t⟩:=J.SC (i:=x) (by lia);rcases sep x r ⟨r,t,.root t.top⟩ with e|⟨e,_⟩
  .rw[e];exact t.top
  .rw[e] at h;cases h
 .obtain⟨r,t⟩:=J.SC (i:=z) (by lia);have I:=t.top;have rl:=qz I;have g:=(sep z r {r,t,.root I}).elim (λe=>e▸T) λh=>h.2;have e:=bW (p:=λi=>decide (hs[i]?=some i)&&th i) (a:=r) (by rw[AA I,g];rfl) (l:=List.range n) Bw<|AM.mpr (by lia);rw[<-e];have zero:(List.range n).countP (λj=>(decide (hs[j]?=some j)&&th j)&&!decide (j=r))=0:=List.countP_eq_zero.mpr λj hj h=>by rw[AX,AX,BO] at h;obtain⟨⟨j1,j2⟩,o⟩:=h;obtain⟨s,p,q⟩:=all j r (AM.mp hj) (by lia) j2 g;have:=(p.YY j1).symm.trans<|q.YY I;rw[AA this] at o;cases o
  rw[zero]
def Kp(x:X2):Da:=.tup [.s<|.int (x.1:Int),.s<|.int (x.2:Int)]
theorem vR{L:qk}:∀l:XO,Paired (xh L 1) (qx l)<|l.map Kp
 |[]=>.nil
 |_::r=>.cons (eY<|.cons (EZ _)<|.cons (EZ _) .nil)<|vR r
def jd(c:X2)(r:XN):GM (c::r)=c.1::c.2::GM r:=by
 have e:GM (c::r)=[c.1,c.2]++GM r:=by rw[<-aW,<-xq];rfl
 rw[e];rfl
def k8{l m:XN}(h:l.Perm m):(GM l).Perm (GM m):=by
 induction h with
 |nil=>exact .nil
 |cons x _ I=>rw[jd,jd];exact(I.cons _).cons _
 |swap x y l=>
  rw[jd,jd,jd,jd];exact(Br (l₁:=[y.1,y.2]) (l₂:=[x.1,x.2])).append_right (GM l)
 |trans _ _ J U=>exact J.trans U
theorem wg:∀{l:XN},(GM l).Nodup->l.Nodup
 |[],_=>Dr
 |c::r,h=>by rw[jd] at h;have I:=AD.mp h;have J:=AD.mp I.2;exact AD.mpr {λU=>I.1<|Ac _ (jf U).1,wg J.2}
def zN{l:XN}(nd:l.Nodup){x y:X2}(U:x∈l)(g:y∈l)(ne:x≠y):l.Perm (x::y::l.filter λz=>decide (z≠x)&&decide (z≠y)):=by
 refine(Bg nd ?_).mpr λz=>?_
 .refine AD.mpr {λh=>?_,AD.mpr {λh=>?_,nd.filter _}}
  .rcases Ao.mp h with h|h
   .exact ne h
   .simp at h
  .simp at h
 .by_cases I:z=x
  .subst I;simp[U]
  .by_cases J:z=y
   .subst J;simp[g]
   .simp[I,J]
def xQ(a b:Nat):X2:=(min a b,max a b)
def Vb(a b:Nat)(r:XS):(min a b::max a b::r).Perm (a::b::r):=by
 by_cases c:a<=b
 .rw[BW c,Cn c]
 .rw[Cm (by lia),Cr (by lia)];exact List.Perm.swap ..
def Vc{l:XN}{x:X2}(h:l[i]?=some x):(qx l)[i]?=some (A_ x):=by rw[Aq,h];rfl
theorem cf:∀R:Ru,iL R+1<=(qu R).length
 |.link _ _=>Ap _
 |.ei r A=>by have:=cf A;show iL A+1+1<=(r::qu A).length;rw[Av];exact Fk
 |.bo r A B=>by have:=cf A;have:=cf B;show iL A+iL B+1+1<=(r::(qu A++qu B)).length;rw[Av,Ab];lia
 |.cu _ _ A B=>by have:=cf A;have:=cf B;show iL A+iL B+1+1<=(qu A++qu B).length;rw[Ab];lia
def Vd{ks:Yg}(ok:ef ks):xP (ks.map some):=by intro p e i j h;rw[Aq] at h;obtain⟨k,I,J⟩:=AE.mp h;cases J;exact ok p _ I
def o5(ks:Yg):xx (ks.map some)=kq ks:=by show(ks.map some).map eI=ks.map qH;rw[Ci];rfl
def bD(ks:List<|Yh)(p:Nat):Bool:=match ks[p]? with
 |some k=>df k
 |none=>false
def aA{k:Kn}(h:ks[p]?=some (some k)):bD ks p=true:=by unfold bD;rw[h];rfl
def v9(h:bD ks p=true):p<ks.length:=by
 unfold bD at h;split at h
 .rename_i k e;exact qz e
 .cases h
def Kq(ks:List<|Yh):(zc ks).length=(List.range ks.length).countP (bD ks):=by rw[Bj];rfl
def dU :bD ks p=true↔p∈zc ks:=by
 constructor
 .intro h;exact AF.mpr {AM.mpr<|v9 h,h}
 .intro h;exact(AF.mp h).2
def Ho(ks:List<|Yh)(ps:XN):Prop:=∀x∈ps,bD ks x.1=true/\bD ks x.2=true
structure CT(ks:List<|Yh)(ps:XN)(es:XS):Prop where
 Zo:Ho ks ps
 Zd:∀p∈es,∃e i j,ks[p]?=some (some<|Kn.nd e i j)/\bD ks i=true/\bD ks j=true
 one:∀R:Nat->Nat->Prop,(∀a,R a a)->(∀a b,R a b->R b a)->(∀a b c,R a b->R b c->R a c)->(∀x∈ps,R x.1 x.2)->
  (∀p∈es,∀e i j,ks[p]?=some (some<|Kn.nd e i j)->R i j->R p i)->∀a b,bD ks a=true->bD ks b=true->R a b
 ex:∃z,bD ks z=true
def Ve(ks:List<|Yh):xM λa b=>a=b\/(bD ks a=true/\bD ks b=true):={λa=>.inl rfl,λh=>h.elim (λe=>.inl e.symm) λh=>.inr {(h.2),h.1},λ{a b c} h k=>by
 rcases h with rfl|h
 .exact k
 .rcases k with rfl|k
  .exact .inr h
  .exact .inr {(h.1),k.2}}
def Vf(hs:XS):xM λa b=>a=b\/sj hs a b:={λa=>.inl rfl,λh=>h.elim (λe=>.inl e.symm) λ ψ=>(by obtain⟨r,p,q⟩:=ψ;exact .inr {(r),q,p}),λ{a b c} h k=>by
 rcases h with rfl|⟨r,p,q⟩
 .exact k
 .rcases k with rfl|⟨s,I,J⟩
  .exact .inr {(r),p,q}
  .exact .inr {r,p,by rw[q.uniq I];exact J}}
def wD(I:gu rk hs){a b:Nat}(J:a<hs.length)(h:a=b\/sj hs a b):sj hs a b:=by
 rcases h with rfl|h
 .obtain⟨r,t⟩:=I.SC J;exact{(r),t,t}
 .exact h
theorem CT.all{ps:XN}{es:XS}(H:CT ks ps es)(J:hs.length=ks.length)(U:gu rk hs)(h1:∀x∈ps,sj hs x.1 x.2)(h2:F7 ks hs es):∀a b,a<ks.length->b<ks.length->bD ks a=true->bD ks b=true->sj hs a b:=λa b o _ C tb=>by have E:=Vf hs;refine wD U (by rw[J];exact o)<|H.one (λa b=>a=b\/sj hs a b) E.r (λ_ _=>E.s) (λ_ _ _=>E.t) (λx T=>.inr<|h1 x T) (λp g e i j l h=>?_) a b C tb;obtain⟨e',i',j',I,hi,_⟩:=H.Zd p g;rw[l] at I;cases I;exact .inr (h2 p g e i j l (wD U (by rw[J];exact v9 hi) h))
theorem qZ{ks:List<|Yh}:∀{pl:XS},(∀p∈pl,∃e i j,ks[p]?=some (some<|Kn.nd e i j))->(jr ks pl).length=2*pl.length
 |[],_=>rfl
 |p::r,h=>by have J:=qZ (pl:=r) λq U=>h q<|Ac _ U;obtain⟨e,i,j,g⟩:=h p<|Ai ..;have I:=jY ks [p] r;rw[Cp] at I;rw[I,Ab,Av,jV g,J];show 2+2*r.length=2*(r.length+1);lia
def Vg{e:Bool}{pl:XS}(h:ks[p]?=some (some<|.nd e i j))(hp:p∈pl):(p,i)∈jr ks pl/\(p,j)∈jr ks pl:=by
 unfold jr;constructor<;>refine A5.mpr {p,hp,?_}<;>rw[h]
 .exact Ai ..
 .exact Ac _<|Ai ..
def rq{x:X2}{pl:XS}(h:x∈jr ks pl):∃e i j,ks[x.1]?=some (some<|.nd e i j)/\(x.2=i\/x.2=j):=by
 unfold jr at h;obtain⟨p,g,J⟩:=A5.mp h;split at J
 .rename_i k U;obtain⟨q,I,rfl⟩:=BE.mp J;cases k with
  |none=>cases I
  |some k=>
   cases k with
   |lf t n=>cases I
   |nd e i j=>
    have I:q∈[i,j]:=I;refine{e,i,j,U,?_};rcases Ao.mp I with rfl|I
    .exact .inl rfl
    .exact .inr<|Aj.mp I
 .cases J
def Vh{e:Bool}(h:p∈zd e ks):∃i j,ks[p]?=some (some<|.nd e i j):=by
 obtain⟨_,k,J,I⟩:=dk h;cases k with
 |none=>cases I
 |some k=>
  cases k with
  |lf t n=>cases I
  |nd U i j=>
   have:=of_decide_eq_true I;subst this;exact{(i),j,J}
def Kr{e:Bool}(h:ks[p]?=some (some<|.nd e i j)):p∈zd e ks:=zI h (AA rfl)<|qz h
theorem Ks{n:Nat}{ks:List<|Yh}:∀{es:XS} {ps:XN},Km n ps->(∀q∈es,F8 ks n q)->ps.length+es.length+1=n->(∀bs:XS,bs.length=es.length->(∀b∈bs,b=0\/b=1)->gA n ks (ps++xK ks es bs) [])->gA n ks ps es
 |[],ps,_,_,_,h=>by
  have:=h [] rfl λb g=>by cases g
  rwa[show xK ks [] []=[] from rfl,Aw] at this
 |p::r,ps,hw,hn,I,h=>by
  obtain⟨e,i,j,l,l1,l2,l3⟩:=hn p<|Ai ..;have J:=λq hq=>hn q<|Ac _ hq;rw[Av] at I;have one:∀b,b=0\/b=1->YZ ks p b<n->gA n ks (ps++[(p,YZ ks p b)]) r:=λb g hl=>by
   refine Ks (λx U=>?_) J (by rw[Ab,Ba];omega) λbs o t=>?_
   .rcases Ag.mp U with U|U
    .exact hw x U
    .rw[Aj.mp U];exact{(l1),hl}
   .have:=h (b::bs) (by rw[Av,Av,o]) λc I=>by
     rcases Ao.mp I with rfl|I
     .exact g
     .exact t c I
    rw[AC];exact this
  have C:=fK l 0;have T:=fK l 1;rw[Ay rfl] at C;rw[Au (by decide)] at T;have c0:=one 0 (.inl rfl) (by rw[C];exact l2);have c1:=one 1 (.inr rfl) (by rw[T];exact l3);rw[C] at c0;rw[T] at c1;exact U6 l hw J l2 (by omega) c0 c1
def Vi{z:Nat}{ps o:XN}{es:XS}{th:Nat->Bool}(hz:th z=true)(hg:∀x∈o,th x.1=false/\x.2=z)(U:∀x∈ps,th x.1=true/\th x.2=true)(l:∀p∈es,∀e i j,ks[p]?=some (some<|Kn.nd e i j)->th p=true/\th i=true/\th j=true)(C:gA n ks (ps++o) es):
 ∀R:Nat->Nat->Prop,(∀a,R a a)->(∀a b,R a b->R b a)->(∀a b c,R a b->R b c->R a c)->(∀x∈ps,R x.1 x.2)->(∀p∈es,∀e i j,ks[p]?=some (some<|Kn.nd e i j)->R i j->R p i)->∀a b,a<n->b<n->th a=true->th b=true->R a b:=λR r s t hp hf a b ha hb ta tb=>by
 let f:X0:=λx=>if th x=true then x else z
 have I:∀{x},th x=true->f x=x:=λh=>Ay h;have:=C (λx y=>R (f x)<|f y) (λ_=>r _) (λ_ _=>s _ _) (λ_ _ _=>t _ _ _) (λx J=>by
  rcases Ag.mp J with J|J
  .rw[I (U x J).1,I (U x J).2];exact hp x J
  .obtain⟨g1,g2⟩:=hg x J;have e1:f x.1=z:=Au (by rw[g1];exact AK);rw[e1,g2,I hz];exact r z) (λp g e i j T h=>by
  obtain⟨t1,t2,t3⟩:=l p g e i j T;rw[I t2,I t3] at h;rw[I t1,I t2];exact hf p g e i j T h) a b ha hb
 rw[I ta,I tb] at this;exact this
def Vj{z:Nat}{ps U:XN}{es:XS}{th:Nat->Bool}(hz:th z=true)(J:z<n)(l:∀a,a<n->th a=false->(a,z)∈U)
 (C:∀R:Nat->Nat->Prop,(∀a,R a a)->(∀a b,R a b->R b a)->(∀a b c,R a b->R b c->R a c)->(∀x∈ps,R x.1 x.2)->(∀p∈es,∀e i j,ks[p]?=some (some<|Kn.nd e i j)->R i j->R p i)->∀a b,a<n->b<n->th a=true->th b=true->R a b):gA n ks (ps++U) es:=λR r s t g o a b I T=>by
 have c:=C R r s t (λx hx=>g x<|Am _ hx) o;have one:=λa I=>by cases h:th a with|true=>exact c a z I J h hz|false=>exact g (a,z)<|Ae _<|l a I h
 exact t _ _ _ (one a I)<|s _ _<|one b T
def Vk{th:Nat->Bool}(g:hs.length=n)(I:gu rk hs)(sep:∀a b,sj hs a b->a=b\/(th a=true/\th b=true))
 (h:dz hs=(List.range n).countP (λx=>!th x)+1) {a b:Nat} (C:a<n) (T:b<n) (ta:th a=true) (tb:th b=true):sj hs a b:=by
 have gone:(List.range n).countP (λx=>decide (hs[x]?=some x)&&!th x)=(List.range n).countP λx=>!th x:=B7 λx U=>by
  have U:=AM.mp U;rw[AX,BO];refine{λh=>h.2,λh=>{?_,h}};obtain⟨r,t⟩:=I.SC (i:=x) (by omega);rcases sep x r ⟨r,t,.root t.top⟩ with e|⟨e,_⟩
  .rw[e];exact t.top
  .rw[e] at h;cases h
 unfold dz at h;rw[g,dE _ th,gone] at h;obtain⟨r,t⟩:=I.SC (i:=a) (by omega);obtain⟨s,u⟩:=I.SC (i:=b) (by omega);have J:=t.top;have st:=u.top;have o:=(sep a r {r,t,.root J}).elim (λe=>e▸ta) λh=>h.2;have ts:=(sep b s {s,u,.root st}).elim (λe=>e▸tb) λh=>h.2;have e:=bW (p:=λi=>decide (hs[i]?=some i)&&th i) (a:=r) (by rw[AA J,o];rfl) (l:=List.range n) Bw (AM.mpr (by have:=qz J;omega));have z:(List.range n).countP (λj=>(decide (hs[j]?=some j)&&th j)&&!decide (j=r))=0:=by omega
 by_cases c:s=r
 .exact{r,t,c▸u}
 .exact absurd (by rw[AA st,ts,AB c];rfl) (List.countP_eq_zero.mp z s (AM.mpr (by have:=qz st;omega)))
def EJ(ks:List<|Yh)(ps:XN)(es:XS):Prop:=∀R:Nat->Nat->Prop,(∀a,R a a)->(∀a b,R a b->R b a)->(∀a b c,R a b->R b c->R a c)->(∀x∈ps,R x.1 x.2)->
 (∀p∈es,∀e i j,ks[p]?=some (some<|Kn.nd e i j)->R i j->R p i)->∀a b,bD ks a=true->bD ks b=true->R a b
structure CI(ks:List<|Yh)(ps:XN)(es:XS):Prop where
 Zo:Ho ks ps
 Zd:∀p∈es,∃e i j,ks[p]?=some (some<|Kn.nd e i j)/\bD ks i=true/\bD ks j=true
 ex:∃z,bD ks z=true
def CI._I{ps:XN}{es:XS}(H:CI ks ps es):∀p∈es,F8 ks ks.length p:=λp J=>by obtain⟨e,i,j,I,U,g⟩:=H.Zd p J;exact{e,i,j,I,qz I,v9 U,v9 g}
inductive fW(C:Addr)(ys:_T)(L:qk)(Q:YK):Prop
 |mk:∀a j b,∀ks:List (Yh),∀ps:XO,∀es:XS,(ys=[.ref a,.ref j,.ref b])->(L a=some (.lst<|xx ks))->(L j=some (.lst<|qx ps))->(L b=some (.lst<|nY es))->(ks.length<=1000)->(ps.length<=10000)->(CI ks ps es)->(∀zs p,L p=none->(zs.length+1=(zc ks).length↔EJ ks ps es)->Q (.ref p) (qf L p<|.lst zs))->fW C ys L Q
theorem Vl :_f (fW C) (ye C (ie C) (f8 C)<|fV C) 4:=by
 rintro ys L Q ⟨a,j,b,J,ps,es,rfl,ha,hj,hb,hz,ab,H,q⟩;refine qb ha λx hx=>{x,J.length,_,rfl,by rw[Ah],q9,hz,λI o=>{rfl,?_}};have a0:=w6 q9 o;have U:=vj o;have g:(qf (qf (qf L x<|.ins C []) I<|.lst<|nY<|List.range J.length) x<|.ins C<|pC I) x=some (.ins C<|pC I):=q9;have r:(qf (qf (qf L x<|.ins C []) I<|.lst<|nY<|List.range J.length) x<|.ins C<|pC I) I=some (.lst<|nY<|List.range J.length):=(qc<|AJ a0).trans q9;have sub:qg L (qf (qf (qf L x<|.ins C []) I<|.lst<|nY<|List.range J.length) x<|.ins C<|pC I):=(((By hx).trans<|By o).upd hx);generalize qf (qf (qf L x<|.ins C []) I<|.lst<|nY<|List.range J.length) x (.ins C<|pC I)=L2 at g r sub;have ln:(List.range J.length).length=J.length:=Bb;refine{x,I,j,List.range J.length,ps,rfl,g,r,sub _ _ hj,w6 hj U,{_,U8 _},λy hy=>by rw[ln];exact{v9 (H.Zo y hy).1,v9 (H.Zo y hy).2},ab,λs1 t a1 n1 g1 z1 r1 m1=>?_};have l:=w6 r n1;refine{x,I,a,b,a1,J,es,rfl,(qc<|w6 g n1).trans<|(qc a0).trans g,(qc l).trans q9,(qc<|w6 (sub _ _ ha) n1).trans<|(qc<|w6 ha U).trans<|sub _ _ ha,(qc<|w6 (sub _ _ hb) n1).trans<|(qc<|w6 hb U).trans<|sub _ _ hb,w6 ha U,w6 hb U,g1.2,λp I=>by rw[g1.1,ln];exact H._I p I,by rw[g1.1,ln];exact hz,λs2 a2 a3 n2 g2 r2 m2=>?_};have e1:(qf (qf (qf (qf L2 I<|.lst<|nY a1) s1<|.lst t) I<|.lst<|nY a3) s2<|.lst a2) s1=some (.lst t):=(qc<|w6 q9 n2).trans<|(qc<|AJ l).trans q9;have l1:=Kk<|List.range J.length;rw[ln] at l1;have av:=UU;refine{_,_,e1,q9,by lia,λp4 ac=>?_};have al:=vj<|vj<|vj<|vj ac;have a4:=cr sub al;refine fC (L:=qf L p4<|.lst<|t++a2) (λy u e=>?_)<|q _ p4 a4 ?_
 rotate_left
 .obtain⟨l2,ax,k2⟩:=g2;have T:a3.length=J.length:=by rw[l2,g1.1,ln]
  rw[U9] at r1;rw[Ab,Kq];obtain⟨z,tz⟩:=H.ex;have F:=λR E I hf=>m2.1.2 R E hf<|m1.2.2 R E I<|yV E _;have sep:=F _ (Ve J) (λx hx=>.inr<|H.Zo x hx) λp I e i j ek _=>.inr {aA ek,by obtain⟨e',i',j',a5,hi,_⟩:=H.Zd p I;rw[ek] at a5;cases a5;exact hi};have yu:=dE (λ_=>true) (bD J)<|List.range J.length;rw[CS.mpr λ_ _=>rfl,Bb] at yu;simp only[C7] at yu;refine{λz R rf sy tr I hf a b ta tb=>F R {rf,λh=>sy _ _ h,λh k=>tr _ _ _ h k} I hf a b<|Vk T k2 sep (by lia) (v9 ta) (v9 tb) ta tb,λc=>?_};have rt:=Va T k2 sep (CT.all {(H.Zo),H.Zd,c,H.ex} T k2 (λx hx=>m2.1.1 _ _<|m1.2.1 x hx) m2.2) (v9 tz) tz;lia
 by_cases c:y=p4
 .subst c;rw[q9] at e ⊢;exact e
 .rw[qc c] at e;have e2:=sub _ _ e;have au:=vj<|vj n2;rw[qc c,qc<|w6 e2 au,qc<|w6 e U,qc<|w6 e2 n1,qc<|w6 e U];exact e2
inductive mS(ys:_T)(L:qk)(Q:YK):Prop
 |mk:∀a j b,∀ks:List (Yh),∀ps:XO,∀es:XS,(ys=[.ref a,.ref j,.ref b])->(L a=some (.lst<|xx ks))->(L j=some (.lst<|qx ps))->(L b=some (.lst<|nY es))->(ks.length<=1000)->(ps.length<=10000)->(CI ks ps es)->(∀r,(r=true↔ps.length+es.length+1=(zc ks).length/\EJ ks ps es)->Q (.bl r) L)->mS ys L Q
def Vm :_f mS (bJ eU<|fW C).1 4:=by rintro ys L Q ⟨a,j,b,J,o,p,rfl,r,t,T,hz,U,H,q⟩;refine{a,J,rfl,r,hz,λp1 g=>qb q9 ?_};have I:qg L (qf L p1<|.lst<|nY<|zc J):=By g;refine qb (I _ _ t)<|qb (I _ _ T) ?_;show aa (decide<|((qx o).length:Int)+((nY p).length:Int)=((nY<|zc J).length:Int)-1) _ _;rw[xn,xn,Ah];refine zp (λc=>?_) λc=>fC I<|q _ {(λz=>by cases z),λz=>absurd (by lia) c};refine{a,j,b,J,o,p,rfl,I _ _ r,I _ _ t,I _ _ T,hz,U,H,λzs p2 l hq=>qb q9 ?_};show gB Q (.bl<|decide<|(zs.length:Int)=((zc J).length:Int)-1) _;refine fC (I.trans<|By l) (q _ {λz=>{by lia,hq.mp (by have:=of_decide_eq_true z;lia)},λz=>AA ?_});have:=hq.mpr z.2;omega
structure Vn(L:qk)(a l c:Addr)(ks:List<|Yh)(lk ct:XN):Prop where
 ha:L a=some (.lst<|xx ks)
 hl:L l=some (.lst<|qx lk)
 hc:L c=some (.lst<|qx ct)
 z1:ks.length<=1000
 z2:lk.length<=1000
 z3:ct.length<=1000
 in_:CI ks (jj ks lk ct) (zd true ks)
def xL(ks:List<|Yh)(lk ct:XN):Prop:=(jj ks lk ct).length+(zd true ks).length+1=(zc ks).length/\EJ ks (jj ks lk ct) (zd true ks)
inductive cX(ys:_T)(L:qk)(Q:YK):Prop
 |mk:∀a l c ks lk ct,(ys=[aY a l c])->(Vn L a l c ks lk ct)->(∀r,(r=true↔xL ks lk ct)->Q (.bl r) L)->cX ys L Q
def Vo:_f cX (lW mS ip jC).1 1:=by rintro ys L Q ⟨a,l,c,ks,lk,ct,rfl,W,q⟩;refine{a,l,c,ks,lk,ct,rfl,W.ha,W.hl,W.hc,W.z1,W.z2,W.z3,λU J=>?_};have g:qg L (qf L U<|.lst<|qx<|jj ks lk ct):=By J;refine{a,l,c,ks,rfl,g _ _ W.ha,W.z1,λp I=>?_};have j:=g.trans<|By (o:=.lst<|nY<|zd true ks) I;have C:=U_ (ks:=ks) (lk:=lk) (ct:=ct);have:=W.z1;have:=W.z2;have:=W.z3;exact{a,U,p,ks,_,_,rfl,j _ _ W.ha,By I _ _ q9,q9,W.z1,by lia,W.in_,λr t=>fC j<|q r t}
def A'(ks:List<|Yh)(z:Nat):XO:=((List.range ks.length).filter λx=>!bD ks x).map λx=>(x,z)
def tN{z:Nat}{x:X2}(h:x∈A' ks z):x.1<ks.length/\bD ks x.1=false/\x.2=z:=by obtain⟨y,I,rfl⟩:=BE.mp h;obtain⟨J,U⟩:=AF.mp I;exact{AM.mp J,by simpa using U,rfl}
def Kt(ks:List<|Yh)(z:Nat):(A' ks z).length+(zc ks).length=ks.length:=by have yu:=dE (λ_=>true) (bD ks)<|List.range ks.length;rw[CS.mpr λ_ _=>rfl,Bb] at yu;simp only[C7] at yu;unfold A';rw[Ah,<-Bj,Kq];have e:(List.range ks.length).countP (λx=>bD ks x)=(List.range ks.length).countP (bD ks):=rfl;omega
def xE{ps qs:XN}{es:XS}(h:∀x∈ps,x∈qs)(c:gA n ks ps es):gA n ks qs es:=λR r s t I=>c R r s t λx J=>I x<|h x J
def CI.Zp{ps:XN}{es:XS}{z:Nat}(H:CI ks ps es)(U:bD ks z=true):EJ ks ps es↔gA ks.length ks (ps++A' ks z) es:=by
 constructor
 .intro c;exact Vj U (v9 U) (λa T J=>BE.mpr {a,AF.mpr {AM.mpr T,by rw[J];rfl},rfl}) λR r s t g l a b _ _=>c R r s t g l a b
 .intro c R r s t g l a b J tb;refine Vi U (λx hx=>(tN hx).2) H.Zo (λp o e i j C=>?_) c R r s t g l a b (v9 J) (v9 tb) J tb;obtain⟨e',i',j',I,h1,h2⟩:=H.Zd p o;rw[C] at I;cases I;exact{aA C,h1,h2}
def fZ{es bs:XS}(h:bs.length=es.length):(xK ks es bs).length=es.length:=by unfold xK;rw[List.length_zipWith,h,Nat.min_self]
theorem Ku{ks:List<|Yh}{ps:XN}:∀{es bs:XS},CI ks ps es->Ho ks (xK ks es bs)
 |[],_,_=>λx I=>by cases I
 |p::r,[],_=>λx I=>by cases I
 |p::r,b::bs,H=>λx I=>by
  rcases Ao.mp I with rfl|I
  .obtain⟨e,i,j,J,U,g⟩:=H.Zd p<|Ai ..;refine{aA J,?_};show bD ks (YZ ks p b)=true;rw[fK J];split
   .exact U
   .exact g
  .exact Ku (es:=r) {H.Zo,λp l=>H.Zd p<|Ac _ l,H.ex} x I
def CI.app{ps:XN}{es bs:XS}(H:CI ks ps es):CI ks (ps++xK ks es bs) []:={λx I=>(Ag.mp I).elim (H.Zo x)<|Ku H x,λp J=>(by cases J),H.ex}
def r9{ps:XN}{es:XS}(H:CI ks ps es):(ps.length+es.length+1=(zc ks).length/\EJ ks ps es)↔∀bs:XS,bs.length=es.length->(∀b∈bs,b=0\/b=1)->(ps++xK ks es bs).length+1=(zc ks).length/\EJ ks (ps++xK ks es bs) []:=by
 obtain⟨z,J⟩:=H.ex;have sw:∀(A B C:XN),∀x∈A++B++C,x∈A++C++B:=λA B C x I=>by
  rw[AC] at I ⊢;rcases Ag.mp I with h|h
  .exact Am _ h
  .exact Ae _<|Ag.mpr (Ag.mp h).symm
 constructor
 .rintro⟨c,C⟩ bs g U;refine{by rw[Ab,fZ g];exact c,?_};exact(H.app.Zp J).mpr (xE (sw _ _ _)<|wN g.symm<|(H.Zp J).mp C)
 .intro h;have c:ps.length+es.length+1=(zc ks).length:=by have:=(h (List.replicate es.length 0) BZ λb j=>.inl<|List.eq_of_mem_replicate j).1;rw[Ab,fZ BZ] at this;exact this
  refine{c,(H.Zp J).mpr<|Ks (λx I=>?_) H._I ?_ λbs g U=>xE (sw _ _ _)<|(H.app.Zp J).mp (h bs g U).2}
  .rcases Ag.mp I with I|I
   .exact{v9 (H.Zo x I).1,v9 (H.Zo x I).2}
   .obtain⟨l,_,o⟩:=tN I;exact{l,by rw[o];exact v9 J}
  .have:=Kt ks z;rw[Ab];omega
def pZ(n:Nat)(es:XN):Prop:=∀R:Nat->Nat->Prop,xM R->(∀x∈es,R x.1 x.2)->∀a b,a<n->b<n->R a b
def pZ.imp{es fs:XN}(h:pZ n es)(k:∀R,xM R->(∀x∈fs,R x.1 x.2)->∀x∈es,R x.1 x.2):pZ n fs:=λR E I=>h R E<|k R E I
def Vp(es:XN):xM λa b=>cK es id a=cK es id b:={λ_=>rfl,λh=>h.symm,λh k=>h.trans k}
def rg{x y u:Nat}{F:XN}(c:pZ n<|F++[(x,y),(x,u)])(l:x<n):∀a,a<n->cK F id a=cK F id x\/cK F id a=cK F id y\/cK F id a=cK F id u:=λa o=>by
 have E:=Vp F
 let M:Nat->Prop:=λa=>cK F id a=cK F id x\/cK F id a=cK F id y\/cK F id a=cK F id u
 have U:∀{a b},cK F id a=cK F id b->M b->M a:=λk m=>m.imp k.trans λm=>m.imp k.trans k.trans;have:=c (λa b=>cK F id a=cK F id b\/M a/\M b) {λ_=>.inl rfl,λh=>h.imp Eq.symm λh=>{(h.2),h.1},λ{a b d} h k=>by
  rcases h with h|⟨g,p⟩
  .rcases k with k|⟨j,J⟩
   .exact .inl (h.trans k)
   .exact .inr {U h j,J}
  .rcases k with k|⟨j,J⟩
   .exact .inr {g,U k.symm p}
   .exact .inr {(g),J}} (λz I=>by
  rcases Ag.mp I with I|I
  .exact .inl (mM F id z I)
  .rcases Ao.mp I with rfl|I
   .exact .inr {.inl rfl,.inr<|.inl rfl}
   .rw[Aj.mp I];exact .inr {.inl rfl,.inr<|.inr rfl}) a x o l
 rcases this with h|h
 .exact .inl h
 .exact h.1
theorem Vq{x y u v:Nat}{F:XN}(U:∀e∈F,e.1<n/\e.2<n)(cnt:F.length+3=n)(g:x<n)(o:v<n)(cu:pZ n<|F++[(x,y),(x,u)])(j:pZ n<|F++[(x,y),(x,v)]):pZ n (F++[(x,u),(y,v)]):=by
 have key:∀{w},pZ n (F++[(x,y),(x,w)])->cK F id w≠cK F id x/\cK F id w≠cK F id y:=λ{w} c=>by
  have t:=rg c g;constructor
  .intro e;have:=Hm (T:=[x,y]) U λa I=>by
    rcases t a I with h|h|h
    .exact{x,by simp,h}
    .exact{y,by simp,h}
    .exact{x,by simp,h.trans e}
   rw[Av,Ba] at this;omega
  .intro e;have:=Hm (T:=[x,y]) U λa I=>by
    rcases t a I with h|h|h
    .exact{x,by simp,h}
    .exact{y,by simp,h}
    .exact{y,by simp,h.trans e}
   rw[Av,Ba] at this;omega
 have t:=rg cu g;have p:cK F id v=cK F id u:=by
  rcases t v o with h|h|h
  .exact((key j).1 h).elim
  .exact((key j).2 h).elim
  .exact h
 intro R E h a b I C;have J:=nM E F (m:=id) (λx y (h:x=y)=>h▸E.r x) λe he=>h e<|Am _ he;have l:=h (x,u)<|Ae _ Ai;have yv:=h (y,v)<|Ae _<|Ac _ Ai;have one:∀a,a<n->R a x:=λa I=>by
  rcases t a I with h|h|h
  .exact J a x h
  .exact E.t (J a y h)<|E.t yv<|E.t (J v u p)<|E.s l
  .exact E.t (J a u h)<|E.s l
 exact E.t (one a I)<|E.s<|one b C
def zZ(g:ju)(I:ju)(J:ju)(U:ju)(l:ju):RD "_law_tree" lV 171 ["_law_cells","_law_seed","_law_room","_law_knots","_law_forest","_law_k","_law_cell","_law_one","_law_two","_law_deed","_law_at"] (λV=>G' V g/\Jv V I/\JA V J/\Jz V U/\JB V l):={_,λV B c _ _ _ _ _ _ _ o hN p=>(qa (S_ 3 hN<|jm wz)<|qa (S_ 4 hN<|jm wz)<|qa (w5 pK rfl (dJ rfl B.bg<|qv 0) (ag (n:=2) rfl<|ze (G_ 5 hN)<|ze (G_ 6 hN) km)<|qa (IT (i:=7) (j:=8) rfl hN rfl rfl (by decide) rfl rfl (ki (C_ c.1 o<|bq (qv 6) (qv 5) qe)<|C_ c.1 o<|bq (qv 6) (qv 5) qe) rfl)<|qa (zr (jv zM (ql ja (ql ja (L_ B.ba<|qv 3)<|L_ B.ba<|qv 4) qe) (qv 2)<|jt _) (qd vT) qw)<|qa (S_ 9 hN<|ql js (qv 7) qe)<|qa (S_ 7 hN<|ql wm (qv 7) qe)<|qd<|zr (bK<|rR (jv vQ (qv 9) qe<|jt _)<|oE<|E_ p (qv 4)<|jm wz) (qa (zf<|za (qv 3)<|jy<|zj<|ki jk<|C_ c.2.1 o<|ki (qv 1)<|ql js (qv 8) qe)<|qa (zf<|za (qv 3)<|jy<|zj<|ki jk<|C_ c.2.1 o<|ki (qv 1)<|ql js (qv 8) qe)<|ke (zr (E_ p (ql js (qv 7) qe) qe) (qd<|zf<|za (qv 3)<|jy<|cL (qv 3)<|jy<|ql cD (L_ B.ba<|qv 3) qe) qw)<|qa (S_ 10 hN<|ql cD (L_ B.ba<|qv 3) qe)<|qd<|zf<|za (qv 4)<|jy<|jm<|ki (zj<|bq jk (qv 10)<|ql ja (qv 10) qe)<|jm<|ki (qv 10)<|ql ja (qv 10) qe)<|qd<|zr (jv vQ (qv 9) qe<|jt _) (qd<|zf<|C_ c.2.2.1 o<|vg (qv 3)<|bq (I_ (qv 4)<|ql js (qv 8)<|L_ B.ba<|qv 4) (qv 7)<|ql wm (qv 8) qe)<|qd<|zr (bK<|bn (jv vQ (qv 9) qe<|jt _)<|aS<|jv zM (L_ B.ba<|qv 4) qe<|jt _) (qd<|zf<|C_ c.2.2.2.1 o<|vg (qv 3)<|bq (qv 4) (qv 7)<|qv 8)<|qd<|zf<|C_ c.2.2.2.2 o<|vg (qv 3)<|bq (qv 4) (qv 7)<|qv 8)<|ke (zr (E_ p (qv 4)<|jm wz) (qa (zf<|za (qv 3)<|jy<|zj<|ki jk<|C_ c.2.1 o<|ki (qv 1) qe)<|qa (zf<|za (qv 3)<|jy<|zj<|ki jk<|C_ c.2.1 o<|ki (qv 1) qe)<|qd<|zf<|za (qv 4)<|jy<|jm<|ki (zj<|bq jk qe qe)<|jm<|ki qe qe) qw)<|qa (eO pK (jv zM (L_ B.ba<|qv 4) qe<|jt _)<|qd<|zf<|C_ c.2.2.2.1 o<|vg (qv 3)<|bq (qv 4) (ql ja (ql wm (qv 1) qe)<|L_ B.ba<|qv 4)<|ql wm (qv 1) qe)<|qd<|qr<|zj<|ki (qv 3)<|I_ (J_ 4) qe)}
inductive i8(ys:_T)(L:qk)(Q:YK):Prop
 |mk:∀cy,∀ns:XX,∀s:Int,∀room:Nat,(ys=[.ref cy,.int s,.int (room:Int)])->(L cy=some (.lst<|ns.map Y.int))->(ns.length<=1000)->(room<=96)->(∀ka ks R E,L ka=none->ef ks->SR ks R E->(qu R).Perm (List.range ks.length)->ks.length<=max room 2->Q (.tup [.ref ka,j8 R]) (qf L ka<|.lst<|kq ks))->i8 ys L Q
theorem Vr:_f i8 (zZ eM iA iD nL nJ).1 11:=by
 rintro ys L Q ⟨cy,ns,s,room,rfl,ac,bb,aL,q⟩;have big:=a_;have J:∀fo:Yi,(zx fo).length=fo.length:=λfo=>Ah ..;have C:∀I:Yg,(kq I).length=I.length:=λI=>Ah ..;intro U ab g al;have Zt:=w6 q9 al;have av:=(By ab).none al;have F0:ph L (qf (qf L U<|.lst []) g<|.lst []) U g [] []:=by
  refine{{by rw[qc Zt];exact q9,λt ht=>by simp at ht,λt ht=>by simp at ht,by simp,by simp,by simp[Zt],λp k e=>by simp at e,(By ab).trans<|By al,λx hx=>?_},q9};rcases Ao.mp hx with rfl|hx
  .exact ab
  .rw[Aj.mp hx];exact av
 generalize qf (qf L U<|.lst []) g (.lst [])=L1 at F0;refine xl (F0.b.sub _ _ ac) λkeep kp=>w9 {λ_ τ L'=>TW L U g s room τ L',?_,?_,?_,?_}
 .exact TW.of F0<|Bf _
 .rintro i τ L' ⟨T,c5,c6,c7,c8,c9,l,I,fo,rfl,F,hb⟩;exact kp L' (by rw[F.b.sub _ _ ac,F0.b.sub _ _ ac])
 .rintro i y τ L' ey ⟨T,c5,c6,c7,c8,c9,l,I,fo,rfl,F,hb⟩;obtain⟨z,ez,rfl⟩:=cg ey;obtain⟨cell,ec,rfl⟩:∃cell:Int,ns[i]?=some cell/\z=Y.int cell:=by rw[Aq] at ez;obtain⟨z,e1,e2⟩:=AE.mp ez;exact{(z),e1,e2.symm}
  have hi:=(AN.mp ec).1;refine{cell,((i:Nat):Int),48271,rfl,by exact A4 _,by omega,by decide,by decide,λone h1 bc=>{cell,((i:Nat):Int),69621,rfl,by exact A4 _,by omega,by decide,by decide,λtwo h2 bd=>?_}};refine qb F.b.hk<|qb F.hf ?_;refine zp (λc=>?_) λc=>?_
  .exact{_,EL _,TW.of F hb}
  have c:¬((((kq I).length:Nat):Int)+(((zx fo).length:Nat):Int)+12 > (room:Int)):=c;rw[C,J] at c;refine{(by decide:(0:Int)<9),{by decide,by decide},?_};refine zp (λc3=>?_) λc3=>?_
  case' refine_1=>
   obtain⟨L2,ax⟩:∃L2,L2=L':={_,rfl};rw[<-ax];have F':ph L L2 U g I fo:=by rw[ax];exact F
  case' refine_2=>
   intro p hp;refine iw (by decide) (By hp _ _ F.hf) q9 ((F.b.mono<|By hp)._H (by lia)) (.nil:Paired (xh _ 0) _ []) ?_;show aa (Da.eqs (fo.map gC) []) _ _;rw[Kj];have F':ph L (qf L' p<|.lst []) U g I fo:=F.mono<|By hp;generalize qf L' p (.lst [])=L2 at F';refine zp (λT=>?_) λT=>?_
  case' refine_2.refine_2=>
   have ba:0<fo.length:=by cases fo with|nil=>exact absurd rfl T|cons _ _=>simp
   have F:=F';refine zp (λc6=>?_) λc6=>?_
   .obtain⟨j,t,ej,lj,et⟩:=sI ba two;refine qb F.hf {(by show(0:Int)<((zx fo).length:Int);rw[J];lia),qb F.hf (qj (v:=.ref t.a) (by show dZ (zx fo) (two % ((zx fo).length:Int))=_;rw[J,ej];exact jo (by unfold zx;rw[Aq,et];rfl)) ?_)};obtain⟨pre,post,ep⟩:=Dd<|Ar et;rw[ep] at F hb;refine{{by decide,by decide},L,U,g,I,pre,post,t,one / 9,two / 64,rfl,F,by lia,λL3 a0 a1 F3 h1 h2 _=>?_};refine{_,EL _,?_};exact TW.of F3 (by rw[ep] at c;lia)
   refine zp (λc8=>?_) λc8=>?_
   .refine qb F.hf ?_;refine zp (λc1=>?_) λc1=>?_
    .have c1:(((zx fo).length:Nat):Int) > 1:=c1;rw[J] at c1;refine{L,U,g,I,fo,one / 9,two,rfl,F,by lia,by lia,by lia,λL3 a0 a1 F3 h1 h2 _=>?_};refine{_,EL _,?_};exact TW.of F3 (by lia)
    .refine{L,U,g,I,fo,one / 9,two,rfl,F,by assumption,by lia,by lia,λL3 a0 a1 F3 h1 h2 h3=>?_};refine{_,EL _,?_};exact TW.of F3 (by lia)
   .refine{L,U,g,I,fo,one / 9,two,rfl,F,by lia,by lia,by lia,λL3 a0 a1 F3 h1 h2 h3=>?_};refine{_,EL _,?_};exact TW.of F3 (by lia)
  all_goals
   obtain⟨nm,a2⟩:∃nm,nm=s_ (aj s<|two % 3):={_,rfl};have au:eJ nm:=by rw[a2];exact um _ _
   refine qb F'.b.hk {(by decide:(0:Int)<3),s,two % 3,rfl,qp F'.b.hk {big _ (by rw[C];omega),?_}};refine qb q9 {(by decide:(0:Int)<3),s,two % 3,rfl,qp q9 {big _ (by rw[Ab,C];simp;omega),?_}};rw[<-a2,zh];have e1:(kq I++[.tup [.str "plain",.str nm]])++[.tup [.str "turned",.str nm]]=kq (I++[.lf false nm,.lf true nm]):=by unfold kq;rw[AI,AC];rfl
   rw[e1];refine{λτ L3=>∃(b:Bool) (d0 _y:Option Y),τ=[d0,some<|.int s,some<|.int (room:Int),some<|.ref U,some<|.ref g,some<|.int ((i:Nat):Int),some<|.int cell,some<|.int<|one / 9,some<|.int two,some<|.int<|one % 9,_y]/\L3=qf L2 U (.lst<|kq<|I++[.lf b nm,.lf (!b) nm]),?_,?_}
   .refine{(by decide:(0:Int)<2),?_};show aa (decide<|one / 9 % 2=1) _ _;refine zp (λc2=>?_) λc2=>?_
    .obtain⟨W,eW⟩:∃W,W=kq (I++[Kn.lf false nm,.lf true nm]):={_,rfl};have l2:W.length=I.length+2:=by rw[eW,C,Ab];rfl
     have t2:(((W.length:Nat):Int)-2).toNat=I.length:=by rw[l2];omega
     have w2:W[I.length]?=some (qH<|.lf false nm):=by rw[eW];unfold kq;rw[Aq,fJ];rfl
     have e3:W.eraseIdx I.length++[qH<|.lf false nm]=kq (I++[.lf true nm,.lf false nm]):=by rw[eW];unfold kq;rw[AI,List.eraseIdx_append_of_length_le (by simp),Ah,DN,AI,AC];rfl
     rw[<-eW];refine qb q9<|qb q9<|qb q9<|qp q9 {?_,?_,qj (v:=qH<|.lf false nm) (by rw[<-w2,<-t2]) ?_}
     .show(0:Int)<=((W.length:Nat):Int)-2;omega
     .show((W.length:Nat):Int)-2<_;omega
     .rw[zh,t2];refine qp q9 {big _<|AS (Df ..) (by omega),true,_,_,rfl,?_};rw[zh,e3];rfl
    .exact{false,_,_,rfl,rfl}
   .rintro be L3 ⟨b,d0,_y,rfl,rfl⟩;have l2:(kq<|I++[Kn.lf b nm,.lf (!b) nm]).length=I.length+2:=by rw[C,Ab];rfl
    have nn:(((kq<|I++[Kn.lf b nm,.lf (!b) nm]).length:Nat):Int)-2=((I.length:Nat):Int):=by rw[l2];omega
    have a3:qf L2 U (.lst<|kq<|I++[.lf b nm,.lf (!b) nm]) g=some (.lst<|zx fo):=by rw[qc<|AJ Zt];exact F'.hf
    have en:∀z:Int,z=((I.length:Nat):Int)->jh [I.length,I.length+1]=[.int z,.int<|z+1]:=λz e=>by rw[e];rfl
    have er:∀z:Int,z=((I.length:Nat):Int)->j8 (.link I.length<|I.length+1)=.tup [.str "link",.int z,.int<|z+1]:=λz e=>by rw[e];rfl
    have en:=en _ nn;have er:=er _ nn;refine qb q9<|qb a3 λpb a4 pa a5=>?_;have H:=F'.link au b (pb:=pb) (pa:=pa) a4 (by rw[en];exact a5) rfl;refine qp (((By a4).trans<|By a5) _ _ a3) {big _ (by rw[J];omega),?_};rw[en,er] at H;refine{_,EL _,?_};exact TW.of H (by rw[Ab,Ab];simp;omega)
 .rintro τ L' ⟨T,c5,c6,c7,c8,c9,l,I,fo,rfl,F,hb⟩;refine{λτ L3=>∃T c5 c6 c7 c8 c9 l I fo,τ=[T,some<|.int s,some<|.int (room:Int),some<|.ref U,some<|.ref g,c5,c6,c7,c8,c9,l]/\ph L L3 U g I fo/\1<=fo.length/\I.length+fo.length<=max room 3,?_,?_}
  .intro p hp;refine iw (by decide) (By hp _ _ F.hf) q9 ((F.b.mono<|By hp)._H (by lia)) (.nil:Paired (xh _ 0) _ []) ?_;show aa (Da.eqs (fo.map gC) []) _ _;rw[Kj];have F':ph L (qf L' p<|.lst []) U g I fo:=F.mono<|By hp;generalize qf L' p (.lst [])=L2 at F';refine zp (λT=>?_) λT=>?_
   .subst T;have k0:I=[]:=by cases I with|nil=>rfl|cons k r=>exact absurd ((F.b.tm 0).mpr (by simp)) (by simp)
    subst k0;obtain⟨nm,a2⟩:∃nm,nm=s_ (aj s 0):={_,rfl};have au:eJ nm:=by rw[a2];exact um _ _
    refine qb F'.b.hk {s,0,rfl,qp F'.b.hk {big _ (by decide),?_}};refine qb q9 {s,0,rfl,qp q9 {big _ (by show 1<=20000;decide),?_}};rw[<-a2,zh];have a3:∀o,qf L2 U o g=some (.lst<|zx []):=λo=>by rw[qc<|AJ Zt];exact F'.hf
    refine qb (a3 _) λpb a4 pa a5=>?_;have H:=F'.link au true (pb:=pb) (pa:=pa) a4 a5 rfl;refine qp (((By a4).trans<|By a5) _ _<|a3 _) {big _ (by show 0<=20000;decide),?_};exact{_,_,_,_,_,_,_,_,_,rfl,H,by simp,by simp;lia}
   .exact{_,_,_,_,_,_,_,I,fo,rfl,F',(by cases fo with|nil=>exact absurd rfl T|cons _ _=>simp),by lia}
  .rintro τ L' ⟨T,c5,c6,c7,c8,c9,l,I,fo,rfl,F,h1,hb⟩;refine{λm τ L3=>∃T c5 c6 c7 c8 c9 l I fo,τ=[T,some<|.int s,some<|.int (room:Int),some<|.ref U,some<|.ref g,c5,c6,c7,c8,c9,l]/\ph L L3 U g I fo/\1<=fo.length/\fo.length=m/\I.length+fo.length<=max room 3,{_,_,_,_,_,_,_,_,_,_,rfl,F,h1,rfl,hb},?_};rintro m τ L' ⟨T,c5,c6,c7,c8,c9,l,I,fo,rfl,F,h1,hm,hb⟩;refine qb F.hf ?_;refine zp (λc1=>?_) λc1=>?_
   .have c1:(((zx fo).length:Nat):Int) > 1:=c1;rw[J] at c1;refine{λτ L3=>∃T c5 c6 c7 c8 c9 l I fo,τ=[T,some<|.int s,some<|.int (room:Int),some<|.ref U,some<|.ref g,c5,c6,c7,c8,c9,l]/\ph L L3 U g I fo/\1<=fo.length/\fo.length+1=m/\I.length+fo.length<=max room 3,?_,?_}
    .rintro τ L3 ⟨d0,d5,d6,d7,d8,d9,_y,a0,a1,rfl,F3,g1,g2,g3⟩;exact{m-1,by lia,_,_,_,_,_,_,_,_,_,rfl,F3,g1,by lia,g3}
    .refine{{by decide,by decide},qb F.hf {{by decide,by decide},L,U,g,I,fo,_,_,rfl,F,by lia,by lia,by lia,λL3 a0 a1 F3 g1 g2 _=>?_}};exact{_,EL _,_,_,_,_,_,_,_,a0,a1,rfl,F3,by lia,by lia,by lia}
   .have c1:¬((((zx fo).length:Nat):Int) > 1):=c1;rw[J] at c1;obtain⟨t,rfl⟩:∃t,fo=[t]:=by
     match fo,h1,c1 with
     |[t],_,_=>exact{(t),rfl}
     |t::u::r,_,c=>exact absurd (show(((t::u::r).length:Nat):Int) > 1 by simp;lia) c
    have ta:=(F.b.ht t<|Ai ..).1;refine qb F.hf<|qb ta ?_;have tp:(qu t.R).Perm (List.range I.length):=by have nd:=F.b.nd;have tm:=F.b.tm;simp at nd tm;exact(Bg nd Bw).mpr λx=>by rw[tm,AM]
    exact fC (qg.put F.b.sub F.b.hk) (q U I t.R t.E ab F.b.ok (F.b.sr t<|Ai ..) tp (by simp at hb;lia))
def KW.lf{n:Str}(h:wd[p]?=some (some<|.lf t n)):KW (xx wd) p (.leaf t n):=by show(xx wd)[p]?=_;rw[Aq,h];rfl
def KW.nd{e:Bool}{l r:Wd}(h:wd[p]?=some (some<|.nd e i j))(I:KW (xx wd) i l)(J:KW (xx wd) j r):KW (xx wd) p (.node e l r):=
 ⟨i,j,by rw[Aq,h];rfl,I,J⟩
def Vs{k:Kn}{n:Str}(h:qH k=.tup [.str<|kL t,.str n]):k=.lf t n:=by
 cases k with
 |lf u m=>
  have I:kL u=kL t:=by injection h with h;injection h with h _;injection h
  have J:m=n:=by injection h with h;injection h with _ h;injection h with h _;injection h
  subst J;cases u<;>cases t<;>first|rfl|(exfalso;revert I;decide)
 |nd e i j=>injection h with h;injection h with _ h;injection h with _ h;cases h
def Vt{k:Kn}{e:Bool}(h:qH k=.tup [.str<|kN e,.int (i:Int),.int (j:Int)]):k=.nd e i j:=by
 cases k with
 |lf u m=>injection h with h;injection h with _ h;injection h with _ h;cases h
 |nd b U g=>
  have l:kN b=kN e:=by injection h with h;injection h with h _;injection h
  have I:((U:Nat):Int)=i:=by injection h with h;injection h with _ h;injection h with h _;injection h
  have J:((g:Nat):Int)=j:=by injection h with h;injection h with _ h;injection h with _ h;injection h with h _;injection h
  have I:=Ck.mp I;have J:=Ck.mp J;subst I J;cases b<;>cases e<;>first|rfl|(exfalso;revert l;decide)
def Kv(h:(xx wd)[p]?=some y):∃o,wd[p]?=some o/\eI o=y:=by rw[Aq] at h;obtain⟨o,a,b⟩:=AE.mp h;exact{(o),a,b}
def KW.Pv{n:Str}(h:KW (xx wd) p<|.leaf t n):wd[p]?=some (some<|.lf t n):=by
 obtain⟨o,a,b⟩:=Kv<|show(xx wd)[p]?=some (.tup [.str<|kL t,.str n]) from h;cases o with
 |none=>cases b
 |some k=>rw[a,Vs b]
def KW.On{e:Bool}{l r:Wd}(h:KW (xx wd) p<|.node e l r):∃i j,wd[p]?=some (some<|.nd e i j)/\KW (xx wd) i l/\KW (xx wd) j r:=by
 obtain⟨i,j,I,J,U⟩:=h;obtain⟨o,a,b⟩:=Kv I;cases o with
 |none=>cases b
 |some k=>exact{i,j,by rw[a,Vt b],J,U}
def qO(wd:List<|Yh):Prop:=∀(p:Nat) (e:Bool) (i j:Nat),wd[p]?=some (some<|.nd e i j)->(∃k,wd[i]?=some (some k))/\∃k,wd[j]?=some (some k)
theorem Z9.word{f:X0}{fm:List<|Yh}(r:Z9 f fm wd):∀{w:Wd} {p:Nat},KW (xx fm) p w->KW (xx wd) (f p) w
 |.leaf t n,p,h=>by have e:=h.Pv;exact KW.lf<|r.gap.at_ p (AM.mpr<|qz e) _ e
 |.node b l rr,p,h=>by obtain⟨i,j,e,I,J⟩:=h.On;exact KW.nd (r.gap.at_ p (AM.mpr<|qz e) _ e) (r.word I)<|r.word J
def SR.cutw{ks:Yg}{E:XS}(h:SR ks R E):∀c∈zy R,∃w,du ks c.1 w/\du ks c.2 w.turn:=by
 induction h with
 |link _ _ _ _ _=>intro c g;cases g
 |ei _ _ _ _ _ _ _ j=>exact j
 |bo _ _ _ _ _ _ _ I J=>intro x U;exact(Ag.mp U).elim (I x) (J x)
 |@cu p q A B r t E w C T h3 h4 l o h7 h8 I J=>
  intro x U;rcases Ao.mp U with rfl|U
  .exact{(w),l,o}
  .exact(Ag.mp U).elim (I x) (J x)
def lC:RD "_law_copy" lK 0 ["_law_web_here"] (λ_=>True):={_,λV B c _ _ _ _ _ _ _ I hN J=>(qd<|qr<|zj<|bq (am bY rfl B.bb wc<|jy<|J_ 0) (am bY rfl B.bb wc<|jy<|J_ 0)<|am bY rfl B.bb wc<|jy<|J_ 0)}
def xj(wd:List<|Yh):XS:=wd.flatMap zm
def oz(wd:List<|Yh)(k:Yh):xj (wd++[k])=xj wd++zm k:=by unfold xj;rw[AV,Bc,CH,Aw]
def yO(k:Yh):(zm k).length<=2:=by cases k with|none=>exact Bf _|some k=>cases k with|lf t n=>exact Bf _|nd e i j=>exact Ap _
def qV(wd:List<|Yh):(xj wd).length<=2*wd.length:=by
 induction wd with
 |nil=>exact Ap _
 |cons k r I=>
  have e:xj (k::r)=zm k++xj r:=Bc ..;have:=yO k;rw[e,Ab,Av];lia
def cG(wd:List<|Yh)(p:Nat):Bool:=match wd[p]? with
 |some (some _)=>true
 |_=>false
def l9(wd:List<|Yh)(us:XS)(p:Nat):Bool:=cG wd p&&!(decide<|p∈us)
def wy(wd:List<|Yh)(us:XS)(i:Nat):XS:=(List.range i).filter<|l9 wd us
def pO(wd:List<|Yh)(us:XS)(i:Nat):wy wd us (i+1)=wy wd us i++if l9 wd us i=true then [i] else []:=by unfold wy;rw[CP,BC];congr 1;rw[B5,Ce]
def kj(wd:List<|Yh)(ct:XN):XS:=xj wd++GM ct
inductive hU(ys:_T)(L:qk)(Q:YK):Prop
 |mk:∀a l c,∀xs zs us:_T,(ys=[aY a l c])->(L a=some (.lst xs))->(L l=some (.lst zs))->(L c=some (.lst us))->(∀a' l' c' L',qg L L'->L a'=none->L l'=none->L c'=none->a'≠l'->a'≠c'->l'≠c'->L' a'=some (.lst xs)->L' l'=some (.lst zs)->L' c'=some (.lst us)->Q (aY a' l' c') L')->hU ys L Q
def Vu:_f hU lC.1 1:=by rintro ys L Q ⟨a,l,c,C,T,us,rfl,ha,hl,hc,q⟩;refine qb ha λp1 t=>?_;have j:=By (o:=.lst C) t;refine qb (j _ _ hl) λp2 p=>?_;have r:=j.trans<|By (o:=.lst T) p;refine qb (r _ _ hc) λp3 g=>?_;have I:=w6 q9 p;have J:=w6 q9 g;have U:=w6 ((qc I).trans q9) g;exact xg<|q p1 p2 p3 _ (r.trans<|By g) t (j.none p) (r.none g) I U J ((qc U).trans<|(qc I).trans q9) ((qc J).trans q9) q9
structure kU(wd:List<|Yh):Prop where
 ne:∀(p:Nat) (e:Bool) (i j:Nat),wd[p]?=some (some<|.nd e i j)->i≠j
 un:∀(p q:Nat) (k l:Kn) (x:Nat),wd[p]?=some (some k)->wd[q]?=some (some l)->x∈zm (some k)->x∈zm (some l)->p=q
def cW{x:Nat}(h:x∈xj wd):∃(p:Nat) (k:Kn),wd[p]?=some (some k)/\x∈zm (some k):=by
 obtain⟨o,J,I⟩:=A5.mp h;obtain⟨p,e⟩:=DA J;cases o with
 |none=>cases I
 |some k=>exact{(p),k,e,I}
def kB{x:Nat}{k:Kn}(h:wd[p]?=some (some k))(I:x∈zm (some k)):x∈xj wd:=A5.mpr {_,Ar h,I}
theorem rh{f:X0}:∀{l:XS},l.Nodup->(∀a∈l,∀b∈l,f a=f b->a=b)->(l.map f).Nodup
 |[],_,_=>Dr
 |a::r,h,g=>by obtain⟨J,U⟩:=AD.mp h;rw[AQ,AD];refine{λz=>?_,rh U λx j y o=>g x (Ac _ j) y<|Ac _ o};obtain⟨b,I,e⟩:=BE.mp z;exact J<|g b (Ac _ I) a (Ai ..) e▸I
def gy(f:X0):Ru->Ru
 |.link p q=>.link (min (f p)<|f q)<|max (f p)<|f q
 |.ei r A=>.ei (f r)<|gy f A
 |.bo r A B=>.bo (f r) (gy f A)<|gy f B
 |.cu p q A B=>.cu (f p) (f q) (gy f A)<|gy f B
theorem fg(f:X0):∀R:Ru,(qu<|gy f R).Perm<|(qu R).map f
 |.link p q=>by
  show [min (f p)<|f q,max (f p)<|f q].Perm [f p,f q];by_cases h:f p<=f q
  .rw[BW h,Cn h]
  .rw[Cm (by lia),Cr (by lia)];exact List.Perm.swap _ _ _
 |.ei r A=>(fg f A).cons _
 |.bo r A B=>by show(f r::(qu (gy f A)++qu (gy f B))).Perm (f r::(qu A++qu B).map f);rw[AI];exact((fg f A).append<|fg f B).cons _
 |.cu p q A B=>by show(qu (gy f A)++qu (gy f B)).Perm ((qu A++qu B).map f);rw[AI];exact(fg f A).append (fg f B)
def e9:Ru->List Ru
 |.link p q=>[.link p q]
 |.ei r A=>.ei r A::e9 A
 |.bo r A B=>.bo r A B::(e9 A++e9 B)
 |.cu p q A B=>.cu p q A B::(e9 A++e9 B)
def uV(A:Ru):e9 A=A::(aQ A).flatMap e9:=by cases A<;>simp[e9,aQ]
section
open PySem.W
section
variable {w:X7}
end
end
def Vv(l:XS):nY l=(l.map λn:Nat=>(n:Int)).map Y.int:=by unfold nY;rw[Ci];rfl
theorem qR{L:qk}:∀xs:XX,Paired (xh L 0) (xs.map Y.int)<|xs.map λx=>Da.s<|.int x
 |[]=>.nil
 |_::r=>.cons {(rfl),rfl}<|qR r
def Vw(l:XS):Da.eqs ((l.map λn:Nat=>(n:Int)).map λx=>Da.s<|.int x) ((l.map λn:Nat=>(n:Int)).map λx=>Da.s<|.int x)=true:=by rw[Ci];exact(nI l l).mpr rfl
def oS(f:Yh->Bool)(wd:List<|Yh)(n:Nat):(ij f wd n).Pairwise λa b=>a<b:=by exact DB _ List.pairwise_lt_range
def KW.ex{w:Wd}(h:KW (xx wd) p w):∃k,wd[p]?=some (some k):=by cases w with|leaf t n=>exact{_,h.Pv}|node e l r=>obtain⟨i,j,a,_⟩:=h.On;exact{_,a}
section
variable {ks:Yg}{E:XS}
def SR.rls(h:SR ks R E):∀B∈e9 R,(∃EB,SR ks B EB)/\(∀x∈qu B,x∈qu R)/\(qu B).Sublist (qu R)/\vo B<=vo R/\(∀c∈zy B,c∈zy R):=by
 induction h with
 |link t h2 T U g=>
  intro B J;cases Aj.mp J;exact{{_,.link t h2 T U g},λ_ h=>h,Dt _,Ap _,λ_ h=>h}
 |@ei r i j A EA E t hA T U g h6 h7 ih=>
  intro B J;rcases Ao.mp J with rfl|J
  .exact{{_,.ei t hA T U g h6 h7},λ_ h=>h,Dt _,Ap _,λ_ h=>h}
  .obtain⟨a,b,c,d,e⟩:=ih B J;exact{a,λx h=>Ac _<|b x h,c.cons _,Cc d,e}
 |@bo r i j A B EA EB E t hA J U g h6 h7 l o=>
  intro C I;rcases Ao.mp I with rfl|I
  .exact{{_,.bo t hA J U g h6 h7},λ_ h=>h,Dt _,Ap _,λ_ h=>h}
  .rcases Ag.mp I with I|I
   .obtain⟨a,b,c,d,e⟩:=l C I;exact{a,λx h=>Ac _<|Am _<|b x h,(c.trans<|Eh ..).cons _,by show _<=max (vo A) (vo B)+1;lia,λx h=>Am _<|e x h}
   .obtain⟨a,b,c,d,e⟩:=o C I;exact{a,λx h=>Ac _<|Ae _<|b x h,(c.trans<|C4 ..).cons _,by show _<=max (vo A) (vo B)+1;lia,λx h=>Ae _<|e x h}
 |@cu p q A B EA EB E w hA J T U g h6 h7 h8 l o=>
  intro C I;rcases Ao.mp I with rfl|I
  .exact{{_,.cu hA J T U g h6 h7 h8},λ_ h=>h,Dt _,Ap _,λ_ h=>h}
  .rcases Ag.mp I with I|I
   .obtain⟨a,b,c,d,e⟩:=l C I;exact{a,λx h=>Am _<|b x h,c.trans<|Eh ..,by show _<=max (vo A) (vo B)+1;lia,λx h=>Ac _<|Am _<|e x h}
   .obtain⟨a,b,c,d,e⟩:=o C I;exact{a,λx h=>Ae _<|b x h,c.trans<|C4 ..,by show _<=max (vo A) (vo B)+1;lia,λx h=>Ac _<|Ae _<|e x h}
theorem bO:∀{R A B:Ru},A∈e9 R->B∈e9 A->B∈e9 R
 |.link p q,A,B,I,J=>by cases Aj.mp I;exact J
 |.ei r C,A,B,I,J=>by
  rcases Ao.mp I with rfl|I
  .exact J
  .exact Ac _<|bO I J
 |.bo r C D,A,B,I,J=>by
  rcases Ao.mp I with rfl|I
  .exact J
  .rcases Ag.mp I with I|I
   .exact Ac _<|Am _<|bO I J
   .exact Ac _<|Ae _<|bO I J
 |.cu p q C D,A,B,I,J=>by
  rcases Ao.mp I with rfl|I
  .exact J
  .rcases Ag.mp I with I|I
   .exact Ac _<|Am _<|bO I J
   .exact Ac _<|Ae _<|bO I J
def i6(A:Ru):A∈e9 A:=by rw[uV];exact Ai ..
def Vx{A B:Ru}(h:B∈aQ A):B∈e9 A:=by rw[uV];exact Ac _<|A5.mpr {B,h,i6 B}
end
def kO:RD "_law_stir" lB 0 ["_law_script","_law_total","_law_k","_law_cell"] (λ_=>True):={_,λV B c _ _ _ _ _ _ _ I hN J=>(qa (S_ 1 hN qe)<|qa (w5 pK rfl (dJ rfl B.bg<|qv 0) (ag (n:=2) rfl<|ze (G_ 2 hN)<|ze (G_ 3 hN) km)<|qd<|S_ 1 hN<|ql js (ql ja (ql ja (ql ja (ql l5 (qv 1) qe)<|ql js (qv 3) qe)<|qv 2) qe) qe)<|qd<|qr<|qv 1)}
def lm:RD "_law_pick" lO 0 ["_law_stir_here","_law_factor"] (λ_=>True):={_,λV B c _ _ _ _ _ _ _ I hN J=>(qd<|qr<|ql wm (ql js (ql l5 (qv 0)<|qv 1) qe) qe)}
inductive mV(ys:_T)(L:qk)(Q:YK):Prop
 |mk:∀ns:XX,(ys=[.sq<|ns.map Y.int])->(∀v:Int,Q (.int v) L)->mV ys L Q
def Vy:_f mV kO.1 4:=by
 rintro ys L Q ⟨l,rfl,q⟩;refine w9 {λ_ I J=>∃v U g,I=[some<|.sq<|l.map Y.int,some<|.int v,U,g]/\J=L,{1,_,_,rfl,rfl},λ_ _ _ _=>True.intro,?_,?_}
 .rintro i y I J o ⟨v,U,g,rfl,rfl⟩;obtain⟨z,j,rfl⟩:=cg o;rw[Aq] at j;obtain⟨z,p,rfl⟩:=AE.mp j;exact{.inr {by decide,by decide},(by decide:(0:Int)<1000003),(by decide:(0:Int)<2147483647),_,EL _,_,_,_,rfl,rfl}
 .rintro I J ⟨v,U,g,rfl,rfl⟩;exact xg<|q v
inductive fc(ys:_T)(L:qk)(Q:YK):Prop
 |mk:∀s f:Int,(ys=[.int s,.int f])->(0<f)->(f<1000000000)->(∀v,0<=v->v<134217728->Q (.int v) L)->fc ys L Q
def Vz:_f fc lm.1 2:=by
 rintro ys L Q ⟨s,f,rfl,I,J,q⟩;refine{.inr {by omega,by omega},(by decide:(0:Int)<2147483629),{by decide,by decide},xg<|q _ ?_ ?_}
 all_goals
  generalize s*f=z;omega
structure tV(ks:Yg)(R:Ru)(E:XS):Prop where
 ok:ef ks
 sr:SR ks R E
 tp:(qu R).Perm (List.range ks.length)
 len:ks.length<=96
def VA(I:XX)(lo hi:XZ):∃ms:XX,gd (I.map Y.int) lo hi=ms.map Y.int/\ms.length<=I.length:=by unfold gd;refine{(I.drop<|KF (I.map Y.int).length 0 lo).take<|KF (I.map Y.int).length (I.map Y.int).length hi-KF (I.map Y.int).length 0 lo,by rw[List.map_take,List.map_drop],?_};rw[A7,BQ];lia
inductive mZ(ys:_T)(L:qk)(Q:YK):Prop
 |mk:∀ns:XX,∀s:Int,∀w:Nat,∀wi:Int,(ys=[.sq<|ns.map Y.int,.int s,.int wi])->(wi=(w:Int))->(ns.length<=63)->(w<=96)->(∀ka ks R E L',qg L L'->L ka=none->L' ka=some (.lst<|kq ks)->tV ks R E->Q (.tup [.ref ka,j8 R]) L')->mZ ys L Q
def F9(neg:Bool)(x y:Y)(L:qk)(Q:YK):Prop:=match x,y with
 |.bl c,.bl d=>Q (.bl<|nb neg<|c==d) L
 |_,_=>False
def VB :aB X (compareOp .IsNot) (λx y H Q=>∃c d,x=.bl c/\y=.bl d/\Q (.bl<|!(c==d)) H):=by rintro J s j H x y v u Q I U g⟨c,d,rfl,rfl,q⟩;cases U;cases g;exact isnot_bool<|gv I q rfl
def VC :aB X (compareOp .IsNot) (hJ X.g3<|F9 true):=E6 VB λx y H Q g j L l I J U z k=>by
 unfold F9 at z;split at z
 .exact{_,_,I,J,k _ H _ L (EM _) U (by rfl) z}
 .exact z.elim
def VD(neg:Bool)(p:X.A.units+128<cLine):aB X (compareOp<|if neg then .NotIn else .In) (λx y H Q=>∃a kvs k,y=.ref a/\H a=some (.dK kvs)/\x=kV k/\Q (.bl<|if neg then !(bw kvs k).isSome else(bw kvs k).isSome) H):=by rintro U s r H x y v u Q I g j ⟨a,kvs,k,l,e,ex,q⟩;subst ex l;cases (show u=Value.ref a from j);cases neg with|false=>exact Pu (by omega) I (tD.k e) g λo J=>{.bl _,H,J,rfl,q}|true=>exact Pw (by omega) I (tD.k e) g λo J=>{.bl _,H,J,rfl,q}
def VE{xs:List<|jb×V}(p:Paired (λ(p:jb×Y) (q:jb×V)=>p.1=q.1/\RV G H p.2 q.2) kvs xs)(k:jb):(bw xs k).isSome=(wv kvs k).isSome:=by
 unfold bw wv;rw[CV,CV]
 induction p with
 |nil=>rfl
 |@cons a b _ _ r t I=>
  rw[BP,BP,r.1];cases decide (b.1=k) with|true=>rfl|false=>exact I
def F_(neg:Bool)(x y:Y)(L:qk)(Q:YK):Prop:=match y,FX x with
 |.ref a,some k=>tW L a λkvs=>Q (.bl<|nb neg (wv kvs k).isSome) L
 |_,_=>False
def VF(neg:Bool)(j:X.A.units+128<cLine):aB X (compareOp<|if neg then .NotIn else .In) (hJ X.g3<|F_ neg):=E6 (VD neg j) λx y H Q C T L Q3 l o g z k=>by
 unfold F_ at z;split at z
 .rename_i a I p;obtain⟨J,e,z⟩:=iP z;obtain⟨U,r,t⟩:=g a _ e;refine{a,U,I,o,r,nX p l,?_};have:(if neg=true then !(bw U I).isSome else(bw U I).isSome)=nb neg (wv J I).isSome:=by rw[VE t];cases neg<;>simp[nb]
  rw[this];exact k _ H _ L (EM _) g (by rfl) z
 .exact z.elim
def VG(I:X.A.units+128<cLine):aB X (compareOp .NotIn) (hJ X.g3<|F_ true):=VF true I
def Kw(xs:_T)(L:qk)(Q:YK):Prop:=match xs with
 |[.ref a]=>dw L a λys=>Q (.tup ys) L
 |_=>False
theorem VH :jx X (.type "tuple") (j_ X.g3 Kw):=E7 pX λt H Q C L T g J z k=>by
 unfold Kw at z;split at z
 .rename_i a;obtain⟨u,rfl,j⟩:=g.inv1;obtain⟨o,e,z⟩:=ve z;obtain⟨U,p,r⟩:=J a _ e;cases (show u=V.ref a from j);exact{a,U,rfl,.inl {.inl<|.inl p,λl I=>k _ _ (.tup o) L (EN I) (J.skip I) {l,U,rfl,.inl<|.inl zg,r.ts<|EN I} z}}
 .exact z.elim
def Zy:Ru->XS
 |.link p q=>[p,q]
 |.ei r _=>[r]
 |.bo r _ _=>[r]
 |.cu p q _ _=>[p,q]
def u9(A:Ru):0<vo A:=by cases A<;>simp[vo]
structure ZA(us:XS)(kvs:List<|jb×Y):Prop where
 val:∀x:Nat,(wv kvs<|.inl (x:Int)).isSome=decide (x∈us)
 len:kvs.length<=us.length
def ZA.nil:ZA [] []:={λ_=>rfl,Ap _}
def ZA.put{us:XS}(h:ZA us kvs)(x:Nat)(y:Y):ZA (us++[x]) (oA kvs (.inl (x:Int)) y):=by
 refine{λz=>?_,?_}
 .rw[vC];by_cases e:z=x
  .subst e;rw[Ay rfl,AA<|Ae _<|Aj.mpr rfl];rfl
  .rw[Au λq=>e<|Ck.mp<|Sum.inl.inj q,h.val];refine Ei.mpr {λq=>Am _ q,λq=>?_};rcases Ag.mp q with q|q
   .exact q
   .exact absurd (Aj.mp q) e
 .have:=wJ kvs (.inl (x:Int)) y;have:=h.len;rw[Ab];show _<=us.length+1;lia
def VI{k:Yh}(h:wd[i]?=some k):dZ (xx wd) (0+(i:Int))=some (eI k):=by rw[B3];exact aX h
def VJ(Pt:Addr)(I:ju):cH:=(je (vv (gG x8)<|qo 2)
 (je (mI (IY<|qh 0) (fM 2<|x5 (qo 3)<|x5 (qo 4) cM) (je (vv (ku wF (jg I<|qt (qh 1)<|rm (qh 3)<|gJ 39373)<|gJ 40)<|qo 5)
 (FW (cY (y_ (xO 4)<|gJ 3) (vv (ku mG (ku mG (qh 5)<|gJ 1)<|k_ GJ<|qt (ku iH (qh 2)<|gE 4 1)<|qt (ku iH (qh 2)<|gE 4 2) x8)<|qo 5) a6)
 (bC<|mC vi (qh 2)<|bv<|qh 5))))
 (cJ<|J8 Pt YT 2<|pP<|xO 0)))
inductive f7(Pt:Addr)(ys:_T)(L:qk)(Q:YK):Prop
 |mk:∀a,∀ks:Yg,∀s:Int,(ys=[.ref a,.int s])->(L a=some (.lst<|kq ks))->(xP<|ks.map some)->(ks.length<=127)->(L Pt=some (.tb YT))->(∀D qs,L D=none->qs.Perm (List.range (ks.map some).length)->gx (ks.map some) qs->Q (.ref D) (qf L D<|.lst<|nY qs))->f7 Pt ys L Q
def VL :_f (f7 Pt) (VJ Pt eM) 6:=by
 rintro ys L Q ⟨a,a3,s,rfl,ha,ok,hz,hP,q⟩;obtain⟨U,J⟩:∃U,U=a3.map some:={_,rfl};rw[<-o5,<-J] at ha;rw[<-J] at ok q;have hz:U.length<=127:=by rw[J,Ah];exact hz
 have all:∀i,U[i]?≠some none:=λi e=>by rw[J,Aq] at e;obtain⟨_,_,z⟩:=AE.mp e;cases z
 have big:=a_;intro g I;have s0:qg L (qf L g<|.lst []):=By I;have a0:=w6 ha I;refine xl (s0 _ _ ha) λkeep kp=>w9 {λi τ l=>∃rks:XX,∃c3 c4 c5,τ=[some<|Y.ref a,some<|.int s,some<|Y.ref g,c3,c4,c5]/\l=qf L g (.lst<|rks.map Y.int)/\rks.length=i/\_p U rks,{[],_,_,_,rfl,rfl,rfl,λp _ _ _ hp=>by cases hp},?_,?_,?_}
 .rintro i τ l ⟨rks,c3,c4,c5,rfl,rfl,_⟩;exact kp _ (by rw[qc a0,qc a0])
 .rintro i y τ l hy ⟨rks,c3,c4,c5,rfl,rfl,C,T⟩;obtain⟨z,ez,rfl⟩:=cg hy;rw[Aq] at ez;obtain⟨k,ek,rfl⟩:=AE.mp ez;have hi:=qz ek;refine{s,i,39373,rfl,A4 _,by omega,by decide,by decide,λv h0 h1=>?_};have a1:(rks.map Y.int).length=i:=by rw[Ah];exact C
  refine{show(0:Int)<40 by decide,λa2 l=>∃r:Int,a2=[some<|Y.ref a,some<|.int s,some<|Y.ref g,some<|.int (i:Nat),some<|eI k,some<|.int r]/\l=qf L g (.lst<|rks.map Y.int)/\∀e i j,k=some (.nd e i j)->rks.getD i 0<r/\rks.getD j 0<r,?_,?_}
  .cases k with
   |none=>exact absurd ek<|all i
   |some k=>
    cases k with
    |lf t n=>exact{v % 40,rfl,rfl,λe i j z=>by cases z}
    |nd e p1 p2=>
     obtain⟨l1,l2⟩:=ok _ _ _ _ ek;have g1:=jo<|wS (rks:=rks) (i:=p1) (by lia);have g2:=jo<|wS (rks:=rks) (i:=p2) (by lia);refine qb q9<|qj g1 ?_;refine qb q9<|qj g2 ?_;refine{v % 40+1+max (rks.getD p1 0) (rks.getD p2 0),rfl,rfl,λe' i' j' z=>?_};cases z;constructor<;>lia
  .rintro a2 l ⟨r,rfl,rfl,hr⟩;refine qb q9 (qp q9 {by rw[a1];exact big _ (by lia),?_});refine{_,EL _,rks++[r],_,_,_,rfl,?_,by rw[Ab,C];rfl,_p.snoc ok T (by rw[C];exact ek) hr};rw[zh,AI];rfl
 .rintro τ l ⟨rks,c3,c4,c5,rfl,rfl,C,T⟩;rw[cR,Ah] at C;have s1:qg L (qf L g<|.lst<|rks.map Y.int):=By I;refine qb (s1 _ _ ha) ?_;have lo:(xx U).length=U.length:=Ah ..;refine{{A4 _,by rw[lo];lia},λp hp=>qp q9 ?_};have a4:=w6 q9 hp;have a5:=w6 (s1 _ _ hP) hp;have ab:=w6 hP I;refine{U.length,rks,g,by rw[BB,lo],rfl,(qc a4).trans q9,C,hz,(qc a5).trans<|(qc ab).trans hP,λD qs hD pm pw=>?_};have ac:=vj hD;have al:=vj ac;refine{qf L D<|.lst<|nY qs,λb o e=>?_,q D qs al pm<|UD ok T C pw};by_cases c:b=D
  .subst c;rw[q9] at e ⊢;exact e
  .rw[qc c] at e ⊢;rw[qc (λz=>by subst z;rw[vj hp] at e;cases e),qc (λz=>by subst z;rw[I] at e;cases e)];exact e
def o9(y:Y)(l:_T):gd (y::l) (some 1) none=l:=by
 unfold gd;have e:KF (y::l).length 0 (some 1)=1:=by show min 1 (l.length+1)=1;lia
 rw[e];show(l.take<|l.length+1-1)=l;rw[Nat.add_sub_cancel,Bp]
def uE(y:Y)(l:_T):¬(KF (y::l).length 0 (some 1)=0/\KF (y::l).length (y::l).length none=(y::l).length):=λz=>by
 have e:KF (y::l).length 0 (some 1)=1:=by show min 1 (l.length+1)=1;lia
 rw[e] at z;exact absurd z.1 (by decide)
def FA:Ru->Str
 |.link _ _ => "link"
 |.ei _ _ => "either"
 |.bo _ _ _ => "both"
 |.cu _ _ _ _ => "cut"
def io(A:Ru):j8 A=.tup (.str (FA A)::(nY (Zy A)++(aQ A).map j8)):=by cases A<;>rfl
inductive bV(n:Nat)(ys:_T)(L:qk)(Q:YK):Prop
 |mk:∀R:Ru,∀d,∀kvs:List (jb×Y),∀f:X0,(ys=[j8 R,.ref d])->(L d=some (.YD kvs))->((∀B∈e9 R,∀x∈Zy B,wv kvs (.inl (x:Int))=some (.int (f x:Int))))->(vo R<=n)->(Q (j8<|gy f R) L)->bV n ys L Q
def VM:∀ys L Q,¬bV 0 ys L Q:=by rintro ys L Q ⟨A,_,_,_,_,_,_,h,_⟩;have:=u9 A;lia
def sL{P:XS}(h:(nY P++As.map j8)[i]?=some y):(i<P.length/\∃x,P[i]?=some x/\y=.int (x:Int))\/(P.length<=i/\∃B,As[i-P.length]?=some B/\y=j8 B):=by
 by_cases c:i<P.length
 .rw[AH (by rw[xn];exact c)] at h;exact .inl {c,eG h}
 .rw[AL (by rw[xn];lia),xn,Aq] at h;obtain⟨B,e,z⟩:=AE.mp h;exact .inr {by lia,B,e,z.symm}
def SR.pl{ks:Yg}{E:XS}(h:SR ks R E):∀B∈e9 R,∀x∈Zy B,x<ks.length:=λB J x I=>by
 obtain⟨⟨p,s⟩,_⟩:=h.rls B J;have l:=s.lt;cases s with
 |link=>exact l x I
 |ei=>rw[Aj.mp I];exact l _<|Ai ..
 |bo=>rw[Aj.mp I];exact l _<|Ai ..
 |cu U g j o=>
  rcases Ao.mp I with rfl|I
  .exact l _<|Am _<|U.sub _ j
  .rw[Aj.mp I];exact l _<|Ae _<|g.sub _ o
def gL(I:ju):RR "_law_gather" gZ 1 ["_law_rule","_law_links","_law_cuts"] ["_law_rule","_law_links","_law_cuts","_law_arm"] I (λ_=>True):={_,λV B c _ _ J _ _ _ _ _ _ g hN U=>(ke (zr (E_ U (J_ 0) jk) (qd<|zf<|za (qv 1)<|jy<|zj<|ki (J_ 0)<|J_ 0) qw)<|ke (zr (E_ U (J_ 0) jk) (qd<|zf<|za (qv 2)<|jy<|zj<|ki (J_ 0)<|J_ 0) qw)<|qd<|w5 pK rfl (yX<|aU (Hj _ _ _) (qv 0) (ai qe) bz) (G_ 3 hN)<|qd<|zr (v5<|vz .tuple rfl B.b_isinstance rfl B.b_tuple cZ<|qv 3) (qd<|zf<|C_ J g<|bq (qv 3) (qv 1)<|qv 2) qw)}
def Kx(I:ju):RD "_law_web" nV 121 ["_law_tree_here","_law_links","_law_cuts"] (λV=>JD V I):={_,λV B c _ _ _ _ _ _ _ J hN U=>(qa (S_ 1 hN<|jm wz)<|qa (S_ 2 hN<|jm wz)<|qa (zf<|C_ c J<|bq (J_ 0) (qv 1)<|qv 2)<|qd<|qr<|zj<|bq (am bY rfl B.bb wc<|jy<|J_ 0) (ko m9 rfl B.bh fk<|jy<|qv 1)<|ko m9 rfl B.bh fk<|jy<|qv 2)}
abbrev bZ(L:qk)(l c:Addr)(lk ct:XN):qk:=qf (qf L l<|.lst<|qx lk) c<|.lst<|qx ct
def Hq{c:Addr}(h:l≠c):bZ L l c lk ct l=some (.lst<|qx lk):=(qc h).trans q9
def VN{c:Addr}(h:l≠c):qf (bZ L l c lk ct) l (.lst<|qx ir)=bZ L l c ir ct:=by unfold bZ;rw[cj<|AJ h,zh]
def Ky{c:Addr}(h:l≠c):bZ (bZ L l c lk ct) l c ir fy=bZ L l c ir fy:=by show qf (qf (bZ L l c lk ct) l _) c _=_;rw[VN h,zh]
def VO{c:Addr}(h1:L l=some (.lst<|qx lk))(h2:L c=some (.lst<|qx ct)):bZ L l c lk ct=L:=by unfold bZ;rw[aH h1,aH h2]
inductive ae(n:Nat)(ys:_T)(L:qk)(Q:YK):Prop
 |mk:∀R:Ru,∀l c,∀lk ct:XO,(ys=[j8 R,.ref l,.ref c])->(L l=some (.lst<|qx lk))->(L c=some (.lst<|qx ct))->(l≠c)->(vo R<=n)->(lk.length+iL R<=127)->(ct.length+iL R<=127)->(Q .KB<|bZ L l c (lk++zu R)<|ct++zy R)->ae n ys L Q
def VP:∀ys L Q,¬ae 0 ys L Q:=by rintro ys L Q ⟨A,_,_,_,_,_,_,_,_,h,_⟩;have:=u9 A;lia
def VQ(R:Ru):(u0 R).length<=1/\(yg R).length<=1:=by cases R<;>simp[u0,yg]
theorem wr:∀R:Ru,(zu R).length+(zy R).length<=iL R
 |.link _ _=>Ap _
 |.ei _ A=>by have:=wr A;show _<=iL A+1;exact Cc this
 |.bo _ A B=>by have:=wr A;have:=wr B;show(zu A++zu B).length+(zy A++zy B).length<=iL A+iL B+1;rw[Ab,Ab];lia
 |.cu p q A B=>by have:=wr A;have:=wr B;show(zu A++zu B).length+((p,q)::(zy A++zy B)).length<=iL A+iL B+1;rw[Ab,Av,Ab];lia
def VR :((As.take j).flatMap zu).length<=((As.take j).map iL).sum/\((As.take j).flatMap zy).length<=((As.take j).map iL).sum:=by
 generalize As.take j=I
 induction I with
 |nil=>exact{Ap _,Ap _}
 |cons B r J=>
  have:=wr B;rw[Bc,Bc,Ab,Ab,AQ,List.sum_cons];lia
def VS{l:XS}{x:Nat}(h:l[j]?=some x):(l.take j).sum+x<=l.sum:=by
 obtain⟨I,e⟩:=AN.mp h;have:l=l.take j++x::l.drop (j+1):=by rw[<-e,CN,Bh]
 have:=BU List.sum this;rw[List.sum_append,List.sum_cons] at this;lia
theorem VT(n:Nat):_f (ae (n+1)) (gL<|ae n).1 4:=by
 rintro ys L Q ⟨R,l,c,lk,U,rfl,C,hc,ne,hr,hz,hy,q⟩;have big:=a_;have pl:∀l:XO,(qx l).length=l.length:=λl=>Ah ..;have rz:=US R;have same:bZ L l c (lk++[]) (U++[])=L:=by rw[Aw,Aw];exact VO C hc
 refine{λI J=>I=[some<|j8 R,some<|.ref l,some<|.ref c,none]/\J=bZ L l c (lk++u0 R) (U++[]),?_,?_}
 .cases R with|link p s=>exact qp C (qp C {by rw[pl];exact big _ (by lia),rfl,by rw[Aw];unfold bZ;rw[cj ne,aH hc];exact BU (λz=>qf L l<|.lst z)<|cU lk (p,s)})|ei r A=>exact{(rfl),same.symm}|bo r A B=>exact{(rfl),same.symm}|cu p s A B=>exact{(rfl),same.symm}
 rintro I L1 ⟨rfl,rfl⟩;refine{λI J=>I=[some<|j8 R,some<|.ref l,some<|.ref c,none]/\J=bZ L l c (lk++u0 R) (U++yg R),?_,?_}
 .cases R with|link p s=>exact{(rfl),rfl}|ei r A=>exact{(rfl),rfl}|bo r A B=>exact{(rfl),rfl}|cu p s A B=>exact qp q9 (qp q9 {by rw[pl,Aw];exact big _ (by lia),rfl,by rw[Aw,zh];exact BU (λz=>qf _ c<|.lst z)<|cU U (p,s)})
 rintro I L1 ⟨rfl,rfl⟩;have va:∀B∈aQ R,vo B<=n:=λB hB=>by have:=qW hB;lia
 have lp:(Zy R).length<=2:=by cases R<;>simp[Zy]
 have ol:=VQ R;rw[yc,UR,<-AC,<-AC] at q;have l1:(lk++u0 R).length<=lk.length+1:=by rw[Ab];lia
 have l2:(U++yg R).length<=U.length+1:=by rw[Ab];lia
 rw[io R];generalize lk++u0 R=ZP at q l1 ⊢;generalize U++yg R=g at q l2 ⊢;generalize Zy R=P at lp ⊢;generalize aQ R=As at va rz q ⊢;generalize FA R=T;have ll:(nY P++As.map j8).length=P.length+As.length:=by rw[Ab,xn,Ah]
 refine{uE _ _,?_};rw[o9];refine w9 {λi I J=>∃o,I=[some<|.tup<|.str T::(nY P++As.map j8),some<|.ref l,some<|.ref c,o]/\J=bZ L l c (ZP++(As.take<|i-P.length).flatMap zu) (g++(As.take<|i-P.length).flatMap zy),{_,rfl,by rw[Nat.zero_sub,List.take_zero,CH,CH,Aw,Aw]},λ_ _ _ _=>True.intro,?_,?_}
 .rintro i y I J a0 ⟨o,rfl,rfl⟩;rcases sL a0 with⟨t,x,ex,rfl⟩|⟨t,B,eB,rfl⟩
  .exact{_,EL _,_,rfl,by rw[CU t,CU<|BD t]}
  .have t1:=VR (As:=As) (j:=i-P.length);have t2:=VS (l:=As.map iL) (j:=i-P.length) (x:=iL B) (by rw[Aq,eB];rfl);rw[List.map_take] at t1;have z:ae n [j8 B,.ref l,.ref c] (bZ L l c (ZP++(As.take<|i-P.length).flatMap zu)<|g++(As.take<|i-P.length).flatMap zy) λz L4=>hG (λI J=>∃o,I=[some<|.tup<|.str T::(nY P++As.map j8),some<|.ref l,some<|.ref c,o]/\J=bZ L l c (ZP++(As.take<|i+1-P.length).flatMap zu) (g++(As.take<|i+1-P.length).flatMap zy)) [some<|.tup<|.str T::(nY P++As.map j8),some<|.ref l,some<|.ref c,some<|j8 B] L4:=by refine{B,l,c,_,_,rfl,Hq ne,q9,ne,va B<|Ar eB,by rw[Ab];lia,by rw[Ab];lia,_,EL _,_,rfl,?_};rw[Ky ne,Nat.succ_sub t,Bm,eB,AV,AV,AC,AC];simp
   rw[io B] at z ⊢;exact z
 .rintro I J ⟨o,rfl,rfl⟩;rw[ll,Bq,Bp];exact xg q
inductive i5(ys:_T)(L:qk)(Q:YK):Prop
 |mk:∀a,∀xs:_T,∀R:Ru,(ys=[.tup [.ref a,j8 R]])->(L a=some (.lst xs))->(vo R<=120)->(iL R<=127)->((zu R).Nodup)->((zy R).Nodup)->((∀p∈zu R,p.2<1000000))->((∀p∈zy R,p.2<1000000))->(∀a' l' c' lk ct L',qg L L'->L a'=none->L l'=none->L c'=none->a'≠l'->a'≠c'->l'≠c'->L' a'=some (.lst xs)->L' l'=some (.lst<|qx lk)->L' c'=some (.lst<|qx ct)->lk.Perm (zu R)->lk.Pairwise gm->ct.Perm (zy R)->ct.Pairwise gm->Q (aY a' l' c') L')->i5 ys L Q
def VU:_f i5 (Kx<|ae 120).1 3:=by rintro ys L Q ⟨a,xs,R,rfl,ha,hd,hz,n1,n2,b1,b2,q⟩ l hl c hc;have I:=w6 q9 hc;have C:=vj hc;have pz:=wr R;have e0:qf (qf L l<|.lst []) c (.lst [])=bZ L l c [] []:=rfl;rw[e0];refine{R,l,c,[],[],rfl,Hq I,q9,I,hd,by rw[DE];lia,by rw[DE];lia,?_};rw[Ky I,CO,CO];have t:qg L (bZ L l c (zu R)<|zy R):=((EL _).upd hl).upd C;have g1:bZ L l c (zu R) (zy R) l=some (.lst<|qx<|zu R):=Hq I;have g2:bZ L l c (zu R) (zy R) c=some (.lst<|qx<|zy R):=q9;generalize bZ L l c (zu R) (zy R)=L1 at t g1 g2 ⊢;refine qb (t _ _ ha) λT J=>?_;have s2:=t.trans<|By (o:=.lst xs) J;show gc [.ref l] (qf L1 T<|.lst xs) λz2 L2=>gc [.ref c] L2 λz3 L3=>gB Q (.tup [.ref T,z2,z3]) L3;refine F6 (By J _ _ g1) b1 n1 (by lia) λD1 lk U a0 a1=>?_;have s3:=s2.trans<|By (o:=.lst<|qx lk) U;refine F6 (((By J).trans<|By U) _ _ g2) b2 n2 (by lia) λD2 ct g a2 a3=>?_;have j:=w6 q9 U;have p:=w6 q9 g;have r:=w6 ((qc j).trans q9) g;exact xg<|q T D1 D2 lk ct _ (s3.trans<|By g) (t.none J) (s2.none U) (s3.none g) j r p ((qc r).trans<|(qc j).trans q9) ((qc p).trans q9) q9 a0 a1 a2 a3
def wK:cH:=(je (vv (qh 0)<|fM 3<|x5 (qo 1)<|x5 (qo 2)<|x5 (qo 3) cM)
 (je (vv Jh<|qo 4)
 (je (mI (bF<|qh 1) (qo 5) (cY (Fp (yB<|qI true<|qh 5)<|y_ (xO 5)<|gJ 3) (je (wB (qh 4) (gE 5 1)<|yC<|.bl true)
 (wB (qh 4) (gE 5 2)<|yC<|.bl true)) a6))
 (je (mI (bF<|qh 3) (fM 2<|x5 (qo 6)<|x5 (qo 7) cM) (je (wB (qh 4) (qh 6)<|yC<|.bl true)
 (wB (qh 4) (qh 7)<|yC<|.bl true)))
 (rH 6<|cJ<|g_ 1 (gi<|bv<|xO 1) (qo 8) (Fp (yB<|qI true<|ku iH (qh 1)<|qh 8)<|yB<|ku (F_ true) (qh 8)<|qh 4)<|qh 8)))))
inductive fw(ys:_T)(L:qk)(Q:YK):Prop
 |mk:∀a l c,∀wd:List (Yh),∀ct:XO,(ys=[aY a l c])->(L a=some (.lst<|xx wd))->(L c=some (.lst<|qx ct))->(wd.length<=1000)->(ct.length<=1000)->(∀p,L p=none->Q (.ref p) (qf L p<|.lst<|nY<|wy wd (kj wd ct) wd.length))->fw ys L Q
def VW:_f fw wK 8:=by
 rintro ys L Q ⟨wa,la,ca,I,l,rfl,e1,e3,wl,cl,q⟩;have big:=a_;intro us a0;have s2:qg L (qf L us<|.YD []):=By a0;refine xl (s2 _ _ e1) λkeep kp=>w9 {λi r j=>∃J c3 C T,r=[some<|aY wa la ca,some<|.ref wa,some<|.ref la,some<|.ref ca,some<|.ref us,c3,C,T]/\qg L j/\j us=some (.YD J)/\ZA (xj<|I.take i) J,{[],_,_,_,rfl,s2,q9,ZA.nil},?_,?_,?_}
 .rintro i r j ⟨J,c3,C,T,rfl,s,_⟩;exact kp j (by rw[s _ _ e1,s2 _ _ e1])
 .rintro i y r j hy ⟨J,c3,C,T,rfl,s,g,U⟩;rw[Aq] at hy;obtain⟨k,ek,rfl⟩:=AE.mp hy;have et:I.take (i+1)=I.take i++[k]:=by rw[Bm,ek];rfl
  have pl:=qV<|I.take i;rw[A7] at pl;have ul:=U.len;have Ys:zm k=[]->ZA (xj<|I.take<|i+1) J:=λh=>by rw[et,oz,h,Aw];exact U
  cases k with
  |none=>exact{_,EL _,_,_,_,_,rfl,s,g,Ys rfl}
  |some k=>
   cases k with
   |lf t n=>exact{_,EL _,_,_,_,_,rfl,s,g,Ys rfl}
   |nd e i' j'=>
    refine kn g {big _ (by lia),?_};have U1:=U.put i'<|.bl true;have k1:=U1.len;rw[Ab] at k1;refine kn q9 {big _ (by simp at k1;lia),?_};have U2:=U1.put j'<|.bl true;rw[zh];exact{_,EL _,_,_,_,_,rfl,s.upd a0,q9,by rw[et,oz];rw[AC] at U2;exact U2}
 rintro r L2 ⟨J,c3,C,T,rfl,s3,g,U⟩;rw[Ah,Bp] at U;have pl:=qV I;refine xl (s3 _ _ e3) λkeep kp=>w9 {λi r j=>∃J C T,r=[some<|aY wa la ca,some<|.ref wa,some<|.ref la,some<|.ref ca,some<|.ref us,c3,C,T]/\qg L j/\j us=some (.YD J)/\ZA (xj I++GM (l.take i)) J,{_,_,_,rfl,s3,g,by show ZA (xj I++[]) _;rw[Aw];exact U},?_,?_,?_}
 .rintro i r j ⟨J,C,T,rfl,s,_⟩;exact kp j (by rw[s _ _ e3,s3 _ _ e3])
 .rintro i y r j hy ⟨J,C,T,rfl,s,g,U⟩;rw[Aq] at hy;obtain⟨pr,ep,rfl⟩:=AE.mp hy;have et:l.take (i+1)=l.take i++[pr]:=by rw[Bm,ep];rfl
  have pt:=aq<|l.take i;rw[A7] at pt;have ul:=U.len;rw[Ab] at ul;refine kn g {big _ (by lia),?_};have U1:=U.put pr.1<|.bl true;have k1:=U1.len;rw[Ab,Ab] at k1;refine kn q9 {big _ (by simp at k1;lia),?_};have U2:=U1.put pr.2<|.bl true;rw[zh];exact{_,EL _,_,_,_,rfl,s.upd a0,q9,by rw[et,xq,aW,<-AC];rw[AC<|_++_] at U2;exact U2}
 rintro r L3 ⟨J,a1,a2,rfl,s4,g,U⟩;rw[Ah,Bp] at U;have U:ZA (kj I l) J:=U;have k1:=s4 _ _ e1;have lw:(xx I).length=I.length:=Ah ..;refine qb k1 {{A4 _,by rw[lw];omega},?_};rw[lw,BB];refine oT (λi o=>o=nY (wy I (kj I l) i)) (big _ (by lia)) rfl ?_ ?_
 .rintro i o hi rfl;obtain⟨k,ek⟩:∃k,I[i]?=some k:={_,An hi};have no:l9 I (kj I l) i=false->hG (λo j=>j=L3/\o=nY (wy I (kj I l)<|i+1)) (nY<|wy I (kj I l) i) L3:=λh=>{L3,EL _,rfl,by rw[pO,Au (by rw[h];exact AK),Aw]};have yes:l9 I (kj I l) i=true->hG (λo j=>j=L3/\o=nY (wy I (kj I l)<|i+1)) (nY (wy I (kj I l) i)++[.int<|0+(i:Int)]) L3:=λh=>{L3,EL _,rfl,by rw[pO,Ay h,fF,B3];rfl};refine qb k1<|qj (VI ek) ?_;cases k with
  |none=>exact no (by unfold l9 cG;rw[ek];rfl)
  |some k=>
   have key:tW L3 us λJ=>aa (nb true (wv J<|.inl<|0+(i:Int)).isSome) (hG (λo j=>j=L3/\o=nY (wy I (kj I l)<|i+1)) (nY (wy I (kj I l) i)++[.int<|0+(i:Int)]) L3) (hG (λo j=>j=L3/\o=nY (wy I (kj I l)<|i+1)) (nY<|wy I (kj I l) i) L3):=by
    refine kn g ?_;rw[show(Sum.inl (0+(i:Int)):jb)=.inl (i:Int) by rw[B3],U.val];by_cases cu:i∈kj I l
    .exact aT (by rw[AA cu];rfl) (no (by unfold l9 cG;rw[ek,AA cu];rfl))
    .exact dW (by rw[AB cu];rfl) (yes (by unfold l9 cG;rw[ek,AB cu];rfl))
   cases k with|lf t n=>exact key|nd e i' j'=>exact key
 .rintro o rfl p hp;exact fC (qg.put (s4.trans<|By hp) q9)<|q p<|s4.none hp
def Kz(U:ju)(I:ju)(J:ju):RD "_law_gapped" gW 121 ["_law_tree_here","_law_stir_here","_law_number_here","_law_gap","_law_offset","_law_at","_law_made","_law_k","_law_p","_law_knot"] (λV=>F1 V U/\JG V I/\JH V J):={_,λV B c _ _ _ _ _ _ _ j hN g=>(qa (S_ 2 hN<|C_ c.1 j<|ki (qv 1) qe)<|qa (S_ 3 hN qe)<|ke (zr (E_ g (ql js (qv 2) qe) qe) (qd<|S_ 3 hN<|ql ja qe<|ql js (ql wm (qv 2) qe) qe) qw)<|qa (S_ 4 hN<|ql js (ql wm (qv 2) qe)<|ql ja (qv 3) qe)<|qa (S_ 5 hN Ji)<|qa (S_ 6 hN<|jm wz)<|qa (w5 pK rfl (dJ rfl B.bg<|C_ c.2.1 j<|ki (J_ 0)<|qv 1) (ag (n:=2) rfl<|ze (G_ 7 hN)<|ze (G_ 8 hN) km)<|qa (eO pK (jv vQ (L_ B.ba<|qv 6) (ql ja (qv 7)<|ql wm (ql ja (qv 7)<|qv 4)<|qv 3)<|jt _)<|qd<|zf<|za (qv 6)<|jy jZ)<|qa (hW g (qv 5) (qv 8)<|L_ B.ba<|qv 6)<|qa (S_ 9 hN<|I_ (J_ 0)<|qv 8)<|qd<|zf<|za (qv 6)<|jy<|iy (E_ g (L_ B.ba<|qv 9) qe) (qv 9)<|zj<|bq (J_ 9) (db g (qv 5) (J_ 9) λ_ _=>rfl)<|db g (qv 5) (J_ 9) λ_ _=>rfl)<|qd<|qr<|zj<|ki (qv 6)<|C_ c.2.2 j<|ki (J_ 0)<|qv 5)}
inductive mN(Pt:Addr)(ys:_T)(L:qk)(Q:YK):Prop
 |mk:∀a,∀ks:Yg,∀R:Ru,∀E:XS,∀s:Int,(ys=[.tup [.ref a,j8 R],.int s])->(L a=some (.lst<|kq ks))->(tV ks R E)->(L Pt=some (.tb YT))->(∀w f wd,L w=none->Z9 f (ks.map some) wd->Q (.tup [.ref w,j8<|gy f R]) (qf L w<|.lst<|xx wd))->mN Pt ys L Q
def VX{i off g:Int}(hi:0<=i)(h1:1<=g)(I:off<=g):(i+off) / g<=i+1:=by refine Int.ediv_le_of_le_mul (by lia) ?_;have:=Int.mul_le_mul_of_nonneg_left h1 hi;rw[EE];lia
theorem VY :_f (mN Pt) (Kz fc (f7 Pt)<|bV 120).1 10:=by
 rintro ys L Q ⟨a,a1,R,E,s,rfl,ha,T,hP,q⟩;have big:=a_;have hz:=T.len;have sr:=T.sr;obtain⟨U,l⟩:∃U,U=a1.map some:={_,rfl};have au:U.length=a1.length:=by rw[l,Ah]
 have ok:xP U:=by rw[l];exact Vd T.ok
 refine{s,91827,rfl,by decide,by decide,λnum n0 _=>?_};refine{λo L'=>∃g:Int,5<=g/\g<=200/\o=[some<|.tup [.ref a,j8 R],some<|.int s,some<|.int num,some<|.int g,none,none,none,none,none,none]/\L'=L,?_,?_}
 .exact{(by decide:(0:Int)<3),zp (λ_=>{{by decide,by decide},(by decide:(0:Int)<9),_,by lia,by lia,rfl,rfl}) λ_=>{200,by decide,by decide,rfl,rfl}}
 rintro o L' ⟨g,g1,g2,rfl,rfl⟩;refine{{by decide,by decide},(show(0:Int)<g+1 by lia),?_};have ho:num / 27 % (g+1)<=g:=by have:=CM (num / 27) (show(0:Int)<g+1 by lia);lia
 show qo 4 (.int<|num / 27 % (g+1)) _ _ _;generalize num / 27 % (g+1)=off at ho ⊢;intro d hd w hw;have a3:=vj hw;have a0:=w6 q9 hw;have s0:qg L' (qf (qf L' d<|.YD []) w<|.lst []):=(By hd).trans<|By hw;refine{a,a1,s,rfl,s0 _ _ ha,by rw[<-l];exact ok,by lia,s0 _ _ hP,λD I hD pm pf=>?_};rw[<-l] at pm pf;have a4:=w6 q9 hD;have ac:=w6 ((qc a0).trans q9) hD;have lq:I.length=U.length:=by rw[pm.length_eq,Bb]
 have av:=pm.nodup_iff.mpr Bw;have mq:∀p∈I,p<U.length:=λp hp=>AM.mp<|pm.mem_iff.mp hp;have G0:tZ L' U I d w D 0 0 (λ_=>0) [] [] (qf (qf (qf L' d<|.YD []) w<|.lst []) D<|.lst<|nY I):=
  ⟨s0.trans<|By hD,(qc ac).trans<|(qc a0).trans q9,(qc a4).trans q9,q9,Ap _,λp=>rfl,yx.nil _ _,Ap _⟩
 refine xl q9 λkeep kp=>w9 {λi o L1=>∃f wd J c7 c8 c9,o=[some<|.tup [.ref a,j8 R],some<|.int s,some<|.int num,some<|.int g,some<|.int off,some<|.ref d,some<|.ref w,c7,c8,c9]/\tZ L' U I d w D i 0 f wd J L1,{_,_,_,_,_,_,rfl,G0},?_,?_,?_}
 .rintro i o L1 ⟨f,wd,J,c7,c8,c9,rfl,G⟩;exact kp L1 (by rw[G.hD,q9])
 .rintro i y o L1 hy ⟨f,wd,J,c7,c8,c9,rfl,G⟩;obtain⟨z,ez,rfl⟩:=cg hy;obtain⟨p,ep,rfl⟩:=eG ez;have hi:=qz ep;have hp:=mq p<|Ar ep;obtain⟨k,hk⟩:∃k,a1[p]?=some k:={_,An (by lia)};have al:U[p]?=some (some k):=by rw[l,Aq,hk];rfl
  have pn:p∉I.take i:=λhm=>by
   have e2:I=I.take i++p::I.drop (i+1):=by rw[An hi] at ep;rw[<-AR ep,CN,Bh]
   have nd:=av;rw[e2] at nd;exact(AG.mp nd).2.2 p hm p (Ai ..) rfl
  have et:I.take (i+1)=I.take i++[p]:=by rw[Bm,ep];rfl
  have a2:∀e i' j',some k=some (.nd e i' j')->i'∈I.take i/\j'∈I.take i:=λe i' j' z=>oo ok pm pf ep (by rw[al,z]);have a5:∀x∈I.take i,∀e i' j',U[x]?=some (some<|.nd e i' j')->i'∈I.take i/\j'∈I.take i:=λx hx e i' j' z=>by
   obtain⟨n,hn⟩:=DA hx;have ax:=qz hn;rw[A7] at ax;rw[List.getElem?_take_of_lt (by lia)] at hn;obtain⟨h1,h2⟩:=oo ok pm pf hn z;have sb:∀y,y∈I.take n->y∈I.take i:=λy hy=>by
    have:I.take n=(I.take i).take n:=by rw[List.take_take,BW (by lia)]
    rw[this] at hy;exact BK hy
   exact{sb _ h1,sb _ h2}
  have plain:tZ L' U I d w D i 1 f wd J L1:={G.sub,G.hd,G.hw,G.hD,G.len,G.val,G.gap,Cc G._l};refine{λm o L2=>∃wd',o=[some<|.tup [.ref a,j8 R],some<|.int s,some<|.int num,some<|.int g,some<|.int off,some<|.ref d,some<|.ref w,some<|.int (i:Int),some<|.int (p:Int),c9]/\tZ L' U I d w D i 1 f wd' J L2/\m=2*i+1-wd'.length,{_,wd,rfl,plain,rfl},?_};rintro m o L2 ⟨wd',rfl,C,rfl⟩;have wl:=C._l;refine qb C.hw {{by lia,by lia},?_};refine zp (λc=>?_) λc=>?_
  .have c:=c;rw[aR] at c;have dv:=VX (i:=(i:Int)) (A4 _) (show 1<=g by lia) ho;refine{λo L3=>∃j,o=[some<|.tup [.ref a,j8 R],some<|.int s,some<|.int num,some<|.int g,some<|.int off,some<|.ref d,some<|.ref w,some<|.int (i:Int),some<|.int (p:Int),c9]/\tZ L' U I d w D i 1 f j J L3/\j.length=wd'.length+1,?_,?_}
   .rintro o L3 ⟨j,rfl,G2,e⟩;exact{2*i+1-j.length,by lia,j,rfl,G2,rfl}
   .refine qb C.hw (qp C.hw {by rw[aR];exact big _ (by lia),?_});have:=C.wide (wd':=wd'++[none]) (ex':=1) a3 a0 a4 C.gap.gap (by rw[Ab];show wd'.length+1<=_;lia);rw[<-uo] at this;exact{_,EL _,wd'++[none],rfl,this,Ab}
  have vp:∀y:Nat,wv (oA J (.inl (p:Int))<|.int ((wd'.length:Nat):Int)) (.inl (y:Int))=if y∈I.take i++[p] then some (.int (((if y=p then wd'.length else f y):Nat):Int)) else none:=λy=>by
   rw[vC];by_cases e:y=p
   .subst e;rw[Ay rfl,Ay rfl,Ay<|Ae _<|Aj.mpr rfl]
   .rw[Au λz=>e<|Ck.mp<|Sum.inl.inj z,Au e,C.val];by_cases h:y∈I.take i
    .rw[Ay h,Ay<|Am _ h]
    .rw[Au h,Au λz=>(Ag.mp z).elim h λz=>e<|Aj.mp z]
  have kl:=C.len;refine qb C.hw ?_;rw[aR];refine kn C.hd {big _ (by lia),?_};have aL:=w6 ha hd;refine qb ((qc aL).trans<|C.sub _ _ ha)<|qj (aX hk) ?_;have ab:qf L2 d (.YD<|oA J (.inl (p:Int))<|.int ((wd'.length:Nat):Int)) w=some (.lst<|xx wd'):=(qc<|AJ a0).trans C.hw;have hb:∀x∈I.take i,x<U.length:=λx hx=>mq x<|BK hx;have done:hG (λo L1=>∃f wd J c7 c8 c9,o=[some<|.tup [.ref a,j8 R],some<|.int s,some<|.int num,some<|.int g,some<|.int off,some<|.ref d,some<|.ref w,c7,c8,c9]/\tZ L' U I d w D (i+1) 0 f wd J L1) [some<|.tup [.ref a,j8 R],some<|.int s,some<|.int num,some<|.int g,some<|.int off,some<|.ref d,some<|.ref w,some<|.int (i:Int),some<|.int (p:Int),some<|qH k] (qf (qf L2 d<|.YD<|oA J (.inl (p:Int))<|.int ((wd'.length:Nat):Int)) w<|.lst<|xx wd'++[eI<|pY f<|some k]):=by
   rw[uo];refine{_,EL _,λx=>if x=p then wd'.length else f x,wd'++[pY f<|some k],_,_,_,_,rfl,(C.sub.upd hd).upd a3,(qc a0).trans q9,q9,(qc<|AJ a4).trans<|(qc<|AJ ac).trans C.hD,?_,λy=>?_,?_,?_}
   .have:=wJ J (.inl (p:Int))<|.int ((wd'.length:Nat):Int);lia
   .rw[et];exact vp y
   .rw[et];exact C.gap.step hb pn al a5 a2
   .rw[Ab];show wd'.length+1<=_;lia
  refine qb ab ?_;cases k with
  |lf t n=>exact qp ab {by rw[aR];exact big _ (by lia),done}
  |nd e p1 p2=>
   obtain⟨m1,m2⟩:=a2 e p1 p2 rfl;have v1:=vp p1;have v2:=vp p2;rw[Ay<|Am _ m1,Au λ(z:p1=p)=>pn<|z▸m1] at v1;rw[Ay<|Am _ m2,Au λ(z:p2=p)=>pn<|z▸m2] at v2;refine kn ((q9:qf L2 d _ d=some _))<|qj v1 ?_;refine kn ((q9:qf L2 d _ d=some _))<|qj v2 ?_;exact qp ab {by rw[aR];exact big _ (by lia),done}
 .rintro o L1 ⟨f,wd,J,c7,c8,c9,rfl,G⟩;have eq:(lJ<|nY I).length=I.length:=by rw[cR];exact Ah ..
  rw[eq] at G;have et:I.take I.length=I:=Bp;have val:∀p,p<U.length->wv J (.inl (p:Int))=some (.int (f p:Int)):=λp hp=>by rw[G.val,et,Ay<|pm.mem_iff.mpr<|AM.mpr hp]
  have gap:yx U (List.range U.length) f wd:=by have g:=G.gap;rw[et] at g;exact{λp hp=>g.at_ p<|pm.mem_iff.mpr hp,λp hp r hr=>g.inj p (pm.mem_iff.mpr hp) r<|pm.mem_iff.mpr hr,λx k hx=>let ⟨r,hr,e⟩:=g.only x k hx;⟨r,pm.mem_iff.mp hr,e⟩,g.ok}
  have rd:=aF R;have tl:=T.tp.length_eq;rw[Bb] at tl;refine{R,d,J,f,rfl,G.hd,λB hB x hx=>val x (by rw[au];exact sr.pl B hB x hx),by lia,?_};have wl:=G._l;rw[lq] at wl;exact fC (qg.put G.sub G.hw) (q w f wd a3 {by rw[<-l];exact gap,by rw[<-l];lia})
section
open PySem.W
section
variable {K:Ak}(T:K.lookup Pt=some (PySem.W.tabObj #[]))
include T
def yM :clsIn (GT Pt K) C=clsIn K C:=by
 unfold clsIn;by_cases d:C=Pt
 .subst d;rw[aE,T]
 .rw[xo d]
def VZ{b:X4}:mroIn (GT Pt K) C b=mroIn K C b:=by unfold mroIn;rw[yM T]
def V0{t b:X4}:subIn (GT Pt K) t b=subIn K t b:=by
 unfold subIn;split
 .rfl
 .exact VZ T
 .rfl
end
section
variable {K:Ak}(T:K.lookup Pt=some (PySem.W.tabObj #[]))
include T
def ZY{a:Addr}(e:isFn K (.ref a)=true):isFn (GT Pt K) (.ref a)=true:=by
 unfold isFn at e ⊢;by_cases d:a=Pt
 .subst d;have h:typeIn K (.ref a)=some Value.none:=by show(List.lookup a K).map _=_;rw[T];rfl
  rw[h] at e;cases e
 .have h:typeIn (GT Pt K) (.ref a)=typeIn K (.ref a):=by show(List.lookup a<|GT Pt K).map _=(List.lookup a K).map _;rw[xo d]
  rw[h];exact e
def YH.dn(c:YH K C):YH (GT Pt K) C:=by
 obtain⟨pg,hd,po,sa⟩:=c;refine{?_,?_,?_,(Yd T).trans sa}
 .unfold plainGet;rw[Yd T,Yd T];exact pg
 .unfold hasDictIn;rw[yM T];exact hd
 .unfold plainOver;rw[yM T];exact po
def Zv(e:makesIn K C=true):makesIn (GT Pt K) C=true:=by
 unfold makesIn at e ⊢;by_cases d:C=Pt
 .subst d;rw[T] at e;cases e
 .have h:typeIn (GT Pt K) (.ref C)=typeIn K (.ref C):=by show(List.lookup C<|GT Pt K).map _=(List.lookup C K).map _;rw[xo d]
  have s:∀b,subIn (GT Pt K) b (.type "type")=subIn K b (.type "type"):=λb=>V0 T;unfold instIn at e ⊢;simp only[xo d,nQ T d,h,s];exact e
end
end
theorem ZR.dn{K:Ak}(T:K.lookup Pt=some (PySem.W.tabObj #[]))(x:ZR K C):ZR (GT Pt K) C:={YH.dn T x.cl,(Yd T).trans x.na}
def V1{a b:Nat}{n:Str}(J:wd[a]?=some (some<|.lf t n))(I:wd[b]?=some (some<|.lf (!t) n)):(xQ a b).1<(xQ a b).2/\∃t n,wd[(xQ a b).1]?=some (some<|.lf t n)/\wd[(xQ a b).2]?=some (some<|.lf (!t) n):=by
 have U:a≠b:=λh=>by subst h;rw[J] at I;cases t<;>cases I
 unfold xQ;by_cases c:a<b
 .rw[BW (by lia),Cn (by lia)];exact{(c),t,n,J,I}
 .rw[Cm (by lia),Cr (by lia)];exact{by show b<a;lia,!t,n,I,by rw[DO];exact J}
def V2(a b:Nat):(Y.tup [.int<|min (a:Int) (b:Int),.int<|max (a:Int) (b:Int)])=A_ (xQ a b):=by
 have I:min (a:Int) (b:Int)=((min a b:Nat):Int):=by omega
 have J:max (a:Int) (b:Int)=((max a b:Nat):Int):=by omega
 unfold A_ xQ;rw[I,J]
def az(nd:(GM lk).Nodup){x y:X2}(I:x∈lk)(J:y∈lk)(px:p=x.1\/p=x.2)(py:p=y.1\/p=y.2):x=y:=Decidable.byContradiction λc=>by have pm:=k8<|zN (wg nd) I J c;rw[jd,jd] at pm;have:=pm.nodup_iff.mp nd;rcases px with rfl|rfl<;>rcases py with e|e<;>simp[e] at this
def V3{l:List α}{a b:α}(h:l.Perm [a,b]):l=[a,b]\/l=[b,a]:=by
 cases l with
 |nil=>exact absurd h.length_eq (by simp)
 |cons u r=>
  rcases Ao.mp (h.mem_iff.mp Ai) with rfl|e
  .exact .inl (by rw[DK.mp<|List.Perm.cons_inv h])
  .cases Aj.mp e;exact .inr (by rw[DK.mp<|List.Perm.cons_inv<|h.trans<|List.Perm.swap ..])
def wq(p q:Nat)(z:X2):Bool:=!(decide (p=z.1\/p=z.2)||decide (q=z.1\/q=z.2))
def V4{z:X2}:(!wq p q z)=true↔(p=z.1\/p=z.2)\/(q=z.1\/q=z.2):=by unfold wq;simp
def sD(p x:Nat)(z:X2):Prop:=z=(p,x)\/z=(x,p)
def KA{z:X2}(h:p=z.1\/p=z.2):∃x,sD p x z:=by
 rcases h with rfl|rfl
 .exact{z.2,.inl rfl}
 .exact{z.1,.inr rfl}
def sD.mem{x:Nat}{z:X2}(h:sD p x z):p=z.1\/p=z.2:=by rcases h with rfl|rfl;exact .inl rfl;exact .inr rfl
def sD.lf(I:∀c∈lk,c.1<c.2/\∃t n,wd[c.1]?=some (some<|.lf t n)/\wd[c.2]?=some (some<|.lf (!t) n)){x:Nat}{z:X2}{n:Str}(h:sD p x z)(hz:z∈lk)(hp:wd[p]?=some (some<|.lf t n)):wd[x]?=some (some<|.lf (!t) n):=by
 obtain⟨_,g,j,J,U⟩:=I z hz;rcases h with rfl|rfl
 .rw[hp] at J;cases J;exact U
 .rw[hp] at U;cases U;rw[DO];exact J
def sD.GM{x:Nat}{z:X2}(h:sD p x z)(r:XS):(z.1::z.2::r).Perm (p::x::r):=by
 rcases h with rfl|rfl
 .exact .refl _
 .exact .swap ..
def V5(nd:(GM lk).Nodup){x0 y0:X2}(I:x0∈lk)(U:y0∈lk)(px:p=x0.1\/p=x0.2)(l:q=y0.1\/q=y0.2):
 (x0=y0/\(lk.filter λz=>!wq p q z)=[x0])\/(x0≠y0/\lk.filter (wq p q)=(lk.filter λz=>decide (z≠x0)&&decide (z≠y0))/\((lk.filter λz=>!wq p q z)=[x0,y0]\/(lk.filter λz=>!wq p q z)=[y0,x0])):=by
 have key:∀z∈lk,(!wq p q z)=true↔z=x0\/z=y0:=λz J=>by
  rw[V4];constructor
  .rintro(h|h)
   .exact .inl<|az nd J I h px
   .exact .inr<|az nd J U h l
  .rintro(rfl|rfl)
   .exact .inl px
   .exact .inr l
 have nl:=wg nd;by_cases c:x0=y0
 .refine .inl {c,DK.mp<|(Bg (nl.filter _) (by simp)).mpr λz=>?_};rw[AF,Aj];constructor
  .rintro⟨g,j⟩;rcases (key z g).mp j with e|e;exact e;exact e.trans c.symm
  .rintro rfl;exact{I,(key _ I).mpr<|.inl rfl}
 .refine .inr {c,Cv λz J=>?_,V3<|(Bg (nl.filter _) (by simp[c])).mpr λz=>?_}
  .have:=key z J;cases o:wq p q z with
   |true=>
    rw[o] at this;simp at this;simp[this]
   |false=>
    rw[o] at this;rcases this.mp rfl with rfl|rfl<;>simp
  .rw[AF];constructor
   .rintro⟨g,j⟩;rcases (key z g).mp j with rfl|rfl<;>simp
   .intro h;have h:z=x0\/z=y0:=by simpa using h
    rcases h with rfl|rfl
    .exact{I,(key _ I).mpr<|.inl rfl}
    .exact{U,(key _ U).mpr<|.inr rfl}
section
variable {w:X7}
def xD{a:Addr}{Q:Option Obj->X5->Prop}(h:Q (s.heap.get? a) s):wpAny M A (loadIfAlive a) Q E s:=by intro J I p;simp only[loadIfAlive,Sem.wp_loadIfAlive];exact h
abbrev jS(h:X8)(z TI TO t:Addr)(b:Bool):Prop:=h.get? z=some {cls:=.type "zip",dict:=none,data:=.fields #[rawInt t,.bool b,.bool false,.ref TI,.ref TO],slots:=#[]}
def vE{z TI TO t:Addr}{b:Bool}{o:Obj}{Q:Bool->X5->Prop}(hz:jS s.heap z TI TO t b)(I:s.heap.get? t=some o)(q:∀h',jS h' z TI TO t true->Heap.SameBut z s.heap h'->Q false {s with heap:=h'}):
 wpAny (model prog w) A (Builtin.SmallTypes.ownedTupleIsFree<|.ref z) Q E s:=by
 refine Aa<|A8 hz rfl (x:=rawInt t) rfl ?_;refine Aa<|xD ?_;rw[BB,I];refine Aa<|A8 hz rfl (x:=.bool b) rfl ?_;cases b with
 |true=>
  rw[Au (by decide)];exact Al<|q s.heap hz {rfl,λ_ _=>rfl}
 |false=>
  rw[Ay (by decide)];exact Aa<|wpAny_setField_rec hz (by simp) λh' J U=>Al<|q h' J U
def V6{z TI TO t:Addr}{c:Bool}{o:Obj}{k:Nat}{xs ys:XR}{x y:X4}(D:Fu z TI TO i1 i2 l1 l2)(hz:jS s.heap z TI TO t c)(r:s.heap.get? t=some o)(C:IsPair s.heap TI (.ref i1)<|.ref i2)
 (h1:dq t1 s.heap i1 l1 k) (h2:dq t2 s.heap i2 l2 k) (T:kJ t1 s.heap l1 xs) (q2:kJ t2 s.heap l2 ys) (hx:xs[k]?=some x) (hy:ys[k]?=some y)
 (q:∀h',jS h' z TI TO t true->dq t1 h' i1 l1 (k+1)->dq t2 h' i2 l2 (k+1)->IsPair h' s.heap.objs.size x y->
  (∀c o,c≠z->c≠i1->c≠i2->s.heap.get? c=some o->h'.get? c=some o)->Q (.ref s.heap.objs.size) {s with heap:=h'}):
 wpAny (model prog w) A (Builtin.«zip.__next__» ⟨[.ref z],[]⟩) (λxg s'=>∃v,xg=.done (.ret v)/\Q v s') E s:=by
 refine Aa (m:=field (.ref z) 2)<|A8 hz rfl (x:=.bool false) rfl<|Aa (m:=field (.ref z) 3)<|A8 hz rfl (x:=.ref TI) rfl<|Aa<|Bv C rfl ?_;refine Aa (m:=Builtin.SmallTypes.ownedTupleIsFree<|.ref z)<|vE hz r λg1 z1 I=>?_;simp only[B4,if_false];refine Aa ?_;rw[<-Array.forIn_toList];simp only[Cq,Dm];refine Aa<|Aa<|A9<|Aa (m:=Builtin.SmallTypes.nextOf<|.ref i1)<|(h1.on λo e=>I.extBut _ _ D.n3 e).next (T.on λo e=>I.extBut _ _ D.n8 e) hx λg2 g J=>Al<|Al ?_;refine Aa<|Aa<|A9<|Aa (m:=Builtin.SmallTypes.nextOf<|.ref i2)<|dq.next (l:=l2) (i:=k) (xs:=ys) (x:=y) (t:=t2) (h2.on λo e=>J.extBut _ _ (AJ D.n7)<|I.extBut _ _ D.n4 e) (q2.on λo e=>J.extBut _ _ D._N<|I.extBut _ _ D._O e) hy λj p U=>Al<|Al<|Al ?_;refine Aa (wpAny_newTuple (Al {_,rfl,?_}) (by show 2<=sizeLine;decide));have sz:j.objs.size=s.heap.objs.size:=by rw[U.1,J.1,I.1]
 have k4:∀c o,c≠z->c≠i1->c≠i2->s.heap.get? c=some o->(j.push {cls:=.type "tuple",data:=.seq #[x,y]}).get? c=some o:=λc o a1 a3 a4 e=>oi _<|U.extBut _ _ a4<|J.extBut _ _ a3<|I.extBut _ _ a1 e;have xg:=q (j.push {cls:=.type "tuple",data:=.seq #[x,y]}) (oi _<|U.extBut _ _ (AJ D.n4)<|J.extBut _ _ (AJ D.n3) z1) (g.on λo e=>oi _<|U.extBut _ _ D.n7 e) (p.on λo e=>oi _ e)
  (by rw[<-sz];exact pG _ rfl) k4
 rw[sz];exact xg
def V7{z TI TO t:Addr}{c:Bool}{o:Obj}{k:Nat}{xs ys:XR}{Q:Fin->X5->Prop}(hh:A.handled=none)(D:Fu z TI TO i1 i2 l1 l2)(hz:jS s.heap z TI TO t c)(ht:s.heap.get? t=some o)(hI:IsPair s.heap TI (.ref i1)<|.ref i2)
 (h1:dq t1 s.heap i1 l1 k) (h2:dq t2 s.heap i2 l2 k) (q1:kJ t1 s.heap l1 xs) (q2:kJ t2 s.heap l2 ys) (J:xs[k]?=none\/ys[k]?=none)
 (q:∀h' e,(∀c o,c≠z->c≠TO->c≠i1->c≠i2->s.heap.get? c=some o->h'.get? c=some o)->(∃o,h'.get? e=some o/\o.cls=.type "StopIteration")->E (.ref e) {s with heap:=h'}):
 wpAny (model prog w) A (Builtin.«zip.__next__» ⟨[.ref z],[]⟩) Q E s:=by
 refine Aa (m:=field (.ref z) 2)<|A8 hz rfl (x:=.bool false) rfl<|Aa (m:=field (.ref z) 3)<|A8 hz rfl (x:=.ref TI) rfl<|Aa<|Bv hI rfl ?_;refine Aa (m:=Builtin.SmallTypes.ownedTupleIsFree<|.ref z)<|vE hz ht λg1 z1 I=>?_;simp only[B4,if_false];refine Aa ?_;rw[<-Array.forIn_toList];simp only[Cq,Dm];refine Aa<|Aa<|A9<|Aa (m:=Builtin.SmallTypes.nextOf<|.ref i1) ?_;have U:=h1.on λo e=>I.extBut _ _ D.n3 e;have g:=q1.on λo e=>I.extBut _ _ D.n8 e;cases j:xs[k]? with
 |none=>exact dq.stop hh U g j λg2 e s2 p=>q g2 e (λc o r _ C _ w=>s2 _ _ C<|I.extBut _ _ r w) p
 |some x=>
  have hy:ys[k]?=none:=by rcases J with h|h;rw[j] at h;cases h;exact h
  refine dq.next U g j λg2 a0 T=>Al<|Al ?_;refine Aa<|Aa<|A9<|Aa (m:=Builtin.SmallTypes.nextOf<|.ref i2)<|dq.stop (t:=t2) (l:=l2) (i:=k) (xs:=ys) hh (h2.on λo e=>T.extBut _ _ (AJ D.n7)<|I.extBut _ _ D.n4 e) (q2.on λo e=>T.extBut _ _ D._N<|I.extBut _ _ D._O e) hy λg4 e s4 p=>?_;exact q g4 e (λc o r _ C a4 w=>s4 _ _ a4<|T.extBut _ _ C<|I.extBut _ _ r w) p
def ZS(t1 t2:Bool)(z TI TO i1 i2 l1 l2 B:Addr)(i:Nat)(h:X8):Prop:=
 ((IsZip h z TI TO .none/\∃a b,IsPair h TO a b)\/∃t c u v,B<=t/\jS h z TI TO t c/\IsPair h t u v)/\IsPair h TI (.ref i1) (.ref i2)/\dq t1 h i1 l1 i/\dq t2 h i2 l2 i
structure ZB(z TI TO i1 i2 l1 l2 B:Addr):Prop where
 ap:Fu z TI TO i1 i2 l1 l2
 d1:TI≠TO
 d2:TI≠i1
 d3:TI≠i2
 lt:∀c∈[z,TI,TO,i1,i2],c<B
section
variable {z TI TO B:Addr}{xs ys:XR}
def ZS.keep(st:ZS t1 t2 z TI TO i1 i2 l1 l2 B i h)(k:∀b o,b∈[z,TI,TO,i1,i2]\/B<=b->h.get? b=some o->h'.get? b=some o):ZS t1 t2 z TI TO i1 i2 l1 l2 B i h':=by
 obtain⟨J,U,g,j⟩:=st;refine{?_,k _ _ (.inl (by simp)) U,g.on λo e=>k _ o (.inl (by simp)) e,j.on λo e=>k _ o (.inl (by simp)) e};rcases J with⟨a,u,v,b⟩|⟨t,c,u,v,I,a,b⟩
 .exact .inl {k _ _ (.inl (by simp)) a,u,v,k _ _ (.inl (by simp)) b}
 .exact .inr {t,c,u,v,I,k _ _ (.inl (by simp)) a,k _ _ (.inr I) b}
def ZS.type(st:ZS t1 t2 z TI TO i1 i2 l1 l2 B i s.heap):s.TypeIs (.ref z) "zip" := by
 rcases st.1 with⟨a,_⟩|⟨t,c,u,v,I,a,b⟩
 .exact{_,a,rfl}
 .exact{_,a,rfl}
theorem V8{x y:X4}{Q:XY->X5->Prop}(D:ZB z TI TO i1 i2 l1 l2 B)(hB:B<=s.heap.objs.size)(st:ZS t1 t2 z TI TO i1 i2 l1 l2 B i s.heap)(p:kJ t1 s.heap l1 xs)(r:kJ t2 s.heap l2 ys)(C:xs[i]?=some x)(T:ys[i]?=some y)
 (q:∀h',ZS t1 t2 z TI TO i1 i2 l1 l2 B (i+1) h'->IsPair h' s.heap.objs.size x y->(∀c o,c∉[z,TI,TO,i1,i2]->s.heap.get? c=some o->h'.get? c=some o)->Q (some<|.ref s.heap.objs.size) {s with heap:=h'}):
 wpAny (model prog w) A (pyNext<|.ref z) Q E s:=by
 have hT:=st.type;obtain⟨s1,U,s3,s4⟩:=st;refine Aa<|wpAny_attempt<|wpAny_callSpecial?_slot (name:="__next__") hT xu<|wpAny_call_entry xu hT F.entry_zip_next ?_<|F.args_zip_next_1 _;have ne:∀{c d:Addr},c∈[z,TI,TO,i1,i2]->B<=d->d≠c:=λh1 h2 z=>by have:=D.lt _ h1;rw[z] at h2;exact absurd h2<|Nat.not_le.mpr this
 rcases s1 with⟨a,u,v,b⟩|⟨t,c,u,v,g,a,b⟩
 .refine RW D.ap a U b s3 s4 p r C T λh' g1 g2 g3 l j J=>Al<|q h' {.inr {_,false,x,y,hB,g1,j},J _ _ D.ap.n1 D.d1 D.d2 D.d3 U,g3,l} j λc o I e=>?_;simp only[Ao,Bo,or_false,not_or] at I;exact J c o I.1 I.2.2.1 I.2.2.2.1 I.2.2.2.2 e
 .refine V6 D.ap a b U s3 s4 p r C T λh' g1 g3 l j J=>Al<|q h' {.inr {t,true,u,v,g,g1,J _ _ (ne (by simp) g) (ne (by simp) g) (ne (by simp) g) b},J _ _ D.ap.n1 D.d2 D.d3 U,g3,l} j λc o I e=>?_;simp only[Ao,Bo,or_false,not_or] at I;exact J c o I.1 I.2.2.2.1 I.2.2.2.2 e
theorem V9{Q:XY->X5->Prop}(g:A.handled=none)(D:ZB z TI TO i1 i2 l1 l2 B)(st:ZS t1 t2 z TI TO i1 i2 l1 l2 B i s.heap)(j:kJ t1 s.heap l1 xs)(l:kJ t2 s.heap l2 ys)(I:xs[i]?=none\/ys[i]?=none)
 (q:∀h',(∀c o,c∉[z,TI,TO,i1,i2]->s.heap.get? c=some o->h'.get? c=some o)->Q none {s with heap:=h'}):wpAny (model prog w) A (pyNext<|.ref z) Q E s:=by
 have p:=st.type;obtain⟨s1,r,C,s4⟩:=st;refine Aa<|wpAny_attempt<|wpAny_callSpecial?_slot (name:="__next__") p xu<|wpAny_call_entry xu p F.entry_zip_next ?_<|F.args_zip_next_1 _;have xg:∀h' e,(∀c o,c≠z->c≠TO->c≠i1->c≠i2->s.heap.get? c=some o->h'.get? c=some o)->(∃o,h'.get? e=some o/\o.cls=.type "StopIteration")->wpAny (model prog w) A (isInstance (.ref e) (.type "StopIteration") >>= λb=>if b=true then pure none else throw (.ref e)) Q E {s with heap:=h'}:=λh' e gk he=>by obtain⟨o,ho,U⟩:=he;refine Aa<|wpAny_isInstance (T:="StopIteration") (b:=true) {(o),ho,U} isSubtype_stop<|Al<|q h' λc o J e=>?_;simp only[Ao,Bo,or_false,not_or] at J;exact gk c o J.1 J.2.2.1 J.2.2.2.1 J.2.2.2.2 e
 rcases s1 with⟨a,u,v,b⟩|⟨t,c,u,v,hb,a,b⟩
 .exact RX g D.ap a r b C s4 j l I xg
 .exact V7 g D.ap a b r C s4 j l I xg
end
end
inductive uU:Hp->List Addr->List (V×V)->Hp->Prop
 |nil {H:Hp}:uU H [] [] H
 |snoc {H H1:Hp} {ps:List Addr} {vs:List<|V×V} {p:Addr} {v:V×V}:uU H ps vs H1->H1 p=none->uU H (ps++[p]) (vs++[v]) (upd H1 p<|.tup [v.1,v.2])
def V'{a b:Addr}{o u:HO}(h:a≠b):upd (upd H a o) b u=upd (upd H b u) a o:=by
 funext c;by_cases I:c=a
 .subst I;rw[qm h,zg,zg]
 .by_cases J:c=b
  .subst J;rw[zg,qm I,zg]
  .rw[qm J,qm I,qm I,qm J]
def Sq.new{K:Ak}{a p:Addr}{o:HO}(h:Sq t K H a xs)(hp:H p=none):Sq t K (upd H p o) a xs:=by
 have rd:∀u,Rd H a u->Rd (upd H p o) a u:=λu r=>by
  rcases r with r|⟨c,r⟩
  .exact .inl (by rw[qm<|zo r hp];exact r)
  .exact .inr {c,by rw[qm<|zo r hp];exact r}
 cases t with|false=>exact h.imp (rd _) id|true=>exact h.imp (rd _) id
section
variable {σ:St}{z TI TO S:Addr}{ys:X_}{R:Result->X5->Prop}{res:X4}
theorem Wa(hh:A.handled=none)(D:ZB z TI TO i1 i2 l1 l2<|S+1)(hS:S∉[z,TI,TO,i1,i2])(hR:∀s' G ps,z9 X pins σ (upd G S<|.lst<|ps.map V.ref) s'->uU H ps (xs.zip ys) G->G S=none->R (.ok<|.ret res) s'):
 ∀(k i:Nat) (s:X5) (G:Hp) (ps:List Addr),min xs.length ys.length-i=k->i<=min xs.length ys.length->z9 X pins σ (upd G S<|.lst<|ps.map V.ref) s->(∀b∈[z,TI,TO,i1,i2],mL X pins (upd G S<|.lst<|ps.map V.ref) b)->ZS t1 t2 z TI TO i1 i2 l1 l2 (S+1) i s.heap->uU H ps ((xs.zip ys).take i) G->G S=none->Sq t1 X.K G l1 xs->Sq t2 X.K G l2 ys->ps.length=i->
  codeAny (model X.prog X.w) A (.builtin "list.extend.loop" ⟨[.ref S,.ref z,res],[]⟩) R s:=by
 have zl:(xs.zip ys).length=min xs.length ys.length:=C9;intro k
 induction k with
 |zero=>
  intro i s G ps hk hi I hf st nt j J U hl;have hi:min xs.length ys.length<=i:=by lia
  obtain⟨a1,p,p1,_⟩:=I.seq<|J.new j;obtain⟨a2,t,p2,_⟩:=I.seq<|U.new j;have e1:=p.length;have e2:=t.length;refine codeAny_builtin F.entry_extend_loop ?_;rw[xa xb _];rw[AU (by lia)] at nt;refine Aa (m:=pyNext<|.ref z) (V9 hh D st p1 p2 (by rcases Nat.le_total xs.length ys.length with h|h;exact .inl (by simp;lia);exact .inr (by simp;lia)) λh' kk=>Al<|hR _ G ps (I.Zb (t':=s.toks) (fp:=[z,TI,TO,i1,i2]) kk hf) nt j)
 |succ k ih=>
  intro i s G ps hk hi I hf st nt j J U hl;obtain⟨a1,p,p1,z1⟩:=I.seq<|J.new j;obtain⟨a2,t,p2,_⟩:=I.seq<|U.new j;have hx:xs[i]?=some (xs[i]'(by lia)):=An (by lia);have hy:ys[i]?=some (ys[i]'(by lia)):=An (by lia);have ez:(xs.zip ys).take (i+1)=(xs.zip ys).take i++[(xs[i]'(by lia),ys[i]'(by lia))]:=by rw[Bm,(DV (z:=(xs[i]'(by lia),ys[i]'(by lia)))).mpr {(hx),hy}];rfl
  generalize xs[i]'(by lia)=x at hx ez;generalize ys[i]'(by lia)=y at hy ez;obtain⟨ux,a3,a4⟩:=p.get hx;obtain⟨uy,a5,ab⟩:=t.get hy;obtain⟨_,_,_,_,_,eS⟩:=I.YO (l:=S) zg;have lS:=pj eS;refine codeAny_builtin F.entry_extend_loop ?_;rw[xa xb _];refine Aa (m:=pyNext<|.ref z)<|V8 D lS st p1 p2 (x:=ux) (y:=uy) (by simpa using a3) (by simpa using a5) λh' ac tp kk=>?_;have I1:=I.Zc (t':=s.toks) (fp:=[z,TI,TO,i1,i2]) (h':=h') (a:=s.heap.objs.size) (o:=.tup [x,y]) kk hf (Ap _) {by show 2<=sizeLine;decide,[ux,uy],.cons a4<|.cons ab .nil,{_,tp,rfl,_,rfl}};have C:=AY lS;have gP:G s.heap.objs.size=none:=by have:=I.HT.fresh<|Ap s.heap.objs.size;rw[qm<|AJ C] at this;exact this
  generalize s.heap.objs.size=P at I1 C gP lS tp ⊢;have T:upd (upd G S<|.lst<|ps.map V.ref) P (.tup [x,y]) S=some (.lst<|ps.map V.ref):=by rw[qm C,zg]
  obtain⟨_,a0,n,r,hn,e⟩:=I1.YO T;rw[Ah,hl] at hn;have I2:=I1.Zl (its':=a0++[.ref P]) (f:=(·.push (.ref P))) (ys:=(ps++[P]).map V.ref) (t':=s.toks) T e (by simp) (by rw[AI];exact r.append<|.cons rfl .nil) (by rw[Ah,Ab,Ba];lia);rw[V' C,HE] at I2;have li:a0.length=i:=by lia
  refine Aa (m:=updateSeq S (·.push (.ref P))) (wpAny_updateSeq (s:={s with heap:=h'}) e rfl (Al {plainId_quiet xb _,ih (i+1) _ (upd G P<|.tup [x,y]) (ps++[P]) (by lia) (by lia) I2 (λb g=>?_) (ac.keep λb o g q=>?_) (by rw[ez];exact nt.snoc gP) (by rw[qm C];exact j) (J.new gP) (U.new gP) (by rw[Ab,hl];rfl)})
   (by rw[Az];lia) (by rw[Bx,Az];lia))
  .obtain⟨f0,f1⟩:=hf b g;have bl:=D.lt b g;have bS:b≠S:=λz=>hS<|z▸g;refine{?_,f1};rw[qm bS,qm (by lia)];rw[qm bS] at f0;exact f0
  .have bS:S≠b:=by
    rcases g with g|g
    .exactλz=>hS<|z▸g
    .lia
   exact(p0 _ _ bS).trans q
def Wb:typeLookup (.type "zip") "__len__" = pure none:=by rw[typeLookup_type,builtinLookup_eq_fast];kernel_rfl
def yk:typeLookup (.type "zip") "__length_hint__" = pure none:=by rw[typeLookup_type,builtinLookup_eq_fast];kernel_rfl
def Wc{r:Addr}{Q:Bool->X5->Prop}(J:s.TypeIs (.ref r) "zip")(h:Q true s):wpAny (model X.prog X.w) A (Builtin.List.listLengthHint<|.ref r) Q E s:=by refine Aa<|wpAny_specialOf J Wb ?_;refine wpAny_ite_split (λI=>absurd I (by decide)) λ_=>?_;refine wpAny_ite_split (λI=>absurd I (by decide)) λ_=>?_;refine Aa<|wpAny_specialOf J yk<|Al h
theorem tH(hh:A.handled=none)(I:z9 X pins σ H s)(D:ZB z TI TO i1 i2 l1 l2 s.heap.objs.size)(hz:IsZip s.heap z TI TO .none)(hf:∀b∈[z,TI,TO,i1,i2],mL X pins H b)(st:ZS t1 t2 z TI TO i1 i2 l1 l2 (s.heap.objs.size+1) 0 s.heap)(t:Sq t1 X.K H l1 xs)(C:Sq t2 X.K H l2 ys)
 (q:∀s' G ps,z9 X pins σ (upd G s.heap.objs.size<|.lst<|ps.map V.ref) s'->uU H ps (xs.zip ys) G->G s.heap.objs.size=none->Q (.ref s.heap.objs.size) s'):wpAny (model X.prog X.w) A (call (.type "list") [.ref z]) Q E s:=by
 have hn:=I.HT.fresh<|Ap s.heap.objs.size;have hS:s.heap.objs.size∉[z,TI,TO,i1,i2]:=λh=>Cw _<|D.lt _ h;have D':ZB z TI TO i1 i2 l1 l2 (s.heap.objs.size+1):={D.ap,D.d1,D.d2,D.d3,λc hc=>B8<|D.lt c hc};refine callType_codes (Q₁:=λobj U=>obj=.ref s.heap.objs.size/\U={s with heap:=s.heap.push {cls:=.type "list",data:=.seq #[]}}) F.called_list (F.typeCall_list_1 _) F.entry_list_init (code_list_new _ {(rfl),rfl}) λobj U g=>?_;obtain⟨rfl,rfl⟩:=g;have l:(s.heap.push {cls:=.type "list",data:=.seq #[]}).get? s.heap.objs.size=some {cls:=.type "list",data:=.seq #[]}:=pG _ rfl;have _x:=st.keep (h':=s.heap.push {cls:=.type "list",data:=.seq #[]}) λb o _ e=>oi _ e;refine{{_,l,rfl},F.args_list_init_2 _ _,?_};have key:∀(h:X8) (c:Nat),h.get? s.heap.objs.size=some {cls:=.type "list",data:=.seq #[] c}->(∀b o,b≠s.heap.objs.size->(s.heap.push {cls:=.type "list",data:=.seq #[]}).get? b=some o->h.get? b=some o)->
  codeAny (model X.prog X.w) A.in1 (.builtin "list.extend.loop" ⟨[.ref s.heap.objs.size,.ref z,.none],[]⟩) (wants (λr j=>r=.none/\Q (.ref s.heap.objs.size) j) E) {s with heap:=h}:=λh c e k=>by
  refine Wa (X:=X) (pins:=pins) (σ:=σ) (H:=H) (xs:=xs) (ys:=ys) (A:=A.in1) hh D' hS (λs' G ps I' nt gS=>{rfl,q s' G ps I' nt gS}) _ 0 _ H [] rfl (Bf _) ?_ (λb J=>?_) (_x.keep λb o J e=>k b o ?_ e) .nil hn t C rfl
  .exact I.laid (t':=s.toks) (h':=h) (a:=s.heap.objs.size) (o:=.lst []) (λb u e=>k b u (AY<|pj e)<|oi _ e) (Ap _) {Bf _,[],c,.nil,e}
  .obtain⟨f0,f1⟩:=hf b J;exact{by rw[qm<|AY<|D.lt b J];exact f0,f1}
  .rcases J with J|J
   .exact AY<|D.lt b J
   .exact CL J
 refine Aa ?_;refine Aa<|Bv l rfl<|Al ?_;refine Aa (m:=updateSeq s.heap.objs.size λ_=>#[])<|wpAny_updateSeq l rfl ?_;have e2:=qy (Obj.mapSeq λ_=>(#[]:XR)) l rfl;have p:∀b o,b≠s.heap.objs.size->(s.heap.push {cls:=.type "list",data:=.seq #[]}).get? b=some o->((s.heap.push {cls:=.type "list",data:=.seq #[]}).update s.heap.objs.size<|Obj.mapSeq λ_=>(#[]:XR)).get? b=some o:=λb o J e=>(p0 _ _<|AJ J).trans e;generalize (s.heap.push {cls:=.type "list",data:=.seq #[]}).update s.heap.objs.size (Obj.mapSeq λ_=>(#[]:XR))=g2 at e2 p ⊢;refine Aa<|wpAny_letGo ?_;have a0:=_x.keep (h':=g2) λb o J e=>p b o (by rcases J with J|J;exact AY<|D.lt b J;exact CL J) e;have T2:=a0.type (s:={s with heap:=g2});refine Aa<|wpAny_typeOf (T:="zip") T2 ?_;have sr:Builtin.List.listSameRef (.ref s.heap.objs.size) (.ref z)=false:=by have:s.heap.objs.size≠z:=λe=>hS (by rw[e];simp);simp[Builtin.List.listSameRef,this]
 rw[Au (by rw[sr];decide)];refine Aa<|wpAny_pyIter_zip (s:={s with heap:=g2}) (p _ _ (AY<|D.lt z (by simp))<|oi _ hz) ?_;refine Aa<|A9<|Wc T2 ?_;rw[Ay (by decide)];refine Aa<|BH<|Aa ?_;refine Aa<|wpAny_updateSeq (s:={s with heap:=g2}) e2 rfl ?_;have e3:=qy (Obj.mapSeq (·.push Value.none)) e2 rfl;refine wpAny_updateSeq (hz:=by seq_fits) e3 rfl ?_;have e4:=qy (Obj.mapSeq (·.pop)) e3 rfl;exact Al {plainId_quiet xb _,key _ _ e4 λb o J e=>(p0 _ _<|AJ J).trans<|(p0 _ _<|AJ J).trans<|p b o J e}
end
def We(X:Cx)(ta:TA):TE:=λσ H Q=>ta σ H λvs H1=>∃t1 t2 a b xs ys,vs=[.ref a,.ref b]/\Sq t1 X.K H1 a xs/\Sq t2 X.K H1 b ys/\∀S G ps,uU H1 ps (xs.zip ys) G->G S=none->Q (.ref S) (upd G S<|.lst<|ps.map V.ref)
def yA{a b:Expr}{ta:TA}{ps:Pos}(hc:X.calm=true)(t:Gl X "list")(C:X.mg "list"=none)(T:Gl X "zip")(a0:X.mg "zip"=none)(ha:PA X [a,b] ta)(hs:starEach [a,b] X.env=[(false,eval a X.env),(false,eval b X.env)]:=by rfl)
 (U:starEach [b] X.env=[(false,eval b X.env)]:=by rfl):PE X (.Call (.Name "list" p1) [.Call (.Name "zip" p2) [a,b] [] ps] [] pos) (We X ta):=by
 intro g s σ H Q I h;refine wpAny_Call_Name_kw<|dm I t C wc ?_;refine callWith_type1 ?_ rfl rfl;refine wh ?_;refine wpAny_Call_Name_kw<|dm I T a0 RZ ?_;refine callWith_type1 (aN (ha ps g s σ H _ I h) λus j ψ=>?_) (by rw[hs,U]) (by rw[U];rfl);obtain⟨vs,H1,J,r1,q1⟩:=ψ;obtain⟨t1,t2,l1,l2,xs,ys,e,hx,hy,q⟩:=q1;subst e;obtain⟨u1,u2,rfl,a1,a2⟩:=zn.two r1;cases a1;cases a2;obtain⟨a5,_,w1,_⟩:=J.seq hx;obtain⟨ab,_,w2,_⟩:=J.seq hy;have a3:l1<j.heap.objs.size:=by
  cases t1 with
  |false=>obtain⟨o,e,_⟩:=w1;exact pj e
  |true=>obtain⟨o,e,_⟩:=w1;exact pj e
 have ac:l2<j.heap.objs.size:=by
  cases t2 with
  |false=>obtain⟨o,e,_⟩:=w2;exact pj e
  |true=>obtain⟨o,e,_⟩:=w2;exact pj e
 refine RY w1 w2 λg1 gz gI gO l p gk=>xp ?_;have I2:=J.kept (t':=j.toks) gk;refine tH (s:={j with heap:=g1}) (J.ok.hd hc) I2 {?_,?_,?_,?_,λc hc=>?_} gz (λc hc=>?_) {.inl {gz,_,_,gO},gI,l,p} hx hy λs' G ps I' nt gS=>{.ref _,_,I',rfl,q _ G ps nt gS}
 .have a4:=a3;constructor<;>exact xN (by lia)
 .exact xN (by lia)
 .exact xN (by lia)
 .exact xN (by lia)
 .simp only[Ao,Bo,or_false] at hc;rcases hc with rfl|rfl|rfl|rfl|rfl
  .exact pj gz
  .exact pj gI
  .exact pj gO
  .obtain⟨o,e,_⟩:=l.ob;exact pj e
  .obtain⟨o,e,_⟩:=p.ob;exact pj e
 .have r:j.heap.objs.size<=c:=by simp only[Ao,Bo,or_false] at hc;rcases hc with rfl|rfl|rfl|rfl|rfl<;>exact xT (by simp +arith only)
  exact J.Zj r<|J.HT.fresh r
def Wf{H1:Hp}{ps:List Addr}{vs:List<|V×V}(n:uU H ps vs H1)(J:j9 G H L):jc H H1/\j9 G H1 L/\Paired (λp (v:V×V)=>H1 p=some (.tup [v.1,v.2])) ps vs:=by
 induction n with
 |nil=>exact{EM _,J,.nil}
 |snoc _ I U=>
  obtain⟨a,b,c⟩:=U;exact{a.trans<|EN I,b.skip I,Paired.app (ER c λq v e=>(qm<|zo e I).trans e)<|.cons zg .nil}
theorem u3{G:G3}{H H1:Hp}(t:jc H H1):∀{xs ys:_T} {us vs:X_} {ps:List Addr},xr G H xs us->xr G H ys vs->Paired (λp (v:V×V)=>H1 p=some (.tup [v.1,v.2])) ps (us.zip vs)->xr G H1 (G4 xs ys) (ps.map V.ref)
 |[],ys,us,vs,ps,J,U,I=>by cases J;cases I;rfl
 |x::xs,[],us,vs,ps,J,U,I=>by cases U;rw[List.zip_nil_right] at I;cases I;rfl
 |x::xs,y::ys,us,vs,ps,ψ,χ,I=>by obtain⟨u,g,j,l,J⟩:=ψ;obtain⟨v,o,r,C,U⟩:=χ;subst j r;cases I with|cons a b=>exact{_,_,rfl,{_,_,rfl,eE.of a,{_,_,rfl,l.ts t,_,_,rfl,C.ts t,rfl}},u3 t J U b}
def KC(ta:fE)(τ:jq)(L:qk)(Q:YK):Prop:=ta τ L λvs L1=>match vs with
 |[x,y]=>kD L1 x λxs=>kD L1 y λys=>∀p,L1 p=none->Q (.ref p) (qf L1 p<|.lst<|G4 xs ys)
 |_=>False
def Wg{a b:Expr}{ta:fE}{ps:Pos}(hc:X.calm=true)(U:Gl X "list")(g:X.mg "list"=none)(j:Gl X "zip")(l:X.mg "zip"=none)(ha:QA X [a,b] ta)(hs:starEach [a,b] X.env=[(false,eval a X.env),(false,eval b X.env)]:=by rfl)
 (o:starEach [b] X.env=[(false,eval b X.env)]:=by rfl):QE X (.Call (.Name "list" p1) [.Call (.Name "zip" p2) [a,b] [] ps] [] pos) (KC ta):=EO (yA hc U g j l ha hs o) λσ H Q τ L Q3 rs rl z k=>
 ⟨τ,L,_,rs,rl,z,λus H1 ys L1 t1 I p r=>by
  split at r
  .rename_i x y;obtain⟨xs,ex,z2⟩:=aV r;obtain⟨zs,ez,z3⟩:=aV z2;obtain⟨u,v,rfl,r1,r2⟩:=p.inv2;obtain⟨b1,q1,t,rfl,s1,w1⟩:=I0 I r1 ex;obtain⟨b2,q2,C,rfl,s2,w2⟩:=I0 I r2 ez;refine{b1,b2,q1,q2,t,C,rfl,s1,s2,λS G ps nt T=>?_};obtain⟨t2,J,pr⟩:=Wf nt I;exact k _ _ _ _ ((t1.trans t2).trans<|EN T) (J.YX T<|u3 t2 w1 w2 pr) (by rfl) (z3 S<|J.none T)
  .exact r.elim⟩
theorem Paired.len{α β:Type}{F:α->β->Prop}:∀{xs:List α} {ys:List β},Paired F xs ys->xs.length=ys.length
 |_,_,.nil=>rfl
 |_,_,.cons _ r=>BU (· + 1)<|Paired.len r
def KE:Y->Bool
 |.KB=>true
 |.int _=>true
 |.str _=>true
 |_=>false
def _v(L:qk):Nat->Y->Y->Prop
 |0,_,_=>False
 |n+1,x,y=>(KE x=true/\y=x)\/(∃xs ys,x=.tup xs/\y=.tup ys/\ys.length<=1000/\Paired (_v L n) xs ys)\/(∃a b xs ys,x=.ref a/\y=.ref b/\L a=some (.lst xs)/\L b=some (.lst ys)/\ys.length<=1000/\Paired (_v L n) xs ys)
def _v.flat{x:Y}(h:KE x=true):_v L (n+1) x x:=.inl {(h),rfl}
inductive ah(n:Nat)(ys:_T)(L:qk)(Q:YK):Prop
 |mk:∀x y,(ys=[x,y])->(_v L n x y)->(Q (.bl true) L)->ah n ys L Q
def Wh:∀ys L Q,¬ah 0 ys L Q:=λys L Q ψ=>(by obtain⟨x,y,_,h,_⟩:=ψ;exact h)
def ug(I:ju):RR "_law_moved" iI 1 ["_law_rule","_law_at"] ["_law_rule","_law_at","_law_places","_law_arms"] I (λ_=>True):={_,λV B c _ _ J _ _ _ _ _ _ g hN U=>(qa (zr (E_ U (J_ 0) jk) (qd<|qr<|zj<|bq jk (ko IJ rfl B.b_min Ka<|ki (db U (qv 1) (J_ 0) λ_ _=>rfl)<|db U (qv 1) (J_ 0) λ_ _=>rfl)<|ko GS rfl B.bi yz<|ki (db U (qv 1) (J_ 0) λ_ _=>rfl)<|db U (qv 1) (J_ 0) λ_ _=>rfl) qw)<|qa (ak ["_law_x"] (i:=2) hN rfl (Or.inl rfl) (ES (by rfl)) rfl (yX<|aU (Hj _ _ _) (qv 0) (ai qe) bz) (sJ 4) (λ_ _ _ _=>bU<|v5<|vz .int rfl B.b_isinstance rfl B.b_int yj<|qv 4) λ_ _ _ _=>(db U (qv 1) (qv 4) λ_ _=>rfl))<|qa (ak ["_law_x"] (i:=3) hN rfl (Or.inl rfl) (ES (by rfl)) rfl (yX<|aU (Hj _ _ _) (qv 0) (ai qe) bz) (sJ 4) (λ_ _ _ _=>bU<|v5<|vz .tuple rfl B.b_isinstance rfl B.b_tuple cZ<|qv 4) λ_ _ _ _=>(C_ J g<|ki (qv 4)<|qv 1))<|qd<|qr<|am VH rfl B.b_tuple cZ<|jy<|ql ja (ql ja (jm<|jy<|J_ 0)<|qv 2)<|qv 3)}
theorem Wi(n:Nat):_f (bV (n+1)) (ug<|bV n).1 4:=by
 rintro ys L Q ⟨R,d,g,f,rfl,hd,t,hr,q⟩;have big:=a_;by_cases U:∃a b,R=.link a b
 .obtain⟨a,b,rfl⟩:=U;have v1:=t _ (i6 _) a<|Ai ..;have v2:=t _ (i6 _) b<|Ac _<|Ai ..;refine kn hd<|qj v1 ?_;refine kn hd<|qj v2 ?_;refine kn hd<|qj v1 ?_;refine kn hd<|qj v2 ?_;refine xg ?_;have e1:min (f a:Int) (f b:Int)=((min (f a) (f b):Nat):Int):=Ui _ _;have e2:max (f a:Int) (f b:Int)=((max (f a) (f b):Nat):Int):=Uj _ _;have q:Q (.tup [.str "link",.int ((min (f a) (f b):Nat):Int),.int ((max (f a) (f b):Nat):Int)]) L:=q;rw[<-e1,<-e2] at q;exact q
 have hk:FA R ≠ "link" := by cases R with|link a b=>exact absurd {(a),b,rfl} U|ei r A=>show(Str.ofString "either") ≠ "link";decide +kernel|bo r A B=>show(Str.ofString "both") ≠ "link";decide +kernel|cu p s A B=>show(Str.ofString "cut") ≠ "link";decide +kernel
 have T:Q (.tup<|[.str<|FA R]++nY ((Zy R).map f)++(aQ R).map λB=>j8<|gy f B) L:=by cases R with|link a b=>exact absurd {(a),b,rfl} U|ei r A=>exact q|bo r A B=>exact q|cu p s A B=>exact q
 have vp:=t R<|i6 R;have va:∀B∈aQ R,vo B<=n/\∀C∈e9 B,∀x∈Zy C,wv g (.inl (x:Int))=some (.int (f x:Int)):=λB hB=>{by have:=qW hB;lia,λC hC=>t C<|bO (Vx hB) hC};have lp:(Zy R).length<=2:=by cases R<;>simp[Zy]
 have lA:(aQ R).length<=2:=by cases R<;>simp[aQ]
 rw[io R];generalize Zy R=P at vp T lp;generalize aQ R=I at va T lA;generalize FA R=l at hk T;have e0:dZ (Y.str l::(nY P++I.map j8)) 0=some (Y.str l):=jo (xs:=Y.str l::(nY P++I.map j8)) (j:=0) rfl;have ll:(nY P++I.map j8).length=P.length+I.length:=by rw[Ab,xn,Ah]
 walk_at "w";rw[e0];refine aT (AB hk) ?_;refine{uE _ _,?_};rw[o9];refine dS (λi J=>J=nY ((P.take i).map f)) (by rw[ll];exact big _ (by lia)) trivial rfl ?_ ?_
 .rintro i y J hy rfl;rcases sL hy with⟨c,x,ex,rfl⟩|⟨c,B,eB,rfl⟩
  .refine kn hd<|qj (vp x<|Ar ex) {_,EL _,rfl,?_};rw[Bm,ex,AI,fF];rfl
  .have e1:P.take (i+1)=P.take i:=by rw[AU (by lia),AU c]
   have z:hG (λJ L'=>L'=L/\J=nY ((P.take<|i+1).map f)) (nY<|(P.take i).map f) L:={_,EL _,rfl,by rw[e1]};rw[io B];exact z
 rintro J rfl p1 h1;rw[ll,AU (by lia)];have s3:=By (o:=.lst<|nY<|P.map f) h1;have g3:qf L p1 (.lst<|nY<|P.map f) p1=some (.lst<|nY<|P.map f):=q9;refine{uE _ _,?_};rw[o9];generalize qf L p1 (.lst<|nY<|P.map f)=L3 at s3 g3 ⊢;refine dS (λi J=>J=(I.take<|i-P.length).map λB=>j8<|gy f B) (by rw[ll];exact big _ (by lia)) trivial (by rw[Nat.zero_sub];rfl) ?_ ?_
 .rintro i y J hy rfl;rcases sL hy with⟨c,x,ex,rfl⟩|⟨c,B,eB,rfl⟩
  .exact{_,EL _,rfl,by rw[CU c,CU<|BD c]}
  .obtain⟨h1,h2⟩:=va B<|Ar eB;have z:bV n [j8 B,.ref d] L3 λz L4=>hG (λJ L'=>L'=L3/\J=(I.take<|i+1-P.length).map λB=>j8<|gy f B) (((I.take<|i-P.length).map λB=>j8<|gy f B)++[z]) L4:=by refine{B,d,g,f,rfl,s3 _ _ hd,h2,h1,_,EL _,rfl,?_};rw[Nat.succ_sub c,Bm,eB,AI];rfl
   rw[io B] at z ⊢;exact z
 rintro J rfl p4 h4;rw[ll,Bq,Bp];have a0:=w6 g3 h4;have s4:=s3.trans<|By (o:=.lst<|I.map λB=>j8<|gy f B) h4;have g4:=(qc (o:=.lst<|I.map λB=>j8<|gy f B) a0).trans g3;have k4:qf L3 p4 (.lst<|I.map λB=>j8<|gy f B) p4=some (.lst<|I.map λB=>j8<|gy f B):=q9;generalize qf L3 p4 (.lst<|I.map λB=>j8<|gy f B)=L4 at s4 g4 k4 ⊢;walk_at "w";rw[e0];intro p2 h2;have s2:=By (o:=.lst [Y.str l]) h2;refine{_,_,q9,s2 _ _ g4,?_,λp3 h3=>?_}
 .rw[xn,Ah];exact BD (big _ (by show 1+P.length<=20000;lia))
 have s5:=s2.trans<|By (o:=.lst<|[Y.str l]++nY (P.map f)) h3;refine{_,_,q9,s5 _ _ k4,?_,λp5 h5=>?_}
 .rw[Ab,xn,Ah,Ah];exact BD (big _ (by show 1+P.length+I.length<=20000;lia))
 exact qp q9<|fC ((s4.trans s5).trans<|By h5) T
def gb:RD "_law_number" gR 0 ["_law_x"] (λ_=>True):={_,λV B c _ _ _ _ _ _ _ I hN J=>(qd<|qr<|gq (vz .int rfl B.b_isinstance rfl B.b_int yj<|qv 0)<|jQ<|Rp<|vz .bool rfl B.b_isinstance rfl B.b_bool QP<|qv 0)}
def wQ(I:ju)(J:ju):RR "_law_alike" ig 2 ["_law_found","_law_due"] ["_law_found","_law_due","_law_k"] J (λV=>JK V I):={_,λV B c _ _ U _ _ _ _ _ _ j hN g=>(qa (zr (oO<|qv 1) (qd<|qr<|Ro<|qv 0) qw)<|qa (zr (v5<|vz .int rfl B.b_isinstance rfl B.b_int yj<|qv 1) (qd<|qr<|gq (C_ c j<|jy<|qv 0)<|jQ<|aC (ga _ _ _ g) (qv 0) (qv 1)<|jt _) qw)<|qa (zr (v5<|vz .str rfl B.b_isinstance rfl B.b_str Iw<|qv 1) (qd<|qr<|gq (vz .str rfl B.b_isinstance rfl B.b_str Iw<|qv 0)<|jQ<|aC (ga _ _ _ g) (qv 0) (qv 1)<|jt _) qw)<|qa (zr (bK<|bn (v5<|vz .tuple rfl B.b_isinstance rfl B.b_tuple cZ<|qv 1)<|aS<|dM<|v5<|vz .tuple rfl B.b_isinstance rfl B.b_tuple cZ<|qv 0) (qd<|qr ar) qw)<|qa (zr (bK<|bn (v5<|vz .list rfl B.b_isinstance rfl B.bb wc<|qv 1)<|aS<|dM<|v5<|vz .list rfl B.b_isinstance rfl B.bb wc<|qv 0) (qd<|qr ar) qw)<|qa (zr (N_ g (L_ B.ba<|qv 0)<|L_ B.ba<|qv 1) (qd<|qr ar) qw)<|qa (w5 pK rfl (aJ rfl B.be<|jy<|L_ B.ba<|qv 1) (G_ 2 hN)<|qd<|zr (dM<|v5<|C_ U j<|ki (I_ (qv 0)<|qv 2)<|I_ (qv 1)<|qv 2) (qd<|qr ar) qw)<|qd<|qr ar)}
def hZ(J:ju)(U:ju)(g:ju)(I:ju):RD "_law_grown" iV 173 ["_law_script","_law_stir_here","_law_wide","_law_tree_here"] (λV=>JL V J/\F1 V U/\JM V g/\JI V I):={_,λV B c _ _ _ _ _ _ _ j hN l=>(qa (S_ 3 hN<|C_ c.1 j<|bq (qv 0) (qv 1)<|qv 2)<|ke (zr (jv zM (ql js (C_ c.2.1 j<|ki (qv 1) qe) qe) qe<|jt _) (qd<|S_ 3 hN<|C_ c.2.2.1 j<|ki (qv 3)<|C_ c.2.1 j<|ki (qv 1) qe) qw)<|ke (zr (E_ l (ql js (C_ c.2.1 j<|ki (qv 1) qe) qe) qe) (qd<|S_ 3 hN<|C_ c.2.2.1 j<|ki (qv 3)<|C_ c.2.1 j<|ki (qv 1) qe) qw)<|qd<|qr<|C_ c.2.2.2 j<|ki (qv 3)<|qv 1)}
inductive fq(ys:_T)(L:qk)(Q:YK):Prop
 |mk:∀i:Int,(ys=[.int i])->(Q (.bl true) L)->fq ys L Q
def Wj:_f fq gb.1 1:=by rintro ys L Q ⟨i,rfl,q⟩;exact xg q
def Wk(n:Nat):_f (ah (n+1)) (wQ fq<|ah n).1 3:=by
 rintro ys L Q ⟨x,y,rfl,h,q⟩;rcases h with⟨f,rfl⟩|⟨I,ys,rfl,rfl,l,p⟩|⟨a,b,I,ys,rfl,rfl,o,J,l,p⟩
 .cases y with
  |KB=>exact xg q
  |int i=>
   refine{i,rfl,xg ?_};show Q (.bl<|nb false<|decide<|i=i) L;rw[AA rfl];exact q
  |str i=>
   refine xg ?_;show Q (.bl<|nb false<|decide<|i=i) L;rw[AA rfl];exact q
  |_=>cases f
 .have r:=Paired.len p;walk_at "w";refine aT (b:=nb true<|decide<|(I.length:Int)=ys.length) (by rw[r,AA rfl];rfl) ?_;refine{{A4 _,by lia},?_};rw[BB];refine sT (λi U g=>g=L/\∃c,U=[some<|.tup I,some<|.tup ys,c]) {rfl,_,rfl} ?_ ?_
  .rintro i U g t ⟨rfl,c,rfl⟩;have j:I[i]?=some (I[i]'(by lia)):=An (by lia);have ev:=An t;have C:dZ I (0+(i:Int))=some (I[i]'(by lia)):=by rw[B3];exact jo j
   have T:dZ ys (0+(i:Int))=some ys[i]:=by rw[B3];exact jo ev
   walk_at "w";rw[C];walk_at "w";rw[T];exact{_,_,rfl,EU p j ev,_,EL _,rfl,_,rfl}
  .rintro U g ⟨rfl,c,rfl⟩;exact xg q
 .have r:=Paired.len p;refine cA J ?_;walk_at "w";refine cA J ?_;walk_at "w";refine cA J ?_;walk_at "w";refine cA J<|cA o ?_;walk_at "w";refine qb o (qb J (aT (by rw[r,AA rfl];rfl) ?_));refine qb J {{A4 _,by lia},?_};rw[BB];refine sT (λi U g=>g=L/\∃c,U=[some<|.ref a,some<|.ref b,c]) {rfl,_,rfl} ?_ ?_
  .rintro i U g t ⟨rfl,c,rfl⟩;have j:I[i]?=some (I[i]'(by lia)):=An (by lia);have ev:=An t;have C:dZ I (0+(i:Int))=some (I[i]'(by lia)):=by rw[B3];exact jo j
   have T:dZ ys (0+(i:Int))=some ys[i]:=by rw[B3];exact jo ev
   refine qb o<|qj C<|qb J<|qj T ?_;exact{_,_,rfl,EU p j ev,_,EL _,rfl,_,rfl}
  .rintro U g ⟨rfl,c,rfl⟩;exact xg q
def Wl(h:m<=n)(I:n<=120):∀ys L Q,w4 m ys L Q->w4 n ys L Q:=by rintro ys L Q ⟨a,J,w,e,U,hd,_,g,j,l,z⟩;exact{a,J,w,e,U,by lia,I,g,j,l,z}
def tV.nd{ks:Yg}{E:XS}(T:tV ks R E):(qu R).Nodup:=T.tp.nodup_iff.mpr Bw
def tV.cut{ks:Yg}{A:Ru}{E:XS}(T:tV ks R E){tp sp:Nat}{w:Wd}(hp:p∈E)(hw:du ks p w)(M:At ks w ms A tp sp)(t:ks.length+ms.length<=96):(∃U,tV (ks++ms) (.cu p tp R A) U)/\∃U,tV (ks++ms) (.cu tp p A R) U:=by
 have j:=M.sr.Zn;have C:sp≠tp:=λe=>by rw[e] at j;simp at j
 have ls:=(M.tm sp).mp<|M.sr.sub sp (by simp);have lE:=λx I=>T.sr.lt x<|T.sr.sub x I;have l:(E.filter (λx=>decide<|x≠p)++[sp]).Nodup:=AG.mpr {T.sr.Zn.filter _,by simp,λx I y g e=>by rw[Aj.mp g] at e;have:=lE x (AF.mp I).1;lia}
 have o:∀x,x∈E.filter (λx=>decide<|x≠p)++[sp]↔(x∈E/\x≠p)\/(x∈[tp,sp]/\x≠tp):=λx=>by
  rw[Ag,AF,BO,Aj];constructor
  .rintro(h|rfl)
   .exact .inl h
   .exact .inr {by simp,C}
  .rintro(h|⟨h,n⟩)
   .exact .inl h
   .rcases Ao.mp h with h|h
    .exact(n h).elim
    .exact .inr<|Aj.mp h
 have r:∀x,x∈qu R↔x<ks.length:=λx=>by rw[T.tp.mem_iff,AM]
 have len:(ks++ms).length<=96:=by rw[Ab];exact t
 have tn:=AG.mpr {T.nd,M.nd,λx I y g e=>by have:=(r x).mp I;have:=(M.tm y).mp g;lia}
 have J:(qu R++qu A).Perm (List.range (ks++ms).length):=(Bg tn Bw).mpr λx=>by rw[Ag,r,M.tm,AM,Ab];lia
 refine{{_,M.ok,.cu (T.sr.more ms) M.sr hp (by simp) (hw.more ms) M.wt o l,J,len},_,M.ok,.cu (w:=w.turn) M.sr (T.sr.more ms) (by simp) hp M.wt (by rw[iT];exact hw.more ms) (λx=>(o x).trans Or.comm) l,Br.trans J,len}
theorem Wd.Yv:∀w:Wd,w.depth<=w.size
 |.leaf _ _=>Ap _
 |.node _ l r=>by have:=Wd.Yv l;have:=Wd.Yv r;show max l.depth r.depth+1<=1+l.size+r.size;lia
inductive ix(ys:_T)(L:qk)(Q:YK):Prop
 |mk:∀a,∀ks:Yg,∀R:Ru,∀E:XS,∀num:Int,(ys=[.tup [.ref a,j8 R],.int num])->(L a=some (.lst<|kq ks))->(tV ks R E)->(∀a' ks' R' E' L',qg L L'->L' a'=some (.lst<|kq ks')->tV ks' R' E'->Q (.tup [.ref a',j8 R']) L')->ix ys L Q
inductive iU(Pt:Addr)(ys:_T)(L:qk)(Q:YK):Prop
 |mk:∀ns:XX,∀s:Int,∀w:Nat,∀wi:Int,(ys=[.sq<|ns.map Y.int,.int s,.int wi])->(wi=(w:Int))->(ns.length<=63)->(w<=96)->(L Pt=some (.tb YT))->(∀ks R E wd f a L',qg L L'->L' a=some (.lst<|xx wd)->tV ks R E->Z9 f (ks.map some) wd->Q (.tup [.ref a,j8<|gy f R]) L')->iU Pt ys L Q
def Wm :_f (iU Pt) (hZ mZ fc ix<|mN Pt).1 4:=by
 rintro ys L Q ⟨j,s,w,wi,rfl,rfl,hn,hw,hP,q⟩;refine{j,s,w,_,rfl,rfl,hn,hw,λka I R E L1 s1 _ g1 T=>?_};refine{λg J=>∃a I R E,g=[some<|.sq<|j.map Y.int,some<|.int s,some<|.int (w:Int),some<|.tup [.ref a,j8 R]]/\qg L J/\J a=some (.lst<|kq I)/\tV I R E,?_,?_}
 .refine{s,24680,rfl,by decide,by decide,λv _ _=>{(by decide:(0:Int)<8),zp (λ_=>?_) λ_=>{(ka),I,R,E,rfl,s1,g1,T}}};exact{s,1234577,rfl,by decide,by decide,λv _ _=>{ka,I,R,E,v,rfl,g1,T,λl U o p J r t C=>{l,U,o,p,rfl,s1.trans r,t,C}}}
 rintro g L2 ⟨a,I,R,E,rfl,s2,g2,T⟩;refine{λg J=>∃a I R E,g=[some<|.sq<|j.map Y.int,some<|.int s,some<|.int (w:Int),some<|.tup [.ref a,j8 R]]/\qg L J/\J a=some (.lst<|kq I)/\tV I R E,?_,?_}
 .refine{s,55667,rfl,by decide,by decide,λv _ _=>{(by decide:(0:Int)<3),zp (λ_=>?_) λ_=>{(a),I,R,E,rfl,s2,g2,T}}};exact{s,7654321,rfl,by decide,by decide,λv _ _=>{a,I,R,E,v,rfl,g2,T,λl U o p J r t C=>{l,U,o,p,rfl,s2.trans r,t,C}}}
 rintro g L3 ⟨a,I,R,E,rfl,s3,g3,T⟩;exact{a,I,R,E,s,rfl,g3,T,s3 _ _ hP,λw f wd hw rn=>xg<|q I R E wd f w _ (s3.trans<|By hw) q9 T rn}
structure bG(wd:List<|Yh)(ct:XN):Prop where
 pu:kU wd
 cw:∀c∈ct,∃w,KW (xx wd) c.1 w/\KW (xx wd) c.2 w.turn
 Zu:(GM ct).Nodup
 Y7:∀x∈GM ct,x∉xj wd
 ctS:ct.Pairwise gm
 wl:wd.length<=241
def bG.lt(I:bG wd ct){c:X2}(hc:c∈ct):c.1<wd.length/\c.2<wd.length:=by obtain⟨w,J,U⟩:=I.cw c hc;obtain⟨_,g⟩:=J.ex;obtain⟨_,j⟩:=U.ex;exact{qz g,qz j}
def bG.len(I:bG wd ct):ct.length<=120:=by
 have:=wf wd.length _ I.Zu λx J=>by
  obtain⟨c,U,e⟩:=bB J;have:=I.lt U;rcases e with rfl|rfl
  .exact this.1
  .exact this.2
 rw[aq] at this;have:=I.wl;lia
def iq:RD "partner_of" iK 0 ["links","place","p","q"] (λ_=>True):={_,λV B c _ _ _ _ _ _ _ J hN I=>(qa (w5 pK rfl (vk<|qv 0) (ag (n:=2) rfl<|ze (G_ 2 hN)<|ze (G_ 3 hN) km)<|qa (zr (E_ I (qv 2)<|qv 1) (qd<|qr<|qv 3) qw)<|qd<|zr (E_ I (qv 3)<|qv 1) (qd<|qr<|qv 2) qw)<|qd<|qr jZ)}
def mO(nd:(GM lk).Nodup){z:X2}(hz:z∈lk):z.1≠z.2:=by obtain⟨a,b,rfl⟩:=Dd hz;rw[xq,jd] at nd;have:=(AG.mp nd).2.1;simp at this;exact this.1.1
def KG(nd:(GM lk).Nodup){z:X2}(hz:z∈lk){x:Nat}(o:sD p x z):p≠x:=by
 have:=mO nd hz;rcases o with rfl|rfl
 .exact this
 .exact AJ this
inductive dY(ys:_T)(L:qk)(Q:YK):Prop
 |mk:∀l,∀lk:XO,∀p x:Nat,∀z:X2,(ys=[.ref l,.int (p:Int)])->(L l=some (.lst<|qx lk))->((GM lk).Nodup)->(z∈lk)->(sD p x z)->(Q (.int (x:Int)) L)->dY ys L Q
def yw:_f dY iq.1 4:=by
 rintro ys L Q ⟨l,lk,p,x,z,rfl,hl,nd,U,o,q⟩;have J:=KG nd U o;refine xl hl λkeep kp=>w9 {λi g j=>∃r t,g=[some<|.ref l,some<|.int (p:Int),r,t]/\j=L/\∀y∈lk.take i,¬(p=y.1\/p=y.2),{_,_,rfl,rfl,nofun},?_,?_,?_}
 .rintro i g j ⟨r,t,rfl,rfl,_⟩;exact kp _ rfl
 .rintro i y g j C ⟨r,t,rfl,rfl,no⟩;rw[Aq] at C;obtain⟨y,T,rfl⟩:=AE.mp C;have my:=Ar T;refine zp (λh=>?_) λh1=>zp (λh=>?_) λh2=>?_
  .have h:=Ck.mp h;cases az nd my U (.inl h.symm) o.mem;rcases o with rfl|rfl
   .exact xg q
   .exact(J h.symm).elim
  .have h:=Ck.mp h;cases az nd my U (.inr h.symm) o.mem;rcases o with rfl|rfl
   .exact(J h.symm).elim
   .exact xg q
  .refine{_,EL _,_,_,rfl,rfl,λu I=>?_};rw[Bm,T] at I;rcases Ag.mp I with I|I
   .exact no u I
   .rw[Aj.mp I];rintro(e|e)
    .exact h1<|BU Nat.cast e.symm
    .exact h2<|BU Nat.cast e.symm
 .rintro g j ⟨r,t,rfl,rfl,no⟩;rw[Ah,Bp] at no;exact(no z U o.mem).elim
def Wn{lk:XN}{x:Nat}{x0:X2}(ne:p≠q)(I:sD p x x0)(h:q=x0.1\/q=x0.2):x=q:=by
 rcases I with rfl|rfl<;>rcases h with h|h<;>simp only at h
 .exact(ne h.symm).elim
 .exact h.symm
 .exact h.symm
 .exact(ne h.symm).elim
def jH(nd:(GM lk).Nodup){x y:Nat}{x0 y0:X2}(I:x0∈lk)(J:y0∈lk)(ne:x0≠y0)(U:sD p x x0)(g:sD q y y0):(GM lk).Perm (p::q::GM (lk.filter (wq p q)++[xQ x y])):=by
 rcases V5 nd I J U.mem g.mem with⟨e,_⟩|⟨_,e,_⟩
 .exact(ne e).elim
 have pm:=k8<|zN (wg nd) I J ne;rw[jd,jd] at pm;rw[e];refine(pm.trans<|U.GM _).trans (List.Perm.cons p ?_);rw[xq,aW];refine((g.GM _).cons x).trans ((List.Perm.swap ..).trans<|List.Perm.cons q ?_);exact(Vb x y _).symm.trans (Br (l₁:=[min x y,max x y]))
def Wo(E3:X3)(I:ju):cH:=(je (vv (KC<|qt (jg I<|qt (ku iH (qh 3)<|qh 4) x8)<|qt (jg I<|qt (ku iH (qh 3)<|qh 5) x8) x8)<|qo 7)
 (je (o8 (qh 3) (qh 4)<|yC .KB)
 (je (o8 (qh 3) (qh 5)<|yC .KB)
 (cJ<|mK<|qt (qh 3)<|qt (qh 6)<|qt (k_ gc<|qt (ku mG (ku mG (GP G5 (qh 2) sg<|GO<|qh 1)<|GP G5 (qh 2) (GO<|ku mG (qh 1)<|gJ 1) sg)<|qh 7) x8) x8))))
def GE(wd:List<|Yh)(x:X2):List (Yh):=(wd.set x.1 none).set x.2 none
def dR(wd:List<|Yh)(x:X2):XO:=(zm<|wd[x.1]?.getD none).zip<|zm<|wd[x.2]?.getD none
def bG.two(I:bG wd ct){x:X2}(T:x∈ct):(∃t n,wd[x.1]?=some (some<|.lf t n)/\wd[x.2]?=some (some<|.lf (!t) n)/\dR wd x=[])\/∃e i j g o,wd[x.1]?=some (some<|.nd e i j)/\wd[x.2]?=some (some<|.nd (!e) g o)/\dR wd x=[(i,g),(j,o)]:=by
 obtain⟨w,p,C⟩:=I.cw x T;unfold dR;cases w with
 |leaf t n=>
  have J:=p.Pv;have U:=C.Pv;exact .inl {t,n,J,U,by rw[J,U];rfl}
 |node e l r=>
  obtain⟨i,j,J,_⟩:=p.On;obtain⟨g,o,U,_⟩:=C.On;exact .inr {e,i,j,g,o,J,U,by rw[J,U];rfl}
def ay{e:Bool}(h:wd[p]?=some (some<|.nd e i j)):i∈xj wd/\j∈xj wd:={A5.mpr {_,Ar h,Ai},A5.mpr {_,Ar h,Ac _ Ai}}
def bG.ins(I:bG wd ct){k:Nat}{x:X2}(ex:ct[k]?=some x):(ct.eraseIdx k++dR wd x).Nodup/\(∀c∈ct.eraseIdx k++dR wd x,c.2<1000000)/\(ct.eraseIdx k++dR wd x).length<=127:=by
 have T:=Ar ex;have sub:=List.eraseIdx_sublist ct k;have cl:=I.len;have wl:=I.wl;have lt:∀c∈ct.eraseIdx k,c.2<1000000:=λc J=>by have:=I.lt<|sub.subset J;lia
 have nd:=sub.nodup<|wg I.Zu;have le:=sub.length_le;rcases I.two T with⟨t,n,_,_,e⟩|⟨e,i,j,i',j',g,e2,ei⟩
 .rw[e,Aw];exact{nd,lt,by lia}
 .obtain⟨w,h1,h2⟩:=I.cw x T;cases w with
  |leaf t n=>have:=h1.Pv;rw[g] at this;cases this
  |node b l r=>
   obtain⟨i2,j2,U,o,p⟩:=h2.On;rw[e2] at U;obtain⟨rfl,rfl⟩:i'=i2/\j'=j2:=by injection U with U;injection U with U;injection U with _ a b;exact{(a),b}
   obtain⟨_,z1⟩:=o.ex;obtain⟨_,z2⟩:=p.ex;have l1:=qz z1;have l2:=qz z2;have ne:=I.pu.ne _ _ _ _ g;rw[ei];refine{AG.mpr {nd,by simp;intro h;exact(ne h).elim,λc J d hd z=>?_},λc J=>?_,by rw[Ab];show _+2<=_;lia}
   .subst z;have C:=I.Y7 _ (jf<|sub.subset J).1;rcases Ao.mp hd with rfl|hd
    .exact C (ay g).1
    .rw[Aj.mp hd] at C;exact C (ay g).2
   .rcases Ag.mp J with J|J
    .exact lt c J
    .rcases Ao.mp J with rfl|J
     .lia
     .rw[Aj.mp J];lia
def KH(wd:List<|Yh)(p:Nat):(xx wd).set p .KB=xx (wd.set p none):=by unfold xx;rw[List.map_set];rfl
def KI{M:qk}{J U c:Addr}{c0 c7:Option Y}{k:Nat}{x:X2}{E3:X3}(I:bG wd ct)(ex:ct[k]?=some x)(s:qg L M)(na:L J=none)(nl:L U=none)(n1:J≠U)(r:M J=some (.lst<|xx wd))(k2:M U=some (.lst<|qx ir))(k3:M c=some (.lst<|qx ct))(nc:J≠c)
 (q:∀fy p L',qg L L'->L p=none->J≠p->U≠p->L' J=some (.lst<|xx<|GE wd x)->L' U=some (.lst<|qx ir)->L' p=some (.lst<|qx fy)->fy.Perm (ct.eraseIdx k++dR wd x)->fy.Pairwise gm->En.rt (aY J U p) L'):
 Wo E3 bX En [c0,some<|.int (k:Int),some<|.ref c,some<|.ref J,some<|.int (x.1:Int),some<|.int (x.2:Int),some<|.ref U,c7] M:=by
 have big:=a_;have pl:∀l:XO,(qx l).length=l.length:=λl=>Ah ..;have hx:=Ar ex;obtain⟨lx,ly⟩:=I.lt hx;obtain⟨nd,lt,le⟩:=I.ins ex;have cl:=I.len;have e1:=An lx;have e2:=An ly;have ei:dR wd x=(zm wd[x.1]).zip (zm wd[x.2]):=by unfold dR;rw[e1,e2];rfl
 have ez:G4 (nY<|zm wd[x.1]) (nY<|zm wd[x.2])=qx (dR wd x):=by
  rw[ei];generalize wd[x.1]=u;generalize wd[x.2]=v;cases u with
  |none=>rfl
  |some u=>
   cases u with
   |lf t n=>rfl
   |nd e i j=>
    cases v with|none=>rfl|some v=>cases v<;>rfl
 refine qb r<|qj (aX e1) {_,rfl,λp1 h1=>?_};refine pW h1 λM1 s1 g1=>?_;refine qb (s1 _ _ r)<|qj (aX e2) {_,rfl,λp2 h2=>?_};have s2:=s1.trans<|By (o:=.lst<|nY<|zm wd[x.2]) h2;refine qb (By h2 _ _ g1)<|qb q9 λp3 C=>?_;rw[ez];refine pW C λT g g3=>?_;have g:=s2.trans g;have j1:=g _ _ r;have a0:J≠p3:=λe=>by subst e;have:=s2 _ _ r;rw[this] at C;cases C
 refine qp j1 (qj (by rw[aR];exact iX lx:d_ (xx wd).length (x.1:Int)=some x.1) ?_);rw[KH];refine qp q9 (qj (by rw[aR,Bn];exact iX ly:d_ (xx<|wd.set x.1 none).length (x.2:Int)=some x.2) ?_);rw[KH,zh];have s4:qg L (qf T J<|.lst<|xx<|GE wd x):=(s.trans g).upd na;have j4:qf T J (.lst<|xx<|GE wd x) J=some (.lst<|xx<|GE wd x):=q9;have j5:=(qc (o:=.lst<|xx<|GE wd x)<|AJ n1).trans<|g _ _ k2;have j6:=(qc (o:=.lst<|xx<|GE wd x)<|AJ nc).trans<|g _ _ k3;have j7:=(qc (o:=.lst<|xx<|GE wd x)<|AJ a0).trans g3;rw[show(wd.set x.1 none).set x.2 none=GE wd x from rfl];generalize qf T J (.lst<|xx<|GE wd x)=M4 at s4 j4 j5 j6 j7 ⊢;refine qp j6 λp5 h5=>?_;rw[RN];refine pW h5 λM5 s5 g5=>?_;refine qp (s5 _ _ j6) λp6 h6=>?_;have ek:((k:Int)+1)=((k+1:Nat):Int):=by lia
 show mG (.ref p5) (.ref p6) (qf M5 p6<|.lst<|gd (qx ct) (some<|(k:Int)+1) none) λy L2=>mG y (.ref p3) L2 λz L3=>gc [z] L3 λz' L4=>En.rt (.tup [.ref J,.ref U,z']) L4;rw[ek,RM];have s6:=s5.trans<|By (o:=.lst<|(qx ct).drop<|k+1) h6;refine{_,_,By h6 _ _ g5,q9,by rw[A7,BQ,pl];exact BD<|big _ (by lia),λp7 h7=>?_};have ee:(qx ct).take k++(qx ct).drop (k+1)=qx (ct.eraseIdx k):=by unfold qx;rw[List.eraseIdx_eq_take_drop_succ,AI,List.map_take,List.map_drop]
 rw[ee];have s7:=s6.trans<|By (o:=.lst<|qx<|ct.eraseIdx k) h7;refine{_,_,q9,s7 _ _ j7,by rw[pl,pl];rw[Ab] at le;exact BD<|big _ (by lia),λp8 h8=>?_};have s8:=s7.trans<|By (o:=.lst<|qx (ct.eraseIdx k)++qx (dR wd x)) h8;refine F6 (ps:=ct.eraseIdx k++dR wd x) (by rw[q9];unfold qx;rw[AI]) lt nd (by lia) λD fy hD pm pw=>?_;have s9:=s8.trans<|By (o:=.lst<|qx fy) hD;have nD:=s8.none hD;exact q fy D _ (s4.trans s9) (s4.none nD) (w6 j4 nD) (w6 j5 nD) (s9 _ _ j4) (s9 _ _ j5) q9 pm pw
structure Zr(wd:List<|Yh)(lk:XN):Prop where
 _J:∀c∈lk,c.1<c.2/\∃t n,wd[c.1]?=some (some<|.lf t n)/\wd[c.2]?=some (some<|.lf (!t) n)
 ZV:(GM lk).Nodup
 Z1:∀p,p∈GM lk↔∃t n,wd[p]?=some (some<|.lf t n)
 lkS:lk.Pairwise gm
 ll:lk.length<=60
def tU(wd:List<|Yh)(lk:XN)(x:X2)(ir:XN):Prop:=
 ((∃e i j,wd[x.1]?=some (some<|.nd e i j))/\ir=lk)\/∃t n x0 y0 u v,wd[x.1]?=some (some<|.lf t n)/\x0∈lk/\y0∈lk/\x0≠y0/\sD x.1 u x0/\sD x.2 v y0/\ir.Perm (lk.filter (wq x.1 x.2)++[xQ u v])/\ir.Pairwise gm
def KJ(lk:XN)(x:X2):Prop:=∃z∈lk,sD x.1 x.2 z
def oF{x:X2}(hi:i<wd.length):(GE wd x)[i]?=if i=x.1\/i=x.2 then some none else wd[i]?:=by
 unfold GE;by_cases I:i=x.2
 .rw[Ay<|.inr I,I,BM (by rw[Bn];lia)]
 .rw[AZ<|AJ I];by_cases J:i=x.1
  .rw[Ay<|.inl J,J,BM (by lia)]
  .rw[AZ<|AJ J,Au λh=>h.elim J I]
def fe(wd:List<|Yh)(x:X2):(GE wd x).length=wd.length:=by unfold GE;rw[Bn,Bn]
theorem KW.gone{wd:List<|Yh}{a:Nat}(I:a∉xj wd):∀{w:Wd} {p:Nat},p≠a->KW (xx wd) p w->KW (xx<|wd.set a none) p w
 |.leaf t n,p,J,h=>KW.lf (by rw[AZ<|AJ J];exact h.Pv)
 |.node e l r,p,J,h=>by obtain⟨i,j,U,g,o⟩:=h.On;obtain⟨C,T⟩:=ay U;exact KW.nd (by rw[AZ<|AJ J];exact U) (KW.gone I (λc=>I<|c▸C) g)<|KW.gone I (λc=>I<|c▸T) o
def tJ{a:Nat}{o:Kn}(h:(wd.set a none)[q]?=some (some o)):q≠a/\wd[q]?=some (some o):=by
 by_cases c:q=a
 .subst c;rw[Di] at h;cases e:wd[q]? with|none=>rw[e] at h;cases h|some z=>rw[e] at h;cases h
 .rw[AZ<|AJ c] at h;exact{(c),h}
def aI{x:X2}{o:Kn}(h:(GE wd x)[q]?=some (some o)):q≠x.1/\q≠x.2/\wd[q]?=some (some o):=by obtain⟨I,h⟩:=tJ h;obtain⟨J,h⟩:=tJ h;exact{(J),I,h}
def ky{x:X2}(h1:q≠x.1)(h2:q≠x.2):(GE wd x)[q]?=wd[q]?:=by unfold GE;rw[AZ<|AJ h2,AZ<|AJ h1]
def oI{wd':List<|Yh}(h:∀{q:Nat} {o:Kn},wd'[q]?=some (some o)->wd[q]?=some (some o)){x:Nat}(J:x∈xj wd'):∃(q:Nat) (k:Kn),wd'[q]?=some (some k)/\wd[q]?=some (some k)/\x∈zm (some k):=by obtain⟨y,k,I,U⟩:=cW J;exact{y,k,I,h I,U}
def KW.GE{x:X2}(I:x.1∉xj wd)(J:x.2∉xj wd){w:Wd}(h1:p≠x.1)(h2:p≠x.2)(h:KW (xx wd) p w):KW (xx<|GE wd x) p w:=
 KW.gone (λz=>by obtain⟨q,k,_,e,U⟩:=oI (λh=>(tJ h).2) z;exact J<|A5.mpr {_,Ar e,U}) h2 (KW.gone I h1 h)
def bG.step(I:bG wd ct){k:Nat}{x:X2}(ex:ct[k]?=some x)(pm:fy.Perm<|ct.eraseIdx k++dR wd x)(pw:fy.Pairwise gm):bG (GE wd x) fy:=by
 have hx:=Ar ex;have n1:=I.Y7 _ (jf hx).1;have n2:=I.Y7 _ (jf hx).2;have a5:=mO I.Zu hx;have pe:(GM ct).Perm (x.1::x.2::GM (ct.eraseIdx k)):=by have:=k8<|x9 ex;rw[jd] at this;exact this
 have nd:=pe.nodup_iff.mp I.Zu;obtain⟨f1,ab⟩:=AD.mp nd;obtain⟨f2,a3⟩:=AD.mp ab;have old:∀p∈GM (ct.eraseIdx k),p≠x.1/\p≠x.2/\p∉xj wd:=λp hp=>{λe=>f1<|e▸Ac _ hp,λe=>f2<|e▸hp,I.Y7 p<|pe.mem_iff.mpr<|Ac _<|Ac _ hp};have sub:∀{q:Nat} {o:Kn},(GE wd x)[q]?=some (some o)->wd[q]?=some (some o):=λh=>(aI h).2.2;have T:∀p,p∉xj wd->p∉xj (GE wd x):=λp h z=>by obtain⟨q,k,_,e,hk⟩:=oI sub z;exact h<|A5.mpr {_,Ar e,hk}
 have U:(GM fy).Perm (GM (ct.eraseIdx k)++GM (dR wd x)):=by rw[<-xq];exact k8 pm
 have pu:kU (GE wd x):={λq e i j h=>I.pu.ne q e i j<|sub h,λa b k1 k2 y h1 h2=>I.pu.un a b k1 k2 y (sub h1)<|sub h2};have a0:∀c∈ct.eraseIdx k,∃w,KW (xx<|GE wd x) c.1 w/\KW (xx<|GE wd x) c.2 w.turn:=λc J=>by obtain⟨w,h1,h2⟩:=I.cw c<|(List.eraseIdx_sublist ct k).subset J;obtain⟨a1,a2,_⟩:=old _ (jf J).1;obtain⟨b1,b2,_⟩:=old _ (jf J).2;exact{w,h1.GE n1 n2 a1 a2,h2.GE n1 n2 b1 b2}
 have wl:(GE wd x).length<=241:=by rw[fe];exact I.wl
 rcases I.two hx with⟨t,n,_,_,ei⟩|⟨e,i,j,i',j',e1,e2,ei⟩
 .rw[ei,Aw] at pm;rw[ei] at U;have U:(GM fy).Perm (GM<|ct.eraseIdx k):=by rw[show GM []=[] from rfl,Aw] at U;exact U
  exact{pu,λc J=>a0 c<|pm.mem_iff.mp J,U.nodup_iff.mpr a3,λy C=>T y (old y<|U.mem_iff.mp C).2.2,pw,wl}
 .obtain⟨w,h1,h2⟩:=I.cw x hx;cases w with
  |leaf t n=>have:=h1.Pv;rw[e1] at this;cases this
  |node b l r=>
   obtain⟨i1,j1,q1,ac,al⟩:=h1.On;obtain⟨i2,j2,q2,au,av⟩:=h2.On;rw[e1] at q1;rw[e2] at q2;obtain⟨rfl,rfl⟩:i=i1/\j=j1:=by injection q1 with q1;injection q1 with q1;injection q1 with _ a b;exact{(a),b}
   obtain⟨rfl,rfl⟩:i'=i2/\j'=j2:=by injection q2 with q2;injection q2 with q2;injection q2 with _ a b;exact{(a),b}
   have P:∀y,y=i\/y=j->y∈zm (some<|.nd e i j):=λy h=>by rcases h with rfl|rfl;exact Ai;exact Ac _ Ai
   have P':∀y,y=i'\/y=j'->y∈zm (some<|.nd (!e) i' j'):=λy h=>by rcases h with rfl|rfl;exact Ai;exact Ac _ Ai
   have mP:∀y,y=i\/y=j\/y=i'\/y=j'->y∈xj wd:=λy h=>by
    rcases h with h|h|h|h
    .exact h▸(ay e1).1
    .exact h▸(ay e1).2
    .exact h▸(ay e2).1
    .exact h▸(ay e2).2
   have new:∀y,y=i\/y=j\/y=i'\/y=j'->y≠x.1/\y≠x.2/\y∉xj (GE wd x):=λy h=>by
    refine{λe=>n1<|e▸mP y h,λe=>n2<|e▸mP y h,λz=>?_};obtain⟨q,k,g,ek,hk⟩:=oI sub z;obtain⟨c1,c2,_⟩:=aI g;rcases h with h|h|h|h
    .exact c1<|I.pu.un _ _ _ _ y ek e1 hk<|P y<|.inl h
    .exact c1<|I.pu.un _ _ _ _ y ek e1 hk<|P y<|.inr h
    .exact c2<|I.pu.un _ _ _ _ y ek e2 hk<|P' y<|.inl h
    .exact c2<|I.pu.un _ _ _ _ y ek e2 hk<|P' y<|.inr h
   have a4:∀y,(y=i\/y=j)->¬(y=i'\/y=j'):=λy h h'=>a5<|I.pu.un _ _ _ _ y e1 e2 (P y h)<|P' y h';rw[ei] at pm U;refine{pu,λc J=>?_,U.nodup_iff.mpr<|AG.mpr {a3,?_,λa ha b hb z=>?_},λy C=>?_,pw,wl}
   .rcases Ag.mp (pm.mem_iff.mp J) with J|J
    .exact a0 c J
    .rcases Ao.mp J with rfl|J
     .obtain⟨a1,a2,_⟩:=new i<|.inl rfl;obtain⟨b1,b2,_⟩:=new i'<|.inr<|.inr<|.inl rfl;exact{l,ac.GE n1 n2 a1 a2,au.GE n1 n2 b1 b2}
     .rw[Aj.mp J];obtain⟨a1,a2,_⟩:=new j<|.inr<|.inl rfl;obtain⟨b1,b2,_⟩:=new j'<|.inr<|.inr<|.inr rfl;exact{r,al.GE n1 n2 a1 a2,av.GE n1 n2 b1 b2}
   .have d1:=a4 i<|.inl rfl;have d2:=a4 j<|.inr rfl;have d3:=I.pu.ne _ _ _ _ e1;have d4:=I.pu.ne _ _ _ _ e2;rw[jd,aW];simp only[AD,Ao,Bo,or_false,not_or,Dr,and_true,not_false_eq_true];exact{{λh=>d1<|.inl h,d3,λh=>d1<|.inr h},{λh=>d2<|.inl h.symm,d4},λh=>d2<|.inr h}
   .subst z;have hb:a=i\/a=j\/a=i'\/a=j':=by
     rw[jd,aW] at hb;simp at hb;rcases hb with h|h|h|h
     .exact .inl h
     .exact .inr<|.inr<|.inl h
     .exact .inr<|.inl h
     .exact .inr<|.inr<|.inr h
    exact(old a ha).2.2 (mP a hb)
   .rcases Ag.mp (U.mem_iff.mp C) with C|C
    .exact T y (old y C).2.2
    .rw[jd,aW] at C;simp at C;refine(new y ?_).2.2;rcases C with h|h|h|h
     .exact .inl h
     .exact .inr<|.inr<|.inl h
     .exact .inr<|.inl h
     .exact .inr<|.inr<|.inr h
def Zr.step(I:bG wd ct){x:X2}(hx:x∈ct)(J:Zr wd lk)(st:tU wd lk x ir):Zr (GE wd x) ir:=by
 have ap:∀{p:Nat} {t:Bool} {n:Str},p≠x.1->p≠x.2->wd[p]?=some (some<|.lf t n)->(GE wd x)[p]?=some (some<|.lf t n):=λa b h=>by rw[ky a b];exact h
 rcases st with⟨⟨e,i,j,o⟩,rfl⟩|⟨t,n,x0,y0,u,v,o,mx,my,ne,ou,ov,pm,pw⟩
 .rcases I.two hx with⟨t,n,r,_⟩|⟨_,_,_,i',j',_,r,_⟩
  .rw[o] at r;cases r
  have no:∀{p:Nat} {t:Bool} {n:Str},wd[p]?=some (some<|.lf t n)->p≠x.1/\p≠x.2:=λh=>{(λz=>by rw[z,o] at h;cases h),(λz=>by rw[z,r] at h;cases h)};refine{λc C=>?_,J.ZV,λp=>(J.Z1 p).trans {λ ψ=>(by obtain⟨t,n,h⟩:=ψ;exact {t,n,ap (no h).1 (no h).2 h}),λ ψ=>(by obtain⟨t,n,h⟩:=ψ;exact {t,n,(aI h).2.2})},J.lkS,J.ll};obtain⟨l,t,n,U,g⟩:=J._J c C;exact{l,t,n,ap (no U).1 (no U).2 U,ap (no g).1 (no g).2 g}
 .have r:wd[x.2]?=some (some<|.lf (!t) n):=by
   rcases I.two hx with⟨t',n',a,b,_⟩|⟨_,_,_,_,_,a,_⟩
   .rw[o] at a;cases a;exact b
   .rw[o] at a;cases a
  have jp:=(jH J.ZV mx my ne ou ov).trans<|((k8 pm).symm.cons _).cons _;obtain⟨f1,nd⟩:=AD.mp<|jp.nodup_iff.mp J.ZV;obtain⟨f2,nd⟩:=AD.mp nd;have T:∀{p:Nat},p∈GM ir->p≠x.1/\p≠x.2:=λh=>{λz=>f1<|Ac _<|z▸h,λz=>f2<|z▸h};have pl:=jp.length_eq;rw[aq,Av,Av,aq] at pl;refine{λc C=>?_,nd,λp=>{λh=>?_,λ⟨t,n,h⟩=>?_},pw,by have:=J.ll;lia}
  .have n1:=T (jf C).1;have n2:=T (jf C).2;rcases Ag.mp (pm.mem_iff.mp C) with h|h
   .obtain⟨l,t,n,U,g⟩:=J._J c (AF.mp h).1;exact{l,t,n,ap n1.1 n1.2 U,ap n2.1 n2.2 g}
   .have h:=Aj.mp h;have w1:=ou.lf J._J mx o;have w2:=ov.lf J._J my r;obtain⟨l,t,n,U,g⟩:=V1 w1 w2;rw[<-h] at l U g;exact{l,t,n,ap n1.1 n1.2 U,ap n2.1 n2.2 g}
  .obtain⟨t,n,U⟩:=(J.Z1 p).mp<|jp.mem_iff.mpr<|Ac _<|Ac _ h;exact{t,n,ap (T h).1 (T h).2 U}
  .obtain⟨a,b,h⟩:=aI h;rcases Ao.mp (jp.mem_iff.mp<|(J.Z1 p).mpr {(t),n,h}) with z|z
   .exact(a z).elim
   .exact(Ao.mp z).resolve_left b
section
variable {ps ps':XN}{u v:Nat}
end
inductive Dn(wd:List<|Yh)(p:Nat):Nat->Prop
 |self:Dn wd p p
 |part {z y:Nat} {k:Kn}:Dn wd p z->wd[z]?=some (some k)->y∈zm (some k)->Dn wd p y
def Dn.le(ok:xP wd){y:Nat}(h:Dn wd p y):y<=p:=by
 induction h with
 |self=>exact Ap _
 |@part z y k _ e I J=>
  cases k with
  |lf t n=>cases I
  |nd b i j=>
   have:=ok z b i j e;have I:y=i\/y=j:=by simpa[zm] using I
   rcases I with rfl|rfl<;>lia
def Dn.up{z y:Nat}{k:Kn}(e:wd[p]?=some (some k))(hz:z∈zm (some k))(h:Dn wd z y):Dn wd p y:=by induction h with|self=>exact .part .self e hz|part _ I J U=>exact .part U I J
def Dn.YZ{y:Nat}(h:Dn wd p y):y=p\/y∈xj wd:=by cases h with|self=>exact .inl rfl|part _ e I=>exact .inr<|A5.mpr {_,Ar e,I}
def Dn.meet(U:kU wd){y:Nat}(h:Dn wd p y)(g:Dn wd q y):Dn wd p q\/Dn wd q p:=by
 induction h with
 |self=>exact .inr g
 |@part z y k h e J j=>
  cases g with
  |self=>exact .inl<|.part h e J
  |@part o _ r g l I=>
   cases U.un _ _ _ _ y e l J I;exact j g
def sW(U:kU wd){y:Nat}(np:p∉xj wd)(I:q∉xj wd)(h:Dn wd p y)(g:Dn wd q y):p=q:=by
 rcases h.meet U g with h|h
 .exact(h.YZ.resolve_right I).symm
 .exact h.YZ.resolve_right np
def vF(ok:xP wd)(U:kU wd){y:Nat}{e:Bool}(h:wd[p]?=some (some<|.nd e i j))(h1:Dn wd i y)(h2:Dn wd j y):False:=by
 have no:∀{a b:Nat},a∈zm (some<|.nd e i j)->b∈zm (some<|.nd e i j)->a≠b->¬Dn wd a b:=λ{a b} I o ne g=>by
  cases g with
  |self=>exact ne rfl
  |@part z _ k g r t=>
   cases U.un _ _ _ _ b h r o t;have C:=g.le ok;obtain⟨T,k2⟩:=ok _ _ _ _ h;have I:a=i\/a=j:=by simpa[zm] using I
   rcases I with rfl|rfl<;>lia
 have J:i∈zm (some<|.nd e i j):=Ai;have l:j∈zm (some<|.nd e i j):=Ac _ Ai;have ne:=U.ne _ _ _ _ h;rcases h1.meet U h2 with g|g
 .exact no J l ne g
 .exact no l J (AJ ne) g
inductive yt(wd:List<|Yh):Nat->Nat->XO->XS->Prop
 |lf {p q:Nat} {t t':Bool} {n n':Str}:wd[p]?=some (some<|.lf t n)->wd[q]?=some (some<|.lf t' n')->yt wd p q [(p,q)] [p,q]
 |nd {p q i j i' j':Nat} {e e':Bool} {A B:XN} {G H:XS}:wd[p]?=some (some<|.nd e i j)->wd[q]?=some (some<|.nd e' i' j')->yt wd i i' A G->yt wd j j' B H->yt wd p q (A++B) (p::q::(G++H))
theorem zL{wd:List<|Yh}:∀{w:Wd} {p q:Nat},KW (xx wd) p w->KW (xx wd) q w.turn->∃A G,yt wd p q A G
 |.leaf t n,p,q,h,g=>{_,_,.lf h.Pv g.Pv}
 |.node e l r,p,q,h,g=>by obtain⟨i,j,I,J,U⟩:=h.On;obtain⟨i',j',o,g1,g2⟩:=g.On;obtain⟨A,G,C⟩:=zL J g1;obtain⟨B,H,T⟩:=zL U g2;exact{_,_,.nd I o C T}
def m7{x y:α}{l:List α}:x∉y::l↔x≠y/\x∉l:=by simp
section
variable {A:XN}{G:XS}
def yt.dn(M:yt wd p q A G):∀y∈G,Dn wd p y\/Dn wd q y:=by
 induction M with
 |lf _ _=>
  intro y I;rcases Ao.mp I with rfl|I
  .exact .inl .self
  .rw[Aj.mp I];exact .inr .self
 |@nd p q i j o r e t A B G H g l _ _ J U=>
  intro y I;rcases Ao.mp I with rfl|I
  .exact .inl .self
  rcases Ao.mp I with rfl|I
  .exact .inr .self
  rcases Ag.mp I with I|I
  .exact(J y I).imp (Dn.up g Ai) (Dn.up l Ai)
  .exact(U y I).imp (Dn.up g<|Ac _ Ai) (Dn.up l<|Ac _ Ai)
def yt.gone{x:Nat}(M:yt wd p q A G):x∉G->yt (wd.set x none) p q A G:=by
 have st:∀{y:Nat} {o:Yh},x≠y->wd[y]?=some o->(wd.set x none)[y]?=some o:=λh e=>by rw[AZ h];exact e
 induction M with
 |lf J U=>
  intro g;have I:=(m7.mp g);exact .lf (st I.1 J)<|st (m7.mp I.2).1 U
 |nd J U _ _ j l=>
  intro g;have I:=(m7.mp g);have r:=(m7.mp I.2);exact .nd (st I.1 J) (st r.1 U) (j λh=>r.2<|Am _ h)<|l λh=>r.2<|Ae _ h
def yt.nodup(ok:xP wd)(U:kU wd)(M:yt wd p q A G):(∀y,Dn wd p y->¬Dn wd q y)->G.Nodup:=by
 induction M with
 |@lf p q t t' n n' h1 h2=>
  intro ap;have:p≠q:=λe=>ap p .self<|e▸.self;simp[this]
 |@nd p q i j i' j' e e' A B G H I J m1 m2 a0 a1=>
  intro ap;have o:∀{a b:Nat} {e:Bool},a∈zm (some<|.nd e a b):=Ai;have r:∀{a b:Nat} {e:Bool},b∈zm (some<|.nd e a b):=Ac _ Ai;have n1:=a0 λy h h'=>ap y (h.up I o)<|h'.up J o;have n2:=a1 λy h h'=>ap y (h.up I r)<|h'.up J r;have dG:=m1.dn;have dH:=m2.dn;obtain⟨l1,l2⟩:=ok _ _ _ _ I;obtain⟨l3,l4⟩:=ok _ _ _ _ J;have C:∀y∈G++H,(Dn wd p y/\y<p)\/(Dn wd q y/\y<q):=λy T=>by
   rcases Ag.mp T with T|T
   .rcases dG y T with h|h
    .exact .inl {h.up I o,by have:=h.le ok;lia}
    .exact .inr {h.up J o,by have:=h.le ok;lia}
   .rcases dH y T with h|h
    .exact .inl {h.up I r,by have:=h.le ok;lia}
    .exact .inr {h.up J r,by have:=h.le ok;lia}
  refine AD.mpr {λh=>?_,AD.mpr {λh=>?_,AG.mpr {n1,n2,λa ha b hb z=>?_}}}
  .rcases Ao.mp h with e|h
   .exact ap p .self<|e▸.self
   .rcases C p h with⟨_,l⟩|⟨h,_⟩
    .lia
    .exact ap p .self h
  .rcases C q h with⟨h,_⟩|⟨_,l⟩
   .exact ap q h .self
   .lia
  .subst z;rcases dG a ha with h|h<;>rcases dH a hb with g|g
   .exact vF ok U I h g
   .exact ap a (h.up I o)<|g.up J r
   .exact ap a (g.up I r)<|h.up J o
   .exact vF ok U J h g
end
inductive aM(wd:List<|Yh):XO->XO->XS->Prop
 |nil:aM wd [] [] []
 |cons {c:X2} {ct A B:XN} {G H:XS}:yt wd c.1 c.2 A G->aM wd ct B H->aM wd (c::ct) (A++B) (G++H)
theorem KL{wd:List<|Yh}:∀{ct:XN},(∀c∈ct,∃w,KW (xx wd) c.1 w/\KW (xx wd) c.2 w.turn)->∃A G,aM wd ct A G
 |[],_=>{_,_,.nil}
 |c::ct,h=>by obtain⟨w,I,J⟩:=h c Ai;obtain⟨A,G,m⟩:=zL I J;obtain⟨B,H,n⟩:=KL λd hd=>h d<|Ac _ hd;exact{_,_,.cons m n}
section
variable {A:XN}{G:XS}
theorem aM.dn(M:aM wd ct A G):∀y∈G,∃p∈GM ct,Dn wd p y:=by
 induction M with
 |nil=>exact nofun
 |@cons c ct A B G H m _ J=>
  intro y I;rw[jd];rcases Ag.mp I with I|I
  .rcases m.dn y I with h|h
   .exact{_,Ai,h}
   .exact{_,Ac _ Ai,h}
  .obtain⟨p,U,h⟩:=J y I;exact{p,Ac _<|Ac _ U,h}
theorem aM.nodup(ok:xP wd)(U:kU wd)(M:aM wd ct A G):(GM ct).Nodup->(∀x∈GM ct,x∉xj wd)->G.Nodup:=by
 induction M with
 |nil=>exactλ_ _=>Dr
 |@cons c ct A B G H m o r=>
  intro nd np;rw[jd] at nd np;obtain⟨f1,nd⟩:=AD.mp nd;obtain⟨f2,nd⟩:=AD.mp nd;have j:=np c.1 Ai;have l:=np c.2<|Ac _ Ai;have J:∀p∈GM ct,p∉xj wd:=λp I=>np p<|Ac _<|Ac _ I;refine AG.mpr {m.nodup ok U λy h g=>f1<|sW U j l h g▸Ai,r nd J,λa t b C z=>?_};subst z;obtain⟨p,I,g⟩:=o.dn a C;rcases m.dn a t with h|h
  .exact f1<|sW U j (J p I) h g▸Ac _ I
  .exact f2<|sW U l (J p I) h g▸I
theorem aM.gone{x:Nat}(M:aM wd ct A G):x∉G->aM (wd.set x none) ct A G:=by induction M with|nil=>exactλ_=>.nil|cons m _ I=>exactλh=>.cons (m.gone λz=>h<|Am _ z)<|I λz=>h<|Ae _ z
def aM.app{B:XN}{H:XS}(M:aM wd ct A G)(N:aM wd fy B H):aM wd (ct++fy) (A++B) (G++H):=by induction M with|nil=>exact N|cons m _ I=>rw[AC,AC];exact .cons m I
def aM.perm(p:ct.Perm fy):∀{A G},aM wd ct A G->∃j r,aM wd fy j r/\j.Perm A/\r.Perm G:=by
 induction p with
 |nil=>exactλM=>{_,_,M,.refl _,.refl _}
 |cons c _ t=>
  rintro _ _ (⟨⟩|⟨m,n⟩);obtain⟨B,H,C,I,J⟩:=t n;exact{_,_,.cons m C,I.append_left _,J.append_left _}
 |swap c d l=>
  rintro _ _ (⟨⟩|⟨m,⟨⟩|⟨n,o⟩⟩);refine{_,_,.cons n<|.cons m o,?_,?_}
  .rw[<-AC,<-AC];exact Br.append_right _
  .rw[<-AC,<-AC];exact Br.append_right _
 |trans _ _ U g=>
  intro _ _ M;obtain⟨A1,G1,T,I,J⟩:=U M;obtain⟨A2,G2,M2,p3,p4⟩:=g T;exact{A2,G2,M2,p3.trans I,p4.trans J}
end
theorem aM.step{A:XN}{G:XS}(ok:xP wd)(I:bG wd ct)(M:aM wd ct A G){k:Nat}{x:X2}(ex:ct[k]?=some x)(pm:fy.Perm<|ct.eraseIdx k++dR wd x):∃U g,aM (GE wd x) fy U g/\G.Perm (x.1::x.2::g)/\
 ((∃e i j,wd[x.1]?=some (some<|.nd e i j))/\U.Perm A\/(∃t n,wd[x.1]?=some (some<|.lf t n))/\A.Perm (x::U)):=by
 have hx:=Ar ex;obtain⟨A1,o,M1,pA,r⟩:=M.perm<|x9 ex;have nd:=r.nodup_iff.mpr<|M.nodup ok I.pu I.Zu I.Y7;cases M1 with
 |@cons _ _ Ax B Gx H m n=>
  rcases I.two hx with⟨t,nm,l,e2,ei⟩|⟨e,i,j,i',j',l,e2,ei⟩
  .rw[ei,Aw] at pm;cases m with
   |nd J _ _ _=>rw[l] at J;cases J
   |lf J C=>
    have d:=AG.mp nd;have g1:x.1∉H:=λz=>d.2.2 x.1 Ai x.1 z rfl;have g2:x.2∉H:=λz=>d.2.2 x.2 (Ac _ Ai) x.2 z rfl;obtain⟨U,g,T,p1,p2⟩:=((n.gone g1).gone g2).perm pm.symm;exact{U,g,T,r.symm.trans<|(p2.symm.cons _).cons _,.inr {{(t),nm,l},pA.symm.trans<|p1.symm.cons x}}
  .rw[ei] at pm;cases m with
   |lf J _=>rw[l] at J;cases J
   |@nd _ _ i1 j1 i2 j2 b b' A1 A2 o p J C m1 m2=>
    rw[l] at J;rw[e2] at C;obtain⟨rfl,rfl⟩:i=i1/\j=j1:=by injection J with q;injection q with q;injection q with _ a b;exact{(a),b}
    obtain⟨rfl,rfl⟩:i'=i2/\j'=j2:=by injection C with q;injection q with q;injection q with _ a b;exact{(a),b}
    have nd:=nd;obtain⟨f1,nd⟩:=AD.mp nd;obtain⟨f2,nd⟩:=AD.mp nd;have f1:x.1∉(o++p)++H:=λz=>f1<|Ac _ z;have N:aM wd (ct.eraseIdx k++[(i,i'),(j,j')]) (B++(A1++(A2++[]))) (H++(o++(p++[]))):=n.app<|.cons m1<|.cons m2 .nil;have pH:(H++(o++(p++[]))).Perm ((o++p)++H):=by rw[Aw];exact Br
    obtain⟨U,g,T,p1,p2⟩:=((N.gone λz=>f1<|pH.mem_iff.mp z).gone λz=>f2<|pH.mem_iff.mp z).perm pm.symm;refine{U,g,T,r.symm.trans<|((p2.trans pH).symm.cons _).cons _,.inl {{(e),i,j,l},p1.trans<|List.Perm.trans ?_ pA}};rw[Aw];exact Br
section
variable {lk0 A0:XN}{Z:List<|Yh}
end
theorem KN:∀(l m:XS),l.Nodup->(∀x∈l,x∈m)->l.length<=m.length
 |[],_,_,_=>Bf _
 |x::r,m,nd,h=>by obtain⟨J,U⟩:=AD.mp nd;have g:=KN r (m.erase x) U λy I=>(List.mem_erase_of_ne (λe:y=x=>J<|e▸I)).mpr<|h y<|Ac _ I;rw[(List.perm_cons_erase<|h x Ai).length_eq,Av,Av];lia
section
variable {A:XN}{b y w z x:Nat}
end
def Wp{l:List α}{x:α}(h:l[i]?=some x):l.drop i=x::l.drop (i+1):=by have I:=qz h;rw[B9 I];rw[An I] at h;rw[AR h]
def KO(I:ju)(J:ju):RD "steps_due" lU 122 ["web"] (λV=>Jk V I/\Jl V J):={_,λV B c _ _ _ _ _ _ _ U hN g=>(qd<|qr<|ko JO rfl B.bj JP<|jy<|gN ["cut"] (ES (by rfl)) rfl (vk<|J_ 0) (sJ 1) (λ_ _ _ _=>gt) λ_ _ _ _=>(C_ c.1 U<|jy<|C_ c.2 U<|ki (J_ 0)<|J_ 1))}
theorem yt.size{A:XN}{G:XS}(M:yt wd p q A G):∀{w:Wd},KW (xx wd) p w->G.length=2*w.size:=by
 induction M with
 |lf J _=>
  intro w h;cases w with|leaf=>rfl|node e l r=>obtain⟨_,_,I,_⟩:=h.On;rw[J] at I;cases I
 |nd J _ _ _ U g=>
  intro w h;cases w with
  |leaf=>have I:=h.Pv;rw[J] at I;cases I
  |node e l r=>
   obtain⟨i,j,I,o,t⟩:=h.On;rw[J] at I;cases I;have:=U o;have:=g t;rw[Av,Av,Ab];show _=2*(1+l.size+r.size);lia
def KP{A:XN}{G:XS}{keep:qk->Prop}{Q:YK}(M:aM wd ct A G)(hw:∀c∈ct,∃w,KW (xx wd) c.1 w/\KW (xx wd) c.2 w.turn/\w.depth<=120)(hz:ct.length<=1000)(C:keep L)
 (T:∀(x:X2) (w:Wd) (W:YK) (X:qk->Prop),KW (xx wd) x.1 w->w.depth<=120->W (.int w.size) L->g (.tup [.int (x.1:Int),.int (x.2:Int)]) (τ++List.replicate 1 none) L λI L2=>zF I L2 λb L3=>aa b (te I L3 W)<|X L3)
 (q:∀bs:XX,2*bs.sum=(G.length:Int)->∀p,L p=none->Q (.ref p) (qf L p<|.lst<|bs.map Y.int)):f_ (qx ct) keep 1 g zF te τ L Q:=by
 refine dS (λi j=>∃(bs:XX) (l:XN) (U:XS),j=bs.map Y.int/\aM wd (ct.drop i) l U/\2*bs.sum+(U.length:Int)=(G.length:Int)) (by rw[qx,Ah];exact BN hz (by decide)) C {[],A,G,rfl,M,by simp} ?_ ?_
 .rintro i y j r ⟨bs,l,U,rfl,J,o⟩;rw[qx,Aq] at r;obtain⟨x,ex,rfl⟩:=AE.mp r;obtain⟨w,t,_,hd⟩:=hw x<|Ar ex;rw[Wp ex] at J;cases J with
  |@cons _ _ Ax B Gx H m n=>
   refine T x w _ _ t hd {_,EL _,rfl,bs++[(w.size:Int)],B,H,by rw[AI];rfl,n,?_};have:=m.size t;rw[Ab] at o;rw[List.sum_append];simp;lia
 .rintro j ⟨bs,l,U,rfl,J,o⟩;rw[qx,Ah,List.drop_length] at J;cases J;exact q bs (by simpa using o)
inductive jD(ys:_T)(L:qk)(Q:YK):Prop
 |mk:∀a l c,∀wd:List (Yh),∀ct A:XO,∀G:XS,(ys=[aY a l c])->(L a=some (.lst<|xx wd))->(L c=some (.lst<|qx ct))->(ct.length<=1000)->(aM wd ct A G)->((∀c∈ct,∃w,KW (xx wd) c.1 w/\KW (xx wd) c.2 w.turn/\w.depth<=120))->(∀s:Int,2*s=(G.length:Int)->∀L',qg L L'->Q (.int s) L')->jD ys L Q
def alt:_f jD (KO (af 120)<|x6 120).1 1:=by
 rintro ys L Q ⟨a,l,c,I,t,A,G,rfl,J,U,g,M,hw,q⟩;refine xl U λkeep j=>KP M hw g (j _ rfl) (λx w W X k d h=>?_) λbs o p r=>?_
 .exact{a,xx I,x.1,w,rfl,J,k,by lia,w,rfl,by lia,h}
 .exact{rfl,qb q9<|qj (rK _)<|xg<|q _ o _<|By r}
section
variable {z:Nat}{f:X0}
def Zh(wd:List<|Yh)(lk ct:XN)(f:X0)(z:Nat):XO:=jj wd lk ct++xK wd (zd true wd) ((zd true wd).map f)++A' wd z
def jX{r:Nat}{e:Bool}:r∈zd e wd↔∃i j,wd[r]?=some (some<|.nd e i j):=by
 constructor
 .intro h;obtain⟨_,k,J,I⟩:=dk h;cases k with
  |none=>cases e<;>cases I
  |some k=>
   cases k with|lf=>cases e<;>cases I|nd U i j=>cases e<;>cases U<;>first|exact{(i),j,J}|cases I
 .rintro⟨i,j,h⟩;exact zI h (by cases e<;>rfl)<|qz h
theorem KQ{x:X2}:∀{es:XS},x∈xK wd es (es.map f)↔x.1∈es/\x.2=YZ wd x.1 (f x.1)
 |[]=>{λh=>(Bo h).elim,λh=>(Bo h.1).elim}
 |p::es=>by
  show x∈(p,YZ wd p<|f p)::xK wd es (es.map f)↔_;rw[Ao,KQ,Ao];constructor
  .rintro(rfl|⟨h,e⟩)
   .exact{.inl rfl,rfl}
   .exact{.inr h,e}
  .rintro⟨h|h,e⟩
   .exact .inl<|EC h (by rw[e,h])
   .exact .inr {(h),e}
def KR{x:X2}:x∈jj wd lk ct++xK wd (zd true wd) ((zd true wd).map f)↔x∈lk\/x∈ct\/(∃i j,wd[x.1]?=some (some<|.nd false i j)/\(x.2=i\/x.2=j))\/∃i j,wd[x.1]?=some (some<|.nd true i j)/\x.2=if f x.1=0 then i else j:=by
 have I:x∈jr wd (zd false wd)↔∃i j,wd[x.1]?=some (some<|.nd false i j)/\(x.2=i\/x.2=j):=by
  unfold jr;rw[A5];constructor
  .rintro⟨p,J,h⟩;obtain⟨i,j,e⟩:=jX.mp J;rw[e] at h;obtain⟨q,U,rfl⟩:=BE.mp h;exact{i,j,e,(Ao.mp U).imp id Aj.mp}
  .rintro⟨i,j,e,h⟩;refine{x.1,jX.mpr {(i),j,e},?_};rw[e];exact BE.mpr {x.2,by rcases h with h|h<;>rw[h]<;>simp[zm],rfl}
 have g:x∈xK wd (zd true wd) ((zd true wd).map f)↔∃i j,wd[x.1]?=some (some<|.nd true i j)/\x.2=if f x.1=0 then i else j:=by
  rw[KQ,jX];constructor
  .rintro⟨⟨i,j,e⟩,h⟩;exact{i,j,e,by rw[h,fK e]}
  .rintro⟨i,j,e,h⟩;exact{{(i),j,e},by rw[h,fK e]}
 unfold jj;rw[Ag,Ag,Ag,I,g,or_assoc,or_assoc]
def kg{x:X2}:x∈Zh wd lk ct f z↔x∈lk\/x∈ct\/(∃i j,wd[x.1]?=some (some<|.nd false i j)/\(x.2=i\/x.2=j))\/(∃i j,wd[x.1]?=some (some<|.nd true i j)/\x.2=if f x.1=0 then i else j)\/(x.1<wd.length/\bD wd x.1=false/\x.2=z):=by
 have I:x∈A' wd z↔x.1<wd.length/\bD wd x.1=false/\x.2=z:=by refine{tN,λ ψ=>(by obtain⟨a,b,c⟩:=ψ;exact BE.mpr {x.1,AF.mpr {AM.mpr a,by rw[b];rfl},EC rfl c.symm})}
 unfold Zh;rw[Ag,KR,I,or_assoc,or_assoc,or_assoc]
def Wq(c:(jj wd lk ct).length+(zd true wd).length+1=(zc wd).length):(Zh wd lk ct f z).length+1=wd.length:=by have:=Kt wd z;unfold Zh;rw[Ab,Ab,fZ<|Ah ..];omega
theorem KS:∀{es bs:XS},es.Nodup->bs.length=es.length->(∀b∈bs,b=0\/b=1)->∃f:X0,(∀r,f r=0\/f r=1)/\es.map f=bs
 |[],[],_,_,_=>{λ_=>0,λ_=>.inl rfl,rfl}
 |p::es,b::bs,nd,h,I=>by
  obtain⟨J,U⟩:=AD.mp nd;obtain⟨f,f1,f2⟩:=KS U (Nat.succ.inj h) λc g=>I c<|Ac _ g;refine{λr=>if r=p then b else f r,λr=>?_,?_}
  .show(if r=p then b else f r)=0\/(if r=p then b else f r)=1;by_cases c:r=p
   .rw[Ay c];exact I b Ai
   .rw[Au c];exact f1 r
  .rw[AQ,Ay rfl,<-f2];refine BU _<|List.map_congr_left λr j=>Au ?_;rintro rfl;exact J j
 |[],_::_,_,h,_=>by cases h
 |_::_,[],_,h,_=>by cases h
theorem iu(H:CI wd (jj wd lk ct)<|zd true wd)(j:bD wd z=true):xL wd lk ct↔(jj wd lk ct).length+(zd true wd).length+1=(zc wd).length/\∀f:X0,(∀r,f r=0\/f r=1)->pZ wd.length (Zh wd lk ct f z):=by
 have nd:(zd true wd).Nodup:=(oS _ wd wd.length).imp λh=>AY h;refine(r9 H).trans {λh=>{?_,λf l R E o a b J I=>?_},λ⟨c,h⟩ bs C U=>?_}
 .have:=(h ((zd true wd).map λ_=>0) (Ah ..) λb I=>by obtain⟨_,_,rfl⟩:=BE.mp I;exact .inl rfl).1;rw[Ab,fZ<|Ah ..] at this;exact this
 .have:=(h ((zd true wd).map f) (Ah ..) λb I=>by obtain⟨r,_,rfl⟩:=BE.mp I;exact l r).2;exact(H.app.Zp j).mp this R E.r (λ_ _=>E.s) (λ_ _ _=>E.t) o (λp g=>(Bo g).elim) a b J I
 .obtain⟨f,f1,rfl⟩:=KS nd C U;refine{by rw[Ab,fZ<|Ah ..];exact c,(H.app.Zp j).mpr λR r s t g _ a b J I=>h f f1 R {r,λ{a b}=>s a b,λ{a b c}=>t a b c} g a b J I}
end
def wG(th:qO wd)(J:Zr wd lk)(hc:∀d∈ct,(∃k,wd[d.1]?=some (some k))/\∃k,wd[d.2]?=some (some k))(ex:∃z,bD wd z=true):CI wd (jj wd lk ct) (zd true wd):=by
 refine{λx I=>?_,λp r=>?_,ex}
 .unfold jj at I;rcases Ag.mp I with I|I
  .rcases Ag.mp I with I|I
   .obtain⟨_,t,n,g,U⟩:=J._J x I;exact{aA g,aA U}
   .obtain⟨⟨_,g⟩,_,U⟩:=hc x I;exact{aA g,aA U}
  .obtain⟨e,i,j,g,U⟩:=rq I;obtain⟨⟨_,l⟩,_,o⟩:=th _ _ _ _ g;exact{aA g,by rcases U with U|U<;>rw[U];exact aA l;exact aA o}
 .obtain⟨i,j,h⟩:=jX.mp r;obtain⟨⟨_,l⟩,_,o⟩:=th _ _ _ _ h;exact{true,i,j,h,aA l,aA o}
structure Hr(wd:List<|Yh)(ct:XN):Prop where
 pu:kU wd
 Zu:(GM ct).Nodup
 Y7:∀x∈GM ct,x∉xj wd
 there:∀d∈ct,(∃k,wd[d.1]?=some (some k))/\∃k,wd[d.2]?=some (some k)
def bG.there(I:bG wd ct):∀d∈ct,(∃k,wd[d.1]?=some (some k))/\∃k,wd[d.2]?=some (some k):=λd hd=>by
 obtain⟨w,J,U⟩:=I.cw d hd;have g:∀{p w},KW (xx wd) p w->∃k,wd[p]?=some (some k):=λ{p w} h=>by cases w with|leaf=>exact{_,h.Pv}|node=>obtain⟨_,_,e,_⟩:=h.On;exact{_,e}
 exact{g J,g U}
def bG.cu(I:bG wd ct):Hr wd ct:={(I.pu),I.Zu,I.Y7,I.there}
def ld{x:X2}(I:bG wd ct)(th:qO wd)(l:x∈ct):qO (GE wd x):=λp e i j h=>by obtain⟨_,_,h⟩:=aI h;obtain⟨J,U⟩:=ay h;obtain⟨o,r⟩:=jf l;have ne:∀{y},y∈xj wd->y≠x.1/\y≠x.2:=λg=>{λe=>I.Y7 _ o<|e▸g,λe=>I.Y7 _ r<|e▸g};obtain⟨⟨t,C⟩,T,h2⟩:=th _ _ _ _ h;exact{{t,by rw[ky (ne J).1 (ne J).2];exact C},T,by rw[ky (ne U).1 (ne U).2];exact h2}
def xL.ex(R:xL wd lk ct):∃z,bD wd z=true:=by have:=R.1;cases h:zc wd with|nil=>rw[h] at this;cases this|cons z r=>exact{z,dU.mpr (by rw[h];exact Ai)}
theorem zY(f:Yh->Bool)(ks:List<|Yh):∀i,i<=ks.length->(ij f ks i).length=(ks.take i).countP f
 |0,_=>rfl
 |i+1,h=>by have e:ks[i]?=some ks[i]:=An (by lia);rw[br e,Ab,zY f ks i (by lia),Bm,e,DS];congr 1;cases I:f ks[i]<;>simp[I]
def bP{g:Yh->Bool}{x:X2}{J I:Yh}(h1:wd[x.1]?=some J)(h2:wd[x.2]?=some I)(ne:x.1≠x.2)(p:g none=false):(ij g (GE wd x) (GE wd x).length).length+(if g J then 1 else 0)+(if g I then 1 else 0)=(ij g wd wd.length).length:=by
 have o:=qz h1;have r:=qz h2;have w:∀l:List (Yh),(ij g l l.length).length=l.countP g:=λl=>by rw[zY _ _ _<|Ap _,Bp]
 rw[w,w];unfold GE;rw[Ey (by rw[Bn];exact r),Ey o,p,List.getElem_set_ne ne];have t:wd[x.1]=J:=by rw[An o] at h1;exact AR h1
 have C:wd[x.2]=I:=by rw[An r] at h2;exact AR h2
 rw[t,C];have T:g J=true->0<wd.countP g:=λh=>DL.mpr {J,Ar h1,h};have p2:g J=true->g I=true->2<=wd.countP g:=λh h'=>by have q:0<(wd.set x.1 none).countP g:=DL.mpr {I,Ar (by rw[AZ ne];exact h2),h'};rw[Ey o,t,Ay h,p] at q;simp at q;omega
 have p3:g I=true->0<wd.countP g:=λh=>DL.mpr {I,Ar h2,h};by_cases U:g J=true<;>by_cases j:g I=true
 .have:=p2 U j;simp[U,j];omega
 .have:=T U;simp[U,j];omega
 .have:=p3 j;simp[U,j];omega
 .simp[U,j]
def nZ :(jj wd lk ct).length=lk.length+ct.length+2*(zd false wd).length:=by
 have key:∀pl:XS,(∀p∈pl,p∈zd false wd)->(jr wd pl).length=2*pl.length:=λpl=>by
  induction pl with
  |nil=>exactλ_=>rfl
  |cons p r I=>
   intro h;obtain⟨i,j,e⟩:=jX.mp<|h p Ai;have:=I λq J=>h q<|Ac _ J;unfold jr at this ⊢;rw[Bc,Ab,this,e,Av];show 2+_=_;lia
 unfold jj;rw[Ab,Ab,key _ λ_ h=>h]
section
variable {ce:XN}{f:X0}{z:Nat}
def Wr(H:CI wd (jj wd lk ct)<|zd true wd)(g:bD wd z=true):∀x∈Zh wd lk ct f z,x.1<wd.length/\x.2<wd.length:=λx I=>by
 rcases Ag.mp I with I|I
 .obtain⟨J,U⟩:=H.app.Zo x I;exact{v9 J,v9 U}
 .obtain⟨J,_,U⟩:=tN I;exact{J,U▸v9 g}
def mn{r:Nat}(h:wd[r]?=some none):bD wd r=false:=by unfold bD;rw[h];rfl
def KU:(Zh wd lk ct f z).length=lk.length+ct.length+2*(zd false wd).length+(zd true wd).length+(A' wd z).length:=by unfold Zh;rw[Ab,Ab,fZ<|Ah ..,nZ]
def uc{x:X2}(h1:x.1<wd.length)(h2:x.2<wd.length):(GE wd x)[x.1]?=some none/\(GE wd x)[x.2]?=some none:=by rw[oF h1,oF h2];exact{Ay<|.inl rfl,Ay<|.inr rfl}
def f6{x:X2}{r:Nat}(h:bD wd r=false):bD (GE wd x) r=false:=by
 cases c:bD (GE wd x) r with
 |false=>rfl
 |true=>
  unfold bD at c;cases e:(GE wd x)[r]? with
  |none=>rw[e] at c;cases c
  |some k=>
   cases k with|none=>rw[e] at c;cases c|some k=>rw[aA (aI e).2.2] at h;cases h
theorem zT{P Q x y u v:Nat}(U:wd[P]?=some (some<|.nd false x y))(J:wd[Q]?=some (some<|.nd true u v))(H:CI wd (jj wd lk ct)<|zd true wd)(H':CI (GE wd (P,Q)) (jj (GE wd (P,Q)) lk fy)<|zd true<|GE wd (P,Q))(Rt:xL wd lk ct)(tx:bD (GE wd (P,Q)) x=true)
 (a0:∀c∈ct,c∈ce\/c=(P,Q)\/c=(Q,P)) (cl:ce.length+1=ct.length) {T a2:X2} (pm:fy.Perm<|ce++[T,a2]) (a3:T=(x,u)\/T=(u,x)) (a4:a2=(y,v)\/a2=(v,y)):xL (GE wd (P,Q)) lk fy:=by
 have l:P≠Q:=λe=>by rw[e,J] at U;cases U
 have lP:=qz U;have lQ:=qz J;obtain⟨gP,gQ⟩:=uc (x:=(P,Q)) lP lQ;have p:=fe wd (P,Q);have a5:bD wd x=true:=by cases c:bD wd x with|true=>rfl|false=>rw[f6 c] at tx;cases tx
 have c1:=bP (x:=(P,Q)) (g:=wo false) U J l rfl;have c2:=bP (x:=(P,Q)) (g:=wo true) U J l rfl;have c3:=bP (x:=(P,Q)) (g:=df) U J l rfl;have pl:=pm.length_eq;rw[Ab] at pl;have pl:fy.length=ce.length+2:=pl;have cnt:(jj (GE wd (P,Q)) lk fy).length+(zd true<|GE wd (P,Q)).length+1=(zc<|GE wd (P,Q)).length:=by have r1:=Rt.1;rw[nZ] at r1 ⊢;have c1:(zd false<|GE wd (P,Q)).length+1+0=(zd false wd).length:=c1;have c2:(zd true<|GE wd (P,Q)).length+0+1=(zd true wd).length:=c2;have c3:(zc<|GE wd (P,Q)).length+1+1=(zc wd).length:=c3;lia
 refine(iu H' tx).mpr {cnt,λf hf=>?_};have sl:=Wq (f:=f) (z:=x) cnt;rw[KU] at sl;have C:∀e∈Zh (GE wd (P,Q)) lk ce f x,e∈Zh (GE wd (P,Q)) lk fy f x:=λe I=>by rw[kg] at I ⊢;exact I.imp id λh=>h.imp (λh=>pm.mem_iff.mpr<|Am _ h) id
 have ab:=Wr (f:=f) H' tx;have fl:(Zh (GE wd (P,Q)) lk ce f x).length+3=(GE wd (P,Q)).length:=by rw[KU];lia
 have key:∀b,b=0\/b=1->pZ (GE wd (P,Q)).length (Zh (GE wd (P,Q)) lk ce f x++[(x,y),(x,if b=0 then u else v)]):=λb hb=>by
  rw[p];refine(((iu H a5).mp Rt).2 (λr=>if r=Q then b else f r) λr=>?_).imp λR E h e I=>?_
  .by_cases c:r=Q
   .simp only[Ay c];exact hb
   .simp only[Au c];exact hf r
  have o:∀e∈Zh (GE wd (P,Q)) lk ce f x,R e.1 e.2:=λe I=>h e<|Am _ I;have ac:=h (x,y)<|Ae _ Ai;have al:=h (x,if b=0 then u else v)<|Ae _<|Ac _ Ai;have rP:=o (P,x) (kg.mpr (.inr (.inr (.inr (.inr {by rw[p];exact lP,mn gP,rfl})))));have rQ:=o (Q,x) (kg.mpr (.inr (.inr (.inr (.inr {by rw[p];exact lQ,mn gQ,rfl})))));rcases kg.mp I with m|m|⟨i,j,m,w⟩|⟨i,j,m,w⟩|⟨m1,m2,m3⟩
  .exact o e<|kg.mpr<|.inl m
  .rcases a0 e m with m|rfl|rfl
   .exact o e<|kg.mpr<|.inr<|.inl m
   .exact E.t rP<|E.s rQ
   .exact E.t rQ<|E.s rP
  .by_cases c:e.1=P
   .rw[c] at m ⊢;rw[U] at m;cases m;rcases w with w|w<;>rw[w]
    .exact rP
    .exact E.t rP ac
   .have c':e.1≠Q:=λz=>by rw[z,J] at m;cases m
    exact o e (kg.mpr (.inr (.inr (.inl {i,j,by rw[ky c c'];exact m,w}))))
  .by_cases c:e.1=Q
   .rw[c] at m w ⊢;rw[J] at m;cases m;simp only[if_true] at w;rw[w];exact E.t rQ al
   .have c':e.1≠P:=λz=>by rw[z,U] at m;cases m
    simp only[Au c] at w;exact o e (kg.mpr (.inr (.inr (.inr (.inl {i,j,by rw[ky c' c];exact m,w})))))
  .exact o e (kg.mpr (.inr (.inr (.inr (.inr {by rw[p];exact m1,f6 m2,m3})))))
 have st:=Vq (λe I=>ab e<|C e I) fl (v9 tx) (by rw[p];exact v9 (H.Zd Q (jX.mpr {(u),v,J}) |>.elim λe ψ=>by obtain⟨i,j,h,h1,h2⟩:=ψ;rw[J] at h;cases h;exact h2)) (key 0<|.inl rfl)<|key 1<|.inr rfl;refine st.imp λR E h e I=>?_;have m1:=h T<|kg.mpr<|.inr<|.inl<|pm.mem_iff.mpr<|Ae _ Ai;have m2:=h a2<|kg.mpr<|.inr<|.inl<|pm.mem_iff.mpr<|Ae _<|Ac _ Ai;rcases Ag.mp I with I|I
 .exact h e<|C e I
 .rcases Ao.mp I with rfl|I
  .rcases a3 with rfl|rfl
   .exact m1
   .exact E.s m1
  .rw[Aj.mp I];rcases a4 with rfl|rfl
   .exact m2
   .exact E.s m2
end
section
variable {x x0 y0:X2}{u v k:Nat}{t':Bool}{n n':Str}
theorem Ws(U:wd[x.1]?=some (some<|.lf t n))(l:wd[x.2]?=some (some<|.lf t' n'))(nx:x.1≠x.2)(J:Zr wd lk)(mx:x0∈lk)(my:y0∈lk)(ne:x0≠y0)(ou:sD x.1 u x0)(ov:sD x.2 v y0)(pm:ir.Perm<|lk.filter (wq x.1 x.2)++[xQ u v])(a0:∀c∈ct,c∈fy\/c=x)(cl:fy.length+1=ct.length)
 (H:CI wd (jj wd lk ct)<|zd true wd) (H':CI (GE wd x) (jj (GE wd x) ir fy)<|zd true<|GE wd x) (tu:bD (GE wd x) u=true) (Rt:xL wd lk ct):xL (GE wd x) ir fy:=by
 have l1:=qz U;have l2:=qz l;obtain⟨g1,g2⟩:=uc l1 l2;have T:=fe wd x;have a1:bD wd u=true:=by cases c:bD wd u with|true=>rfl|false=>rw[f6 c] at tu;cases tu
 have c1:(zd false<|GE wd x).length+0+0=(zd false wd).length:=bP (g:=wo false) U l nx rfl;have c2:(zd true<|GE wd x).length+0+0=(zd true wd).length:=bP (g:=wo true) U l nx rfl;have c3:(zc<|GE wd x).length+1+1=(zc wd).length:=bP (g:=df) U l nx rfl;have pl:=(jH J.ZV mx my ne ou ov).length_eq;rw[aq,Av,Av,aq,<-pm.length_eq] at pl;have cnt:(jj (GE wd x) ir fy).length+(zd true<|GE wd x).length+1=(zc<|GE wd x).length:=by have r1:=Rt.1;rw[nZ] at r1 ⊢;lia
 refine(iu H' tu).mpr {cnt,λf hf=>?_};rw[T];refine(((iu H a1).mp Rt).2 f hf).imp λR E I e he=>?_;have r1:=I (x.1,u) (kg.mpr (.inr (.inr (.inr (.inr {by rw[T];exact l1,mn g1,rfl})))));have r2:=I (x.2,u) (kg.mpr (.inr (.inr (.inr (.inr {by rw[T];exact l2,mn g2,rfl})))));have a2:R u v:=by
  have:=I (xQ u v)<|kg.mpr<|.inl<|pm.mem_iff.mpr<|Ae _<|Aj.mpr rfl;unfold xQ at this;by_cases c:u<=v
  .rw[BW c,Cn c] at this;exact this
  .rw[Cm (by lia),Cr (by lia)] at this;exact E.s this
 have C:∀{p w:Nat} {c:X2},sD p w c->R p w->R c.1 c.2:=λo h=>by
  rcases o with rfl|rfl
  .exact h
  .exact E.s h
 have off:∀{r:Nat} {e:Bool} {i j:Nat},wd[r]?=some (some<|.nd e i j)->(GE wd x)[r]?=some (some<|.nd e i j):=λ{r e i j} h=>by rw[ky (λz=>by rw[z,U] at h;cases h) λz=>by rw[z,l] at h;cases h];exact h
 rcases kg.mp he with m|m|⟨i,j,m,w⟩|⟨i,j,m,w⟩|⟨m1,m2,m3⟩
 .by_cases c1:x.1=e.1\/x.1=e.2
  .cases az J.ZV m mx c1 ou.mem;exact C ou r1
  .by_cases c2:x.2=e.1\/x.2=e.2
   .cases az J.ZV m my c2 ov.mem;exact C ov<|E.t r2 a2
   .exact I e (kg.mpr (.inl (pm.mem_iff.mpr (Am _ (AF.mpr {m,by unfold wq;rw[AB c1,AB c2];rfl})))))
 .rcases a0 e m with m|rfl
  .exact I e<|kg.mpr<|.inr<|.inl m
  .exact E.t r1<|E.s r2
 .exact I e<|kg.mpr<|.inr<|.inr<|.inl {i,j,off m,w}
 .exact I e<|kg.mpr<|.inr<|.inr<|.inr<|.inl {i,j,off m,w}
 .exact I e (kg.mpr (.inr (.inr (.inr (.inr {by rw[T];exact m1,f6 m2,m3})))))
def KY(I:Hr wd ct)(J:Zr wd lk)(Rt:xL wd lk ct)(r:x∈ct):¬KJ lk x:=by
 rintro⟨c0,U,o⟩;have two:∀z,(z=x.1\/z=x.2)↔(z=c0.1\/z=c0.2):=λz=>by rcases o with e|e<;>rw[e];exact Or.comm
 have mp:=jf r;have np:∀z∈xj wd,¬(z=x.1\/z=x.2):=λz hz h=>by
  rcases h with rfl|rfl
  .exact I.Y7 _ mp.1 hz
  .exact I.Y7 _ mp.2 hz
 have nk:∀{z:Nat} {e:Bool} {i j:Nat},wd[z]?=some (some<|.nd e i j)->¬(z=x.1\/z=x.2):=λ{z e i j} h w=>by
  obtain⟨m1,m2⟩:=jf U;have:z∈GM lk:=by rcases (two z).mp w with rfl|rfl;exact m1;exact m2
  obtain⟨t,n,g⟩:=(J.Z1 z).mp this;rw[h] at g;cases g
 have one:∀{l:XN} {d:X2},(GM l).Nodup->d∈l->(∀z,(z=x.1\/z=x.2)↔(z=d.1\/z=d.2))->∀c∈l,(c.1=x.1\/c.1=x.2)↔(c.2=x.1\/c.2=x.2):=λ{l d} nd hd w c U=>by
  constructor
  .intro h;cases az nd U hd (.inl rfl) ((w _).mp h);exact(w _).mpr (.inr rfl)
  .intro h;cases az nd U hd (.inr rfl) ((w _).mp h);exact(w _).mpr (.inl rfl)
 have all:=Rt.2 (λa b=>(a=x.1\/a=x.2)↔(b=x.1\/b=x.2)) (λ_=>Iff.rfl) (λ_ _=>Iff.symm) (λ_ _ _=>Iff.trans) (λc T=>by
  rcases Ag.mp T with h|h
  .rcases Ag.mp h with h|h
   .exact one J.ZV U two c h
   .exact one I.Zu r (λz=>Iff.rfl) c h
  .obtain⟨e,i,j,h1,C⟩:=rq h;refine{λw=>(nk h1 w).elim,λw=>(np _ ?_ w).elim};rcases C with C|C<;>rw[C]
   .exact(ay h1).1
   .exact(ay h1).2) λp _ e i j h _=>{λw=>(nk h w).elim,λw=>(np _ (ay h).1 w).elim}
 have t1:bD wd x.1=true:=by obtain⟨⟨k,h⟩,_⟩:=I.there x r;exact aA h
 have le:=KN (zc wd) [x.1,x.2] ((oS _ wd wd.length).imp λh=>AY h) λa ha=>by have:=(all x.1 a t1<|dU.mpr ha).mp<|.inl rfl;rcases this with rfl|rfl<;>simp
 have r1:=Rt.1;rw[nZ] at r1;have:=Cj U;have:=Cj r;have le:(zc wd).length<=2:=le;omega
theorem xL.step(I:bG wd ct)(th:qO wd)(J:Zr wd lk)(Rt:xL wd lk ct)(ex:ct[k]?=some x)(st:tU wd lk x ir)(pm:fy.Perm<|ct.eraseIdx k++dR wd x)(pw:fy.Pairwise gm):xL (GE wd x) ir fy:=by
 have C:=Ar ex;have I':=I.step ex pm pw;have J':=J.step I C st;have l:=ld I th C;have H:=wG th J I.there Rt.ex;have nx:=mO I.Zu C;have hk:=qz ex;have el:(ct.eraseIdx k).length+1=ct.length:=by rw[List.length_eraseIdx,Ay hk];omega
 have o:∀c∈ct,c∈ct.eraseIdx k\/c=x:=λc r=>by
  by_cases e:c=x
  .exact .inr e
  .obtain⟨j,hj⟩:=Dx.mp r;exact .inl (CG.mpr {j,λz=>e (by rw[z,ex] at hj;exact(AR hj).symm),hj})
 rcases I.two C with⟨t,n,U,T,ei⟩|⟨e,i,j,i',j',U,T,ei⟩
 .rw[ei,Aw] at pm;rcases st with⟨⟨_,_,_,z⟩,_⟩|⟨t',n',x0,y0,u,v,_,mx,my,ne,ou,ov,a0,_⟩
  .rw[U] at z;cases z
  have nu:u≠x.1:=λz=>KG J.ZV mx ou z.symm;have a1:u≠x.2:=λz=>KY I.cu J Rt C {x0,mx,z▸ou};have tu:bD (GE wd x) u=true:=by
   have:u∈GM lk:=by
    obtain⟨m1,m2⟩:=jf mx;rcases ou with h|h<;>rw[h] at m1 m2
    .exact m2
    .exact m1
   obtain⟨t,n,h⟩:=(J.Z1 u).mp this;exact aA (by rw[ky nu a1];exact h)
  exact Ws U T nx J mx my ne ou ov a0 (λc r=>(o c r).imp pm.mem_iff.mpr id) (by rw[pm.length_eq];exact el) H (wG l J' I'.there {(u),tu}) tu Rt
 .rw[ei] at pm;rcases st with⟨_,rfl⟩|⟨t',n',x0,y0,u,v,z,_⟩
  .have tp:∀{p:Nat},p∈xj wd->(∃k,wd[p]?=some (some k))->bD (GE wd x) p=true:=λ{p} hp ψ=>by obtain⟨k,h⟩:=ψ;obtain⟨m1,m2⟩:=jf C;exact aA (by rw[ky (λz=>I.Y7 _ m1<|z▸hp) λz=>I.Y7 _ m2<|z▸hp];exact h)
   cases e with
   |false=>
    have tx:=tp (ay U).1 (th _ _ _ _ U).1;exact zT (P:=x.1) (Q:=x.2) U T H (wG l J' I'.there {_,tx}) Rt tx (λc r=>(o c r).imp id .inl) el pm (.inl rfl)<|.inl rfl
   |true=>
    have tx:=tp (ay T).1 (th _ _ _ _ T).1;have g:GE wd x=GE wd (x.2,x.1):=by unfold GE;exact List.set_comm _ _ nx
    have H':=wG l J' I'.there {_,tx};rw[g] at H' tx ⊢;exact zT (P:=x.2) (Q:=x.1) T U H H' Rt tx (λc r=>(o c r).imp id .inr) el pm (.inr rfl)<|.inr rfl
  .rw[U] at z;cases z
end
inductive mJ(es:XN)(p:Nat):Nat->Prop
 |self:mJ es p p
 |fwd {a b:Nat}:mJ es p a->(a,b)∈es->mJ es p b
 |bwd {a b:Nat}:mJ es p a->(b,a)∈es->mJ es p b
def mJ.trans{es:XN}{r:Nat}(h:mJ es p q)(k:mJ es q r):mJ es p r:=by induction k with|self=>exact h|fwd _ m I=>exact .fwd I m|bwd _ m I=>exact .bwd I m
def mJ.symm{es:XN}(h:mJ es p q):mJ es q p:=by induction h with|self=>exact .self|fwd _ m I=>exact(mJ.bwd .self m).trans I|bwd _ m I=>exact(mJ.fwd .self m).trans I
def Wt(es:XN):xM (mJ es):={λ_=>.self,mJ.symm,mJ.trans}
noncomputable def qC(es:XN)(p q:Nat):Bool:=@decide (mJ es p q)<|Classical.propDecidable _
def oP{es:XN} :qC es p q=true↔mJ es p q:=by unfold qC;exact @BO _<|Classical.propDecidable _
def tT:cH:=(je (rH 4<|vv (g_ 1 (gi<|bv<|qh 0) (qo 8) zF<|gG x8)<|qo 3)
 (je (mI (bF<|qh 1) (fM 2<|x5 (qo 4)<|x5 (qo 5) cM) (je (bC<|mC vi (ku iH (qh 3)<|qh 4)<|bv<|qh 5)
 (bC<|mC vi (ku iH (qh 3)<|qh 5)<|bv<|qh 4)))
 (je (rH 4<|vv (g_ 1 (gi<|bv<|qh 0) (qo 8) zF<|ku (uQ false) (qh 8)<|qh 2)<|qo 6)
 (je (vv (gG<|bv<|qh 2)<|qo 7)
 (je (jR (z_ (qh 7)<|gG x8) (mI (bF<|ku iH (qh 3)<|mC Ep (qh 7) x8) (qo 5) (cY (uG<|yB<|ku iH (qh 6)<|qh 5) (je (o8 (qh 6) (qh 5)<|yC<|.bl true)
 (bC<|mC vi (qh 7)<|bv<|qh 5)) a6)))
 (rH 4<|cJ<|g_ 1 (gi<|bv<|qh 0) (qo 8) (yB<|ku iH (qh 6)<|qh 8)<|qh 8))))))
def Wu:cH:=(je (jR (z_ (qh 7)<|gG x8) (mI (bF<|ku iH (qh 3)<|mC Ep (qh 7) x8) (qo 5) (cY (uG<|yB<|ku iH (qh 6)<|qh 5) (je (o8 (qh 6) (qh 5)<|yC<|.bl true)
 (bC<|mC vi (qh 7)<|bv<|qh 5)) a6)))
 (rH 4<|cJ<|g_ 1 (gi<|bv<|qh 0) (qo 8) (yB<|ku iH (qh 6)<|qh 8)<|qh 8))
structure Y8(L:qk)(na:Addr)(ad:List Addr)(f:Nat->XS)(L':qk):Prop where
 sub:qg L L'
 hn:L' na=some (.lst<|ad.map Y.ref)
 nn:L na=none
 nw:∀r∈ad,L r=none
 ne:na∉ad
 nd:ad.Nodup
 at_:∀(i:Nat) (r:Addr),ad[i]?=some r->L' r=some (.lst<|nY<|f i)
theorem Y8.upd{t:Addr}{f:Nat->XS}{o:LO}(N:Y8 L na ad f L')(h1:t≠na)(h2:t∉ad)(I:L t=none):Y8 L na ad f (qf L' t o):=
 ⟨N.sub.upd I,(qc<|AJ h1).trans N.hn,N.nn,N.nw,N.ne,N.nd,λi r e=>(qc λ(z:r=t)=>h2<|z▸Ar e).trans<|N.at_ i r e⟩
def Y8.app{r:Addr}{f:Nat->XS}{u v:Nat}(N:Y8 L na ad f L')(e:ad[u]?=some r):Y8 L na ad (λy=>if y=u then f y++[v] else f y) (qf L' r<|.lst<|nY (f u)++[Y.int (v:Int)]):=by
 have J:=Ar e;refine{N.sub.upd<|N.nw r J,(qc λ(z:na=r)=>N.ne<|z▸J).trans N.hn,N.nn,N.nw,N.ne,N.nd,λi s I=>?_};by_cases c:i=u
 .subst c;rw[e] at I;cases I;rw[q9,Ay rfl,fF];rfl
 .rw[qc λz=>?_,Au c]
  .exact N.at_ i s I
  .subst z;have U:=AN.mp e;have g:=AN.mp I;obtain⟨j,g1⟩:=U;obtain⟨l,g2⟩:=g;exact c<|(List.getElem_inj N.nd).mp<|g2.trans g1.symm
def iS(es:XN)(x:Nat):XS:=es.flatMap λe=>(if e.1=x then [e.2] else [])++if e.2=x then [e.1] else []
def Wv(es:XN)(e:X2)(x:Nat):iS (es++[e]) x=iS es x++((if e.1=x then [e.2] else [])++if e.2=x then [e.1] else []):=by unfold iS;rw[AV,Bc,CH,Aw]
def mf{es:XN}{x y:Nat}:y∈iS es x↔(x,y)∈es\/(y,x)∈es:=by
 unfold iS;rw[A5];constructor
 .rintro⟨⟨a,b⟩,h,m⟩;rcases Ag.mp m with m|m
  .by_cases c:a=x
   .rw[Ay c] at m;rw[Aj.mp m,<-c];exact .inl h
   .rw[Au c] at m;cases m
  .by_cases c:b=x
   .rw[Ay c] at m;rw[Aj.mp m,<-c];exact .inr h
   .rw[Au c] at m;cases m
 .rintro(h|h)
  .exact{_,h,by simp}
  .exact{_,h,by simp}
theorem zS(x:Nat):∀es:XO,(iS es x).length<=2*es.length
 |[]=>Ap _
 |e::r=>by
  have I:=zS x r;have h:(iS (e::r) x).length=((if e.1=x then [e.2] else [])++if e.2=x then [e.1] else []).length+(iS r x).length:=by unfold iS;rw[Bc,Ab]
  rw[h,Ab,Av];have a:(if e.1=x then [e.2] else []).length<=1:=by split<;>simp
  have b:(if e.2=x then [e.1] else []).length<=1:=by split<;>simp
  lia
structure ZO(es:XN)(n p:Nat)(D T:XS):Prop where
 nd:D.Nodup
 lt:∀x∈D,x<n
 sub:∀x∈T,x∈D
 st:p∈D
 rc:∀x∈D,mJ es p x
def sR(n:Nat)(D:XS):_T:=(List.range n).map λx=>Y.bl<|decide<|x∈D
def KZ{x:Nat}(h:x<n):dZ (sR n D) (x:Int)=some (.bl<|decide<|x∈D):=jo (by unfold sR;rw[Aq,BY h];rfl)
def Ww{x:Nat} :(sR n D).set x (.bl true)=sR n (D++[x]):=by
 refine Dq λi=>?_;unfold sR;by_cases c:x=i
 .subst c;by_cases h:x<n
  .rw[BM (by simp[h]),Aq,BY h];simp
  .rw[B0 (by simp;lia),B0 (by simp;lia)]
 .rw[AZ c,Aq,Aq];by_cases h:i<n
  .rw[BY h];show some _=some _;congr 2;simp[AJ c]
  .rw[B0 (by simp;lia)];rfl
def ZO.end_{es:XN}(I:ZO es n p D [])(cl:∀x∈D,∀y∈iS es x,y∈D)(x:Nat):x∈D↔mJ es p x:=by
 refine{I.rc x,λh=>?_}
 induction h with|self=>exact I.st|fwd _ m J=>exact cl _ J _ (mf.mpr<|.inl m)|bwd _ m J=>exact cl _ J _<|mf.mpr<|.inr m
def ZO.more{es:XN}{x y:Nat}{T:XS}(I:ZO es n p D T)(U:x∈D)(g:y∈iS es x)(j:y<n)(l:y∉D):ZO es n p (D++[y]) (T++[y]):=by
 have ap:∀z,z∈D->z∈D++[y]:=λz h=>Am _ h;refine{AG.mpr {I.nd,by simp,λa o b r e=>l (by rw[<-Aj.mp r,<-e];exact o)},λz J=>?_,λz J=>?_,ap _ I.st,λz J=>?_}
 .rcases Ag.mp J with h|h
  .exact I.lt z h
  .rw[Aj.mp h];exact j
 .rcases Ag.mp J with h|h
  .exact ap _<|I.sub z h
  .exact Ae _ h
 .rcases Ag.mp J with h|h
  .exact I.rc z h
  .rw[Aj.mp h];rcases mf.mp g with m|m
   .exact .fwd (I.rc x U) m
   .exact .bwd (I.rc x U) m
def Wx{T:XS}{x:Nat}:Da.eqs (i4<|T++[x]) []=false:=by cases T<;>rfl
def Y8.off{t:Addr}{f:Nat->XS}(N:Y8 L na ad f L')(h:L' t=none):t≠na/\t∉ad/\L t=none:=by
 refine{λz=>?_,λz=>?_,N.sub.none h}
 .rw[z,N.hn] at h;cases h
 .obtain⟨i,I,e⟩:=BS z;rw[N.at_ i t (by rw[An I,e])] at h;cases h
def y9{es:XN}{sa ta e:Addr}{T:XS}{c4 J:Option Y}(he:∀x∈es,x.1<n/\x.2<n)(hz:n<=1000)(ab:ad.length=n)(N:Y8 L0 na ad (iS es) L)(fs:L0 sa=none)(ft:L0 ta=none)
 (s1:sa≠na) (s2:sa∉ad) (t1:ta≠na) (t2:ta∉ad) (st:sa≠ta) (ks:L sa=some (.lst<|sR n D)) (kt:L ta=some (.lst<|nY T)) (I:ZO es n p D T) (cl:∀x∈D,x∉T->∀y∈iS es x,y∈D) (tl:T.length<=1)
 (q:∀E L',qg L0 L'->L0 E=none->L' E=some (.lst<|nY<|(List.range n).filter<|qC es p)->En.rt (.ref E) L'):
 Wu En [some<|.int (n:Int),some<|.ref e,some<|.int (p:Int),some<|.ref na,c4,J,some<|.ref sa,some<|.ref ta] L:=by
 have big:=a_;have dl:∀{D T},ZO es n p D T->D.length<=n:=λI=>wf n _ I.nd I.lt;refine{λm t L'=>∃D T J,t=[some<|.int (n:Int),some<|.ref e,some<|.int (p:Int),some<|.ref na,c4,J,some<|.ref sa,some<|.ref ta]/\Y8 L0 na ad (iS es) L'/\L' sa=some (.lst<|sR n D)/\L' ta=some (.lst<|nY T)/\ZO es n p D T/\(∀x∈D,x∉T->∀y∈iS es x,y∈D)/\m=2*(n-D.length)+T.length/\m<=2*n+1,{_,D,T,J,rfl,N,ks,kt,I,cl,rfl,by lia},?_};rintro m t L1 ⟨D,T,J,rfl,N,ks,kt,I,cl,rfl,ml⟩;intro e1 j;refine iw (n:=0) (m:=0) (by decide) (By j _ _ kt) q9 (uD T) (.nil:Paired (xh _ 0) _ []) ?_;obtain⟨o1,o2,o3⟩:=N.off j;have N1:=N.upd (o:=.lst []) o1 o2 o3;have C:qf L1 e1 (.lst []) sa=_:=(qc<|w6 ks j).trans ks;have a0:qf L1 e1 (.lst []) ta=_:=(qc<|w6 kt j).trans kt;generalize qf L1 e1 (.lst [])=L2 at N1 C a0 ⊢;rcases List.eq_nil_or_concat T with rfl|⟨U,x,rfl⟩
 .have en:=I.end_ λx hx=>cl x hx Bo;refine{{A4 _,by lia},?_};rw[BB];refine oT (λi zs=>zs=nY ((List.range i).filter<|qC es p)) (big _ (by lia)) rfl ?_ ?_
  .rintro i zs hi rfl;refine qb C (qj (by rw[B3];exact KZ hi) ?_);have er:(List.range<|i+1).filter (qC es p)=(List.range i).filter (qC es p)++if qC es p i=true then [i] else []:=by
    rw[CP,BC];congr 1;by_cases c:qC es p i=true
    .rw[Ay c,Dk c,Ce]
    .rw[Au c,Dj c,Ce]
   refine zp (λh=>{_,EL _,rfl,?_}) λh=>{_,EL _,rfl,?_}
   .rw[er,Ay<|oP.mpr<|(en i).mp h,fF,B3];rfl
   .rw[er,Au λz=>h<|(en i).mpr<|oP.mp z,Aw]
  .rintro zs rfl E hE;exact q E _ (N1.sub.trans<|By hE) (N1.sub.none hE) q9
 .rw[List.concat_eq_append] at *;have a1:=I.sub x<|Ae _<|Aj.mpr rfl;have ac:=I.lt x a1;have a5:(U++[x]).length=U.length+1:=by rw[Ab,Ba]
  refine dW (by rw[Wx];rfl) {λa2 L'=>∃m',m'<2*(n-D.length)+(U++[x]).length/\∃D T J,a2=[some<|.int (n:Int),some<|.ref e,some<|.int (p:Int),some<|.ref na,c4,J,some<|.ref sa,some<|.ref ta]/\Y8 L0 na ad (iS es) L'/\L' sa=some (.lst<|sR n D)/\L' ta=some (.lst<|nY T)/\ZO es n p D T/\(∀x∈D,x∉T->∀y∈iS es x,y∈D)/\m'=2*(n-D.length)+T.length/\m'<=2*n+1,λa2 L' ψ=>(by obtain⟨m',h,z⟩:=ψ;exact {(m'),h,z}),?_};rw[a5] at ml ⊢;rw[fF] at a0;refine RL a0 ?_;have N2:=N1.upd (o:=.lst<|nY U) t1 t2 ft;have a3:qf L2 ta (.lst<|nY U) sa=_:=(qc st).trans C;have a4:qf L2 ta (.lst<|nY U) ta=some (.lst<|nY U):=q9;generalize qf L2 ta (.lst<|nY U)=L3 at N2 a3 a4 ⊢;obtain⟨r,er⟩:∃r,ad[x]?=some r:={_,An (by lia)};refine qb N2.hn<|qj (aX er) ?_;refine xl (N2.at_ x r er) λkeep kp=>w9 {λi t L'=>∃D1 g J,t=[some<|.int (n:Int),some<|.ref e,some<|.int (p:Int),some<|.ref na,c4,J,some<|.ref sa,some<|.ref ta]/\Y8 L0 na ad (iS es) L'/\L' sa=some (.lst<|sR n D1)/\L' ta=some (.lst<|nY g)/\ZO es n p D1 g/\x∈D1/\(∀u∈D1,u∉g->u≠x->∀y∈iS es u,y∈D1)/\(∀y∈(iS es x).take i,y∈D1)/\2*(n-D1.length)+g.length<=2*(n-D.length)+U.length,{D,U,J,rfl,N2,a3,a4,{I.nd,I.lt,λz hz=>I.sub z<|Am _ hz,I.st,I.rc},a1,λu hu hT hn=>cl u hu λz=>(Ag.mp z).elim hT λz=>hn<|Aj.mp z,(λy hy=>by cases hy),Ap _},?_,?_,?_}
  .rintro i t L' ⟨D1,g,J,rfl,N',_⟩;exact kp L' (by rw[N'.at_ x r er,N2.at_ x r er])
  .rintro i y t L' hy ⟨D1,g,J,rfl,N',k1,k2,I',l,c1,tk,hm⟩;obtain⟨y,ey,rfl⟩:=eG hy;have hy:=Ar ey;have et:(iS es x).take (i+1)=(iS es x).take i++[y]:=by rw[Bm,ey];rfl
   have ly:=(mf.mp hy).elim (λh=>(he _ h).2) λh=>(he _ h).1;refine qb k1<|qj (KZ ly) ?_;by_cases c:y∈D1
   .refine aT (by rw[AA c];rfl) {_,EL _,D1,g,_,rfl,N',k1,k2,I',l,c1,λz hz=>?_,hm};rw[et] at hz;rcases Ag.mp hz with h|h
    .exact tk z h
    .rw[Aj.mp h];exact c
   .refine dW (by rw[AB c];rfl) (qp k1 (qj (by unfold sR;rw[Ah,Bb];exact iX ly) ?_));rw[Ww];have I2:=I'.more l hy ly c;have d2:=dl I2;rw[Ab,Ba] at d2;have N3:=N'.upd (o:=.lst<|sR n<|D1++[y]) s1 s2 fs;have k3:qf L' sa (.lst<|sR n<|D1++[y]) ta=_:=(qc<|AJ st).trans k2;have k4:qf L' sa (.lst<|sR n<|D1++[y]) sa=_:=q9;generalize qf L' sa (.lst<|sR n<|D1++[y])=L4 at N3 k3 k4 ⊢;have ap:∀z,z∈D1->z∈D1++[y]:=λz h=>Am _ h;refine qb k3 (qp k3 {big _ (by rw[xn];lia),{_,EL _,D1++[y],g++[y],_,rfl,N3.upd t1 t2 ft,(qc st).trans k4,by rw[q9,fF];rfl,I2,ap _ l,λu hu hT hn z hz=>?_,λz hz=>?_,by rw[Ab,Ab,Ba];lia}})
    .rcases Ag.mp hu with h|h
     .exact ap _<|c1 u h (λw=>hT<|Am _ w) hn z hz
     .exact(hT<|Ae _ h).elim
    .rw[et] at hz;rcases Ag.mp hz with h|h
     .exact ap _<|tk z h
     .exact Ae _ h
  .rintro t L' ⟨D1,g,J,rfl,N',k1,k2,I',l,c1,tk,hm⟩;rw[xn,Bp] at tk;refine{_,EL _,_,by lia,D1,g,_,rfl,N',k1,k2,I',λu hu hT z hz=>?_,rfl,by lia};by_cases c:u=x
   .subst c;exact tk z hz
   .exact c1 u hu hT c z hz
def Wz{es:XN}{u v:Nat}:iS (es++[(u,v)])=λy=>if y=v then(if y=u then iS es y++[v] else iS es y)++[u] else if y=u then iS es y++[v] else iS es y:=funext λy=>by
 rw[Wv];by_cases I:u=y<;>by_cases J:v=y
 .rw[Ay I,Ay J,Ay J.symm,Ay I.symm,AC]
 .rw[Ay I,Au J,Au<|AJ J,Ay I.symm,Aw]
 .rw[Au I,Ay J,Ay J.symm,Au<|AJ I,CO]
 .rw[Au I,Au J,Au<|AJ J,Au<|AJ I,Aw,Aw]
inductive i7(ys:_T)(L:qk)(Q:YK):Prop
 |mk:∀e,∀es:XO,∀n p:Nat,(ys=[.int (n:Int),.ref e,.int (p:Int)])->(L e=some (.lst<|qx es))->((∀x∈es,x.1<n/\x.2<n))->(n<=1000)->(es.length<=2000)->(p<n)->(∀E L',qg L L'->L E=none->L' E=some (.lst<|nY<|(List.range n).filter<|qC es p)->Q (.ref E) L')->i7 ys L Q
theorem WA:_f i7 tT 8:=by
 rintro ys L Q ⟨e,l,n,p,rfl,hE,he,hz,hl,a1,q⟩;have big:=a_;refine{{A4 _,by lia},?_};rw[BB];refine xZ {by rw[fQ];exact big _ (by lia),λi t I=>∃ad:List Addr,t=ad.map Y.ref/\ad.length=i/\qg L I/\ad.Nodup/\∀r∈ad,L r=none/\I r=some (.lst []),{[],rfl,rfl,EL _,.nil,λr J=>by cases J},λ_ _ _ _=>True.intro,?_,?_}
 .rintro i y t I hy ⟨ad,rfl,rfl,s,nd,J⟩;intro r hn;have T:=By (o:=.lst []) hn;refine{_,EL _,ad++[r],by rw[AI];rfl,by rw[Ab];rfl,s.trans T,AG.mpr {nd,by simp,λa ha b hb z=>?_},λx U=>?_}
  .rw[z,Aj.mp hb] at ha;rw[(J r ha).2] at hn;cases hn
  .rcases Ag.mp U with h|h
   .exact{(J x h).1,T _ _ (J x h).2}
   .rw[Aj.mp h];exact{s.none hn,q9}
 rintro t L1 ⟨ad,rfl,a0,s,nd,J⟩ na g;rw[fQ] at a0;have T:=By (o:=.lst<|ad.map Y.ref) g;have N0:Y8 L na ad (iS []) (qf L1 na<|.lst<|ad.map Y.ref):={s.trans T,q9,s.none g,λr h=>(J r h).1,(λh=>by rw[(J na h).2] at g;cases g),nd,λi r e=>T _ _ (J r<|Ar e).2};generalize qf L1 na (.lst<|ad.map Y.ref)=L2 at N0 ⊢;refine xl (N0.sub _ _ hE) λkeep kp=>w9 {λi τ I=>∃c4 c5,τ=[some<|.int (n:Int),some<|.ref e,some<|.int (p:Int),some<|.ref na,c4,c5,none,none]/\Y8 L na ad (iS<|l.take i) I,{_,_,rfl,N0},?_,?_,?_}
 .rintro i τ I ⟨c4,c5,rfl,M⟩;exact kp _ (by rw[M.sub _ _ hE,N0.sub _ _ hE])
 .rintro i y τ I hy ⟨c4,c5,rfl,M⟩;rw[Aq] at hy;obtain⟨⟨u,v⟩,ex,rfl⟩:=AE.mp hy;obtain⟨hu,hv⟩:=he _<|Ar ex;have hu:=hu;have hv:=hv;have et:l.take (i+1)=l.take i++[(u,v)]:=by rw[Bm,ex];rfl
  have li:(l.take i).length<=2000:=by rw[A7];lia
  have nl:=λx=>zS x<|l.take i;obtain⟨ru,eu⟩:∃r,ad[u]?=some r:={_,An (by lia)};obtain⟨rv,ev⟩:∃r,ad[v]?=some r:={_,An (by lia)};have j:=M.app (v:=v) eu;have M2:=j.app (v:=u) ev;refine qb M.hn (qj (aX eu) (qb (M.at_ u ru eu) (qp (M.at_ u ru eu) {big _ (by rw[xn];have:=nl u;lia),?_})));refine qb j.hn<|qj (aX ev)<|qb (j.at_ v rv ev)<|qp (j.at_ v rv ev) {big _ ?_,?_}
  .rw[xn];have:=nl v;split
   .rw[Ab,Ba];lia
   .lia
  .exact{_,EL _,_,_,rfl,by rw[et,Wz];exact M2}
 rintro τ L3 ⟨c4,c5,rfl,M⟩;rw[show(qx l).length=l.length from Ah ..,Bp] at M;refine{{A4 _,by lia},?_};rw[BB];refine oT (λi t=>t=sR i [p]) (big _ (by lia)) rfl ?_ ?_
 .rintro i t hi rfl;refine{_,EL _,rfl,?_};unfold sR;rw[CP,AI];congr 1;show [Y.bl<|decide<|(0+(i:Int))=(p:Int)]=[Y.bl<|decide<|i∈[p]];rw[B3,tM];simp
 rintro t rfl sa a2;obtain⟨s1,s2,fs⟩:=M.off a2;have j:=M.upd (o:=.lst<|sR n [p]) s1 s2 fs;have ks:qf L3 sa (.lst<|sR n [p]) sa=_:=q9;generalize qf L3 sa (.lst<|sR n [p])=L4 at j ks ⊢;intro ta C;obtain⟨t1,t2,ft⟩:=j.off C;refine y9 he hz a0 (j.upd (o:=.lst<|nY [p]) t1 t2 ft) fs ft s1 s2 t1 t2 (w6 ks C) ((qc<|w6 ks C).trans ks) q9 {by simp,λx U=>by rw[Aj.mp U];exact a1,λx U=>U,Aj.mpr rfl,λx U=>by rw[Aj.mp U];exact .self} (λx U h=>(h U).elim) (Ap _) λE I s h1 h2=>xg<|q E I s h1 h2
def zX(J:ju)(I:ju):RD "_law_drawn" iz 1 ["_law_web_here","_law_number_here","_law_knots","_law_links","_law_cuts","_law_edges","_law_r","_law_knot","_law_places"] (λV=>G' V J/\JJ V I):={_,λV B c _ _ _ _ _ _ _ g hN U=>(qa (jL (qv 0)<|ag (n:=3) rfl<|ze (dP (i:=2) hN rfl<|Or.inr rfl)<|ze (G_ 3 hN)<|ze (G_ 4 hN) km)<|qa (S_ 5 hN<|ql ja (qv 3)<|qv 4)<|qa (w5 pK rfl (dJ rfl B.bg<|qv 2) (ag (n:=2) rfl<|ze (G_ 6 hN)<|ze (G_ 7 hN) km)<|ke (zr (bK<|bn (da<|qv 7)<|aS<|E_ U (J_ 7) jk) (qa (zf<|za (qv 5)<|jy<|zj<|ki (qv 6)<|J_ 7)<|qd<|zf<|za (qv 5)<|jy<|zj<|ki (qv 6)<|J_ 7) qw)<|qd<|zr (bK<|bn (da<|qv 7)<|aS<|E_ U (J_ 7) jk) (qd<|zf<|za (qv 5)<|jy<|zj<|ki (qv 6)<|I_ (qv 7)<|ql ja qe<|ql js (C_ c.1 g<|bq (qv 1) (qv 6) qe) qe) qw)<|qa (ak ["_law_p"] (i:=8) hN rfl (Or.inl rfl) (ES (by rfl)) rfl (aJ rfl B.be<|jy<|L_ B.ba<|qv 2) (sJ 9) (λ_ _ _ _=>bU<|da<|I_ (qv 2)<|qv 9) λ_ _ _ _=>(qv 9))<|qa (zr (N_ U (L_ B.ba<|qv 5)<|ql cD (L_ B.ba<|qv 8) qe) (qd<|qr ar) qw)<|qd<|qr<|aC (ga _ _ _ U) (L_ B.ba<|C_ c.2 g<|bq (L_ B.ba<|qv 2) (qv 5)<|J_ 8) (L_ B.ba<|qv 8)<|jt _)}
section
variable {f g:X0}
def Bs(f:X0)(r:Nat):Option (Yh)->XO
 |some (some<|.nd false x y)=>[(r,x),(r,y)]
 |some (some<|.nd true x y)=>[(r,if f r=0 then x else y)]
 |_=>[]
def nS(wd:List<|Yh)(f:X0)(i:Nat):XO:=(List.range i).flatMap λr=>Bs f r wd[r]?
def dC(wd:List<|Yh)(f:X0)(i:Nat):nS wd f (i+1)=nS wd f i++Bs f i wd[i]?:=by unfold nS;rw[CP,AV];congr 1;exact Aw _
theorem qP:∀{i:Nat},(∀r,r<i->f r=g r)->nS wd f i=nS wd g i
 |0,_=>rfl
 |i+1,h=>by rw[dC,dC,qP λr I=>h r<|B8 I];congr 1;unfold Bs;rw[h i<|Bz _]
theorem sd(f:X0):∀i,i<=wd.length->(nS wd f i).length=2*(ij (wo false) wd i).length+(ij (wo true) wd i).length
 |0,_=>rfl
 |i+1,h=>by
  have e:wd[i]?=some wd[i]:=An (by lia);rw[dC,Ab,sd f i (by lia),br e,br e,e,Ab,Ab];generalize wd[i]=k;cases k with
  |none=>rfl
  |some k=>
   cases k with|lf=>rfl|nd e x y=>cases e<;>simp[Bs,wo]<;>lia
def WB{x:X2}:x∈nS wd f wd.length↔(∃i j,wd[x.1]?=some (some<|.nd false i j)/\(x.2=i\/x.2=j))\/∃i j,wd[x.1]?=some (some<|.nd true i j)/\x.2=if f x.1=0 then i else j:=by
 unfold nS;rw[A5];constructor
 .rintro⟨r,I,h⟩;cases e:wd[r]? with
  |none=>rw[e] at h;cases h
  |some k=>
   rw[e] at h;cases k with
   |none=>cases h
   |some k=>
    cases k with
    |lf=>cases h
    |nd b i j=>
     cases b with
     |false=>
      rcases Ao.mp h with rfl|h
      .exact .inl {i,j,e,.inl rfl}
      .cases Aj.mp h;exact .inl {i,j,e,.inr rfl}
     |true=>cases Aj.mp h;exact .inr {(i),j,e,rfl}
 .rintro(⟨i,j,e,h⟩|⟨i,j,e,h⟩)
  .refine{x.1,AM.mpr<|qz e,?_};rw[e];rcases h with h|h
   .exact Ao.mpr<|.inl<|EC rfl h
   .exact Ac _<|Aj.mpr<|EC rfl h
  .refine{x.1,AM.mpr<|qz e,?_};rw[e];exact Aj.mpr<|EC rfl h
def uM(x:X2):x∈lk++ct++nS wd f wd.length↔x∈jj wd lk ct++xK wd (zd true wd) ((zd true wd).map f):=by rw[KR,Ag,Ag,WB,or_assoc]
def WC(H:CI wd (jj wd lk ct)<|zd true wd)(J:xL wd lk ct)(U:∀r,f r=0\/f r=1)(hp:p∈zc wd):(List.range wd.length).filter (qC (lk++ct++nS wd f wd.length) p)=zc wd:=by
 have I:=(H.app (bs:=(zd true wd).map f)).Zo;have c:=((r9 H).mp J ((zd true wd).map f) (Ah ..) λb g=>by obtain⟨r,_,rfl⟩:=BE.mp g;exact U r).2 (mJ<|lk++ct++nS wd f wd.length) (Wt _).r (λ_ _=>mJ.symm) (λ_ _ _=>mJ.trans) (λx j=>.fwd .self<|(uM x).mpr j) (λp hp=>(Bo hp).elim) p;have key:∀q,mJ (lk++ct++nS wd f wd.length) p q↔q∈zc wd:=λq=>by
  refine{λh=>?_,λh=>c q (dU.mpr hp)<|dU.mpr h}
  induction h with|self=>exact hp|fwd _ m _=>exact dU.mp (I _<|(uM _).mp m).2|bwd _ m _=>exact dU.mp (I _<|(uM _).mp m).1
 have e:zc wd=(List.range wd.length).filter λq=>decide (q∈zc wd):=by
  have:∀q∈List.range wd.length,(match wd[q]? with|some k=>df k|none=>false)=decide (q∈zc wd):=λq l=>by rw[C8,BO];exact{λh=>AF.mpr {(l),h},λh=>(AF.mp h).2}
  exact Cv this
 rw[e];refine Cv λq _=>?_;rw[C8,oP,key,BO]
end
inductive fS(ys:_T)(L:qk)(Q:YK):Prop
 |mk:∀a l c,∀wd:List (Yh),∀lk ct:XO,∀num:Int,(ys=[aY a l c,.int num])->(L a=some (.lst<|xx wd))->(L l=some (.lst<|qx lk))->(L c=some (.lst<|qx ct))->(wd.length<=300)->(lk.length<=300)->(ct.length<=300)->(CI wd (jj wd lk ct)<|zd true wd)->(xL wd lk ct)->(∀L',qg L L'->Q (.bl true) L')->fS ys L Q
theorem WD:_f fS (zX eM i7).1 9:=by
 rintro ys L Q ⟨a,l,c,wd,lk,I,num,rfl,ha,hl,hc,z0,z1,z2,H,Rt,q⟩;have big:=a_;have pl:∀l:XO,(qx l).length=l.length:=λl=>Ah ..;refine{_,_,hl,hc,by rw[pl,pl];exact BD<|big _ (by lia),λe he=>?_};have e0:qx lk++qx I=qx (lk++I):=(AI ..).symm;rw[e0];have a0:=w6 ha he;have ka:∀o,qf L e o a=some (.lst<|xx wd):=λo=>(qc a0).trans ha;refine xl (ka _) λkeep kp=>w9 {λi J U=>∃c6 c7,∃f:X0,J=[some<|aY a l c,some<|.int num,some<|.ref a,some<|.ref l,some<|.ref c,some<|.ref e,c6,c7,none]/\U=qf L e (.lst<|qx<|lk++I++nS wd f i)/\∀r,f r=0\/f r=1,{_,_,λ_=>0,rfl,by rw[show nS wd (λ_=>0) 0=[] from rfl,Aw],λ_=>.inl rfl},?_,?_,?_}
 .rintro i J U ⟨_,_,f,rfl,rfl,_⟩;exact kp _<|(ka _).trans (ka _).symm
 .rintro i y J U ey ⟨c6,c7,f,rfl,rfl,hf⟩;obtain⟨y,ez,rfl⟩:=cg ey;rw[xx,Aq] at ez;obtain⟨k,ek,rfl⟩:=AE.mp ez;have hi:=qz ek;have dl:=sd (wd:=wd) f i<|BD hi;have w1:=dX (wo false) wd i;have w2:=dX (wo true) wd i;have el:(qx<|lk++I++nS wd f i).length<=5000:=by rw[pl,Ab,Ab];lia
  have Ys:Bs f i (some k)=[]->∃a3 a4,∃f':X0,[some<|aY a l c,some<|.int num,some<|Y.ref a,some<|.ref l,some<|.ref c,some<|.ref e,some<|.int (i:Int),some<|eI k,none]=[some<|aY a l c,some<|.int num,some<|.ref a,some<|.ref l,some<|.ref c,some<|.ref e,a3,a4,none]/\qf L e (.lst<|qx<|lk++I++nS wd f i)=qf L e (.lst<|qx<|lk++I++nS wd f' (i+1))/\∀r,f' r=0\/f' r=1:=λh=>{_,_,f,rfl,by rw[dC,ek,h,Aw],hf};refine{λJ U=>∃j,J=[some<|aY a l c,some<|.int num,some<|.ref a,some<|.ref l,some<|.ref c,some<|.ref e,some<|.int (i:Int),some<|eI k,none]/\U=qf L e (.lst<|qx<|lk++I++nS wd f i++j)/\((∀x y,k≠some (.nd true x y))->j=Bs f i (some k))/\((∃x y,k=some (.nd true x y))->j=[]),?_,?_}
  .cases k with
   |none=>exact{[],rfl,by rw[Aw],λ_=>rfl,λ_=>rfl}
   |some k=>
    cases k with
    |lf t n=>cases t<;>exact{[],rfl,by rw[Aw],λ_=>rfl,λ_=>rfl}
    |nd b x y=>
     cases b with
     |true=>exact{[],rfl,by rw[Aw],λh=>(h x y rfl).elim,λ_=>rfl}
     |false=>
      refine qb q9<|qp q9 {big _ (by lia),?_};rw[zh];refine qb q9 (qp q9 {big _ (by rw[Ab];show _+1<=_;lia),?_});rw[zh];refine{[(i,x),(i,y)],rfl,?_,λ_=>rfl,λ ψ=>by obtain⟨_,_,h⟩:=ψ;cases h};unfold qx;rw[AI (l₂:=[(i,x),(i,y)]),AC];rfl
  .rintro J U ⟨j,rfl,rfl,h1,h2⟩;have C:(∀x y,k≠some (.nd true x y))->hG (λJ U=>∃c6 c7,∃f:X0,J=[some<|aY a l c,some<|.int num,some<|.ref a,some<|.ref l,some<|.ref c,some<|.ref e,c6,c7,none]/\U=qf L e (.lst<|qx<|lk++I++nS wd f (i+1))/\∀r,f r=0\/f r=1) [some<|aY a l c,some<|.int num,some<|.ref a,some<|.ref l,some<|.ref c,some<|.ref e,some<|.int (i:Int),some<|eI k,none] (qf L e<|.lst<|qx<|lk++I++nS wd f i++j):=λh=>{_,EL _,_,_,f,rfl,by rw[dC,ek,h1 h,AC],hf};cases k with
   |none=>exact C λx y=>nofun
   |some k=>
    cases k with
    |lf t n=>cases t<;>exact C λx y=>nofun
    |nd b x y=>
     cases b with
     |false=>exact C λx y=>nofun
     |true=>
      cases h2 ⟨x,y,rfl⟩;refine qb q9 {num,(i:Int),16807,rfl,A4 _,by lia,by decide,by decide,λv v0 _=>{(by decide:(0:Int)<2),?_}};have b0:v % 2=0\/v % 2=1:=by lia
      have go:∀(w:Nat) (b:Nat),b=0\/b=1->w=(if b=0 then x else y)->hG (λJ U=>∃c6 c7,∃f:X0,J=[some<|aY a l c,some<|.int num,some<|.ref a,some<|.ref l,some<|.ref c,some<|.ref e,c6,c7,none]/\U=qf L e (.lst<|qx<|lk++I++nS wd f (i+1))/\∀r,f r=0\/f r=1) [some<|aY a l c,some<|.int num,some<|.ref a,some<|.ref l,some<|.ref c,some<|.ref e,some<|.int (i:Int),some<|eI<|some<|.nd true x y,none] (qf L e<|.lst<|qx (lk++I++nS wd f i)++[.tup [.int (i:Int),.int (w:Int)]]):=λw b hb hw=>by
       refine{_,EL _,_,_,λr=>if r=i then b else f r,rfl,?_,λr=>?_}
       .rw[dC,ek,qP (g:=f) λr hr=>Au<|AY hr];have:Bs (λr=>if r=i then b else f r) i (some<|some<|.nd true x y)=[(i,w)]:=by show [(i,if (if i=i then b else f i)=0 then x else y)]=_;rw[Ay rfl,hw]
        rw[this,<-AC,<-cU];rfl
       .show(if r=i then b else f r)=0\/(if r=i then b else f r)=1;by_cases h:r=i
        .rw[Ay h];exact hb
        .rw[Au h];exact hf r
      rw[Aw];rcases b0 with b0|b0
      .refine qj (v:=.int (x:Int)) (by rw[b0];rfl)<|qp q9 {big _ (by lia),?_};rw[zh];exact go x 0 (.inl rfl) rfl
      .refine qj (v:=.int (y:Int)) (by rw[b0];rfl)<|qp q9 {big _ (by lia),?_};rw[zh];exact go y 1 (.inr rfl) rfl
 .rintro J U ⟨c6,c7,f,rfl,rfl,hf⟩;rw[cR,aR];obtain⟨j,T⟩:∃j,j=lk++I++nS wd f wd.length:={_,rfl};rw[<-T];refine pW he λL1 s1 g1=>?_;have a1:=s1 _ _ ha;refine qb a1 {{A4 _,by rw[aR];lia},?_};rw[aR,BB];refine oT (λi zs=>zs=nY (ij df wd i)) (big _ (by lia)) rfl ?_ ?_
  .rintro i zs hi rfl;obtain⟨kk,ek⟩:∃k,wd[i]?=some k:={_,An hi};rw[B3];refine qb a1<|qj (aX ek) ?_;cases kk with
   |none=>exact{_,EL _,rfl,by rw[br ek];exact BU nY (Aw _).symm}
   |some kk=>cases kk<;>exact{_,EL _,rfl,by rw[br ek,fF];rfl}
  rintro zs rfl p2 h2;show je _ _ _ _ (qf L1 p2<|.lst<|nY<|zc wd);refine pW h2 λL2 s2 g2=>?_;have g1:=s2 _ _ g1;have a2:=s2 _ _ a1;have s2:=s1.trans s2;have el:j.length+1=(zc wd).length:=by have r1:=Rt.1;rw[T,Ab,Ab,sd f _<|Ap _,<-r1,nZ];show _+(2*(zd false wd).length+(zd true wd).length)+1=_;lia
  have tl:(zc wd).length<=wd.length:=dX _ _ _;refine qb g1<|qb g2 ?_;show aa (!decide (((qx j).length:Int)=((nY<|zc wd).length:Int)-1)) _ _;refine aT (by rw[pl,xn,AA (by lia)];rfl) ?_;obtain⟨p,tr,ep⟩:∃p tr,zc wd=p::tr:=by cases h:zc wd with|nil=>rw[h] at el;cases el|cons p tr=>exact{(p),tr,rfl}
  have mp:p∈zc wd:=by rw[ep];exact Ai
  have ap:dZ (nY<|zc wd) ((0:Nat):Int)=some (.int (p:Int)):=vV (by rw[ep];rfl);have a5:=(H.app (bs:=(zd true wd).map f)).Zo;refine qb a2<|qb g2<|qj ap ?_;rw[aR];refine{e,j,wd.length,p,rfl,g1,λx hx=>?_,by lia,by lia,(dk mp).1,λE1 L3 s3 _ k3=>?_}
  .obtain⟨h1,h2⟩:=a5 x<|(uM x).mp<|T▸hx;exact{v9 h1,v9 h2}
  rw[T,WC H Rt hf mp] at k3;refine qb k3<|qb (s3 _ _ g2)<|xg ?_;show Q (.bl<|decide<|((nY<|zc wd).length:Int)=((nY<|zc wd).length:Int)) L3;rw[AA rfl];exact q L3<|s2.trans s3
section
variable {P:Addr}{g o:Addr}{kvs':List<|jb×Y}
end
inductive Gw(wd:List<|Yh):Ru->XS->Prop
 |link {p q:Nat} {t:Bool} {n:Str}:p<q->wd[p]?=some (some<|.lf t n)->wd[q]?=some (some<|.lf (!t) n)->Gw wd (.link p q) [p,q]
 |ei {r i j:Nat} {A:Ru} {E:XS}:wd[r]?=some (some<|.nd true i j)->Gw wd A E->i∈E->j∈E->i≠j->Gw wd (.ei r A) (E.filter (λx=>!decide (x=i\/x=j))++[r])
 |bo {r i j:Nat} {A B:Ru} {E F:XS}:wd[r]?=some (some<|.nd false i j)->Gw wd A E->Gw wd B F->i∈E->j∈F->Gw wd (.bo r A B) (E.filter (λx=>!decide (x=i))++[r]++F.filter λx=>!decide (x=j))
 |cu {p q:Nat} {A B:Ru} {E F:XS}:Gw wd A E->Gw wd B F->p∈E->q∈F->Gw wd (.cu p q A B) (E.filter (λx=>!decide (x=p))++F.filter λx=>!decide (x=q))
def m_(wd:List<|Yh)(p:Nat):Bool:=match wd[p]? with
 |some (some<|.lf _ _)=>true
 |_=>false
def K1 :m_ wd p=true↔∃t n,wd[p]?=some (some<|.lf t n):=by
 unfold m_;constructor
 .intro h;split at h
  .rename_i t n e;exact{(t),n,e}
  .cases h
 .rintro⟨t,n,e⟩;rw[e]
def Cs(wd:List<|Yh)(b:Bool)(p:Nat):Bool:=match wd[p]? with
 |some k=>wo b k
 |none=>false
section
variable {A:Ru}{E:XS}
def Gw.sub(h:Gw wd A E):∀x∈E,x∈qu A:=by
 induction h with
 |link=>exactλx I=>I
 |ei _ _ _ _ _ g=>
  intro x I;rcases Ag.mp I with I|I
  .exact Ac _<|g x (AF.mp I).1
  .rw[Aj.mp I];exact Ai
 |bo _ _ _ _ _ J U=>
  intro x I;rcases Ag.mp I with I|I
  .rcases Ag.mp I with I|I
   .exact Ac _<|Am _<|J x (AF.mp I).1
   .rw[Aj.mp I];exact Ai
  .exact Ac _<|Ae _<|U x (AF.mp I).1
 |cu _ _ _ _ J U=>
  intro x I;rcases Ag.mp I with I|I
  .exact Am _<|J x (AF.mp I).1
  .exact Ae _<|U x (AF.mp I).1
def Gw.th(h:Gw wd A E):∀x∈qu A,∃k,wd[x]?=some (some k):=by induction h with|link _ g j=>exactλx I=>(Ao.mp I).elim (λe=>{_,e▸g}) λI=>{_,Aj.mp I▸j}|ei g _ _ _ _ l=>exactλx I=>(Ao.mp I).elim (λe=>{_,e▸g}) (l x)|bo g _ _ _ _ J U=>exactλx I=>(Ao.mp I).elim (λe=>{_,e▸g}) λI=>(Ag.mp I).elim (J x) (U x)|cu _ _ _ _ J U=>exactλx I=>(Ag.mp I).elim (J x)<|U x
def Gw.con(h:Gw wd A E){R:Nat->Nat->Prop}(Q:xM R):(∀c∈zu A,R c.1 c.2)->(∀c∈zy A,R c.1 c.2)->(∀r∈qu A,∀e i j,wd[r]?=some (some<|.nd e i j)->(R i j->R r i\/R r j)/\(e=false->R r i/\R r j))->∀a∈qu A,∀b∈qu A,R a b:=by
 have g:∀{l:XS} {c:Nat},(∀a∈l,R c a)->∀a∈l,∀b∈l,R a b:=λh a I b hb=>Q.t (Q.s<|h a I)<|h b hb
 induction h with
 |@link p q=>
  intro o _ _;have e:=o (p,q) (by simp[zu]);refine g (c:=p) λa I=>?_;rcases Ao.mp I with rfl|I
  .exact Q.r _
  .rw[Aj.mp I];exact e
 |@ei r i j A E h1 h2 h3 h4 _ ih=>
  intro o hc C;have ih:=ih o hc λr T=>C r<|Ac _ T;refine g (c:=r) λa I=>?_;rcases Ao.mp I with rfl|I
  .exact Q.r _
  .rcases (C r Ai _ _ _ h1).1 (ih i (h2.sub _ h3) j<|h2.sub _ h4) with k|k
   .exact Q.t k<|ih i (h2.sub _ h3) a I
   .exact Q.t k<|ih j (h2.sub _ h4) a I
 |@bo r i j A B E F h1 h2 h3 h4 h5 J U=>
  intro o hc C;have J:=J (λc h=>o c<|Am _ h) (λc h=>hc c<|Am _ h) λr T=>C r<|Ac _<|Am _ T;have U:=U (λc h=>o c<|Ae _ h) (λc h=>hc c<|Ae _ h) λr T=>C r<|Ac _<|Ae _ T;obtain⟨k1,k2⟩:=(C r Ai _ _ _ h1).2 rfl;refine g (c:=r) λa I=>?_;rcases Ao.mp I with rfl|I
  .exact Q.r _
  .rcases Ag.mp I with I|I
   .exact Q.t k1<|J i (h2.sub _ h4) a I
   .exact Q.t k2<|U j (h3.sub _ h5) a I
 |@cu p q A B E F h2 h3 h4 h5 J U=>
  intro o hc C;have J:=J (λc h=>o c<|Am _ h) (λc h=>hc c<|Ac _<|Am _ h) λr T=>C r<|Am _ T;have U:=U (λc h=>o c<|Ae _ h) (λc h=>hc c<|Ac _<|Ae _ h) λr T=>C r<|Ae _ T;have k:=hc (p,q) Ai;refine g (c:=p) λa I=>?_;rcases Ag.mp I with I|I
  .exact J p (h2.sub _ h4) a I
  .exact Q.t k<|U q (h3.sub _ h5) a I
end
def Ga{E:XS}(nd:E.Nodup)(h:i∈E):E.Perm (i::E.filter λx=>!decide (x=i)):=
 (Bg nd<|AD.mpr {by simp,nd.filter _}).mpr λx=>by
  by_cases c:x=i
  .simp[c,h]
  .simp[c]
def WE{E:XS}(nd:E.Nodup)(h:i∈E)(k:j∈E)(ne:i≠j):E.Perm (i::j::E.filter λx=>!decide (x=i\/x=j)):=
 (Bg nd<|AD.mpr {by simp[ne],AD.mpr {by simp,nd.filter _}}).mpr λx=>by
  by_cases c:x=i
  .simp[c,h]
  .by_cases d:x=j
   .simp[d,k]
   .simp[c,d]
abbrev ZT(wd:List<|Yh)(r:Nat):XS:=zm<|wd[r]?.getD none
def n_(wd:List<|Yh)(A:Ru):XS:=(qu A).flatMap (ZT wd)++GM (zy A)
section
variable {A:Ru}{E:XS}{x:Nat}
def tO{r:Nat}{e:Bool}(h:wd[r]?=some (some<|.nd e i j)):ZT wd r=[i,j]:=by unfold ZT;rw[h];rfl
def Gw.part(g:Gw wd A E):(qu A).Nodup->(n_ wd A++E).Perm (qu A):=by
 induction g with
 |@link p q t n _ o h2=>
  intro _;unfold n_ qu ZT;rw[Bc,Bc,o,h2];exact C0 _
 |@ei r i j A E o g h3 C ne ih=>
  intro nd;have n2:=(AD.mp nd).2;have ih:=ih n2;have T:=WE (AG.mp<|ih.nodup_iff.mpr n2).2.1 h3 C ne;refine DM.mpr λa=>?_;have U:=ih.count_eq a;have l:=T.count_eq a;unfold n_ at U ⊢;rw[qu,Bc,tO o,zy];simp only[Ec,Ez,EF] at U l ⊢;lia
 |@bo r i j A B E F o g g' C h5 I J=>
  intro nd;have n2:=(AD.mp nd).2;obtain⟨nA,nB,_⟩:=AG.mp n2;have I:=I nA;have J:=J nB;have r1:=Ga (AG.mp<|I.nodup_iff.mpr nA).2.1 C;have T:=Ga (AG.mp<|J.nodup_iff.mpr nB).2.1 h5;refine DM.mpr λa=>?_;have U:=I.count_eq a;have l:=J.count_eq a;have c3:=r1.count_eq a;have c4:=T.count_eq a;unfold n_ at U l ⊢;rw[qu,Bc,tO o,AV,zy,xq];simp only[Ec,Ez,EF] at U l c3 c4 ⊢;lia
 |@cu p q A B E F g g' C h5 I J=>
  intro nd;obtain⟨nA,nB,_⟩:=AG.mp nd;have I:=I nA;have J:=J nB;have r1:=Ga (AG.mp<|I.nodup_iff.mpr nA).2.1 C;have T:=Ga (AG.mp<|J.nodup_iff.mpr nB).2.1 h5;refine DM.mpr λa=>?_;have U:=I.count_eq a;have l:=J.count_eq a;have c3:=r1.count_eq a;have c4:=T.count_eq a;unfold n_ at U l ⊢;rw[qu,AV,zy,jd,xq];simp only[Ec,Ez,EF] at U l c3 c4 ⊢;lia
def Gw.Zd(g:Gw wd A E)(n:(qu A).Nodup):((qu A).flatMap<|ZT wd).Nodup/\(GM<|zy A).Nodup/\(∀x∈(qu A).flatMap (ZT wd),x∉GM (zy A))/\E.Nodup/\∀x∈E,x∉n_ wd A:=by obtain⟨a,b,c⟩:=AG.mp<|(g.part n).nodup_iff.mpr n;obtain⟨d,e,f⟩:=AG.mp a;exact{d,e,λx I J=>f x I x J rfl,b,λx I J=>c x J x I rfl}
def Gw.mem(g:Gw wd A E)(n:(qu A).Nodup):x∈E↔x∈qu A/\x∉n_ wd A:=
 ⟨λh=>{g.sub _ h,(g.Zd n).2.2.2.2 x h},λ ψ=>(by obtain⟨h,k⟩:=ψ;exact (Ag.mp<|(g.part n).mem_iff.mpr h).resolve_left k)⟩
def Gw.lv(g:Gw wd A E):GM (zu A)=(qu A).filter (m_ wd)/\(∀c∈zu A,c.1<c.2/\∃t n,wd[c.1]?=some (some<|.lf t n)/\wd[c.2]?=some (some<|.lf (!t) n))/\(zu A).length=(zy A).length+(qu A).countP (Cs wd false)+1:=by
 have lf:∀{p t n},wd[p]?=some (some<|.lf t n)->m_ wd p=true/\Cs wd false p=false:=λh=>by unfold m_ Cs;rw[h];exact{(rfl),rfl}
 have no:∀{p e i j},wd[p]?=some (some<|.nd e i j)->m_ wd p=false/\Cs wd false p=!e:=λ{p e i j} h=>by unfold m_ Cs;rw[h];cases e<;>exact{(rfl),rfl}
 induction g with
 |@link p q t n lt U o=>
  obtain⟨a,b⟩:=lf U;obtain⟨c,d⟩:=lf o;refine{?_,λc l=>by cases Aj.mp l;exact{(lt),t,n,U,o},?_}
  .rw[qu,B5,B5,Ay a,Ay c];rfl
  .rw[qu,BA,BA,b,d];rfl
 |ei U _ _ _ _ r=>
  obtain⟨a,b⟩:=no U;rw[qu,B5,Au (by rw[a];exact AK),BA,b];exact r
 |bo U _ _ _ _ I J=>
  obtain⟨a,b⟩:=no U;rw[qu,B5,Au (by rw[a];exact AK),BA,b,zu,zy,xq,I.1,J.1,BC,DS,Ab,Ab,I.2.2,J.2.2];exact{rfl,λc l=>(Ag.mp l).elim (I.2.1 c)<|J.2.1 c,by simp;lia}
 |cu _ _ _ _ I J=>
  rw[qu,zu,zy,xq,I.1,J.1,BC,DS,Ab,Av,Ab,I.2.2,J.2.2];exact{rfl,λc l=>(Ag.mp l).elim (I.2.1 c)<|J.2.1 c,by lia}
def Gw._m(g:Gw wd A E)(n:(qu A).Nodup):(∀x∈qu A,∃k,wd[x]?=some (some k))/\(∀r∈qu A,∀e i j,wd[r]?=some (some<|.nd e i j)->i∈qu A/\j∈qu A)/\(∀c∈zu A,c.1∈qu A/\c.2∈qu A)/\∀c∈zy A,c.1∈qu A/\c.2∈qu A:=by
 have t:∀{x},x∈n_ wd A->x∈qu A:=λh=>(g.part n).mem_iff.mp<|Am _ h;refine{g.th,λr J e i j h=>?_,λc I=>?_,λc I=>?_}
 .have m:∀x∈[i,j],x∈qu A:=λx U=>t (Am _ (A5.mpr {r,J,by rw[tO h];exact U}));exact{m i Ai,m j<|Ac _ Ai}
 .have:=jf I;rw[g.lv.1] at this;exact{(AF.mp this.1).1,(AF.mp this.2).1}
 .exact{t<|Ae _ (jf I).1,t<|Ae _ (jf I).2}
end
section
variable {D:List Du}{z:Nat}
end
section
variable {F':List Ru}{D:List Du}{A:Ru}
end
section
variable {F0:List Ru}{X Z:List Du}{A B:Ru}{r:Nat}
end
theorem rX{α:Type}{t a b c:α->Bool}(h:∀x,(t x).toNat=(a x).toNat+(b x).toNat+(c x).toNat):∀l:List α,l.countP t=l.countP a+l.countP b+l.countP c
 |[]=>rfl
 |x::l=>by
  have e:∀b:Bool,(if b=true then 1 else 0)=b.toNat:=λb=>by cases b<;>rfl
  rw[BA,BA,BA,BA,rX h l,e,e,e,e,h x];lia
def WF(J:Zr wd lk):(zc wd).length=2*lk.length+(zd false wd).length+(zd true wd).length:=by
 have pl:((List.range wd.length).filter<|m_ wd).length=2*lk.length:=by rw[<-aq lk];exact((Bg (DB _ Bw) J.ZV).mpr λx=>by rw[AF,J.Z1,K1,AM];exact{λh=>h.2,λ ψ=>(by obtain⟨t,n,h⟩:=ψ;exact {qz h,t,n,h})}).length_eq
 rw[<-pl,<-Bj];unfold zc zd ij;rw[<-Bj,<-Bj,<-Bj];refine rX (λx=>?_) _;unfold m_;cases wd[x]? with
 |none=>rfl
 |some k=>
  cases k with
  |none=>rfl
  |some k=>
   cases k with|lf=>rfl|nd e=>cases e<;>rfl
section
variable {F' F0:List Ru}
end
section
variable {L'':qk}{p:Addr}{xs:_T}{D:List Du}{o:LO}
end
structure K2(wd:List<|Yh)(lk ct:XN):Prop where
 i:Hr wd ct
 j:Zr wd lk
 th:qO wd
 rt:xL wd lk ct
section
variable {ks:Yg}{B:Ru}{E:XS}{f:X0}
def SR.gw(rn:Z9 f (ks.map some) wd)(h:SR ks R E):∃E',Gw wd (gy f R) E'/\∀x∈E,f x∈E':=by
 have mr:∀{p:Nat},p<ks.length->p∈List.range (ks.map some).length:=λh=>AM.mpr (by rw[Ah];exact h);have g:∀{p:Nat} {k:Kn},ks[p]?=some k->wd[f p]?=some (pY f<|some k):=λ{p k} e=>rn.gap.at_ p (mr<|qz e) _ (by rw[Aq,e];rfl);have ne:∀{p q:Nat},p<ks.length->q<ks.length->p≠q->f p≠f q:=λhp hq n e=>n<|rn.gap.inj _ (mr hp) _ (mr hq) e
 induction h with
 |@link p q t n E lt h2 J U _=>
  have n:=ne (qz h2) (qz J)<|AY lt;have h2:=g h2;have J:=g J;refine{[min (f p)<|f q,max (f p)<|f q],?_,λx I=>?_}
  .show Gw wd (.link (min (f p)<|f q)<|max (f p)<|f q) _;by_cases c:f p<=f q
   .rw[BW c,Cn c];exact .link (Nat.lt_of_le_of_ne c n) h2 J
   .rw[Cm (by lia),Cr (by lia)];exact .link (by lia) J (by rw[DO];exact h2)
  .rcases (U x).mp I with rfl|rfl<;>simp<;>lia
 |@ei r i j A EA E h1 l J U h5 h6 _ ih=>
  obtain⟨F,gF,m⟩:=ih;have lt:=λx I=>l.lt x<|l.sub x I;refine{_,.ei (g h1) gF (m i J) (m j U)<|ne (lt i J) (lt j U) h5,λx I=>?_};rcases (h6 x).mp I with⟨a,b,c⟩|rfl
  .exact Am _<|AF.mpr {m x a,by simp[ne (lt x a) (lt i J) b,ne (lt x a) (lt j U) c]}
  .exact Ae _<|Aj.mpr rfl
 |@bo r i j A B EA EB E h1 l hB U h5 h6 _ o C=>
  obtain⟨F,gF,m⟩:=o;obtain⟨F',T,m'⟩:=C;have lt:=λx I=>l.lt x<|l.sub x I;have lt':=λx I=>hB.lt x<|hB.sub x I;refine{_,.bo (g h1) gF T (m i U)<|m' j h5,λx I=>?_};rcases (h6 x).mp I with⟨a,b⟩|⟨a,b⟩|rfl
  .exact Am _<|Am _<|AF.mpr {m x a,by simp[ne (lt x a) (lt i U) b]}
  .exact Ae _<|AF.mpr {m' x a,by simp[ne (lt' x a) (lt' j h5) b]}
  .exact Am _<|Ae _<|Aj.mpr rfl
 |@cu p q A B EA EB E w l hB J U _ _ h7 _ o C=>
  obtain⟨F,gF,m⟩:=o;obtain⟨F',T,m'⟩:=C;have lt:=λx I=>l.lt x<|l.sub x I;have lt':=λx I=>hB.lt x<|hB.sub x I;refine{_,.cu gF T (m p J)<|m' q U,λx I=>?_};rcases (h7 x).mp I with⟨a,b⟩|⟨a,b⟩
  .exact Am _<|AF.mpr {m x a,by simp[ne (lt x a) (lt p J) b]}
  .exact Ae _<|AF.mpr {m' x a,by simp[ne (lt' x a) (lt' q U) b]}
def yG(I:(qu B).Nodup)(tB:∀x,x∈qu B↔∃k,wd[x]?=some (some k)):(qu B).Perm (zc wd):=by
 refine(Bg I<|(oS _ _ _).imp λh=>AY h).mpr λx=>(tB x).trans {λ ψ=>(by obtain⟨k,h⟩:=ψ;exact zI h rfl<|qz h),λh=>?_};obtain⟨_,k,J,U⟩:=dk h;cases k with
 |none=>cases U
 |some k=>exact{(k),J}
theorem ud{F:Nat->XS}{x:Nat}:∀{l:XS},(l.flatMap F).Nodup->∀{a b:Nat},a∈l->b∈l->x∈F a->x∈F b->a=b
 |c::l,nd,a,b,J,I,U,g=>by
  rw[Bc] at nd;obtain⟨_,p,o⟩:=AG.mp nd;rcases Ao.mp J with e|J
  .rcases Ao.mp I with j|I
   .rw[e,j]
   .exact(o x (e▸U) x (A5.mpr {(b),I,g}) rfl).elim
  .rcases Ao.mp I with j|I
   .exact(o x (j▸g) x (A5.mpr {(a),J,U}) rfl).elim
   .exact ud p J I U g
def Gw.grw(g:Gw wd B E)(nB:(qu B).Nodup)(tB:∀x,x∈qu B↔∃k,wd[x]?=some (some k))(zB:(qu B).length<=120)(pl:lk.Perm<|zu B)(a0:lk.Pairwise gm)(U:ct.Perm<|zy B):K2 wd lk ct:=by
 obtain⟨_,q1,q2,q3⟩:=g._m nB;obtain⟨n1,n2,n3,_,_⟩:=g.Zd nB;obtain⟨v1,v2,v3⟩:=g.lv;have pr:∀{p:Nat} {k:Kn},wd[p]?=some (some k)->ZT wd p=zm (some k):=λh=>by unfold ZT;rw[h];rfl
 have I:=k8 pl;have J:Zr wd lk:=by
  refine{λc o=>v2 c<|pl.mem_iff.mp o,by rw[I.nodup_iff,v1];exact nB.filter _,λp=>?_,a0,?_}
  .rw[I.mem_iff,v1,AF,K1];exact{λh=>h.2,λ ψ=>(by obtain⟨t,n,h⟩:=ψ;exact {(tB p).mpr {_,h},t,n,h})}
  .have e:=aq lk;have:=I.length_eq;have l:=CQ (m_ wd)<|qu B;rw[v1] at this;lia
 have kc:(zd false wd).length=(qu B).countP (Cs wd false):=by rw[(yG nB tB).countP_eq,zc,ij,List.countP_filter,zd,ij,<-Bj];refine B7 λx _=>?_;unfold Cs;cases wd[x]? with|none=>rfl|some k=>cases k<;>simp[wo,df]
 have C:∀{x:Nat},bD wd x=true->x∈qu B:=λh=>(tB _).mpr (by
  obtain⟨_,k,ek,kb⟩:=dk<|dU.mp h;cases k with
  |none=>cases kb
  |some k=>exact{(k),ek})
 refine{{{λp e i j h=>?_,λp q k l x h1 h2 x1 x2=>?_},(k8 U).nodup_iff.mpr n2,λx hx hp=>?_,λd hd=>?_},J,λp e i j h=>?_,?_,λT rf sy tr hj hf a b ta tb=>?_}
 .have:=(List.pairwise_flatMap.mp n1).1 p<|(tB p).mpr {_,h};rw[tO h] at this;exactλe=>(AD.mp this).1 (by rw[e];exact Aj.mpr rfl)
 .exact ud n1 ((tB p).mpr {_,h1}) ((tB q).mpr {_,h2}) (by rw[pr h1];exact x1) (by rw[pr h2];exact x2)
 .obtain⟨p,k,e,a1⟩:=cW hp;exact n3 x (A5.mpr {p,(tB p).mpr {_,e},by rw[pr e];exact a1})<|(k8 U).mem_iff.mp hx
 .obtain⟨a,b⟩:=q3 d<|U.mem_iff.mp hd;exact{(tB _).mp a,(tB _).mp b}
 .obtain⟨a,b⟩:=q1 p ((tB p).mpr {_,h}) e i j h;exact{(tB _).mp a,(tB _).mp b}
 .have e2:=qZ (ks:=wd) (pl:=zd false wd) λp hp=>by obtain⟨i,j,h⟩:=Vh hp;exact{(false),i,j,h}
  have s:=WF J;have l1:=pl.length_eq;have l2:=U.length_eq;unfold jj;rw[Ab,Ab,e2];lia
 .refine g.con (R:=T) {rf,λ{a b}=>sy a b,λ{a b c}=>tr a b c} (λc o=>hj c<|Am _<|Am _<|pl.mem_iff.mpr o) (λc o=>hj c<|Am _<|Ae _<|U.mem_iff.mpr o) (λr _ e i j h=>?_) a (C ta) b<|C tb;cases e with
  |true=>exact{λk=>.inl<|hf r (Kr h) true i j h k,nofun}
  |false=>
   obtain⟨m1,m2⟩:=Vg h<|Kr h;have k1:=hj _<|Ae _ m1;exact{λ_=>.inl k1,λ_=>{k1,hj _<|Ae _ m2}}
def Gw.wb(g:Gw wd B E)(I:(qu B).Nodup)(r:(qu B).length<=120)(t:wd.length<=1000):vo B<=120/\iL B<=127/\(zu B).Nodup/\(zy B).Nodup/\(∀p∈zu B,p.2<1000000)/\∀p∈zy B,p.2<1000000:=by
 have rd:=aF B;have C:=cf B;obtain⟨q0,_,U,j⟩:=g._m I;have lt:∀x∈qu B,x<1000000:=λx l=>by obtain⟨k,o⟩:=q0 x l;have:=qz o;lia
 exact{by lia,by lia,wg (by rw[g.lv.1];exact I.filter _),wg (g.Zd I).2.1,λp J=>lt _ (U p J).2,λp J=>lt _ (j p J).2}
end
def WG{x:Nat}:cG wd x=true↔∃k,wd[x]?=some (some k):=by
 unfold cG;constructor
 .intro h;split at h
  .rename_i k e;exact{(k),e}
  .cases h
 .rintro⟨k,e⟩;rw[e]
def WH{B:Ru}{E:XS}(g:Gw wd B E)(J:(qu B).Nodup)(tB:∀x,x∈qu B↔∃k,wd[x]?=some (some k))(U:∀d,d∈ct↔d∈zy B):E.Perm (wy wd (kj wd ct) wd.length):=by
 refine(Bg (g.Zd J).2.2.2.1<|Bw.filter _).mpr λx=>?_;show x∈E↔x∈(List.range wd.length).filter λp=>cG wd p&&!decide (p∈kj wd ct);rw[g.mem J,AF,AM,AX,WG,Bool.not_eq_true',decide_eq_false_iff_not,tB];have j:x∈n_ wd B↔x∈kj wd ct:=by
  unfold n_ kj;rw[Ag,Ag];refine or_congr {λh=>?_,λh=>?_} {λh=>?_,λh=>?_}
  .obtain⟨r,l,I⟩:=A5.mp h;obtain⟨k,e⟩:=(tB r).mp l;unfold ZT at I;rw[e] at I;exact kB e I
  .obtain⟨p,k,e,o⟩:=cW h;exact A5.mpr {p,(tB p).mpr {_,e},by unfold ZT;rw[e];exact o}
  .obtain⟨d,hd,e⟩:=bB h;have:=jf<|(U d).mpr hd;rcases e with rfl|rfl;exact this.1;exact this.2
  .obtain⟨d,hd,e⟩:=bB h;have:=jf<|(U d).mp hd;rcases e with rfl|rfl;exact this.1;exact this.2
 rw[j];exact{λ ψ=>(by obtain⟨⟨k,h⟩,n⟩:=ψ;exact {qz h,{(k),h},n}),λ ψ=>(by obtain⟨_,h,n⟩:=ψ;exact {(h),n})}
def SR.gwS{ks:Yg}{E:XS}(h:SR ks R E):∃E',Gw (ks.map some) R E'/\∀x,x∈E'↔x∈E:=by
 have g:∀{p:Nat} {k:Kn},ks[p]?=some k->(ks.map some)[p]?=some (some k):=λ{p k} e=>by rw[Aq,e];rfl
 induction h with
 |@link p q t n E lt h2 o I _=>exact{_,.link lt (g h2)<|g o,λx=>by rw[I x];simp}
 |@ei r i j A EA E h1 hA o I h5 h6 _ ih=>
  obtain⟨F,C,m⟩:=ih;exact{_,.ei (g h1) C ((m i).mpr o) ((m j).mpr I) h5,λx=>by rw[h6 x,Ag,AF,m];simp}
 |@bo r i j A B EA EB E h1 hA hB I h5 h6 _ J U=>
  obtain⟨F,C,m⟩:=J;obtain⟨F',l,T⟩:=U;exact{_,.bo (g h1) C l ((m i).mpr I)<|(T j).mpr h5,λx=>by rw[h6 x,Ag,Ag,AF,AF,m,T];simp;grind}
 |@cu p q A B EA EB E w hA hB o I _ _ h7 _ J U=>
  obtain⟨F,C,m⟩:=J;obtain⟨F',l,T⟩:=U;exact{_,.cu C l ((m p).mpr o)<|(T q).mpr I,λx=>by rw[h7 x,Ag,AF,AF,m,T];simp}
def tV.self{ks:Yg}{E:XS}(T:tV ks R E):(vo R<=120/\iL R<=127/\(zu R).Nodup/\(zy R).Nodup/\(∀p∈zu R,p.2<1000000)/\∀p∈zy R,p.2<1000000)/\
 ∀ct:XO,ct.Perm (zy R)->∀x,x∈wy (ks.map some) (kj (ks.map some) ct) (ks.map some).length↔x∈E:=by
 obtain⟨F,g,m⟩:=T.sr.gwS;have n:=T.tp.nodup_iff.mpr Bw;have z:(qu R).length<=96:=by rw[T.tp.length_eq,Bb];exact T.len
 refine{g.wb n (by lia) (by rw[Ah];have:=T.len;lia),λct I x=>?_};rw[<-(WH g n (λy=>?_) λd=>I.mem_iff).mem_iff,m];rw[T.tp.mem_iff,AM];exact{λh=>{ks[y],by rw[Aq,An h];rfl},λ ψ=>by obtain⟨k,h⟩:=ψ;have:=qz h;rw[Ah] at this;exact this}
def tV.rule{ks:Yg}{E:XS}{f:X0}(T:tV ks R E)(J:Z9 f (ks.map some) wd):∃F,Gw wd (gy f R) F/\(qu<|gy f R).Nodup/\(∀x,x∈qu (gy f R)↔∃k,wd[x]?=some (some k))/\(qu<|gy f R).length<=96:=by
 obtain⟨F,g,_⟩:=T.sr.gw J;have pm:=fg f R;refine{F,g,pm.nodup_iff.mpr (rh (T.tp.nodup_iff.mpr Bw) λx U y I=>J.gap.inj x (by rw[Ah];exact T.tp.mem_iff.mp U) y (by rw[Ah];exact T.tp.mem_iff.mp I)),λx=>{g.th x,λ⟨k,h⟩=>?_},?_}
 .obtain⟨y,I,rfl⟩:=J.gap.only x k h;rw[Ah] at I;exact pm.mem_iff.mpr<|CA<|T.tp.mem_iff.mpr I
 .rw[pm.length_eq,Ah,T.tp.length_eq,Bb];exact T.len
theorem cV(f:X0):∀{R:Ru} {c:X2},c∈zy (gy f R)->∃d∈zy R,c=(f d.1,f d.2)
 |.link _ _,_,h=>nomatch h
 |.ei _ A,_,h=>cV f (R:=A) h
 |.bo _ A B,_,h=>(Ag.mp h).elim (λh=>let ⟨d,m,e⟩:=cV f h;⟨d,Am _ m,e⟩) λh=>let ⟨d,m,e⟩:=cV f h;⟨d,Ae _ m,e⟩
 |.cu p q A B,_,h=>(Ao.mp h).elim (λe=>{(p,q),Ai,e}) λh=>(Ag.mp h).elim (λh=>let ⟨d,m,e⟩:=cV f h;⟨d,Ac _<|Am _ m,e⟩) λh=>let ⟨d,m,e⟩:=cV f h;⟨d,Ac _<|Ae _ m,e⟩
def tV.cutJ{ks:Yg}{E:XS}{f:X0}(T:tV ks R E)(J:Z9 f (ks.map some) wd)(W:K2 wd lk ct)(U:ct.Perm<|zy<|gy f R)(I:ct.Pairwise gm)(g:wd.length<=241):bG wd ct:=
 ⟨W.i.pu,λc j=>by
  obtain⟨d,hd,rfl⟩:=cV f<|U.mem_iff.mp j;obtain⟨w,l,o⟩:=T.sr.cutw d hd;have e:∀{p w},du ks p w->KW (xx<|ks.map some) p w:=λh=>by rw[o5];exact h
  exact{w,J.word<|e l,J.word<|e o},W.i.Zu,W.i.Y7,I,g⟩
def wR(J:ju)(U:ju)(I:ju):RD "_law_sown" kQ 172 ["_law_script","_law_stir_here","_law_wide","_law_room"] (λV=>F1 V J/\JC V U/\Ju V I):={_,λV B c _ _ _ _ _ _ _ g hN j=>(qa (S_ 3 hN<|ql ja qe<|ql js (C_ c.1 g<|ki (qv 1) qe) qe)<|ke (zr (E_ j (ql js (C_ c.1 g<|ki (qv 1) qe) qe) qe) (qd<|S_ 3 hN<|qv 2) qw)<|qd<|qr<|C_ c.2.1 g<|bq (aU (qL _ _ _) (qv 0) (ai qe) bz) (ql js (C_ c.2.2 g<|ki (qv 0) qe) qe)<|qv 3)}
def ut(U:ju)(j:ju)(g:ju)(I:ju)(J:ju):RD "_law_deep" kW 170 ["_law_tree_here","_law_number_here","_law_knots","_law_ends","_law_p","_law_word_here","_law_rule","_law_q","_law_same"] (λV=>JF V U/\JE V j/\Jw V g/\Jx V I/\Jy V J):={_,λV B c _ _ _ _ _ _ _ l hN o=>(qa (S_ 2 hN<|am bY rfl B.bb wc<|jy<|J_ 0)<|qa (S_ 3 hN<|C_ c.1 l<|jy<|C_ c.2.1 l<|jy<|qv 0)<|qa (S_ 4 hN<|I_ (qv 3)<|ql js (qv 1)<|L_ B.ba<|qv 3)<|qa (S_ 5 hN<|C_ c.2.2.1 l<|ki (qv 2)<|qv 4)<|qa (zr (jv zM (ql ja (ql l5 qe<|C_ c.2.2.2.1 l<|jy<|qv 5)<|L_ B.ba<|qv 2) qe<|jt _) (qd<|qr<|qv 0) qw)<|qa (jL (C_ c.2.2.2.2 l<|ki (qv 2)<|qv 5)<|JR (n:=3) rfl<|ze (G_ 6 hN)<|ze (G_ 7 hN)<|ze (G_ 8 hN) km)<|qa (zr (E_ o (ql js (ql wm (qv 1) qe) qe) qe) (qd<|qr<|zj<|ki (qv 2)<|zj<|vg jk<|vg (qv 4)<|bq (qv 7) (J_ 0)<|qv 6) qw)<|qd<|qr<|zj<|ki (qv 2)<|zj<|vg jk<|vg (qv 7)<|bq (qv 4) (qv 6)<|J_ 0)}
def K3:RD "_law_three" i3 0 ["_law_web_here"] (λ_=>True):={_,λV B c _ _ _ _ _ _ _ J hN I=>(qa (zr (bK<|rR (dM<|v5<|vz .tuple rfl B.b_isinstance rfl B.b_tuple cZ<|qv 0)<|oE<|N_ I (L_ B.ba<|qv 0) qe) (qd<|qr ar) qw)<|qd<|qr<|gq (vz .list rfl B.b_isinstance rfl B.bb wc<|J_ 0)<|gq (vz .list rfl B.b_isinstance rfl B.bb wc<|J_ 0)<|jQ<|vz .list rfl B.b_isinstance rfl B.bb wc<|J_ 0)}
def WI:_f mZ (wR fc i8 dO).1 4:=by
 rintro ys L Q ⟨I,s,w,wi,rfl,rfl,hn,hw,q⟩;refine{s,774511,rfl,by decide,by decide,λv v0 _=>{(by decide:(0:Int)<25),?_}};refine{λg j=>∃r:Nat,r<=96/\g=[some<|.sq<|I.map Y.int,some<|.int s,some<|.int (w:Int),some<|.int (r:Int)]/\j=L,?_,?_}
 .refine{s,31337,rfl,by decide,by decide,λu _ _=>{(by decide:(0:Int)<8),zp (λ_=>{(w),hw,rfl,rfl}) λ_=>{(20+v % 25).toNat,by lia,?_,rfl}}};rw[show(((20+v % 25).toNat:Nat):Int)=20+v % 25 by lia];rfl
 .rintro g j ⟨r,o,rfl,rfl⟩ pm J;obtain⟨p,U,t⟩:=VA I (some 1) none;rw[U];exact{I,0,rfl,by decide,λc=>{(by decide:(0:Int)<1000000000),pm,p,_,r,rfl,q9,by lia,o,λC T R E l ok sr tp hl=>xg<|q C T R E _ ((By J).trans<|By l) (vj l) q9 {ok,sr,tp,by lia}}}
theorem WJ:_f ix (ut fw i5 (x6 120) (aG 120)<|w4 48).1 9:=by
 rintro ys L Q ⟨a,I,R,E,num,rfl,ha,T,q⟩;have hz:=T.len;obtain⟨⟨d1,d2,n1,n2,b1,b2⟩,to⟩:=T.self;refine qb ha λJ g=>?_;refine pW g λL1 C g1=>?_;refine{a,kq I,R,rfl,C _ _ ha,by lia,by lia,n1,n2,b1,b2,λa' l' c' lk ct L2 s2 _ _ _ _ _ _ g2 _ g3 _ _ pc _=>?_};refine{a',l',c',I.map some,ct,rfl,by rw[o5];exact g2,g3,by rw[Ah];lia,by rw[pc.length_eq];have:=wr R;lia,λp3 a0=>?_};have op:=to ct pc;generalize wy (I.map some) (kj (I.map some) ct) (I.map some).length=F at op ⊢;have nF:0<F.length:=by obtain⟨x,hx⟩:=List.exists_mem_of_length_pos<|T.sr.ends T.ok;exact Cj<|(op x).mpr hx
 refine pW a0 λL3 U g4=>?_;have U:=s2.trans U;obtain⟨p,mp,ep⟩:∃r,r∈F/\dZ (nY F) (num % ((nY F).length:Int))=some (.int ((r:Nat):Int)):=mh nF num;refine qb g4 {by rw[xn];exact Int.ofNat_lt.mpr nF,qb g4<|qj ep ?_};have hp:=(op p).mp mp;have lp:=T.sr.lt p<|T.sr.sub p hp;obtain⟨w,hw,a1,j⟩:=jU T.ok (p+1) p (Bz _) lp;have k3:=U _ _ g1;refine{J,kq I,p,w,rfl,k3,hw,by lia,?_};refine{w,rfl,by lia,.inl {by decide,by decide},qb k3 ?_};have l:(kq I).length=I.length:=Ah ..;refine zp (λ_=>xg<|q a I R E L3 (C.trans U) (U _ _<|C _ _ ha) T) λcz=>?_;have cz:=cz;rw[l] at cz;have ds:=Wd.Yv w;refine{J,I,w,rfl,k3,by lia,by decide,j,T.ok,by lia,λms A o sp p5 t M=>?_};have ml:=M.len;obtain⟨⟨E1,T1⟩,E2,T2⟩:=T.cut hp hw M (by lia);have n5:=w6 k3 t;have nk:=g;have s5:qg L (qf (qf L3 J<|.lst<|kq<|I++ms) p5<|.lst [j8 A,.int ((o:Nat):Int),.int ((sp:Nat):Int)]):=((C.trans U).upd nk).trans (By (by rw[qc<|AJ n5];exact t));have g5:qf (qf L3 J<|.lst<|kq<|I++ms) p5 (.lst [j8 A,.int ((o:Nat):Int),.int ((sp:Nat):Int)]) J=some (.lst<|kq<|I++ms):=(qc n5).trans q9;refine qp q9 ?_;generalize qf (qf L3 J<|.lst<|kq<|I++ms) p5 (.lst [j8 A,.int ((o:Nat):Int),.int ((sp:Nat):Int)])=L5 at s5 g5 ⊢;refine{{by decide,by decide},(by decide:(0:Int)<2),zp (λ_=>?_) λ_=>?_}
 .exact xg<|q J _ (.cu p o R A) E1 L5 s5 g5 T1
 .exact xg<|q J _ (.cu o p A R) E2 L5 s5 g5 T2
inductive fN(ys:_T)(L:qk)(Q:YK):Prop
 |mk:∀a l c,∀xs zs us:_T,(ys=[aY a l c])->(L a=some (.lst xs))->(L l=some (.lst zs))->(L c=some (.lst us))->(Q (.bl true) L)->fN ys L Q
def WK:_f fN K3.1 1:=by rintro ys L Q ⟨a,l,c,g,j,o,rfl,I,J,U,q⟩;exact cA I<|cA J<|cA U<|xg q
def K4(I:ju):RD "links_without" dt 1 ["links","p","q","x","y","kept"] (λV=>Jn V I):={_,λV B c _ _ _ _ _ _ _ J hN U=>(qa (S_ 3 hN<|C_ c J<|ki (qv 0)<|qv 1)<|qa (S_ 4 hN<|C_ c J<|ki (qv 0)<|qv 2)<|qa (zr (E_ U (qv 3)<|qv 2) (qd uf) qw)<|qa (ak ["link"] (i:=5) hN rfl (Or.inl rfl) (ES (by rfl)) rfl (vk<|qv 0) (sJ 6) (λ_ _ _ _=>bU<|bK<|bn (jv (tE _ _ _) (qv 1) (qv 6) (by with_unfolding_all rfl))<|aS<|jv (tE _ _ _) (qv 2) (qv 6) (by with_unfolding_all rfl)) λ_ _ _ _=>(qv 6))<|qd<|qr<|ko m9 rfl B.bh fk<|jy<|ql ja (qv 5)<|jm<|jy<|zj<|ki (ko IJ rfl B.b_min Ka<|ki (qv 3)<|qv 4)<|ko GS rfl B.bi yz<|ki (qv 3)<|qv 4)}
def K5(U:ju)(I:ju)(J:ju):RD "cut_step" o4 2 ["web","k","cuts","knots","p","q","links","inner"] (λV=>Fw V U/\Jo V I/\G9 V J):={_,λV B c _ _ _ _ _ _ _ g hN j=>(qa (S_ 2 hN<|J_ 0)<|qa (zr (dM<|Sk qe<|Si Rb (qv 1)<|Sh vQ<|L_ B.ba<|qv 2) (qd uf) qw)<|qa (S_ 3 hN<|am bY rfl B.bb wc<|jy<|J_ 0)<|qa (S_ 4 hN<|I_ (I_ (qv 2)<|qv 1) qe)<|qa (S_ 5 hN<|I_ (I_ (qv 2)<|qv 1) qe)<|qa (S_ 6 hN<|iy (v5<|C_ c.1 g<|jy<|I_ (qv 3)<|qv 4) (C_ c.2.1 g<|bq (J_ 0) (qv 4)<|qv 5)<|am bY rfl B.bb wc<|jy<|J_ 0)<|qa (S_ 7 hN<|Wg rfl rfl B.bb rfl B.b_zip<|ki (C_ c.2.2 g<|jy<|I_ (qv 3)<|qv 4)<|C_ c.2.2 g<|jy<|I_ (qv 3)<|qv 5)<|qa (fY (qv 3) (qv 4) jZ)<|qa (fY (qv 3) (qv 5) jZ)<|qd<|qr<|zj<|bq (qv 3) (qv 6)<|ko m9 rfl B.bh fk<|jy<|ql ja (ql ja (aU (qL _ _ _) (qv 2) bz<|ai<|qv 1)<|aU (qL _ _ _) (qv 2) (ai<|ql ja (qv 1) qe) bz)<|qv 7)}
inductive mU(ys:_T)(L:qk)(Q:YK):Prop
 |mk:∀l,∀lk:XO,∀p q x y:Nat,∀x0 y0:X2,(ys=[.ref l,.int (p:Int),.int (q:Int)])->(L l=some (.lst<|qx lk))->((GM lk).Nodup)->(lk.length<=60)->((∀c∈GM lk,c<242))->(x0∈lk)->(y0∈lk)->(x0≠y0)->(x≠q)->(sD p x x0)->(sD q y y0)->((∀D qs L',qg L L'->L D=none->L' D=some (.lst<|qx qs)->qs.Perm (lk.filter (wq p q)++[xQ x y])->qs.Pairwise gm->Q (.ref D) L'))->mU ys L Q
def WL:_f mU (K4 dY).1 6:=by
 rintro ys L Q ⟨l,lk,p,q,x,y,x0,y0,rfl,j,nd,hz,lt,C,I,ne,r,T,oy,qq⟩;have big:=a_;have pl:∀l:XO,(qx l).length=l.length:=λl=>Ah ..;refine{l,lk,p,x,x0,rfl,j,nd,C,T,{l,lk,q,y,y0,rfl,j,nd,I,oy,zp (λh=>(r<|Ck.mp h).elim) λh=>?_}};have jp:=jH nd C I ne T oy;refine xl j λkeep kp=>dS (λi J=>J=qx ((lk.take i).filter<|wq p q)) (by rw[pl];exact big _ (by lia)) (kp _ rfl) rfl ?_ ?_
 .rintro i y J I rfl;rw[Aq] at I;obtain⟨z,ez,rfl⟩:=AE.mp I;have no:wq p q z=false->hG (λJ L'=>L'=L/\J=qx ((lk.take<|i+1).filter<|wq p q)) (qx<|(lk.take i).filter<|wq p q) L:=λe=>{_,EL _,rfl,by rw[Bm,ez,BC,Option.toList_some,Dj (by rw[e];decide),Ce,Aw]};refine{rfl,rfl,?_};rw[tL];by_cases U:p=z.1\/p=z.2
  .exact aT (by rw[AA U];rfl) (no (by unfold wq;rw[AA U];rfl))
  refine dW (by rw[AB U];rfl) {rfl,rfl,?_};rw[tL];by_cases g:q=z.1\/q=z.2
  .exact aT (by rw[AA g];rfl) (no (by unfold wq;rw[AA g,Bool.or_true];rfl))
  refine dW (by rw[AB g];rfl) {_,EL _,rfl,?_};rw[Bm,ez,BC,Option.toList_some,Dk (by unfold wq;rw[AB U,AB g];rfl),Ce,cU]
 rintro J rfl p5 h5;rw[pl,Bp];have fl:=CQ (wq p q) lk;refine pW h5 λL5 s5 g5=>?_;intro p6 h6;rw[V2];have s6:=By (o:=.lst [A_<|xQ x y]) h6;refine{_,_,s6 _ _ g5,q9,by rw[pl];exact BD (big _ (by show _+1<=_;lia)),λp7 h7=>?_};have s7:=s5.trans<|s6.trans<|By (o:=.lst<|qx (lk.filter<|wq p q)++[A_<|xQ x y]) h7;have t:=jp.nodup_iff.mp nd;refine F6 (ps:=lk.filter (wq p q)++[xQ x y]) (by rw[q9,cU]) (λd hd=>?_) (wg (AD.mp (AD.mp t).2).2) (by rw[Ab];show _+1<=_;lia) λD qs hD pm pw=>xg<|qq D qs _ (s7.trans<|By hD) (s7.none hD) q9 pm pw;have:=lt d.2<|jp.mem_iff.mpr<|Ac _<|Ac _ (jf hd).2;lia
inductive im(ys:_T)(L:qk)(Q:YK):Prop
 |mk:∀a l c,∀wd:List (Yh),∀lk ct:XO,∀k:Nat,∀x:X2,(ys=[aY a l c,.int (k:Int)])->(L a=some (.lst<|xx wd))->(L l=some (.lst<|qx lk))->(L c=some (.lst<|qx ct))->(bG wd ct)->(Zr wd lk)->(ct[k]?=some x)->(¬KJ lk x)->(∀ir fy a' l' c' L',qg L L'->L' a'=some (.lst<|xx<|GE wd x)->L' l'=some (.lst<|qx ir)->L' c'=some (.lst<|qx fy)->tU wd lk x ir->fy.Perm (ct.eraseIdx k++dR wd x)->fy.Pairwise gm->Q (aY a' l' c') L')->im ys L Q
def WM:_f im (K5 aD mU bX).1 8:=by
 rintro ys L Q ⟨a,l,c,wd,lk,ct,k,x,rfl,ha,hl,hc,I,J,ex,nl,q⟩;have pl:∀l:XO,(qx l).length=l.length:=λl=>Ah ..;have hk:=qz ex;refine qb hc (aT (b:=!decide ((k:Int)<((qx ct).length:Int))) (by rw[pl,AA<|Int.ofNat_lt.mpr hk];rfl) ?_);have hx:=Ar ex;have a1:∀{a':Addr},L a'=none->a'≠c:=λh e=>by subst e;rw[hc] at h;cases h
 refine qb ha λa' U=>?_;refine pW U λL1 g g1=>?_;have ax:=jo<|Vc ex;have c1:=g _ _ hc;refine qb c1<|qj ax<|qb c1<|qj ax ?_;rcases I.two hx with⟨t,n,e1,e2,_⟩|⟨e,i,j,i',j',e1,e2,_⟩
 .refine qb g1<|qj (aX e1) {true,t,_,rfl,?_};obtain⟨x0,mx,ox⟩:=bB<|(J.Z1 x.1).mpr {(t),n,e1};obtain⟨y0,my,oy⟩:=bB<|(J.Z1 x.2).mpr {_,n,e2};obtain⟨u,ou⟩:=KA ox;obtain⟨v,ov⟩:=KA oy;have wl:=I.wl;have lt:∀p∈GM lk,p<242:=λp hp=>by obtain⟨_,_,e⟩:=(J.Z1 p).mp hp;have:=qz e;lia
  have nu:u≠x.2:=λe=>nl {x0,mx,e▸ou};have ne:x0≠y0:=λe=>nu<|Wn (lk:=lk) (mO I.Zu hx) ou<|e▸ov.mem;refine{l,lk,x.1,x.2,u,v,x0,y0,rfl,g _ _ hl,J.ZV,J.ll,lt,mx,my,ne,nu,ou,ov,λD a2 L2 r nD g2 pm pw=>?_};have n1:=w6 g1 nD;exact KI (E3:=Jb) I ex (g.trans r) U (g.none nD) n1 (r _ _ g1) g2 (r _ _ c1) (a1 U) λC c' L' t1 t2 t3 t4 t5 t6 t7 T a0=>xg<|q a2 C a' D c' L' t1 t5 t6 t7 (.inr {(t),n,x0,y0,u,v,e1,mx,my,ne,ou,ov,pm,pw}) T a0
 .refine qb g1<|qj (aX e1) {false,e,_,rfl,?_};refine qb (g _ _ hl) λD nD=>?_;have n1:=w6 g1 nD;have r:=By (o:=.lst<|qx lk) nD;exact KI (E3:=Jb) I ex (g.trans r) U (g.none nD) n1 (r _ _ g1) q9 (r _ _ c1) (a1 U) λC c' L' t1 t2 t3 t4 t5 t6 t7 T a0=>xg<|q lk C a' D c' L' t1 t5 t6 t7 (.inl {{_,_,_,e1},rfl}) T a0
section
variable {w:X7}
end
def Hs(n:Nat):It:={λi _=>i<n,λi H x H'=>H'=H/\x=.int ((n:Int)-1-i),λi _=>n<=i}
theorem WN{P:X6}{w:X7}{K:Ak}(it:Addr)(n:Nat):DT P w K tg (Hs n) [it] it (λi h=>IsRangeIter h it ((n:Int)-1+(i:Nat)*(-1)) ((n:Int)-(i:Nat))<|-1) where
 mem:=by simp
 obj:=λi h st b J=>by
  have e:b=it:=by simpa using J
  subst e;exact{_,st,λv z=>by have z':=z;cases z'}
 keep:=λi h l st k=>k it (by simp) _ st
 item:=by intro X p hw r C i U s σ H E I j st T;subst p hw r;obtain⟨f0,f1,f2,f3,f4,f5⟩:=j it (by simp);have W:=Walks.range (prog:=X.prog) (w:=X.w) (I.ok.hd C) it ((n:Int)-1) (-1) n;refine xc I.tk<|W.item i s _ _ T st λv l tk hv g kk ht=>?_;obtain⟨t,rfl⟩:=hv;have I1:=I.turned (λb o J e=>kk b o (by simpa using J) e) f0 f1 f3 f4 f5;refine{_,rfl,FD (s:={s with heap:=l,toks:=tk}) (n:="range_iterator") g rfl rfl (by decide) {.int<|(n:Int)-1-i,H,I1,{t,?_},{(rfl),rfl},g,λb J=>(j b J).1}};congr 1;omega
 done:=by intro X p hw r C i U s σ H E I j st T;subst p hw r;obtain⟨f0,f1,f2,f3,f4,f5⟩:=j it (by simp);exact wpAny_pyNext_range_end (I.ok.hd C) st (by have:n<=i:=T;omega) λl eb=>{rfl,I.turned (t':=s.toks) (λb o J e=>eb b o J e) f0 f1 f3 f4 f5}
 self:=λ_ _ _ _ _ st h=>wpAny_pyIter_rangeiter st h
def pI(n:Nat):_T:=(List.range n).map λk=>.int<|(n:Int)-1-(k:Nat)
def u5(n:Nat):gr G H₀ (Hs n) (pI n) (λ_=>True) where
 go:=λi H L t I g j=>show i<n by simpa[pI] using j
 Zk:=λi H L x l y t I g J ψ=>by
  obtain⟨e,f⟩:=ψ
  subst e f;unfold pI at J;rw[Aq] at J;obtain⟨k,U,rfl⟩:=AE.mp J;have U:k=i:=by have:=AN.mp U;obtain⟨h,e⟩:=this;rw[List.getElem_range] at e;exact e.symm
  subst U;exact{EM _,I,rfl}
 stop:=λH L t I g=>by show n<=(pI n).length;simp[pI]
def rA(n:Nat):Builtin.Range.rangeSize ((n:Int)-1) (-1) (-1)=(n:Int):=by unfold Builtin.Range.rangeSize;rw[Au (by decide),show(- -1:Int)=1 by decide,Int.ediv_one];split<;>omega
def WO(h:(n:Int)<2 ^ 62):Builtin.Range.small ((n:Int)-1) (-1) (-1)=true:=by
 have e:=rA n;have I:∀x:Int,-(2 ^ 62)<=x->x<2 ^ 62->Builtin.Range.rangeFitsLong x=true:=λx J U=>by unfold Builtin.Range.rangeFitsLong;simp;omega
 unfold Builtin.Range.small;rw[e,I _ (by omega) (by omega),I (-1) (by decide) (by decide),I _ (by omega) h];simp only[C7];rw[Au (by decide),I _ (by decide) (by decide),Bool.or_true]
def WP(ta:TA):TI:=λσ H R=>ta σ H λvs H1=>∃n:Nat,vs=[.int<|(n:Int)-1,.int<|-1,.int<|-1]/\(n:Int)<2 ^ 62/\R (Hs n) H1
def WQ{a b:Expr}{ta:TA}{p:Pos}(hg:Gl X "range")(hm:X.mg "range"=none)(ha:PA X [a,b,c] ta)(hs:starEach [a,b,c] X.env=[(false,eval a X.env),(false,eval b X.env),(false,eval c X.env)]:=by rfl)(j:starEach [b,c] X.env=[(false,eval b X.env),(false,eval c X.env)]:=by rfl):
 PI X tg (.Call (.Name "range" p) [a,b,c] [] pos) (WP ta):=by
 intro J s C H R I h;refine Call_ (dm I hg hm boot_range (Cg (aN (ha pos J s C H _ I h) λus U ψ=>?_) (by rw[hs,j]) (by rw[j];rfl)));obtain⟨vs,T,I1,r1,q1⟩:=ψ;obtain⟨n,e,hn,q⟩:=q1;obtain⟨m,em⟩:∃m:Int,m=(n:Int)-1:={_,rfl};rw[<-em] at e;subst e;cases r1 with
 |cons r rr=>
  cases rr with
  |cons r' rr=>
   cases rr with
   |cons a0 rr=>
    cases rr;obtain⟨t,rfl⟩:=r;obtain⟨t',rfl⟩:=r';obtain⟨g,rfl⟩:=a0;refine call_range_3 (by decide) ?_;have l:z9 X J C T {U with heap:=U.heap.push {cls:=.type "range",data:=.fields #[.int m t,.int (-1) t',.int (-1) g]}}:=I1.kept (t':=U.toks) λb o e=>oi _ e;generalize a1:U.heap.push {cls:=.type "range",data:=.fields #[.int m t,.int (-1) t',.int (-1) g]}=g2 at l ⊢;have hr:IsRange g2 U.heap.objs.size m (-1) (-1) t t' g:=by rw[<-a1];exact pG _ rfl
    refine wpAny_pyIter_range (s:={U with heap:=g2}) hr (by rw[em];exact WO hn) ?_;rw[em,rA n];have st:IsRangeIter (g2.push {cls:=.type "range_iterator",data:=.fields #[rawInt<|(n:Int)-1,rawInt (n:Int),rawInt<|-1]}) g2.objs.size ((n:Int)-1+((0:Nat):Int)*(-1)) ((n:Int)-((0:Nat):Int)) (-1):=by rw[show(n:Int)-1+((0:Nat):Int)*(-1)=(n:Int)-1 by omega,show(n:Int)-((0:Nat):Int)=(n:Int) by omega];exact pG _ rfl
    have I3:z9 X J C T {U with heap:=g2.push {cls:=.type "range_iterator",data:=.fields #[rawInt<|(n:Int)-1,rawInt (n:Int),rawInt<|-1]}}:=l.kept (t':=U.toks) λb o e=>oi _ e;refine{_,[_],_,_,T,rfl,I3,WN _ n,st,λb hb=>?_,q};have e:b=g2.objs.size:=by simpa using hb
    subst e;exact l.Zj (Ap _)<|l.HT.fresh<|Ap _
def K6(ta:fE)(τ:jq)(L:qk)(R:_T->(qk->Prop)->qk->Prop):Prop:=ta τ L λvs L1=>match vs with
 |[.int i,.int j,.int k]=>∃n:Nat,i=(n:Int)-1/\j = -1/\k = -1/\n<=1000/\R (pI n) (λ_=>True) L1
 |_=>False
def WR{a b:Expr}{ta:fE}{p:Pos}(r:Gl X "range")(t:X.mg "range"=none)(C:QA X [a,b,c] ta)(hs:starEach [a,b,c] X.env=[(false,eval a X.env),(false,eval b X.env),(false,eval c X.env)]:=by rfl)(J:starEach [b,c] X.env=[(false,eval b X.env),(false,eval c X.env)]:=by rfl):
 QI X tg (.Call (.Name "range" p) [a,b,c] [] pos) (K6 ta):=PI.Ym (WQ r t C hs J) λσ H R T L R3 rs rl z k=>by
 refine{T,L,_,rs,rl,z,λvs H1 ys L1 t1 U g j=>?_};split at j
 .obtain⟨n,rfl,rfl,rfl,hn,z2⟩:=j;obtain⟨x,xs,rfl,rx,l⟩:=g;obtain⟨x',a0,rfl,o,I⟩:=xr.inv2 l;cases rx;cases o;cases I;exact{n,rfl,by omega,k _ H1 _ _ L1 t1 U (u5 n) z2}
 .exact j.elim
def WS(g:ju)(p1:ju)(p2:ju)(p3:ju)(p4:ju)(p5:ju)(p6:ju)(p7:ju)(p8:ju)(p9:ju)(p10:ju)(I:ju)(J:ju)(U:ju):cH:=(je (vv (jg g<|bv<|qh 0)<|qo 1)
 (je (vv (jg p1<|qt (jg p2<|qt (qh 0)<|rm (qh 1)<|gJ 60) x8)<|qo 2)
 (je (vv (jg p3<|bv<|qh 2)<|qo 3)
 (je (vv (k_ Hb<|qt (g_ 1 (bF<|gE 2 2) (qo 7) zF<|jg p4<|qt (jg p5<|rm (gE 2 0)<|gE 7 0) x8) x8)<|qo 4)
 (je (vv (jg p6<|bv<|qh 2)<|qo 5)
 (je (mI (K6<|qt (qh 4)<|qt (FJ FK<|gJ 1)<|qt (FJ FK<|gJ 1) x8) (qo 6) (je (cY (x_ (uG<|yB<|jg p9<|bv<|qh 5)<|uG<|yB<|jg p7<|qt (jg p8<|qt (jg p6<|bv<|qh 5) x8)<|bv<|qh 6) (cJ<|yC<|.bl false) a6)
 (je (cY (x_ (yB<|ku (F9 true) (jg I<|qt (jg p6<|bv<|qh 5) x8)<|yC<|.bl true)<|x_ (uG<|yB<|jg p10<|qt (qh 5)<|qt (ku mG (qh 1)<|qh 6) x8)<|z_ (jg p3<|bv<|qh 5)<|qh 3) (cJ<|yC<|.bl false) a6)
 (je (cY (z_ (ku (uQ false) (gE 5 2)<|gG x8)<|ku (uQ false) (qh 6)<|gJ 0) (cJ<|yC<|.bl false) a6)
 (cY (yB<|ku GY (qh 6)<|gJ 0) (vv (jg J<|qt (qh 5)<|qt (ku wF (jg U<|qt (qh 6)<|qt (ku wF (qh 1)<|gJ 1009)<|bv<|gJ 69621)<|k_ yU<|bv<|gE 5 2) x8)<|qo 5) a6)))))
 (cJ<|yC<|.bl true)))))))
def WT(I:ju)(p1:ju)(p2:ju)(p3:ju)(p4:ju)(p5:ju)(p6:ju)(p7:ju)(p8:ju):cH:=(je (cY (x_ (uG<|yB<|jg p3<|bv<|qh 5)<|uG<|yB<|jg I<|qt (jg p1<|qt (jg p2<|bv<|qh 5) x8)<|bv<|qh 6) (cJ<|yC<|.bl false) a6)
 (je (cY (x_ (yB<|ku (F9 true) (jg p6<|qt (jg p2<|bv<|qh 5) x8)<|yC<|.bl true)<|x_ (uG<|yB<|jg p5<|qt (qh 5)<|qt (ku mG (qh 1)<|qh 6) x8)<|z_ (jg p4<|bv<|qh 5)<|qh 3) (cJ<|yC<|.bl false) a6)
 (je (cY (z_ (ku (uQ false) (gE 5 2)<|gG x8)<|ku (uQ false) (qh 6)<|gJ 0) (cJ<|yC<|.bl false) a6)
 (cY (yB<|ku GY (qh 6)<|gJ 0) (vv (jg p7<|qt (qh 5)<|qt (ku wF (jg p8<|qt (qh 6)<|qt (ku wF (qh 1)<|gJ 1009)<|bv<|gJ 69621)<|k_ yU<|bv<|gE 5 2) x8)<|qo 5) a6))))
section
variable {A:XN}{x:X2}{k:Nat}{G:XS}
def WU(I:bG wd ct)(ex:ct[k]?=some x)(pm:fy.Perm<|ct.eraseIdx k++dR wd x):wy (GE wd x) (kj (GE wd x) fy) (GE wd x).length=wy wd (kj wd ct) wd.length:=by
 have o:=Ar ex;have mx:=jf o;rw[fe];unfold wy;refine Cv λr C=>?_;have C:=AM.mp C;unfold l9 cG;by_cases c:r=x.1\/r=x.2
 .have u:r∈kj wd ct:=Ae _ (by rcases c with rfl|rfl;exact mx.1;exact mx.2);rw[oF C,Ay c,AA u,Bool.not_true,ED];rfl
 .have n1:r≠x.1:=λz=>c<|.inl z;have n2:r≠x.2:=λz=>c<|.inr z;rw[ky n1 n2];congr 2;refine Ei.mpr {λh=>?_,λh=>?_}
  .rcases Ag.mp h with h|h
   .obtain⟨p,k,e,J⟩:=cW h;exact Am _<|kB (aI e).2.2 J
   .have h:=(k8 pm).mem_iff.mp h;rw[xq] at h;rcases Ag.mp h with h|h
    .obtain⟨c,hc,e⟩:=bB h;have:=jf<|List.mem_of_mem_eraseIdx hc;exact Ae _ (by rcases e with rfl|rfl;exact this.1;exact this.2)
    .rcases I.two o with⟨t,n,_,_,ei⟩|⟨e,i,j,i',j',U,g,ei⟩
     .rw[ei] at h;cases h
     .rw[ei] at h;refine Am _ ?_;rcases Ao.mp h with rfl|h
      .exact(ay U).1
      rcases Ao.mp h with rfl|h
      .exact(ay g).1
      rcases Ao.mp h with rfl|h
      .exact(ay U).2
      .cases Aj.mp h;exact(ay g).2
  .rcases Ag.mp h with h|h
   .obtain⟨p,kk,e,J⟩:=cW h;by_cases l:p=x.1\/p=x.2
    .refine Ae _<|(k8 pm).mem_iff.mpr ?_;rw[xq];refine Ae _ ?_;rcases I.two o with⟨t,n,U,g,ei⟩|⟨b,i,j,i',j',U,g,ei⟩
     .rcases l with rfl|rfl
      .rw[U] at e;cases e;cases J
      .rw[g] at e;cases e;cases J
     .rw[ei];rcases l with rfl|rfl
      .rw[U] at e;cases e;rcases Ao.mp J with rfl|J
       .simp[GM]
       .cases Aj.mp J;simp[GM]
      .rw[g] at e;cases e;rcases Ao.mp J with rfl|J
       .simp[GM]
       .cases Aj.mp J;simp[GM]
    .exact Am _ (kB (by rw[ky (λz=>l<|.inl z) λz=>l<|.inr z];exact e) J)
   .obtain⟨d,hd,e⟩:=bB h;refine Ae _<|(k8 pm).mem_iff.mpr ?_;rw[xq];have nd:d≠x:=λz=>c<|z▸e;obtain⟨j,T⟩:=Dx.mp hd;have:=jf (CG.mpr {j,λz=>nd (by rw[z,ex] at T;exact(AR T).symm),T});exact Am _ (by rcases e with rfl|rfl;exact this.1;exact this.2)
def aM.szd(M:aM wd ct A G){c:X2}{w:Wd}(h:KW (xx wd) c.1 w):c∈ct->2*w.size<=G.length:=by
 induction M with
 |nil=>exact nofun
 |cons m _ J=>
  intro I;rw[Ab];rcases Ao.mp I with rfl|I
  .have:=m.size h;lia
  .have:=J I;lia
def aM.dep(M:aM wd ct A G)(I:bG wd ct)(h:G.length<=241):∀c∈ct,∃w,KW (xx wd) c.1 w/\KW (xx wd) c.2 w.turn/\w.depth<=120:=λc J=>by obtain⟨w,U,g⟩:=I.cw c J;have:=M.szd U J;have:=Wd.Yv w;exact{w,U,g,by lia}
end
structure _M(wd:List<|Yh)(lk ct:XN)(m:Nat):Prop where
 ok:xP wd
 i:bG wd ct
 j:Zr wd lk
 ex:∃A G,aM wd ct A G/\G.length=m
theorem _M.step{k:Nat}{x:X2}(F:_M wd lk ct m)(ex:ct[k]?=some x)(st:tU wd lk x ir)(pm:fy.Perm<|ct.eraseIdx k++dR wd x)(U:fy.Pairwise gm):∃I,m=I+2/\_M (GE wd x) ir fy I:=by obtain⟨A,G,M,t⟩:=F.ex;obtain⟨g,J,l,o,_⟩:=M.step F.ok F.i ex pm;have r:=o.length_eq;rw[Av,Av] at r;exact{J.length,by lia,λp e i j h=>F.ok p e i j (aI h).2.2,F.i.step ex pm U,F.j.step F.i (Ar ex) st,g,J,l,rfl}
structure Wy(ends:XS)(wd:List<|Yh)(lk ct:XN)(m:Nat):Prop where
 fr:_M wd lk ct m
 th:qO wd
 rt:xL wd lk ct
 en:wy wd (kj wd ct) wd.length=ends
 ml:m<=241
section
variable {a c pe:Addr}{ends:XS}{s:Nat}{st:Int}{o0 o2:Option Y}
theorem WV(W:Wy ends wd lk ct m)(hm:m=2*(s-i))(hi:i<s+1)(I:L a=some (.lst<|xx wd))(J:L l=some (.lst<|qx lk))(hc:L c=some (.lst<|qx ct))(hp:L pe=some (.lst<|nY ends))
 (q:∀a' l' c' wd' ir fy m' o6 L',qg L L'->L' a'=some (.lst<|xx wd')->L' l'=some (.lst<|qx ir)->L' c'=some (.lst<|qx fy)->Wy ends wd' ir fy m'->m'=2*(s-(i+1))->En.nx [o0,some<|.int st,o2,some<|.ref pe,some<|.int (s:Int),some<|aY a' l' c',o6] L'):
 WT (ah 4) jD hU fN fw fS cX im eM En [o0,some<|.int st,o2,some<|.ref pe,some<|.int (s:Int),some<|aY a l c,some<|.int<|(s:Int)-(i:Int)] L:=by
 have F:=W.fr;have wl:=F.i.wl;have cl:=F.i.len;have ll:=F.j.ll;obtain⟨A,G,M,em⟩:=F.ex;have H:=wG W.th F.j F.i.there W.rt.ex;have hw:=M.dep F.i (by rw[em];exact W.ml);refine{a,l,c,_,_,_,rfl,I,J,hc,?_};refine{a,l,c,_,_,_,rfl,I,J,hc,λa2 l2 c2 L2 s2 _ _ _ _ _ _ v1 v2 p=>?_};refine{a2,l2,c2,wd,ct,A,G,rfl,v1,p,by lia,M,hw,λs' a1 L3 s3=>?_};obtain rfl:s'=(s:Int)-(i:Int):=by lia
 refine{_,_,rfl,.flat rfl,?_};have t:=s2.trans s3;have I:=t _ _ I;have J:=t _ _ J;have hc:=t _ _ hc;have hp:=t _ _ hp;refine{a,l,c,_,_,_,rfl,I,J,hc,λa4 l4 c4 L4 C _ _ _ _ _ _ v1 v2 p=>?_};refine{a4,l4,c4,wd,lk,ct,rfl,{v1,v2,p,by lia,by lia,by lia,H},λr hr=>?_};cases hr.mpr W.rt;have I:=C _ _ I;have J:=C _ _ J;have hc:=C _ _ hc;have hp:=C _ _ hp;refine{a,l,c,wd,lk,ct,_,rfl,I,J,hc,by lia,by lia,by lia,H,W.rt,λL5 T=>?_};have I:=T _ _ I;have J:=T _ _ J;have hc:=T _ _ hc;have hp:=T _ _ hp;refine{a,l,c,wd,ct,rfl,I,hc,by lia,by lia,λp6 h6=>?_};rw[W.en];have s6:=By (o:=.lst<|nY ends) h6;have dn:∀L,Paired (xh L 0) (nY ends) ((ends.map λn:Nat=>(n:Int)).map λx=>Da.s<|.int x):=λL=>by rw[Vv];exact qR _
 refine{rfl,rfl,1,1,_,_,by decide,bQ q9<|dn _,bQ (s6 _ _ hp)<|dn _,?_};refine aT (by show(!Da.eqs _ _)=false;rw[Vw];rfl) ?_;have I:=s6 _ _ I;have J:=s6 _ _ J;have hc:=s6 _ _ hc;have t6:=((t.trans C).trans T).trans s6;generalize qf L5 p6 (.lst<|nY ends)=L6 at I J hc t6 ⊢;intro p7 h7;have s7:=By (o:=.lst []) h7;have I:=s7 _ _ I;have J:=s7 _ _ J;have hc:=s7 _ _ hc;have t7:=t6.trans s7;refine iw (n:=1) (m:=0) (by decide) hc q9 (vR ct) .nil ?_;generalize qf L6 p7 (.lst [])=L7 at I J hc t7 ⊢;cases ct with
 |nil=>
  have m0:m=0:=by cases M;exact em.symm
  have e0:(s:Int)-(i:Int)=0:=by lia
  rw[e0];exact q a l c wd lk [] m _ L7 t7 I J hc W (by lia)
 |cons g U=>
  have gp:0<m:=by obtain⟨w,h1,_⟩:=F.i.cw g Ai;have:=M.szd h1 Ai;have:=w.size_pos;lia
  have ne:¬((s:Int)-(i:Int)=0):=by lia
  refine aT (b:=nb true<|decide<|Da.eqs ((g::U).map Kp) []=decide ((s:Int)-(i:Int)=0)) (by rw[AB ne];rfl) ?_;refine dW (b:=decide<|(s:Int)-(i:Int) > 0) (AA (by lia)) ?_;have lp:(0:Int)<((qx<|g::U).length:Int):=by rw[qx,Ah];exact Int.ofNat_lt.mpr<|Cf _
  have b1:=DG st (by decide:(1009:Int)≠0);have b2:=CM st (by decide:(0:Int)<1009);refine{(by decide:(0:Int)<1009),_,_,69621,rfl,b1,by lia,by decide,by decide,λv v0 _=>qb hc {lp,?_}};obtain⟨k,ek,hk⟩:∃k:Nat,v % ((qx<|g::U).length:Int)=(k:Int)/\k<(g::U).length:=by have h1:=DG v<|Int.ne_of_gt lp;have h2:=CM v lp;rw[qx,Ah] at h1 h2 ⊢;exact{(v % ((g::U).length:Int)).toNat,by lia,by lia}
  obtain⟨x,ex⟩:∃x,(g::U)[k]?=some x:={_,An hk};have hx:=Ar ex;refine{a,l,c,wd,lk,_,k,x,BU (λz=>[aY a l c,Y.int z]) ek,I,J,hc,F.i,F.j,ex,KY F.i.cu F.j W.rt hx,λir fy a' l' c' L8 t8 v1 v2 p a0 pm pw=>?_};obtain⟨m',em,F'⟩:=F.step ex a0 pm pw;exact q a' l' c' _ ir fy m' _ L8 (t7.trans t8) v1 v2 p {F',ld F.i W.th hx,W.rt.step F.i W.th F.j ex a0 pm pw,(WU F.i ex pm).trans W.en,by have:=W.ml;lia} (by lia)
end
theorem aha :_f (mw Pt YT) (WS mV i5 (iU Pt) fw (aG 120) (x6 120) hU (ah 4) jD fN fS cX im eM) 7:=by
 rintro ys L Q ⟨ns,rfl,al,hL,q⟩;have hP:L Pt=some (.tb YT):=by rw[hL];exact q9
 clear hL;refine{ns,rfl,λst=>?_};refine{ns,st,60,_,rfl,rfl,by lia,by decide,hP,λks R E U f a L1 s1 g1 T rn=>?_};obtain⟨F0,g0,n0,t0,z0⟩:=T.rule rn;have zw:=rn.len;have zk:=T.len;rw[Ah] at zw;obtain⟨m1,m2,m3,m4,m5,m6⟩:=g0.wb n0 (by lia) (by lia);refine{a,xx U,gy f R,rfl,g1,by lia,by lia,m3,m4,m5,m6,λa' l' c' lk ct L2 s2 _ _ _ _ _ _ r e2 C pl a0 pc a3=>?_};have W:=g0.grw n0 t0 (by lia) pl a0 pc;have I:=T.cutJ rn W pc a3 (by lia);have J:=W.j;have cl:=I.len;have wl:=I.wl;obtain⟨A,G,M⟩:=KL I.cw;have ok:=rn.gap.ok;have nG:=M.nodup ok I.pu I.Zu I.Y7;have gl:=wf U.length _ nG λy hy=>by obtain⟨p,hp,h⟩:=M.dn y hy;obtain⟨d,hd,e⟩:=bB hp;have:=I.lt hd;have:=h.le ok;rcases e with rfl|rfl<;>lia
 have hw:=M.dep I (by lia);refine{a',l',c',U,ct,rfl,r,C,by lia,by lia,λpe he=>?_};refine pW he λL3 s3 g3=>?_;have r:=s3 _ _ r;have e2:=s3 _ _ e2;have C:=s3 _ _ C;refine xl C λkeep kp=>KP M hw (by lia) (kp _ rfl) (λx w W X k d h=>?_) λbs hs p hp=>{rfl,qb q9<|qj (rK _) ?_}
 .exact{a',xx U,x.1,w,rfl,r,k,by lia,w,rfl,by lia,h}
 have s4:=By (o:=.lst<|bs.map Y.int) hp;have r:=s4 _ _ r;have e2:=s4 _ _ e2;have C:=s4 _ _ C;have g3:=s4 _ _ g3;generalize qf L3 p (.lst<|bs.map Y.int)=L4 at r e2 C g3 ⊢;generalize bs.sum=s at hs ⊢;obtain⟨s,rfl⟩:∃n:Nat,s=(n:Int):={s.toNat,by lia};refine{a',l',c',_,_,_,rfl,r,e2,C,λa2 l2 c2 L5 s5 _ _ _ _ _ _ v1 v2 v3=>?_};have g3:=s5 _ _ g3;refine{s+1,by lia,rfl,rfl,by lia,?_};have W0:Wy (wy U (kj U ct) U.length) U lk ct (2*s):={{ok,I,J,A,G,M,by lia},W.th,W.rt,rfl,by lia};refine w9 {λi τ L'=>∃o0 o2 a1 l1 c1 g ZP l m o6,τ=[o0,some<|.int st,o2,some<|.ref pe,some<|.int (s:Int),some<|aY a1 l1 c1,o6]/\qg L5 L'/\L' a1=some (.lst<|xx g)/\L' l1=some (.lst<|qx ZP)/\L' c1=some (.lst<|qx l)/\Wy (wy U (kj U ct) U.length) g ZP l m/\m=2*(s-i),{_,_,a2,l2,c2,U,lk,ct,_,_,rfl,EL _,v1,v2,v3,W0,rfl},λ_ _ _ _=>trivial,?_,?_}
 .rintro i y τ L' hy ⟨o0,o2,a1,l1,c1,g,ZP,l,m,o6,rfl,t,k1,k2,k3,W,hm⟩;unfold pI at hy;rw[Aq] at hy;obtain⟨j,ej,rfl⟩:=AE.mp hy;obtain⟨hi,e⟩:=AN.mp ej;rw[List.getElem_range] at e;subst e;rw[Bb] at hi;rw[show((s+1:Nat):Int)-1-(i:Int)=(s:Int)-(i:Int) by lia];exact WV W hm hi k1 k2 k3 (t _ _ g3) λa' l' c' a4 a5 ab m' o6 au t' r1 r2 r3 W' ac=>{_,EL _,_,_,a',l',c',a4,a5,ab,m',_,rfl,t.trans t',r1,r2,r3,W',ac}
 .rintro τ L' ⟨o0,o2,a1,l1,c1,g,ZP,l,m,o6,rfl,t,k1,k2,k3,W,hm⟩;exact xg<|q L'
end L2
end
set_option maxRecDepth 100000
set_option maxHeartbeats 8000000
namespace K52
open PySem L2
abbrev ng:Str:="_law_p"
abbrev nh:Str:="_law_script"
abbrev nj:Str:="_law_knots"
theorem WW{us:XQ}{n:Nat}(h:us.length=n+1):∃a r,us=a::r/\r.length=n:=by cases us with|nil=>cases h|cons a r=>exact{a,r,rfl,Nat.succ.inj h}
abbrev nk(K:PySem.W.Frag)(x:Str):=PySem.W.nsIn K mainGlobals x
structure DD(K:Ak):Prop where
 D3:zv K "is_leaf" rL
 D4:zv K "size_of" rB
 D5:zv K "word_at" rS
 D6:zv K "places_there" fB
 D7:zv K "parts_of" oY
 D8:zv K "eithers_of" iM
 D9:zv K "partner_of" iK
 D10:zv K "links_without" dt
 D11:zv K "cut_step" o4
 D12:zv K "steps_due" lU
 D13:zv K "boths_of" oH
 D14:zv K "part_edges" iJ
 D15:zv K "joins_of" nU
 D16:zv K "join_steps" sO
 D17:zv K "can_fold" zE
 D18:zv K "fold_steps" sm
 D19:zv K "steps_by" yP
 D20:zv K "all_come_together" bL
 D21:zv K "right_web" lF
 D22:zv K "_law_cell_at" fA
 D23:zv K "_law_stir" lB
 D24:zv K "_law_pick" lO
 D25:zv K "_law_mix" oW
 D26:zv K "_law_name" lH
 D27:zv K "_law_word" l7
 D28:zv K "_law_flip" lM
 D29:zv K "_law_weight" gT
 D30:zv K "_law_mirror" qF
 D31:zv K "_law_join" lZ
 D32:zv K "_law_fold" lT
 D33:zv K "_law_cut" yF
 D34:zv K "_law_tree" lV
 D35:zv K "_law_gather" gZ
 D36:zv K "_law_web" nV
 D37:zv K "_law_open" u7
 D39:zv K "_law_moved" iI
 D40:zv K "_law_gapped" gW
 D41:zv K "_law_reach" uO
 D42:zv K "_law_number" gR
 D43:zv K "_law_alike" ig
 D44:zv K "_law_copy" lK
 D45:zv K "_law_sown" kQ
 D46:zv K "_law_deep" kW
 D47:zv K "_law_grown" iV
 D48:zv K "_law_drawn" iz
 D49:zv K "_law_three" i3
 D50:zv K "law" vZ
structure B_(V:V_):Prop extends _R V,DD V.K where
 hp:∃h:X8,V.K.In h/\h.Ns mainGlobals V.mg
 D0:dg V.K V.Ca "__init__" "Pieces.__init__" gU
 D1:dg V.K V.Ca "head_of" "Pieces.head_of" cQ
 D2:dg V.K V.Ca "unite" "Pieces.unite" fD
 D38:Yn V.K "_law_order" SB V.Pt
 md:V.mg "Pieces"=some (.ref V.Ca)
 _u:YH V.K V.Ca
 _P:PySem.W.makesIn V.K V.Ca=true
 _Q:PySem.W.keepIn V.K (.ref V.Ca)=true
 xf:L2.ZR V.K V.Ca
local macro_rules|`(tactic| walk_at "s")=>`(tactic| exact{rfl,rfl,rfl,by decide +kernel,rfl,by decide +kernel,by decide +kernel})
local macro_rules|`(tactic| walk_at "l")=>`(tactic| (rintro _ _ _ h;cases h;subst_vars;rfl))
local macro_rules|`(tactic| walk_at "x")=>`(tactic| (intro _;walk_at "l"))
local macro_rules|`(tactic| walk_at "b")=>`(tactic| (intro _ _ _ _ _ _ us hl;(repeat (obtain⟨_,_,e,h⟩:=WW hl;clear hl;subst e;have hl:=h;clear h));cases List.eq_nil_of_length_eq_zero hl;rfl))
section
variable {f:Addr}{fd:FuncData}{x q:Str}{st:Stmt}{ps:XT}(V:V_)(k:Nat)(N:XT)
theorem W_{sp:ju}{t:cH}(F:ZQ V.K x q st f fd)(j:_f sp t N.length)(h:Fx V k N q st f t)(U:bN N ps (zb st):=by walk_at "s")(len:∀ys L Q,sp ys L Q->ys.length=ps.length:=by walk_at "l"):Zw V.P V.w V.K V.mg V.base (k+1) f fd ps sp:=
 Ry F U len λJ A I s H E g=>{t,h J A I s H E g U.nd<|Ix g,j}
theorem M_{sp:ju}{t:cH}(hp:∃h:X8,V.K.In h/\h.Ns mainGlobals V.mg)(D:zv V.K x st)(I:_f sp t N.length)(h:∀f,Fx V k N x st f t)(J:bN N ps (zb st):=by walk_at "s")(len:∀ys L Q,sp ys L Q->ys.length=ps.length:=by walk_at "l")(U:Ha x st ps:=by walk_at "b"):Q_ V (k+1) x ps sp:=by obtain⟨_,X,G⟩:=hp;obtain⟨f,fd,F,b,m⟩:=D.use X G U;exact Zs.of (W_ V k N F I (h f) J len) b F.kp m
theorem R_{sp:Nat->ju}{t:Nat->cH}(hp:∃h:X8,V.K.In h/\h.Ns mainGlobals V.mg)(D:zv V.K x st)(no:∀ys L Q,¬sp 0 ys L Q)(I:∀n ys L Q,sp (n+1) ys L Q->jz (t n) N.length ys L Q)(h:∀n f,Q_ V (n+k) x ps (sp n)->Fx V (n+k) N x st f (t n))(n:Nat)(J:bN N ps (zb st):=by walk_at "s")(len:∀n ys L Q,sp n ys L Q->ys.length=ps.length:=by walk_at "x")(U:Ha x st ps:=by walk_at "b"):Q_ V (n+k) x ps (sp n):=by
 obtain⟨_,X,G⟩:=hp;obtain⟨f,fd,F,b,m⟩:=D.use X G U
 induction n with|zero=>exact Zs.of (Zw.never no) b F.kp m|succ n g=>rw[Nat.add_right_comm];exact Zs.of (W_ V (n+k) N F (I n) (h n f g) J<|len _) b F.kp m
theorem T_{sp:ju}{t:cH}(hp:∃h:X8,V.K.In h/\h.Ns mainGlobals V.mg)(D:Yn V.K x st V.Pt)(U:_f sp t N.length)(h:∀f,∀(eH:X4) (A:Around) (outer:List Env) (s:X5) (H:Hp) (E:XK),EH V.K eH V.Pt->wx k (A.deeper<|PyProof.Rows.envOfC x (zb st) s.heap.objs.size f eH)->N.Nodup->(A.deeper<|PyProof.Rows.envOfC x (zb st) s.heap.objs.size f eH).units+128<cLine->zP (qJ Zg V.P V.w V.K V.mg V.base N x (zb st) f eH A outer s H E).Z0 (jw st) t)(I:bN N ps (zb st):=by walk_at "s")(len:∀ys L Q,sp ys L Q->ys.length=ps.length:=by walk_at "l")(g:Ha x st ps:=by walk_at "b"):Q_ V (k+1) x ps sp:=by obtain⟨_,X,G⟩:=hp;obtain⟨f,fd,F,b,m⟩:=D.use X G g;exact Zs.of (Uu F I len λeH A outer s H E C J=>{t,h f eH A outer s H E C J I.nd<|Ix J,U}) b F.kp m
end
section
variable {V:V_}(B:B_ V)
include B
theorem d1:_z V.P V.w V.K V.mg V.base 2 V.Ca ["self","count"] (ie V.Ca):=by obtain⟨f,fd,F,b,m⟩:=B.D0.use (ps:=["self","count"]) (by walk_at "b");exact{_,_,{(B._P),m.at_,m.fn,B._Q},{_,rfl,W_ V 0 ["self","count"] F (TL B.xf) λ_ _ _ _ _ _ I hN J=>(qd<|Sw (qv 0)<|nv rfl rfl B.bb rfl B.be<|qv 1)},b}
theorem d2:_n V.P V.w V.K V.mg V.base 1 V.Ca "head_of" ["self","place"] (iE V.Ca):=by obtain⟨f,fd,F,b,m⟩:=B.D1.use (ps:=["self","place"]) (by walk_at "b");exact{_,_,m,W_ V 0 ["self","place","here"] F (TM B.xf) λ_ _ _ _ _ _ J hN I=>(qa (S_ 2 hN<|qv 1)<|qa (eO pK (N_ I (I_ (kG<|qv 0)<|qv 2)<|qv 2)<|qa (fY (kG<|qv 0) (qv 2)<|I_ (kG<|qv 0)<|I_ (kG<|qv 0)<|qv 2)<|qd<|S_ 2 hN<|I_ (kG<|qv 0)<|qv 2)<|qd<|qr<|qv 2),b}
theorem d3:_n V.P V.w V.K V.mg V.base 2 V.Ca "unite" ["self","p","q"] (fH V.Ca):=by obtain⟨f,fd,F,b,m⟩:=B.D2.use (ps:=["self","p","q"]) (by walk_at "b");exact{_,_,m,W_ V 1 ["self","p","q","first","second"] F (TN B.xf) λ_ _ _ _ _ _ I hN J=>(qa (S_ 3 hN<|EG ((d2 B).mono (by decide)) I B._u (qv 0)<|jy<|qv 1)<|qa (S_ 4 hN<|EG ((d2 B).mono (by decide)) I B._u (qv 0)<|jy<|qv 2)<|qa (fY (kG<|qv 0) (qv 3)<|qv 4)<|qd<|qr<|aC (GW _ _ _ J) (qv 3) (qv 4)<|jt _),b}
theorem d4:Fw V (aD):=M_ V _ _ B.hp B.D3 yq<|(qN).2 V B.to_R ⟨⟩
theorem d5:Jk V (af 120):=R_ V _ _ B.hp B.D4 xW yb (λn=>(rG _ _).2 V B.to_R (d4 B) n) 120
theorem d6:Jl V (x6 120):=R_ V _ _ B.hp B.D5 oU yr (λn=>(sC _ _).2 V B.to_R (d4 B) n) 120
theorem d7:G8 V (eU):=M_ V _ _ B.hp B.D6 Ue<|(fP).2 V B.to_R ⟨⟩
theorem d8:G9 V (bX):=M_ V _ _ B.hp B.D7 Ud<|(oZ _).2 V B.to_R<|d4 B
theorem d9:Jm V (ip):=M_ V _ _ B.hp B.D8 Uf<|(hV).2 V B.to_R ⟨⟩
theorem _y:Jn V (dY):=M_ V _ _ B.hp B.D9 yw<|(iq).2 V B.to_R ⟨⟩
theorem WX:Jo V (mU):=M_ V _ _ B.hp B.D10 WL<|(K4 _).2 V B.to_R<|_y B
theorem WY:Sz V (im):=M_ V _ _ B.hp B.D11 WM<|(K5 _ _ _).2 V B.to_R {(d4 B),(WX B),(d8 B)}
theorem WZ:SA V (jD):=M_ V _ _ B.hp B.D12 alt<|(KO _ _).2 V B.to_R {(d5 B),(d6 B)}
theorem W1:Jp V (i0):=M_ V _ _ B.hp B.D13 Uh<|(pF _).2 V B.to_R<|d7 B
theorem W2:Jq V (fu):=M_ V _ _ B.hp B.D14 Uk<|(iW _).2 V B.to_R<|d8 B
theorem W3:Jr V (jC):=M_ V _ _ B.hp B.D15 Ul<|(o7 _ _).2 V B.to_R {(W2 B),(W1 B)}
theorem W4:SD V (f8 V.Ca):=M_ V 2 ["pieces","joins","steps","p","q"] B.hp B.D16 UV λ_ _ _ _ _ _ _ I hN J=>(qa (S_ 2 hN<|jm wz)<|qa (w5 pK rfl (vk<|qv 1) (ag rfl<|ze (G_ 3 hN)<|ze (G_ 4 hN) km)<|qd<|zr (v5<|EG ((d3 B).mono (by decide)) I B._u (qv 0)<|ki (qv 3)<|qv 4) (qd<|zf<|za (qv 2)<|jy<|zj<|bq jk (qv 3)<|qv 4) qw)<|qd<|qr<|qv 2)
theorem W5:SE V (jE V.Ca):=M_ V 2 ["pieces","knots","place","heads"] B.hp B.D17 UW λ_ _ _ _ _ _ _ I hN J=>(qa (ak ["part"] (i:=3) hN rfl (Or.inl rfl) (ES (by rfl)) rfl (vk<|C_ (d8 B) I<|jy<|I_ (qv 1)<|qv 2) (aw h_ (λ_ _ _ _=>Or.inl rfl) λ_ _ _ _=>rfl) (λ_ _ _ _=>gt) λ_ _ _ _=>(EG ((d2 B).mono (by decide)) I B._u (qv 0)<|jy<|qv 4))<|qd<|qr<|gq (aC (ga _ _ _ J) (J_ 3) (J_ 3)<|jt _)<|jQ<|aC (GW _ _ _ J) (J_ 3) (EG ((d2 B).mono (by decide)) I B._u (qv 0)<|jy<|qv 2)<|jt _)
theorem W6:SF V (fV V.Ca):=M_ V 3 ["pieces","knots","eithers","steps","before","place"] B.hp B.D18 acl λ_ _ _ _ _ _ _ I hN J=>(qa (S_ 3 hN<|jm wz)<|qa (S_ 4 hN<|GV GU qe)<|qa (eO pK (jv vQ (qv 4) (L_ B.ba<|qv 3)<|jt _)<|qa (S_ 4 hN<|L_ B.ba<|qv 3)<|qd<|w5 pK rfl (vk<|qv 2) (G_ 5 hN)<|qd<|zr (v5<|C_ (W5 B) I<|bq (qv 0) (qv 1)<|qv 5) (qa (zf<|EG ((d3 B).mono (by decide)) I B._u (qv 0)<|ki (qv 5)<|I_ (I_ (qv 1)<|qv 5) qe)<|qd<|zf<|za (qv 3)<|jy<|zj<|ki jk<|qv 5) qw)<|qd<|qr<|qv 3)
theorem W7:Js V (fW V.Ca):=M_ V 4 ["knots","joins","eithers","pieces"] B.hp B.D19 Vl λ_ _ _ _ _ _ _ I hN J=>(qa (S_ 3 hN<|Sy ((d1 B).mono (by decide)) I rfl B.md<|jy<|L_ B.ba<|qv 0)<|qd<|qr<|ql ja (C_ (W4 B) I<|ki (qv 3)<|qv 1)<|C_ (W6 B) I<|bq (qv 3) (qv 0)<|qv 2)
theorem W8:Jt V (mS):=M_ V _ _ B.hp B.D20 Vm<|(bJ _ _).2 V B.to_R {(d7 B),(W7 B)}
theorem W9:SG V (cX):=M_ V _ _ B.hp B.D21 Vo<|(lW _ _ _).2 V B.to_R {(W8 B),(d9 B),(W3 B)}
theorem Xa:Ju V (dO):=M_ V _ _ B.hp B.D22 yi<|(eV).2 V B.to_R ⟨⟩
theorem Xb:SH V (mV):=M_ V _ _ B.hp B.D23 Vy<|(kO).2 V B.to_R ⟨⟩
theorem Ht:F1 V (fc):=M_ V _ _ B.hp B.D24 Vz<|(lm).2 V B.to_R ⟨⟩
theorem Gb:G' V (eM):=M_ V _ _ B.hp B.D25 TQ<|(oB).2 V B.to_R ⟨⟩
theorem Xc:Jv V (iA):=M_ V _ _ B.hp B.D26 UF<|(wP).2 V B.to_R ⟨⟩
theorem Gc:Jw V (x6 120):=R_ V _ _ B.hp B.D27 uL vJ (λn=>(lG _).2 V B.to_R ⟨⟩ n) 120
theorem Hu:SI V (aO 120):=R_ V _ _ B.hp B.D28 TY TZ (λn=>(J3 _).2 V B.to_R ⟨⟩ n) 120
theorem Hv:Jx V (aG 120):=R_ V _ _ B.hp B.D29 oq TU (λn=>(gK _).2 V B.to_R ⟨⟩ n) 120
theorem K7:Jy V (w4 48):=R_ V 122 [nj,"_law_word_here","_law_left","_law_right","_law_turn","_law_same","_law_low","_law_high"] B.hp B.D30 Ub (Uc (FS:=aO 120) λ_ _ _ h=>h) (λ_ _ I _ _ _ _ _ _ J hN U=>(qa (zr (E_ U (L_ B.ba<|qv 1) qe) (qa (zf<|za (qv 0)<|jy<|C_ (Hu B) J<|jy<|qv 1)<|qa (zf<|za (qv 0)<|jy<|qv 1)<|qd<|qr<|jm<|bq (zj<|bq jk (ql cD (L_ B.ba<|qv 0) qe)<|ql cD (L_ B.ba<|qv 0) qe) (ql cD (L_ B.ba<|qv 0) qe)<|ql cD (L_ B.ba<|qv 0) qe) qw)<|qa (S_ 2 hN<|C_ I J<|ki (qv 0)<|J_ 1)<|qa (S_ 3 hN<|C_ I J<|ki (qv 0)<|J_ 1)<|qa (zf<|za (qv 0)<|jy<|zj<|bq (I_ (C_ (Hu B) J<|jy<|qv 1) qe) (J_ 2)<|J_ 3)<|qa (zf<|za (qv 0)<|jy<|zj<|bq (J_ 1) (J_ 2)<|J_ 3)<|qa (IT (i:=4) (j:=5) rfl hN rfl rfl (by decide) rfl rfl (ki (ql cD (L_ B.ba<|qv 0) qe)<|ql cD (L_ B.ba<|qv 0) qe) rfl)<|qa (S_ 6 hN<|iy (E_ U (J_ 1) jk) (qv 4)<|qv 5)<|qa (S_ 7 hN<|iy (E_ U (J_ 1) jk) (qv 5)<|qv 4)<|qd<|qr<|jm<|bq (zj<|bq jk (qv 7)<|zj<|vg jk<|bq (qv 6) (J_ 2)<|J_ 3) (qv 4)<|qv 5)) 48
theorem Xd:Jz V (nL):=M_ V _ _ B.hp B.D31 UI<|(Kd).2 V B.to_R ⟨⟩
theorem Xe:JA V (iD):=M_ V _ _ B.hp B.D32 UJ<|(Ke).2 V B.to_R ⟨⟩
theorem Xf:JB V (nJ):=M_ V 170 [nj,"_law_forest","_law_one","_law_two","_law_first",ng,"_law_word_here","_law_second","_law_q","_law_at","_law_end","_law_rule","_law_same","_law_ends"] B.hp B.D33 (UP (FS:=aO 120) (MS:=w4 48) (λ_ _ _ h=>h)<|Wl (by decide) (by decide)) λ_ _ _ _ _ _ _ I hN J=>(qa (S_ 4 hN<|cL (qv 1)<|jy<|ql js (qv 3)<|L_ B.ba<|qv 1)<|qa (dh (i:=5) hN rfl (Or.inr rfl)<|I_ (J_ 4)<|ql js (ql wm (qv 3) qe)<|L_ B.ba<|J_ 4)<|qa (S_ 6 hN<|C_ (Gc B) I<|ki (qv 0)<|qv 5)<|qa (jL (zj<|ki jZ jZ)<|ag rfl<|ze (G_ 7 hN)<|ze (dP (i:=8) hN rfl<|Or.inr rfl) km)<|qa (w5 pK rfl (aJ rfl B.be<|jy<|L_ B.ba<|qv 1) (G_ 9 hN)<|qd<|w5 pK rfl (vk<|I_ (I_ (qv 1)<|qv 9) qe) (G_ 10 hN)<|qd<|zr (bK<|bn (oO<|qv 7)<|aS<|E_ J (C_ (Gc B) I<|ki (qv 0)<|qv 10)<|C_ (Hu B) I<|jy<|qv 6) (qd<|jL (zj<|ki (I_ (qv 1)<|qv 9)<|qv 10)<|ag rfl<|ze (G_ 7 hN)<|ze (dP (i:=8) hN rfl<|Or.inr rfl) km) qw)<|qa (zr (bK<|bn (oO<|qv 7)<|aS<|jv zM (C_ (Hv B) I<|jy<|qv 6) qe<|jt _) (qa (zf<|za (qv 1)<|jy<|qv 4)<|qd IS) qw)<|ke (zr (oO<|qv 7) (qa (jL (C_ (K7 B) I<|ki (qv 0)<|qv 6)<|JR rfl<|ze (G_ 11 hN)<|ze (dP (i:=8) hN rfl<|Or.inr rfl)<|ze (G_ 12 hN) km)<|qd<|S_ 7 hN<|jm<|ki (qv 11)<|jm<|ki (qv 8)<|qv 12)<|qd<|zf<|S2 J (qv 1)<|jy<|qv 7)<|qa (ak ["_law_x"] (i:=13) hN rfl (Or.inl rfl) (ES (by rfl)) rfl (vk<|ql ja (J_ 4)<|J_ 7) (aw h_ (λ_ _ _ _=>Or.inl rfl) λ_ _ _ _=>rfl) (λ_ _ _ _=>bU<|jv (tE _ _ _) (qv 14) (zj<|ki (qv 5)<|qv 8) (by with_unfolding_all rfl)) λ_ _ _ _=>(qv 14))<|qd<|zr (E_ J (ql js (qv 2) qe) qe) (qd<|zf<|za (qv 1)<|jy<|jm<|ki (zj<|vg jk<|vg (qv 5)<|bq (qv 8) (J_ 4)<|J_ 7)<|qv 13)<|qd<|zf<|za (qv 1)<|jy<|jm<|ki (zj<|vg jk<|vg (qv 8)<|bq (qv 5) (J_ 7)<|J_ 4)<|qv 13)
theorem Xg:JC V (i8):=M_ V _ _ B.hp B.D34 Vr<|(zZ _ _ _ _ _).2 V B.to_R {(Gb B),(Xc B),(Xe B),(Xd B),(Xf B)}
theorem Xh:JD V (ae 120):=R_ V _ _ B.hp B.D35 VP VT (λn=>(gL _).2 V B.to_R ⟨⟩ n) 120
theorem K8:JE V (i5):=M_ V _ _ B.hp B.D36 VU<|(Kx _).2 V B.to_R<|Xh B
theorem Hw:JF V (fw):=M_ V 0 ["_law_web_here",nj,"_law_links","_law_cuts","_law_taken","_law_knot",ng,"_law_q"] B.hp B.D37 VW λ_ _ _ _ _ _ _ J hN I=>(qa (jL (qv 0)<|ag rfl<|ze (dP (i:=1) hN rfl<|Or.inr rfl)<|ze (G_ 2 hN)<|ze (G_ 3 hN) km)<|qa (dh (i:=4) hN rfl (Or.inr rfl) Ji)<|qa (w5 pK rfl (vk<|qv 1) (G_ 5 hN)<|qd<|zr (bK<|bn (da<|qv 5)<|aS<|E_ I (L_ B.ba<|qv 5) qe) (qa (hW I (qv 4) (J_ 5) ar)<|qd<|hW I (qv 4) (J_ 5) ar) qw)<|qa (w5 pK rfl (vk<|qv 3) (ag rfl<|ze (G_ 6 hN)<|ze (G_ 7 hN) km)<|qa (hW I (qv 4) (qv 6) ar)<|qd<|hW I (qv 4) (qv 7) ar)<|qd<|mY "_law_p'"<|qr<|gN [ng] (ES (by rfl)) rfl (aJ rfl B.be<|jy<|L_ B.ba<|qv 1) (aw h_ (λ_ _ _ _=>Or.inl rfl) λ_ _ _ _=>rfl) (λ_ _ _ _=>bU<|bK<|bn (da<|I_ (qv 1)<|qv 8)<|aS<|jv (VG I) (qv 8) (qv 4) (by with_unfolding_all rfl)) λ_ _ _ _=>(qv 8))
theorem Xi:JG V (f7 V.Pt):=T_ V 1 [nj,"_law_seed","_law_ranks",ng,"_law_knot","_law_rank"] B.hp B.D38 VL λ_ _ _ _ _ _ _ C I hN J=>(qa (dh (i:=2) hN rfl (Or.inr rfl)<|jm wz)<|qa (w5 pK rfl (dJ rfl B.bg<|qv 0) (ag rfl<|ze (G_ 3 hN)<|ze (G_ 4 hN) km)<|qa (S_ 5 hN<|ql js (C_ (Gb B) I<|bq (qv 1) (qv 3) qe) qe)<|ke (zr (E_ J (L_ B.ba<|qv 4) qe) (qd<|S_ 5 hN<|ql ja (ql ja (qv 5) qe)<|ko GS rfl B.bi yz<|ki (I_ (qv 2)<|J_ 4)<|I_ (qv 2)<|J_ 4) qw)<|qd<|zf<|za (qv 2)<|jy<|qv 5)<|qd<|qr<|Ut rfl B.bh (nv rfl rfl B.bb rfl B.be<|L_ B.ba<|qv 0) {rfl,rfl,rfl,by decide +kernel,rfl,rfl,by decide,by decide,by decide} C (UB I) rfl rfl rfl {_,rfl,rfl} rfl λ_ _ _ _ _ _ _=>rfl)
theorem Xj:JH V (bV 120):=R_ V _ _ B.hp B.D39 VM Wi (λn=>(ug _).2 V B.to_R ⟨⟩ n) 120
theorem Xk:JI V (mN V.Pt):=M_ V _ _ B.hp B.D40 VY<|(Kz _ _ _).2 V B.to_R {(Ht B),(Xi B),(Xj B)}
theorem Xl:JJ V (i7):=M_ V 0 ["_law_many","_law_edges","_law_start","_law_near",ng,"_law_q","_law_seen","_law_todo"] B.hp B.D41 WA λ_ _ _ _ _ _ _ J hN I=>(qa (mY "_law_p'"<|ak [ng] (i:=3) h_ rfl (Or.inl rfl) (ES (by rfl)) rfl (aJ rfl B.be<|jy<|qv 0) (aw h_ (λ_ _ _ _=>Or.inl rfl) λ_ _ _ _=>rfl) (λ_ _ _ _=>gt) λ_ _ _ _=>(jm wz))<|qa (w5 pK rfl (vk<|qv 1) (ag rfl<|ze (G_ 4 hN)<|ze (G_ 5 hN) km)<|qa (zf<|za (I_ (qv 3)<|qv 4)<|jy<|qv 5)<|qd<|zf<|za (I_ (qv 3)<|qv 5)<|jy<|qv 4)<|qa (mY "_law_p'"<|dh (i:=6) h_ rfl (Or.inr rfl)<|gN [ng] (ES (by rfl)) rfl (aJ rfl B.be<|jy<|qv 0) (aw h_ (λ_ _ _ _=>Or.inl rfl) λ_ _ _ _=>rfl) (λ_ _ _ _=>gt) λ_ _ _ _=>(aC (ga _ _ _ I) (qv 8) (qv 2)<|jt _))<|qa (S_ 7 hN<|jm<|jy<|qv 2)<|qa (eO pK (N_ I (qv 7)<|jm wz)<|qd<|w5 pK rfl (vk<|I_ (qv 3)<|RF<|qv 7) (G_ 5 hN)<|qd<|zr (dM<|v5<|I_ (qv 6)<|qv 5) (qa (fY (qv 6) (qv 5) ar)<|qd<|zf<|za (qv 7)<|jy<|qv 5) qw)<|qd<|mY "_law_p'"<|qr<|gN [ng] (ES (by rfl)) rfl (aJ rfl B.be<|jy<|qv 0) (aw h_ (λ_ _ _ _=>Or.inl rfl) λ_ _ _ _=>rfl) (λ_ _ _ _=>bU<|v5<|I_ (qv 6)<|qv 8) λ_ _ _ _=>(qv 8))
theorem Xm:JK V (fq):=M_ V _ _ B.hp B.D42 Wj<|(gb).2 V B.to_R ⟨⟩
theorem Xn:SJ V (ah 4):=R_ V _ _ B.hp B.D43 Wh Wk (λn=>(wQ _ _).2 V B.to_R (Xm B) n) 4
theorem Hx:SK V (hU):=M_ V _ _ B.hp B.D44 Vu<|(lC).2 V B.to_R ⟨⟩
theorem Xo:JL V (mZ):=M_ V _ _ B.hp B.D45 WI<|(wR _ _ _).2 V B.to_R {(Ht B),(Xg B),(Xa B)}
theorem Xp:JM V (ix):=M_ V _ _ B.hp B.D46 WJ<|(ut _ _ _ _ _).2 V B.to_R {(Hw B),(K8 B),(Gc B),(Hv B),(K7 B)}
theorem Xq:SM V (iU V.Pt):=M_ V _ _ B.hp B.D47 Wm<|(hZ _ _ _ _).2 V B.to_R {(Xo B),(Ht B),(Xp B),(Xk B)}
theorem Xr:SN V (fS):=M_ V _ _ B.hp B.D48 WD<|(zX _ _).2 V B.to_R {(Gb B),(Xl B)}
theorem Xs:SO V (fN):=M_ V _ _ B.hp B.D49 WK<|(K3).2 V B.to_R ⟨⟩
theorem dL{f:Addr}{fd:FuncData}(F:ZQ V.K "law" "law" vZ f fd):Zw V.P V.w V.K V.mg V.base 175 f fd [nh] (mw V.Pt YT):=
 W_ V 174 [nh,"_law_stir_here","_law_web_here","_law_ends","_law_due","_law_now","_law_left"] F aha λ_ _ _ _ _ _ I hN J=>(qa (S_ 1 hN<|C_ (Xb B) I<|jy<|qv 0)<|qa (dh (i:=2) hN rfl (Or.inr rfl)<|C_ (K8 B) I<|jy<|C_ (Xq B) I<|bq (qv 0) (qv 1) qe)<|qa (S_ 3 hN<|C_ (Hw B) I<|jy<|qv 2)<|qa (S_ 4 hN<|ko JO rfl B.bj JP<|jy<|gN ["_law_cut_here"] (ES (by rfl)) rfl (vk<|J_ 2) (aw h_ (λ_ _ _ _=>Or.inl rfl) λ_ _ _ _=>rfl) (λ_ _ _ _=>gt) λ_ _ _ _=>(C_ (Hv B) I<|jy<|C_ (Gc B) I<|ki (J_ 2)<|J_ 7))<|qa (S_ 5 hN<|C_ (Hx B) I<|jy<|qv 2)<|qa (w5 pK rfl (WR rfl B.be<|bq (qv 4) (GV GU qe)<|GV GU qe) (G_ 6 hN)<|qa (zr (bK<|rR (dM<|v5<|C_ (Xs B) I<|jy<|qv 5)<|oE<|dM<|v5<|C_ (Xn B) I<|ki (C_ (WZ B) I<|jy<|C_ (Hx B) I<|jy<|qv 5)<|qv 6) (qd<|qr ar) qw)<|qa (zr (bK<|rR (jv VC (C_ (W9 B) I<|jy<|C_ (Hx B) I<|jy<|qv 5) ar<|jt _)<|rR (dM<|v5<|C_ (Xr B) I<|ki (qv 5)<|ql ja (qv 1)<|qv 6)<|oE<|N_ J (C_ (Hw B) I<|jy<|qv 5)<|qv 3) (qd<|qr ar) qw)<|qa (zr (N_ J (aC (ga _ _ _ J) (J_ 5) (jm wz)<|jt _)<|aC (ga _ _ _ J) (qv 6) qe<|jt _) (qd<|qr ar) qw)<|qd<|zr (jv zM (qv 6) qe<|jt _) (qd<|S_ 5 hN<|C_ (WY B) I<|ki (qv 5)<|ql js (C_ (Gb B) I<|bq (qv 6) (ql js (qv 1) qe) qe)<|L_ B.ba<|J_ 5) qw)<|qd<|qr ar)
end
theorem all_mk{l:PySem.W.OpenLaw}{w:X7}{K:Ak}{h:X8}{mg:XM}{fa:Addr}{I:Addr}{g:Option Addr}{j:Nat}{o:Array<|XY}{J U:Tok}{p:Addr}{Pt:Addr}(X:K.In h)(G:h.Ns mainGlobals mg)(r:mg "law"=some (.ref fa))
 (D0:dg K p "__init__" "Pieces.__init__" gU)
 (D1:dg K p "head_of" "Pieces.head_of" cQ)
 (D2:dg K p "unite" "Pieces.unite" fD)
 (D:DD K)
 (D38:Yn K "_law_order" SB Pt)
 (zA1:nk K "LEAF_KINDS"=some (some<|.ref I))
 (zA2:K.lookup I=some ⟨.type "tuple",g,.seq #[.str "plain" J,.str "turned" U] j,o⟩)
 (zA6:nk K "Pieces"=some (some<|.ref p))
 (zA7:YH K p)
 (_P:PySem.W.makesIn K p=true)
 (_Q:PySem.W.keepIn K (.ref p)=true)
 (xf:L2.ZR K p)
 (zlist:nk K "list"=some none)
 (zrange:nk K "range"=some none)
 (zenumerate:nk K "enumerate"=some none)
 (zmax:nk K "max"=some none)
 (zmin:nk K "min"=some none)
 (zsorted:nk K "sorted"=some none)
 (zlen:nk K "len"=some none)
 (zzip:nk K "zip"=some none)
 (zsum:nk K "sum"=some none)
 (zisinstance:nk K "isinstance"=some none)
 (ztuple:nk K "tuple"=some none)
 (zint:nk K "int"=some none)
 (zbool:nk K "bool"=some none)
 (zstr:nk K "str"=some none):
 ∃fd:FuncData,(∀(s:X5) (v:X4),BindsTo s fd ⟨[v],[]⟩ [(nh,v)])/\∀base:X8,K.In base->base.Ns mainGlobals mg->bp l.prog w K mg base Zg 175 fa fd [nh] (YR YT K Pt):=by
 obtain⟨fL,kV,t,pm,an,C,T,aL,FL⟩:=D.D50.ex;have e:=r.symm.trans<|C6 X G aL;cases e;refine{PySem.W.fnOf "law" "law" (vd vZ) (jw vZ) (zb vZ) .none kV t pm an C T,λs v=>.of_eq rfl,λbase _ _=>?_};have B:B_ ⟨l.prog,w,K,mg,base,Pt,p⟩:={{Bu X G zlist,Bu X G zrange,Bu X G zenumerate,Bu X G zmax,Bu X G zmin,Bu X G zsorted,Bu X G zlen,Bu X G zzip,Bu X G zsum,Bu X G zisinstance,Bu X G ztuple,Bu X G zint,Bu X G zbool,Bu X G zstr,{I,C6 X G zA1,λH=>{I,[V.str "plain",V.str "turned"],rfl,.inr {_,_,_,zA2,rfl,rfl,by show 2<=sizeLine;decide,.cons {_,rfl}<|.cons {_,rfl}<|.nil},{_,_,rfl,rfl,{_,_,rfl,rfl,rfl}}}}},D,{(h),X,G},D0,D1,D2,D38,C6 X G zA6,zA7,_P,_Q,xf};exact bp.imp (dL B FL) λvs H Q E q=>Uv q
theorem Z3{K:Ak}{x:Str}{st:Stmt}{f Pt:Addr}{oc:X4}{od an:Option Addr}{mR:Array<|XY}{kV gn pm eH ct:X4}(a:nk K x=some (some<|.ref f))
 (l:K.lookup f=some ⟨oc,od,.func<|PySem.W.fnOf x x (vd st) (jw st) (zb st) .none kV gn pm an eH ct,mR⟩) (c:PySem.W.codeIn K eH x=true) (k:PySem.W.keepIn K (.ref f)=true) (C:EH K eH Pt):Yn K x st Pt:=
 ⟨f,kV,gn,pm,an,eH,ct,a,⟨⟨oc,od,kV,gn,pm,an,eH,ct,mR,rfl,l,c,C⟩,k⟩⟩
end K52
namespace H52
noncomputable section
open PySem PySem.W PySem.W.X L2 PyProof.Rows
abbrev rr:=PySem.Challenge.rw_oncewise_k52_right_stays_right
abbrev p:X6:=PySem.Challenge.pw_oncewise_k52_right_stays_right
abbrev top:=L2.top
abbrev EQ(i k:Nat):Stmt:=(mz<|top i).getD k<|.Pass {0,0,0,0}
abbrev s(x:X9):Str:=Str.ofString x
noncomputable abbrev S (x:X9) (t:Tok):X4:=.str (Str.ofString x) t
noncomputable abbrev I (i:Int) (t:Tok):X4:=.int i t
noncomputable abbrev R (a:Addr):X4:=.ref a
abbrev E(P:Params)(k:X9)(t:Tok)(v:X4):DictEntry:={PyData.keyHash P<|Str.ofString k,.str (Str.ofString k) t,v}
noncomputable abbrev O (c:X4) (d:Data):Obj:={c,none,d,#[]}
abbrev FN(n q:X9)(st:Stmt)(I kV gn pm:X4)(an:Option Addr)(cd ct:X4):FuncData:=fnOf (Str.ofString n) (Str.ofString q) (vd st) (jw st) (zb st) I kV gn pm an cd ct
abbrev FG(n q:X9)(st:Stmt):FuncData:={fnOf (Str.ofString n) (Str.ofString q) (vd st) (jw st) (zb st) .none .none .none .none none .none .none with globals:=0}
abbrev lt(l:List (Int×Nat)):Array Value:=(l.flatMap λx=>[I x.1 0,I 0 0,R x.2]).toArray
abbrev tu(l:XR):Params->Obj:=λ_=>O (.type "tuple")<|.seq l 0
abbrev tn(k:Nat)(l:List String):Params->Obj:=tu ((l.zipIdx k).map λx=>S x.1 x.2).toArray
abbrev fo(f:FuncData):Params->Obj:=λ_=>O (.type "function")<|.func f
abbrev go(f:FuncData):Params->Obj:=λ_=>O .none<|.func f
abbrev co(n q:X9)(t l a b c J v:Nat)(o:Bool)(m k:Nat)(x y z u:X4)(d:Nat):Params->Obj:=λ_=>O (.type "code")<|.fields #[S n t,S q<|t+1,S "/claim/cut.py"<|t+2,I l 0,I a 0,I b 0,I c 0,I J 0,R v,.bool o,I m 0,R k,x,y,z,u,I d 0,I l 0,S "/claim/cut.py"<|d+1]
abbrev iF:X4:=S "law_oncewise_k52_right_stays_right" 438
abbrev t_:X4:=S "oncewise.shrinking" 361
abbrev Ge:X4:=S "oncewise.webs" 242
abbrev Gf:X4:=S "oncewise.cutting" 272
abbrev K9:X4:=S "oncewise.words" 223
abbrev fX(n:X9)(i:Nat)(m:X4)(r:Nat):Params->Obj:=fo<|FN n n (top i) .none .none .none m none (R r) .none
abbrev gX(n:X9)(i:Nat):Params->Obj:=go<|FG n n<|top i
abbrev cF(n:X9)(t l a v d:Nat):Params->Obj:=co n n t l a 0 0 3 v true 181 (v+1) .none (R<|v+2) (R<|v+3) (R<|v+4) d
abbrev cC(n:X9)(t l v d:Nat):Params->Obj:=co n n t l 0 0 0 0 v false 181 (v+1) .none .none .none .none d
abbrev cS(n:X9)(a I k t v:Nat):Params->Obj:=λ_=>{.type "type",none,.cls<|ClassData.mk (s n) [R 24] [R a,R 24,.type "ValueError",.type "Exception",.type "BaseException",.type "object"] I (s n) true [] [] false none false,#[some<|R k,none,some<|S n t,some<|S n v,some<|.builtin "ValueError.__new__",some<|.bool true]}
abbrev dA(P:Params)(a b:Nat)(l:Int)(c d r e:Nat):Obj:=O (.type "dict")<|.dict #[E P "__module__" a<|S "oncewise.errors" 187,E P "__firstlineno__" b<|I l c,E P "__static_attributes__" d<|R r,E P "__doc__" e .none] 2
abbrev dB(P:Params)(a q:Nat)(n:X9)(J b:Nat)(l:Int)(c d r:Nat):Obj:=O (.type "dict")<|.dict #[E P "__module__" a<|S "oncewise.errors" 187,E P "__qualname__" q<|S n J,E P "__firstlineno__" b<|I l c,E P "__static_attributes__" d<|R r] 4
abbrev fR(a b:Nat):Params->Obj:=λ_=>{.type "frame",none,.plain,#[some<|R a,some<|R 3,some<|R b,none,some<|S "oncewise.errors" 187,none,some<|R 0]}
abbrev bI(a:Nat):Params->Obj:=λ_=>O (.type "builtin_function_or_method")<|.fields #[.builtin "object.__init_subclass__",R a]
abbrev sU(a:Nat):Params->Obj:=λ_=>O (.type "super")<|.fields #[R a,R a,R a]
abbrev Ob:=Params->Obj
def ev{α:Type}:Bool->List α->List α
 |_,[]=>[]
 |true,x::r=>x::ev false r
 |false,_::r=>ev true r
def bt:Nat->List Obj->BT
 |0,_=>.nil
 |_,[]=>.nil
 |n+1,x::r=>.node x (bt n<|ev true r)<|bt n<|ev false r
def Y6:Env:={scope:=p.main.scope,locals:=mainNs,globals:=mainNs,cells:=[],code:=.ref 13,frame:=some 14}
abbrev cE:Code:=.body (behindTheImports p) Y6
abbrev q0:Pos:={0,0,0,0}
abbrev an:XY:=some<|.ref 6
abbrev Pc(n:Nat)(S I:X7->OsState->SharedT)(l:XW)(q J:Pos)(w:X7):Prop:=(λos=>segRunT treeTable p w 11 an 1 n (S w os)<|piecesOf l Y6 cE q [topFrame q0])=λos=>some (Flow.next,I w os,cE,J)
abbrev b0:=PySem.W.boot_o_0
abbrev b1:=PySem.W.boot_o_1
abbrev b2:=PySem.W.boot_o_2
abbrev b3:=PySem.W.boot_o_3
abbrev b4:=PySem.W.boot_o_4
abbrev b5:=PySem.W.boot_o_5
abbrev b6:=PySem.W.boot_o_6
abbrev b7:=PySem.W.boot_o_7
abbrev b8:=PySem.W.boot_o_8
abbrev b9:=PySem.W.boot_o_9
abbrev Gg:=PySem.W.boot_o_10
def xw:=tu #[]
def a7:Ob:=λ_=>O .none<|.fields #[]
def Gh:=cC "<module>" 182 1 11 185
def Hy:Ob:=λ_=>{(.type "frame"),none,.plain,#[(some<|R 13),(some<|R 3),(some<|R 3),none,(some<|S "__main__" 164),none,(some<|R 0)]}
def K_:Ob:=λP=>O (.type "dict")<|.dict #[(E P "__module__" 196<|S "oncewise.errors" 187),(E P "__firstlineno__" 200<|I 2 199),(E P "__static_attributes__" 201<|R 22),(E P "__weakref__" 203<|R 25),(E P "__doc__" 204 .none)] 3
def K':Ob:=λ_=>O (.type "getset_descriptor")<|.fields #[S "__weakref__" 202,R 24,(.builtin "ExceptionGroup.__weakref__"),.none]
def Hz:Ob:=λ_=>O (.type "builtin_function_or_method")<|.fields #[(.builtin "type.__prepare__"),(.type "type")]
def La:=fX "is_leaf" 5 K9 46
def Lb:=co "places_there" "places_there" 253 20 1 0 0 3 62 true 181 63 .none .none .none (R 64) 256
def Lc:=fX "parts_of" 10 Ge 72
def Ld:=cS "NoCut" 37 36 28 207 215
def Le:=cF "size_of" 235 10 1 48 239
def Lf:=fX "word_at" 8 Ge 60
def Lg:Ob:=λ_=>{(.type "type"),none,(.cls<|ClassData.mk (s "OnceError") [(.type "ValueError")] [R 24,(.type "ValueError"),(.type "Exception"),(.type "BaseException"),(.type "object")] 23 (s "OnceError") true [] [R 37] false none false),#[(some<|R 15),none,(some<|S "OnceError" 189),(some<|S "OnceError" 197),(some<|.builtin "ValueError.__new__"),(some<|.bool true)]}
def Lh:=tn 225 ["plain","turned"]
def Li:=cF "parts_of" 259 22 1 67 263
def Lj:Ob:=λP=>dA P 214 218 4 217 219 35 220
def Lk:=cF "word_at" 244 15 2 55 250
def Ll:=fX "places_there" 9 Ge 65
def Lm:=fX "size_of" 6 K9 53
def Ln:=cF "is_leaf" 228 8 1 41 232
def Lo:=fX "cut_step" 15 Gf 96
def Lp:=co "links_without" "links_without" 284 36 3 0 0 3 86 true 181 87 .none .none .none (R 88) 287
def Lq:=co "steps_due" "steps_due" 304 55 1 0 0 3 98 true 181 99 .none .none .none (R 100) 307
def Lr:=fX "partner_of" 13 Gf 84
def Ls:=co "eithers_of" "eithers_of" 266 26 1 0 0 3 74 true 181 75 .none .none .none (R 76) 269
def Lu:=cF "cut_step" 290 43 2 91 301
def Lv:=cF "partner_of" 274 29 2 79 281
def Lw:=fX "links_without" 14 Gf 89
def Lx:=fX "steps_due" 16 Gf 101
def Ly:=fX "eithers_of" 11 Ge 77
def Lz:Ob:=λ_=>O (.type "getset_descriptor")<|.fields #[S "__weakref__" 356,R 133,(.builtin "ExceptionGroup.__weakref__"),.none]
def LA:=fX "part_edges" 21 t_ 146
def LB:=co "__init__" "Pieces.__init__" 324 60 2 0 0 3 110 true 181 111 .none (R 112) (R 113) (R 114) 329
def LC:=fo<|FN "head_of" "Pieces.head_of" (EQ 18 1) .none .none .none (S "oncewise.pieces" 310) none (R 122) .none
def LD:=co "unite" "Pieces.unite" 341 70 3 0 0 3 124 true 181 125 .none (R 126) (R 127) (R 128) 349
def LG:=cF "joins_of" 375 83 1 148 379
def LH:Ob:=λ_=>{(.type "type"),none,(.cls<|ClassData.mk (s "Pieces") [(.type "object")] [R 133,(.type "object")] 132 (s "Pieces") true [] [] false none false),#[none,none,(some<|S "Pieces" 312),(some<|S "Pieces" 320),(some<|.builtin "object.__new__"),(some<|.bool true)]}
def LI:=co "boths_of" "boths_of" 363 76 1 0 0 3 138 true 181 139 .none .none .none (R 140) 366
def LJ:Ob:=λP=>O (.type "dict")<|.dict #[(E P "__module__" 319<|S "oncewise.pieces" 310),(E P "__firstlineno__" 323<|I 58 322),(E P "__init__" 331<|R 116),(E P "head_of" 340<|R 123),(E P "unite" 351<|R 130),(E P "__static_attributes__" 353<|R 131),(E P "__dict__" 355<|R 134),(E P "__weakref__" 357<|R 135),(E P "__doc__" 358 .none)] 4
def LK:=fo<|FN "__init__" "Pieces.__init__" (EQ 18 0) .none .none .none (S "oncewise.pieces" 310) none (R 115) .none
def LL:=fo<|FN "unite" "Pieces.unite" (EQ 18 2) .none .none .none (S "oncewise.pieces" 310) none (R 129) .none
def LM:=co "part_edges" "part_edges" 369 78 2 0 0 3 143 true 181 144 .none .none .none (R 145) 372
def LN:=fX "joins_of" 22 t_ 153
def LP:=co "head_of" "Pieces.head_of" 332 63 2 0 0 3 117 true 181 118 .none (R 119) (R 120) (R 121) 338
def LQ:Ob:=λ_=>O (.type "getset_descriptor")<|.fields #[S "__dict__" 354,R 133,(.builtin "function.__dict__"),(.builtin "function.__dict__#set")]
def LR:=fX "boths_of" 20 t_ 141
def LS:=cF "_law_stir" 448 117 1 202 455
def LU:=fX "_law_pick" 32 iF 214
def LV:=fX "_law_name" 34 iF 226
def LW:=cF "steps_by" 411 104 3 174 418
def LX:=fX "all_come_together" 27 t_ 186
def LY:=cF "right_web" 431 110 1 188 435
def LZ:=fX "join_steps" 23 t_ 160
def L9:=fX "_law_cell_at" 30 iF 200
def Ma:=cF "_law_word" 481 135 2 228 487
def Mb:=co "can_fold" "can_fold" 393 91 3 0 0 3 162 true 181 163 .none .none .none (R 164) 396
def Mc:=fX "fold_steps" 25 t_ 172
def Md:=cF "_law_mix" 466 124 3 216 472
def Me:=cF "join_steps" 382 85 2 155 390
def Mf:=fX "_law_stir" 31 iF 207
def Mg:=cF "_law_cell_at" 440 113 2 195 445
def Mh:=fX "steps_by" 26 t_ 179
def Mi:=cF "fold_steps" 399 94 3 167 408
def Mj:=fX "right_web" 28 t_ 193
def Ml:=co "_law_name" "_law_name" 475 126 2 0 0 3 223 true 181 224 .none .none .none (R 225) 478
def Mm:=fX "_law_word" 35 iF 233
def Mn:=cF "all_come_together" 421 107 3 181 428
def Mo:=fX "can_fold" 24 t_ 165
def Mp:=cF "_law_pick" 458 122 2 209 463
def Mq:=fX "_law_mix" 33 iF 221
def Mr:=fX "_law_mirror" 38 iF 254
def Ms:=co "_law_cut" "_law_cut" 537 178 4 0 0 3 268 true 181 269 .none .none .none (R 270) 540
def Mt:=fX "_law_tree" 42 iF 278
def Mu:=cF "_law_weight" 498 145 1 242 502
def Mv:=co "_law_join" "_law_join" 519 162 4 0 0 3 256 true 181 257 .none .none .none (R 258) 522
def Mw:=fX "_law_fold" 40 iF 266
def Mx:=fX "_law_order" 46 iF 304
def My:=fX "_law_flip" 36 iF 240
def Mz:=co "_law_open" "_law_open" 579 242 1 0 0 3 294 true 181 295 .none .none .none (R 296) 582
def MA:=fX "_law_web" 44 iF 292
def MB:=co "_law_moved" "_law_moved" 597 261 2 0 0 3 306 true 181 307 .none .none .none (R 308) 600
def MC:=cF "_law_gather" 560 229 3 280 567
def MD:=fX "_law_cut" 41 iF 271
def HA:=cF "_law_order" 585 253 2 299 594
def ME:=cF "_law_flip" 490 140 1 235 495
def MF:=fX "_law_weight" 37 iF 247
def MG:=fX "_law_join" 39 iF 259
def MJ:=cF "_law_web" 570 237 1 287 576
def MK:=cF "_law_fold" 525 170 4 261 534
def MN:=fX "_law_open" 45 iF 297
def MO:=cF "_law_tree" 543 200 3 273 557
def MQ:=fX "_law_moved" 47 iF 309
def MT:=fX "_law_gather" 43 iF 285
def MU:=cF "_law_mirror" 505 149 2 249 516
def MV:Ob:=λP=>O (.type "dict")<|.dict #[(E P "__name__" 165<|S "law_oncewise_k52_right_stays_right" 438),(E P "__doc__" 166 .none),(E P "__package__" 167 .none),(E P "__loader__" 168<|.builtin "__main__.__loader__#opaque"),(E P "__spec__" 169 .none),(E P "__annotations__" 170<|R 6),(E P "__builtins__" 171<|R 4),(E P "__file__" 173<|S "/claim/cut.py" 172),(E P "__cached__" 174 .none),(E P "OnceError" 206<|R 24),(E P "NoCut" 222<|R 37),(E P "LEAF_KINDS" 227<|R 40),(E P "is_leaf" 234<|R 47),(E P "size_of" 241<|R 54),(E P "word_at" 252<|R 61),(E P "places_there" 258<|R 66),(E P "parts_of" 265<|R 73),(E P "eithers_of" 271<|R 78),(E P "partner_of" 283<|R 85),(E P "links_without" 289<|R 90),(E P "cut_step" 303<|R 97),(E P "steps_due" 309<|R 102),(E P "Pieces" 360<|R 133),(E P "boths_of" 368<|R 142),(E P "part_edges" 374<|R 147),(E P "joins_of" 381<|R 154),(E P "join_steps" 392<|R 161),(E P "can_fold" 398<|R 166),(E P "fold_steps" 410<|R 173),(E P "steps_by" 420<|R 180),(E P "all_come_together" 430<|R 187),(E P "right_web" 437<|R 194),(E P "_law_cell_at" 447<|R 201),(E P "_law_stir" 457<|R 208),(E P "_law_pick" 465<|R 215),(E P "_law_mix" 474<|R 222),(E P "_law_name" 480<|R 227),(E P "_law_word" 489<|R 234),(E P "_law_flip" 497<|R 241),(E P "_law_weight" 504<|R 248),(E P "_law_mirror" 518<|R 255),(E P "_law_join" 524<|R 260),(E P "_law_fold" 536<|R 267),(E P "_law_cut" 542<|R 272),(E P "_law_tree" 559<|R 279),(E P "_law_gather" 569<|R 286),(E P "_law_web" 578<|R 293),(E P "_law_open" 584<|R 298),(E P "_law_order" 596<|R 305),(E P "_law_moved" 602<|R 310),(E P "_law_gapped" 618<|R 317),(E P "_law_reach" 624<|R 322),(E P "_law_number" 631<|R 329),(E P "_law_alike" 640<|R 336),(E P "_law_copy" 647<|R 343),(E P "_law_sown" 657<|R 350),(E P "_law_deep" 672<|R 357),(E P "_law_grown" 682<|R 364),(E P "_law_drawn" 688<|R 369),(E P "_law_three" 695<|R 376),(E P "law" 701<|R 381)] 61
def MW:=cF "_law_alike" 632 297 2 330 638
def MX:=fX "_law_copy" 52 iF 342
def MY:=cF "_law_three" 689 352 1 370 693
def MZ:=cF "_law_grown" 673 332 3 358 680
def M6:=co "_law_reach" "_law_reach" 619 282 3 0 0 3 318 true 181 319 .none .none .none (R 320) 622
def M7:=fX "_law_drawn" 56 iF 368
def M8:=fX "_law_number" 50 iF 328
def M9:=fX "_law_deep" 54 iF 356
def Na:=cF "_law_sown" 648 316 3 344 655
def Nb:=fX "_law_gapped" 48 iF 316
def Nc:=fX "law" 58 iF 380
def Nd:=fX "_law_alike" 51 iF 335
def Nf:=co "_law_drawn" "_law_drawn" 683 339 2 0 0 3 365 true 181 366 .none .none .none (R 367) 686
def Ng:=cF "_law_number" 625 295 1 323 629
def Nh:=fX "_law_three" 57 iF 375
def Ni:=cF "_law_deep" 658 321 2 351 670
def Nj:=fX "_law_grown" 55 iF 363
def Nk:=cF "_law_gapped" 603 267 2 311 616
def Nl:=co "law" "law" 696 356 1 0 0 3 377 true 181 378 .none .none .none (R 379) 699
def Nm:=fX "_law_reach" 49 iF 321
def Nn:=cF "_law_copy" 641 314 1 337 645
def No:=fX "_law_sown" 53 iF 349
def awx:List Ob:=[b0,b1,b2,b3,b4,b5,b6,b7,b8,b9,Gg,xw,a7,Gh,Hy]
def at0:List Ob:=[b0,b1,b2,MV,b4,b5,b6,b7,b8,b9,Gg,xw,λ_=>O .none<|.fields<|lt [(2,20),(4,33),(8,46),(10,53),(15,60),(20,65),(22,72),(26,77),(29,84),(36,89),(43,96),(55,101),(58,108),(76,141),(78,146),(83,153),(85,160),(91,165),(94,172),(104,179),(107,186),(110,193),(113,200),(117,207),(122,214),(124,221),(126,226),(135,233),(140,240),(145,247),(149,254),(162,259),(170,266),(178,271),(200,278),(229,285),(237,292),(242,297),(253,304),(261,309),(267,316),(282,321),(295,328),(297,335),(314,342),(316,349),(321,356),(332,363),(339,368),(352,375),(356,380)],Gh,Hy,tu #[(.type "ValueError")],Hz,λP=>dB P 196 198 "OnceError" 197 200 2 199 201 22,xw,a7,cC "OnceError" 191 2 18 194,fR 20 17,xw,K_,Lg,K',sU 24,bI 24,tu #[R 24],Hz,λP=>dB P 214 216 "NoCut" 215 218 4 217 219 35,xw,a7,cC "NoCut" 209 4 31 212,fR 33 30,xw,Lj,Ld,sU 37,bI 37,Lh,xw,a7,tn 231 ["word"],xw,gX "is_leaf" 5,Ln,La,xw,a7,tn 238 ["word"],xw,gX "size_of" 6,Le,Lm,xw,a7,tn 247 ["knots","place","knot"],xw,gX "word_at" 8,Lk,Lf,xw,a7,gX "places_there" 9,Lb,Ll,xw,a7,tn 262 ["knot"],xw,gX "parts_of" 10,Li,Lc,xw,a7,gX "eithers_of" 11,Ls,Ly,xw,a7,tn 277 ["links","place","p","q"],xw,gX "partner_of" 13,Lv,Lr,xw,a7,gX "links_without" 14,Lp,Lw,xw,a7,tn 293 ["web","k","cuts","knots","p","q","links","inner"],xw,gX "cut_step" 15,Lu,Lo,xw,a7,gX "steps_due" 16,Lq,Lx,xw,Hz,λP=>O (.type "dict")<|.dict #[(E P "__module__" 319<|S "oncewise.pieces" 310),(E P "__qualname__" 321<|S "Pieces" 320),(E P "__firstlineno__" 323<|I 58 322),(E P "__init__" 331<|R 116),(E P "head_of" 340<|R 123),(E P "unite" 351<|R 130),(E P "__static_attributes__" 353<|R 131)] 7,xw,λ_=>O .none<|.fields #[I 60 0,I 4 0,R 115,I 63 0,I 4 0,R 122,I 70 0,I 4 0,R 129],cC "Pieces" 314 58 106 317,λ_=>{(.type "frame"),none,.plain,#[(some<|R 108),(some<|R 3),(some<|R 105),none,(some<|S "oncewise.pieces" 310),none,(some<|R 0)]},xw,a7,tn 327 ["self","count"],xw,go<|FG "__init__" "Pieces.__init__"<|EQ 18 0,LB,LK,xw,a7,tn 335 ["self","place","here"],xw,go<|FG "head_of" "Pieces.head_of"<|EQ 18 1,LP,LC,xw,a7,tn 344 ["self","p","q","first","second"],xw,go<|FG "unite" "Pieces.unite"<|EQ 18 2,LD,LL,tn 352 ["heads"],LJ,LH,LQ,Lz,sU 133,bI 133,xw,a7,gX "boths_of" 20,LI,LR,xw,a7,gX "part_edges" 21,LM,LA,xw,a7,tn 378 ["web"],xw,gX "joins_of" 22,LG,LN,xw,a7,tn 385 ["pieces","joins","steps","p","q"],xw,gX "join_steps" 23,Me,LZ,xw,a7,gX "can_fold" 24,Mb,Mo,xw,a7,tn 402 ["pieces","knots","eithers","steps","before","place"],xw,gX "fold_steps" 25,Mi,Mc,xw,a7,tn 414 ["knots","joins","eithers","pieces"],xw,gX "steps_by" 26,LW,Mh,xw,a7,tn 424 ["knots","joins","eithers","due"],xw,gX "all_come_together" 27,Mn,LX,xw,a7,tn 434 ["web"],xw,gX "right_web" 28,LY,Mj,xw,a7,tn 443 ["_law_script","_law_k"],xw,gX "_law_cell_at" 30,Mg,L9,xw,a7,tn 451 ["_law_script","_law_total","_law_k","_law_cell"],xw,gX "_law_stir" 31,LS,Mf,xw,a7,tn 461 ["_law_stir_here","_law_factor"],xw,gX "_law_pick" 32,Mp,LU,xw,a7,tn 469 ["_law_cell","_law_k","_law_factor"],xw,gX "_law_mix" 33,Md,Mq,xw,a7,gX "_law_name" 34,Ml,LV,xw,a7,tn 484 ["_law_knots","_law_p","_law_knot"],xw,gX "_law_word" 35,Ma,Mm,xw,a7,tn 493 ["_law_word_here","_law_sides"],xw,gX "_law_flip" 36,ME,My,xw,a7,tn 501 ["_law_word_here"],xw,gX "_law_weight" 37,Mu,MF,xw,a7,tn 508 ["_law_knots","_law_word_here","_law_left","_law_right","_law_turn","_law_same","_law_low","_law_high"],xw,gX "_law_mirror" 38,MU,Mr,xw,a7,gX "_law_join" 39,Mv,MG,xw,a7,tn 528 ["_law_knots","_law_tree_here","_law_one","_law_two","_law_left","_law_right"],xw,gX "_law_fold" 40,MK,Mw,xw,a7,gX "_law_cut" 41,Ms,MD,xw,a7,tn 546 ["_law_cells","_law_seed","_law_room","_law_knots","_law_forest","_law_k","_law_cell","_law_one","_law_two","_law_deed","_law_at"],xw,gX "_law_tree" 42,MO,Mt,xw,a7,tn 563 ["_law_rule","_law_links","_law_cuts","_law_arm"],xw,gX "_law_gather" 43,MC,MT,xw,a7,tn 573 ["_law_tree_here","_law_links","_law_cuts"],xw,gX "_law_web" 44,MJ,MA,xw,a7,gX "_law_open" 45,Mz,MN,xw,a7,tn 588 ["_law_knots","_law_seed","_law_p","_law_knot","_law_rank"],tn 593 ["_law_ranks"],gX "_law_order" 46,HA,Mx,xw,a7,gX "_law_moved" 47,MB,MQ,xw,a7,tn 606 ["_law_tree_here","_law_stir_here","_law_number_here","_law_gap","_law_offset","_law_at","_law_made","_law_k","_law_p","_law_knot"],xw,gX "_law_gapped" 48,Nk,Nb,xw,a7,gX "_law_reach" 49,M6,Nm,xw,a7,tn 628 ["_law_x"],xw,gX "_law_number" 50,Ng,M8,xw,a7,tn 635 ["_law_found","_law_due","_law_k"],xw,gX "_law_alike" 51,MW,Nd,xw,a7,tn 644 ["_law_web_here"],xw,gX "_law_copy" 52,Nn,MX,xw,a7,tn 651 ["_law_script","_law_stir_here","_law_wide","_law_room"],xw,gX "_law_sown" 53,Na,No,xw,a7,tn 661 ["_law_tree_here","_law_number_here","_law_knots","_law_ends","_law_p","_law_word_here","_law_rule","_law_q","_law_same"],xw,gX "_law_deep" 54,Ni,M9,xw,a7,tn 676 ["_law_script","_law_stir_here","_law_wide","_law_tree_here"],xw,gX "_law_grown" 55,MZ,Nj,xw,a7,gX "_law_drawn" 56,Nf,M7,xw,a7,tn 692 ["_law_web_here"],xw,gX "_law_three" 57,MY,Nh,xw,a7,gX "law" 58,Nl,Nc]
def aym:List Ob:=[b0,b1,b2,b3,b4,b5,b6,b7,b8,b9,Gg,xw,a7,Gh,Hy]
def ayc:List Ob:=at0
def Xu(P:Params):X8:={{awx.map (· P)},{}}
def Gi(P:Params):X8:={{at0.map (· P)},{}}
def Xv(P:Params):BT:=bt 20 (aym.map (· P))
def Xw(P:Params):BT:=bt 20 (ayc.map (· P))
def sA(w:X7)(os:OsState):X5:={Xu w.params,#[],{},187,os}
def sZ(w:X7)(os:OsState):X5:={Gi w.params,#[],{},702,os}
def _x(w:X7)(os:OsState):SharedT:={Xv w.params,15,{},#[],{},187,os}
def Np(w:X7)(os:OsState):SharedT:={Xw w.params,382,{},#[],{},702,os}
def HB:XW:=((behindTheImports p).drop 0).take 59
theorem Xx(w:X7):(λos=>topGo treeTable p w 11 an 12 {boot_heap w.params,#[],boot_drawn,boot_toks,os}<|topStub p)=λos=>some (sA w os,{denote treeTable cE,cE,{0,0,0,0},[topFrame q0]}):=by kernel_rfl
theorem Xy(w:X7):(λos=>segRun treeTable p w 11 an 1 1 (sA w os)<|blockOf (behindTheImports p) Y6 cE {0,0,0,0} [topFrame q0])=λos=>some (.next,(_x w os).abs,cE,{0,0,0,0}):=by kernel_rfl
theorem Xz:∀w,Pc 2212 _x Np HB ⟨0,0,0,0⟩ ⟨356,0,371,15⟩ w:=λw=>by kernel_rfl
theorem XA(w:X7):(λos=>topRun treeTable p w 11 an 2 (Np w os).abs {doneF .next,cE,{356,0,371,15},[topFrame q0]})=λos=>some (sZ w os):=by kernel_rfl
theorem XB:HB++([])=behindTheImports p:=by kernel_rfl
theorem XC(w:X7)(os:OsState):topRun treeTable p w 11 an (12+(1+(2212+(2)))) ⟨boot_heap w.params,#[],boot_drawn,boot_toks,os⟩ (topStub p)=some (sZ w os):=by have h:=(piece_app (l:=HB) (rest:=[]) (segRun_of<|Em (Xz w) os)<|piece_nil (env:=Y6)<|Em (XA w) os);rw[XB] at h;exact go_top (Em (Xx w) os)<|piece_block (Em (Xy w) os) h
def Z2:XS:=[0,1,2,3,4,5,6,7,8,9,10,13,23,24,25,36,37,40,46,47,53,54,60,61,65,66,72,73,77,78,84,85,89,90,96,97,101,102,115,116,122,123,129,130,132,133,134,135,141,142,146,147,153,154,160,161,165,166,172,173,179,180,186,187,193,194,200,201,207,208,214,215,221,222,226,227,233,234,240,241,247,248,254,255,259,260,266,267,271,272,278,279,285,286,292,293,297,298,300,304,305,309,310,316,317,321,322,328,329,335,336,342,343,349,350,356,357,363,364,368,369,375,376,380,381]
def vw:X6:={p with main:={p.main with body:=[top 1,top 2,top 4,top 5,top 6,top 8,top 9,top 10,top 11,top 13,top 14,top 15,top 16,top 18,top 20,top 21,top 22,top 23,top 24,top 25,top 26,top 27,top 28,top 30,top 31,top 32,top 33,top 34,top 35,top 36,top 37,top 38,top 39,top 40,top 41,top 42,top 43,top 44,top 45,top 46,top 47,top 48,top 49,top 50,top 51,top 52,top 53,top 54,top 55,top 56,top 57,top 58]}}
local macro_rules|`(%[$a:num,$b|$p])=>`([(nat_lit $a,$b $p)])|`(%[$a:num,$b,$c,*|$p])=>`((nat_lit $a,$b $p)::%[$c,*|$p])
def K0:Params->Frag:=λP=>%[0,b0,1,b1,2,b2,3,MV,4,b4,5,b5,6,b6,7,b7,8,b8,9,b9,10,Gg,13,Gh,23,K_,24,Lg,25,K',36,Lj,37,Ld,40,Lh,46,Ln,47,La,53,Le,54,Lm,60,Lk,61,Lf,65,Lb,66,Ll,72,Li,73,Lc,77,Ls,78,Ly,84,Lv,85,Lr,89,Lp,90,Lw,96,Lu,97,Lo,101,Lq,102,Lx,115,LB,116,LK,122,LP,123,LC,129,LD,130,LL,132,LJ,133,LH,134,LQ,135,Lz,141,LI,142,LR,146,LM,147,LA,153,LG,154,LN,160,Me,161,LZ,165,Mb,166,Mo,172,Mi,173,Mc,179,LW,180,Mh,186,Mn,187,LX,193,LY,194,Mj,200,Mg,201,L9,207,LS,208,Mf,214,Mp,215,LU,221,Md,222,Mq,226,Ml,227,LV,233,Ma,234,Mm,240,ME,241,My,247,Mu,248,MF,254,MU,255,Mr,259,Mv,260,MG,266,MK,267,Mw,271,Ms,272,MD,278,MO,279,Mt,285,MC,286,MT,292,MJ,293,MA,297,Mz,298,MN,300,a7,304,HA,305,Mx,309,MB,310,MQ,316,Nk,317,Nb,321,M6,322,Nm,328,Ng,329,M8,335,MW,336,Nd,342,Nn,343,MX,349,Na,350,No,356,Ni,357,M9,363,MZ,364,Nj,368,Nf,369,M7,375,MY,376,Nh,380,Nl,381,Nc|P]
abbrev ZN:Nat:=304
abbrev Zq:Nat:=300
abbrev _L:Ob:=HA
abbrev ls:XT:=[]
abbrev Xt:X5->Bool:=λs=>xlAt vw [] s&&recOk (RowW.records rr.row.toRowW) s
theorem XD(w:X7):((boot_heap w.params).isNs mainGlobals&&(#[]:Array GenState).size==0,(boot_heap w.params).objs.size,(boot_heap w.params).nsMap mainGlobals "__annotations__")=(true,11,an):=by kernel_rfl
theorem XE:opening p=plainProg p.main.scope.names:=by kernel_rfl
theorem XF(s:X5):fenceModules? p s=some s:=by kernel_rfl
theorem ZP(w:X7):(λos=>(staticsOk (importedModules p.main.body) (boot_heap w.params) (Gi w.params)&&namesBound p (Gi w.params)&&gensDone (sZ w os)&&laidKept (boot_heap w.params) (Gi w.params)))=λ_=>true:=by kernel_rfl
theorem XG(w:X7):(λos=>openSeen vw ls (importedModules p.main.body) Xt true<|sZ w os)=λ_=>openGood vw ls:=by kernel_rfl
theorem XH(w:X7):(λos=>obsZ Z2<|sZ w os)=λ_=>valZ K0 382 702 w:=by kernel_rfl
theorem _K:LeftO p vw ls Xt (obsZ Z2) (valZ K0 382 702) 4536:=LeftO.of_pieces (boot_open XE rfl XF) XD XC rfl λw=>funext λos=>looks_pair (Em (ZP w) os)<|looks_pair (Em (XG w) os)<|Em (XH w) os
end
end H52
open PySem PySem.W PyProof.Rows
set_option maxRecDepth 100000 in
set_option maxHeartbeats 0 in
theorem PySem.Challenge.cw_oncewise_k52_right_stays_right_holds : PySem.Challenge.rw_oncewise_k52_right_stays_right.Holds := by
 w_on;refine holds_law (by unfold OpenLaw.wellSaid OpenRow.wellSaid OpenRow.partSaid looksOpen;walk_at "y";walk_at "y";walk_at "y";walk_at "y";walk_at "y";walk_at "y";all_goals decide +kernel) λJ=>?_
 refine holds_openX (q:=H52.vw) (loose:=H52.ls) (Xt:=H52.Xt) (XP:=XL H52.vw []) (Yf:=PySem.W.X.obsZ H52.Z2) (Ya:=PySem.W.X.valZ H52.K0 382 702) (N:=4536) H52._K (λs e=>xl_of s (Bool.and_eq_true_iff.mp e).1)
  XL.keeps (by rfl) (by rfl) (by rfl) (λs e=>recFacts_of (Bool.and_eq_true_iff.mp e).2)
  (by rfl) (by decide +kernel) (by decide +kernel) ⟨rfl,rfl,rfl,rfl,rfl,by decide +kernel⟩ ?hw ?hc
 case hw=>w_witness2
 k_fill
 refine L2.Zi (l:=PySem.Challenge.rw_oncewise_k52_right_stays_right) (n:=63) (k:=175) (x:="_law_script") (CX:=L2.Zg) (sp:=L2.YR L2.YT) rfl (by decide) rfl {rfl,by decide,by decide} (λ_=>rfl) (by decide) ?F ?S ?C
 case F=>
  intro w r t h g G I;have T:(H52.K0 w.params).lookup H52.Zq=some (PySem.W.tabObj #[]):=by k_is
  have U:(H52.K0 w.params).lookup H52.ZN=some (H52._L w.params):=by k_is
  have hd:∀h:X8,h.get? H52.ZN=some (H52._L w.params)->PySem.W.CodeHd h H52.ZN H52.Zq:=λh e=>{_,_,_,_,_,_,_,_,_,e,rfl,rfl,rfl,rfl,rfl,rfl,rfl,rfl,by decide};have j:(H52.K0 w.params).lookup 4=some (PySem.W.boot_o_4 w.params):=by k_is
  have o:L2.Yn (L2.GT H52.Zq<|H52.K0 w.params) "_law_order" L2.SB H52.Zq:=by
   refine' K52.Z3 (L2.YF T ?a) (L2.YQ T ?l ?n) (L2.YU T ?c) (L2.YB T ?k) ?LC
   (case a=>k_is);(case l=>k_is);(case n=>(intro e;cases e));(case c=>k_is);(case k=>k_is)
   refine'{{H52.ZN,_,rfl,L2.YQ T U ?m,hd},{4,_,L2.YF T ?b,by decide,by decide,L2.YQ T j ?p,rfl,rfl,rfl}}
   (case m=>(intro e;cases e));(case b=>k_is);(case p=>(intro e;cases e))
  refine{H52.Zq,{T,{H52.ZN,λh X=>hd h<|X _ _ U},by decide},?_};refine' K52.all_mk (K:=L2.GT H52.Zq<|H52.K0 w.params) (L2.Zx g) G I ?D0 ?D1 ?D2 ?D ?D38 ?zA1 ?zA2 ?zA6 ?zA7 ?zA4 ?zA5 ?xf ?zlist ?zrange ?zenumerate ?zmax ?zmin ?zsorted ?zlen ?zzip ?zsum ?zisinstance ?ztuple ?zint ?zbool ?zstr
  (case zA6=>(refine' L2.YF T ?_;k_is))
  (case D0|D1|D2=>refine' L2.ZX ((L2.Yd T).trans ?a) (L2.YQ T ?l ?n) (L2.YU T ?c) (L2.YB T ?k)<|L2.ZY T ?i;(case a=>k_is);(case l=>k_is);(case n=>(intro e;cases e));(case c=>k_is);(case k=>k_is);(case i=>k_is))
  (case D=>(constructor<;>(refine' L2.Z7 (L2.YF T ?a) (L2.YQ T ?l ?n) (L2.YU T ?c)<|L2.YB T ?k;(case a=>k_is);(case l=>k_is);(case n=>(intro e;cases e));(case c=>k_is);(case k=>k_is))))
  (case D38=>exact o)
  (case zA1=>(refine' L2.YF T ?_;k_is))
  (case zA2=>(refine' L2.YQ T ?x ?n;(case x=>k_is);(case n=>(intro e;cases e))))
  (case zA7=>refine' L2.YH.dn T ?_;refine' L2.YH.mk ?pg ?hd ?po ?sa;(case pg=>k_is);(case hd=>k_is);(case po=>k_is);(case sa=>k_is))
  (case zA4=>(refine' L2.Zv T ?_;k_is))
  (case zA5=>(refine' L2.YB T ?_;k_is))
  (case xf=>(refine' L2.ZR.dn T ?_;(refine' L2.ZR.mk ?cl ?na;(case cl=>(refine' L2.YH.mk ?pg ?hd ?po ?sa;(case pg=>k_is);(case hd=>k_is);(case po=>k_is);(case sa=>k_is)));(case na=>(unfold L2.P3;k_is)))))
  (case zlist|zrange|zenumerate|zmax|zmin|zsorted|zlen|zzip|zsum|zisinstance|ztuple|zint|zbool|zstr=>(refine' L2.YF T ?_;k_is))
 case S=>exact L2.Y3
 case C=>exactλ_ _ _ _ z=>z
#print axioms PySem.Challenge.cw_oncewise_k52_right_stays_right_holds
