import PyProof.Rows.All
import KE.KDictOf
import KE.KFromBytes
import KE.KLam
import KE.KRevSl
import KE.KSortTup
import KE.KTryMore
import KE.LcSums
import OpenK.ZHead
import PySem.Challenge.RW_oncewise_k17_spoilt_knots_and_cuts
set_option genSizeOf false
set_option genInjectivity false
set_option bootstrap.genMatcherCode false
set_option compiler.extract_closed false
set_option hygiene false
local macro_rules|`(tactic| walk_at "t")=>`(tactic| (first|assumption|exact Nat.succ_pos _|exact qx.tk (by assumption)|exact Nat.lt_of_lt_of_le (qx.tk (by assumption)) (Nat.le_add_right _ _)|exact Nat.lt_of_lt_of_le (qx.tk (by assumption)) (by assumption)))
set_option hygiene true
local macro_rules|`(tactic| walk_at "w")=>`(tactic| conv=>whnf)
local macro_rules|`(tactic| walk_at "y")=>`(tactic| ((refine PySem.W.look_both ?_ ?_);(refine PySem.W.look_both ?_ ?_);(refine PySem.W.look_both ?_ ?_);(refine PySem.W.look_both ?_ ?_);(refine PySem.W.look_both ?_ ?_);(refine PySem.W.look_both ?_ ?_)))
local macro_rules(kind:=«term{_}»)|s=>return Lean.Syntax.node .none `Lean.Parser.Term.anonymousCtor #[Lean.mkAtom "⟨",s[1],Lean.mkAtom "⟩"]
set_option Elab.async false
set_option linter.all false
set_option maxRecDepth 100000
abbrev Aa:=@PySem.wpAny_bind
abbrev Ab:=@PyProof.Rows.wpS_bind
abbrev Ac:=@List.length_map
abbrev Ad:=@List.length_append
abbrev Ae:=@PyProof.Rows.wpS_pure
abbrev Af:=@PySem.W.Frag
abbrev Ag:=@List.getElem?_eq_getElem
abbrev Ah:=@List.mem_append_right
abbrev Ai:=@List.mem_cons_of_mem
abbrev Aj:=@PySem.wpAny_pure
abbrev Ak:=@List.mem_append
abbrev Al:=@List.getElem?_map
abbrev Am:=@Nat.le_refl
abbrev An:=@List.mem_append_left
abbrev Ao:=@List.mem_cons_self
abbrev Ap:=@List.mem_singleton
abbrev Aq:=@Option.map_eq_some_iff
abbrev Ar:=@List.size_toArray
abbrev As:=@List.mem_cons
abbrev Au:=@List.nodup_append
abbrev Av:=@List.map_append
abbrev Aw:=@decide_eq_false
abbrev Ax:=@List.mem_of_getElem?
abbrev Ay:=@List.append_assoc
abbrev Az:=@List.getElem?_append_left
abbrev AA:=@List.map_cons
abbrev AB:=@if_neg
abbrev AC:=@if_pos
abbrev AD:=@decide_eq_true
abbrev AE:=@List.nodup_cons
abbrev AF:=@List.getElem?_append_right
abbrev AG:=@Ne.symm
abbrev AH:=@Bool.false_ne_true
abbrev AI:=@List.append_nil
abbrev AJ:=@PyProof.Rows.wpS_forRange
abbrev AK:=@List.length_cons
abbrev AL:=@Nat.lt_of_lt_of_le
abbrev AM:=@Bool.and_eq_true
abbrev AN:=@List.getElem?_eq_some_iff
abbrev AO:=@List.flatMap_append
abbrev AQ:=@Int.natCast_nonneg
abbrev AR:=@List.mem_filter
abbrev AS:=@Nat.le_trans
abbrev AU:=@List.pairwise_append
abbrev AV:=@List.length_take
abbrev AW:=@PyProof.Rows.wpS_mono
abbrev AX:=@List.mem_range
abbrev AY:=@List.getElem?_set_ne
abbrev AZ:=@PySem.wpAny_mono
abbrev A1:=@Array.length_toList
abbrev A2:=@Option.some.inj
abbrev A3:=@Nat.ne_of_lt
abbrev A4:=@List.take_of_length_le
abbrev A5:=@Nat.zero_le
abbrev A6:=@PySem.W.mg_none_of
abbrev A7:=@List.mem_map
abbrev A8:=@Array.getElem?_toList
abbrev A9:=@List.take_append_drop
abbrev Ba:=@Array.toList_append
abbrev Bb:=@Nat.le_add_right
abbrev Bc:=@List.not_mem_nil
abbrev Bd:=@PySem.wpAny_field
abbrev Be:=@List.flatMap_cons
abbrev Bf:=@List.perm_ext_iff_of_nodup
abbrev Bg:=@List.take_length
abbrev Bh:=@List.mem_flatMap
abbrev Bi:=@List.take_succ
abbrev Bj:=@PySem.wpAny_holding
abbrev Bk:=@Nat.le_of_lt
abbrev Bl:=@List.getElem?_set_self
abbrev Bm:=@List.getD_eq_getElem?_getD
abbrev Bo:=@List.perm_append_comm
abbrev Bp:=@Int.ofNat_inj
abbrev Bq:=@List.length_set
abbrev Br:=@congrArg
abbrev Bs:=@Nat.lt_of_le_of_lt
abbrev Bt:=@PySem.wpAny_newObj_type
abbrev Bu:=@Nat.add_sub_cancel_left
abbrev Bv:=@List.eq_nil_of_length_eq_zero
abbrev Bw:=@PySem.W.mg_of
abbrev Bx:=@PySem.W.kia_one
abbrev Bz:=@Array.size_push
abbrev BA:=@Nat.succ_pos
abbrev BB:=@List.mem_of_mem_take
abbrev BC:=@List.map_map
abbrev BD:=@PySem.wpAny_rule
abbrev BE:=@List.perm_append_right_iff
abbrev BF:=@List.getElem_take
abbrev BG:=@List.perm_append_left_iff
abbrev BH:=@List.lookup_cons
abbrev BI:=@Nat.lt_succ_self
abbrev BJ:=@PySem.mem_of_lookup
abbrev BK:=@List.getElem_of_mem
abbrev BL:=@Int.toNat_natCast
abbrev BM:=@PySem.wpAny_seqItems
abbrev BN:=@List.mem_erase_of_ne
abbrev BO:=@Int.le_of_lt
abbrev BP:=@List.pairwise_map
abbrev BQ:=@List.length_replicate
abbrev BR:=@List.find?_cons
abbrev BS:=@Int.le_trans
abbrev BU:=@PySem.W.hideAll_none
abbrev BV:=@List.length_drop
abbrev BW:=@Bool.and_false
abbrev BX:=@Array.size_append
abbrev BY:=@List.nodup_nil
abbrev BZ:=@PySem.W.kia_tup
abbrev B3:=@Nat.min_eq_left
abbrev B4:=@List.drop_eq_getElem_cons
abbrev B5:=@List.pairwise_iff_getElem
abbrev B6:=@List.length_singleton
abbrev B7:=@Nat.le_succ_of_le
abbrev B8:=@Nat.exists_eq_add_of_le
abbrev B9:=@PyProof.Rows.callWith_type1
abbrev Cm:=@List.all_eq_true
abbrev Cn:=@List.perm_middle
abbrev Co:=@List.nodup_range
abbrev Cp:=@Bool.false_eq_true
abbrev Cq:=@List.filter_append
abbrev Cr:=@List.perm_append_singleton
abbrev Cs:=@Nat.le_of_ble_eq_true
abbrev Cu:=@List.length_range
abbrev Cv:=@Nat.lt_or_ge
abbrev Cw:=@Nat.lt_succ_of_lt
abbrev Cy:=@Int.zero_add
abbrev Cz:=@List.any_cons
abbrev CA:=@List.all_cons
abbrev CB:=@PyProof.Rows.slot_tuple_getitem
abbrev CC:=@List.filterMap_cons
abbrev CD:=@List.getElem?_replicate
abbrev CF:=@List.eraseIdx_cons_succ
abbrev CG:=@List.getElem_mem
abbrev CH:=@Nat.max_eq_right
abbrev CI:=@List.Perm.refl
abbrev CK:=@Int.mul_le_mul_of_nonneg_right
abbrev CL:=@PySem.W.of_hideAll
abbrev CM:=@PySem.W.funFrames_hide
abbrev CN:=@List.append_of_mem
abbrev CO:=@Int.ofNat_lt
abbrev CP:=@Nat.max_eq_left
abbrev CQ:=@Nat.not_lt_zero
abbrev CS:=@List.getElem?_eq_none
abbrev CT:=@PySem.W.kitx_list
abbrev CU:=@Nat.le_succ
abbrev CV:=@Int.le_refl
abbrev CW:=@List.mem_of_mem_drop
abbrev CY:=@Array.toList_reverse
abbrev CZ:=@Nat.le_sub_one_of_lt
abbrev C0:=@Nat.ne_of_gt
abbrev C1:=@Nat.lt_trans
abbrev C2:=@Nat.succ_le_succ
abbrev C3:=@Nat.min_eq_right
abbrev C4:=@List.filter_cons
abbrev C5:=@List.flatMap_nil
abbrev C6:=@PySem.W.hideAll_get
abbrev C7:=@List.reverse_append
abbrev C8:=@List.mem_map_of_mem
abbrev C9:=@List.length_pos_iff
abbrev De:=@List.perm_iff_count
abbrev Df:=@Nat.lt_irrefl
abbrev Dg:=@List.forIn_cons
abbrev Di:=@List.nil_append
abbrev Dj:=@List.filter_nil
abbrev Dk:=@Array.size_extract
abbrev Dl:=@List.getElem?_cons_succ
abbrev Dm:=@List.length_eraseIdx_le
abbrev Dn:=@Nat.lt_add_of_pos_right
abbrev Do:=@List.map_nil
abbrev Dp:=@Bool.not_eq_true'
abbrev Dq:=@Array.toList_push
abbrev Dr:=@List.length_take_of_le
abbrev Ds:=@Nat.sub_self
abbrev Dt:=@List.getElem_cons_drop
abbrev Du:=@List.mem_range'_1
abbrev Dv:=@List.Perm.append_right
abbrev Dw:=@List.count_append
abbrev Dx:=@List.eraseIdxIfInBounds_toArray
abbrev Dy:=@List.singleton_append
abbrev Dz:=@List.length_filter_le
abbrev DA:=@List.Perm.append_left
abbrev DB:=@decide_eq_decide
abbrev DC:=@List.sum_cons
abbrev DE:=@List.take_append_of_le_length
abbrev DF:=@List.getElem?_of_mem
abbrev DG:=@List.of_mem_zip
abbrev DH:=@Nat.le_add_left
abbrev DI:=@List.length_zip
abbrev DJ:=@Int.emod_nonneg
abbrev DK:=@List.length_reverse
abbrev DL:=@Nat.zero_add
abbrev DM:=@List.map_set
abbrev DN:=@Bool.false_and
abbrev DO:=@List.mem_filterMap
abbrev DP:=@PySem.W.kitx_tuple
abbrev DQ:=@Option.isSome_some
abbrev DR:=@List.drop_zero
abbrev DS:=@PySem.F.excBase_ValueError
abbrev DU:=@PyProof.Rows.LSm.kept_iter
abbrev DV:=@Nat.lt_or_eq_of_le
abbrev DW:=@List.getElem?_drop
abbrev DX:=@List.zip_cons_cons
abbrev DY:=@Int.emod_lt_of_pos
abbrev DZ:=@decide_eq_true_iff
abbrev Eb:=@PyProof.Rows.firstMet_succ
abbrev Ec:=@List.map_inj_right
abbrev Ed:=@PySem.F.slot_dict_getitem
abbrev Ee:=@PySem.W.kitx_dict
abbrev Ef:=@List.take_sublist
abbrev Eg:=@List.getElem_drop
abbrev Eh:=@List.reverse_perm
abbrev Ei:=@List.nodup_range'
abbrev Ej:=@List.set_comm
abbrev Ek:=@List.getElem?_take_of_lt
abbrev El:=@PySem.F.args_tuple_add_2
abbrev Em:=@List.cons.inj
abbrev Eo:=@List.getElem_append_left
abbrev Ep:=@List.Pairwise.imp_of_mem
abbrev Er:=@List.Perm.eq_of_pairwise
abbrev Es:=@List.getElem_inj
abbrev Eu:=@Prod.ext
abbrev Ex:=@List.zipIdx_cons
abbrev Ey:=@List.range'_succ
abbrev EE:=@congrFun
abbrev EI:=@Bool.eq_iff_iff
abbrev EJ:=@Bool.or_eq_true
abbrev EK:=@List.Perm.of_eq
abbrev EL:=@beq_false_of_ne
abbrev EM:=@List.range_succ
abbrev EN:=@List.sum_append
abbrev EO:=@List.forIn_nil
abbrev ET:=@List.map_take
abbrev EU:=@Nat.not_lt
abbrev vb:=@PySem.Heap.get?_push_of_some
abbrev wh:=@PySem.Heap.lt_size
abbrev xT:=@PySem.Heap.get?_push_size
abbrev ya:=@PySem.PassesOwn.never
abbrev yp:=@PySem.Heap.SameBut.update
abbrev At:=@PySem.Calls.spliced_cons
abbrev Db:=@PySem.F.slot_tuple_iterator_next
abbrev Dd:=@PySem.MeetsSeq.plain_remove_loop
abbrev Ev:=@PySem.Calls.spliced_nil
abbrev EQ:=@PySem.Heap.size_push
abbrev Fa:=@PySem.Heap.get?_update_self
abbrev Fg:=@PySem.F.slot_zip_next
abbrev WK:=PySem.Value->PySem.Shared->Prop
abbrev WL:=Unit->PySem.Shared->Prop
abbrev WM:=PySem.Str->Option PySem.Value
abbrev WN:=List<|Nat×Nat
abbrev WO:=List (Nat×Nat)
abbrev WP:=List PySem.Value
abbrev WQ:=Array PySem.Value
abbrev WR:=List Nat
abbrev WS:=List PySem.Str
abbrev WT:=List PySem.Expr
abbrev WU:=List PySem.Stmt
abbrev WV:=List Int
abbrev WW:=Option PySem.Value
abbrev WX:=Option Int
abbrev WY:=Nat->Nat
abbrev WZ:=Nat×Nat
abbrev W0:=PySem.Value
abbrev W1:=PySem.Shared
abbrev W2:=PySem.Program
abbrev W3:=PySem.World
abbrev W4:=PySem.Heap
abbrev W5:=String
noncomputable section
namespace L2
open PySem PyProof.Rows
def kJ{M:Model}{U:Ctx}{p:Pos}{t:Sem Fin}{fs:List Frame}{s s':W1}{e:End}(h:Runs M U p t fs s e s'):s.toks<=s'.toks:=by induction h with|fresh _ g=>exact AS (CU _) g|call _ _ I J=>exact AS I J|resumeFresh _ _ _ _ I J=>exact AS I J|resumeSuspended _ _ _ _ I J=>exact AS I J|segRet _ _ I J=>exact AS I J|segGen _ _ I J=>exact AS I J|segSuspGen _ _ _ _ I J=>exact AS I J|_=>first|exact Am _|assumption
def yH{M:Model}{J:Ctx}{p:Pos}{g:Nat}{r:Resume}{s s':W1}{res:GenResult}(h:Wakes M J p g r s res s'):s.toks<=s'.toks:=by
 unfold Wakes at h;split at h
 .exact h.elim
 .split at h
  .obtain⟨e,U,I,_,_,rfl⟩:=h;have q:=kJ I;exact q
  .obtain⟨_,rfl⟩:=h;exact Am _
  .obtain⟨_,rfl⟩:=h;exact Am _
 .obtain⟨e,U,I,_,_,rfl⟩:=h;have q:=kJ I;exact q
 .obtain⟨_,rfl⟩:=h;exact Am _
 .obtain⟨_,rfl⟩:=h;exact Am _
def MU{α:Type}{M:Model}{j:Ctx}(t:Sem α):∀{Q:α->Pos->W1->Prop} {E:W0->Pos->W1->Prop} {p:Pos} {s:W1} (n:Nat),n<=s.toks->Sem.wp M j t Q E p s->Sem.wp M j t (λa U s'=>Q a U s'/\n<=s'.toks) (λe U s'=>E e U s'/\n<=s'.toks) p s:=by induction t with|pure a=>intro Q E p s n I h;exact{(h),I}|raise e=>intro Q E p s n I h;exact{(h),I}|load a part k J=>rintro Q E p s n I ⟨o,h1,h2⟩;exact{o,h1,J o n I h2}|update a part f k J=>rintro Q E p s n I ⟨h1,h2⟩;exact{h1,J () n I h2}|fresh k J=>intro Q E p s n I h;exact J s.toks n (AS I<|CU _) h|choose C m k J=>rintro Q E p s n I ⟨h1,h2⟩;exact{h1,J _ n I h2}|call c hd g l k J=>rintro Q E p s n I ⟨r,s',h1,h2⟩;exact{r,s',h1,J r n (AS I<|kJ h1) h2}|genState g k J=>rintro Q E p s n I ⟨st,h1,h2⟩;exact{st,h1,J _ n I h2}|resume g r l k J=>rintro Q E p s n I ⟨res,s',h1,h2⟩;exact{res,s',h1,J _ n (AS I<|yH h1) h2}|rule tag k J=>intro Q E p s n I h;exact J () n I h|«at» pos k J=>intro Q E p s n I h;exact J () n I h|alloc o k J=>intro Q E p s n I h;exact J _ n I h|loadIfAlive a k J=>intro Q E p s n I h;exact J _ n I h|point l k J=>intro Q E p s n I h;exact J _ n I h|ask k J=>intro Q E p s n I h;exact J _ n I h|os q l k J=>intro Q E p s n I h;exact J _ n I h|handled own k J=>intro Q E p s n I h;exact J _ n I h|newGen c k J=>intro Q E p s n I h;exact J _ n I h|stack k J=>intro Q E p s n I h;exact J _ n I h|thread k J=>intro Q E p s n I h;exact J _ n I h|unsupported w=>intro Q E p s n I h;exact h.elim|finish e=>intro Q E p s n I h;exact h.elim|register a k J=>intro Q E p s n I h;exact h.elim|yield v g l k J=>intro Q E p s n I h;exact h.elim|fork c k J=>intro Q E p s n I h;exact h.elim|await a f d l k J=>intro Q E p s n I h;exact h.elim
def wI{α:Type}{M:Model}{A:Around}{t:Sem α}{Q:α->W1->Prop}{E:WK}{s:W1}(h:wpAny M A t Q E s):wpAny M A t (λa s'=>Q a s'/\s.toks<=s'.toks) (λe s'=>E e s'/\s.toks<=s'.toks) s:=
 λJ p I=>MU t s.toks (Am _)<|h J p I
def ja{α:Type}{M:Model}{A:Around}{t:Sem α}{Q:α->W1->Prop}{E:WK}{s:W1}(I:0<s.toks)(h:wpAny M A t (λa s'=>0<s'.toks->Q a s') (λe s'=>0<s'.toks->E e s') s):wpAny M A t Q E s:=
 AZ (wI h) (λ_ _ z=>z.1<|AL I z.2) λ_ _ z=>z.1<|AL I z.2
variable {M:PySem.Model}{apos fm sL np p p1 p2 p3 p4 p5 pos fy py tp:PySem.Pos}{t t1 t2:Bool}{s s':PySem.Shared}{c e pj o target tg value:PySem.Expr}{α β κ:Type}{A:PySem.Around}{E Q xe:PySem.Value->PySem.Shared->Prop}{eH us vs:List PySem.Value}{cd eW hQ oc pm u:PySem.Value}{base h h':PySem.Heap}{d i j kt n na t' x1:Nat}{ch fp:List PySem.Addr}{C Pt a' c' dx f fa it ka l' l1 l2 pa pb:PySem.Addr}{kx name px q eK x:PySem.Str}{pins:List<|PySem.Addr×PySem.Obj}{st:PySem.Stmt}{ml es nC:List PySem.Expr}{body:List PySem.Stmt}{ct l lk m:WN}{lo:Int}{mA mg:PySem.Str->Option PySem.Value}{fd:PySem.FuncData}{ps:List PySem.Str}{fx scope:PySem.Scope}{outer:List PySem.Env}{an od:Option PySem.Addr}{pR:Array<|Option PySem.Value}{prog:PySem.Program}{env:PySem.Env}{rks:WV}{qs:WR}{cs:List<|Int×Int}
open PySem.Spec
abbrev jn:=Sum Int Str
abbrev W8:=List jn
def om:jn->W0->Bool
 |.inl k,v=>Value.isInt k v
 |.inr x,v=>Value.isStrOf x v
def MV(w:W3):jn->Int
 |.inl k=>hashInt k
 |.inr x=>hashStr w x
theorem vo:∀{k:jn} {v:W0},om k v=true->(∃i t,k=Sum.inl i/\v=Value.int i t)\/(∃x t,k=Sum.inr x/\v=Value.str x t)
 |.inl i,v,h=>by obtain⟨t,e⟩:=Value.isInt_shape (k:=i) (v:=v) h;exact .inl {(i),t,rfl,e}
 |.inr x,v,h=>by obtain⟨t,e⟩:=Value.isStrOf_shape (x:=x) (v:=v) h;exact .inr {(x),t,rfl,e}
def MW(i:Int)(t:Tok):om (.inl i) (.int i t)=true:=by simp[om,Value.isInt]
def jT(x:Str)(t:Tok):om (.inr x) (.str x t)=true:=by simp[om,Value.isStrOf]
def MX(a b:Int):decide ((Sum.inl a:jn)=Sum.inl b)=(a==b):=by
 by_cases e:a=b
 .subst e;simp
 .have h:¬(Sum.inl a:jn)=Sum.inl b:=λq=>e<|Sum.inl.inj q;rw[Aw h];exact(beq_eq_false_iff_ne.mpr e).symm
def MY(a b:Str):decide ((Sum.inr a:jn)=Sum.inr b)=decide (a=b):=by
 by_cases e:a=b
 .subst e;simp
 .have h:¬(Sum.inr a:jn)=Sum.inr b:=λq=>e<|Sum.inr.inj q;rw[Aw h,Aw e]
def MZ(a:Int)(b:Str):decide ((Sum.inl a:jn)=Sum.inr b)=false:=Aw λq=>nomatch q
def M5(a:Str)(b:Int):decide ((Sum.inr a:jn)=Sum.inl b)=false:=Aw λq=>nomatch q
def vn(prog:W2)(w:W3):PySem.KeyKind prog w jn where
 is:=om
 hash:=MV w
 inj:=λv a b g U=>by
  rcases vo g with⟨i,t,rfl,rfl⟩|⟨x,t,rfl,rfl⟩
  .rcases vo U with⟨j,u,rfl,e⟩|⟨y,u,rfl,e⟩
   .injection e with I _;rw[I]
   .exact nomatch e
  .rcases vo U with⟨j,u,rfl,e⟩|⟨y,u,rfl,e⟩
   .exact nomatch e
   .injection e with I _;rw[I]
 byValue:=λk v h=>by rcases vo h with⟨i,t,rfl,rfl⟩|⟨x,t,rfl,rfl⟩<;>rfl
 pyHash:=λJ h=>by
  rcases vo J with⟨i,t,rfl,rfl⟩|⟨x,t,rfl,rfl⟩
  .exact wpAny_pyHash_int h
  .exact wpAny_pyHash_str h
 eqBool:=λl J h=>by
  rcases vo l with⟨i,t,rfl,rfl⟩|⟨x,t,rfl,rfl⟩
  .rcases vo J with⟨j,u,rfl,rfl⟩|⟨y,u,rfl,rfl⟩
   .rw[MX] at h;exact wpAny_eqBool_int h
   .rw[MZ] at h;exact SeqAt.EqAt.int_str i t y u _ _ _ _ h
  .rcases vo J with⟨j,u,rfl,rfl⟩|⟨y,u,rfl,rfl⟩
   .rw[M5] at h;exact SeqAt.EqAt.str_int x t j u _ _ _ _ h
   .rw[MY] at h;exact wpAny_eqBool_str h
 «strs» := λk x t v h=>by
  rcases vo h with⟨i,u,rfl,e⟩|⟨y,u,rfl,e⟩
  .exact nomatch e
  .injection e with I _
   subst I;cases v<;>rfl
def uA(prog:W2)(w:W3)(i:Int)(t:Tok):(vn prog w).is (.inl i) (.int i t)=true:=MW i t
def vO(prog:W2)(w:W3)(x:Str)(t:Tok):(vn prog w).is (.inr x) (.str x t)=true:=jT x t
set_option genInjectivity true in
inductive V where
 |GM|bl (b:Bool)|int (i:Int)|str (x:Str)|ZP (b:Array UInt8)|YJ (b:UInt64)|ref (a:Addr)|ty (n:W5)
 deriving DecidableEq
abbrev W7:=Option V
abbrev W6:=List V
def zr:V->W0->Prop
 |.GM,u=>u=Value.none
 |.bl b,u=>u=Value.bool b
 |.int i,u=>∃t,u=Value.int i t
 |.str x,u=>∃t,u=Value.str x t
 |.ZP b,u=>∃t,u=Value.bytes b t
 |.YJ b,u=>∃t,u=Value.float b t
 |.ref a,u=>u=Value.ref a
 |.ty n,u=>u=Value.type n
abbrev zk:W6->WP->Prop:=Paired zr
theorem zk.length{xs:W6}(r:zk xs us):xs.length=us.length:=Paired.length r
theorem zk.get:∀{xs:W6} {us:WP} {i:Nat} {x:V},zk xs us->xs[i]?=some x->∃u,us[i]?=some u/\zr x u
 |_,_,_,_,.nil,e=>by simp at e
 |_,_,0,_,.cons r _,e=>by simp at e;subst e;exact{_,rfl,r}
 |_,_,i+1,x,.cons _ t,e=>by obtain⟨u,h1,h2⟩:=zk.get (i:=i) (x:=x) t (by simpa using e);exact{u,by simpa using h1,h2}
theorem zk.set{x:V}{u:W0}(r:zr x u):∀{xs:W6} {us:WP} (i:Nat),zk xs us->zk (xs.set i x) (us.set i u)
 |_,_,_,.nil=>.nil
 |_,_,0,.cons _ t=>.cons r t
 |_,_,i+1,.cons q t=>.cons q<|zk.set r i t
def zk.append:∀{xs ys:W6} {us I:WP},zk xs us->zk ys I->zk (xs++ys) (us++I):=by
 intro xs ys us I h s
 induction h with|nil=>exact s|cons r t J=>exact .cons r J
theorem zk.take:∀{xs:W6} {us:WP} (n:Nat),zk xs us->zk (xs.take n) (us.take n)
 |_,_,0,_=>.nil
 |_,_,_+1,.nil=>.nil
 |_,_,n+1,.cons r t=>.cons r<|zk.take n t
theorem zk.drop:∀{xs:W6} {us:WP} (n:Nat),zk xs us->zk (xs.drop n) (us.drop n)
 |_,_,0,r=>r
 |_,_,_+1,.nil=>.nil
 |_,_,n+1,.cons _ t=>zk.drop n t
def kK:W7->WW->Prop
 |some v,some u=>zr v u
 |none,none=>True
 |_,_=>False
def KV :List (κ×V)->List (κ×W0)->Prop:=Paired λ(p:κ×V) (q:κ×W0)=>p.1=q.1/\zr p.2 q.2
def kV:jn->V
 |.inl i=>.int i
 |.inr x=>.str x
inductive HO where
 |lst (xs:W6)
 |tup (xs:W6)
 |dK (kvs:List<|jn×V)|dT (kvs:List<|W8×V)
 |set (S:Int->Bool) (n:Nat)
 |ins (C dx:Addr) (fs:List<|Str×V)
 |own (x:Addr)
 |xd (fs:List<|Str×V)
 |met (f x:Addr)
 |Y1 (lo hi:Int)
 |Xs (o:Obj) (u:HO)
 |XN (ps:WQ)
 |ext (φ:W4->Prop)
abbrev Hp:=Addr->Option HO
def upd(H:Hp)(a:Addr)(o:HO):Hp:=λb=>if b=a then some o else H b
def zu{H:Hp}{a:Addr}{o:HO}:upd H a o a=some o:=by unfold upd;rw[AC rfl]
def qp{H:Hp}{a b:Addr}{o:HO}(h:b≠a):upd H a o b=H b:=by unfold upd;rw[AB h]
def M7{H:Hp}{a:Addr}{o u:HO}:upd (upd H a o) a u=upd H a u:=by funext b;unfold upd;split<;>rfl
def M8{H:Hp}{a b:Addr}{o u:HO}(h:H a=some o)(h':H b=some u)(d:o≠u):a≠b:=by intro e;subst e;rw[h] at h';exact d<|A2 h'
def j6{H:Hp}{a b:Addr}{o:HO}(h:H a=some o)(h':H b=none):a≠b:=by intro e;subst e;rw[h] at h';cases h'
section
variable (P:W2)(w:W3)
def xu(H:Hp)(h:W4)(a:Addr):HO->Prop
 |.lst xs=>xs.length<=sizeLine/\∃(eH:WP) (n:Nat),zk xs eH/\h.get? a=some {cls:=.type "list",data:=.seq eH.toArray n}
 |.tup xs=>xs.length<=sizeLine/\∃eH:WP,zk xs eH/\IsTup h a eH.toArray
 |.dK kvs=>kvs.length<=sizeLine/\(a==sysModules)=false/\∃vs,KV kvs vs/\h.DictOf (vn P w) a vs
 |.dT kvs=>kvs.length<=sizeLine/\(a==sysModules)=false/\∃xs:List (W8×Addr×W0),
  Paired (λ(p:W8×V) (q:W8×Addr×W0)=>p.1=q.1/\H q.2.1=some (.tup<|p.1.map kV)/\zr p.2 q.2.2) kvs xs/\
  ∃o es J,h.get? a=some o/\o.ExactDict/\o.data=.dict es J/\es.toList=xs.map (entryOfKey<|tupleKind<|vn P w)/\(xs.map (·.1)).Nodup
 |.set S n=>h.SetOf (intKind P w) a S n
 |.ins C dx fs=>H dx=some (.own a)/\fs.length<=1000/\dx≠a/\h.get? a=some (PySem.W.instObj C dx)/\
  ∃mA,h.Ns1 dx mA/\(∀f,kK (fs.lookup f)<|mA f)/\PySem.Within mA (fs.map (·.1))
 |.own _=>∃o,h.get? a=some o
 |.xd fs=>∃mA,h.Ns1 a mA/\∀f,kK (fs.lookup f)<|mA f
 |.Y1 lo hi=>∃t u v,h.get? a=some {cls:=.type "range",data:=.fields #[.int lo t,.int hi u,.int 1 v]}
 |.Xs o u=>h.get? a=some o/\xu H h a u
 |.XN ps=>h.get? a=some {cls:=.none,data:=.fields ps}
 |.met f x=>h.get? a=some (PySem.W.methodObj (.ref f)<|.ref x)
 |.ext I=>I h/\(∃o,h.get? a=some o)/\∀h1 h2:W4,I h1->(∀o,h1.get? a=some o->h2.get? a=some o)->I h2
def fF(H:Hp)(h:W4):Prop:=∀a o,H a=some o->xu P w H h a o
end
section
variable {P:W2}{w:W3}{H H':Hp}{a:Addr}{o:HO}
theorem xu.lt(x:xu P w H h a o):a<h.objs.size:=by
 cases o with
 |lst J=>obtain⟨_,_,_,_,e⟩:=x;exact wh e
 |tup J=>obtain⟨_,_,_,p⟩:=x;exact p.lt
 |dK I=>obtain⟨_,_,_,_,o,_,_,e,_⟩:=x;exact wh e
 |dT I=>obtain⟨_,_,_,_,o,_,_,e,_⟩:=x;exact wh e
 |set S n=>obtain⟨o,_,_,_,e,_⟩:=x;exact wh e
 |ins C U fs=>obtain⟨_,_,_,e,_⟩:=x;exact wh e
 |own y=>obtain⟨_,e⟩:=x;exact wh e
 |xd fs=>obtain⟨_,⟨_,_,_,e,_⟩,_⟩:=x;exact wh e
 |Y1 lo g=>obtain⟨_,_,_,e⟩:=x;exact wh e
 |Xs ob u=>obtain⟨e,_⟩:=x;exact wh e
 |XN j=>exact wh<|show h.get? a=some _ from x
 |met f y=>exact wh<|show h.get? a=some _ from x
 |ext l=>obtain⟨_,⟨_,e⟩,_⟩:=x;exact wh e
def Paired.ZU{F G:α->β->Prop}:∀{l₁:List α} {l₂:List β},Paired F l₁ l₂->(∀a b,F a b->G a b)->Paired G l₁ l₂:=by
 intro l₁ l₂ h f
 induction h with|nil=>exact .nil|cons r t I=>exact .cons (f _ _ r) I
abbrev E6:=@Paired.ZU
def xu.Xx(x:xu P w H h a o)(k:∀b u,(b=a\/H b=some (.own a))->h.get? b=some u->h'.get? b=some u)
 (T:∀b,H b=some (.own a)->H' b=some (.own a)) (ht:∀b xs,H b=some (.tup xs)->H' b=some (.tup xs)):xu P w H' h' a o:=by
 induction o with
 |lst xs=>obtain⟨z,U,n,r,e⟩:=x;exact{z,U,n,r,k _ _ (.inl rfl) e}
 |tup xs=>obtain⟨z,U,r,ob,e,c⟩:=x;exact{z,U,r,ob,k _ _ (.inl rfl) e,c}
 |dK g=>obtain⟨z,y,vs,r,ob,I,J,e,c⟩:=x;exact{z,y,vs,r,ob,I,J,k _ _ (.inl rfl) e,c}
 |dT g=>
  obtain⟨z,y,xs,r,ob,I,J,e,c⟩:=x;exact{z,y,xs,E6 r λp q z=>{z.1,ht _ _ z.2.1,z.2.2},ob,I,J,k _ _ (.inl rfl) e,c}
 |set S n=>obtain⟨ob,I,J,t,e,c⟩:=x;exact{ob,I,J,t,k _ _ (.inl rfl) e,c}
 |ins C dx fs=>
  obtain⟨d,z,ne,e,j,⟨l,I,J,e2,c⟩,r⟩:=x;exact{T _ d,z,ne,k _ _ (.inl rfl) e,j,{l,I,J,k _ _ (.inr d) e2,c},r}
 |own y=>obtain⟨ob,e⟩:=x;exact{ob,k _ _ (.inl rfl) e}
 |xd fs=>obtain⟨j,⟨l,I,J,e,c⟩,r⟩:=x;exact{j,{l,I,J,k _ _ (.inl rfl) e,c},r}
 |Y1 lo hi=>obtain⟨t,u,v,e⟩:=x;exact{t,u,v,k _ _ (.inl rfl) e}
 |Xs ob u ih=>obtain⟨e,q⟩:=x;exact{k _ _ (.inl rfl) e,ih q}
 |XN ps=>
  have e:=x;exact k a _ (.inl rfl) e
 |met f y=>
  have e:=x;exact k a _ (.inl rfl) e
 |ext φ=>obtain⟨p,⟨o,e⟩,st⟩:=x;exact{st _ _ p λo q=>k _ _ (.inl rfl) q,{o,k _ _ (.inl rfl) e},st}
theorem fF.lt(x:fF P w H h)(e:H a=some o):a<h.objs.size:=(x a o e).lt
def fF.fresh(x:fF P w H h)(e:h.objs.size<=a):H a=none:=by cases q:H a with|none=>rfl|some u=>exact absurd (AL (x.lt q) e)<|Df _
def fF.kept(x:fF P w H h)(k:∀b u,h.get? b=some u->h'.get? b=some u):fF P w H h':=λa o e=>
 (x a o e).Xx (λb u _ q=>k b u q) (λ_ q=>q) λ_ _ q=>q
def fF.laid(x:fF P w H h)(k:∀b u,h.get? b=some u->h'.get? b=some u)(U:h.objs.size<=a)(new:xu P w (upd H a o) h' a o):fF P w (upd H a o) h':=λb u e=>by
 have I:=x.fresh U;by_cases J:b=a
 .subst J;rw[zu] at e;cases e;exact new
 .rw[qp J] at e;exact(x b u e).Xx (λc v _ q=>k c v q) (λc q=>by rw[qp<|j6 q I];exact q) λc g q=>by rw[qp<|j6 q I];exact q
end
def Rd(H:Hp)(a:Addr)(u:HO):Prop:=H a=some u\/∃o,H a=some (.Xs o u)
def Rd.ok{P:W2}{w:W3}{H:Hp}{a:Addr}{u:HO}(r:Rd H a u)(x:fF P w H h):xu P w H h a u:=by
 rcases r with r|⟨o,r⟩
 .exact x a u r
 .obtain⟨_,q⟩:=x a _ r;exact q
def Fp:Option HO->Prop
 |some (.lst _)=>True
 |some (.dK _)=>True
 |some (.dT _)=>True
 |some (.set _ _)=>True
 |some (.ins _ _ _)=>True
 |some (.ext _)=>True
 |_=>False
section
variable {P:W2}{w:W3}{H:Hp}{x e:Addr}{o':HO}
def fF.write(ok:fF P w H h)(g:Fp<|H x)(t:e=x\/H e=some (.own x))(k:∀b u,b≠e->h.get? b=some u->h'.get? b=some u)(p:∃u,h'.get? e=some u)
 (new:xu P w (upd H x o') h' x o'):fF P w (upd H x o') h':=λb u q=>by
 have J:∀c y,H c=some (.own y)->c≠x:=λc y r z=>by subst z;rw[r] at g;exact g
 have U:∀c j,H c=some (.tup j)->c≠x:=λc j r z=>by subst z;rw[r] at g;exact g
 by_cases l:b=x
 .subst l;rw[zu] at q;cases q;exact new
 .rw[qp l] at q;by_cases I:b=e
  .have C:H b=some (.own x):=by
    rcases t with z|z
    .exact absurd (I.trans z) l
    .rw[I];exact z
   rw[q] at C;cases C;obtain⟨v,T⟩:=p;exact{v,by rw[I];exact T}
  .refine(ok b u q).Xx (λc v o r=>k c v ?_ r) (λc r=>by rw[qp<|J c b r];exact r) λc j r=>by rw[qp<|U c j r];exact r
   rcases o with rfl|o
   .exact I
   .rintro rfl;rcases t with z|z
    .exact J c b o z
    .rw[o] at z;cases z;exact l rfl
end
structure Un(fs ex:List Addr)(H H':Hp)(h h':W4):Prop where
 keep:∀b o,h.get? b=some o->H b=none->b∉fs->b∉ex->h'.get? b=some o
 slot:∀b o,h.get? b=some o->H b=none->b∈fs->b∉ex->∃sl,h'.get? b=some {o with slots:=sl}
 free:∀b o,h.get? b=some o->H b=none->b∉ex->H' b=none
 there:∀b o,h.get? b=some o->b∉ex->∃o',h'.get? b=some o'
 SZ:∀b xs,H b=some (.tup xs)->H' b=some (.tup xs)
 Xp:∀b o u,H b=some (.Xs o u)->H' b=some (.Xs o u)
 Xv:∀b ps,H b=some (.XN ps)->∃more,H' b=some (.XN<|ps++more)
section
variable {fs fs' ex ex':List Addr}{H H1 H2:Hp}{h1 h2:W4}{a x e:Addr}{o:HO}
def Un.any(u:Un fs ex H H1 h h1){b:Addr}{ob:Obj}(q:h.get? b=some ob)(n:H b=none)(I:b∉ex):∃U,h1.get? b=some {ob with slots:=U}:=by
 by_cases J:b∈fs
 .exact u.slot b ob q n J I
 .exact{ob.slots,u.keep b ob q n J I}
def Un.kept(k:∀b u,h.get? b=some u->h'.get? b=some u):Un fs ex H H h h':=
 ⟨λb ob q _ _ _=>k b ob q,λb ob q _ _ _=>{ob.slots,k b ob q},λ_ _ _ n _=>n,λb ob q _=>{ob,k b ob q},λ_ _ q=>q,λ_ _ _ q=>q,λ_ I q=>{#[],by rw[q];simp}⟩
def Un.refl:Un fs ex H H h h:=Un.kept λ_ _ q=>q
def Un.laid(k:∀b u,h.get? b=some u->h'.get? b=some u)(J:h.objs.size<=a)(I:H a=none):Un fs ex H (upd H a o) h h' where
 keep:=λb u q _ _ _=>k b u q
 slot:=λb u q _ _ _=>{u.slots,k b u q}
 free:=λb u q n _=>by rw[qp<|A3<|AL (wh q) J];exact n
 there:=λb u q _=>{u,k b u q}
 SZ:=λb U q=>by rw[qp<|j6 q I];exact q
 Xp:=λb u U q=>by rw[qp<|j6 q I];exact q
 Xv:=λb g q=>{#[],by rw[qp<|j6 q I,q];simp}
def Un.write(J:Fp<|H x)(p:e=x\/H e=some (.own x))(k:∀b u,b≠e->h.get? b=some u->h'.get? b=some u)(U:∃u,h'.get? e=some u):Un fs ex H (upd H x o) h h':=by
 have j:∀b,H b=none->b≠x:=λb n z=>by subst z;rw[n] at J;exact J
 have l:∀b,H b=none->b≠e:=λb n z=>by
  subst z;rcases p with r|r
  .exact j b n r
  .rw[n] at r;cases r
 have g:∀b u,H b=some u->¬Fp (some u)->b≠x:=λb u q nm z=>by subst z;rw[q] at J;exact nm J
 refine{λb u q n _ _=>k b u (l b n) q,λb u q n _ _=>{u.slots,k b u (l b n) q},λb u q n _=>by rw[qp<|j b n];exact n,λb u q _=>?_,
  λb t q=>by rw[qp<|g b _ q λz=>z];exact q,λb u t q=>by rw[qp<|g b _ q λz=>z];exact q,λb C q=>{#[],by rw[qp<|g b _ q λz=>z,q];simp}}
 by_cases I:b=e
 .subst I;exact U
 .exact{u,k b u I q}
end
def FZ(h:W4)(H:Hp):List Addr:=(List.range h.objs.size).filter λa=>(H a).isSome
def rm(h:W4)(H:Hp):W4:=PySem.W.hideAll h<|FZ h H
def M9(h:W4)(H:Hp):(rm h H).objs.size=h.objs.size:=PySem.W.hideAll_size _ _
def Na{H:Hp}{b:Addr}{o:Obj}(e:h.get? b=some o)(n:H b=none):(rm h H).get? b=some o:=
 C6 _ e λI=>by have q:=(AR.mp I).2;rw[n] at q;simp at q
def Nb{H:Hp}{b:Addr}{o:Obj}(e:(rm h H).get? b=some o):h.get? b=some o/\H b=none:=by
 have I:=CL (FZ h H) e;refine{I,?_};cases q:H b with
 |none=>rfl
 |some x=>
  have J:b∈FZ h H:=AR.mpr {AX.mpr<|wh I,by simp[q]};have z:(rm h H).get? b=none:=BU (FZ h H) J;rw[z] at e;cases e
variable {xs:List V}{H H' H₀:Hp}{v:V}{kvs:List<|List jn×V}
structure Mod(K:Af)(mg:WM)(base:W4):Prop where
 Zl:K.In base
 glob:base.Ns mainGlobals mg
 blt:∃mb,base.Ns builtinsNs mb/\∀x:Str,x ≠ "__name__" -> mb x=bootBuiltins x
 nolimit:base.NoLimit
structure Cx where
 prog:W2
 w:W3
 K:Af
 mg:WM
 base:W4
 A:Around
 N:WS
 s₀:W1
 H₀:Hp
 env:Env
 outer:List Env
 stack:List Env
 ex:List Addr
 fn:Str->Bool
 calm:Bool
 pn:List (Addr×Obj)
 xe:WK
abbrev _w(X:Cx){α:Type}:=@wpAny α (model X.prog X.w) X.A
def cj(l:List Env):List Addr:=l.filterMap (·.frame)
abbrev Cx.fs(X:Cx):List Addr:=cj X.outer
def A'(I:Scope)(x:Str):Prop:=I.names.lookup x=some .local\/I.names.lookup x=some .cell\/I.names.lookup x=some .free
def Loc(I:Scope)(x:Str):Prop:=I.names.lookup x=some .local\/I.names.lookup x=some .cell
def Nc(env:Env)(h:W4)(m:WM)(x:Str)(u:W0):Prop:=
 (env.kindOf x=some .local/\m x=some u)\/((env.kindOf x=some .cell\/env.kindOf x=some .free)/\∃c,env.cells.lookup x=some c/\h.IsCell c (some u))
structure Cx.Ok(X:Cx):Prop where
 mod:Mod X.K X.mg X.base
 kind:X.env.scope.kind=.function
 glob:X.env.globals=mainGlobals
 blt:X.env.builtins=builtinsNs
 above:X.s₀.heap.objs.size<=X.env.locals
 inj:∀x y c,X.env.cells.lookup x=some c->X.env.cells.lookup y=some c->x=y
 has:∀x,(X.env.kindOf x=some .cell\/X.env.kindOf x=some .free)->∃c,X.env.cells.lookup x=some c
 YW:∀x c,X.fn x=true->X.env.cells.lookup x=some c->X.s₀.heap.objs.size<=c
 hd:X.calm=true->X.A.handled=none
 frames:X.A.frames=some X.stack
 Y3:X.stack=X.outer\/(X.stack=X.env::X.outer/\X.env.frame=some X.env.locals)
 Y9:∀b∈X.ex,b≠X.env.locals/\∀x c,X.env.cells.lookup x=some c->c≠b
 bs:∀b o,X.base.get? b=some o->X.s₀.heap.get? b=some o/\X.H₀ b=none
 YA:X.base.objs.size<=X.s₀.heap.objs.size
 XE:∀b o,X.base.get? b=some o->b∉X.ex
 XF:∀b∈X.ex,b∉X.fs
 Xm:X.s₀.heap.FunFrames X.base X.outer
 YL:∀b∈X.fs,X.H₀ b=none
structure qx(X:Cx)(pins:List<|Addr×Obj)(σ:List<|W7)(H:Hp)(s:W1):Prop where
 ok:X.Ok
 os:s.os=X.s₀.os
 bare:AllBare s.gens
 base:Un X.fs X.ex X.H₀ H X.s₀.heap s.heap
 loc:∃m,s.heap.Ns X.env.locals m/\∀(i:Nat) (x:Str) (v:V),X.N[i]?=some x->σ[i]?=some (some v)->A' X.env.scope x->∃u,zr v u/\Nc X.env s.heap m x u
 cell:∀x c,X.env.cells.lookup x=some c->∃v,s.heap.IsCell c v
 free:H X.env.locals=none
 On:∀x c,X.env.cells.lookup x=some c->H c=none
 pin:∀p∈X.pn++pins,s.heap.get? p.1=some p.2/\H p.1=none/\p.1≠X.env.locals/\p.1∉X.fs/\∀v,p.2.data≠.cell v
 GT:fF X.prog X.w H s.heap
 len:σ.length=X.N.length
 tk:0<s.toks
section
variable {X:Cx}{σ:List<|W7}
theorem Cx.Ok.ZV(ok:X.Ok){b:Addr}{o:Obj}(e:X.base.get? b=some o):b∉X.fs:=λI=>by have:=(ok.Xm.mem I).1;rw[e] at this;cases this
theorem qx.bs(I:qx X pins σ H s):∀b o,X.base.get? b=some o->s.heap.get? b=some o/\H b=none:=λb o e=>
 ⟨I.base.keep b o (I.ok.bs b o e).1 (I.ok.bs b o e).2 (I.ok.ZV e)<|I.ok.XE b o e,I.base.free b o (I.ok.bs b o e).1 (I.ok.bs b o e).2<|I.ok.XE b o e⟩
def qx.bk(I:qx X pins σ H s):∀b o,X.base.get? b=some o->s.heap.get? b=some o:=λb o e=>(I.bs b o e).1
theorem qx.mod(I:qx X pins σ H s):Mod X.K X.mg X.base:=I.ok.mod
def qx.SL(I:qx X pins σ H s):X.K.In s.heap:=I.ok.mod.Zl.keeps I.bk
theorem qx.nolimit(I:qx X pins σ H s):s.heap.NoLimit:=I.ok.mod.nolimit.keeps I.bk
theorem qx.lt(I:qx X pins σ H s):X.env.locals<s.heap.objs.size:=let ⟨_,J,_⟩:=I.loc;J.lt
def qx.sz(I:qx X pins σ H s):X.s₀.heap.objs.size<=s.heap.objs.size:=AS I.ok.above<|Bk I.lt
def qx.Zm(I:qx X pins σ H s){a:Addr}(h:s.heap.objs.size<=a):a∉X.fs:=λJ=>by obtain⟨_,o,U,_⟩:=I.ok.Xm.mem J;exact absurd (AL (wh U)<|AS I.sz h)<|Df _
def qx.Y2(I:qx X pins σ H s):∀x c,X.env.cells.lookup x=some c->c≠X.env.locals:=λx c e z=>by obtain⟨v,o,g,hd⟩:=I.cell x c e;obtain⟨m,⟨j,l,p,J,U,_⟩,_⟩:=I.loc;rw[z,J] at g;cases g;rw[U] at hd;cases hd
theorem qx.Xm(I:qx X pins σ H s):s.heap.FunFrames X.base X.outer:=by
 have all:∀(l:List Env),(∀b∈cj l,b∈X.fs)->X.s₀.heap.FunFrames X.base l->s.heap.FunFrames X.base l:=by
  intro l
  induction l with
  |nil=>intro _ _;trivial
  |cons p r t=>
   rintro j⟨T,⟨L,o,J,hn,ho,hd⟩,hr⟩;have U:=j L (by unfold cj;rw[CC,J];exact Ao);obtain⟨sl,e⟩:=I.base.slot L o ho (I.ok.YL L U) U λz=>I.ok.XF L z U;exact{T,{L,_,J,hn,e,hd},t (λb g=>j b (by unfold cj;rw[CC,J];exact Ai _ g)) hr}
 exact all X.outer (λ_ g=>g) I.ok.Xm
def qx.stack(I:qx X pins σ H s):s.heap.FunFrames X.base X.stack:=by
 rcases I.ok.Y3 with e|⟨e,J⟩
 .rw[e];exact I.Xm
 .rw[e];obtain⟨m,U,_⟩:=I.loc;refine .cons (by rw[I.ok.kind];decide) J U ?_ I.Xm;exact Heap.get?_none_of_le<|AS I.ok.YA I.ok.above
def qx.Xo(I:qx X pins σ H s):∀b∈cj X.stack,b∈X.env.locals::X.fs:=λb J=>by
 rcases I.ok.Y3 with e|⟨e,U⟩
 .rw[e] at J;exact Ai _ J
 .rw[e] at J;unfold cj at J;rw[CC,U] at J;exact J
def qx.XR(I:qx X pins σ H s):∀b∈cj X.stack,H b=none:=λb J=>by
 rcases As.mp (I.Xo b J) with e|J
 .rw[e];exact I.free
 .obtain⟨_,o,U,_⟩:=I.ok.Xm.mem J;exact I.base.free b o U (I.ok.YL b J) λz=>I.ok.XF b z J
def qx.step{g':Array GenState}{d':Drawn}(I:qx X pins σ H s)
 (U:∀b∈ch,(b∈X.ex\/X.s₀.heap.objs.size<=b)/\b≠X.env.locals/\(∀x c,X.env.cells.lookup x=some c->c≠b)/\∀p∈X.pn++pins,p.1≠b)
 (keep:∀b o,b≠X.env.locals->b∉X.fs->b∉ch->s.heap.get? b=some o->H b=none->h'.get? b=some o)
 (slot:∀b o,b≠X.env.locals->b∈X.fs->b∉ch->s.heap.get? b=some o->H b=none->∃sl,h'.get? b=some {o with slots:=sl}) (free:∀b o,b∉ch->s.heap.get? b=some o->H b=none->H' b=none)
 (there:∀b o,b∉ch->s.heap.get? b=some o->∃o',h'.get? b=some o')
 (SZ:∀b xs,H b=some (.tup xs)->H' b=some (.tup xs)) (Xp:∀b o u,H b=some (.Xs o u)->H' b=some (.Xs o u)) (Xv:∀b ps,H b=some (.XN ps)->∃more,H' b=some (.XN<|ps++more))
 (ns:∀m,s.heap.Ns X.env.locals m->h'.Ns X.env.locals m) (GT:fF X.prog X.w H' h') (hg:AllBare g') (ht:0<t':=by walk_at "t"):
 qx X pins σ H' {s with heap:=h',gens:=g',drawn:=d',toks:=t'}:=by
 have w9:∀b o,X.s₀.heap.get? b=some o->b≠X.env.locals:=λb o e=>A3<|AL (wh e) I.ok.above;have t:∀b o,X.s₀.heap.get? b=some o->b∉X.ex->b∉ch:=λb o e J T=>by
  rcases (U b T).1 with z|z
  .exact J z
  .exact absurd (AL (wh e) z)<|Df _
 have g:∀x c,X.env.cells.lookup x=some c->∀v,s.heap.IsCell c v->h'.IsCell c v:=λx c e v ψ=>by
  obtain⟨o,ho,hd⟩:=ψ
  have j:c∉ch:=λz=>(U c z).2.2.1 x c e rfl;by_cases hc:c∈X.fs
  .obtain⟨sl,q⟩:=slot c o (I.Y2 x c e) hc j ho<|I.On x c e;exact{_,q,hd}
  .exact{o,keep c o (I.Y2 x c e) hc j ho<|I.On x c e,hd}
 refine{I.ok,I.os,hg,{λb o e n T J=>?_,λb o e n T J=>?_,λb o e n J=>?_,λb o e J=>?_,λb xs e=>SZ b xs<|I.base.SZ b xs e,λb o xs e=>Xp b o xs<|I.base.Xp b o xs e,λb ps e=>?_},?_,λx c e=>?_,?_,λx c e=>?_,λp hp=>?_,GT,I.len,ht}
 .exact keep b o (w9 b o e) T (t b o e J) (I.base.keep b o e n T J)<|I.base.free b o e n J
 .obtain⟨sl,C⟩:=I.base.slot b o e n T J;obtain⟨a1,e2⟩:=slot b _ (w9 b o e) T (t b o e J) C<|I.base.free b o e n J;exact{(a1),e2}
 .obtain⟨o',C⟩:=I.base.there b o e J;exact free b o' (t b o e J) C<|I.base.free b o e n J
 .obtain⟨o',C⟩:=I.base.there b o e J;exact there b o' (t b o e J) C
 .obtain⟨m1,C⟩:=I.base.Xv b ps e;obtain⟨m2,e2⟩:=Xv b _ C;exact{m1++m2,by rw[e2,Array.append_assoc]}
 .obtain⟨m,hn,hl⟩:=I.loc;refine{m,ns m hn,λi x v C e2 e3=>?_};obtain⟨u,r,l⟩:=hl i x v C e2 e3;refine{u,r,?_};rcases l with l|⟨k,c,e,z⟩
  .exact .inl l
  .exact .inr {k,c,e,g x c e _ z}
 .obtain⟨v,z⟩:=I.cell x c e;exact{v,g x c e v z}
 .obtain⟨m,⟨o,_,_,ho,_⟩,_⟩:=I.loc;exact free _ o (λz=>(U _ z).2.1 rfl) ho I.free
 .obtain⟨v,o,ho,hd⟩:=I.cell x c e;exact free c o (λz=>(U c z).2.2.1 x c e rfl) ho<|I.On x c e
 .obtain⟨e,n,ne,nf,d⟩:=I.pin p hp;have j:p.1∉ch:=λz=>(U p.1 z).2.2.2 p hp rfl;exact{keep p.1 p.2 ne nf j e n,free p.1 p.2 j e n,ne,nf,d}
def qx.un(I:qx X pins σ H s)(u:Un X.fs [] H H' s.heap h')(GT:fF X.prog X.w H' h')(T:0<t':=by walk_at "t"):qx X pins σ H' {s with heap:=h',toks:=t'}:=by obtain⟨m,⟨o,es,ep,l,r⟩,_⟩:=id I.loc;obtain⟨sl,p⟩:=u.any l I.free (by simp);exact I.step (g':=s.gens) (d':=s.drawn) (ch:=[]) (λ_ z=>nomatch z) (λb o _ U _ e n=>u.keep b o e n U (by simp)) (λb o _ U _ e n=>u.slot b o e n U (by simp)) (λb o _ e n=>u.free b o e n (by simp)) (λb o _ e=>u.there b o e (by simp)) u.SZ u.Xp u.Xv (λm' t=>by obtain⟨o',g,j,J,C⟩:=t;rw[l] at J;cases J;exact{_,g,j,p,C}) GT I.bare
def qx.call{g':Array GenState}{d':Drawn}(I:qx X pins σ H s)(u:Un (cj X.stack) ch H H' s.heap h')(GT:fF X.prog X.w H' h')(T:AllBare g')
 (U:∀b∈ch,(b∈X.ex\/X.s₀.heap.objs.size<=b)/\b≠X.env.locals/\(∀x c,X.env.cells.lookup x=some c->c≠b)/\∀p∈X.pn++pins,p.1≠b) (ht:0<t':=by walk_at "t"):
 qx X pins σ H' {s with heap:=h',gens:=g',drawn:=d',toks:=t'}:=by
 obtain⟨m,⟨o,es,ep,C,r⟩,_⟩:=id I.loc;obtain⟨sl,j⟩:=u.any C I.free λz=>(U _ z).2.1 rfl;exact I.step (ch:=ch) U (λb o j hb J e n=>u.keep b o e n (λz=>(As.mp<|I.Xo b z).elim j hb) J) (λb o _ _ J e n=>u.any e n J) (λb o J e n=>u.free b o e n J) (λb o J e=>u.there b o e J) u.SZ u.Xp u.Xv (λm' hm=>by obtain⟨o',l,t,g,r'⟩:=hm;rw[C] at g;cases g;exact{_,l,t,j,r'}) GT T
def qx.turned(I:qx X pins σ H s)(k:∀b o,b≠it->s.heap.get? b=some o->h'.get? b=some o)(j:H it=none)(g:it≠X.env.locals)
 (h1:it∈X.ex\/X.s₀.heap.objs.size<=it) (h2:∀x c,X.env.cells.lookup x=some c->c≠it) (h3:∀p∈X.pn++pins,p.1≠it) (ht:0<t':=by walk_at "t"):qx X pins σ H {s with heap:=h',toks:=t'}:=by
 have U:∀b u,H b=some u->b≠it:=λb u e z=>by rw[z,j] at e;cases e
 refine I.step (g':=s.gens) (d':=s.drawn) (ch:=[it]) (λb l=>?_) (λb o _ _ J e _=>k b o (λz=>J (by simp[z])) e) (λb o _ _ J e _=>{o.slots,k b o (λz=>J (by simp[z])) e}) (λ_ _ _ _ n=>n)
  (λb o J e=>{o,k b o (λz=>J (by simp[z])) e}) (λ_ _ e=>e) (λ_ _ _ e=>e) (λb ps e=>{#[],by rw[e];simp}) (λm t=>?_) (λb u e=>?_) I.bare
 .have e:b=it:=by simpa using l
  subst e;exact{(h1),g,h2,h3}
 .obtain⟨o,C,T,ho,r⟩:=t;exact{o,C,T,k _ o (AG g) ho,r}
 .refine(I.GT b u e).Xx (λc v J q=>k c v ?_ q) (λ_ q=>q) λ_ _ q=>q;rcases J with z|z
  .rw[z];exact U b u e
  .exact U c _ z
def qx.tok(I:qx X pins σ H s)(t:Nat)(J:0<t:=by walk_at "t"):qx X pins σ H {s with toks:=t}:=I.un (h':=s.heap) (t':=t) Un.refl I.GT
theorem qx.kept(I:qx X pins σ H s)(k:∀b u,s.heap.get? b=some u->h'.get? b=some u)(J:0<t':=by walk_at "t"):qx X pins σ H {s with heap:=h',toks:=t'}:=I.un (Un.kept k)<|I.GT.kept k
theorem qx.laid{a:Addr}{o:HO}(I:qx X pins σ H s)(k:∀b u,s.heap.get? b=some u->h'.get? b=some u)(J:s.heap.objs.size<=a)(new:xu X.prog X.w (upd H a o) h' a o)(U:0<t':=by walk_at "t"):
 qx X pins σ (upd H a o) {s with heap:=h',toks:=t'}:=I.un (Un.laid k J<|I.GT.fresh J)<|I.GT.laid k J new
theorem qx.write{x e:Addr}{o:HO}(I:qx X pins σ H s)(U:Fp<|H x)(g:e=x\/H e=some (.own x))(k:∀b u,b≠e->s.heap.get? b=some u->h'.get? b=some u)(J:∃u,h'.get? e=some u)
 (new:xu X.prog X.w (upd H x o) h' x o) (j:0<t':=by walk_at "t"):qx X pins σ (upd H x o) {s with heap:=h',toks:=t'}:=I.un (Un.write U g k J)<|I.GT.write U g k J new
def qx.weak{hE:List<|W7}(I:qx X pins σ H s)(U:hE.length=σ.length)(w:∀(i:Nat) v,hE[i]?=some (some v)->σ[i]?=some (some v)):qx X pins hE H s:=
 ⟨I.ok,I.os,I.bare,I.base,let ⟨m,g,J⟩:=I.loc;⟨m,g,λi x v j l o=>J i x v j (w i v l) o⟩,I.cell,I.free,I.On,I.pin,I.GT,U.trans I.len,I.tk⟩
def qx.XS{J:List<|Addr×Obj}(I:qx X pins σ H s)(h:∀p∈J,s.heap.get? p.1=some p.2/\H p.1=none/\p.1≠X.env.locals/\p.1∉X.fs/\∀v,p.2.data≠.cell v):qx X J σ H s:=
 ⟨I.ok,I.os,I.bare,I.base,I.loc,I.cell,I.free,I.On,λp U=>(Ak.mp U).elim (λz=>I.pin p<|An _ z)<|h p,I.GT,I.len,I.tk⟩
def nI{N:WS}(hN:N.Nodup)(a:N[i]?=some x)(b:N[j]?=some x):i=j:=by obtain⟨h1,I⟩:=AN.mp a;obtain⟨h2,J⟩:=AN.mp b;exact(Es hN).mp (I.trans J.symm)
def rJ{Q:WL}(I:qx X pins σ H s)(hN:X.N.Nodup)(hi:X.N[i]?=some x)(t:Loc X.env.scope x)(r:zr v u)
 (h:∀s',qx X pins (σ.set i<|some v) H s'->(∃a,Heap.SameBut a s.heap s'.heap/\(a=X.env.locals\/X.env.cells.lookup x=some a))->(X.env.kindOf x=some .local->∃m',s'.heap.Ns X.env.locals m'/\m' x=some u)->Q () s') (hf:X.fn x=true\/X.env.scope.names.lookup x=some .local:=by first|exact .inl rfl|exact .inr rfl|assumption):wpAny M A (storeName X.env x u) Q E s:=by
 obtain⟨m,hn,hl⟩:=id I.loc;have a3:(X.env.scope.kind==.class||(X.env.scope.kind==.module&&X.env.locals != X.env.globals))=false:=by rw[I.ok.kind];rfl
 have a1:i<σ.length:=by rw[I.len];exact(AN.mp hi).1
 have Y2:=I.Y2;have U:∀{a:Addr} {h':W4},(∃o,s.heap.get? a=some o/\H a=none)->Heap.SameBut a s.heap h'->fF X.prog X.w H h':=λ{a h'} ha J b ob e=>by
  obtain⟨_,_,C⟩:=ha;refine(I.GT b ob e).Xx (λc w' l q=>(J.2 c ?_).trans q) (λ_ q=>q) λ_ _ q=>q;rintro rfl;rcases l with rfl|l
  .rw[C] at e;cases e
  .rw[C] at l;cases l
 rcases t with T|T
 .refine wpAny_storeName_local T hn (λh' a4 J=>?_) a3;obtain⟨oL,_,_,aL,_⟩:=id hn;refine h _ {I.ok,I.os,I.bare,{λb o e n hb t=>?_,λb o e n hb t=>?_,I.base.free,λb o e t=>?_,I.base.SZ,I.base.Xp,I.base.Xv},{_,a4,λj y v' g e2 e3=>?_},λy c e=>?_,I.free,I.On,λp hp=>?_,U {(oL),aL,I.free} J,by simpa using I.len,by first|exact I.tk|exact BA _} {_,J,.inl rfl} λ_=>{_,a4,by simp}
  .exact(J.2 b<|A3<|AL (wh e) I.ok.above).trans (I.base.keep b o e n hb t)
  .obtain⟨sl,g⟩:=I.base.slot b o e n hb t;exact{sl,(J.2 b<|A3<|AL (wh e) I.ok.above).trans g}
  .obtain⟨o',g⟩:=I.base.there b o e t;exact{o',(J.2 b<|A3<|AL (wh e) I.ok.above).trans g}
  .by_cases hj:j=i
   .subst hj;rw[hi] at g;cases g;rw[Bl a1] at e2;cases e2;exact{u,r,.inl {T,by simp}}
   .rw[AY<|AG hj] at e2;obtain⟨u',r',q⟩:=hl j y v' g e2 e3;refine{u',r',?_};rcases q with⟨k,e⟩|⟨k,c,e,z⟩
    .refine .inl {k,?_};have:y≠x:=λe=>hj<|nI hN g<|e▸hi;simp[this,e]
    .exact .inr {k,c,e,z.sameBut J<|Y2 y c e}
  .obtain⟨w',z⟩:=I.cell y c e;exact{w',z.sameBut J<|Y2 y c e}
  .obtain⟨e,n,ne,nf,d⟩:=I.pin p hp;exact{(J.2 p.1 ne).trans e,n,ne,nf,d}
 .have a2:X.fn x=true:=by
   rcases hf with z|z
   .exact z
   .rw[z] at T;cases T
  obtain⟨c,l⟩:=I.ok.has x<|.inl T;obtain⟨w',z⟩:=I.cell x c l;refine wpAny_storeName_cell I.ok.kind T l z λh' a5 J=>?_;obtain⟨oc,ac,al⟩:=id z;refine h {s with heap:=h'} {I.ok,I.os,I.bare,{λb o e n hb t=>?_,λb o e n hb t=>?_,I.base.free,λb o e t=>?_,I.base.SZ,I.base.Xp,I.base.Xv},{m,hn.sameBut J<|AG<|Y2 x c l,λj y v' g e2 e3=>?_},λy c' e=>?_,I.free,I.On,λp hp=>?_,U {oc,ac,I.On x c l} J,by simpa using I.len,I.tk} {c,J,.inr l} (λz=>by have e:=(show X.env.kindOf x=some .cell from T).symm.trans z;cases e)
  .exact(J.2 b<|A3<|AL (wh e)<|I.ok.YW x c a2 l).trans (I.base.keep b o e n hb t)
  .obtain⟨sl,g⟩:=I.base.slot b o e n hb t;exact{sl,(J.2 b<|A3<|AL (wh e)<|I.ok.YW x c a2 l).trans g}
  .obtain⟨o',g⟩:=I.base.there b o e t;exact{o',(J.2 b<|A3<|AL (wh e)<|I.ok.YW x c a2 l).trans g}
  .by_cases hj:j=i
   .subst hj;rw[hi] at g;cases g;rw[Bl a1] at e2;cases e2;exact{u,r,.inr {.inl T,c,l,a5}}
   .rw[AY<|AG hj] at e2;obtain⟨u',r',q⟩:=hl j y v' g e2 e3;refine{u',r',?_};rcases q with q|⟨k,c',e,z'⟩
    .exact .inl q
    .refine .inr {k,c',e,z'.sameBut J ?_};rintro rfl;exact hj<|nI hN g<|I.ok.inj _ _ _ e l▸hi
  .by_cases ay:c'=c
   .subst ay;exact{_,a5}
   .obtain⟨w2,z2⟩:=I.cell y c' e;exact{w2,z2.sameBut J ay}
  .obtain⟨e,n,ne,nf,d⟩:=I.pin p hp;refine{(J.2 p.1 ?_).trans e,n,ne,nf,d};intro q;rw[q,ac] at e;have q':=A2 e;exact d w' (by rw[<-q'];exact al)
def bB{Q:WL}(I:qx X pins σ H s)(hN:X.N.Nodup)(hi:X.N[i]?=some x)(J:Loc X.env.scope x)(r:zr v u)
 (h:∀s',qx X pins (σ.set i<|some v) H s'->Q () s') (U:X.fn x=true\/X.env.scope.names.lookup x=some .local:=by first|exact .inl rfl|exact .inr rfl|assumption):wpAny M A (storeName X.env x u) Q E s:=
 rJ I hN hi J r (λs' g _ _=>h s' g) U
def qx.Yh(I:qx X pins σ H s)(U:s'.os=s.os)(u:Un (cj X.stack) ch H H' s.heap s'.heap)(GT:fF X.prog X.w H' s'.heap)(g:AllBare s'.gens)
 (J:∀b∈ch,(b∈X.ex\/X.s₀.heap.objs.size<=b)/\b≠X.env.locals/\(∀x c,X.env.cells.lookup x=some c->c≠b)/\∀p∈X.pn++pins,p.1≠b) (j:0<s'.toks:=by walk_at "t"):qx X pins σ H' s':=by
 obtain⟨l,g',d',t',o⟩:=s';have e:=U;subst e;exact I.call (g':=g') (t':=t') (d':=d') u GT g J j
end
abbrev XK:=W0->Option Addr->Hp->Prop
abbrev St:=List<|W7
abbrev VK:=V->Hp->Prop
abbrev TE:=St->Hp->VK->Prop
abbrev TT:=St->Hp->(Bool->Hp->Prop)->Prop
abbrev TA:=St->Hp->(W6->Hp->Prop)->Prop
structure o6 where
 nx:St->Hp->Prop
 rt:VK
 bk:St->Hp->Prop:=λ_ _=>False
 ct:St->Hp->Prop:=λ_ _=>False
abbrev TS:=o6->St->Hp->Prop
def EP(X:Cx)(pins:List<|Addr×Obj)(σ:St)(Q:VK)(u:W0)(s':W1):Prop:=∃v H',qx X pins σ H' s'/\zr v u/\Q v H'
def TP(X:Cx)(pins:List<|Addr×Obj)(σ:St)(Q:Bool->Hp->Prop)(b:Bool)(s':W1):Prop:=∃H',qx X pins σ H' s'/\Q b H'
def AP(X:Cx)(pins:List<|Addr×Obj)(σ:St)(Q:W6->Hp->Prop)(us:WP)(s':W1):Prop:=∃vs H',qx X pins σ H' s'/\zk vs us/\Q vs H'
def SP(X:Cx)(pins:List<|Addr×Obj)(D:o6)(f:Flow)(s':W1):Prop:=
 match f with
 |.next=>∃hE H',qx X pins hE H' s'/\D.nx hE H'
 |.brk=>∃hE H',qx X pins hE H' s'/\D.bk hE H'
 |.cont=>∃hE H',qx X pins hE H' s'/\D.ct hE H'
 |.ret u=>∃v hE H',qx X pins hE H' s'/\zr v u/\D.rt v H'
def PE(X:Cx)(e:Expr)(t:TE):Prop:=
 ∀(pins:List<|Addr×Obj) (s:W1) (σ:St) (H:Hp) (Q:VK),qx X pins σ H s->t σ H Q->_w X (eval e X.env) (EP X pins σ Q) X.xe s
def PT(X:Cx)(e:Expr)(t:TT):Prop:=
 ∀(pins:List<|Addr×Obj) (s:W1) (σ:St) (H:Hp) (Q:Bool->Hp->Prop),qx X pins σ H s->t σ H Q->_w X (isTrue e X.env<|eval e X.env) (TP X pins σ Q) X.xe s
def PW(X:Cx)(e:Expr)(t:TT):Prop:=
 ∀(whole:Sem W0) (pins:List<|Addr×Obj) (s:W1) (σ:St) (H:Hp) (Q:Bool->Hp->Prop),qx X pins σ H s->t σ H Q->_w X (isTrue e X.env whole) (TP X pins σ Q) X.xe s
def PW.pt{X:Cx}{t:TT}(h:PW X e t):PT X e t:=h _
def PA(X:Cx)(es:WT)(t:TA):Prop:=
 ∀(pos:Pos) (pins:List<|Addr×Obj) (s:W1) (σ:St) (H:Hp) (Q:W6->Hp->Prop),qx X pins σ H s->t σ H Q->_w X (spliced<|backTo pos<|starEach es X.env) (AP X pins σ Q) X.xe s
def PS(X:Cx)(st:Stmt)(t:TS):Prop:=
 ∀(pins:List<|Addr×Obj) (s:W1) (σ:St) (H:Hp) (D:o6),qx X pins σ H s->t D σ H->_w X (exec st X.env) (SP X pins D) X.xe s
def jA(X:Cx)(st:WU)(t:TS):Prop:=
 ∀(pins:List<|Addr×Obj) (s:W1) (σ:St) (H:Hp) (D:o6),qx X pins σ H s->t D σ H->_w X (execs st X.env) (SP X pins D) X.xe s
def aM{t:Sem α}{Q I:α->W1->Prop}(h:wpAny M A t Q E s)(J:∀a s,Q a s->I a s):wpAny M A t I E s:=AZ h J λ_ _ x=>x
def bO{t:Sem W0}{X:Cx}{σ:St}{Q:VK}{I:WK}(h:wpAny M A t (EP X pins σ Q) E s)(J:∀v s x H,qx X pins σ H s->zr x v->Q x H->I v s):wpAny M A t I E s:=aM h λv s ψ=>(by obtain⟨x,H,a,b,c⟩:=ψ;exact J v s x H a b c)
def Ct{t:Sem<|WP}{X:Cx}{σ:St}{Q:W6->Hp->Prop}{I:WP->W1->Prop}(h:wpAny M A t (AP X pins σ Q) E s)(J:∀v s x H,qx X pins σ H s->zk x v->Q x H->I v s):wpAny M A t I E s:=aM h λv s ψ=>(by obtain⟨x,H,a,b,c⟩:=ψ;exact J v s x H a b c)
variable {r:V->WX->WX->Hp->VK->Prop}{X:Cx}{σ:St}
section
def amp(i:Nat):TE:=λσ H Q=>∃v,σ[i]?=some (some v)/\Q v H
def tC(v:V):TE:=λ_ H Q=>Q v H
abbrev Fe(x:Str):Prop:=(x==("__debug__":Str))=false
abbrev Ff(x:Str):Prop:=(x==("__classdict__":Str))=false
def Nd(hN:X.N[i]?=some x)(p:A' X.env.scope x)(hd:Fe x:=by decide)(j:Ff x:=by decide):PE X (.Name x pos) (amp i):=by
 rintro g s t H Q I⟨v,e,h⟩;obtain⟨m,C,T⟩:=I.loc;obtain⟨u,r,l⟩:=T i x v hN e p;have vd:EP X g t Q u s:={(v),H,I,r,h};rcases l with⟨U,hm⟩|⟨U,c,o,J⟩
 .exact wpAny_Name (wpAny_loadName_local I.ok.kind U C hm vd) hd
 .rcases U with U|U
  .exact wpAny_Name (wpAny_loadName_cell I.ok.kind U o J vd) hd
  .exact wpAny_Name (wpAny_loadName_free I.ok.kind U o J vd j) hd
def Nf{i j pos}:PE X (.Constant (.int i) j pos) (tC<|.int i):=λ_ _ _ H _ I h=>wpAny_Constant_int {.int i,H,I.tok _,{_,rfl},h}
def Ng{b j pos}:PE X (.Constant (.bool b) j pos) (tC<|.bl b):=λ_ _ _ H _ I h=>Constant_bool {.bl b,H,I,rfl,h}
def Nh{j pos}:PE X (.Constant .none j pos) (tC .GM):=λ_ _ _ H _ I h=>Constant_none {.GM,H,I,rfl,h}
def df{x j pos}:PE X (.Constant (.str x) j pos) (tC<|.str x):=λ_ _ _ H _ I h=>Calls.Constant_str {.str x,H,I.tok _,{_,rfl},h}
def Gl(X:Cx)(x:Str):Prop:=X.env.kindOf x=some .globalImplicit
def iQ(I:qx X pins σ H s)(J:Gl X x)(U:X.mg x=some u)(h:Q u s)
 (hd:Fe x:=by decide):_w X (eval (.Name x pos) X.env) Q E s:=
 Calls.Name_function_global I.ok.kind J (Calls.loadGlobal_global (by rw[I.ok.glob];exact I.mod.glob.keeps I.bk) U h) hd
def eG(I:qx X pins σ H s)(J:Gl X x)(U:X.mg x=none)(g:bootBuiltins x=some u)(h:Q u s)
 (j:x ≠ "__name__" := by decide) (hd:Fe x:=by decide):_w X (eval (.Name x pos) X.env) Q E s:=by
 obtain⟨l,h1,h2⟩:=I.mod.blt;exact Calls.Name_function_global I.ok.kind J (Calls.loadGlobal_builtin (by rw[I.ok.glob];exact I.mod.glob.keeps I.bk) U (by rw[I.ok.blt];exact h1.keeps I.bk) ((h2 x j).trans g) h) hd
def Ni(J:Gl X x)(U:X.mg x=some u)(r:zr v u)(hd:Fe x:=by decide):PE X (.Name x pos) (tC v):=
 λ_ _ _ H _ I h=>iQ I J U {(v),H,I,r,h} hd
def Nj(J:Gl X x)(U:X.mg x=none)(g:bootBuiltins x=some u)(r:zr v u)(j:x ≠ "__name__" := by decide)(hd:Fe x:=by decide):PE X (.Name x pos) (tC v):=
 λ_ _ _ H _ I h=>eG I J U g {(v),H,I,r,h} j hd
variable {a b:Expr}{ta tb:TE}
def PC(X:Cx)(op:CmpOp)(a b:Expr)(t:TE):Prop:=
 ∀(pins:List<|Addr×Obj) (s:W1) (σ:St) (H:Hp) (Q:VK),qx X pins σ H s->t σ H Q->
  _w X (eval a X.env) (λv I=>_w X (eval b X.env) (λu J=>_w X (compareOp op v u) (EP X pins σ Q) X.xe J) X.xe I) X.xe s
def uf(b:Expr){op:CmpOp}(h:op≠.In)(h2:op≠.NotIn):behindInMarks op b=false:=by
 have I:(op==CmpOp.In)=false:=by cases op<;>first|rfl|exact absurd rfl h
 have J:(op==CmpOp.NotIn)=false:=by cases op<;>first|rfl|exact absurd rfl h2
 cases b<;>simp[behindInMarks,I,J]
def HV(ta:TE):TE:=λσ H Q=>ta σ H λx H1=>Q (.bl<|decide<|x=.GM) H1
def HW(ta:TE):TE:=λσ H Q=>ta σ H λx H1=>Q (.bl<|!decide (x=.GM)) H1
def zr.X2{x:V}{v:W0}(r:zr x v):(v==Value.none)=decide (x=.GM):=by
 cases x with
 |GM=>cases r;rfl
 |bl _=>cases r;rfl
 |int _=>obtain⟨t,rfl⟩:=r;rfl
 |str _=>obtain⟨t,rfl⟩:=r;rfl
 |ZP _=>obtain⟨t,rfl⟩:=r;rfl
 |YJ _=>obtain⟨t,rfl⟩:=r;rfl
 |ref _=>cases r;rfl
 |ty _=>cases r;rfl
def HX{j fy}(U:PE X a ta):PC X .Is a (.Constant .none j fy) (HV ta):=by intro J s g H Q I h;refine bO (U J s g H _ I h) λv t x l o p r=>?_;exact Constant_none (is_none_gen {.bl _,l,o,by rw[p.X2];rfl,r})
def zH{j fy}(U:PE X a ta):PC X .IsNot a (.Constant .none j fy) (HW ta):=by intro J s g H Q I h;refine bO (U J s g H _ I h) λv t x l o p r=>?_;exact Constant_none (isnot_none_gen {.bl _,l,o,by rw[p.X2];rfl,r})
def tB(t:TE):TT:=λσ H Q=>t σ H λx H1=>∃c,x=.bl c/\Q c H1
def HY{op:CmpOp}{t:TE}(h:PC X op a b t)(h1:behindInMarks op b=false:=by first|exact uf _ (by decide) (by decide)|rfl):PE X (.Compare a [op] [b] pos) t:=λJ s U H Q I hw=>wpAny_Compare1 (h J s U H Q I hw) h1
def HZ{op:CmpOp}{t:TE}(h:PC X op a b t)(h1:behindInMarks op b=false:=by first|exact uf _ (by decide) (by decide)|rfl):PT X (.Compare a [op] [b] pos) (tB t):=by intro J s U H Q I hw;refine wpAny_isTrue_Compare1 (aM (h J s U H _ I hw) λv p h1=>aM h1 λu r h2=>aM h2 λc C ψ=>?_) h1;obtain⟨x,g,j,l,o⟩:=ψ;obtain⟨d,rfl,q⟩:=o;cases l;exact wpAny_truthy_bool {(g),j,q}
def Nk{t:TE}(h:PE X e t)(U:∀whole,isTrue e X.env whole=(do let v <-whole;standAt e.pos;holding [v] (truthy v)):=by intro _;rfl):PT X e (tB t):=by intro J s g H Q I hw;refine isTrue_plain (bO (h J s g H _ I hw) λv r x j l o p=>?_)<|U _;obtain⟨d,rfl,q⟩:=p;cases o;exact wpAny_truthy_bool {(j),l,q}
variable {tA sM:TT}{rest:WT}
def Nl(t u:TT):TT:=λσ H Q=>t σ H λc H1=>if c=true then u σ H1 Q else Q false H1
def Nm(t u:TT):TT:=λσ H Q=>t σ H λc H1=>if c=true then Q true H1 else u σ H1 Q
def Nn(t:TT):TT:=λσ H Q=>t σ H λc H1=>Q (!c) H1
def No(U:PT X a tA):PW X (.BoolOp .And [a] pos) tA:=by intro j J s g H Q I h;refine isTrue_and<|aM (U J s g H Q I h) λc l e=>?_;cases c with|true=>exact isTrue_and_nil e|false=>exact e
def Np(U:PT X a tA):PW X (.BoolOp .Or [a] pos) tA:=by intro j J s g H Q I h;refine isTrue_or<|aM (U J s g H Q I h) λc l e=>?_;cases c with|false=>exact isTrue_or_nil e|true=>exact e
def Nq(o:PT X a tA)(p:PW X (.BoolOp .And (b::rest) pos) sM):PW X (.BoolOp .And (a::b::rest) pos) (Nl tA sM):=by intro r J s U H Q I h;refine isTrue_and<|aM (o J s U H _ I h) λc t ψ=>?_;obtain⟨g,j,l⟩:=ψ;cases c with|true=>exact p r J t U g Q j l|false=>exact{(g),j,l}
def Nr(o:PT X a tA)(p:PW X (.BoolOp .Or (b::rest) pos) sM):PW X (.BoolOp .Or (a::b::rest) pos) (Nm tA sM):=by intro r J s U H Q I h;refine isTrue_or<|aM (o J s U H _ I h) λc t ψ=>?_;obtain⟨g,j,l⟩:=ψ;cases c with|true=>exact{(g),j,l}|false=>exact p r J t U g Q j l
def Nt(U:PT X a tA):PT X (.UnaryOp .Not a pos) (Nn tA):=by intro J s g H Q I h;exact isTrue_not<|U J s g H (λc j=>Q (!c) j) I h
def Nu(ta tb:TE):TE:=λσ H Q=>ta σ H λx H1=>∃c,x=.bl c/\if c=true then tb σ H1 Q else Q (.bl false) H1
def Nv(ta:TE):TE:=λσ H Q=>ta σ H λx H1=>∃c,x=.bl c/\Q (.bl<|!c) H1
def Nw{op}{t:TE}(h:PE X a t):PE X (.BoolOp op [a] pos) t:=λJ s U H Q I hw=>BoolOp_one<|h J s U H Q I hw
def Nx(o:PE X a ta)(p:PE X (.BoolOp .And (b::rest) pos) tb):PE X (.BoolOp .And (a::b::rest) pos) (Nu ta tb):=by
 intro J s g H Q I h;refine BoolOp_and<|bO (o J s g H _ I h) λv r x j l t U=>?_;obtain⟨c,rfl,U⟩:=U;cases t;refine wpAny_truthy_bool ?_;cases c with
 |true=>exact p J r g j Q l U
 |false=>exact{.bl false,j,l,rfl,U}
def Ny(g:PE X a ta):PE X (.UnaryOp .Not a pos) (Nv ta):=by intro J s j H Q I h;refine UnaryOp_<|bO (g J s j H _ I h) λv r x l o p U=>?_;obtain⟨c,rfl,U⟩:=U;cases p;exact not_of<|wpAny_truthy_bool {.bl<|!c,l,o,rfl,U}
def Nz(t:TT)(ta tb:TE):TE:=λσ H Q=>t σ H λc H1=>if c=true then ta σ H1 Q else tb σ H1 Q
def NA(hc:PT X c tA)(p:PE X a ta)(r:PE X b tb):PE X (.IfExp c a b pos) (Nz tA ta tb):=by intro J s U H Q I h;refine wpAny_IfExp<|aM (hc J s U H _ I h) λd g ψ=>?_;obtain⟨j,l,o⟩:=ψ;cases d with|true=>exact p J g U j Q l o|false=>exact r J g U j Q l o
end
def aY(K:Af)(H:Hp)(a:Addr)(xs:W6):Prop:=
 Rd H a (.lst xs)\/
  ∃(o:Obj) (eH:WQ) (n:Nat),K.lookup a=some o/\o.cls=.type "list" /\ o.dict=none/\o.data=.seq eH n/\eH.size<=sizeLine/\zk xs eH.toList
def dZ(K:Af)(H:Hp)(a:Addr)(xs:W6):Prop:=
 Rd H a (.tup xs)\/
  ∃(o:Obj) (eH:WQ) (n:Nat),K.lookup a=some o/\o.cls=.type "tuple" /\ o.data=.seq eH n/\eH.size<=sizeLine/\zk xs eH.toList
def NB:W0->W7
 |.none=>some .GM
 |.bool b=>some<|.bl b
 |.int i _=>some<|.int i
 |.str x _=>some<|.str x
 |.bytes b _=>some<|.ZP b
 |.float b _=>some<|.YJ b
 |.ref a=>some<|.ref a
 |.type n=>some<|.ty n
 |_=>none
def zr.abs{x:V}(r:zr x u):NB u=some x:=by
 cases x with
 |GM=>cases r;rfl
 |bl _=>cases r;rfl
 |int _=>obtain⟨t,rfl⟩:=r;rfl
 |str _=>obtain⟨t,rfl⟩:=r;rfl
 |ZP _=>obtain⟨t,rfl⟩:=r;rfl
 |YJ _=>obtain⟨t,rfl⟩:=r;rfl
 |ref _=>cases r;rfl
 |ty _=>cases r;rfl
def zr.inj{x y:V}(r:zr x u)(q:zr y u):x=y:=A2<|r.abs.symm.trans q.abs
theorem zk.inj:∀{xs ys:W6} {us:WP},zk xs us->zk ys us->xs=ys:=by
 intro xs ys us h k
 induction h generalizing ys with
 |nil=>cases k;rfl
 |cons r t I=>
  cases k with|cons J U=>rw[r.inj J,I U]
section
variable {a:Addr}{ys:W6}
def aY.of{K:Af}(h:H a=some (.lst xs)):aY K H a xs:=.inl<|.inl h
abbrev FE:=@aY.of
def dZ.of{K:Af}(h:H a=some (.tup xs)):dZ K H a xs:=.inl<|.inl h
def qx.list(I:qx X pins σ H s)(h:aY X.K H a xs):∃eH:WP,zk xs eH/\PlainL s.heap a eH.toArray/\xs.length<=sizeLine:=by
 rcases h with h|⟨o,eH,n,J,U,hd,g,j,r⟩
 .obtain⟨z,eH,n,r,e⟩:=h.ok I.GT;exact{eH,r,{_,n,e,rfl,rfl,rfl},z}
 .refine{eH.toList,r,{o,n,I.SL a o J,U,hd,by simpa using g},?_};have e:=r.length;simp only[A1] at e;lia
def qx.tuple(I:qx X pins σ H s)(h:dZ X.K H a xs):∃eH:WP,zk xs eH/\IsTup s.heap a eH.toArray/\xs.length<=sizeLine:=by
 rcases h with h|⟨o,eH,n,J,U,g,j,r⟩
 .obtain⟨z,eH,r,p⟩:=h.ok I.GT;exact{(eH),r,p,z}
 .refine{eH.toList,r,{o,I.SL a o J,U,n,by simpa using g},?_};have e:=r.length;simp only[A1] at e;lia
def qx.W9(I:qx X pins σ H s)(h:aY X.K H a xs)(h':aY X.K H a ys):xs=ys:=by
 obtain⟨U,r,⟨o,n,e,_,_,d⟩,_⟩:=I.list h;obtain⟨J,l,⟨p,t,g,_,_,j⟩,_⟩:=I.list h';rw[e] at g;cases g;rw[d] at j;injection j with d1 _
 have:U=J:=by simpa using Br Array.toList d1
 subst this;exact r.inj l
def qx.Xj(I:qx X pins σ H s)(h:dZ X.K H a xs)(h':dZ X.K H a ys):xs=ys:=by
 obtain⟨U,r,⟨o,e,_,n,d⟩,_⟩:=I.tuple h;obtain⟨J,l,⟨p,g,_,t,j⟩,_⟩:=I.tuple h';rw[e] at g;cases g;rw[d] at j;injection j with d1 _
 have:U=J:=by simpa using Br Array.toList d1
 subst this;exact r.inj l
end
abbrev Cx.XG(X:Cx)(E:WK):Cx:={X with xe:=E}
abbrev Cx.Y4(X:Cx):Cx:=X.XG λ_ _=>False
theorem Cx.Ok.XG(ok:X.Ok)(E:WK):(X.XG E).Ok:=
 ⟨ok.mod,ok.kind,ok.glob,ok.blt,ok.above,ok.inj,ok.has,ok.YW,ok.hd,ok.frames,ok.Y3,ok.Y9,ok.bs,ok.YA,ok.XE,ok.XF,ok.Xm,ok.YL⟩
theorem Cx.Ok.W'(ok:(X.XG E).Ok):X.Ok:=
 ⟨ok.mod,ok.kind,ok.glob,ok.blt,ok.above,ok.inj,ok.has,ok.YW,ok.hd,ok.frames,ok.Y3,ok.Y9,ok.bs,ok.YA,ok.XE,ok.XF,ok.Xm,ok.YL⟩
theorem qx.XG(I:qx X pins σ H s)(E:WK):qx (X.XG E) pins σ H s:={I.ok.XG E,I.os,I.bare,I.base,I.loc,I.cell,I.free,I.On,I.pin,I.GT,I.len,I.tk}
theorem qx.W'(I:qx (X.XG E) pins σ H s):qx X pins σ H s:={(I.ok.W'),I.os,I.bare,I.base,I.loc,I.cell,I.free,I.On,I.pin,I.GT,I.len,I.tk}
theorem SP.W'{D:o6}{f:Flow}(h:SP (X.XG E) pins D f s'):SP X pins D f s':=by
 cases f with
 |next=>obtain⟨J,U,I,q⟩:=h;exact{(J),U,I.W',q}
 |brk=>obtain⟨J,U,I,q⟩:=h;exact{(J),U,I.W',q}
 |cont=>obtain⟨J,U,I,q⟩:=h;exact{(J),U,I.W',q}
 |ret u=>obtain⟨v,J,U,I,r,q⟩:=h;exact{(v),J,U,I.W',r,q}
def jA.Y4{st:WU}{t:TS}(h:jA X.Y4 st t):jA X st t:=λJ s U H D I hw=>
 AZ (h J s U H D (I.XG _) hw) (λ_ _ q=>q.W') λ_ _ z=>False.elim z
section
variable {rest:WU}{t u:TS}{te:TE}
def NC:TS:=λD σ H=>D.nx σ H
def ND(t u:TS):TS:=λD σ H=>t {D with nx:=u D} σ H
def NE:jA X [] NC:=λ_ _ J H _ I h=>wpAny_execs_nil {(J),H,I,h}
def u8(h1:PS X st t)(h2:jA X rest u):jA X (st::rest) (ND t u):=by
 intro J s g H D I h;refine wpAny_execs_cons<|aM (h1 J s g H {D with nx:=u D} I h) λf j q=>?_;cases f with
 |next=>
  obtain⟨U,l,o,q⟩:=q;exact h2 J j U l D o q
 |ret v=>exact q
 |brk=>exact q
 |cont=>exact q
def H0(h1:PS X st t):jA X [st] t:=by intro J s U H D I h;refine wpAny_execs_cons<|aM (h1 J s U H D I h) λf g q=>?_;cases f with|next=>exact wpAny_execs_nil q|ret v=>exact q|brk=>exact q|cont=>exact q
def NF:TS:=λD σ H=>D.ct σ H
def u9:PS X (.Continue pos) NF:=λ_ _ J H _ I h=>wpAny_Continue {(J),H,I,h}
def qx.quiet(I:qx X pins σ H s):interactive X.env=false:=by simp[interactive,I.ok.kind]
def NG(te:TE):TS:=λD σ H=>te σ H λ_ H1=>D.nx σ H1
def yz(g:PE X e te)(hs:swapsWith e none pos.line X.env=pure false:=by rfl):PS X (.Expr e pos) (NG te):=by intro J s U H D I h;exact wpAny_Expr_any (bO (g J s U H _ I h) λv p x j l r o=>{(U),j,l,o}) I.quiet hs
def NH(te:TE):TS:=λD σ H=>te σ H D.rt
def NI(g:PE X e te):PS X (.Return (some e) pos) (NH te):=by intro J s U H D I h;exact wpAny_Return_some<|bO (g J s U H _ I h) λv r x j l o p=>{(x),U,j,l,o,p}
def NJ:TS:=λD _ H=>D.rt .GM H
def NK:PS X (.Return none pos) NJ:=λ_ _ J H _ I h=>wpAny_Return_none {.GM,J,H,I,rfl,h}
def NL(c:TT)(t u:TS):TS:=λD σ H=>c σ H λb H1=>if b=true then t D σ H1 else u D σ H1
def NM{a b:WU}{tc:TT}(hc:PT X c tc)(p:jA X a t)(r:jA X b u):PS X (.If c a b pos) (NL tc t u):=by intro J s U H D I h;refine wpAny_If<|aM (hc J s U H _ I h) λd g ψ=>?_;obtain⟨j,l,o⟩:=ψ;cases d with|true=>exact p J g U j D l o|false=>exact r J g U j D l o
end
abbrev TG:=V->St->Hp->(St->Hp->Prop)->Prop
abbrev g_:=W6->St->Hp->(St->Hp->Prop)->Prop
def PG(X:Cx)(target:Expr)(t:TG):Prop:=
 ∀(pins:List<|Addr×Obj) (s:W1) (σ:St) (H:Hp) (v:V) (u:W0) (Q:St->Hp->Prop),qx X pins σ H s->zr v u->t v σ H Q->
  _w X (assign target X.env u) (λ_ s'=>∃hE H',qx X pins hE H' s'/\Q hE H') X.xe s
def YH(X:Cx)(ts:WT)(t:g_):Prop:=
 ∀(pins:List<|Addr×Obj) (s:W1) (σ:St) (H:Hp) (vs:W6) (us:WP) (Q:St->Hp->Prop),qx X pins σ H s->zk vs us->t vs σ H Q->
  _w X (assignInOrder ((assignEach ts X.env).map (·.2)) us) (λ_ s'=>∃hE H',qx X pins hE H' s'/\Q hE H') X.xe s
abbrev GC:=V->V->V->Hp->(Hp->Prop)->Prop
def H9(X:Cx)(t:GC):Prop:=
 ∀(pins:List<|Addr×Obj) (s:W1) (σ:St) (H:Hp) (o i v:V) (I J u:W0) (Q:Hp->Prop),qx X pins σ H s->zr o I->zr i J->zr v u->t o i v H Q->
  _w X (setItem I J u) (λ_ s'=>∃H',qx X pins σ H' s'/\Q H') X.xe s
def fe(i:Nat):TG:=λv σ H Q=>Q (σ.set i<|some v) H
def mV(hN:X.N.Nodup)(hi:X.N[i]?=some x)(U:Loc X.env.scope x)(g:X.fn x=true\/X.env.scope.names.lookup x=some .local:=by first|exact .inl rfl|exact .inr rfl|assumption):PG X (.Name x pos) (fe i):=by intro J s l H v u Q I r h;exact wpAny_assign_Name<|bB I hN hi U r (λo j=>{_,H,j,h}) g
def GD:g_:=λvs σ H Q=>vs=[]/\Q σ H
def vF(t:TG)(u:g_):g_:=λvs σ H Q=>∃v r,vs=v::r/\t v σ H λhE H'=>u r hE H' Q
def zO:YH X [] GD:=by rintro J s U H g j Q I r⟨e,h⟩;subst e;cases r;exact assignInOrder_nil {(U),H,I,h}
def pC{t:TG}{u:g_}(h1:PG X e t)(h2:YH X es u)
 (hs:(assignEach (e::es) X.env).map (·.2)=assign e X.env::(assignEach es X.env).map (·.2):=by rfl):YH X (e::es) (vF t u):=by
 rintro J s g H T us Q I r⟨v,vr,j,h⟩;subst j;cases r with
 |cons r rr=>
  rw[hs];refine assignInOrder_cons<|aM (h1 J s g H _ _ _ I r h) λ_ l ψ=>?_;obtain⟨U,o,p,C⟩:=ψ;exact h2 J l U o _ _ Q p rr C
def GF(K:Af)(n:Nat)(t:g_):TG:=λv σ H Q=>∃a xs,v=.ref a/\dZ K H a xs/\xs.length=n/\t xs σ H Q
def H_{k:Nat}{t:g_}(hc:X.calm=true)(h:YH X es t)
 (j:(assignEach es X.env).length=n:=by rfl) (U:(assignEach es X.env).findIdx? (·.1)=none:=by rfl):PG X (.Tuple es k pos) (GF X.K n t):=by
 rintro J s l H v u Q I r⟨a,p,C,T,hl,hw⟩;subst C;cases r;obtain⟨a1,g,ht,hz⟩:=I.tuple T;refine assign_Tuple_tuple (I.ok.hd hc) ht (by simp[j,<-hl,g.length]) U λh' hx=>?_;have I1:=I.kept (t':=s.toks) λb o e=>hx b o (A3<|wh e) e;exact h J _ l H p _ Q I1 (by simpa using g) hw
def NN(to ti:TE)(t:GC):TG:=λv σ H Q=>to σ H λo H1=>ti σ H1 λi H2=>t o i v H2 λI=>Q σ I
def Ia{i:Expr}{to ti:TE}{t:GC}(l:PE X o to)(hi:PE X i ti)(hs:H9 X t)
 (p:∀v,assign (.Subscript o i pos) X.env v=(do
  let U <-holding [v] (eval o X.env)
  let g <-holding [v,U] (eval i X.env)
  standAt pos
  holding [v,U,g] (setItem U g v)
  release [v,U,g] []):=by intro _;rfl):PG X (.Subscript o i pos) (NN to ti t):=by
 intro J s j H v u Q I r h;rw[p];refine Aa<|Bj<|bO (l J s j H _ I h) λU C x T I1 r1 q1=>?_;refine Aa<|Bj<|bO (hi J C j T _ I1 q1) λg s2 y H2 I2 r2 q2=>?_;refine Aa<|wpAny_standAt<|Aa<|Bj<|aM (hs J s2 j H2 x y v U g u _ I2 r1 r2 r q2) λ_ s3 ψ=>?_;obtain⟨H3,I3,q3⟩:=ψ;exact wpAny_release {(j),H3,I3,q3}
def GG(te:TE)(g:TG):TS:=λD σ H=>te σ H λx H1=>g x σ H1 D.nx
def Ib{te:TE}{g:TG}(j:PE X e te)(l:PG X tg g)(hs:swapsWithSole [tg] e pos.line X.env=pure false:=by rfl)(hw:swappedStores [tg] e X.env=pure none:=by rfl)
 (h1:(assignEach [tg] X.env).map (·.2)=[assign tg X.env]:=by rfl):PS X (.Assign [tg] e pos) (GG te g):=by
 intro J s U H D I h;refine wpAny_Assign_stores (bO (j J s U H _ I h) λv o x p r t C=>?_) hs hw;rw[h1];exact aM (l J o U p x v _ r t C) λ_ T q=>q
def NO{te:TE}(hN:X.N.Nodup)(hi:X.N[i]?=some x)(U:Loc X.env.scope x)(g:PE X e te)(hs:swapsWith e (some<|.Name x fy) pos.line X.env=pure false:=by rfl)(j:X.fn x=true\/X.env.scope.names.lookup x=some .local:=by first|exact .inl rfl|exact .inr rfl|assumption):
 PS X (.Assign [.Name x fy] e pos) (GG te<|fe i):=by
 intro J s l H D I h;refine wpAny_Assign_Name (bO (g J s l H _ I h) λv T y o p r t=>?_) hs;exact bB p hN hi U r (λs2 C=>{_,o,C,t}) j
def NP(i j:Nat)(ta:TA):TS:=λD σ H=>ta σ H λvs H1=>∃v w,vs=[v,w]/\D.nx ((σ.set i<|some v).set j<|some w) H1
def NQ{y:Str}{a b:Expr}{ta:TA}{px pt:Pos}{kt k2 U}(hc:X.calm=true)(hN:X.N.Nodup)(hi:X.N[i]?=some x)(hj:X.N[j]?=some y)(t:i≠j)
 (hx:X.env.scope.names.lookup x=some .local) (hy:X.env.scope.names.lookup y=some .local) (ha:PA X [a,b] ta)
 (hw:swappedStores [.Tuple [.Name x px,.Name y py] kt pt] (.Tuple [a,b] k2 U) X.env=pure (some [x,y]))
 (hs:swapsWithSole [.Tuple [.Name x px,.Name y py] kt pt] (.Tuple [a,b] k2 U) pos.line X.env=pure false:=by rfl):
 PS X (.Assign [.Tuple [.Name x px,.Name y py] kt pt] (.Tuple [a,b] k2 U) pos) (NP i j ta):=by
 intro J s σ H D I h;rw[exec_Assign_arm];refine Aa<|wpAny_standAt ?_;rw[hs];refine Aa<|Aj ?_;rw[AB (by decide)];refine Aa<|Tuple_<|Ct (ha _ J s σ H _ I h) λus g vs H1 I1 r1 C=>?_;obtain⟨v,w,e1,C⟩:=C;subst e1;obtain⟨l,r,rfl,rv,T⟩:∃l r,us=[l,r]/\zr v l/\zr w r:=by
  cases r1 with
  |cons p q=>
   cases q with
   |cons p' q'=>
    cases q';exact{_,_,rfl,p,p'}
 refine Bt ?_ (by show 2<=sizeLine;decide);have I2:qx X J σ H1 {g with heap:=g.heap.push {cls:=.type "tuple",data:=.seq [l,r].toArray}}:=I1.kept (t':=g.toks) λb o e=>vb _ e;rw[hw];refine Aa<|Aj ?_;show _w X (do rule "assign.swapped-stores";let items <-unpackItems (.ref g.heap.objs.size) 2 none;assignInOrder [λv=>bindName X.env y v,λv=>bindName X.env x v] items.reverse;pure Flow.next) _ _ _;refine Aa<|BD<|Aa<|unpackItems_tuple (items:=#[l,r]) (I.ok.hd hc) (IsTup.new g.heap _) λh' a1=>?_;have I3:=I2.kept (h':=h') (t':=g.toks) λb o e=>a1 b o (A3<|wh e) e;refine Aa<|assignInOrder_cons<|wpAny_bindName<|bB I3 hN hj (.inl hy) T (λs2 I4=>?_)<|.inr hy;refine assignInOrder_cons<|wpAny_bindName<|bB I4 hN hi (.inl hx) rv (λs3 I5=>assignInOrder_nil<|Aj ?_)<|.inr hx;rw[Ej _ _<|AG t] at I5;exact{_,H1,I5,C}
def NR(c:TT)(tb:TS):TS:=λD σ H=>∃W:Nat->St->Hp->Prop,(∃m,W m σ H)/\∀m σ H,W m σ H->
 c σ H λb H1=>if b=true then ∃N:St->Hp->Prop,(∀hE H',N hE H'->∃I,I<m/\W I hE H')/\tb {D with nx:=N,ct:=N,bk:=D.nx} σ H1 else D.nx σ H1
def NS{tc:TT}{tb:TS}(hp:PassesOwn (model X.prog X.w) X.A X.env X.xe)(hc:PT X c tc)(hb:jA X body tb):PS X (.While c body [] pos) (NR tc tb):=by
 rintro J s σ H D I⟨W,⟨m0,w0⟩,turn⟩;refine wpAny_While<|codeAny_whileLoop (λn s'=>∃j H',qx X J j H' s'/\W n j H') ?_ m0 {(σ),H,I,w0};rintro n s1 ⟨g,H1,I1,w1⟩;refine wpAny_passesOwn hp<|aM (hc J s1 g H1 _ I1<|turn n g H1 w1) λb s2 ψ=>?_;obtain⟨H2,I2,o⟩:=ψ;cases b with
 |true=>
  obtain⟨N,hN,o⟩:=o;rw[AC rfl];refine wpAny_passesOwn hp<|aM (hb J s2 g H2 _ I2 o) λf s3 p=>?_;cases f with
  |next=>
   obtain⟨U,l,r,t⟩:=p;obtain⟨C,T,w3⟩:=hN U l t;exact{(C),T,U,l,r,w3}
  |cont=>
   obtain⟨U,l,r,t⟩:=p;obtain⟨C,T,w3⟩:=hN U l t;exact{(C),T,U,l,r,w3}
  |brk=>exact p
  |ret v=>exact p
 |false=>
  rw[AB AH];exact wpAny_execs_nil {(g),H2,I2,o}
structure It where
 go:Nat->Hp->Prop
 Yu:Nat->Hp->V->Hp->Prop
 stop:Nat->Hp->Prop
def pH(X:Cx)(pins:List<|Addr×Obj)(H:Hp)(b:Addr):Prop:=
 H b=none/\b≠X.env.locals/\b∉X.fs/\(b∈X.ex\/X.s₀.heap.objs.size<=b)/\(∀x c,X.env.cells.lookup x=some c->c≠b)/\∀p∈X.pn++pins,p.1≠b
def qx.YM{b:Addr}(I:qx X pins σ H s)(J:s.heap.objs.size<=b)(U:H' b=none):pH X pins H' b:=by
 refine{U,C0<|AL I.lt J,I.Zm J,.inr<|AS I.sz J,λx c e z=>?_,λp g z=>?_}
 .obtain⟨v,q⟩:=I.cell x c e;exact absurd (AL q.lt (by rw[z];exact J))<|Df _
 .exact absurd (AL (wh (I.pin p g).1) (by rw[z];exact J))<|Df _
structure DT(P:W2)(w:W3)(K:Af)(tg:Expr)(J:It)(fp:List Addr)(it:Addr)(tn:Nat->W4->Prop):Prop where
 mem:it∈fp
 obj:∀i h,tn i h->∀b∈fp,∃o,h.get? b=some o/\∀v,o.data≠.cell v
 keep:∀i h h',tn i h->(∀b∈fp,∀o,h.get? b=some o->h'.get? b=some o)->tn i h'
 item:∀(X:Cx),X.prog=P->X.w=w->X.K=K->X.calm=true->∀(i:Nat) (pins:List<|Addr×Obj) (s:W1) (σ:St) (H:Hp) (E:WK),qx X pins σ H s->(∀b∈fp,pH X pins H b)->tn i s.heap->J.go i H->
  wpAny (model P w) X.A (pyNext<|.ref it) (λr s1=>∃u,r=some u/\
   wpAny (model P w) X.A (letOwnedTupleGo tg (.ref it) u) (λ_ s2=>∃x H',qx X pins σ H' s2/\zr x u/\J.Yu i H x H'/\tn (i+1) s2.heap/\∀b∈fp,H' b=none) E s1) E s
 done:∀(X:Cx),X.prog=P->X.w=w->X.K=K->X.calm=true->∀(i:Nat) (pins:List<|Addr×Obj) (s:W1) (σ:St) (H:Hp) (E:WK),qx X pins σ H s->(∀b∈fp,pH X pins H b)->tn i s.heap->J.stop i H->
  wpAny (model P w) X.A (pyNext<|.ref it) (λr s1=>r=none/\qx X pins σ H s1) E s
 self:∀(A:Around) (i:Nat) (s:W1) (Q:WK) (E:WK),tn i s.heap->Q (.ref it) s->wpAny (model P w) A (pyIter<|.ref it) Q E s
abbrev TI:=St->Hp->(It->Hp->Prop)->Prop
def GH(X:Cx)(pins:List<|Addr×Obj)(σ:St)(tg:Expr)(R:It->Hp->Prop)(I:W0)(U:W1):Prop:=
 ∃(it:Addr) (fp:List Addr) (g:Nat->W4->Prop) (J:It) (H':Hp),I=.ref it/\qx X pins σ H' U/\DT X.prog X.w X.K tg J fp it g/\g 0 U.heap/\(∀b∈fp,pH X pins H' b)/\R J H'
def PI(X:Cx)(tg iter:Expr)(wi:TI):Prop:=
 ∀(pins:List<|Addr×Obj) (s:W1) (σ:St) (H:Hp) (R:It->Hp->Prop),qx X pins σ H s->wi σ H R->
  _w X (eval iter X.env) (λv I=>_w X (pyIter v) (GH X pins σ tg R) X.xe I) X.xe s
def GI{o:Obj}{n:W5}{vs:WQ}{Q:WL}(J:s.heap.get? it=some o)(hc:o.cls=.type n)(hd:o.data=.fields vs)
 (U:["enumerate","zip","dict_itemiterator","dict_reverseitemiterator","odict_iterator","itertools.zip_longest","itertools.pairwise"].contains n=false) (I:Q () s):wpAny M A (letOwnedTupleGo tg (.ref it) u) Q E s:=by
 cases tg<;>first
  |exact Aj I
  |(cases u<;>first
   |exact Aj I
   |(refine Aa (wpAny_load J ?_)
     rw[hc,hd];show wpAny M A (if (["enumerate","zip","dict_itemiterator","dict_reverseitemiterator","odict_iterator","itertools.zip_longest","itertools.pairwise"].contains n&&vs[0]?==some (rawInt _))=true then _ else _) Q E s;rw[AB (by intro h;rw[U,DN] at h;cases h)];exact Aj I))
def GJ(K:Af)(a:Addr):It:=
 ⟨λi H=>∃xs x,aY K H a xs/\xs[i]?=some x,λi H x H'=>H'=H/\∀xs,aY K H a xs->xs[i]?=some x,λi H=>∃xs,aY K H a xs/\xs.length<=i⟩
def GK(K:Af)(a:Addr):It:=
 ⟨λi H=>∃xs x,dZ K H a xs/\xs[i]?=some x,λi H x H'=>H'=H/\∀xs,dZ K H a xs->xs[i]?=some x,λi H=>∃xs,dZ K H a xs/\xs.length<=i⟩
def Fq(lo:Int)(n:Nat):It:={λi _=>i<n,λi H x H'=>H'=H/\x=.int (lo+i),λi _=>n<=i}
def NT{P:W2}{w:W3}{K:Af}(a it:Addr):DT P w K tg (GJ K a) [it] it (λi h=>h.IsListIter it a i) where
 mem:=by simp
 obj:=λi h st b J=>by
  have e:b=it:=by simpa using J
  subst e;obtain⟨o,e,c,d⟩:=st;exact{o,e,λv z=>by rw[d] at z;cases z}
 keep:=λi h r st k=>st.at λo e=>k it (by simp) o e
 item:=by intro X t hw C hc i U s σ H E I j st T;subst t hw C;obtain⟨xs,x,l,hx⟩:=T;obtain⟨a1,rv,p,hz⟩:=I.list l;obtain⟨u,hu,ru⟩:=rv.get hx;obtain⟨f0,f1,f2,f3,f4,f5⟩:=j it (by simp);refine wpAny_pyNext_list_item st p.isList (x:=u) (by simpa using hu) λr g sb=>?_;have I1:=I.turned (t':=s.toks) (λb o J e=>(sb.2 b J).trans e) f0 f1 f3 f4 f5;obtain⟨o,e,c,d⟩:=id g;exact{u,rfl,GI (s:={s with heap:=r}) e c d (by decide) {x,H,I1,ru,{rfl,λys hy=>by rw[I.W9 hy l];exact hx},g,λb J=>(j b J).1}}
 done:=by intro X t hw C hc i U s σ H E I j st T;subst t hw C;obtain⟨xs,l,hx⟩:=T;obtain⟨a1,rv,p,hz⟩:=I.list l;obtain⟨f0,f1,f2,f3,f4,f5⟩:=j it (by simp);have hl:=rv.length;exact wpAny_pyNext_list_end (I.ok.hd hc) st p.isList (by simp;lia) λr eb=>{rfl,I.turned (t':=s.toks) (λb o J e=>eb b o J e) f0 f1 f3 f4 f5}
 self:=λ_ _ _ _ _ st h=>wpAny_pyIter_listiter st h
def wJ{P:W2}{w:W3}{K:Af}(a it:Addr):DT P w K tg (GK K a) [it] it (λi h=>h.IsTupleIter it a i) where
 mem:=by simp
 obj:=λi h st b J=>by
  have e:b=it:=by simpa using J
  subst e;obtain⟨o,e,c,d⟩:=st;exact{o,e,λv z=>by rw[d] at z;cases z}
 keep:=λi h t st k=>st.at λo e=>k it (by simp) o e
 item:=by intro X C hw T hc i g s σ H E I l st hg;subst C hw T;obtain⟨xs,x,r,hx⟩:=hg;obtain⟨U,rv,p,hz⟩:=I.tuple r;obtain⟨u,hu,ru⟩:=rv.get hx;obtain⟨f0,f1,f2,f3,f4,f5⟩:=l it (by simp);refine wpAny_pyNext_tuple_item st (show s.heap.IsTuple a U.toArray from p) (x:=u) (by simpa using hu) λt j sb=>?_;have I1:=I.turned (t':=s.toks) (λb o J e=>(sb.2 b J).trans e) f0 f1 f3 f4 f5;obtain⟨o,e,c,d⟩:=id j;exact{u,rfl,GI (s:={s with heap:=t}) e c d (by decide) {x,H,I1,ru,{rfl,λys hy=>by rw[I.Xj hy r];exact hx},j,λb J=>(l b J).1}}
 done:=by intro X C hw T hc i g s σ H E I l st hg;subst C hw T;obtain⟨xs,r,hx⟩:=hg;obtain⟨U,rv,p,hz⟩:=I.tuple r;obtain⟨f0,f1,f2,f3,f4,f5⟩:=l it (by simp);have hl:=rv.length;exact wpAny_pyNext_tuple_end (I.ok.hd hc) st (show s.heap.IsTuple a U.toArray from p) (by simp;lia) λt eb=>{rfl,I.turned (t':=s.toks) (λb o J e=>eb b o J e) f0 f1 f3 f4 f5}
 self:=λ_ _ _ _ _ st h=>wpAny_pyIter_tupleiter st h
theorem wV{P:W2}{w:W3}{K:Af}(it:Addr)(lo:Int)(n:Nat):DT P w K tg (Fq lo n) [it] it (λi h=>IsRangeIter h it (lo+(i:Nat)*1) ((n:Int)-(i:Nat)) 1) where
 mem:=by simp
 obj:=λi h st b J=>by
  have e:b=it:=by simpa using J
  subst e;exact{_,st,λv z=>by have z':=z;cases z'}
 keep:=λi h l st k=>k it (by simp) _ st
 item:=by intro X p hw r C i U s σ H E I j st T;subst p hw r;obtain⟨f0,f1,f2,f3,f4,f5⟩:=j it (by simp);have W:=Walks.range (prog:=X.prog) (w:=X.w) (I.ok.hd C) it lo 1 n;refine ja I.tk<|W.item i s _ _ T st λv l tk hv g kk ht=>?_;obtain⟨t,rfl⟩:=hv;have I1:=I.turned (λb o J e=>kk b o (by simpa using J) e) f0 f1 f3 f4 f5;refine{_,rfl,GI (s:={s with heap:=l,toks:=tk}) (n:="range_iterator") g rfl rfl (by decide) {.int<|lo+i,H,I1,{t,?_},{(rfl),rfl},g,λb J=>(j b J).1}};rw[Int.mul_one]
 done:=by intro X p hw r C i U s σ H E I j st T;subst p hw r;obtain⟨f0,f1,f2,f3,f4,f5⟩:=j it (by simp);exact wpAny_pyNext_range_end (I.ok.hd C) st (by have:n<=i:=T;lia) λl eb=>{rfl,I.turned (t':=s.toks) (λb o J e=>eb b o J e) f0 f1 f3 f4 f5}
 self:=λ_ _ _ _ _ st h=>wpAny_pyIter_rangeiter st h
variable {wi:TI}
def NU(K:Af)(tl:TE):TI:=λσ H R=>tl σ H λx H1=>∃a,x=.ref a/\(∃xs,aY K H1 a xs)/\R (GJ K a) H1
def NV(K:Af)(tl:TE):TI:=λσ H R=>tl σ H λx H1=>∃a,x=.ref a/\(∃xs,dZ K H1 a xs)/\R (GK K a) H1
def NW{l:Expr}{tl:TE}(j:PE X l tl):PI X tg l (NU X.K tl):=by
 intro J s r H R I h;refine bO (j J s r H _ I h) λv U x t g C T=>?_;obtain⟨a,e,⟨xs,hq⟩,q⟩:=T;subst e;cases C;obtain⟨a1,rv,p,hz⟩:=g.list hq;refine wpAny_pyIter_list p.isList ?_;refine{U.heap.objs.size,[U.heap.objs.size],_,_,t,rfl,g.kept (t':=U.toks) λb o e=>vb _ e,NT a _,{_,xT _ rfl,rfl,rfl},λb hb=>?_,q};have e:b=U.heap.objs.size:=by simpa using hb
 subst e;exact g.YM (Am _)<|g.GT.fresh<|Am _
def NX{l:Expr}{tl:TE}(r:PE X l tl):PI X tg l (NV X.K tl):=by
 intro J s t H R I h;refine bO (r J s t H _ I h) λv U x C g T q1=>?_;obtain⟨a,e,⟨xs,hq⟩,q⟩:=q1;subst e;cases T;obtain⟨j,rv,p,hz⟩:=g.tuple hq;refine wpAny_pyIter_tuple (show U.heap.IsTuple a j.toArray from p) ?_;refine{U.heap.objs.size,[U.heap.objs.size],_,_,C,rfl,g.kept (t':=U.toks) λb o e=>vb _ e,wJ a _,{_,xT _ rfl,rfl,rfl},λb hb=>?_,q};have e:b=U.heap.objs.size:=by simpa using hb
 subst e;exact g.YM (Am _)<|g.GT.fresh<|Am _
def NY{R:It->Hp->Prop}{hi:Int}{t u v:Tok}{tk:Nat}(I:qx X pins σ H s)(h1 : -(2 ^ 62)<=lo)(h2:lo<2 ^ 62)(h3 : -(2 ^ 62)<=hi)(U:hi<2 ^ 62)
 (q:R (Fq lo (hi-lo).toNat) H) (p:0<tk:=by walk_at "t"):_w X (pyIter<|.ref s.heap.objs.size) (GH X pins σ tg R) E {s with heap:=s.heap.push {cls:=.type "range",data:=.fields #[.int lo t,.int hi u,.int 1 v]},toks:=tk}:=by
 refine wpAny_pyIter_range (IsRange.new ..) (small_one h1 h2 h3 U) ?_;have J:qx X pins σ H {s with heap:=s.heap.push {cls:=.type "range",data:=.fields #[.int lo t,.int hi u,.int 1 v]},toks:=tk}:=I.kept λb o e=>vb _ e;refine{(s.heap.push {cls:=.type "range",data:=.fields #[.int lo t,.int hi u,.int 1 v]}).objs.size,[(s.heap.push {cls:=.type "range",data:=.fields #[.int lo t,.int hi u,.int 1 v]}).objs.size],_,_,H,rfl,
  J.kept (t':=tk) λb o e=>vb _ e,wV _ lo (hi-lo).toNat,?_,λb g=>?_,q}
 .have j:lo+((0:Nat):Int)*1=lo:=by simp
  have l:(((hi-lo).toNat:Nat):Int)-((0:Nat):Int)=Builtin.Range.rangeSize lo hi 1:=by rw[rangeSize_one];split<;>lia
  rw[j,l];exact xT _ rfl
 .have e:b=(s.heap.push {cls:=.type "range",data:=.fields #[.int lo t,.int hi u,.int 1 v]}).objs.size:=by simpa using g
  subst e;exact J.YM (Am _)<|J.GT.fresh<|Am _
def NZ(ta:TA):TI:=λσ H R=>ta σ H λvs H1=>∃j:Int,vs=[.int j] /\ -(2 ^ 62)<=j/\j<2 ^ 62/\R (Fq 0 j.toNat) H1
def N0{a:Expr}{ta:TA}(g:Gl X "range")(l:X.mg "range"=none)(o:PA X [a] ta)(hs:starEach [a] X.env=[(false,eval a X.env)]:=by rfl):PI X tg (.Call (.Name "range" p) [a] [] pos) (NZ ta):=by
 intro J s C H R I h;refine Call_<|eG I g l boot_range<|B9 (Ct (o pos J s C H _ I h) λus s1 vs H1 T r1 U=>?_) hs rfl;obtain⟨j,e,U,q2,q⟩:=U;subst e;cases r1 with
 |cons r rr=>
  cases rr;obtain⟨t,rfl⟩:=r;exact call_range_1<|NY T (by lia) (by lia) U q2 (by simpa using q)
def N5(wi:TI)(g:TG)(tb:TS):TS:=λD σ H=>wi σ H λJ H1=>∃W:Nat->Nat->St->Hp->Prop,(∃m,W 0 m σ H1)/\∀i m σ H,W i m σ H->
 (J.stop i H/\D.nx σ H)\/(J.go i H/\∃N:St->Hp->Prop,(∀hE H',N hE H'->∃U,U<m/\W (i+1) U hE H')/\∀x H',J.Yu i H x H'->g x σ H' λI H2=>tb {D with nx:=N,ct:=N,bk:=D.nx} I H2)
def nL(fp:List Addr)(h:W4):List (Addr×Obj):=fp.filterMap λb=>(h.get? b).map λo=>(b,o)
def da{b:Addr}{o:Obj}(I:b∈fp)(e:h.get? b=some o):(b,o)∈nL fp h:=DO.mpr {b,I,by rw[e];rfl}
def N6{p:Addr×Obj}(I:p∈nL fp h):p.1∈fp/\h.get? p.1=some p.2:=by
 obtain⟨b,J,e⟩:=DO.mp I;cases q:h.get? b with
 |none=>rw[q] at e;cases e
 |some o=>
  rw[q] at e;have U:=A2 e;subst U;exact{(J),q}
def qx.pinned(I:qx X pins σ H s)(g:∀b∈fp,pH X pins H b)(j:∀b∈fp,∃o,s.heap.get? b=some o/\∀v,o.data≠.cell v):qx X (pins++nL fp s.heap) σ H s:=
 I.XS λp l=>(Ak.mp l).elim (λz=>I.pin p<|Ah _ z) λz=>by obtain⟨J,e⟩:=N6 z;obtain⟨r,f1,f2,_⟩:=g p.1 J;obtain⟨o,U,d⟩:=j p.1 J;rw[e] at U;cases U;exact{(e),r,f1,f2,d}
def qx.Xa{J:List<|Addr×Obj}(I:qx X (pins++J) σ H s):qx X pins σ H s:=I.XS λp U=>I.pin p<|Ah _<|An _ U
def N7{iter:Expr}{g:TG}{tb:TS}(hp:PassesOwn (model X.prog X.w) X.A X.env X.xe)(hc:X.calm=true)(hi:PI X tg iter wi)(hg:PG X tg g)(l:jA X body tb)
 (hs:∀x,foldedSetIterable iter X.env x=pure x:=by intro _;rfl):PS X (.For tg iter body [] pos) (N5 wi g tb):=by
 intro U s σ H D I h;refine wpAny_For (aM (hi U s σ H _ I h) λv s1 h1=>aM h1 λay s2 h2=>?_) hs;obtain⟨it,fp,tn,J,H2,e,I2,T,a4,f2,W,⟨m0,w0⟩,turn⟩:=h2;subst e;have p:∀{H':Hp},(∀b∈fp,H' b=none)->∀b∈fp,pH X U H' b:=λhn b l=>{hn b l,(f2 b l).2};refine codeAny_forLoop_any (λn s'=>∃i t H',qx X U t H' s'/\tn i s'.heap/\(∀b∈fp,H' b=none)/\W i n t H') ?_ m0 {0,σ,H2,I2,a4,λb l=>(f2 b l).1,w0};rintro n s3 ⟨i,C,H3,I3,a2,a3,w3⟩;rcases turn i n C H3 w3 with⟨stop,qn⟩|⟨go,N,hN,step⟩
 .refine wpAny_passesOwn hp<|aM (T.done X rfl rfl rfl hc i U s3 C H3 X.xe I3 (p a3) a2 stop) λr s4 ψ=>?_;obtain⟨hr,I4⟩:=ψ;subst hr;exact wpAny_execs_nil {(C),H3,I4,qn}
 .refine wpAny_passesOwn hp<|aM (T.item X rfl rfl rfl hc i U s3 C H3 X.xe I3 (p a3) a2 go) λr s4 ψ=>?_;obtain⟨u,hr,h4⟩:=ψ;subst hr;refine wpAny_passesOwn hp<|aM h4 λ_ s5 ψ=>?_;obtain⟨x,H5,I5,r5,y5,a1,a5⟩:=ψ;have ac:=I5.pinned (p a5)<|T.obj _ _ a1;refine wpAny_passesOwn hp<|aM (hg _ s5 C H5 x u _ ac r5<|step x H5 y5) λ_ s6 ψ=>?_;obtain⟨al,H6,I6,q6⟩:=ψ;refine wpAny_passesOwn hp<|aM (l _ s6 al H6 _ I6 q6) λf s7 q7=>?_;have again:∀{j:St} {H7:Hp},qx X (U++nL fp s5.heap) j H7 s7->N j H7->∃m,m<n/\∃i t H',qx X U t H' s7/\tn i s7.heap/\(∀b∈fp,H' b=none)/\W i m t H':=λ{j H7} I7 n7=>by obtain⟨m',hm,w7⟩:=hN j H7 n7;refine{m',hm,i+1,j,H7,I7.Xa,T.keep _ _ _ a1 λb l o e=>(I7.pin (b,o)<|Ah _<|Ah _<|da l e).1,λb l=>?_,w7};obtain⟨o,e,d⟩:=T.obj _ _ a1 b l;exact(I7.pin (b,o)<|Ah _<|Ah _<|da l e).2.1
  cases f with
  |next=>obtain⟨j,H7,I7,n7⟩:=q7;exact again I7 n7
  |cont=>obtain⟨j,H7,I7,n7⟩:=q7;exact again I7 n7
  |brk=>obtain⟨j,H7,I7,q7⟩:=q7;exact{(j),H7,I7.Xa,q7}
  |ret v=>obtain⟨x7,j,H7,I7,r7,q7⟩:=q7;exact{(x7),j,H7,I7.Xa,r7,q7}
abbrev R2:=V->V->Hp->VK->Prop
def w6(X:Cx)(f:W0->W0->Sem W0)(r:R2):Prop:=
 ∀(pins:List<|Addr×Obj) (s:W1) (σ:St) (H:Hp) (x y:V) (v u:W0) (Q:VK),qx X pins σ H s->zr x v->zr y u->r x y H Q->
  _w X (f v u) (EP X pins σ Q) X.xe s
def jh(X:Cx)(f:W0)(r:W6->Hp->VK->Prop):Prop:=
 ∀(pins:List<|Addr×Obj) (s:W1) (σ:St) (H:Hp) (xs:W6) (us:WP) (Q:VK),qx X pins σ H s->zk xs us->r xs H Q->
  _w X (call f us) (EP X pins σ Q) X.xe s
def Fs(r:R2)(ta tb:TE):TE:=λσ H Q=>ta σ H λx H1=>tb σ H1 λy H2=>r x y H2 Q
def rI(C:Int->Int->Prop)(g:Int->Int->V):R2:=λx y H Q=>∃i j,x=.int i/\y=.int j/\C i j/\Q (g i j) H
def p_(g:Int->Int->V):R2:=λx y H Q=>∃i j,x=.int i/\y=.int j/\Q (g i j) H
section
variable {a b:Expr}{ta tb tc:TE}
def GL(j:PE X a ta)(l:PE X b tb){R:V->V->Hp->Prop}(I:qx X pins σ H s)
 (h:ta σ H λx H1=>tb σ H1 λy H2=>R x y H2) {f:W0->W0->Sem W0}
 (o:∀v u g x y H2,qx X pins σ H2 g->zr x v->zr y u->R x y H2->_w X (f v u) Q X.xe g):
 _w X (eval a X.env) (λv J=>_w X (eval b X.env) (λu U=>_w X (f v u) Q X.xe U) X.xe J) X.xe s:=by
 refine bO (j pins s σ H _ I h) λv p x H1 r t C=>?_;refine bO (l pins p σ H1 _ r C) λu g y H2 T r2 q2=>?_;exact o v u g x y H2 T t r2 q2
def N8{op:Operator}{r:R2}(U:w6 X (binaryOp op) r)(g:PE X a ta)(j:PE X b tb):PE X (.BinOp a op b pos) (Fs r ta tb):=by intro J s l H Q I h;exact wpAny_BinOp<|GL g j I h λv u o x y p t C T q=>U J o l p x y v u Q t C T q
def F1{f:W0->W0->Sem W0}{C:Int->Int->Prop}{g:Int->Int->Int}
 (rule:∀(i j:Int) (t u:Tok) (s:W1) (Q:WK) (E:WK),C i j->Q (.int (g i j) s.toks) {s with toks:=s.toks+1}->_w X (f (.int i t)<|.int j u) Q E s):
 w6 X f (rI C λi j=>.int<|g i j):=by
 rintro J s r H x y v u Q I U l⟨i,j,rfl,rfl,o,q⟩;obtain⟨t,rfl⟩:=U;obtain⟨p,rfl⟩:=l;exact rule i j t p s _ _ o {.int<|g i j,H,I.tok _,{_,rfl},q}
def Ic{f:W0->W0->Sem W0}{g:Int->Int->Int}
 (rule:∀(i j:Int) (t u:Tok) (s:W1) (Q:WK) (E:WK),Q (.int (g i j) s.toks) {s with toks:=s.toks+1}->_w X (f (.int i t)<|.int j u) Q E s):
 w6 X f (p_ λi j=>.int<|g i j):=by
 rintro J s p H x y v u Q I U l⟨i,j,rfl,rfl,q⟩;obtain⟨t,rfl⟩:=U;obtain⟨o,rfl⟩:=l;exact rule i j t o s _ _ {.int<|g i j,H,I.tok _,{_,rfl},q}
def GN{f:W0->W0->Sem W0}{g:Int->Int->Bool}
 (rule:∀(i j:Int) (t u:Tok) (s:W1) (Q:WK) (E:WK),Q (.bool<|g i j) s->_w X (f (.int i t)<|.int j u) Q E s):
 w6 X f (p_ λi j=>.bl<|g i j):=by
 rintro J s p H x y v u Q I U l⟨i,j,rfl,rfl,q⟩;obtain⟨t,rfl⟩:=U;obtain⟨o,rfl⟩:=l;exact rule i j t o s _ _ {.bl<|g i j,H,I,rfl,q}
def GO(i j:Int):Prop:=0<j/\j<1073741824
def GP(i j:Int):Prop:=0<=j/\j<=1000000/\i.natAbs<2 ^ 64
def ZF(i j:Int):Prop:=(-(2 ^ 64)<i/\i<2 ^ 64)\/(-(2 ^ 64)<j/\j<2 ^ 64)
def ZF.ok{i j:Int}(h:ZF i j):IntMulOk i j:=by
 rcases h with⟨h1,h2⟩|⟨h1,h2⟩
 .exact .of_left<|intBits_le_64 h1 h2
 .exact .of_right<|intBits_le_64 h1 h2
def N9:w6 X (binaryOp .Add) (p_ λi j=>.int<|i+j):=Ic λ_ _ _ _ _ _ _ q=>add_int q
def N':w6 X (binaryOp .Sub) (p_ λi j=>.int<|i-j):=Ic λ_ _ _ _ _ _ _ q=>sub_int q
def Oa:w6 X (binaryOp .Mult) (rI ZF λi j=>.int<|i*j):=F1 λ_ _ _ _ _ _ _ I q=>mul_int q I.ok
def Oc:w6 X (binaryOp .FloorDiv) (rI GO λi j=>.int<|i / j):=F1 λi j _ _ _ _ _ I q=>by have h1:=I.1;have h2:=I.2;exact floordiv_int (by lia) (by rw[Int.fdiv_eq_ediv_of_nonneg i (by lia)];exact q)<|.inl<|PyProof.noPylong_small (by lia)
def Od:w6 X (binaryOp .Mod) (rI (λ_ j=>0<j) λi j=>.int<|i % j):=F1 λi j _ _ _ _ _ I q=>by exact mod_int' (by lia) (by rw[Int.fmod_eq_emod_of_nonneg i (by lia)];exact q)
def Oe:w6 X (binaryOp .Pow) (rI GP λi j=>.int<|i ^ j.toNat):=F1 λ_ _ _ _ _ _ _ I q=>pow_int_small I.1 I.2.1 I.2.2 q
end
def Ie:V->V->Bool
 |.int _,.int _=>true
 |.bl _,.bl _=>true
 |.str _,.str _=>true
 |_,_=>false
def F2:Bool->CmpOp
 |true=>.NotEq
 |false=>.Eq
def Ft(ne b:Bool):Bool:=match ne with
 |true=>!b
 |false=>b
def Of(ne:Bool):R2:=λx y H Q=>Ie x y=true/\Q (.bl<|Ft ne<|decide<|x=y) H
def zA{i j:Int}:decide (V.int i=V.int j)=(i==j):=by rw[EI];simp
def Ig{i j:Bool}:decide (V.bl i=V.bl j)=(i==j):=by rw[EI];simp
def Ih{i j:Str}:decide (V.str i=V.str j)=(i==j):=by rw[EI];simp
section
variable {a b:Expr}{ta tb tc:TE}
def gm{Q:VK}{k J:Bool}(I:qx X pins σ H s)(q:Q (.bl k) H)(e:k=J):EP X pins σ Q (.bool J) s:=by subst e;exact{.bl k,H,I,rfl,q}
def Ii(ne:Bool):w6 X (compareOp<|F2 ne) (Of ne):=by
 rintro l s o H x y v u Q I U g⟨J,q⟩;cases x with
 |bl i=>
  cases y with|bl j=>cases U;cases g;cases ne;exact eq_bool<|gm I q Ig;exact ne_bool (gm I q<|Br not Ig)|_=>exact(AH J).elim
 |int i=>
  cases y with
  |int j=>obtain⟨_,rfl⟩:=U;obtain⟨_,rfl⟩:=g;cases ne;exact eq_int<|gm I q zA;exact ne_int<|gm I q<|Br not zA
  |_=>exact(AH J).elim
 |str i=>
  cases y with
  |str j=>obtain⟨_,rfl⟩:=U;obtain⟨_,rfl⟩:=g;cases ne;exact eq_str<|gm I q Ih;exact ne_str<|gm I q<|Br not Ih
  |_=>exact(AH J).elim
 |_=>cases y<;>exact(AH J).elim
def Og:w6 X (compareOp .Lt) (p_ λi j=>.bl<|decide<|i<j):=GN λ_ _ _ _ _ _ _ q=>lt_int q
def Oh:w6 X (compareOp .LtE) (p_ λi j=>.bl<|decide<|i<=j):=GN λ_ _ _ _ _ _ _ q=>le_int q
def Oi:w6 X (compareOp .Gt) (p_ λi j=>.bl<|decide<|j<i):=GN λ_ _ _ _ _ _ _ q=>gt_int q
def jv(b:Expr){op:CmpOp}(h:op≠.In:=by decide)(h2:op≠.NotIn:=by decide):behindInMarks op b=false:=by
 have I:(op==CmpOp.In)=false:=by cases op<;>first|rfl|exact absurd rfl h
 have J:(op==CmpOp.NotIn)=false:=by cases op<;>first|rfl|exact absurd rfl h2
 cases b<;>simp[behindInMarks,I,J]
def Oj{op:CmpOp}{r:R2}(U:w6 X (compareOp op) r)(g:PE X a ta)(j:PE X b tb)(l:behindInMarks op b=false):PE X (.Compare a [op] [b] pos) (Fs r ta tb):=by intro J s o H Q I h;exact wpAny_Compare1 (GL g j I h λv u p x y t C T ry q=>U J p o t x y v u Q C T ry q) l
def GQ(t:TE):TT:=λσ H Q=>t σ H λx H'=>∃k,x=.bl k/\Q k H'
def Ol{op:CmpOp}{r:R2}(g:w6 X (compareOp op) r)(j:PE X a ta)(l:PE X b tb)(o:behindInMarks op b=false):PT X (.Compare a [op] [b] pos) (GQ<|Fs r ta tb):=by
 intro J s U H Q I h;refine wpAny_isTrue_Compare1 (bO (j J s U H _ I h) λv p x t C T q1=>bO (l J p U t _ C q1) λu s2 y H2 I2 r2 q2=>
  aM (g J s2 U H2 x y v u _ I2 T r2 q2) λc s3 ⟨z,H3,I3,r3,k,e,q3⟩=>?_) o
 subst e;cases r3;exact wpAny_truthy_bool {(H3),I3,q3}
def jZ:(sizeLine:Nat)<2 ^ 63:=by rw[sizeLine_eq];decide
def xY:w6 X (binaryOp .Add) (λx y H Q=>∃i j,x=.str i/\y=.str j/\i.length+j.length<=sizeLine/\Q (.str<|i++j) H):=by rintro J s p H x y v u Q I U g⟨i,j,rfl,rfl,l,q⟩;obtain⟨t,rfl⟩:=U;obtain⟨o,rfl⟩:=g;exact ja I.tk<|add_str (λo tk r=>{.str<|i++j,H,I.tok _,{_,rfl},q}) l
def rG{x:V}(r:zk [x] us):∃u,us=[u]/\zr x u:=by cases r with|cons I J=>cases J;exact{_,rfl,I}
def Ij{x y:V}(r:zk [x,y] us):∃u I,us=[u,I]/\zr x u/\zr y I:=by
 cases r with
 |cons J U=>
  cases U with|cons g j=>cases j;exact{_,_,rfl,J,g}
def Om(hc:X.calm=true):jh X (.builtin "max") (λxs H Q=>∃i j,xs=[.int i,.int j]/\Q (.int<|if j > i then j else i) H):=by
 rintro U s g H xs l Q I r⟨i,j,rfl,q⟩;obtain⟨u,o,rfl,⟨t,rfl⟩,⟨p,rfl⟩⟩:=Ij r;refine ja I.tk<|max_two_ints (I.ok.hd hc) λC tk k T=>{_,H,I.kept k,?_,q};by_cases J:j > i
 .rw[AC J,AC J];exact{_,rfl}
 .rw[AB J,AB J];exact{_,rfl}
def Oo(hc:X.calm=true):jh X (.builtin "min") (λxs H Q=>∃i j,xs=[.int i,.int j]/\Q (.int<|if j<i then j else i) H):=by
 rintro U s g H xs l Q I r⟨i,j,rfl,q⟩;obtain⟨u,o,rfl,⟨t,rfl⟩,⟨p,rfl⟩⟩:=Ij r;refine ja I.tk<|min_two_ints (I.ok.hd hc) λC tk k T=>{_,H,I.kept k,?_,q};by_cases J:j<i
 .rw[AC J,AC J];exact{_,rfl}
 .rw[AB J,AB J];exact{_,rfl}
end
structure ZS(h:W4)(x dx C:Addr)(mA:WM):Prop where
 obj:h.get? x=some (PySem.W.instObj C dx)
 ns:h.Ns1 dx mA
 ne:dx≠x
def Op(n:h.Ns1 dx mA):∃od,h.get? dx=some od/\∀name,PySem.W.lookIn name od=some (mA name):=by
 obtain⟨o,J,r,U,hd,g,_,j⟩:=n;refine{o,U,λname=>?_};have e:=j name;unfold nsFind findBy at e;rw[<-Array.find?_toList] at e;unfold PySem.W.lookIn;rw[hd];dsimp only;split
 .rename_i y q;rw[q] at e;exact Br some e
 .rename_i q;rw[q] at e;have a:J.toList.any (·.refKey)=false:=by rw[List.any_eq_false];intro y l;obtain⟨z,t,I⟩:=g y<|Array.mem_toList_iff.mp l;simp[DictEntry.refKey,I]
  have p:¬J.toList.any (·.refKey)=true:=by rw[a];exact AH
  rw[AB p];exact Br some e
def ZS.look{x:Addr}(I:ZS h x dx C mA):∃od,PySem.W.InstAt h x (PySem.W.instObj C dx) C (some od)/\∀name,PySem.W.lookIn name od=some (mA name):=
 let ⟨od,J,U⟩:=Op I.ns
 ⟨od,⟨I.obj,rfl,rfl,J⟩,U⟩
section
variable {w:W3}{K:Af}{x:Addr}{v:W0}
end
def kK.some_of{o:WW}(r:kK (some v) o):∃u,o=some u/\zr v u:=by cases o with|none=>exact(show False from r).elim|some u=>exact{(u),rfl,r}
abbrev FC:=@kK.some_of
section
variable {P:W2}{w:W3}{a:Addr}{fs fs':List<|Str×V}
def Oq(GT:fF P w H h)(e:H a=some (.ins C dx fs)):∃mA,ZS h a dx C mA/\(∀f,kK (fs.lookup f)<|mA f)/\PySem.Within mA (fs.map (·.1))/\fs.length<=1000/\H dx=some (.own a):=by obtain⟨d,z,ne,ob,mA,n,r,q⟩:=(show xu P w H h a (.ins C dx fs) from GT a _ e);exact{mA,{(ob),n,ne},r,q,z,d}
end
structure ZR(K:Af)(C:Addr):Prop where
 pg:PySem.W.plainGet K C Str.empty=true
 hd:PySem.W.hasDictIn K C=true
 po:PySem.W.plainOver K C=true
 sa:PySem.W.findIn K (.ref C) "__setattr__"=some (some<|.builtin "object.__setattr__")
def ZR.get{K:Af}(c:ZR K C)(f:Str):PySem.W.plainGet K C f=true:=c.pg
section
variable {a:Addr}{fs:List<|Str×V}{f:Str}
end
section
variable {f:Str}{tpos:Pos}{ta tv:TE}
end
section
variable {c:W0}{b:Bool}
inductive mE(K:Af)(H:Hp):V->W0->Prop where
 |GM:mE K H .GM (.type "NoneType")
 |bl (x:Bool):mE K H (.bl x) (.type "bool")
 |int (i:Int):mE K H (.int i) (.type "int")
 |str (x:Str):mE K H (.str x) (.type "str")
 |YJ (x:UInt64):mE K H (.YJ x) (.type "float")
 |lst {a:Addr} {xs:W6} (e:H a=some (.lst xs)):mE K H (.ref a) (.type "list")
 |Xs {a:Addr} {o:Obj} {xs:W6} (e:H a=some (.Xs o<|.lst xs)):mE K H (.ref a) (.type "list")
 |tup {a:Addr} {xs:W6} (e:H a=some (.tup xs)):mE K H (.ref a) (.type "tuple")
 |dK {a:Addr} {kvs:List<|jn×V} (e:H a=some (.dK kvs)):mE K H (.ref a) (.type "dict")
 |dT {a:Addr} {kvs:List<|W8×V} (e:H a=some (.dT kvs)):mE K H (.ref a) (.type "dict")
 |ins {a C dx:Addr} {fs:List<|Str×V} (e:H a=some (.ins C dx fs)) (cl:ZR K C) (ha:PySem.W.findIn K (.ref C) "__class__"=some (some<|.builtin "object.__class__"))
  (hn:PySem.W.specialIn K (.builtin "object.__class__") "__get__"=some (some<|.builtin "getset_descriptor.__get__")) (htk:PySem.W.takesIn K (.builtin "object.__class__")=some true)
  (hm:PySem.W.mroIn K C (.type "object")=some true):mE K H (.ref a) (.ref C)
def bU{x:V}{t:W0}(I:qx X pins σ H s)(U:zr x u)(ty:mE X.K H x t)(e:PySem.W.kitOne X.K t c=some b)(h:∀tk,Q (.bool b) {s with toks:=tk}):
 wpAny (model X.prog X.w) A (call (.builtin "isinstance") [u,c]) Q E s:=by
 cases ty with
 |GM=>cases (show u=Value.none from U);exact Bx PySem.W.kitx_none I.SL True.intro e (λz=>nomatch z) h
 |bl y=>cases (show u=Value.bool y from U);exact Bx PySem.W.kitx_bool I.SL True.intro e (λz=>nomatch z) h
 |int i=>obtain⟨t,q⟩:=(show ∃t,u=Value.int i t from U);cases q;exact Bx PySem.W.kitx_int I.SL True.intro e (λz=>nomatch z) h
 |str y=>obtain⟨t,q⟩:=(show ∃t,u=Value.str y t from U);cases q;exact Bx PySem.W.kitx_str I.SL True.intro e (λz=>nomatch z) h
 |YJ y=>obtain⟨t,q⟩:=(show ∃t,u=Value.float y t from U);cases q;exact Bx PySem.W.kitx_float I.SL True.intro e (λz=>nomatch z) h
 |@lst a j ea=>
  cases (show u=Value.ref a from U);obtain⟨_,_,n,_,h1⟩:=(show xu X.prog X.w H s.heap a (.lst j) from I.GT a _ ea);exact Bx CT I.SL {_,h1,rfl} e (λz=>nomatch z) h
 |@Xs a ob j ea=>
  cases (show u=Value.ref a from U);obtain⟨_,_,_,n,_,h1⟩:=(show xu X.prog X.w H s.heap a (.Xs ob<|.lst j) from I.GT a _ ea);exact Bx CT I.SL {_,h1,rfl} e (λz=>nomatch z) h
 |@tup a j ea=>
  cases (show u=Value.ref a from U);obtain⟨_,_,_,p⟩:=(show xu X.prog X.w H s.heap a (.tup j) from I.GT a _ ea);obtain⟨o,h1,h2,_⟩:=p;exact Bx DP I.SL {(o),h1,h2} e (λz=>nomatch z) h
 |@dK a g ea=>
  cases (show u=Value.ref a from U);obtain⟨_,_,vs,_,p⟩:=(show xu X.prog X.w H s.heap a (.dK g) from I.GT a _ ea);obtain⟨o,r,T,h1,h2,_⟩:=p;exact Bx Ee I.SL {(o),h1,h2.1} e (λz=>nomatch z) h
 |@dT a g ea=>
  cases (show u=Value.ref a from U);obtain⟨_,_,j,_,o,r,T,h1,h2,_⟩:=(show xu X.prog X.w H s.heap a (.dT g) from I.GT a _ ea);exact Bx Ee I.SL {(o),h1,h2.1} e (λz=>nomatch z) h
 |@ins a C dx fs ea cl ha hn l hm=>
  cases (show u=Value.ref a from U);obtain⟨mA,O,_⟩:=Oq I.GT ea;obtain⟨od,J,_⟩:=O.look;exact Bx (PySem.W.kitx_own (cl.get _) cl.hd ha hn l hm) I.SL J e (λz=>nomatch z) h
end
structure aR(k:Nat)(A:Around):Prop where
 hd:A.handled=none
 dp:A.depth+3*k+5<recursionLimit
 un:A.units+16*k+200<cLine
def aR.mono{k:Nat}(r:aR k A)(h:j<=k):aR j A:={r.hd,by have:=r.dp;lia,by have:=r.un;lia}
def aR.deeper{k:Nat}(r:aR (k+1) A)(env:Env):aR k (A.deeper env):=
 ⟨r.hd,by have:=r.dp;show A.depth+1+3*k+5<_;lia,by have:=r.un;show A.units+3+16*k+200<_;lia⟩
def aR.depth{k:Nat}(r:aR k A):A.depth<recursionLimit:=by have:=r.dp;lia
def Ot:TA:=λ_ H Q=>Q [] H
def Ou(ta:TE)(tr:TA):TA:=λσ H Q=>ta σ H λx H1=>tr σ H1 λxs H2=>Q (x::xs) H2
section
variable {te:TE}{t:TA}
def cq:PA X [] Ot:=λ_ _ _ _ H Q I h=>Ev {[],H,I,.nil,h}
abbrev Fb(e:Expr)(es:WT)(X:Cx):Prop:=starEach (e::es) X.env=(false,eval e X.env)::starEach es X.env
def ko(g:PE X e te)(j:PA X es t)(hs:Fb e es X:=by rfl):PA X (e::es) (Ou te t):=by intro pos J s U H Q I h;rw[hs];refine At<|bO (g J s U H _ I h) λu l x o p r C=>?_;exact Ct (j pos J l U o _ p C) λus s2 T H2 I2 r2 q2=>{x::T,H2,I2,.cons r r2,q2}
def Ov(t:TA):TE:=λσ H Q=>t σ H λxs H1=>xs.length<=sizeLine/\∀p,H1 p=none->Q (.ref p) (upd H1 p<|.tup xs)
def Ow(t:TA):TE:=λσ H Q=>t σ H λxs H1=>xs.length<=sizeLine/\∀p,H1 p=none->Q (.ref p) (upd H1 p<|.lst xs)
def xG{x1}(h:PA X es t):PE X (.Tuple es x1 pos) (Ov t):=by intro J s j H Q I l;refine wpAny_Tuple_spliced (aM (h pos J s j H _ I l) λo U ⟨p,C,g,r,z,q⟩=>{by rw[<-r.length];exact z,?_});have T:=g.GT.fresh<|Am _;refine{.ref U.heap.objs.size,upd C U.heap.objs.size<|.tup p,g.laid (t':=U.toks) (λb u e=>vb _ e) (Am _) ?_,rfl,q _ T};exact{z,o,r,{_,xT _ rfl,rfl,_,rfl}}
def Ox(h:PA X es t):PE X (.List es pos) (Ow t):=by intro J s j H Q I l;refine wpAny_List_spliced (aM (h pos J s j H _ I l) λo U ⟨p,C,g,r,z,q⟩=>{by rw[<-r.length];exact z,?_});have T:=g.GT.fresh<|Am _;refine{.ref U.heap.objs.size,upd C U.heap.objs.size<|.lst p,g.laid (t':=U.toks) (λb u e=>vb _ e) (Am _) ?_,rfl,q _ T};exact{z,o,0,r,xT _ rfl}
end
abbrev Sp:=W6->Hp->VK->XK->Prop
abbrev yY:=List Env->Hp->W1->XK->WK
structure F4(P:W2)(w:W3)(K:Af)(mg:WM)(base:W4)(A:Around)(outer:List Env)(s:W1)(H:Hp):Prop where
 frames:A.frames=some outer
 mod:Mod K mg base
 bs:∀b o,base.get? b=some o->s.heap.get? b=some o/\H b=none
 YA:base.objs.size<=s.heap.objs.size
 Xm:s.heap.FunFrames base outer
 YL:∀b∈cj outer,H b=none
 GT:fF P w H s.heap
 bare:AllBare s.gens
 tk:0<s.toks
def CE(outer:List Env)(P:W2)(w:W3)(H:Hp)(s:W1)(Q:VK)(u:W0)(s':W1):Prop:=
 ∃v H',s'.os=s.os/\AllBare s'.gens/\Un (cj outer) [] H H' s.heap s'.heap/\fF P w H' s'.heap/\zr v u/\Q v H'/\0<s'.toks
def CR(CX:yY)(outer:List Env)(P:W2)(w:W3)(H:Hp)(s:W1)(Q:VK)(E:XK)(r:Result)(s':W1):Prop:=
 match r with
 |.ok (.ret u)=>CE outer P w H s Q u s'
 |.ok _=>False
 |.error e=>CX outer H s E e s'
structure bV(P:W2)(w:W3)(K:Af)(mg:WM)(base:W4)(CX:yY)(k:Nat)(f:Addr)(fd:FuncData)(ps:WS)(sp:Sp):Prop where
 len:∀vs H Q E,sp vs H Q E->vs.length=ps.length
 run:∀(A:Around) (outer:List Env) (s:W1) (H:Hp) (args:Args) (us:WP) (vs:W6) (Q:VK) (E:XK),aR k A->F4 P w K mg base A outer s H->BindsTo s fd args (ps.zip us)->zk vs us->sp vs H Q E->
  codeAny (model P w) A (.call (.ref f) args) (CR CX outer P w H s Q E) s
theorem bV.mono{P:W2}{w:W3}{K:Af}{CX:yY}{k:Nat}{sp:Sp}(F:bV P w K mg base CX j f fd ps sp)(h:j<=k):
 bV P w K mg base CX k f fd ps sp:={F.len,λA I s H args J U Q E g=>F.run A I s H args J U Q E<|g.mono h}
def bV.imp{P:W2}{w:W3}{K:Af}{CX:yY}{k:Nat}{sp J:Sp}(F:bV P w K mg base CX k f fd ps sp)
 (h:∀vs H Q E,J vs H Q E->sp vs H Q E):bV P w K mg base CX k f fd ps J:=
 ⟨λvs H Q E q=>F.len vs H Q E<|h _ _ _ _ q,λA I s H args U vs Q E g j l o p=>F.run A I s H args U vs Q E g j l o<|h _ _ _ _ p⟩
def qx.Yb(I:qx X pins σ H s):F4 X.prog X.w X.K X.mg X.base X.A X.stack s H:=
 ⟨I.ok.frames,I.ok.mod,I.bs,AS I.ok.YA I.sz,I.stack,I.XR,I.GT,I.bare,I.tk⟩
def qx.after{Q:VK}(I:qx X pins σ H s)(h:CE X.stack X.prog X.w H s Q u s'):EP X pins σ Q u s':=by obtain⟨v,j,os,bare,un,J,r,q,o⟩:=h;obtain⟨l,g,d,t,U⟩:=s';obtain rfl:U=s.os:=os;exact{v,j,I.call (h':=l) (g':=g) (d':=d) (t':=t) (ch:=[]) un J bare λb z=>absurd z (by simp),r,q}
def Ik(sp:Sp)(sy:W6)(E:XK)(t:TA):TE:=λσ H Q=>t σ H λvs H1=>sp (vs++sy) H1 Q E
def eU(K:Af)(fd:FuncData)(ps:WS)(ds:WP):Prop:=
 ∀(s:W1) (us:WP),K.In s.heap->(us++ds).length=ps.length->BindsTo s fd ⟨us,[]⟩ (ps.zip<|us++ds)
def eU.all{K:Af}(h:∀us:WP,us.length=ps.length->bindArgs fd ⟨us,[]⟩=pure (ps.zip us)):eU K fd ps []:=λs us _ I=>by rw[AI] at I ⊢;exact .of_eq<|h us I
def wU(CX:yY)(X:Cx)(E:XK):Prop:=∀(pins:List<|Addr×Obj) (σ:St) (H:Hp) (s:W1) (e:W0) (s':W1),qx X pins σ H s->CX X.stack H s E e s'->X.xe e s'
section
variable {CX:yY}{k:Nat}{sp:Sp}{sy:W6}{ds:WP}{E:XK}{m:Str}{ta:TE}{t:TA}
def Oy{Q:VK}{vs:W6}(F:bV X.prog X.w X.K X.mg X.base CX k f fd ps sp)(g:aR k X.A)(j:eU X.K fd ps ds)(hd:zk sy ds)(l:wU CX X E)
 (I:qx X pins σ H s) (r:zk vs us) (h:sp (vs++sy) H Q E):_w X (call (.ref f) us) (EP X pins σ Q) X.xe s:=by
 have U:=r.append hd;have o:(us++ds).length=ps.length:=by rw[<-U.length];exact F.len _ _ _ _ h
 refine wpAny_call<|codeAny_mono (F.run X.A X.stack s H {us,[]} (us++ds) (vs++sy) Q E g I.Yb (j s us I.SL o) U h) λr p J=>?_;cases r with
 |error e=>exact l pins σ H s e p I J
 |ok t=>
  cases t with|ret u=>exact I.after J|next=>exact False.elim J|brk=>exact False.elim J|cont=>exact False.elim J
abbrev Fc(p:Pos)(es:WT)(X:Cx):Prop:=(backTo p<|starEach es X.env).any (·.1)=false
def Oz(F:bV X.prog X.w X.K X.mg X.base CX k f fd ps sp)(l:aR k X.A)(o:Gl X x)(C:X.mg x=some (.ref f))(T:PySem.W.keepIn X.K (.ref f)=true)(hb:eU X.K fd ps ds)(hd:zk sy ds)(hx:wU CX X E)
 (ha:PA X (e::es) t) (U:Fe x:=by decide) (he:Fb e es X:=by rfl) (g:Fc pos es X:=by rfl):
 PE X (.Call (.Name x p) (e::es) [] pos) (Ik sp sy E t):=by
 intro J s σ H Q I h;refine wpAny_Call_Name_kw<|iQ I o C ?_ U;refine PySem.W.callWith_K (h₀:=X.base) I.ok.mod.Zl T (Ct (ha pos J s σ H _ I h) λus s1 vs H1 j r q=>{j.SL,?_}) he g;exact Oy F l hb hd hx j r q
end
section
variable {CX:yY}{k:Nat}{ks:WS}{sp:Sp}{E:XK}{m:Str}{kws:List Keyword}{te ta:TE}{t tk:TA}{nm:Option Str}
variable {g:WP->WP->WP}{gV:W6->W6->W6}
end
structure aX(N P:WS)(sc:Scope):Prop where
 kind:sc.kind=.function
 co:sc.isCoroutine=false
 gen:sc.isGenerator=false
 nd:N.Nodup
 pre:N.take P.length=P
 par:∀x∈P,sc.names.lookup x=some .local\/sc.names.lookup x=some .cell
 Zn:∀y∈sc.names,y.2≠.free
theorem rF{kindOf:Str->Option NameKind}{x:Str}:∀{I:List<|Str×W0} {m:WM},(∀v,(x,v)∉I)->bindL kindOf I m x=m x
 |[],_,_=>rfl
 |(n,v)::r,m,h=>by
  unfold bindL;rw[rF λw hw=>h w<|Ai _ hw];split
  .have:x≠n:=by rintro rfl;exact h v Ao
   simp[this]
  .rfl
theorem rP{kindOf:Str->Option NameKind}{x:Str}:∀{I:List<|Str×W0} {m:WM},(∀v,(x,v)∉I)->bindC kindOf I m x=m x
 |[],_,_=>rfl
 |(n,v)::r,m,h=>by
  unfold bindC;rw[rP λw hw=>h w<|Ai _ hw];split
  .rfl
  .have:x≠n:=by rintro rfl;exact h v Ao
   simp[this]
theorem qM{kindOf:Str->Option NameKind}{x:Str}{v:W0}:∀{P:WS} {vs:WP} {i:Nat} {m:WM},P.Nodup->P[i]?=some x->vs[i]?=some v->kindOf x=some .local->
 bindL kindOf (P.zip vs) m x=some v
 |[],_,_,_,_,h,_,_=>by simp at h
 |_::_,[],_,_,_,_,h,_=>by simp at h
 |p::P,w::vs,0,m,nd,h1,h2,I=>by simp at h1 h2;subst h1;subst h2;show bindL kindOf ((p,w)::P.zip vs) m p=_;unfold bindL;rw[rF λv J=>(AE.mp nd).1 (DG J).1,AC I];simp
 |p::P,w::vs,i+1,m,nd,h1,h2,I=>by unfold bindL;exact qM (i:=i) (AE.mp nd).2 (by simpa using h1) (by simpa using h2) I
theorem rM{kindOf:Str->Option NameKind}{x:Str}{v:W0}:∀{P:WS} {vs:WP} {i:Nat} {m:WM},P.Nodup->P[i]?=some x->vs[i]?=some v->kindOf x≠some .local->
 bindC kindOf (P.zip vs) m x=some v
 |[],_,_,_,_,h,_,_=>by simp at h
 |_::_,[],_,_,_,_,h,_=>by simp at h
 |p::P,w::vs,0,m,nd,h1,h2,I=>by simp at h1 h2;subst h1;subst h2;show bindC kindOf ((p,w)::P.zip vs) m p=_;unfold bindC;rw[rP λv J=>(AE.mp nd).1 (DG J).1,AB I];simp
 |p::P,w::vs,i+1,m,nd,h1,h2,I=>by unfold bindC;exact rM (i:=i) (AE.mp nd).2 (by simpa using h1) (by simpa using h2) I
def start(N:WS)(vs:W6):St:=vs.map some++List.replicate (N.length-vs.length) none
def fN(CX:yY)(P:W2)(w:W3)(K:Af)(mg:WM)(base:W4)(N:WS)(eK:Str)(scope:Scope)(f:Addr)(cd:W0)(A:Around)(outer:List Env)(s:W1)(H:Hp)(E:XK):Cx where
 prog:=P
 w:=w
 K:=K
 mg:=mg
 base:=base
 A:=A.deeper<|envOfC eK scope s.heap.objs.size f cd
 N:=N
 s₀:=s
 H₀:=H
 env:=envOfC eK scope s.heap.objs.size f cd
 outer:=outer
 stack:=envOfC eK scope s.heap.objs.size f cd::outer
 ex:=[]
 calm:=true
 fn:=λ_=>true
 pn:=[]
 xe:=λe s'=>wpAny (model P w) (A.deeper<|envOfC eK scope s.heap.objs.size f cd) (leaving (envOfC eK scope s.heap.objs.size f cd) e) (λ_ I=>CX outer H s E e I) (λJ I=>CX outer H s E J I) s'
def ur{I:Scope}(h:I.names.lookup x=some .cell):∃c,(cellsFrom n I.names []).lookup x=some c:=by have q:=PySem.W.cellsFrom_some I.names n []<|.inl h;exact Option.isSome_iff_exists.mp q
def OA{CX:yY}{P:W2}{w:W3}{K:Af}{N:WS}{o:W1}{E:XK}{vs:W6}
 (S:aX N ps scope) (hd:A.handled=none) (I:F4 P w K mg base A outer s H) (hl:vs.length=ps.length) (r:zk vs us)
 (x:InCallC s s.heap.objs.size (bindL (envOfC eK scope s.heap.objs.size f cd).kindOf (ps.zip us) λ_=>none) (cellsFrom (s.heap.objs.size+1) scope.names []) (bindC (envOfC eK scope s.heap.objs.size f cd).kindOf (ps.zip us) λ_=>none) o) (T:0<o.toks):
 qx (fN CX P w K mg base N eK scope f cd A outer s H E) [] (start N vs) H o:=by
 have a1:ps.length<=N.length:=by have:=Br List.length S.pre;rw[AV] at this;lia
 obtain⟨h1,tk,rfl,t⟩:=x.done;have J:∀b:Addr,b∉(fN CX P w K mg base N eK scope f cd A outer s H E).ex:=λb z=>absurd (show b∈([]:List Addr) from z) (by simp);refine{{I.mod,S.kind,rfl,rfl,Am _,λy z c h1 h2=>?_,λy U=>?_,λy c _ h=>?_,λ_=>hd,Around.frames_deeper I.frames,.inr {(rfl),rfl},λb z=>absurd z<|J b,I.bs,I.YA,λb _ _=>J b,λb z=>absurd z<|J b,I.Xm,I.YL},
  rfl,I.bare,Un.kept t,{_,x.toInCall.ns,λi y v h1 h2 h3=>?_},λy c h=>{_,x.cell y c h},I.GT.fresh<|Am _,λy c h=>?_,λp g=>absurd (show p∈([]:List<|Addr×Obj) from g) (by simp),I.GT.kept t,?_,T}
 .exact name_of_addr x.apart (BJ h1)<|BJ h2
 .have U:=U;rcases U with U|U
  .exact ur U
  .exact absurd rfl<|S.Zn _<|BJ U
 .exact Bk<|x.above y c<|BJ h
 .have l:i<vs.length:=by
   unfold start at h2;by_cases l:i<vs.length
   .exact l
   .rw[AF (by simpa using l)] at h2;rw[CD] at h2;split at h2<;>cases h2
  have ha:vs[i]?=some v:=by unfold start at h2;rw[Az (by simpa using l),Al] at h2;cases e:vs[i]? with|none=>rw[e] at h2;cases h2|some a=>rw[e] at h2;cases h2;rfl
  obtain⟨u,C,rv⟩:=r.get ha;have g:ps[i]?=some y:=by rw[<-S.pre,Ek (by lia)];exact h1
  have j:ps.Nodup:=by rw[<-S.pre];exact S.nd.sublist<|Ef _ _
  refine{u,rv,?_};rcases S.par y (Ax g) with k|k
  .exact .inl {k,qM j g C k}
  .obtain⟨c,e⟩:=ur (n:=s.heap.objs.size+1) k;refine .inr {.inl k,c,e,?_};have q:=x.cell y c e;rw[rM j g C (by show scope.names.lookup y≠_;rw[k];decide)] at q;exact q
 .exact I.GT.fresh<|Bk<|x.above y c<|BJ h
 .unfold start;show _=N.length;rw[Ad,Ac,BQ];lia
theorem GR{CX:yY}{P:W2}{w:W3}{K:Af}{k:Nat}{U:Arguments}{dV kV ct:W0}
 {N:WS} {sp:Sp} (lk:K.lookup f=some ⟨oc,od,.func<|PySem.W.fnOf name eK U body scope dV kV hQ pm an eW ct,pR⟩) (a1:PySem.W.codeIn K eW eK=true) (S:aX N ps scope)
 (len:∀vs H Q E,sp vs H Q E->vs.length=ps.length)
 (j:∀(A:Around) (outer:List Env) (s:W1) (H:Hp) (vs:W6) (Q:VK) (E:XK),aR k (A.deeper<|envOfC eK scope s.heap.objs.size f eW)->sp vs H Q E->
  ∃t,jA (fN CX P w K mg base N eK scope f eW A outer s H E) body t/\t {nx:=λ_ H'=>Q .GM H',rt:=Q} (start N vs) H):
 bV P w K mg base CX (k+1) f (PySem.W.fnOf name eK U body scope dV kV hQ pm an eW ct) ps sp:=by
 refine{len,λA outer s H args us vs Q E hr p hb r T=>?_};have hl:=len _ _ _ _ T;have KX:=p.mod.Zl.keeps λb o e=>(p.bs b o e).1;have a2:=p.mod.nolimit.keeps λb o e=>(p.bs b o e).1;have l:∀y∈ps.zip us,scope.names.lookup y.1=some .local\/(scope.names.lookup y.1=some .cell/\((cellsFrom (s.heap.objs.size+1) scope.names []).lookup y.1).isSome=true):=λ ψ hy=>by
  obtain⟨n,v⟩:=ψ
  rcases S.par n (DG hy).1 with q|q
  .exact .inl q
  .exact .inr {q,PySem.W.cellsFrom_some _ _ _<|.inl q}
 refine codeAny_call_function hr.depth (KX _ _ lk) rfl S.co S.gen rfl (PySem.W.codeRec_of KX a1)<|hb _ _ _ _ ?_;refine ja p.tk<|wpAny_newFunctionEnv_cells S.kind l λa4 he s1 x a3=>?_;subst he;refine{a2.keeps x.toInCall.keep,codeAny_func ?_};obtain⟨t,ht,hq⟩:=j A outer s H vs Q E (hr.deeper _) T;have I:qx (fN CX P w K mg base N eK scope f eW A outer s H E) [] (start N vs) H s1:=OA S hr.hd p hl r x a3;refine AZ (ht [] s1 (start N vs) H _ I hq) (λfl s' C=>?_) λe s' C=>C;have vd:∀{g:St} {H':Hp} {v:V} {u:W0},qx (fN CX P w K mg base N eK scope f eW A outer s H E) [] g H' s'->zr v u->Q v H'->CE outer P w H s Q u s':=
  λ{g H' v u} J rv q=>{(v),H',J.os,J.bare,J.base,J.GT,rv,q,J.tk}
 cases fl with
 |ret u=>
  obtain⟨v,g,H',J,rv,q⟩:=C;exact vd J rv q
 |next=>
  obtain⟨g,H',J,q⟩:=C;exact vd (v:=V.GM) (u:=Value.none) J rfl q
 |brk=>
  obtain⟨_,_,_,q⟩:=C;exact False.elim q
 |cont=>
  obtain⟨_,_,_,q⟩:=C;exact False.elim q
variable {sp:Sp}
section
variable {t:TA}{id T:W5}{r:W6->Hp->VK->Prop}
def Il(r:W6->Hp->VK->Prop)(t:TA):TE:=λσ H Q=>t σ H λvs H1=>r vs H1 Q
def fZ(hc:jh X (.builtin id) r)(l:Gl X x)(o:X.mg x=none)(C:bootBuiltins x=some (.builtin id))(T:PA X (e::es) t)(hn:x ≠ "__name__" := by decide)(U:Fe x:=by decide)
 (he:Fb e es X:=by rfl) (g:Fc pos es X:=by rfl):PE X (.Call (.Name x p) (e::es) [] pos) (Il r t):=by
 intro J s j H Q I h;refine wpAny_Call_Name_kw<|eG I l o C ?_ hn U;exact PyProof.Rows.callWith_builtin1 (Ct (T pos J s j H _ I h) λus s1 vs H1 I1 r1 q1=>hc J s1 j H1 vs us Q I1 r1 q1) he g
def jP(hc:jh X (.type T) r)(l:Gl X x)(o:X.mg x=none)(C:bootBuiltins x=some (.type T))(ha:PA X (e::es) t)(hn:x ≠ "__name__" := by decide)(U:Fe x:=by decide)
 (he:Fb e es X:=by rfl) (g:Fc pos es X:=by rfl):PE X (.Call (.Name x p) (e::es) [] pos) (Il r t):=by
 intro J s j H Q I h;refine wpAny_Call_Name_kw<|eG I l o C ?_ hn U;exact B9 (Ct (ha pos J s j H _ I h) λus s1 vs H1 I1 r1 q1=>hc J s1 j H1 vs us Q I1 r1 q1) he g
end
section
variable [DecidableEq κ]
def iA(kvs:List<|κ×V)(k:κ):W7:=(kvs.find? λI=>decide<|I.1=k).map (·.2)
def fb(kvs:List<|κ×V)(k:κ)(v:V):List (κ×V):=
 if (kvs.any λI=>decide<|I.1=k)=true then kvs.map (λI=>if I.1=k then(I.1,v) else I) else kvs++[(k,v)]
def nK{p:κ×V}{r:List<|κ×V}{k:κ}(e:p.1=k):iA (p::r) k=some p.2:=by simp[iA,BR,e]
def nH{p:κ×V}{r:List<|κ×V}{k:κ}(e:¬p.1=k):iA (p::r) k=iA r k:=by simp[iA,BR,e]
theorem vV(k:κ):∀kvs:List (κ×V),(kvs.any λI=>decide<|I.1=k)=(iA kvs k).isSome
 |[]=>rfl
 |p::r=>by
  rw[Cz];by_cases e:p.1=k
  .simp only[nK e,AD e,Bool.true_or,DQ]
  .rw[nH e,Aw e,Bool.false_or];exact vV k r
def f9(kvs:List<|κ×V)(k:κ)(v:V):(fb kvs k v).length<=kvs.length+1:=by
 unfold fb;split
 .rw[Ac];lia
 .rw[Ad,AK,List.length_nil];lia
def kK.Yv{o:W7}{u:WW}(r:kK o u):o.isSome=u.isSome:=by
 cases o with
 |none=>cases u with|none=>rfl|some _=>exact(show False from r).elim
 |some _=>cases u with|none=>exact(show False from r).elim|some _=>rfl
def KV.val{kvs:List<|κ×V}{vs:List<|κ×W0}(r:KV kvs vs)(k:κ):kK (iA kvs k) (valueAt vs k):=by
 induction r with
 |nil=>exact True.intro
 |@cons p q g I h t U=>
  obtain⟨h1,h2⟩:=h;by_cases e:p.1=k
  .have J:=h1.symm.trans e;have b:valueAt (q::I) k=some q.2:=by simp[valueAt,BR,J]
   rw[nK e,b];exact h2
  .have J:¬q.1=k:=λz=>e<|h1.trans z;have b:valueAt (q::I) k=valueAt I k:=by simp[valueAt,BR,J]
   rw[nH e,b];exact U
def KV.any{kvs:List<|κ×V}{vs:List<|κ×W0}(r:KV kvs vs)(k:κ):(kvs.any λI=>decide<|I.1=k)=vs.any λI=>decide (I.1=k):=by induction r with|nil=>rfl|cons h t J=>rw[Cz,Cz,J,h.1]
def KV.Zo{kvs:List<|κ×V}{vs:List<|κ×W0}(r:KV kvs vs)(k:κ){y:V}(J:zr y u):
 KV (kvs.map λI=>if I.1=k then(I.1,y) else I) (vs.map λI=>if I.1=k then(I.1,u) else I):=by
 induction r with
 |nil=>exact .nil
 |@cons p q g j h t U=>
  rw[AA,AA];refine .cons ?_ U;obtain⟨h1,h2⟩:=h;by_cases e:p.1=k
  .rw[AC e,AC<|h1.symm.trans e];exact{(h1),J}
  .rw[AB e,AB λz=>e<|h1.trans z];exact{(h1),h2}
def KV.put{kvs:List<|κ×V}{vs:List<|κ×W0}(r:KV kvs vs)(k:κ){y:V}(I:zr y u):KV (fb kvs k y) (stored vs k u):=by
 unfold fb stored;rw[r.any k];by_cases e:(vs.any λJ=>decide<|J.1=k)=true
 .rw[AC e,AC e];exact r.Zo k I
 .rw[AB e,AB e];exact Paired.snoc r {(rfl),I}
theorem KV.length{kvs:List<|κ×V}{vs:List<|κ×W0}(r:KV kvs vs):kvs.length=vs.length:=Paired.length r
end
def rB{P:W2}{w:W3}{k:jn}(r:zr (kV k) u):(vn P w).is k u=true:=by
 cases k with
 |inl i=>obtain⟨t,e⟩:=(show ∃t,u=Value.int i t from r);subst e;exact uA P w i t
 |inr x=>obtain⟨t,e⟩:=(show ∃t,u=Value.str x t from r);subst e;exact vO P w x t
theorem rK{P:W2}{w:W3}:∀{ks:W8} {us:WP},zk (ks.map kV) us->ItemsAre (vn P w) ks us
 |[],_,r=>by rw[Do] at r;cases r;exact .nil
 |k::ks,_,r=>by rw[AA] at r;cases r with|cons h t=>exact .cons (rB h)<|rK t
abbrev KT(H:Hp):List (W8×V)->List (W8×Addr×W0)->Prop:=Paired λp q=>p.1=q.1/\H q.2.1=some (.tup<|p.1.map kV)/\zr p.2 q.2.2
def KT.val{xs:List<|W8×Addr×W0}(r:KT H kvs xs)(k:W8):kK (iA kvs k) ((atKey xs k).map (·.2)):=by
 induction r with
 |nil=>exact True.intro
 |@cons p q g I h t U=>
  obtain⟨h1,_,h2⟩:=h;by_cases e:p.1=k
  .have J:=h1.symm.trans e;have b:atKey (q::I) k=some q.2:=by simp[atKey,BR,J]
   rw[nK e,b];exact h2
  .have J:¬q.1=k:=λz=>e<|h1.trans z;have b:atKey (q::I) k=atKey I k:=by simp[atKey,BR,J]
   rw[nH e,b];exact U
def KT.Zo{xs:List<|W8×Addr×W0}(r:KT H kvs xs)(k:W8){y:V}(J:zr y u):
 KT H (kvs.map λI=>if I.1=k then(I.1,y) else I) (xs.map<|putAt k u):=by
 induction r with
 |nil=>exact .nil
 |@cons p q g j h t U=>
  rw[AA,AA];refine .cons ?_ U;obtain⟨h1,h2,h3⟩:=h;unfold putAt;by_cases e:p.1=k
  .rw[AC e,AC<|h1.symm.trans e];exact{(h1),h2,J}
  .rw[AB e,AB λz=>e<|h1.trans z];exact{(h1),h2,h3}
def KT.put{xs:List<|W8×Addr×W0}(r:KT H kvs xs)(k:W8){b:Addr}{y:V}(J:H b=some (.tup<|k.map kV))(I:zr y u):
 KT H (fb kvs k y) (storedH xs k b u):=by
 have e:(kvs.any λU=>decide<|U.1=k)=(atKey xs k).isSome:=by rw[vV,(r.val k).Yv,Option.isSome_map]
 unfold fb storedH;rw[e];by_cases q:(atKey xs k).isSome=true
 .rw[AC q,AC q];exact r.Zo k I
 .rw[AB q,AB q];exact Paired.snoc r {(rfl),J,I}
def KT.keeps{xs:List<|W8×Addr×W0}(r:KT H kvs xs)(I:∀b ys,H b=some (.tup ys)->H' b=some (.tup ys)):KT H' kvs xs:=
 E6 r λ_ _ z=>{z.1,I _ _ z.2.1,z.2.2}
section
variable {P:W2}{w:W3}{a:Addr}
def Im{u:HO}(ok:fF P w H h)(e:Rd H a u):xu P w H h a u:=e.ok ok
def yt{kvs:List<|jn×V}(ok:fF P w H h)(e:Rd H a<|.dK kvs):kvs.length<=sizeLine/\(a==sysModules)=false/\∃vs,KV kvs vs/\h.DictOf (vn P w) a vs:=
 show xu P w H h a (.dK kvs) from Im ok e
def Io{kvs:List<|jn×V}(ok:fF P w H h)(e:H a=some (.dK kvs)):kvs.length<=sizeLine/\(a==sysModules)=false/\∃vs,KV kvs vs/\h.DictOf (vn P w) a vs:=yt ok<|.inl e
def yK{ks:W8}(ok:fF P w H h)(e:H a=some (.tup<|ks.map kV)):(tupleKind<|vn P w).is h ks a:=by obtain⟨_,I,r,o,h1,h2,n,h3⟩:=(show xu P w H h a (.tup<|ks.map kV) from ok a _ e);exact{o,I.toArray,n,h1,h2,h3,by simpa using rK r}
def GS(ok:fF P w H h)(e:Rd H a<|.dT kvs):kvs.length<=sizeLine/\(a==sysModules)=false/\
 ∃xs,KT H kvs xs/\h.DictOfH (tupleKind<|vn P w) a xs:=by
 obtain⟨z,y,xs,r,o,U,g,h1,h2,h3,j,C⟩:=(show xu P w H h a (.dT kvs) from Im ok e);refine{z,y,xs,r,o,U,g,h1,h2,h3,j,λx I=>?_,C};have all:∀{l:List<|W8×V} {m:List<|W8×Addr×W0},KT H l m->∀x∈m,(tupleKind<|vn P w).is h x.1 x.2.1:=by
  intro l m q
  induction q with
  |nil=>intro x I;exact nomatch I
  |@cons p q ps qs J t T=>
   intro x I;rcases As.mp I with e|I
   .subst e;exact yK ok (by rw[<-J.1];exact J.2.1)
   .exact T x I
 exact all r x I
def OB(ok:fF P w H h)(e:H a=some (.dT kvs)):kvs.length<=sizeLine/\(a==sysModules)=false/\
 ∃xs,KT H kvs xs/\h.DictOfH (tupleKind<|vn P w) a xs:=GS ok<|.inl e
end
def GU(H:Hp)(a:Addr)(y:V)(r:W7):Prop:=
 (∃kvs k,Rd H a (.dK kvs)/\y=kV k/\r=iA kvs k)\/∃kvs k b,Rd H a (.dT kvs)/\y=.ref b/\H b=some (.tup<|k.map kV)/\r=iA kvs k
def Ip(H:Hp)(a:Addr)(y v:V)(H':Hp):Prop:=
 (∃kvs k,H a=some (.dK kvs)/\y=kV k/\kvs.length<sizeLine/\H'=upd H a (.dK<|fb kvs k v))\/
 ∃kvs k b,H a=some (.dT kvs)/\y=.ref b/\H b=some (.tup<|k.map kV)/\kvs.length<sizeLine/\H'=upd H a (.dT<|fb kvs k v)
section
variable {a:Addr}{y:V}{r:W0}{o:W7}
def qx.big(I:qx X pins σ H s):sysModules<s.heap.objs.size:=by have h:=(I.mod.glob.keeps I.bk).lt;exact C1 (by decide) h
def OC(hu:A.units+1<cLine)(I:qx X pins σ H s)(g:GU H a y<|some v)(T:zr y u)(h:∀U s',qx X pins σ H s'->zr v U->Q U s'):
 wpAny (model X.prog X.w) A (getItem (.ref a) u) Q E s:=by
 rcases g with⟨j,k,e,r,l⟩|⟨j,k,b,e,r,eb,l⟩
 .subst r;obtain⟨z,hd,vs,rel,t⟩:=yt I.GT e;obtain⟨U,hw,J⟩:=FC (v:=v) (o:=valueAt vs k) (by rw[l];exact rel.val k);exact wpAny_getItem_of (rB T) t.mapOf hw<|h U _ (I.tok _) J
 .subst r;cases (show u=Value.ref b from T);obtain⟨z,hd,xs,rel,t⟩:=GS I.GT e;obtain⟨U,hw,J⟩:=FC (v:=v) (o:=(atKey xs k).map (·.2)) (by rw[l];exact rel.val k);obtain⟨p,hp,C⟩:=Aq.mp hw;refine wpAny_getItem_heap (tupleKind_room_in1 hu) (yK I.GT eb) t hp ?_;rw[C];exact h U _ (I.tok _) J
def sV{ob:HO}(I:qx X pins σ H s)(J:Fp<|H a)(hs:Heap.SameBut a s.heap h')(U:∃q,h'.get? a=some q)(new:xu X.prog X.w (upd H a ob) h' a ob)(j:0<t':=by walk_at "t"):
 qx X pins σ (upd H a ob) {s with heap:=h',toks:=t'}:=
 I.write (x:=a) (e:=a) J (.inl rfl) (λb q g z=>(hs.2 b g).trans z) U new
def Iq{P:W2}{w:W3}{kvs:List<|jn×V}{vs:List<|jn×W0}(z:kvs.length<=sizeLine)(hd:(a==sysModules)=false)(rel:KV kvs vs)(dd:h'.DictOf (vn P w) a vs):
 xu P w H' h' a (.dK kvs):={(z),hd,vs,rel,dd}
def OD{Q:WL}(hu:A.units+1<cLine)(I:qx X pins σ H s)(g:Ip H a y v H')(ry:zr y u)(rv:zr v r)(h:∀s',qx X pins σ H' s'->Q () s'):
 wpAny (model X.prog X.w) A (setItem (.ref a) u r) Q E s:=by
 rcases g with⟨J,k,e,o,l,p⟩|⟨J,k,b,e,o,eb,l,p⟩
 .subst o p;obtain⟨z,hd,vs,rel,t⟩:=Io I.GT e;have C:vs.length<=sizeLine:=by rw[<-rel.length];exact z
  have T:(fb J k v).length<=sizeLine:=by have:=f9 J k v;lia
  refine wpAny_setItem_pairs (hsz:=C) (rB ry) t λh' U hs=>h _ ?_;have he:∃q,h'.get? a=some q:=let ⟨q,_,_,j,_⟩:=U;⟨q,j⟩;exact sV I (by rw[e];exact True.intro) hs he<|Iq T hd (rel.put k rv) U
 .subst o p;cases (show u=Value.ref b from ry);obtain⟨z,hd,xs,rel,t⟩:=OB I.GT e;have C:xs.length<=sizeLine:=by rw[<-Paired.length rel];exact z
  have T:(fb J k v).length<=sizeLine:=by have:=f9 J k v;lia
  refine wpAny_setItem_heap (hsz:=C) (tupleKind_room_in1 hu) (yK I.GT eb) t λh' U hs=>h _ ?_;obtain⟨q,es,ep,j,h2,h3,h4,_,h5⟩:=U;refine sV I (by rw[e];exact True.intro) hs {(q),j} {T,hd,_,(rel.put k eb rv).keeps λc ys ec=>?_,q,es,ep,j,h2,h3,h4,h5};rw[qp<|M8 ec e λz=>nomatch z];exact ec
end
section
variable {a:Addr}{kvs:List<|jn×V}{k:jn}
end
def GV(i:Expr):Prop:=∀I J,subscripted i false I J=operate [I,J] (getItem I J)
def OE{w:W3}{slice:Expr}{T id:W5}
 (t:typeLookup (.type T) "__getitem__" = pure (some<|.builtin id)) (hs:GV slice)
 (h:wpAny (model prog w) A (eval value env) (λo U=>wpAny (model prog w) A (eval slice env) (λi I=>I.TypeIs o T/\wpAny (model prog w) A (getItem o i) Q E I) E U) E s):
 wpAny (model prog w) A (eval (.Subscript value slice pos) env) Q E s:=by
 refine Subscript_<|AZ h (λo U j=>AZ j (λi I J=>?_) λ_ _ x=>x) λ_ _ x=>x;obtain⟨p,J⟩:=J;refine Aa ?_;rw[getitemInPython_of_ne p.not_modules];refine Aa<|wpAny_specialOf p t ?_;have vd:wpAny (model prog w) A (subscripted slice false o i) (λr g=>wpAny (model prog w) A (letTemporaryGo value o r >>= λ_=>pure r) Q E g) E I:=by rw[hs o i];exact wpAny_operating<|AZ J (λr g l=>Aa<|wpAny_letTemporaryGo<|Aj l) λ_ _ x=>x
 first
  |exact Aj<|Aa vd
  |exact Aa<|Aj<|Aa vd
  |exact Aa vd
def vA{a:Addr}{y:V}{o:W7}(I:qx X pins σ H s)(g:GU H a y o):s.TypeIs (.ref a) "dict" := by
 rcases g with⟨J,k,e,_,_⟩|⟨J,k,b,e,_,_,_⟩
 .obtain⟨_,_,j,_,U⟩:=yt I.GT e;exact U.typeIs
 .obtain⟨_,_,l,_,U⟩:=GS I.GT e;exact U.typeIs
def OF(td ty:TE):TE:=λσ H Q=>td σ H λx H1=>ty σ H1 λy H2=>∃a v,x=.ref a/\GU H2 a y (some v)/\Q v H2
def OG(td ty tv:TE):TS:=λD σ H=>tv σ H λv H1=>td σ H1 λx H2=>ty σ H2 λy J=>∃a I,x=.ref a/\Ip J a y v I/\D.nx σ I
section
variable {i:Expr}{tpos:Pos}{td ty tv:TE}
def OH(p:X.A.units+1<cLine)(r:PE X o td)(hi:PE X i ty)(hs:GV i):PE X (.Subscript o i pos) (OF td ty):=by intro J s j H Q I h;refine OE Ed.lookup hs<|bO (r J s j H _ I h) λu t x C T rx q1=>aM (hi J t j C _ T q1) λiv s2 ψ=>?_;obtain⟨y,H2,l,ry,a,v,ex,g,q2⟩:=ψ;subst ex;obtain rfl:u=Value.ref a:=rx;exact{vA l g,OC p l g ry λw' s3 I3 U=>{(v),H2,I3,U,q2}}
def OI(j:X.A.units+1<cLine)(l:PE X o td)(hi:PE X i ty)(p:PE X value tv)(hs:swapsWith value (some<|.Subscript o i fy) pos.line X.env=pure false):
 PS X (.Assign [.Subscript o i fy] value pos) (OG td ty tv):=by
 intro J s U H D I h;refine wpAny_Assign_Subscript (bO (p J s U H _ I h) λr t v C T rv q1=>bO (l J t U C _ T q1) λu s2 x H2 I2 rx q2=>aM (hi J s2 U H2 _ I2 q2) λiv s3 ψ=>?_) hs;obtain⟨y,H3,I3,ry,a,H4,ex,g,q3⟩:=ψ;subst ex;obtain rfl:u=Value.ref a:=rx;exact OD j I3 g ry rv λs4 I4=>{(U),H4,I4,q3}
end
def uY{P:W2}{w:W3}(h:W4)(I:sysModules<h.objs.size):xu P w H (h.push {cls:=.type "dict",data:=.dict #[]}) h.objs.size (.dK []):=
 ⟨A5 _,beq_eq_false_iff_ne.mpr<|AG<|A3 I,[],.nil,Heap.DictOf.new h⟩
def OJ:TE:=λ_ H Q=>∀p,H p=none->Q (.ref p) (upd H p<|.dK [])
def OK:PE X (.Dict [] [] pos) OJ:=λJ s U H Q I h=>
 wpAny_Dict_empty ⟨.ref s.heap.objs.size,_,I.laid (a:=s.heap.objs.size) (o:=.dK []) (t':=s.toks) (λ_ _ q=>vb _ q) (Am _)<|uY s.heap I.big,rfl,h _<|I.GT.fresh<|Am _⟩
def sm:List (TE×TE)->St->Hp->(List (V×V)->Hp->Prop)->Prop
 |[],_,H,Q=>Q [] H
 |(tk,tv)::r,σ,H,Q=>tk σ H λx H1=>tv σ H1 λy H2=>sm r σ H2 λps I=>Q ((x,y)::ps) I
abbrev VV:List (V×V)->List (W0×W0)->Prop:=Paired λp q=>zr p.1 q.1/\zr p.2 q.2
def Fu(X:Cx)(pos:Pos)(keys:List<|Option Expr)(values:WT)(I:List<|TE×TE):Prop:=
 ∀(pins:List<|Addr×Obj) (s:W1) (σ:St) (H:Hp) (Q:List (V×V)->Hp->Prop),qx X pins σ H s->sm I σ H Q->
  _w X (evalPairs<|pairTrees keys values X.env pos) (λvs s'=>∃ps H',qx X pins σ H' s'/\VV ps vs/\Q ps H') X.xe s
def OL :Fu X pos [] [] []:=λJ s U H Q I h=>pairTrees_nil_walk {[],H,I,.nil,h}
def io{k v:Expr}{ks:List<|Option Expr}{vs:WT}{tk tv:TE}{U:List<|TE×TE}(j:PE X k tk)(l:PE X v tv)(o:Fu X pos ks vs U):
 Fu X pos (some k::ks) (v::vs) ((tk,tv)::U):=λJ s g H Q I h=>
 pairTrees_cons_walk (bO (j J s g H _ I h) λu p x r t C T=>bO (l J p g r _ t T) λw2 s2 y H2 I2 ry q2=>
  aM (o J s2 g H2 _ I2 q2) λws s3 ⟨ps,H3,I3,rel,q3⟩=>{(x,y)::ps,H3,I3,.cons {(C),ry} rel,q3})
def kB(kvs more:List<|jn×V):List (jn×V):=more.foldl (λI J=>fb I J.1 J.2) kvs
def KV.merge:∀{more:List<|jn×V} {I:List<|jn×W0} {kvs:List<|jn×V} {vs:List<|jn×W0},KV more I->KV kvs vs->KV (kB kvs more) (merged vs I):=by
 intro more I kvs vs r
 induction r generalizing kvs vs with
 |nil=>intro q;exact q
 |@cons p q g j h t J=>
  intro U;have e:KV (fb kvs p.1 p.2) (stored vs q.1 q.2):=by have:=U.put p.1 h.2;rw[<-h.1];exact this
  exact J e
theorem gf:∀(more kvs:List<|jn×V),(kB kvs more).length<=kvs.length+more.length
 |[],kvs=>by show kvs.length<=kvs.length+0;lia
 |p::r,kvs=>by have h1:=gf r<|fb kvs p.1 p.2;have h2:=f9 kvs p.1 p.2;show(kB (fb kvs p.1 p.2) r).length<=_;rw[AK];lia
theorem oY{P:W2}{w:W3}:∀{kvs:List<|jn×V} {J:List<|W0×W0},VV (kvs.map λU=>(kV U.1,U.2)) J->∃I,Carries (vn P w) J I/\KV kvs I
 |[],_,r=>by rw[Do] at r;cases r;exact{[],True.intro,.nil}
 |p::kvs,_,r=>by
  rw[AA] at r;cases r with
  |@cons a b as bs h t=>
   obtain⟨I,c,q⟩:=oY (P:=P) (w:=w) t;obtain⟨b1,b2⟩:=b;exact{(p.1,b2)::I,{rB h.1,rfl,c},.cons {(rfl),h.2} q}
def OM(I:List<|TE×TE):TE:=λσ H Q=>∀p,H p=none->sm I σ (upd H p<|.dK []) λps H2=>H2 p=some (.dK [])/\∃kvs:List (jn×V),ps=kvs.map (λJ=>(kV J.1,J.2))/\kvs.length<=15/\Q (.ref p) (upd H2 p<|.dK<|kB [] kvs)
def ON{keys:List<|Option Expr}{values:WT}{J:List<|TE×TE}(h:Fu X pos keys values J)(U:keys.all (·.isSome)=true)(t:keys.length=values.length)(h0:keys≠[])
 (p:keys.length<=15):PE X (.Dict keys values pos) (OM J):=by
 intro g s C H Q I q;have T:=I.GT.fresh<|Am s.heap.objs.size;have I1:=I.laid (a:=s.heap.objs.size) (o:=.dK []) (h':=s.heap.push {cls:=.type "dict",data:=.dict #[]}) (t':=s.toks) (λ_ _ q=>vb _ q) (Am _)<|uY s.heap I.big;refine wpAny_Dict_walk (knd:=vn X.prog X.w) U t h0 p<|aM (h g _ C _ _ I1<|q _ T) λws s2 ψ=>?_;obtain⟨ps,H2,r,rel,e,j,ep,lk,q2⟩:=ψ;subst ep;obtain⟨rs,c,rk⟩:=oY (P:=X.prog) (w:=X.w) rel;obtain⟨z,hd,a1,r0,dd⟩:=Io r.GT e;cases r0;refine{rs,c,dd,λh' l hs=>{.ref s.heap.objs.size,_,?_,rfl,q2}};have hz:(kB [] j).length<=sizeLine:=by have h1:=gf j [];rw[List.length_nil] at h1;rw[sizeLine_eq];lia
 have he:∃q,h'.get? s.heap.objs.size=some q:=let ⟨q,_,_,hq,_⟩:=l;⟨q,hq⟩;exact sV r (by rw[e];exact True.intro) hs he<|Iq hz hd (rk.merge .nil) l
section
variable {a:Addr}{y d:V}{r:W0}{o:W7}
end
section
variable {f:Expr}{td ty tx:TE}
end
section
variable {a:Addr}{kvs:List<|jn×V}
end
section
variable {a:Addr}{y:V}
end
section
section
open PySem.SeqAt
open PySem.AutoSeq1 (wpAny_loadPart')
section
open PySem.MeetsSeq PySem.MeetsSeq2 PySem.MeetsSeq3
end
section
variable {w:W3}
def YZ{t b:Addr}{I:WP}(ht:IsTup s.heap t vs.toArray)(hb:IsTup s.heap b I.toArray)(p:vs≠[])
 (h1:I=[]->Q (.ref t) s) (h2:I≠[]->Q (.ref s.heap.objs.size) {s with heap:=s.heap.push {cls:=.type "tuple",data:=.seq (vs++I).toArray}})
 (hsz:vs.length+I.length<=sizeLine):wpAny (model prog w) A (binaryOp .Add (.ref t)<|.ref b) Q E s:=by
 obtain⟨⟨cls,r,data,C⟩,o,T,n,hd⟩:=id ht;obtain⟨⟨a1,U,data2,g⟩,J,j,n2,l⟩:=id hb;simp only at T hd j l;subst T hd j l;have e:vs.toArray++I.toArray=(vs++I).toArray:=by simp
 by_cases hw:I=[]
 .exact concat_meets {_,o,rfl} {_,J,rfl} noFill_tuple_add seq_tuple_add PySem.F.slot_tuple_add PySem.F.entry_tuple_add (El _ _)
   (tuple_addW1 t b vs.toArray I.toArray n n2 r U C g (by simpa using p) (by simp[hw])) ⟨o,J,h1 hw⟩
 .refine concat_meets {_,o,rfl} {_,J,rfl} noFill_tuple_add seq_tuple_add PySem.F.slot_tuple_add PySem.F.entry_tuple_add (El _ _)
   (tuple_addW2 t b vs.toArray I.toArray n n2 r U C g (by simpa using p) (by simpa using hw) (by rw[Ar,Ar];exact hsz)) ⟨o,J,?_⟩
  rw[e];exact h2 hw
def HT(n d:Nat):WX->Nat
 |none=>d
 |some v=>if v<0 then(v+(n:Int)).toNat else min v.toNat n
def X0(n d:Nat):HT n d none=d:=rfl
def XA(n d k:Nat):HT n d (some (k:Int))=min k n:=by show(if (k:Int)<0 then((k:Int)+(n:Int)).toNat else min (k:Int).toNat n)=min k n;rw[AB (by lia),BL]
def YE(n d:Nat)(hd:d<=n)(o:WX):HT n d o<=n:=by
 cases o with
 |none=>exact hd
 |some v=>
  show(if v<0 then(v+(n:Int)).toNat else min v.toNat n)<=n;by_cases I:v<0
  .rw[AC I];lia
  .rw[AB I];exact Nat.min_le_right _ _
def Ir(v:Int)(n d:Nat):(if v<0 then max (v+(n:Int)) 0 else min v (n:Int))=((HT n d (some v):Nat):Int):=by
 show(if v<0 then max (v+(n:Int)) 0 else min v (n:Int))=(((if v<0 then(v+(n:Int)).toNat else min v.toNat n):Nat):Int);by_cases I:v<0
 .simp only[AC I];lia
 .simp only[AB I];lia
def xQ(lo hi:WX)(n:Nat):Builtin.Slice.sliceAdjust lo hi 1 (n:Int)=(((HT n 0 lo:Nat):Int),(HT n n hi:Int)):=by
 have h1:¬((1:Int)<0):=by lia
 unfold Builtin.Slice.sliceAdjust;simp only[h1,if_false];refine Eu ?_ ?_
 .cases lo with|none=>rfl|some v=>exact Ir v n 0
 .cases hi with|none=>rfl|some v=>exact Ir v n n
def xI(i j:Nat):Builtin.Slice.slicePlaces (i:Int) (j:Int) 1=j-i:=by
 unfold Builtin.Slice.slicePlaces;have h1:(1:Int) > 0:=by lia
 simp only[h1,if_true,Int.ediv_one];split<;>lia
def nN{v:W0}{o:WX}{Q:WX->W1->Prop}(p:IsPart v o)(h:Q o s):wpAny (model prog w) A (Builtin.Slice.slicePartIndex v) Q E s:=by cases p with|none=>exact slicePart_none h|int i t=>exact slicePart_int h
def kC{j:Addr}{U g:W0}{lo hi:WX}{Q:Int×Int×Nat->W1->Prop}(hs:s.heap.IsSliceOf j U g .none)(l:IsPart U lo)(o:IsPart g hi)
 (h:Q (((HT n 0 lo:Nat):Int),1,HT n n hi-HT n 0 lo) s):wpAny (model prog w) A (Builtin.Slice.sliceApplied (.ref j)<|pure (n:Int)) Q E s:=by
 obtain⟨os,I,p,J⟩:=id hs;refine Aa<|Aa<|Bd I J (x:=U) rfl<|Aa<|Bd I J (x:=g) rfl<|Aa<|Bd I J (x:=.none) rfl<|Aj ?_;refine Aa<|slicePart_none ?_;rw[AB (by decide)];refine Aa<|nN l<|Aa<|nN o<|Aa<|Aj ?_;show wpAny _ _ (match Builtin.Slice.sliceAdjust lo hi 1 (n:Int) with|(lo,hi)=>pure (lo,(1:Int),Builtin.Slice.slicePlaces lo hi 1)) _ _ s;rw[xQ lo hi n];show wpAny _ _ (pure (((HT n 0 lo:Nat):Int),(1:Int),Builtin.Slice.slicePlaces ((HT n 0 lo:Nat):Int) (HT n n hi:Int) 1)) _ _ s;rw[xI];exact Aj h
def OO(xs:WQ)(i k:Nat):((List.range k).filterMap λ(m:Nat)=>xs[((i:Int)+(m:Int)*1).toNat]?).toArray=((xs.toList.drop i).take k).toArray:=by
 have e:(λ(m:Nat)=>xs[((i:Int)+(m:Int)*1).toNat]?)=λm=>xs[i+m]?:=by
  funext m;have:((i:Int)+(m:Int)*1).toNat=i+m:=by lia
  rw[this]
 rw[e];have:=pick_run xs i k;rw[List.filterMap_map] at this;have I:((λx=>xs[x]?)∘λx=>i+x)=λm=>xs[i+m]?:=rfl;rw[I] at this;rw[this]
def Xu{t U:Addr}{items:WQ}{p r:W0}{lo hi:WX}(J:IsTup s.heap t items)(hs:s.heap.IsSliceOf U p r .none)(C:IsPart p lo)(T:IsPart r hi)
 (hw:¬(HT items.size 0 lo=0/\HT items.size items.size hi=items.size))
 (h:Q (.ref s.heap.objs.size) {s with heap:=s.heap.push {cls:=.type "tuple",data:=.seq ((items.toList.drop<|HT items.size 0 lo).take<|HT items.size items.size hi-HT items.size 0 lo).toArray}})
 (hsz:items.size<=sizeLine):wpAny (model prog w) A (getItem (.ref t)<|.ref U) Q E s:=by
 have I:sizeOk (.seq ((items.toList.drop<|HT items.size 0 lo).take<|HT items.size items.size hi-HT items.size 0 lo).toArray):=by show((items.toList.drop<|HT items.size 0 lo).take<|HT items.size items.size hi-HT items.size 0 lo).toArray.size<=sizeLine;rw[Ar,AV,BV,A1];lia
 obtain⟨os,g,j,a1⟩:=id hs;have l:s.TypeIs (.ref U) "slice" := {(os),g,j};unfold getItem
 try with_reducible refine Bj ?_
 first|refine Aa (Aj ?_)|skip
 refine Aa<|wpAny_sequenceKey J.typeIs (by decide) ?_;refine Aa (wpAny_callSpecial?_slot (name:=Str.ofString "__getitem__") J.typeIs CB
  (wpAny_call_entry CB J.typeIs entry_tuple_getitem ?_<|args_tuple_getitem _ _))
 show wpAny _ _ (Builtin.Tuple.tupleItemsOf (.ref t) >>= _) _ _ s;refine Aa<|tupleItemsOf_ J ?_;refine Aa<|wpAny_typeOf l ?_;rw[AC (by decide)];refine Aa<|kC hs C T ?_;have o:¬((((HT items.size 0 lo:Nat):Int)==0&&(1:Int)==1&&(HT items.size items.size hi-HT items.size 0 lo)==items.size)=true):=by intro q;rw[AM,AM] at q;exact hw {by lia,by lia}
 show wpAny _ _ (if (((HT items.size 0 lo:Nat):Int)==0&&(1:Int)==1&&(HT items.size items.size hi-HT items.size 0 lo)==items.size)=true then _ else _) _ _ s;rw[AB o,OO]
 first
  |exact Aa (m:=Builtin.Tuple.tupleExact _)<|Bt (Aj {_,rfl,Aj h}) I
  |exact Aa (m:=Builtin.Tuple.tupleExact _)<|Bt (Aa<|Aj<|Aj {_,rfl,Aj h}) I
  |exact Aa<|Aa (m:=Builtin.Tuple.tupleExact _)<|Bt (Aj<|Aj {_,rfl,Aj h}) I
  |exact Aa<|Aa (m:=Builtin.Tuple.tupleExact _)<|Bt (Aj {_,rfl,Aj h}) I
end
end
end
abbrev TO:=St->Hp->(WX->Hp->Prop)->Prop
def PO(X:Cx)(e:Option Expr)(t:TO):Prop:=
 ∀(pins:List<|Addr×Obj) (s:W1) (σ:St) (H:Hp) (Q:WX->Hp->Prop),qx X pins σ H s->t σ H Q->
  _w X (evalPart e X.env) (λu s'=>∃o H',qx X pins σ H' s'/\IsPart u o/\Q o H') X.xe s
def OP:TO:=λ_ H Q=>Q none H
def ast(t:TE):TO:=λσ H Q=>t σ H λx H1=>∃i,x=.int i/\Q (some i) H1
section
variable {te:TE}{lo hi:Option Expr}{tl th:TO}
def OQ:PO X none OP:=by intro J s U H Q I h;rw[evalPart_none];exact Aj {none,H,I,.none,h}
def OR(h:PE X e te):PO X (some e) (ast te):=by intro J s U H Q I hw;rw[evalPart_some];refine bO (h J s U H _ I hw) λu p x g j l o=>?_;obtain⟨i,rfl,q⟩:=o;obtain⟨t,rfl⟩:=l;exact{some i,g,j,.int i t,q}
def tM(X:Cx)(r:V->WX->WX->Hp->VK->Prop):Prop:=
 ∀(pins:List<|Addr×Obj) (s:W1) (σ:St) (H:Hp) (x:V) (v I J:W0) (lo hi:WX) (U:Addr) (Q:VK),qx X pins σ H s->zr x v->s.heap.IsSliceOf U I J .none->IsPart I lo->IsPart J hi->r x lo hi H Q->
  ∃T id,typeLookup (.type T) "__getitem__" = pure (some<|.builtin id)/\s.TypeIs v T/\_w X (getItem v<|.ref U) (EP X pins σ Q) X.xe s
def tM.or{U:V->WX->WX->Hp->VK->Prop}(h:tM X r)(h':tM X U):tM X (λx lo hi H Q=>r x lo hi H Q\/U x lo hi H Q):=by
 intro J s g H x v j l lo hi o Q I p t C T q;rcases q with q|q
 .exact h J s g H x v j l lo hi o Q I p t C T q
 .exact h' J s g H x v j l lo hi o Q I p t C T q
def OS(r:V->WX->WX->Hp->VK->Prop)(te:TE)(tl th:TO):TE:=λσ H Q=>te σ H λx H1=>tl σ H1 λl H2=>th σ H2 λu I=>r x l u I Q
def OT(t:tM X r)(C:PE X e te)(hl:PO X lo tl)(hu:PO X hi th):PE X (.Subscript e (.Slice lo hi none p2) pos) (OS r te tl th):=by intro J s g H Q I h;refine Subscript_<|aM (C J s g H _ I h) λv s1 ψ=>?_;obtain⟨x,H1,I1,r1,q1⟩:=ψ;refine wpAny_Slice<|aM (hl J s1 g H1 _ I1 q1) λj s2 ⟨l,H2,I2,pl,q2⟩=>aM (hu J s2 g H2 _ I2 q2) λo U ψ=>?_;obtain⟨u,p,I3,pu,q3⟩:=ψ;rw[evalPart_none];refine Aj ?_;have I4:qx X J g p {U with heap:=U.heap.push {cls:=.type "slice",data:=.fields #[j,o,.none]}}:=I3.kept (t':=U.toks) λb ob q=>vb _ q;obtain⟨T,id,hT,ht,hg⟩:=t J {U with heap:=U.heap.push {cls:=.type "slice",data:=.fields #[j,o,.none]}} g p x v j o l u U.heap.objs.size Q I4 r1 (Heap.IsSliceOf.new ..) pl pu q3;exact tail_any (ops:=[.ref U.heap.objs.size,v]) ht hT hg (by with_unfolding_all rfl)
def tT(xs:W6)(lo hi:WX):W6:=(xs.drop<|HT xs.length 0 lo).take<|HT xs.length xs.length hi-HT xs.length 0 lo
def lg(xs:W6)(lo hi:WX):(tT xs lo hi).length<=xs.length:=by unfold tT;rw[AV,BV];lia
def OU(K:Af):V->WX->WX->Hp->VK->Prop:=λx lo hi H Q=>∃a xs,x=.ref a/\dZ K H a xs/\
 ¬(HT xs.length 0 lo=0/\HT xs.length xs.length hi=xs.length)/\∀p,H p=none->Q (.ref p) (upd H p<|.tup<|tT xs lo hi)
def OV:tM X (OU X.K):=by
 rintro l s σ H x v vl vu lo g sl Q I C T pl pu⟨a,U,rfl,hx,hw,q⟩;cases C;obtain⟨j,r,p,t⟩:=I.tuple hx;have J:j.toArray.size=U.length:=by rw[Ar];exact r.length.symm
 refine{"tuple",_,CB.lookup,p.typeIs,?_};refine Xu p T pl pu (by rw[J];exact hw) ?_ (by rw[J];exact t);rw[J];refine{.ref s.heap.objs.size,_,I.laid (t':=s.toks) (o:=.tup<|tT U lo g) (λb ob q=>vb _ q) (Am _) ?_,rfl,q _<|I.GT.fresh<|Am _};exact{AS (lg U lo g) t,_,(r.drop<|HT U.length 0 lo).take<|HT U.length U.length g-HT U.length 0 lo,IsTup.new _ _}
def OW(K:Af):R2:=λx y H Q=>∃a b xs ys,x=.ref a/\y=.ref b/\dZ K H a xs/\dZ K H b ys/\xs≠[]/\xs.length+ys.length<=sizeLine/\
 (ys=[]->Q (.ref a) H)/\(ys≠[]->∀p,H p=none->Q (.ref p) (upd H p<|.tup<|xs++ys))
def zk.XT(r:zk xs us):us=[]↔xs=[]:=by cases r with|nil=>simp|cons _ _=>simp
def OX:w6 X (binaryOp .Add) (OW X.K):=by rintro g s σ H x y v u Q I p r⟨a,b,t,C,rfl,rfl,T,hb,hx,j,q1,q2⟩;cases p;cases r;obtain⟨a1,U,p1,_⟩:=I.tuple T;obtain⟨l,J,p2,_⟩:=I.tuple hb;refine YZ p1 p2 (λz=>hx<|U.XT.mp z) (λz=>{.ref a,H,I,rfl,q1<|J.XT.mp z}) (λz=>?_) (by rw[<-U.length,<-J.length];exact j);refine{.ref s.heap.objs.size,_,I.laid (t':=s.toks) (o:=.tup<|t++C) (λb ob q=>vb _ q) (Am _) ?_,rfl,q2 (λw=>z<|J.XT.mpr w) _<|I.GT.fresh<|Am _};exact{by rw[Ad];exact j,_,U.append J,IsTup.new _ _}
end
def rg(n:Nat)(i:Int):Option Nat:=if 0<=i then(if i<n then some i.toNat else none) else if -(n:Int)<=i then some (i+n).toNat else none
def fG(xs:List α)(i:Int):Option α:=(rg xs.length i).bind λj=>xs[j]?
def zD{i:Int}(h:rg n i=some j):seqIndex? i n=some j/\j<n /\ -(n:Int)<=i/\i<n:=by
 unfold rg at h;by_cases h0:0<=i
 .rw[AC h0] at h;by_cases h1:i<n
  .rw[AC h1] at h;have e:=A2 h;exact{by rw[seqIndex_of h0 h1,e],by lia,by lia,h1}
  .rw[AB h1] at h;cases h
 .rw[AB h0] at h;by_cases h1 : -(n:Int)<=i
  .rw[AC h1] at h;have e:=A2 h;exact{by rw[seqIndex_neg (by lia) h1,e],by lia,h1,by lia}
  .rw[AB h1] at h;cases h
def sI{xs:List α}{i:Int}{v:α}(h:fG xs i=some v):∃j,seqIndex? i xs.length=some j/\xs[j]?=some v/\j<xs.length /\ -(xs.length:Int)<=i/\i<xs.length:=by
 unfold fG at h;cases e:rg xs.length i with
 |none=>rw[e] at h;cases h
 |some j=>
  rw[e] at h;obtain⟨h1,h2,h3,I⟩:=zD e;exact{(j),h1,h,h2,h3,I}
def xi{xs:List α}{v:α}(h:xs[j]?=some v):fG xs (j:Int)=some v:=by
 have I:=(AN.mp h).1;have e:rg xs.length (j:Int)=some j:=by unfold rg;rw[AC (by lia),AC (by lia)];simp
 unfold fG;rw[e];exact h
def rT(b:Expr):Prop:=∀o i,subscripted b false o i=operate [o,i] (getItem o i)
def YF(X:Cx)(r:R2):Prop:=
 ∀(value slice:Expr) (pins:List<|Addr×Obj) (s:W1) (σ:St) (H:Hp) (x y:V) (v u:W0) (Q:VK),qx X pins σ H s->zr x v->zr y u->r x y H Q->
  subscripted slice false v u=operate [v,u] (getItem v u)->_w X (subscriptTail value slice v u) (EP X pins σ Q) X.xe s
def Iu(X:Cx)(id:W5)(r:V->W6->Hp->VK->Prop):Prop:=
 ∀(pins:List<|Addr×Obj) (s:W1) (σ:St) (H:Hp) (x:V) (xs:W6) (v:W0) (us:WP) (Q:VK),qx X pins σ H s->zr x v->zk xs us->r x xs H Q->
  _w X (call (.builtin id)<|v::us) (EP X pins σ Q) X.xe s
section
variable {a b:Expr}{ta tb:TE}
def OY{r:R2}(U:YF X r)(g:PE X a ta)(j:PE X b tb)(hs:rT b):PE X (.Subscript a b pos) (Fs r ta tb):=by intro J s l H Q I h;exact Subscript_<|GL g j I h λv u o x y p t C T q=>U a b J o l p x y v u Q t C T q<|hs _ _
def OZ(K:Af):R2:=λx y H Q=>∃p xs i v,x=.ref p/\y=.int i/\aY K H p xs/\fG xs i=some v/\Q v H
def O0(K:Af):R2:=λx y H Q=>∃p xs i v,x=.ref p/\y=.int i/\dZ K H p xs/\fG xs i=some v/\Q v H
def O1:R2:=λx y H Q=>∃z i c,x=.str z/\y=.int i/\z.length<=sizeLine/\fG z.cps.toList i=some c/\Q (.str ⟨#[c]⟩) H
def O6:YF X (OZ X.K):=by
 intro value slice J s C H x y v u Q I rx ry h T;obtain⟨p,xs,i,z,rfl,rfl,hq,he,q⟩:=h;cases rx;obtain⟨t,rfl⟩:=ry;obtain⟨U,r,g,hz⟩:=I.list hq;obtain⟨j,h1,h2,h3,h4,h5⟩:=sI he;obtain⟨w,ew,l⟩:=r.get h2;have hl:=r.length;have hn:=jZ;have vd:EP X J C Q w s:={(z),H,I,l,q};by_cases h0:0<=i
 .have o:i.toNat=j:=by rw[seqIndex_of h0 h5] at h1;exact A2 h1
  exact item_listR g.isList h0 (by lia) (by rw[o];simpa using ew) vd T
 .have o:(i+(U.toArray.size:Int)).toNat=j:=by rw[seqIndex_neg (by lia) h4] at h1;rw[Ar,<-hl];exact A2 h1
  exact subscriptTail_builtinR (x:=w) g.isList.typeIs slot_list_getitem.lookup
   (wpAny_getItem_list_neg (Q:=λr s'=>r=w/\EP X J C Q r s') g.isList (by lia) (by rw[Ar]<;>lia) (by lia) (by rw[o];simpa using ew) ⟨rfl,vd⟩) T
def O7:YF X (O0 X.K):=by
 intro value slice J s g H x y v u Q I o C h T;obtain⟨p,xs,i,z,rfl,rfl,hq,he,q⟩:=h;cases o;obtain⟨t,rfl⟩:=C;obtain⟨a1,r,l,hz⟩:=I.tuple hq;obtain⟨j,h1,h2,h3,h4,h5⟩:=sI he;obtain⟨w,ew,U⟩:=r.get h2;have hl:=r.length;have hn:=jZ;have vd:EP X J g Q w s:={(z),H,I,U,q};exact subscriptTail_builtinR (x:=w) l.typeIs slot_tuple_getitem.lookup
  (getItem_tuple (j:=j) (Q:=λr s'=>r=w/\EP X J g Q r s') l (by lia) (by lia) (by rw[Ar,<-hl];exact h1) (by simpa using ew) ⟨rfl,vd⟩) T
def O8:YF X O1:=by
 intro value slice J s σ H x y v u Q I U g h l;obtain⟨z,i,c,rfl,rfl,hz,o,q⟩:=h;obtain⟨t,rfl⟩:=U;obtain⟨t',rfl⟩:=g;obtain⟨j,h1,h2,h3,p,r⟩:=sI o;have C:z.cps.toList.length=z.length:=by simp[Str.length]
 rw[C] at h1 p r;have hn:=jZ;exact tail_any (typeIs_str s z t) slot_str_getitem.lookup (getItem_str (c:=c) (by have T:decide (i < -(2 ^ 63:Int))=false:=Aw (by lia);have e2:decide (i>=2 ^ 63)=false:=Aw (by lia);rw[T,e2,Bool.or_false]) (by rw[h1];simpa using h2) {.str {#[c]},H,I.tok _,{_,rfl},q}) l
def yV(eH:WP)(n j:Nat)(u:W0):Obj.mapSeq (·.setIfInBounds j u) {cls:=.type "list",data:=.seq eH.toArray n}={cls:=.type "list",data:=.seq (eH.set j u).toArray n}:=by simp[Obj.mapSeq]
def qx.lst{p:Addr}(I:qx X pins σ H s)(h:H p=some (.lst xs)):
 ∃(eH:WP) (n:Nat),zk xs eH/\s.heap.get? p=some {cls:=.type "list",data:=.seq eH.toArray n}/\xs.length<=sizeLine:=by
 obtain⟨z,eH,n,r,e⟩:=I.GT p _ h;exact{(eH),n,r,e,z}
def qx.Zp{p:Addr}{ys:W6}{its':WP}{J:Nat}{f:Obj->Obj}(I:qx X pins σ H s)(h:H p=some (.lst xs))
 (g:s.heap.get? p=some {cls:=.type "list",data:=.seq eH.toArray n}) (U:f {cls:=.type "list",data:=.seq eH.toArray n}={cls:=.type "list",data:=.seq its'.toArray J}) (r:zk ys its') (hz:ys.length<=sizeLine) (t:Nat) (l:0<t:=by walk_at "t"):
 qx X pins σ (upd H p<|.lst ys) {s with heap:=s.heap.update p f,toks:=t}:=by
 have e:(s.heap.update p f).get? p=some {cls:=.type "list",data:=.seq its'.toArray J}:=by rw[Fa f g (by rw[U]<;>rfl),U]
 refine I.write (x:=p) (e:=p) (by rw[h];trivial) (.inl rfl) (λb u j q=>(Heap.get?_update_other _ _<|AG j).trans q) {_,e} ?_;exact{(hz),its',J,r,e}
def arm:V->V->V->Hp->(Hp->Prop)->Prop:=λo i v H Q=>∃p xs k j,o=.ref p/\i=.int k/\H p=some (.lst xs)/\rg xs.length k=some j/\Q (upd H p<|.lst<|xs.set j v)
def vM:H9 X arm:=by
 rintro J s σ H o i v ov iv u Q I ro ri rv⟨p,xs,k,j,rfl,rfl,T,hj,q⟩;cases ro;obtain⟨t,rfl⟩:=ri;obtain⟨U,n,r,g,hz⟩:=I.lst T;obtain⟨h1,h2,h3,h4⟩:=zD hj;have l:=r.length;have hn:=jZ;have I':qx X J σ (upd H p<|.lst<|xs.set j v) {s with heap:=s.heap.update p (Obj.mapSeq (·.setIfInBounds j u))}:=
  I.Zp T g (yV U n j u) (r.set rv j) (by rw[Bq];exact hz) s.toks
 by_cases h0:0<=k
 .have C:k.toNat=j:=by rw[seqIndex_of h0 h4] at h1;exact A2 h1
  exact PySem.W.ki_setAt g h0 (by lia) (by rw[Ar,<-l];exact h4) (by rw[C];exact{_,I',q})
 .have C:(k+(U.toArray.size:Int)).toNat=j:=by rw[seqIndex_neg (by lia) h3] at h1;rw[Ar,<-l];exact A2 h1
  exact PySem.W.ki_setBack g (by lia) (by rw[Ar,<-l];exact h3) (by lia) (by rw[C];exact{_,I',q})
def sj(lo hi:WX)(n:Nat):(sliceBounds lo hi none n).1=((HT n 0 lo:Nat):Int)/\(sliceBounds lo hi none n).2.1=((HT n n hi:Nat):Int)/\(sliceBounds lo hi none n).2.2=1:=by
 refine{?_,?_,rfl}
 .cases lo with
  |none=>simp[sliceBounds,HT]
  |some i=>
   simp only[sliceBounds,HT,Option.getD_none,show(1:Int) > 0 by decide,if_true];by_cases h:i<0
   .simp only[h,if_true]<;>lia
   .simp only[h,if_false]<;>lia
 .cases hi with
  |none=>simp[sliceBounds,HT]
  |some i=>
   simp only[sliceBounds,HT,Option.getD_none,show(1:Int) > 0 by decide,if_true];by_cases h:i<0
   .simp only[h,if_true]<;>lia
   .simp only[h,if_false]<;>lia
def pZ(eH:WP)(lo hi:WX):slicePick eH.toArray lo hi none=((eH.drop<|HT eH.length 0 lo).take<|HT eH.length eH.length hi-HT eH.length 0 lo).toArray:=by obtain⟨h1,h2,h3⟩:=sj lo hi eH.toArray.size;unfold slicePick;rw[h1,h2,h3];simp only[sliceRange_one,pick_run,Ar]<;>rfl
def O9(K:Af):V->WX->WX->Hp->VK->Prop:=λx lo hi H Q=>∃a xs,x=.ref a/\aY K H a xs/\∀p,H p=none->Q (.ref p) (upd H p<|.lst<|tT xs lo hi)
def O_:tM X (O9 X.K):=by rintro j s σ H x v vl vu lo g sl Q I p t C T⟨a,J,rfl,hx,q⟩;cases p;obtain⟨a1,r,l,hz⟩:=I.list hx;have U:=r.length;refine{"list",_,slot_list_getitem.lookup,l.isList.typeIs,?_};refine wpAny_getItem_list_slice l.isList t C T .none (by simp) ?_ (by rw[Ar]<;>lia);rw[pZ,<-U];refine{.ref s.heap.objs.size,_,I.laid (t':=s.toks) (o:=.lst<|tT J lo g) (λb ob q=>vb _ q) (Am _) ?_,rfl,q _<|I.GT.fresh<|Am _};exact{AS (lg J lo g) hz,_,0,(r.drop<|HT J.length 0 lo).take<|HT J.length J.length g-HT J.length 0 lo,xT _ rfl}
def bM:V->Bool
 |.GM=>true
 |.bl _=>true
 |.int _=>true
 |.str _=>true
 |_=>false
def iD:V->V->Bool
 |.GM,.GM=>true
 |.bl a,.bl b=>a==b
 |.bl a,.int b=>(if a then 1 else 0)==b
 |.int a,.bl b=>a==(if b then 1 else 0)
 |.int a,.int b=>a==b
 |.str a,.str b=>a==b
 |_,_=>false
def o5{y x:V}{v:W0}(U:zr y u)(I:zr x v)(j:bM y=true)(g:bM x=true):SeqAt.EqAt A s u v (iD y x):=by
 cases y with
 |GM=>
  cases U;cases x with
  |GM=>cases I;exact SeqAt.EqAt.same _
  |bl b=>cases I;exact SeqAt.EqAt.none_bool b
  |int b=>obtain⟨t,rfl⟩:=I;exact SeqAt.EqAt.none_int b t
  |str b=>obtain⟨t,rfl⟩:=I;exact SeqAt.EqAt.none_str b t
  |_=>exact absurd (show false=true from g) AH
 |bl a=>
  cases U;cases x with
  |GM=>cases I;exact SeqAt.EqAt.bool_none a
  |bl b=>cases I;exact SeqAt.EqAt.bool_bool a b
  |int b=>obtain⟨t,rfl⟩:=I;exact SeqAt.EqAt.bool_int a b t
  |str b=>obtain⟨t,rfl⟩:=I;exact SeqAt.EqAt.bool_str a b t
  |_=>exact absurd (show false=true from g) AH
 |int a=>
  obtain⟨J,rfl⟩:=U;cases x with
  |GM=>cases I;exact SeqAt.EqAt.int_none a J
  |bl b=>cases I;exact SeqAt.EqAt.int_bool a J b
  |int b=>obtain⟨t,rfl⟩:=I;exact SeqAt.EqAt.int_int a J b t
  |str b=>obtain⟨t,rfl⟩:=I;exact SeqAt.EqAt.int_str a J b t
  |_=>exact absurd (show false=true from g) AH
 |str a=>
  obtain⟨J,rfl⟩:=U;cases x with
  |GM=>cases I;exact SeqAt.EqAt.str_none a J
  |bl b=>cases I;exact SeqAt.EqAt.str_bool a J b
  |int b=>obtain⟨t,rfl⟩:=I;exact SeqAt.EqAt.str_int a J b t
  |str b=>obtain⟨t,rfl⟩:=I;exact SeqAt.EqAt.str_str a J b t
  |_=>exact absurd (show false=true from g) AH
 |_=>exact absurd (show false=true from j) AH
def xV(x:V)(u:W0):Bool:=match u with
 |.none=>iD .GM x
 |.bool b=>iD (.bl b) x
 |.int i _=>iD (.int i) x
 |.str z _=>iD (.str z) x
 |_=>false
def Iv{x y:V}(r:zr y u)(f:bM y=true):xV x u=iD y x:=by
 cases y with
 |GM=>cases r;rfl
 |bl b=>cases r;rfl
 |int i=>obtain⟨t,rfl⟩:=r;rfl
 |str z=>obtain⟨t,rfl⟩:=r;rfl
 |_=>exact absurd (show false=true from f) AH
theorem i8{x:V}:∀{xs:W6} {us:WP},zk xs us->xs.all bM=true->us.any (xV x)=xs.any λy=>iD y x
 |_,_,.nil,_=>rfl
 |y::xs,u::us,.cons r t,f=>by rw[CA,AM] at f;rw[Cz,Cz,Iv r f.1,i8 t f.2]
def iW{x:V}{v:W0}(J:zr x v)(U:bM x=true):∀{xs:W6} {us:WP},zk xs us->xs.all bM=true->∀u∈us,SeqAt.EqAt A s u v (xV x u):=by
 intro xs us h
 induction h with
 |nil=>intro _ u I;cases I
 |cons r t g=>
  intro f j I;rw[CA,AM] at f;rcases As.mp I with rfl|I
  .rw[Iv r f.1];exact o5 r J f.1 U
  .exact g f.2 j I
def tN(x:V)(xs:W6):Bool:=xs.any λy=>iD y x
def GW(K:Af)(neg:Bool):R2:=λx y H Q=>∃p xs,y=.ref p/\(aY K H p xs\/dZ K H p xs)/\bM x=true/\xs.all bM=true/\Q (.bl<|if neg then !tN x xs else tN x xs) H
def O':w6 X (compareOp .In) (GW X.K false):=by
 rintro j s T H x y v u Q I l t⟨p,xs,rfl,U,o,fs,q⟩;cases t;rcases U with U|U
 .obtain⟨J,r,g,C⟩:=I.list U;refine SeqAt.in_listAt (xV x) g.isList (λw hw=>iW l o r fs w (by simpa using hw)) {.bl _,H,I,rfl,?_};rw[show J.toArray.any (xV x)=J.any (xV x) by simp,i8 r fs];exact q
 .obtain⟨J,r,g,C⟩:=I.tuple U;refine SeqAt.in_tupleAt (xV x) g (λw hw=>iW l o r fs w (by simpa using hw)) {.bl _,H,I,rfl,?_};rw[show J.toArray.any (xV x)=J.any (xV x) by simp,i8 r fs];exact q
def rR:w6 X (compareOp .NotIn) (GW X.K true):=by
 rintro j s T H x y v u Q I l t⟨p,xs,rfl,U,o,fs,q⟩;cases t;rcases U with U|U
 .obtain⟨J,r,g,C⟩:=I.list U;refine SeqAt.notIn_listAt (xV x) g.isList (λw hw=>iW l o r fs w (by simpa using hw)) {.bl _,H,I,rfl,?_};rw[show J.toArray.any (xV x)=J.any (xV x) by simp,i8 r fs];exact q
 .obtain⟨J,r,g,C⟩:=I.tuple U;refine SeqAt.notIn_tupleAt (xV x) g (λw hw=>iW l o r fs w (by simpa using hw)) {.bl _,H,I,rfl,?_};rw[show J.toArray.any (xV x)=J.any (xV x) by simp,i8 r fs];exact q
def rZ:jh X (.builtin "len") (λxs H Q=>∃p ys,xs=[.ref p]/\(aY X.K H p ys\/dZ X.K H p ys)/\Q (.int ys.length) H):=by
 rintro o s T H xs us Q I r⟨p,ys,rfl,U,q⟩;obtain⟨u,rfl,t⟩:=rG r;cases t;have hn:=jZ;rcases U with U|U
 .obtain⟨g,j,l,C⟩:=I.list U;have J:=j.length;exact Calls.call_len_list l.isList (by simp only[Ar]<;>lia) {.int ys.length,H,I.tok _,{s.toks+1,by rw[Ar,J]},q}
 .obtain⟨g,j,l,C⟩:=I.tuple U;have J:=j.length;exact len_tuple l (by simp only[Ar]<;>lia) {.int ys.length,H,I.tok _,{s.toks+1,by rw[Ar,J]},q}
def sF:jh X (.builtin "len") (λxs H Q=>∃z,xs=[.str z]/\z.length<=sizeLine/\Q (.int z.length) H):=by rintro J s U H xs g Q I r⟨z,rfl,j,q⟩;obtain⟨u,rfl,t,rfl⟩:=rG r;have l:=jZ;exact len_str (by lia) {.int z.length,H,I.tok _,{_,rfl},q}
def sD:jh X (.type "list") (λxs H Q=>∃p ys,xs=[.ref p]/\(aY X.K H p ys\/dZ X.K H p ys)/\∀l,H l=none->Q (.ref l) (upd H l<|.lst ys)):=by
 rintro t s σ H xs us Q I r⟨p,ys,rfl,C,q⟩;obtain⟨u,rfl,rx⟩:=rG r;cases rx;have vd:∀(J:WP),zk ys J->ys.length<=sizeLine->∀(U:W4) (g:Nat),(∀b o',s.heap.get? b=some o'->U.get? b=some o')->
  U.get? s.heap.objs.size=some {cls:=.type "list",dict:=none,data:=.seq J.toArray g,slots:=#[]}->EP X t σ Q (.ref s.heap.objs.size) {s with heap:=U}:=λJ j T U g kp e=>
  ⟨.ref s.heap.objs.size,_,I.laid (t':=s.toks) kp (Am _)<|show xu X.prog X.w _ U _ (.lst ys) from{(T),J,g,j,e},rfl,q _<|I.GT.fresh<|Am _⟩
 rcases C with C|C
 .obtain⟨J,j,pl,T⟩:=I.list C;have a1:=j.length;obtain⟨o,ho,hc,n,hd⟩:=pl.isList;exact call_list_seq p (.inl rfl) ho hc hd (λU g kp e=>vd J j T U g kp e) (by simp only[Ar]<;>lia)
 .obtain⟨J,j,pl,T⟩:=I.tuple C;have a1:=j.length;obtain⟨o,ho,hc,n,hd⟩:=pl;exact call_list_seq p (.inr rfl) ho hc hd (λU g kp e=>vd J j T U g kp e) (by simp only[Ar]<;>lia)
def F5(K:Af)(T:W5)(x:V)(H:Hp):Prop:=match x with
 |.str _=>T = "str"
 |.int _=>T = "int"
 |.ref p=>(T = "list" /\ ∃xs,aY K H p xs)\/(T = "tuple" /\ ∃o,K.lookup p=some o/\o.cls=.type "tuple" /\ o.dict=none)\/
  (T = "dict" /\ ((∃kvs,H p=some (.dK kvs))\/∃kvs,H p=some (.dT kvs)))\/(T = "set" /\ ∃S n,H p=some (.set S n))
 |_=>False
def Iw{T:W5}{x:V}{v:W0}(I:qx X pins σ H s)(r:zr x v)(ty:F5 X.K T x H):
 s.TypeIs v T/\∀a,v=.ref a->∃ob,s.heap.get? a=some ob/\ob.dict=none:=by
 cases x with
 |str z=>
  obtain⟨t,rfl⟩:=r;cases (show T = "str" from ty);exact{typeIs_str s z t,λ_ e=>nomatch e}
 |int i=>
  obtain⟨t,rfl⟩:=r;cases (show T = "int" from ty);exact{typeIs_int s i t,λ_ e=>nomatch e}
 |ref p=>
  cases r;rcases ty with⟨rfl,xs,l⟩|⟨rfl,o,J,C,hd⟩|⟨rfl,J⟩|⟨rfl,S,n,J⟩
  .obtain⟨a1,_,j,_⟩:=I.list l;refine{j.isList.typeIs,λa e=>?_};cases e;obtain⟨o,n,e,c,hd,_⟩:=j;exact{(o),e,hd}
  .refine{{o,I.SL p o J,C},λa e=>?_};cases e;exact{o,I.SL _ o J,hd}
  .have z:∃o,s.heap.get? p=some o/\o.ExactDict:=by
    rcases J with⟨U,J⟩|⟨U,J⟩
    .obtain⟨_,_,_,_,o,_,_,e,ex,_⟩:=I.GT p _ J;exact{(o),e,ex}
    .obtain⟨_,_,_,_,o,_,_,e,ex,_⟩:=I.GT p _ J;exact{(o),e,ex}
   obtain⟨o,e,ex⟩:=z;refine{{(o),e,ex.1},λa g=>?_};cases g;exact{(o),e,ex.2.1}
  .obtain⟨o,_,_,_,e,ex,_⟩:=I.GT p _ J;refine{{(o),e,ex.1},λa g=>?_};cases g;exact{(o),e,ex.2.1}
 |_=>exact False.elim ty
def Pa(K:Af)(T:W5)(r:V->W6->Hp->VK->Prop)(to:TE):TE:=λσ H Q=>to σ H λx H1=>F5 K T x H1/\r x [] H1 Q
def Pb(K:Af)(T:W5)(r:V->W6->Hp->VK->Prop)(to:TE)(t:TA):TE:=λσ H Q=>to σ H λx H1=>F5 K T x H1/\t σ H1 λxs H2=>r x xs H2 Q
variable {to:TE}{t:TA}{T id:W5}{r:V->W6->Hp->VK->Prop}
def Pd(pa:PlainAttrs T)(slot:Slot T name id)(j:typeOf (.builtin id)=pure (.type "method_descriptor"))(C:Iu X id r)(ho:PE X o to)
 (U:attributeBase o name X.env (eval o X.env)=eval o X.env:=by rfl) (g:(apos.endLine==fm.line)=true:=by rfl):PE X (.Call (.Attribute o name apos) [] [] fm) (Pa X.K T r to):=by
 intro J s l H Q I h;refine wpAny_Call_method0_late U g<|aM (ho J s l H _ I h) λv s1 ψ=>?_;obtain⟨x,H1,p,t,ty,q1⟩:=ψ;obtain⟨h1,h2⟩:=Iw p t ty;exact{T,id,pa,slot,j,h1,h2,Calls.callWith_builtin rfl<|PySem.evalArgs_none<|C J s1 l H1 x [] v [] Q p t .nil q1}
def Ix(pa:PlainAttrs T)(slot:Slot T name id)(p:typeOf (.builtin id)=pure (.type "method_descriptor"))(hm:Iu X id r)(ho:PE X o to)(ha:PA X (e::es) t)
 (g:attributeBase o name X.env (eval o X.env)=eval o X.env:=by rfl)
 (l:((backTo fm<|starEach (e::es) X.env).all (λx=>!x.1)&&(backToKw fm<|keywordEach [] X.env).all (λx=>x.1.isSome)
  && decide ((e::es).length+([]:List Keyword).length+(if ([]:List Keyword).isEmpty then 0 else 1)<30))=true:=by rfl)
 (j:(apos.endLine==fm.line)=true:=by rfl) (hs:Fb e es X:=by rfl) (U:Fc fm es X:=by rfl):
 PE X (.Call (.Attribute o name apos) (e::es) [] fm) (Pb X.K T r to t):=by
 intro J s C H Q I h;refine wpAny_Call_method_late g l j rfl<|aM (ho J s C H _ I h) λv s1 ψ=>?_;obtain⟨x,H1,I1,r1,ty,q1⟩:=ψ;obtain⟨h1,h2⟩:=Iw I1 r1 ty;refine{T,id,pa,slot,p,h1,h2,?_};have hA:=ha fm J s1 C H1 _ I1 q1;rw[hs] at hA ⊢;refine Calls.callWith_builtin (by show(false||(backTo fm<|starEach es X.env).any (·.1))=false;rw[U]<;>rfl)<|Calls.evalArgs_plain ?_;exact aM hA λus s2 ψ=>(by obtain⟨vs,H2,I2,r2,q2⟩:=ψ;exact hm J s2 C H2 x vs v us Q I2 r1 r2 q2)
end
def iE(X:Cx)(id:W5)(r:V->W6->Hp->VK->Prop):Prop:=
 ∀(pins:List<|Addr×Obj) (s:W1) (σ:St) (H:Hp) (x:V) (xs:W6) (v:W0) (us:WP) (Q:VK),qx X pins σ H s->zr x v->zk xs us->r x xs H Q->
  _w X (call (.builtin id)<|v::us) (EP X pins σ Q) X.xe s
def zk.one{x:V}(h:zk [x] us):∃u,us=[u]/\zr x u:=by cases h with|cons r t=>cases t;exact{_,rfl,r}
def zk.two{x y:V}(h:zk [x,y] us):∃u v,us=[u,v]/\zr x u/\zr y v:=by cases h with|cons r t=>cases t with|cons q t=>cases t;exact{_,_,rfl,r,q}
theorem zk.zero:∀{us:WP},zk [] us->us=[]
 |_,.nil=>rfl
def zk.dropLast(h:zk xs us):zk xs.dropLast us.dropLast:=by
 induction h with
 |nil=>exact .nil
 |cons r t I=>
  cases t with|nil=>exact .nil|cons q J=>exact .cons r I
theorem zk.eraseIdx:∀{xs:W6} {us:WP} (i:Nat),zk xs us->zk (xs.eraseIdx i) (us.eraseIdx i)
 |_,_,_,.nil=>.nil
 |_,_,0,.cons _ t=>t
 |_,_,i+1,.cons r t=>.cons r<|zk.eraseIdx i t
def yD(l:List α):l.eraseIdx (l.length-1)=l.dropLast:=by
 induction l with
 |nil=>rfl
 |cons a r I=>
  cases r with
  |nil=>rfl
  |cons b r=>
   have e:(a::b::r).length-1=((b::r).length-1)+1:=by have h1:(a::b::r).length=r.length+2:=rfl;have h2:(b::r).length=r.length+1:=rfl;lia
   rw[e,CF,I]
   all_goals rfl
theorem rC{α:Type}:∀(l:List α) (i:Nat),(l.eraseIdx i).length<=l.length
 |[],_=>Am _
 |_::_,0=>CU _
 |_::r,i+1=>C2<|rC r i
section
variable {l b:Addr}{ys zs:W6}
def qx.Yw{its':WP}{f:WQ->WQ}(I:qx X pins σ H s)(J:H l=some (.lst xs))
 (e:s.heap.get? l=some {cls:=.type "list",data:=.seq eH.toArray n}) (U:f eH.toArray=its'.toArray) (g:zk ys its') (hz:ys.length<=sizeLine) (p:0<t':=by walk_at "t"):
 qx X pins σ (upd H l<|.lst ys) {s with heap:=s.heap.update l<|Obj.mapSeq f,toks:=t'}:=by
 have q:=PySem.IsL.update e f;rw[U] at q;refine I.write (x:=l) (e:=l) (by rw[J];exact trivial) (.inl rfl) (λr u j o=>(Heap.get?_update_other s.heap (Obj.mapSeq f)<|AG j).trans o) {_,q} ?_;exact{hz,its',_,g,q}
def qx.ZW(I:qx X pins σ H s)(J:zk ys eH)(hz:ys.length<=sizeLine)(U:0<t':=by walk_at "t"):
 qx X pins σ (upd H s.heap.objs.size<|.lst ys) {s with heap:=s.heap.push {cls:=.type "list",data:=.seq eH.toArray},toks:=t'}:=
 I.laid (λ_ _ q=>vb _ q) (Am _) ⟨hz,eH,0,J,xT _ rfl⟩
theorem qx.fresh(I:qx X pins σ H s):H s.heap.objs.size=none:=I.GT.fresh<|Am _
def qx.XU(I:qx X pins σ H s)(J:H l=some (.lst xs)):xs.length<=sizeLine/\∃(eH:WP) (n:Nat),zk xs eH/\xs.length=eH.length/\s.heap.get? l=some {cls:=.type "list",data:=.seq eH.toArray n}:=by obtain⟨z,eH,n,r,e⟩:=I.GT l _ J;exact{(z),eH,n,r,r.length,e}
def Pe(h:n<=sizeLine):Builtin.List.listTooLong n=false:=by exact Aw (by lia)
end
def Pf:V->W6->Hp->VK->Prop:=λx vs H Q=>∃l xs y,x=.ref l/\vs=[y]/\H l=some (.lst xs)/\xs.length<sizeLine/\Q .GM (upd H l<|.lst<|xs++[y])
def Pg:iE X "list.append" Pf:=by rintro U s t H x C v T Q I j o⟨l,xs,y,rfl,rfl,g,hz,q⟩;cases j;obtain⟨u,rfl,p⟩:=o.one;obtain⟨z,J,n,r,hl,e⟩:=I.XU g;refine call_meets F.slot_list_append {_,e,rfl} F.entry_list_append (F.args_list_append_2 _ _) (PySem.list_append l J.toArray n u (by rw[Ar];lia)) {e,?_};refine{.GM,_,I.Yw (its':=J++[u]) g e (by simp) (r.append<|.cons p .nil) ?_,rfl,q};rw[Ad,B6];lia
def Ph:V->W6->Hp->VK->Prop:=λx vs H Q=>∃l b xs zs,x=.ref l/\vs=[.ref b]/\H l=some (.lst xs)/\H b=some (.lst zs)/\xs.length+zs.length<=sizeLine/\Q .GM (upd H l<|.lst<|xs++zs)
def Pj:iE X "list.extend" Ph:=by
 rintro o s σ H x vs v us Q I t C⟨l,b,xs,zs,rfl,rfl,p,T,hz,q⟩;cases t;obtain⟨u,rfl,ru⟩:=C.one;cases ru;obtain⟨z,U,n,r,hl,e⟩:=I.XU p;obtain⟨z2,J,n2,r2,a1,e2⟩:=I.XU T;have j:U.toArray.size+J.toArray.size<=sizeLine:=by rw[Ar,Ar];lia
 have g:¬(!U.toArray.isEmpty&&Builtin.List.listTooLong (U.toArray.size+J.toArray.size))=true:=by rw[Pe j,BW];exact AH
 refine call_meets F.slot_list_extend {_,e,rfl} F.entry_list_extend (F.args_list_extend_2 _ _)
  (AutoSeq1.list_extend_list_list_0 l U.toArray n b J.toArray n2 g (by rw[Ar];lia) (by lia)) ⟨e,e2,?_⟩
 refine{.GM,_,I.Yw (its':=U++J) p e (by simp) (r.append r2) ?_,rfl,q};rw[Ad];lia
def Pk:V->W6->Hp->VK->Prop:=λx vs H Q=>∃l xs y,x=.ref l/\vs=[]/\H l=some (.lst xs)/\xs[xs.length-1]?=some y/\Q y (upd H l<|.lst xs.dropLast)
def Pl:iE X "list.pop" Pk:=by
 rintro j s σ H x vs v us Q I p t⟨l,xs,y,rfl,rfl,o,C,q⟩;cases p;have U:=t.zero;subst U;obtain⟨z,J,n,r,T,e⟩:=I.XU o;obtain⟨u,hu,ru⟩:=r.get C;have g:J.toArray[J.toArray.size-1]?=some u:=by show J.toArray[J.length-1]?=some u;rw[<-A8,<-T];exact hu
 refine call_meets F.slot_list_pop {_,e,rfl} F.entry_list_pop (F.args_list_pop_1 _) (MeetsSeq.list_pop_last l J.toArray n u g (by rw[Ar];lia)) {e,?_};refine{y,_,I.Yw (its':=J.dropLast) o e ?_ r.dropLast ?_,ru,q}
 .show J.toArray.eraseIdxIfInBounds (J.toArray.size-1)=J.dropLast.toArray;rw[Ar,Dx,yD]
 .rw[List.length_dropLast];lia
def Pm:V->W6->Hp->VK->Prop:=λx vs H Q=>∃l xs i k y,x=.ref l/\vs=[.int i]/\H l=some (.lst xs) /\ -(2 ^ 63)<=i/\i<2 ^ 63/\seqIndex? i xs.length=some k/\xs[k]?=some y/\Q y (upd H l<|.lst<|xs.eraseIdx k)
def Pn:iE X "list.pop" Pm:=by
 rintro g s σ H x vs v us Q I o p⟨l,C,i,k,y,rfl,rfl,j,h1,h2,T,hy,q⟩;cases o;obtain⟨u,rfl,ru⟩:=p.one;obtain⟨t,rfl⟩:=ru;obtain⟨z,J,n,r,hl,e⟩:=I.XU j;obtain⟨w,hw,U⟩:=r.get hy;refine call_meets F.slot_list_pop {_,e,rfl} F.entry_list_pop (F.args_list_pop_2 _ _)
  (MeetsSeq.list_pop_at l J.toArray n i t k w (fitsIndex_both h1 h2) (by rw[Ar,<-hl];exact T) (by rw[<-A8];exact hw) (by rw[Ar];lia)) ⟨e,?_⟩
 refine{y,_,I.Yw (its':=J.eraseIdx k) j e ?_ (r.eraseIdx k) ?_,U,q}
 .show J.toArray.eraseIdxIfInBounds k=(J.eraseIdx k).toArray;rw[Dx]
 .have:=rC C k;lia
def Po:R2:=λx y H Q=>∃l b xs zs,x=.ref l/\y=.ref b/\H l=some (.lst xs)/\H b=some (.lst zs)/\xs.length+zs.length<=sizeLine/\∀p,H p=none->Q (.ref p) (upd H p<|.lst<|xs++zs)
def Pp:w6 X (binaryOp .Add) Po:=by
 rintro g s σ H x y v u Q I j o⟨l,b,xs,zs,rfl,rfl,p,t,hz,q⟩;cases j;cases o;obtain⟨z,U,n,r,hl,e⟩:=I.XU p;obtain⟨z2,J,n2,C,T,e2⟩:=I.XU t;refine PySem.P.add_list e e2 ?_ (by rw[Ar,Ar];lia);have ea:U.toArray++J.toArray=(U++J).toArray:=by simp
 rw[ea];exact{.ref _,_,I.ZW (t':=s.toks) (r.append C) (by rw[Ad];lia),rfl,q _ I.fresh}
section
variable {w:W3}
set_option maxRecDepth 100000 in
end
section
open PySem.W PySem.Calls
def mD{P:Params} :∀(ns:WV) (vs:WP),WellAll P h vs (ns.map WData.int)->IntsAre vs ns:=by
 intro ns
 induction ns with
 |nil=>
  intro vs w;rw[Do] at w;cases w;exact .nil
 |cons n ns I=>
  intro vs w;rw[AA] at w;cases w with
  |cons a b=>
   cases a;exact .cons _ _<|I _ b
def Pq{l:OpenLaw}(C:l.most=some n){P:Params}{args:List WData}{I:WP}
 (J:l.row.toRowW.claim.pre args=true) (p:WellAll P h I args):
 ∃a vs ns,I=[Value.ref a]/\args=[WData.list<|ns.map WData.int]/\h.get? a=some {cls:=.type "list",data:=.seq vs.toArray}/\IntsAre vs ns/\ns.length<=n:=by
 have t:=(pre_splitW J).1;have T:=(pre_splitW J).2;obtain⟨d,r,rfl,h1,h2⟩:=hasAllW_cons t;obtain rfl:=hasAllW_nil h2;obtain⟨xs,rfl,h3⟩:=hasW_list h1;obtain⟨ns,rfl⟩:=items_int h3;have U:ns.length<=n:=by
  have j:(WTm.not<|.lt (.lit<|.int (n:Int))<|.len<|.arg 0).holds [] {args:=[.list<|ns.map .int]}=true:=by have j:=(holds_andW T).1;rw[C] at j;exact j
  have o:=condW_of j<|w_not<|w_lt w_lit<|w_len_list<|w_arg rfl;rw[Ac] at o;refine Nat.le_of_not_lt λq=>?_;have q':(n:Int)<((ns.length:Nat):Int):=by lia
  first
   |(rw[AD q'] at o;exact absurd o (by decide))
   |(simp at o;lia)
 cases p with
 |cons w1 w2=>
  cases w2;cases w1 with|list ho g=>exact{_,_,ns,rfl,rfl,ho,mD ns _ g,U}
def Pr(l:OpenLaw)(args:List WData):l.row.toRowW.claim.post args (.bool true) args=true:=
 postW_of (r:=l.row.toRowW) (X:=(true==true))
  (show WShape.has [] (.bool true) .bool=true by first|rfl|decide|simp[WShape.has,WShape.arms,WShape.armsAll])
  (show(WTm.eq .res<|.lit<|.bool true).value [] {args:=args,res:=some<|.bool true,after:=args}=some (.bool<|true==true) from w_eq_bool (w_res rfl) w_lit) rfl
theorem XO{l:OpenLaw}{q:W2}{loose:WS}{XP:(WM)->W4->Prop}{Y5:List Addr}{N t:Nat}{K:Params->Frag}{d:DefRec}
 (hn:l.most=some n) (p:d.params.defaults=[]) (ek:∀P,Y5=(K P).map (·.1)) (C:0<t)
 (call:∀(w:W3) (s₀ I:W1) (mg T:WM) (fa:Addr) (o:Obj) (pm cd hQ:W0) (a:Addr) (vs:WP) (ns:WV),
  Ground q loose [] XP w s₀ mg T I.heap->(K w.params).In I.heap->0<I.toks->
  I.heap.get? fa=some o->o.data=.func (docDef d.name d.params d.body d.scope pm cd hQ)->I.heap.CodeRec cd d.name->mg d.name=some (.ref fa)->
  I.heap.get? a=some {cls:=.type "list",data:=.seq vs.toArray}->IntsAre vs ns->ns.length<=n->I.gens=#[]->
  codeAny (model l.prog w) callerA (.call (.ref fa) ⟨[.ref a],[]⟩) (λr s'=>r=.ok (.ret<|.bool true)/\OldK I.heap s'.heap/\s'.os=I.os/\AllBare s'.gens) I):
 WalkX q loose XP (PySem.W.X.obsZ Y5) (PySem.W.X.valZ K N t) l.row.toRowW d [] (λf vs=>PySem.call f vs):=by
 intro w s₀ I mg T G Y fa o pm cd hQ dV kV ho hd a1 hD a2 hg args a5 as L U ac al a3 ay;obtain rfl:dV=.none:=Dflts.none hD p;obtain rfl:kV=.none:=Dflts.noKw hD;obtain⟨a,vs,ns,rfl,rfl,g,J,j⟩:=Pq hn U a3;obtain⟨_,zi,_,zt⟩:=X.z_facts ek Y;have eP:∀ns:WV,ofPy (PyData.list<|ns.map PyData.int)=WData.list (ns.map WData.int):=λns=>by
  simp only[ofPy];congr 1
  induction ns with|nil=>simp[ofPys]|cons n r ih=>simp only[AA,ofPys,ofPy,ih]
 rw[<-eP] at L;have KX:=InK.keeps w s₀.heap I.heap zi L.keeps;have a4:=AL C<|X.script_toks L zt;refine enter_call<|codeAny_mono (call w s₀ I mg T fa o pm cd hQ a vs ns G KX a4 ho (fd_plain hd) a1 a2 g J j hg) λr s' hq=>?_;obtain⟨rfl,h2,h3,h4⟩:=hq;exact{.inl {.bool true,.bool true,[],rfl,λ_=>rfl,.bool true,Pr l _,λ_=>{List.Pairwise.nil,λ_ hm=>(nomatch hm)}},h2,h3,h4}
section
variable {w:W3}{K:Frag}
end
end
theorem qY:∀{vs:WP} {ns:WV},IntsAre vs ns->zk (ns.map V.int) vs
 |_,_,.nil=>.nil
 |_,_,.cons n t h=>.cons {(t),rfl}<|qY h
def w4(s:Stmt):Arguments:=match s with
 |.FunctionDef _ a _ _ _ _ _ _ _ _=>a
 |_=>{posonlyargs:=[],args:=[],vararg:=none,kwonlyargs:=[],kw_defaults:=[],kwarg:=none,defaults:=[]}
def x8(s:Stmt):WU:=match s with
 |.FunctionDef _ _ b _ _ _ _ _ _ _=>b
 |_=>[]
def qy(s:Stmt):Scope:=match s with
 |.FunctionDef _ _ _ _ _ _ I _ _ _=>I
 |_=>{kind:=.function,names:=[],isGenerator:=false,isCoroutine:=false}
abbrev Yr:yY:=λ_ _ _ _ _ _=>False
abbrev E0:XK:=λ_ _ _=>False
def Ps :wU Yr X E0:=λ_ _ _ _ _ _ _ h=>h.elim
structure Y0(K:Af)(x eK:Str)(st:Stmt)(f:Addr)(fd:FuncData):Prop where
 ex:∃(oc:W0) (od:Option Addr) (kV hQ pm:W0) (an:Option Addr) (eW ct:W0) (pR:Array<|WW),
  fd=PySem.W.fnOf x eK (w4 st) (x8 st) (qy st) .none kV hQ pm an eW ct/\K.lookup f=some ⟨oc,od,.func fd,pR⟩/\PySem.W.codeIn K eW eK=true
 kp:PySem.W.keepIn K (.ref f)=true
section
variable {P:W2}{w:W3}{K:Af}
def Y0.ok{N:WS}{k:Nat}(F:Y0 K x eK st f fd)(S:aX N ps<|qy st)(len:∀vs H Q E,sp vs H Q E->vs.length=ps.length)
 (I:∀(eW:W0) (A:Around) (outer:List Env) (s:W1) (H:Hp) (vs:W6) (Q:VK) (E:XK),aR k (A.deeper<|envOfC eK (qy st) s.heap.objs.size f eW)->sp vs H Q E->
  ∃t,jA (fN Yr P w K mg base N eK (qy st) f eW A outer s H E).Y4 (x8 st) t/\t {nx:=λ_ H'=>Q .GM H',rt:=Q} (start N vs) H):bV P w K mg base Yr (k+1) f fd ps sp:=by
 obtain⟨o,p,kV,g,pm,an,eW,r,j,rfl,lk,J⟩:=F.ex;refine GR lk J S len λA outer s H vs Q E l U=>?_;obtain⟨t,h,q⟩:=I eW A outer s H vs Q E l U;exact{(t),h.Y4,q}
def Pu{kV ct:W0}(l:K.lookup f=some ⟨oc,od,.func<|PySem.W.fnOf x eK (w4 st) (x8 st) (qy st) .none kV hQ pm an eW ct,pR⟩)
 (c:PySem.W.codeIn K eW eK=true) (k:PySem.W.keepIn K (.ref f)=true):Y0 K x eK st f (PySem.W.fnOf x eK (w4 st) (x8 st) (qy st) .none kV hQ pm an eW ct):={{(oc),od,kV,hQ,pm,an,eW,ct,pR,rfl,l,c},k}
end
def qJ(h:n<=1000):n<sizeLine:=Bs h (by decide)
def pv(i:Nat)(hN:X.N[i]?=some x:=by rfl)(J:A' X.env.scope x:=by first|exact Or.inl rfl|exact Or.inr (Or.inl rfl)|exact Or.inr<|Or.inr rfl)(hd:Fe x:=by decide)
 (I:Ff x:=by decide):PE X (.Name x pos) (amp i):=Nd hN J hd I
section
variable [DecidableEq κ]
end
set_option maxHeartbeats 8000000
def Fv{a b c:Nat}(h:a<b:=by assumption)(k:b<=c:=by assumption):a<c:=AL h k
def pM{a b c:Nat}(h:a<=b:=by assumption)(k:b<c:=by assumption):a<c:=Bs h k
def GX{a b c:Nat}(h:a<=b:=by assumption)(k:b<=c:=by assumption):a<=c:=AS h k
def rS{a b c:Nat}(h:a<b:=by assumption)(k:b<c:=by assumption):a<c:=C1 h k
def fV{a b c:Nat}(h:a<=b:=by assumption)(k:b<=c:=by decide):a<=c:=AS h k
def D_{a b:Nat}(h:a<=b:=by assumption):a<b+1:=Nat.lt_succ_of_le h
def Iy{a b:Nat}(h:a<=b:=by assumption):a<=b+1:=B7 h
def jL{a b:Nat}(h:a<b:=by assumption):a<=b:=Bk h
def are{a b:Nat}(h:a<b:=by assumption):a≠b:=A3 h
def Iz{a b:Nat}(h:b<a:=by assumption):a≠b:=C0 h
def Fw{a:Nat}(h:a≠0:=by assumption):0<a:=Nat.pos_of_ne_zero h
def IA{a b c:Nat}(h:a<b:=by assumption)(k:b<=c:=by assumption):a<=c:=AS (Bk h) k
def GY{a b c:Nat}(h:a<b:=by assumption):a<b+c:=AL h<|Bb _ _
def tz{a b:Nat}(h:a=b:=by assumption):a<=b:=Nat.le_of_eq h
def Fx{a b:Nat}(h:¬a<b:=by assumption):b<=a:=Nat.le_of_not_lt h
def IB{a b:Nat}(h:¬b<=a:=by assumption):a<b:=Nat.lt_of_not_le h
def IC{a b:Nat}(h:a<b+1:=by assumption):a<=b:=Nat.le_of_lt_succ h
def Pw{a b c:Nat}(h:a<=b:=by assumption)(k:c<=d:=by assumption):a+c<=b+d:=Nat.add_le_add h k
def D'{a b:Nat}(h:0<a:=by assumption)(k:0<b:=by decide):a-b<a:=Nat.sub_lt h k
def ID{a b c:Nat}(h:a<=c:=by assumption):a-b<=c:=AS (Nat.sub_le _ _) h
def rV{a b c:Nat}(h:a<c:=by assumption):a-b<c:=Bs (Nat.sub_le _ _) h
def Et{a b:Nat}(h:a<=b:=by assumption)(k:a≠b:=by assumption):a<b:=Nat.lt_of_le_of_ne h k
def Px:R2:=λx y H Q=>match x,y with
 |.int i,.int j=>Q (.int<|i+j) H
 |.str a,.str b=>a.length+b.length<=sizeLine/\Q (.str<|a++b) H
 |.ref l,.ref b=>∃xs zs,H l=some (.lst xs)/\H b=some (.lst zs)/\xs.length+zs.length<=sizeLine/\∀p,H p=none->Q (.ref p) (upd H p<|.lst<|xs++zs)
 |_,_=>False
def Py:w6 X (binaryOp .Add) Px:=by
 intro J s U H x y v u Q I g j h;cases x<;>cases y<;>first
  |exact False.elim h
  |exact N9 J s U H _ _ v u Q I g j {_,_,rfl,rfl,h}
  |exact xY J s U H _ _ v u Q I g j {_,_,rfl,rfl,h.1,h.2}
  |(obtain⟨l,o,h1,h2,h3,p⟩:=h;exact Pp J s U H _ _ v u Q I g j {_,_,l,o,rfl,rfl,h1,h2,h3,p})
def KD(K:Af)(P:W2)(w:W3)(a:Addr)(kvs:List<|jn×V):Prop:=
 (a==sysModules)=false/\kvs.length<=sizeLine/\∀h:W4,K.In h->∃vs,KV kvs vs/\h.DictOf (vn P w) a vs
def IE(K:Af)(P:W2)(w:W3):R2:=λx y H Q=>match x,y with
 |.str z,.int i=>z.length<=sizeLine/\∃c,fG z.cps.toList i=some c/\Q (.str ⟨#[c]⟩) H
 |.ref p,.int i=>∃xs v,(aY K H p xs\/dZ K H p xs)/\fG xs i=some v/\Q v H
 |.ref p,.str k=>∃kvs v,(Rd H p (.dK kvs)\/KD K P w p kvs)/\iA kvs (Sum.inr k)=some v/\Q v H
 |_,_=>False
def IF{slice:Expr}{a:Addr}{vs:List<|jn×W0}{k:jn}{J:W0}{Q:VK}(I:qx X pins σ H s)(dd:s.heap.DictOf (vn X.prog X.w) a vs)(U:om k u=true)
 (hw:valueAt vs k=some J) (r:zr v J) (q:Q v H) (hs:subscripted slice false (.ref a) u=operate [.ref a,u] (getItem (.ref a) u)):_w X (subscriptTail value slice (.ref a) u) (EP X pins σ Q) X.xe s:=
 tail_any dd.typeIs Ed.lookup (wpAny_getItem_of U dd.mapOf hw ⟨v,H,I.tok _,r,q⟩) hs
def Pz:YF X (IE X.K X.prog X.w):=by
 intro value slice J s T H x y v u Q I t C q g;cases x with
 |str z=>
  cases y with
  |int i=>
   obtain⟨h1,c,h2,h3⟩:=q;exact O8 value slice J s T H _ _ v u Q I t C {(z),i,c,rfl,rfl,h1,h2,h3} g
  |_=>exact q.elim
 |ref p=>
  cases y with
  |int i=>
   obtain⟨xs,j,h1,h2,h3⟩:=q;rcases h1 with h1|h1
   .exact O6 value slice J s T H _ _ v u Q I t C {(p),xs,i,j,rfl,rfl,h1,h2,h3} g
   .exact O7 value slice J s T H _ _ v u Q I t C {(p),xs,i,j,rfl,rfl,h1,h2,h3} g
  |str k=>
   obtain⟨a1,j,h1,h2,h3⟩:=q;have l:zr (kV<|Sum.inr k) u:=C;cases (show v=Value.ref p from t);rcases h1 with h1|h1
   .obtain⟨z,hd,vs,rel,r⟩:=yt I.GT h1;obtain⟨w2,hw,U⟩:=FC (v:=j) (o:=valueAt vs<|Sum.inr k) (by rw[<-h2];exact rel.val _);exact IF I r (rB (P:=X.prog) (w:=X.w) l) hw U h3 g
   .obtain⟨hd,z,r⟩:=h1;obtain⟨vs,rel,r⟩:=r s.heap I.SL;obtain⟨w2,hw,U⟩:=FC (v:=j) (o:=valueAt vs<|Sum.inr k) (by rw[<-h2];exact rel.val _);exact IF I r (rB (P:=X.prog) (w:=X.w) l) hw U h3 g
  |_=>exact q.elim
 |_=>cases y<;>exact q.elim
def PB(K:Af):W6->Hp->VK->Prop:=λxs H Q=>match xs with
 |[.str z]=>z.length<=sizeLine/\Q (.int z.length) H
 |[.ref p]=>∃ys,(aY K H p ys\/dZ K H p ys)/\Q (.int ys.length) H
 |_=>False
def PD:jh X (.builtin "len") (PB X.K):=by
 intro J s U H j g Q I r h;obtain _|⟨x,_|⟨y,t⟩⟩:=j
 .exact h.elim
 .cases x with
  |str z=>exact sF J s U H _ g Q I r {(z),rfl,h.1,h.2}
  |ref p=>
   obtain⟨l,h1,h2⟩:=h;exact rZ J s U H _ g Q I r {(p),l,rfl,h1,h2}
  |_=>exact h.elim
 .cases x<;>exact h.elim
inductive Da where
 |s (v:V)
 |tup (xs:List Da)
 |lst (xs:List Da)
mutual
def Da.eq:Da->Da->Bool
 |.s v,.s w=>iD v w
 |.tup xs,.tup ys=>Da.eqs xs ys
 |.lst xs,.lst ys=>Da.eqs xs ys
 |_,_=>false
def Da.eqs:List Da->List Da->Bool
 |[],[]=>true
 |x::xs,y::ys=>Da.eq x y&&Da.eqs xs ys
 |_,_=>false
end
def ag(K:Af)(H:Hp):Nat->V->Da->Prop
 |0,v,d=>d=.s v/\bM v=true
 |n+1,v,d=>(d=.s v/\bM v=true)\/(∃a xs ds,v=.ref a/\d=.tup ds/\dZ K H a xs/\Paired (ag K H n) xs ds)\/(∃a xs ds,v=.ref a/\d=.lst ds/\aY K H a xs/\Paired (ag K H n) xs ds)
theorem Da.Xy:∀(ds es:List Da),((List.range<|min ds.length es.length).all (λj=>Da.eq (ds.getD j<|.s .GM)<|es.getD j<|.s .GM)&&ds.length==es.length)=Da.eqs ds es
 |[],[]=>by simp[Da.eqs]
 |[],e::es=>by simp[Da.eqs]
 |d::ds,[]=>by simp[Da.eqs]
 |d::ds,e::es=>by
  have I:=Da.Xy ds es;rw[Da.eqs,<-I];have:min (d::ds).length (e::es).length=min ds.length es.length+1:=by simp only[AK];lia
  rw[this,List.range_succ_eq_map,CA,List.all_map];have h2:((d::ds).length==(e::es).length)=(ds.length==es.length):=by simp
  rw[h2,Bool.and_assoc];rfl
theorem Paired.at{F:α->β->Prop}:∀{xs:List α} {ys:List β} {j:Nat} {x:α} {y:β},Paired F xs ys->xs[j]?=some x->ys[j]?=some y->F x y:=by
 intro xs ys j x y h
 induction h generalizing j with
 |nil=>intro h _;simp at h
 |cons r t I=>
  intro h1 h2;cases j with|zero=>simp at h1 h2;subst h1 h2;exact r|succ j=>exact I (j:=j) (by simpa using h1) (by simpa using h2)
abbrev E9:=@Paired.at
theorem cA:∀{v:V},bM v=true->iD v v=true
 |.GM,_=>rfl
 |.bl _,_=>by simp[iD]
 |.int _,_=>by simp[iD]
 |.str _,_=>by simp[iD]
def x5{a:Addr}(h:bM (.ref a)=true):False:=by simp[bM] at h
def qx.Yi(I:qx X pins σ H s){a:Addr}{ys:W6}(h:dZ X.K H a xs)(h':aY X.K H a ys):False:=by
 obtain⟨j,_,⟨o,e,c,_⟩,_⟩:=I.tuple h;obtain⟨U,_,⟨l,p,g,J,_⟩,_⟩:=I.list h';rw[e] at g;cases g;rw[c] at J;injection J with J
 exact absurd J (by decide)
theorem rc(I:qx X pins σ H s):∀(n:Nat) {m:Nat} {x:V} {d e:Da},ag X.K H n x d->ag X.K H m x e->Da.eq d e=true
 |0,m,x,d,e,h1,h2=>by
  obtain⟨rfl,f⟩:=h1;cases m with
  |zero=>obtain⟨rfl,_⟩:=h2;exact cA f
  |succ m=>
   rcases h2 with⟨rfl,_⟩|⟨a,g,j,rfl,_⟩|⟨a,g,j,rfl,_⟩
   .exact cA f
   .exact(x5 f).elim
   .exact(x5 f).elim
 |n+1,m,x,d,e,h1,h2=>by
  have both:∀{g:W6} {j l:List Da} {m:Nat},Paired (ag X.K H n) g j->Paired (ag X.K H m) g l->Da.eqs j l=true:=by
   intro g j l m p
   induction p generalizing l with
   |nil=>intro q;cases q;rfl
   |cons r t ih=>
    intro q;cases q with|cons r' t'=>rw[Da.eqs,rc I n r r',ih t'];rfl
  rcases h1 with⟨rfl,f⟩|⟨a,g,j,rfl,rfl,C,T⟩|⟨a,g,j,rfl,rfl,C,T⟩
  .cases m with
   |zero=>obtain⟨rfl,_⟩:=h2;exact cA f
   |succ m=>
    rcases h2 with⟨rfl,_⟩|⟨a,g,j,rfl,_⟩|⟨a,g,j,rfl,_⟩
    .exact cA f
    .exact(x5 f).elim
    .exact(x5 f).elim
  .cases m with
   |zero=>exact(x5 h2.2).elim
   |succ m=>
    rcases h2 with⟨_,f⟩|⟨a',ys,l,o,rfl,J,U⟩|⟨a',ys,l,o,rfl,J,U⟩
    .exact(x5 f).elim
    .cases o;cases I.Xj C J;exact both T U
    .cases o;exact(I.Yi C J).elim
  .cases m with
   |zero=>exact(x5 h2.2).elim
   |succ m=>
    rcases h2 with⟨_,f⟩|⟨a',ys,l,o,rfl,J,U⟩|⟨a',ys,l,o,rfl,J,U⟩
    .exact(x5 f).elim
    .cases o;exact(I.Yi J C).elim
    .cases o;cases I.W9 C J;exact both T U
def xj{a:Addr}{eH:WQ}(p:PlainL h a eH):h.IsList a eH:=let ⟨o,n,e,c,_,d⟩:=p;⟨o,e,c,n,d⟩
def vU{m:Nat}{ys:W6}{ds es:List Da}(px:Paired (ag X.K H n) xs ds)(py:Paired (ag X.K H m) ys es)(I:zk xs us)(J:zk ys vs)
 (p:∀{x y:V} {d e:Da} {u v:W0},ag X.K H n x d->ag X.K H m y e->zr x u->zr y v->SeqAt.EqAt A.in1 s u v (Da.eq d e)):
 ∀j (h1:j<us.toArray.size) (h2:j<vs.toArray.size),SeqAt.EqAt A.in1 s us.toArray[j] vs.toArray[j] (Da.eq (ds.getD j<|.s .GM)<|es.getD j<|.s .GM):=by
 intro j h1 h2;have C:=px.length;have T:=py.length;have l3:=I.length;have l4:=J.length;rw[Ar] at h1 h2;have U:xs[j]?=some xs[j]:=Ag (by lia);have g:ys[j]?=some ys[j]:=Ag (by lia);have l:ds[j]?=some ds[j]:=Ag (by lia);have o:es[j]?=some es[j]:=Ag (by lia);have r:us[j]?=some us[j]:=Ag (by lia);have t:vs[j]?=some vs[j]:=Ag (by lia);rw[Bm,Bm,l,o];exact p (E9 px U l) (E9 py g o) (E9 I U r)<|E9 J g t
def GZ(ne:Bool)(A:Around)(s:W1)(u v:W0)(k:Bool):Prop:=match ne with
 |true=>SeqAt.RcNeAt A s u v<|!k
 |false=>SeqAt.RcAt A s u v k
def qH(ne:Bool){m:Nat}{a b:Addr}{ys:W6}{ds es:List Da}(I:qx X pins σ H s)(J:A.units<cLine)(l:dZ X.K H a xs)(o:dZ X.K H b ys)(px:Paired (ag X.K H n) xs ds)(py:Paired (ag X.K H m) ys es)
 (p:∀{x y:V} {d e:Da} {u v:W0},ag X.K H n x d->ag X.K H m y e->zr x u->zr y v->SeqAt.EqAt A.in1 s u v (Da.eq d e)):GZ ne A s (.ref a) (.ref b) (Da.eqs ds es):=by
 obtain⟨r,U,g,_⟩:=I.tuple l;obtain⟨t,j,ty,_⟩:=I.tuple o;have i:=vU px py U j p;cases ne
 case' false=>have q:=SeqAt.RcAt.tuples g ty J i
 case' true=>have q:=SeqAt.RcNeAt.tuples g ty J i
 all_goals
  rw[Ar,Ar,<-U.length,<-j.length,px.length,py.length,Da.Xy] at q;exact q
def vZ(ne:Bool){m:Nat}{a b:Addr}{ys:W6}{ds es:List Da}(I:qx X pins σ H s)(g:A.units<cLine)(C:aY X.K H a xs)(T:aY X.K H b ys)(px:Paired (ag X.K H n) xs ds)(py:Paired (ag X.K H m) ys es)
 (ih:∀{x y:V} {d e:Da} {u v:W0},ag X.K H n x d->ag X.K H m y e->zr x u->zr y v->SeqAt.EqAt A.in1 s u v (Da.eq d e)):GZ ne A s (.ref a) (.ref b) (Da.eqs ds es):=by
 obtain⟨l,o,J,_⟩:=I.list C;obtain⟨p,r,ty,_⟩:=I.list T;have J:=xj J;have ty:=xj ty;have e:=Da.Xy ds es;have j:ds.length=l.toArray.size:=by rw[<-px.length,o.length,Ar]
 have t:es.length=p.toArray.size:=by rw[<-py.length,r.length,Ar]
 by_cases U:l.toArray.size=p.toArray.size
 .have i:=vU px py o r ih;rw[t,<-U,<-j,Nat.min_self,beq_self_eq_true,Bool.and_true] at e;cases ne
  case' false=>have q:=SeqAt.RcAt.lists J ty U g i
  case' true=>have q:=SeqAt.RcNeAt.lists J ty U g i
  all_goals
   rw[<-j,e] at q;exact q
 .rw[show(ds.length==es.length)=false by rw[j,t];simpa using U,BW] at e;rw[<-e];cases ne
  .exact SeqAt.RcAt.lists_lengths J ty (by simpa using U) g
  .exact SeqAt.RcNeAt.lists_lengths J ty (by simpa using U) g
def yU(I:qx X pins σ H s):∀(n:Nat) {m:Nat} {A:Around} {x y:V} {d e:Da} {u v:W0},A.units+n<cLine->ag X.K H n x d->ag X.K H m y e->zr x u->zr y v->SeqAt.EqAt A s u v (Da.eq d e):=by
 have J:∀{A:Around} {x:V} {u:W0} {b:Addr} {p:W6},A.units<cLine->bM x=true->zr x u->(dZ X.K H b p\/aY X.K H b p)->SeqAt.EqAt A s u (.ref b) false/\SeqAt.EqAt A s (.ref b) u false:=by
  intro A x u b p g f r h;have h':(∃C,s.heap.IsTuple b C)\/∃C,s.heap.IsList b C:=by
   rcases h with h|h
   .obtain⟨C,_,t,_⟩:=I.tuple h;exact .inl {_,t}
   .obtain⟨C,_,t,_⟩:=I.list h;exact .inr {_,xj t}
  cases x with
  |GM=>cases r;rcases h' with⟨_,t⟩|⟨_,t⟩;exact{.none_tuple t g,.tuple_none t g};exact{.none_list t g,.list_none t g}
  |bl k=>cases r;rcases h' with⟨_,t⟩|⟨_,t⟩;exact{.bool_tuple k t g,.tuple_bool k t g};exact{.bool_list k t g,.list_bool k t g}
  |int k=>obtain⟨tk,rfl⟩:=r;rcases h' with⟨_,t⟩|⟨_,t⟩;exact{.int_tuple k tk t g,.tuple_int k tk t g};exact{.int_list k tk t g,.list_int k tk t g}
  |str k=>obtain⟨tk,rfl⟩:=r;rcases h' with⟨_,t⟩|⟨_,t⟩;exact{.str_tuple k tk t g,.tuple_str k tk t g};exact{.str_list k tk t g,.list_str k tk t g}
  |_=>simp[bM] at f
 intro n
 induction n with
 |zero=>
  intro m A x y d e u v g h1 h2 T j;obtain⟨rfl,f⟩:=h1;cases m with
  |zero=>obtain⟨rfl,l⟩:=h2;exact o5 T j f l
  |succ m=>
   rcases h2 with⟨rfl,l⟩|⟨b,p,es,rfl,rfl,U,py⟩|⟨b,p,es,rfl,rfl,U,py⟩
   .exact o5 T j f l
   .cases j;exact(J (by lia) f T<|.inl U).1
   .cases j;exact(J (by lia) f T<|.inr U).1
 |succ n ih=>
  intro m A x y d e u v g h1 h2 T j;have a2:A.in1.units+n<cLine:=by lia
  rcases h1 with⟨rfl,f⟩|⟨a,xs,ds,rfl,rfl,o,px⟩|⟨a,xs,ds,rfl,rfl,o,px⟩
  .cases m with
   |zero=>obtain⟨rfl,l⟩:=h2;exact o5 T j f l
   |succ m=>
    rcases h2 with⟨rfl,l⟩|⟨b,p,es,rfl,rfl,U,py⟩|⟨b,p,es,rfl,rfl,U,py⟩
    .exact o5 T j f l
    .cases j;exact(J (by lia) f T<|.inl U).1
    .cases j;exact(J (by lia) f T<|.inr U).1
  .cases T;cases m with
   |zero=>obtain⟨rfl,l⟩:=h2;exact(J (by lia) l j<|.inl o).2
   |succ m=>
    rcases h2 with⟨rfl,l⟩|⟨b,p,es,rfl,rfl,U,py⟩|⟨b,p,es,rfl,rfl,U,py⟩
    .exact(J (by lia) l j<|.inl o).2
    .cases j;by_cases a1:a=b
     .subst a1;cases I.Xj o U;have e:=rc I (n+1) (m:=m+1) (x:=.ref a) (.inr<|.inl {(a),xs,ds,rfl,rfl,o,px})<|.inr<|.inl {(a),xs,es,rfl,rfl,U,py};rw[e];exact .same _
     .exact .of_refs a1<|qH false I (by lia) o U px py λh1 h2 r1 r2=>ih a2 h1 h2 r1 r2
    .cases j;obtain⟨us,vx,tx,_⟩:=I.tuple o;obtain⟨vs,vy,ty,_⟩:=I.list U;exact .tuple_list tx (xj ty) (by lia)
  .cases T;cases m with
   |zero=>obtain⟨rfl,l⟩:=h2;exact(J (by lia) l j<|.inr o).2
   |succ m=>
    rcases h2 with⟨rfl,l⟩|⟨b,p,es,rfl,rfl,U,py⟩|⟨b,p,es,rfl,rfl,U,py⟩
    .exact(J (by lia) l j<|.inr o).2
    .cases j;obtain⟨us,vx,tx,_⟩:=I.list o;obtain⟨vs,vy,ty,_⟩:=I.tuple U;exact .list_tuple (xj tx) ty (by lia)
    .cases j;by_cases a1:a=b
     .subst a1;cases I.W9 o U;have e:=rc I (n+1) (m:=m+1) (x:=.ref a) (.inr<|.inr {(a),xs,ds,rfl,rfl,o,px})<|.inr<|.inr {(a),xs,es,rfl,rfl,U,py};rw[e];exact .same _
     .exact .of_refs a1<|vZ false I (by lia) o U px py λh1 h2 r1 r2=>ih a2 h1 h2 r1 r2
def PH(K:Af)(k:Nat)(ne:Bool):R2:=λx y H Q=>match x,y with
 |.ref a,.ref b=>∃n m d e,n<=k/\ag K H n (.ref a) d/\ag K H m (.ref b) e/\Q (.bl<|Ft ne<|Da.eq d e) H
 |x,y=>Ie x y=true/\Q (.bl<|Ft ne<|decide<|x=y) H
def PJ(ne:Bool){k:Nat}(U:X.A.units+k<cLine):w6 X (compareOp<|F2 ne) (PH X.K k ne):=by
 intro J s t H x y v u Q I C T h;cases x with
 |ref a=>
  cases y with
  |ref b=>
   obtain⟨n,m,d,e,hn,h1,h2,q⟩:=h;cases C;cases T;have vd:GZ ne X.A s (.ref a) (.ref b) (Da.eq d e)->_w X (compareOp (F2 ne) (.ref a)<|.ref b) (EP X J t Q) X.xe s:=λr=>by cases ne<;>exact r X.prog X.w X.xe (EP X J t Q) {.bl _,H,I,rfl,q}
   cases n with
   |zero=>exact(x5 h1.2).elim
   |succ n=>
    cases m with
    |zero=>exact(x5 h2.2).elim
    |succ m=>
     have l:X.A.in1.units+n<cLine:=by lia
     have U:X.A.units<cLine:=by lia
     rcases h1 with⟨_,f⟩|⟨a',xs,ds,e1,rfl,o,px⟩|⟨a',xs,ds,e1,rfl,o,px⟩
     .exact(x5 f).elim
     .cases e1;rcases h2 with⟨_,f⟩|⟨b',ys,es,g,rfl,j,py⟩|⟨b',ys,es,g,rfl,j,py⟩
      .exact(x5 f).elim
      .cases g;exact vd<|qH ne I U o j px py λh1 h2 r1 r2=>yU I n l h1 h2 r1 r2
      .cases g;obtain⟨us,vx,p,_⟩:=I.tuple o;obtain⟨vs,vy,ty,_⟩:=I.list j;exact vd (by cases ne;exact SeqAt.RcAt.tuple_list p (xj ty) U;exact SeqAt.RcNeAt.tuple_list p (xj ty) U)
     .cases e1;rcases h2 with⟨_,f⟩|⟨b',ys,es,g,rfl,j,py⟩|⟨b',ys,es,g,rfl,j,py⟩
      .exact(x5 f).elim
      .cases g;obtain⟨us,vx,p,_⟩:=I.list o;obtain⟨vs,vy,ty,_⟩:=I.tuple j;exact vd (by cases ne;exact SeqAt.RcAt.list_tuple (xj p) ty U;exact SeqAt.RcNeAt.list_tuple (xj p) ty U)
      .cases g;exact vd<|vZ ne I U o j px py λh1 h2 r1 r2=>yU I n l h1 h2 r1 r2
  |_=>exact Ii ne J s t H _ _ v u Q I C T h
 |_=>cases y<;>exact Ii ne J s t H _ _ v u Q I C T h
def IG{c:Addr}(I:Gl X x)(J:X.mg x=some (.ref c))(hd:Fe x:=by decide):PE X (.Name x pos) (tC<|.ref c):=Ni I J (v:=.ref c) rfl hd
def zE{T:W5}(I:Gl X x)(J:X.mg x=none)(U:bootBuiltins x=some (.type T))(g:x ≠ "__name__" := by decide)(hd:Fe x:=by decide):PE X (.Name x pos) (tC<|.ty T):=Nj I J U (v:=.ty T) rfl g hd
structure Yz(P:W2)(w:W3)(K:Af)(mg:WM)(base:W4)(k:Nat)(x:Str)(ps:WS)(sp:Sp):Prop where
 ex:∃f fd,bV P w K mg base Yr k f fd ps sp/\eU K fd ps []/\PySem.W.keepIn K (.ref f)=true/\mg x=some (.ref f)
def PK{k:Nat}{t:TA}(c:Yz X.prog X.w X.K X.mg X.base k x ps sp)(U:aR k X.A)(g:Gl X x)(j:PA X (e::es) t)(I:Fe x:=by decide)
 (l:Fb e es X:=by rfl) (J:Fc pos es X:=by rfl):PE X (.Call (.Name x p) (e::es) [] pos) (Ik sp [] E0 t):=by
 obtain⟨f,fd,F,b,o,m⟩:=c.ex;exact Oz F U g m o b .nil Ps j I l J
theorem Yz.mono{P:W2}{w:W3}{K:Af}{k:Nat}(c:Yz P w K mg base j x ps sp)(h:j<=k):Yz P w K mg base k x ps sp:=by obtain⟨f,fd,F,b,I,m⟩:=c.ex;exact{f,fd,F.mono h,b,I,m}
variable {ds:List Da}
def nS(env:Env):List (Str×NameKind)->List (Str×Addr)->List (Str×Addr)
 |[],cs=>cs
 |(n,k)::r,cs=>nS env r<|if k==.free then(n,(env.cells.lookup n).getD 0)::cs else cs
def gR(scope:Scope)(env:Env):List (Str×Addr):=nS env scope.names []
theorem uV{env:Env}:∀{names:List<|Str×NameKind} {cs:List<|Str×Addr} {p:Str×Addr},p∈nS env names cs->p∈cs\/((p.1,NameKind.free)∈names/\p.2=(env.cells.lookup p.1).getD 0)
 |[],_,_,h=>.inl h
 |(n,k)::r,cs,p,h=>by
  rcases uV (names:=r) h with q|⟨q,e⟩
  .by_cases I:(k==NameKind.free)=true
   .rw[AC I] at q;rcases As.mp q with rfl|q
    .have:k=.free:=by simpa using I
     exact .inr {by rw[this];exact Ao,rfl}
    .exact .inl q
   .rw[AB I] at q;exact .inl q
  .exact .inr {Ai _ q,e}
theorem uc{env:Env}{x:Str}:∀{names:List<|Str×NameKind} {cs:List<|Str×Addr},((∃c,(x,c)∈cs)\/(x,NameKind.free)∈names)->∃c,(x,c)∈nS env names cs
 |[],_,.inl h=>h
 |[],_,.inr h=>by simp at h
 |(n,k)::r,cs,h=>by
  refine uc (names:=r) ?_;rcases h with⟨c,h⟩|h
  .left;by_cases I:(k==NameKind.free)=true
   .rw[AC I];exact{c,Ai _ h}
   .rw[AB I];exact{(c),h}
  .rcases As.mp h with e|h
   .left;injection e with J U
    subst J;subst U;exact{_,Ao}
   .exact .inr h
theorem gg{x:Str}:∀{l:List<|Str×Addr} {c:Addr},(x,c)∈l->∃c',l.lookup x=some c'
 |(n,d)::r,c,h=>by
  rw[BH];cases I:x==n with
  |true=>exact{(d),rfl}
  |false=>
   rcases As.mp h with e|h
   .injection e with J _;subst J;simp at I
   .exact gg h
def mK(h:∀n,(n,NameKind.free)∈scope.names->∃c,env.cells.lookup n=some c):closureFor scope env=pure (gR scope env):=by
 unfold closureFor gR;have key:∀(names:List<|Str×NameKind) (I:List<|Str×Addr),(∀n,(n,NameKind.free)∈names->∃c,env.cells.lookup n=some c)->
  (forIn names I λx (r:List<|Str×Addr)=>(match x with|(name,kind)=>if kind==NameKind.free then do let a <-cellOf env name;pure (ForInStep.yield<|(name,a)::r) else pure (ForInStep.yield r):Sem<|ForInStep<|List<|Str×Addr))=pure (nS env names I):=by
  intro names
  induction names with
  |nil=>intro I _;rfl
  |cons p r o=>
   intro I J;obtain⟨n,k⟩:=p;rw[Dg];cases U:k==NameKind.free with
   |true=>
    have g:k=.free:=by simpa using U
    subst g;obtain⟨c,t⟩:=J n Ao;have e:cellOf env n=pure c:=by unfold cellOf;rw[t]
    simp only[beq_self_eq_true,if_true,e];have j:nS env ((n,NameKind.free)::r) I=nS env r ((n,c)::I):=by show nS env r _=_;rw[t];rfl
    rw[j];exact o ((n,c)::I) λm l=>J m<|Ai _ l
   |false=>
    simp only[U,Cp,if_false];have j:nS env ((n,k)::r) I=nS env r I:=by show nS env r (if (k==NameKind.free)=true then _ else _)=_;rw[U];rfl
    rw[j];exact o I λm l=>J m<|Ai _ l
 exact(Br (· >>= pure)<|key scope.names [] h)
theorem aS{env:Env}{x:Str}:∀{names:List<|Str×NameKind},
 (names.map λ(n,k)=>if (k==NameKind.free&&env.scope.kind==.function&&env.kindOf n==some .cell) then(n,NameKind.cell) else(n,k)).lookup x
  = (names.lookup x).map λk=>if (k==NameKind.free&&env.scope.kind==.function&&env.kindOf x==some .cell) then NameKind.cell else k
 |[]=>rfl
 |(n,k)::r=>by
  have g:=@aS env x r;show List.lookup x ((if (k==NameKind.free&&env.scope.kind==.function&&env.kindOf n==some .cell)=true then(n,NameKind.cell) else(n,k))::_)=_;cases J:x==n with
  |true=>
   have U:x=n:=by simpa using J
   subst U;by_cases I:(k==NameKind.free&&env.scope.kind==.function&&env.kindOf x==some .cell)=true
   .rw[AC I];simp only[BH,beq_self_eq_true,Option.map_some];rw[AC I]
   .rw[AB I];simp only[BH,beq_self_eq_true,Option.map_some];rw[AB I]
  |false=>
   by_cases I:(k==NameKind.free&&env.scope.kind==.function&&env.kindOf n==some .cell)=true
   .rw[AC I];simp only[BH,J];exact g
   .rw[AB I];simp only[BH,J];exact g
def Cx.comp(X:Cx)(scope:Scope)(T:WS)(C:Addr)(fp:List Addr)(s₀:W1)(H₀:Hp):Cx:=
 {X with N:=X.N++T,s₀:=s₀,H₀:=H₀,env:=compEnvC scope (gR scope X.env) C X.env,outer:=X.stack,ex:=fp,fn:=λ_=>false,xe:=λ_ _=>False}
structure jl(X:Cx)(scope:Scope):Prop where
 kind:scope.kind=.function
 YO:∀y∈scope.names,y.2≠.cell
 names:∀y∈scope.names,y.2=.local->scope.names.lookup y.1=some .local
 free:∀n,scope.names.lookup n=some .free->X.env.kindOf n=some .cell\/X.env.kindOf n=some .free
 Y_:∀n,(n,NameKind.free)∈scope.names->X.env.kindOf n=some .cell\/X.env.kindOf n=some .free
 apart:∀x∈X.N,scope.names.lookup x≠some .local
def jl.Z4(S:jl X scope)(I:qx X pins σ H s):closureFor scope X.env=pure (gR scope X.env):=
 mK λn h=>I.ok.has n<|S.Y_ n h
def jl.Xq(S:jl X scope)(I:qx X pins σ H s){c:Addr}(h:(gR scope X.env).lookup x=some c):X.env.cells.lookup x=some c:=by
 rcases uV (BJ h) with q|⟨q,e⟩
 .simp at q
 .obtain⟨d,hd⟩:=I.ok.has x<|S.Y_ x q;have J:c=(X.env.cells.lookup x).getD 0:=e;rw[hd] at J ⊢;rw[J];rfl
def jl.YN(_:jl X scope)(h:scope.names.lookup x=some .free):∃c,(gR scope X.env).lookup x=some c:=by obtain⟨c,I⟩:=uc (env:=X.env) (names:=scope.names) (cs:=[]) (x:=x)<|.inr<|BJ h;exact gg I
theorem jl.kindOf(S:jl X scope)(h:(compEnvC scope (gR scope X.env) C X.env).kindOf x=some .cell\/(compEnvC scope (gR scope X.env) C X.env).kindOf x=some .free):scope.names.lookup x=some .free:=by
 have e:(compEnvC scope (gR scope X.env) C X.env).kindOf x=(scope.names.lookup x).map λk=>if (k==NameKind.free&&X.env.scope.kind==.function&&X.env.kindOf x==some .cell) then NameKind.cell else k:=aS
 rw[e] at h;cases I:scope.names.lookup x with
 |none=>rw[I] at h;rcases h with h|h<;>cases h
 |some k=>
  rw[I] at h;cases k with|free=>rfl|cell=>exact absurd rfl (S.YO _<|BJ I)|_=>rcases h with h|h<;>cases h
def jl._c(S:jl X scope)(U:x∈X.N)(h:A' (compEnvC scope (gR scope X.env) C X.env).scope x):scope.names.lookup x=some .free:=by
 rcases h with h|h|h
 .exfalso;have e:(compEnvC scope (gR scope X.env) C X.env).kindOf x=(scope.names.lookup x).map λk=>if (k==NameKind.free&&X.env.scope.kind==.function&&X.env.kindOf x==some .cell) then NameKind.cell else k:=aS
  have I:(compEnvC scope (gR scope X.env) C X.env).kindOf x=some .local:=h;rw[e] at I;cases J:scope.names.lookup x with
  |none=>rw[J] at I;cases I
  |some k=>
   rw[J] at I;have I:(if (k==NameKind.free&&X.env.scope.kind==.function&&X.env.kindOf x==some .cell)=true then NameKind.cell else k)=.local:=A2 I;split at I
   .cases I
   .subst I;exact S.apart x U J
 .exact S.kindOf (C:=C)<|.inl h
 .exact S.kindOf (C:=C)<|.inr h
def jl.back(S:jl X scope)(h:scope.names.lookup x=some .free):(compEnvC scope (gR scope X.env) C X.env).kindOf x=some .cell\/(compEnvC scope (gR scope X.env) C X.env).kindOf x=some .free:=by
 have e:(compEnvC scope (gR scope X.env) C X.env).kindOf x=(scope.names.lookup x).map λk=>if (k==NameKind.free&&X.env.scope.kind==.function&&X.env.kindOf x==some .cell) then NameKind.cell else k:=aS
 rw[e,h];show some (if _ then _ else _)=_\/some (if _ then _ else _)=_;split
 .exact .inl rfl
 .exact .inr rfl
def PF(X:Cx)(nC:WT)(t:TT):Prop:=
 ∀(pins:List<|Addr×Obj) (s:W1) (σ:St) (H:Hp) (Q:Bool->Hp->Prop),qx X pins σ H s->t σ H Q->
  _w X (forIn nC true λc r=>if r=true then do let ok <-isTrue c X.env (eval c X.env);pure (ForInStep.yield ok) else pure (ForInStep.yield r)) (TP X pins σ Q) X.xe s
def PL:TT:=λ_ H Q=>Q true H
def PM :PF X [] PL:=λ_ _ _ H _ I h=>Aj {(H),I,h}
def PN{t:TT}(hc:PT X c t):PF X [c] t:=by intro J s U H Q I h;rw[Dg];simp only[if_true];refine Aa<|Aa<|aM (hc J s U H Q I h) λb g q=>Aj ?_;exact Aj q
def gU{w:W3}{R:Result->W1->Prop}{iter:Expr}{it C:W0}(I:Nat->W1->Prop)
 (turn:∀n s,I n s->wpAny (model prog w) A (pyNext it) (λr J=>match r with
  |none=>R (.ok .next) J
  |some v=>wpAny (model prog w) A (letOwnedTupleGo target it v) (λ_ J=>wpAny (model prog w) A (assign target env v) (λ_ l=>
   wpAny (model prog w) A (forIn nC true λc r=>if r=true then do let ok <-isTrue c env (eval c env);pure (ForInStep.yield ok) else pure (ForInStep.yield r)) (λok g=>
    if ok=true then wpAny (model prog w) A (eval pj env) (λx o=>
     wpAny (model prog w) A (call (.builtin "list.append") [C,x]) (λ_ p=>∃m,m<n/\I m p) (λ_ _=>False) o) (λ_ _=>False) g
    else ∃m,m<n/\I m g) (λ_ _=>False) l) (λ_ _=>False) J) (λ_ _=>False) J) (λ_ _=>False) s)
 (n:Nat) (h:I n s):
 codeAny (model prog w) A (.compLoop (.ListComp pj [{target,iter,nC,0}] scope pos) 0 it C env) R s:=by
 refine codeAny_loop rfl I (λn s hI=>?_) n h;show wpAny _ A ((compTurn (.ListComp pj [{target,iter,nC,0}] scope pos) 0 it C env).onRaise (λx=>do noteFrame x env;theTreesLotGoes x)) _ _ s;refine wpAny_noted ?_;rw[compTurn_list];refine Aa<|wpAny_standAt<|Aa<|AZ (turn n s hI) (λr J U=>?_) λ_ _ j=>j.elim;cases r with
 |none=>exact Aj U
 |some v=>
  refine Aa<|AZ U (λ_ J U=>?_) λ_ _ j=>j.elim;refine Aa<|AZ U (λ_ l T=>Aa<|AZ T (λok g t=>?_) λ_ _ j=>j.elim) λ_ _ j=>j.elim;cases ok with
  |false=>exact Aj {(rfl),t}
  |true=>
   exact Aa<|Aa<|AZ t (λx o a1=>Aa<|AZ a1 (λ_ p a2=>Aj<|Aj {(rfl),a2}) λ_ _ j=>j.elim) λ_ _ j=>j.elim
def G2(n:Nat)(wi:TI)(g:TG)(tc:TT)(te:TE):TE:=λσ H Q=>wi σ H λJ H1=>∃W:Nat->Nat->W6->Hp->Prop,(∃m,W 0 m [] H1)/\∀i m ys H,W i m ys H->
 (J.stop i H/\ys.length<=sizeLine/\∀D,H D=none->Q (.ref D) (upd H D<|.lst ys))\/
 (J.go i H/\ys.length<sizeLine/\∀x H',J.Yu i H x H'->g x (σ++List.replicate n none) H' λI H2=>tc I H2 λb j=>
  if b=true then te I j λy l=>∃U,U<m/\W (i+1) U (ys++[y]) l else ∃U,U<m/\W (i+1) U ys j)
def qK(g:TG)(n k:Nat):Prop:=∀(σ:St),σ.length=n->∀x H Q,g x (σ++List.replicate k none) H Q->
 g x (σ++List.replicate k none) H λI H2=>((I.length=n+k/\∀(i:Nat) v,(σ++List.replicate k none)[i]?=some (some v)->I[i]?=some (some v))/\Q I H2)
section
variable {T:WS}{iter:Expr}{g:TG}{tc:TT}{te:TE}
def ltN{b:Addr}{o:Obj}(e:h.get? b=some o):@LT.lt Nat instLTNat b h.objs.size:=wh e
def wH{a b:Addr}(h:@Ne Nat a b):a≠b:=h
def v_{a b:Addr}(h:@LE.le Nat instLENat a b):a<=b:=h
def PP(eH:WP)(n:Nat)(u:W0):∃I,Obj.mapSeq (·.push u) {cls:=.type "list",data:=.seq eH.toArray n}=({cls:=.type "list",data:=.seq (eH++[u]).toArray I}:Obj):=
 ⟨_,by simp[Obj.mapSeq];rfl⟩
def yN{w:W3}{D:Addr}(I:s.heap.get? D=some {cls:=.type "list",data:=.seq eH.toArray n})
 (hz:eH.length<=sizeLine) (h:∀h' J,Heap.SameBut D s.heap h'->h'.get? D=some {cls:=.type "list",data:=.seq (eH++[u]).toArray J}->Q .none {s with heap:=h'}):
 wpAny (model prog w) A (call (.builtin "list.append") [.ref D,u]) Q E s:=by
 have g:s.heap.IsList D eH.toArray:={_,I,rfl,n,rfl};refine wpAny_call_entry slot_list_append g.typeIs entry_list_append ?_<|args_list_append _ _;show wpAny _ _ (updateSeq D (·.push u) >>= λ_=>ret .none) _ _ s;refine Aa ?_;obtain⟨J,U⟩:=PP eH n u;refine wpAny_updateSeq (f:=(·.push u)) I rfl (Aj {.none,rfl,h _ J (yp ..) ?_}) (by rw[Ar];exact hz) (by rw[Bz,Ar];exact C2 hz);rw[<-U];exact Fa _ I (by rw[U];rfl)
theorem oR{Q:VK}{c6:W0}{I:W1}{RR:W0->Addr->Result->W1->Prop}
 (S:jl X scope) (hc:X.calm=true)
 (hg:∀C fp s₀ H₀,PG (X.comp scope T C fp s₀ H₀) target g) (dt:qK g X.N.length T.length) (hf:∀C fp s₀ H₀,PF (X.comp scope T C fp s₀ H₀) nC tc) (he:∀C fp s₀ H₀,PE (X.comp scope T C fp s₀ H₀) pj te)
 (h:GH X pins σ target (λJ H1=>∃W:Nat->Nat->W6->Hp->Prop,(∃m,W 0 m [] H1)/\∀i m ys H,W i m ys H->
  (J.stop i H/\ys.length<=sizeLine/\∀D,H D=none->Q (.ref D) (upd H D<|.lst ys))\/
  (J.go i H/\ys.length<sizeLine/\∀x H',J.Yu i H x H'->g x (σ++List.replicate T.length none) H' λcc H2=>tc cc H2 λb H3=>
   if b=true then te cc H3 λy H4=>∃m',m'<m/\W (i+1) m' (ys++[y]) H4 else ∃m',m'<m/\W (i+1) m' ys H3)) c6 I)
 (du:∀D C s' H' m',qx X pins σ H' s'->pH X pins H' C->s'.heap.Ns C m'->Q (.ref D) H'->RR (.ref D) C (.ok .next) s'):
 _w X (newList []) (λck aL=>_w X (newFunctionEnv scope X.env.globals (gR scope X.env) [] X.env.qual none .none<|some X.env) (λbi cm=>
  codeAny (model X.prog X.w) X.A (.compStart (.ListComp pj [{target,iter,nC,0}] scope pos) 0 c6 ck {bi with scope:=relabel scope X.env}) (RR ck bi.locals) cm) E aL) E I:=by
 obtain⟨it,fp,tn,J,H2,rfl,U,Tn,bn,f2,W,⟨m0,w0⟩,turn⟩:=h;refine Bt (wpAny_newFunctionEnv S.YO (by intro y hy;simp at hy) (λbc al t=>?_) S.kind);dsimp only at al t ⊢;generalize bp:I.heap.push {cls:=.type "list",dict:=none,data:=.seq ([]:WP).toArray}=G at al t ⊢;have hC:G.objs.size=I.heap.objs.size+1:=by rw[<-bp,EQ]
 obtain⟨D,eD⟩:∃D,I.heap.objs.size=D:={_,rfl};obtain⟨C,eC⟩:∃C,G.objs.size=C:={_,rfl};rw[eD] at hC ⊢;rw[eC] at hC al t ⊢;have bq:D≠C:=by lia
 have old:∀b o,I.heap.get? b=some o->bc.get? b=some o:=λb o e=>by have j:=ltN e;exact t.extBut b o (wH (by lia))<|vb _<|bp▸vb _ e
 have cn:bc.get? D=some {cls:=.type "list",data:=.seq ([]:WP).toArray 0}:=by refine t.extBut _ _ bq<|vb _ ?_;rw[<-bp,<-eD];exact xT _ rfl
 have br:∀b∈fp,@LT.lt Nat instLTNat b I.heap.objs.size:=λb j=>by obtain⟨o,e,_⟩:=Tn.obj _ _ bn b j;exact ltN e
 have cv:@LT.lt Nat instLTNat X.env.locals I.heap.objs.size:=U.lt;have en:=U.sz;have HD:=U.GT.fresh<|v_ (by exact tz);have HC:H2 C=none:=U.GT.fresh<|v_ (by lia);have dv:∀b:Addr,@LE.le Nat instLENat I.heap.objs.size b->b∉cj X.stack:=λb j z=>by
  have q:=U.Xo b z;rcases As.mp q with q|q
  .rw[<-q] at cv;exact absurd cv<|EU.mpr j
  .exact U.Zm j q
 have bd:∀x c,X.env.cells.lookup x=some c->@LT.lt Nat instLTNat c I.heap.objs.size:=λx c e=>by obtain⟨v,q⟩:=U.cell x c e;exact q.lt
 let X':Cx:=X.comp scope T C fp I H2
 have c1:X'.Ok:={
  mod:=U.ok.mod,kind:=S.kind,glob:=U.ok.glob,blt:=U.ok.blt
  above:=v_ (by show @LE.le Nat instLENat I.heap.objs.size C;lia)
  inj:=λx y c h1 h2=>U.ok.inj x y c (S.Xq U h1) (S.Xq U h2)
  has:=λx hx=>S.YN (S.kindOf hx)
  YW:=λx c hx=>absurd (show false=true from hx) (by simp)
  hd:=U.ok.hd,frames:=U.ok.frames,Y3:=.inl rfl
  Y9:=λb j=>{wH (by have:=br b j;show @Ne Nat b C;lia),λx c e=>(f2 b j).2.2.2.2.1 x c<|S.Xq U e}
  bs:=U.bs,YA:=AS U.ok.YA U.sz
  XE:=λb o e j=>by
   obtain⟨e0,n0⟩:=U.ok.bs b o e;rcases (f2 b j).2.2.2.1 with q|q
   .exact U.ok.XE b o e q
   .have q':=q;have:=ltN e0;lia
  XF:=λb j z=>by
   rcases As.mp (U.Xo b z) with q|q
   .exact(f2 b j).2.1 q
   .exact(f2 b j).2.2.1 q
  Xm:=U.stack,YL:=U.XR}
 have I4:∀tk,0<tk->qx X' pins (σ++List.replicate T.length none) H2 {I with heap:=bc,toks:=tk}:=λtk dV=>{
  tk:=dV,ok:=c1,os:=rfl,bare:=U.bare,base:=Un.kept old
  loc:={_,al,λi x v e1 e2 e3=>by
   have hi:i<σ.length:=by
    by_cases hi:i<σ.length
    .exact hi
    .rw[AF (by exact Fx),CD] at e2;split at e2<;>cases e2
   rw[Az hi] at e2;have e4:i<X.N.length:=by rw[<-U.len];exact hi
   have cy:X.N[i]?=some x:=by have:(X.N++T)[i]?=some x:=e1;rw[Az e4] at this;exact this
   have c2:=S._c (Ax cy) e3;obtain⟨m,hn,hl⟩:=U.loc;have hk:=S.free x c2;obtain⟨u,r,l⟩:=hl i x v cy e2<|.inr hk;refine{u,r,.inr {S.back c2,?_}};rcases l with⟨l,_⟩|⟨_,c,e,z⟩
   .rw[l] at hk;rcases hk with q|q<;>cases q
   .obtain⟨c',e'⟩:=S.YN c2;have cI:=S.Xq U e';rw[e] at cI;cases cI;exact{c,e',z.keeps old}}
  cell:=λx c e=>by obtain⟨v,z⟩:=U.cell x c<|S.Xq U e;exact{v,z.keeps old}
  free:=HC,On:=λx c e=>U.On x c (S.Xq U e)
  pin:=λp hp=>by
   obtain⟨a,b,c,d,e⟩:=U.pin p hp;have e5:=ltN a;refine{old _ _ a,b,wH (by show @Ne Nat p.1 C;lia),λz=>?_,e};rcases As.mp (U.Xo _ z) with q|q
   .exact c q
   .exact d q
  GT:=U.GT.kept old
  len:=by show(σ++_).length=(X.N++T).length;rw[Ad,Ad,BQ,U.len]}
 have c3:∀(ba:List<|Addr×Obj) (H':Hp),(∀p∈ba,p∈pins\/p.1=D)->(∀b∈fp,H' b=none)->∀b∈fp,pH X' ba H' b:=λba H' hp hn b j=>by
  obtain⟨_,q1,q2,q3,q4,q5⟩:=f2 b j;have e5:=br b j;refine{hn b j,wH (by show @Ne Nat b C;lia),c1.XF b j,.inl j,(c1.Y9 b j).2,λp e6=>?_};rcases Ak.mp e6 with z|z
  .exact q5 p<|An _ z
  .rcases hp p z with z|z
   .exact q5 p<|Ah _ z
   .rw[z];exact wH (by lia)
 have Xx:Tn.keep=Tn.keep:=rfl;have bj:∀aL:W1,aL={I with heap:=bc,toks:=I.toks+([]:List<|Str×W0).length}->
  codeAny (model X.prog X.w) X.A (.compLoop (.ListComp pj [{target,iter,nC,0}] scope pos) 0 (.ref it) (.ref D) X'.env) (RR (.ref D) C) aL:=by
  rintro aL rfl;refine gU (λn s'=>∃i c4 H' ys ay k,qx X' pins c4 H' s'/\(c4.length=X.N.length+T.length/\∀(i:Nat) v,(σ++List.replicate T.length none)[i]?=some (some v)->c4[i]?=some (some v))/\
   s'.heap.get? D=some {cls:=.type "list",data:=.seq (ay:WP).toArray k}/\zk ys ay/\H' D=none/\tn i s'.heap/\(∀b∈fp,H' b=none)/\W i n ys H') ?_ m0
   ⟨0,_,H2,[],[],0,I4 _ U.tk,⟨by rw[Ad,BQ,U.len],λ_ _ e=>e⟩,cn,.nil,HD,Tn.keep _ _ _ bn λb _ o e=>old b o e,λb j=>(f2 b j).1,w0⟩
  rintro n s3 ⟨i,eo,H3,ys,ay,k,I3,⟨e7,e8⟩,ec,bg,bh,cP,d0,w3⟩;have el:=bg.length.symm;have dc:D∉X'.fs:=dv D (by exact tz);have de:D≠X'.env.locals:=bq;have di:qx X' (pins++[(D,{cls:=.type "list",data:=.seq ay.toArray k})]) (σ++List.replicate T.length none) H3 s3:=
   (I3.weak (by rw[e7,Ad,BQ,U.len]) e8).XS λp hp=>by
    rcases Ak.mp hp with z|z
    .exact I3.pin p<|Ah _ z
    .have e:=Ap.mp z;subst e;exact{ec,bh,de,dc,λv z=>by cases z}
  have bb:∀p∈pins++[(D,({cls:=.type "list",data:=.seq ay.toArray k}:Obj))],p∈pins\/p.1=D:=λp hp=>by
   rcases Ak.mp hp with z|z
   .exact .inl z
   .exact .inr (by rw[Ap.mp z])
  rcases turn i n ys H3 w3 with⟨stop,hz,qn⟩|⟨go,hz,step⟩
  .refine aM (Tn.done X' rfl rfl rfl hc i _ s3 _ H3 _ di (c3 _ H3 bb d0) cP stop) λr s4 ⟨hr,ac⟩=>?_;subst hr;obtain⟨ed,ep,_⟩:=ac.pin (D,_)<|Ah _<|Ah _ Ao;obtain⟨m',ee,_⟩:=ac.loc;have un:Un (cj X.stack) fp H2 (upd H3 D<|.lst ys) I.heap s4.heap:={
    keep:=ac.base.keep,slot:=ac.base.slot
    free:=λb o e n hx=>by have:=ltN e;rw[qp<|wH (by lia)];exact ac.base.free b o e n hx
    there:=ac.base.there
    SZ:=λb xs e=>by rw[qp (λz=>by rw[z,HD] at e;cases e)];exact ac.base.SZ b xs e
    Xp:=λb o u e=>by rw[qp (λz=>by rw[z,HD] at e;cases e)];exact ac.base.Xp b o u e
    Xv:=λb ps e=>by rw[qp (λz=>by rw[z,HD] at e;cases e)];exact ac.base.Xv b ps e}
   have ef:fF X.prog X.w (upd H3 D<|.lst ys) s4.heap:=λb u e=>by
    by_cases j:b=D
    .subst j;rw[zu] at e;cases e;exact{(hz),ay,k,bg,ed}
    .rw[qp j] at e;refine(ac.GT b u e).Xx (λ_ _ _ q=>q) (λc q=>?_) λc xs q=>?_
     .rw[qp<|j6 q bh];exact q
     .rw[qp<|j6 q bh];exact q
   have I5:=U.Yh (ch:=fp) ac.os un ef ac.bare λb j=>{(f2 b j).2.2.2.1,(f2 b j).2.1,(f2 b j).2.2.2.2.1,(f2 b j).2.2.2.2.2};refine du D C s4 _ m' I5 ?_ ee<|qn D bh;refine{by rw[qp<|AG bq];exact ac.free,?_,?_,.inr ?_,λx c e=>?_,λp hp=>?_}
   .exact wH (by lia)
   .exact U.Zm<|v_ (by lia)
   .exact v_ (by lia)
   .exact wH (by have:=bd x c e;lia)
   .exact wH (by have:=ltN (U.pin p hp).1;lia)
  .refine aM (Tn.item X' rfl rfl rfl hc i _ s3 _ H3 _ di (c3 _ H3 bb d0) cP go) λr s4 ψ=>?_;obtain⟨u,hr,h4⟩:=ψ;subst hr;refine aM h4 λ_ s5 ψ=>?_;obtain⟨x,H5,I5,r5,y5,c5,eg⟩:=ψ;have ej:=I5.pinned (c3 _ H5 bb eg)<|Tn.obj _ _ c5;refine AZ ((hg C fp I H2) _ s5 _ H5 x u _ ej r5<|dt σ U.len x H5 _<|step x H5 y5) (λ_ s6 ψ=>?_) λ_ _ z=>z;obtain⟨bf,H6,I6,⟨dj,dp⟩,q6⟩:=ψ;refine AZ ((hf C fp I H2) _ s6 bf H6 _ I6 q6) (λb s7 ψ=>?_) λ_ _ z=>z;obtain⟨H7,I7,q7⟩:=ψ;have vd:∀{s8:W1} {H8:Hp} (I8:qx X' ((pins++[(D,{cls:=.type "list",data:=.seq ay.toArray k})])++nL fp s5.heap) bf H8 s8),tn (i+1) s8.heap/\(∀b∈fp,H8 b=none)/\s8.heap.get? D=some {cls:=.type "list",data:=.seq ay.toArray k}/\H8 D=none/\qx X' pins bf H8 s8:=λ{s8 H8} I8=>by
    refine{Tn.keep _ _ _ c5 λb j o e=>(I8.pin (b,o)<|Ah _<|Ah _<|da j e).1,λb j=>?_,?_,?_,I8.Xa.Xa}
    .obtain⟨o,e,d⟩:=Tn.obj _ _ c5 b j;exact(I8.pin (b,o)<|Ah _<|Ah _<|da j e).2.1
    .exact(I8.pin (D,_)<|Ah _<|An _<|Ah _ Ao).1
    .exact(I8.pin (D,_)<|Ah _<|An _<|Ah _ Ao).2.1
   cases b with
   |false=>
    rw[AB AH] at q7 ⊢;obtain⟨m',hm,w7⟩:=q7;obtain⟨a1,a2,a3,a4,a5⟩:=vd I7;exact{m',hm,i+1,bf,H7,ys,ay,k,a5,{(dj),dp},a3,bg,a4,a1,a2,w7}
   |true=>
    rw[AC rfl] at q7 ⊢;refine AZ ((he C fp I H2) _ s7 bf H7 _ I7 q7) (λv s8 ψ=>?_) λ_ _ z=>z;obtain⟨y,H8,I8,r8,m',hm,w8⟩:=ψ;obtain⟨a1,a2,a3,a4,a5⟩:=vd I8;refine yN a3 (by lia) λh9 k9 dr ek=>?_;have nD:∀b∈fp,b≠D:=λb j=>wH (by have:=br b j;lia);refine{m',hm,i+1,bf,H8,ys++[y],ay++[v],k9,?_,{(dj),dp},ek,bg.append<|.cons r8 .nil,a4,Tn.keep _ _ _ a1 λb j o e=>(dr.2 b<|nD b j).trans e,a2,w8};exact a5.turned (t':=s8.toks) (it:=D) (λb o j e=>(dr.2 b j).trans e) a4 de (.inr (v_ (by show @LE.le Nat instLENat I.heap.objs.size D;exact tz))) (λx c e=>wH (by have:=bd x c<|S.Xq U e;lia)) λp hp=>wH (by have:=ltN (U.pin p hp).1;lia)
 exact codeAny_compStart_list (bj _ rfl)<|Tn.self _ _ _ _ _ (Tn.keep _ _ _ bn λb _ o e=>old b o e)<|bj _ rfl
end
section
variable {T:WS}{iter:Expr}{g:TG}{tc:TT}{te:TE}
def PQ(T:WS)(S:jl X scope)(hc:X.calm=true)(hi:PI X target iter wi)(t:∀C fp s₀ H₀,PG (X.comp scope T C fp s₀ H₀) target g)(j:qK g X.N.length T.length)
 (hf:∀C fp s₀ H₀,PF (X.comp scope T C fp s₀ H₀) nC tc) (he:∀C fp s₀ H₀,PE (X.comp scope T C fp s₀ H₀) pj te)
 (hs:∀x,foldedSetIterable iter X.env x=pure x:=by intro _;rfl):PE X (.ListComp pj [{target,iter,nC,0}] scope pos) (G2 T.length wi g tc te):=by
 intro J s r H Q I h;rw[eval_ListComp];refine wpAny_comprehension_free (use:=none) rfl hs (S.Z4 I) S.kind S.names<|aM (hi J s r H _ I h) λv s1 h1=>aM h1 λa1 s2 h2=>?_;refine oR (RR:=λl C=>compPost (model X.prog X.w) X.A X.xe none (EP X J r Q) l C) S hc t j hf he h2 ?_;intro D C s' H' m' I' U hn q;exact{m',hn,λh' p=>{.ref D,H',I'.turned (t':=s'.toks) (it:=C) (λb o hb e=>(p.2 b hb).trans e) U.1 (AG<|AG U.2.1) U.2.2.2.1 U.2.2.2.2.1 U.2.2.2.2.2,rfl,q}}
theorem PR(T:WS){px j:Pos}(hN:X.N.Nodup)(l:X.N[i]?=some x)(hx:Loc X.env.scope x)(S:jl X scope)(hc:X.calm=true)(hi:PI X target iter wi)
 (hg:∀C fp s₀ H₀,PG (X.comp scope T C fp s₀ H₀) target g) (p:qK g X.N.length T.length)
 (hf:∀C fp s₀ H₀,PF (X.comp scope T C fp s₀ H₀) nC tc) (he:∀C fp s₀ H₀,PE (X.comp scope T C fp s₀ H₀) pj te)
 (r:swapsWith (.ListComp pj [{target,iter,nC,0}] scope j) (some<|.Name x px) pos.line X.env=pure true:=by rfl)
 (t:X.fn x=true\/X.env.scope.names.lookup x=some .local:=by first|exact .inl rfl|exact .inr rfl|assumption)
 (hs:∀x,foldedSetIterable iter X.env x=pure x:=by intro _;rfl):PS X (.Assign [.Name x px] (.ListComp pj [{target,iter,nC,0}] scope j) pos) (GG (G2 T.length wi g tc te)<|fe i):=by
 intro pins s σ H D I h;rw[exec_Assign_Name_used _ _ _ _ r];refine Aa<|wpAny_standAt<|Aa ?_;show wpAny _ X.A (do let _ <-comprehension (.ListComp pj [{target,iter,nC,0}] scope j) scope X.env _ (newList []) false (eval iter X.env) (some<|assign (.Name x px) X.env)) _ _ s;refine Aa (AZ (wpAny_comprehension_free (use:=some<|assign (.Name x px) X.env) (Q:=λ_ U=>SP X pins D .next U) rfl hs (S.Z4 I) S.kind S.names
  (aM (hi pins s σ H _ I h) λv s1 h1=>aM h1 λac s2 h2=>?_)) (λ_ U hq=>Aj<|Aj hq) λ_ _ e=>e)
 refine oR (RR:=λa1 C=>compPost (model X.prog X.w) X.A X.xe (some<|assign (.Name x px) X.env) (λ_ U=>SP X pins D .next U) a1 C) (pins:=pins) (σ:=σ) (Q:=λx H1=>fe i x σ H1 D.nx) S hc hg p hf he h2 ?_;intro A C U H' m' I' J hn q;show wpAny _ X.A (assign (.Name x px) X.env<|.ref A) _ _ U;refine wpAny_assign_Name<|rJ I' hN l hx (v:=.ref A) rfl (λa2 a3 ψ _=>?_) t;obtain⟨a,hs,ha⟩:=ψ;have a4:C≠a:=by
  rcases ha with z|z
  .rw[z];exact J.2.1
  .exactλe=>J.2.2.2.2.1 x a z e.symm
 exact{m',hn.sameBut hs a4,λh' a5=>{_,H',a3.turned (t':=a2.toks) (it:=C) (λb o hb e=>(a5.2 b hb).trans e) J.1 J.2.1 J.2.2.2.1 J.2.2.2.2.1 J.2.2.2.2.2,q}}
end
def v4(outer:Scope)(N:WS)(I:Scope):Bool:=
 decide (I.kind=.function)&&I.names.all (λp=>decide (p.2≠.cell)&&(decide (p.2≠.local)||decide (I.names.lookup p.1=some .local))&&(decide (p.2≠.free)||(decide (outer.names.lookup p.1=some .cell)||decide (outer.names.lookup p.1=some .free))))
  && N.all (λx=>decide<|I.names.lookup x≠some .local)
def v4.mk{I:Scope}(h:v4 X.env.scope X.N I=true):jl X I:=by
 unfold v4 at h;rw[AM,AM,Cm,Cm] at h;obtain⟨⟨h1,h2⟩,h3⟩:=h;have g:∀n,(n,NameKind.free)∈I.names->X.env.kindOf n=some .cell\/X.env.kindOf n=some .free:=λn J=>by
  have q:=h2 _ J;simp only[AM,EJ,decide_eq_true_eq] at q;rcases q.2 with z|z
  .exact absurd rfl z
  .exact z
 refine{of_decide_eq_true h1,λy U=>?_,λy U e=>?_,λn J=>g n<|BJ J,g,λx j=>of_decide_eq_true<|h3 x j}
 .have q:=h2 _ U;simp only[AM,EJ,decide_eq_true_eq] at q;exact q.1.1
 .have q:=h2 _ U;simp only[AM,EJ,decide_eq_true_eq] at q;rcases q.1.2 with z|z
  .exact absurd e z
  .exact z
abbrev EZ:=@v4.mk
def xS(n:Nat):qK (fe n) n 1:=by
 intro U I x H Q h;refine{{by simp[I],λi v e=>?_},h};by_cases J:i=n
 .subst J;rw[AF (by exact tz)] at e;simp[I] at e
 .rw[AY<|AG J];exact e
def ao:bootBuiltins "isinstance"=some (.builtin "isinstance"):=by decide +kernel
def iY:bootBuiltins "tuple"=some (.type "tuple"):=by decide +kernel
def IH:bootBuiltins "str"=some (.type "str"):=by decide +kernel
def wY:bootBuiltins "int"=some (.type "int"):=by decide +kernel
def eE:bootBuiltins "list"=some (.type "list"):=by decide +kernel
def II:bootBuiltins "len"=some (.builtin "len"):=by decide +kernel
def G4{k:Nat}(I:aR k A):A.units+128<cLine:=by have:=I.un;lia
def cZ(h:n<=1000):n<=sizeLine:=Bk<|qJ h
def Yz.of{P:W2}{w:W3}{K:Af}{k:Nat}(F:bV P w K mg base Yr k f fd ps sp)(b:eU K fd ps [])(I:PySem.W.keepIn K (.ref f)=true)(m:mg x=some (.ref f)):
 Yz P w K mg base k x ps sp:={(f),fd,F,b,I,m}
def bV.never{P:W2}{w:W3}{K:Af}{k:Nat}(no:∀vs H Q E,¬sp vs H Q E):bV P w K mg base Yr k f fd ps sp:=
 ⟨λvs H Q E h=>absurd h<|no vs H Q E,λA I s H args J vs Q E _ _ _ _ h=>absurd h<|no vs H Q E⟩
section
variable (K:Af)(P:W2)(w:W3)
end
structure j9(K:Af)(x:Str)(st:Stmt):Prop where
 ex:∃(f:Addr) (kV hQ pm:W0) (an:Option Addr) (eW ct:W0),PySem.W.nsIn K mainGlobals x=some (some<|.ref f)/\Y0 K x x st f (PySem.W.fnOf x x (w4 st) (x8 st) (qy st) .none kV hQ pm an eW ct)
def Zj{K:Af}{kV ct:W0}(a:PySem.W.nsIn K mainGlobals x=some (some<|.ref f))
 (l:K.lookup f=some ⟨oc,od,.func<|PySem.W.fnOf x x (w4 st) (x8 st) (qy st) .none kV hQ pm an eW ct,pR⟩) (c:PySem.W.codeIn K eW x=true) (k:PySem.W.keepIn K (.ref f)=true):j9 K x st:=
 ⟨f,kV,hQ,pm,an,eW,ct,a,Pu (st:=st) l c k⟩
def j9.use{K:Af}(D:j9 K x st)(X:K.In h)(G:h.Ns mainGlobals mg)
 (I:∀(kV hQ pm:W0) (an:Option Addr) (eW ct:W0) (us:WP),us.length=ps.length->bindArgs (PySem.W.fnOf x x (w4 st) (x8 st) (qy st) .none kV hQ pm an eW ct) ⟨us,[]⟩=pure (ps.zip us)):
 ∃f fd,Y0 K x x st f fd/\eU K fd ps []/\mg x=some (.ref f):=by
 obtain⟨f,kV,hQ,pm,an,eW,ct,a,F⟩:=D.ex;exact{f,_,F,eU.all<|I kV hQ pm an eW ct,Bw X G a}
def yZ(w:W3)(r:Str×Tok×Str×Tok):DictEntry:={hashStr w r.1,.str r.1 r.2.1,.str r.2.2.1 r.2.2.2}
def PU{K:Af}{P:W2}{w:W3}{c:Addr}{U:Nat}(rows:List<|Str×Tok×Str×Tok)(l:K.lookup c=some ⟨.type "dict",none,.dict (rows.map<|yZ w).toArray U,#[]⟩)(hs:(c==sysModules)=false)(hz:rows.length<=1000)(nd:(rows.map λr=>(Sum.inr r.1:jn)).Nodup):
 KD K P w c (rows.map λr=>(Sum.inr r.1,.str r.2.2.1)):=by
 refine{hs,by rw[Ac];exact cZ hz,λh X=>{rows.map λr=>(Sum.inr r.1,.str r.2.2.1 r.2.2.2),?_,_,_,U,X c _ l,{(rfl),rfl,rfl},rfl,?_,?_,?_}}
 .unfold KV;clear l hz nd
  induction rows with|nil=>exact .nil|cons r t I=>exact .cons {rfl,_,rfl} I
 .intro e g;have J:e∈rows.map (yZ w):=by simpa using g
  obtain⟨r,_,rfl⟩:=A7.mp J;exact{Sum.inr r.1,jT r.1 r.2.1,rfl}
 .show Pairs _ (rows.map<|yZ w).toArray.toList _;rw[List.toList_toArray];clear l hz nd
  induction rows with|nil=>exact .nil|cons r t I=>exact .cons (jT r.1 r.2.1) rfl I
 .rw[BC];exact nd
inductive Wd where
 |leaf (t:Bool) (n:Str)
 |node (e:Bool) (l r:Wd)
def kL:Bool->Str
 |false => "plain"
 |true => "turned"
def kN:Bool->Str
 |false => "both"
 |true => "either"
def Wd.turn:Wd->Wd
 |.leaf t n=>.leaf (!t) n
 |.node e l r=>.node (!e) l.turn r.turn
def Wd.depth:Wd->Nat
 |.leaf _ _=>1
 |.node _ l r=>max l.depth r.depth+1
def Wd.Pi:Wd->Nat
 |.leaf _ _=>1
 |.node _ l r=>l.Pi+r.Pi
theorem Wd.Xr:∀w:Wd,1<=w.Pi
 |.leaf _ _=>Am _
 |.node _ l r=>by have:=Wd.Xr l;show 1<=l.Pi+r.Pi;exact GY
theorem Wd.XC:∀w:Wd,w.depth<=w.Pi
 |.leaf _ _=>Am _
 |.node _ l r=>by have:=Wd.XC l;have:=Wd.XC r;have:=Wd.Xr l;have:=Wd.Xr r;show max l.depth r.depth+1<=l.Pi+r.Pi;lia
def oM:Wd->Da
 |.leaf t n=>.tup [.s<|.str<|kL t,.s<|.str n]
 |.node e l r=>.tup [.s<|.str<|kN e,oM l,oM r]
theorem fg:∀w:Wd,Da.eq (oM w) (oM w)=true
 |.leaf t n=>by simp[oM,Da.eq,Da.eqs,iD]
 |.node e l r=>by simp[oM,Da.eq,Da.eqs,iD,fg l,fg r]
def fQ(x:Str):Prop:=1<=x.length/\x.length<=8/\∀c∈x.cps.toList,97<=c/\c<=122
def Wd.ok:Wd->Prop
 |.leaf _ n=>fQ n
 |.node _ l r=>l.ok/\r.ok
def Paired.Zq{F:α->β->Prop}:∀{xs:List α} {ys:List β} {i:Nat} {x:α},Paired F xs ys->xs[i]?=some x->∃y,ys[i]?=some y/\F x y:=by
 intro xs ys i x h
 induction h generalizing i with
 |nil=>intro h;simp at h
 |cons r t I=>
  intro h;cases i with
  |zero=>simp at h;subst h;exact{_,rfl,r}
  |succ i=>
   obtain⟨y,e,q⟩:=I (i:=i) (by simpa using h);exact{y,by simpa using e,q}
def sK:bootBuiltins "max"=some (.builtin "max"):=by decide +kernel
def m6:bootBuiltins "bool"=some (.type "bool"):=by decide +kernel
def Wd.size:Wd->Nat
 |.leaf _ _=>1
 |.node _ l r=>1+l.size+r.size
theorem Wd.size_eq:∀w:Wd,w.size+1=2*w.Pi
 |.leaf _ _=>rfl
 |.node _ l r=>by have:=Wd.size_eq l;have:=Wd.size_eq r;show 1+l.size+r.size+1=2*(l.Pi+r.Pi);lia
theorem xu.get{P:W2}{w:W3}{a:Addr}{o:HO}(x:xu P w H h a o):∃ob,h.get? a=some ob:=by
 cases o with
 |lst J=>obtain⟨_,_,_,_,e⟩:=x;exact{_,e}
 |tup J=>obtain⟨_,_,_,_,e,_⟩:=x;exact{_,e}
 |dK I=>obtain⟨_,_,_,_,o,_,_,e,_⟩:=x;exact{_,e}
 |dT I=>obtain⟨_,_,_,_,o,_,_,e,_⟩:=x;exact{_,e}
 |set S n=>obtain⟨o,_,_,_,e,_⟩:=x;exact{_,e}
 |ins C U fs=>obtain⟨_,_,_,e,_⟩:=x;exact{_,e}
 |own y=>exact x
 |xd fs=>obtain⟨_,⟨_,_,_,e,_⟩,_⟩:=x;exact{_,e}
 |Y1 lo g=>obtain⟨_,_,_,e⟩:=x;exact{_,e}
 |Xs ob u=>obtain⟨e,_⟩:=x;exact{_,e}
 |XN j=>exact{_,show h.get? a=some _ from x}
 |met f y=>exact{_,show h.get? a=some _ from x}
 |ext l=>obtain⟨_,e,_⟩:=x;exact e
def rf(h0 h:W4)(H:Hp)(a C:Addr)(tr:Option Addr):Prop:=
 h0.get? a=none/\H a=none/\∃I vs a0,h.get? a=some I/\I.cls=.ref C/\I.data=.fields vs/\vs[0]?=some a0/\
  match tr with
  |none=>vs[1]?=some .none
  |some T=>vs[1]?=some (.ref T)/\h0.get? T=none/\H T=none/\T≠a/\∃J ts,h.get? T=some J/\J.data=.fields ts/\ts[3]?=some .none
def bN(a:Addr)(tr:Option Addr)(fs:List Addr):List Addr:=a::(tr.toList++fs)
section
variable {a:Addr}{tr:Option Addr}
def mQ{l:List Env}{b:Addr}(h:env∈l)(e:env.frame=some b):b∈cj l:=DO.mpr {(env),h,e}
def m4(I:qx X pins σ H s)(hs:X.stack=X.env::X.outer)(hx:X.ex=[])(new:X.s₀.heap.get? a=none)(free:H a=none)(j:∀T,tr=some T->X.s₀.heap.get? T=none/\H T=none){a0 fl:W0}
 (k1:(PySem.W.hideAll s.heap<|bN a tr<|cj X.stack).StaysIn h') (k2:h'.FunFrames (PySem.W.hideAll s.heap<|bN a tr<|cj X.stack) X.stack) (k3:h'.TracedAtW (PySem.W.hideAll s.heap<|bN a tr<|cj X.stack) a (.ref C) a0 fl)
 (k4:∀b o,s.heap.get? b=some o->(∀vs,o.data≠.fields vs)->∃sl,h'.get? b=some {o with slots:=sl}):
 Un X.fs [] X.H₀ H X.s₀.heap h'/\fF X.prog X.w H h'/\∃T,(∀b o,s.heap.get? b=some o->(∀T0,tr=some T0->b≠T0)->b≠T)/\X.s₀.heap.get? T=none/\H T=none/\T≠a/\∃oe vs oT ts,h'.get? a=some oe/\oe.cls=.ref C/\vs[0]?=some a0/\oe.data=.fields vs/\vs[1]?=some (.ref T)/\h'.get? T=some oT/\oT.data=.fields ts/\ts[3]?=some fl:=by
 have kp:=λb o e n=>k1 b o<|C6 _ e n;have sl:∀b o,s.heap.get? b=some o->b∈cj X.stack->∃sl,h'.get? b=some {o with slots:=sl}:=λb o e J=>by obtain⟨_,l,e',nf⟩:=I.stack.mem J;rw[e] at e';cases e';exact k4 b o e nf
 have p:∀b,b∈bN a tr (cj X.stack)->H b=none:=λb J=>by
  rcases As.mp J with e|J
  .rw[e];exact free
  .rcases Ak.mp J with q|q
   .exact(j b (by simpa using q)).2
   .exact I.XR b q
 have g:∀b o,X.s₀.heap.get? b=some o->b∉X.fs->b∉bN a tr (cj X.stack):=λb o e nb J=>by
  rcases As.mp J with q|J
  .rw[q,new] at e;cases e
  .rcases Ak.mp J with q|q
   .rw[(j b (by simpa using q)).1] at e;cases e
   .rcases As.mp (I.Xo b q) with q|q
    .exact absurd (AL (wh e) I.ok.above) (by rw[q];exact Df _)
    .exact nb q
 have r:∀b,b∈X.fs->b∈cj X.stack:=λb J=>by
  rw[hs];unfold cj;rw[CC];split
  .exact J
  .exact Ai _ J
 have U:∀b:Addr,b∉X.ex:=λb=>by rw[hx];simp
 have a3:fF X.prog X.w H h':=λb u e=>(I.GT b u e).Xx (λc w' hc q=>kp c w' q λhm=>by
  have n:=p c hm;rcases hc with z|z
  .rw[z,e] at n;cases n
  .rw[z] at n;cases n) (λ_ q=>q) λ_ _ q=>q
 refine{{λb o e n J _=>?_,λb o e n J _=>?_,λb o e n _=>I.base.free b o e n<|U b,λb o e _=>?_,I.base.SZ,I.base.Xp,I.base.Xv},a3,?_}
 .exact kp b o (I.base.keep b o e n J<|U b)<|g b o e J
 .obtain⟨z,t⟩:=I.base.slot b o e n J<|U b;obtain⟨z',e2⟩:=sl b _ t<|r b J;exact{(z'),e2}
 .obtain⟨l,t⟩:=I.base.there b o e<|U b;by_cases J:b∈X.fs
  .obtain⟨z',e2⟩:=sl b _ t<|r b J;exact{_,e2}
  .exact{l,kp b l t<|g b o e J}
 .obtain⟨al,ay,T,oT,ts,aL,⟨ba,bb⟩,bc,bd,a4,a1,hT,a5,h3⟩:=k3;have a2:∀o,s.heap.get? T=some o->T∈bN a tr (cj X.stack):=λo e=>by
   by_cases q:T∈bN a tr (cj X.stack)
   .exact q
   .rw[C6 _ e q] at a4;cases a4
  have ac:T∉cj X.stack:=λJ=>by obtain⟨_,l,e',nf⟩:=k2.mem J;rw[hT] at e';cases e';exact nf ts a5
  refine{T,λb o e ne z=>?_,?_,?_,a1,al,ay,oT,ts,aL,ba,bb,bc,bd,hT,a5,h3}
  .subst z;rcases As.mp (a2 o e) with z|z
   .exact a1 z
   .rcases Ak.mp z with z|z
    .exact ne b (by simpa using z) rfl
    .exact ac z
  .cases q:X.s₀.heap.get? T with
   |none=>rfl
   |some o=>
    obtain⟨l,t⟩:=I.base.there T o q<|U T;rcases As.mp (a2 l t) with z|z
    .exact absurd z a1
    .rcases Ak.mp z with z|z
     .rw[(j T (by simpa using z)).1] at q;cases q
     .exact absurd z ac
  .cases q:H T with
   |none=>rfl
   |some u=>
    obtain⟨l,t⟩:=(I.GT T u q).get;have:=p T<|a2 l t;rw[q] at this;cases this
def PV{Q:WL}(I:qx X pins σ H s)(hs:X.stack=X.env::X.outer)(hf:X.env.frame=some X.env.locals)(hx:X.ex=[])(L:rf X.s₀.heap s.heap H a C tr)
 (h:∀h' T,Un X.fs [] X.H₀ H X.s₀.heap h'->fF X.prog X.w H h'->rf X.s₀.heap h' H a C (some T)->Q () {s with heap:=h'}):wpAny M X.A (leaving X.env<|.ref a) Q E s:=by
 have L0:=L;obtain⟨new,free,oe,vs,b0,g,hc,hd,h0,J⟩:=L0;have j:s.heap.FunFrames (PySem.W.hideAll s.heap<|bN a tr<|cj X.stack) X.stack:=CM I.stack λenv g b hb=>Ai _<|Ah _<|mQ g hb;have st:(PySem.W.hideAll s.heap<|bN a tr<|cj X.stack).StaysIn s.heap:=λb o e=>CL _ e;have l:(PySem.W.hideAll s.heap<|bN a tr<|cj X.stack).get? a=none:=BU _ Ao;have U:X.A.frames=some (X.env::X.outer):=by rw[<-hs];exact I.ok.frames
 have go:∀h',Heap.LeftW (PySem.W.hideAll s.heap<|bN a tr<|cj X.stack) (X.env::X.outer) a (.ref C) b0 s.heap h'->Q () {s with heap:=h'}:=λh' ψ=>by obtain⟨k1,k2,k3,k4⟩:=ψ;obtain⟨u,p,T,_,n1,n2,ne,r,t,oT,ts,e1,e2,e3,e4,e5,e6,e7,e8⟩:=m4 I hs hx new free (by intro T e;subst e;exact{(J.2.1),J.2.2.1}) k1 (by rw[hs];rw[hs] at k2;exact k2) k3.at k4;exact h h' T u p {(new),free,r,t,b0,e1,e2,e4,e3,e5,n1,n2,ne,oT,ts,e6,e7,e8}
 have nT:∀T,tr=some T->(PySem.W.hideAll s.heap<|bN a tr<|cj X.stack).get? T=none:=λT e=>by subst e;exact BU _<|Ai _<|An _ (by simp)
 generalize PySem.W.hideAll s.heap (bN a tr<|cj X.stack)=base at j st l go nT;rw[hs] at j;cases tr with
 |none=>exact wpAny_leaving_firstW U j hf g st l hd J h0 (by rw[hc];exact go)
 |some T=>
  obtain⟨h1,_,_,a1,oT,ts,hT,a2,h3⟩:=J;exact wpAny_leaving_nextW U j hf {oe,vs,T,oT,ts,g,{(hc),h0},hd,h1,nT T rfl,a1,hT,a2,h3} st l go
end
def h_(P:W2)(w:W3):yY:=λouter H s E e s'=>∃a C T H',e=.ref a/\s'.os=s.os/\AllBare s'.gens/\Un (cj outer) [] H H' s.heap s'.heap/\fF P w H' s'.heap/\rf s.heap s'.heap H' a C (some T)/\E (.ref C) none H'/\0<s'.toks
def vI(X:Cx)(a:Addr):Prop:=a≠X.env.locals/\(∀x c,X.env.cells.lookup x=some c->c≠a)/\∀p∈X.pn,p.1≠a
abbrev X1:=St->W0->Hp->Prop
def cB(X:Cx)(E1:X1):Prop:=∀(pins:List<|Addr×Obj) (σ:St) (H:Hp) (s:W1) (a C:Addr) (tr:Option Addr),qx X pins σ H s->rf X.s₀.heap s.heap H a C tr->vI X a->(∀T,tr=some T->vI X T)->E1 σ (.ref C) H->X.xe (.ref a) s
section
variable {a b T:Addr}{tr:Option Addr}{E1:X1}
def qx.apart(I:qx X pins σ H s)(h:s.heap.get? b=none):vI X b:=by
 refine{λe=>?_,λx c e z=>?_,λp U z=>?_}
 .obtain⟨m,⟨o,_,_,J,_⟩,_⟩:=I.loc;rw[<-e,h] at J;cases J
 .obtain⟨v,o,J,_⟩:=I.cell x c e;rw[z,h] at J;cases J
 .obtain⟨e,_⟩:=I.pin p<|An _ U;rw[z,h] at e;cases e
def qx.news(I:qx X pins σ H s)(J:X.ex=[])(h:s.heap.get? b=none):X.s₀.heap.get? b=none:=by
 cases q:X.s₀.heap.get? b with
 |none=>rfl
 |some o=>
  obtain⟨U,e⟩:=I.base.there b o q (by rw[J];simp);rw[h] at e;cases e
def cB.pass(t:cB X E1)(U:X.ex=[]){e:W0}(I:qx X pins σ H s)(h:h_ X.prog X.w X.stack H s (λc _ H'=>E1 σ c H') e s'):X.xe e s':=by obtain⟨a,C,T,H',rfl,j,l,u,J,⟨new,free,o,p,r,he,hc,hd,h0,h1,g,fT,rest⟩,q,a1⟩:=h;have I':=I.Yh (ch:=[]) j u J l λb z=>absurd z (by simp);exact t pins σ H' s' a C (some T) I' {I.news U new,free,o,p,r,he,hc,hd,h0,h1,I.news U g,fT,rest} (I.apart new) (λT' e=>by cases e;exact I.apart g) q
def PX{k:Nat}{Q:VK}{vs:W6}(F:bV X.prog X.w X.K X.mg X.base (h_ X.prog X.w) k f fd ps sp)(U:aR k X.A)(g:eU X.K fd ps [])(j:cB X E1)(l:X.ex=[])
 (I:qx X pins σ H s) (r:zk vs us) (h:sp vs H Q λc _ H'=>E1 σ c H'):_w X (call (.ref f) us) (EP X pins σ Q) X.xe s:=by
 have o:(us++[]).length=ps.length:=by rw[AI,<-r.length];exact F.len _ _ _ _ h
 refine wpAny_call (codeAny_mono (F.run X.A X.stack s H {us,[]} us vs Q _ U I.Yb (by have:=g s us I.SL o;rw[AI] at this;exact this) r h) λr t J=>?_);cases r with
 |error e=>exact j.pass l I J
 |ok p=>
  cases p with|ret u=>exact I.after J|next=>exact False.elim J|brk=>exact False.elim J|cont=>exact False.elim J
end
def PY(sp:Sp)(E1:X1)(t:TA):TE:=λσ H Q=>t σ H λvs H1=>sp vs H1 Q λc _ H'=>E1 σ c H'
section
variable {k:Nat}{E1:X1}{t:TA}
def uK(F:bV X.prog X.w X.K X.mg X.base (h_ X.prog X.w) k f fd ps sp)(l:aR k X.A)(o:Gl X x)(C:X.mg x=some (.ref f))(T:PySem.W.keepIn X.K (.ref f)=true)(hb:eU X.K fd ps [])(ht:cB X E1)(hx:X.ex=[])
 (ha:PA X (e::es) t) (U:Fe x:=by decide) (he:Fb e es X:=by rfl) (g:Fc pos es X:=by rfl):
 PE X (.Call (.Name x p) (e::es) [] pos) (PY sp E1 t):=by
 intro J s σ H Q I h;refine wpAny_Call_Name_kw<|iQ I o C ?_ U;refine PySem.W.callWith_K (h₀:=X.base) I.ok.mod.Zl T (aM (ha pos J s σ H _ I h) λus s1 ⟨vs,H1,j,r,q⟩=>{j.SL,?_}) he g;exact PX F l hb ht hx j r q
end
def PZ{P:W2}{w:W3}{K:Af}{N:WS}{E:XK}:
 cB (fN (h_ P w) P w K mg base N eK scope f cd A outer s H E) λ_ c H'=>E c none H':=by
 intro U j H' l a C tr I L _ _ q;refine PV (X:=fN (h_ P w) P w K mg base N eK scope f cd A outer s H E) I rfl rfl rfl L λo T u J g=>?_;exact{(a),C,T,H',rfl,I.os,I.bare,u,J,g,q,I.tk}
structure Fy(K:Af)(C:Addr):Prop where
 ex:∃(nm q:Str) (N:Addr) (bs bm:WP) (hdct:Bool) (sn:WS) (sub:WP) (ab:Bool) (col:Option Bool) (dd:Option Addr) (k0 k1 k2 k3 k5:WW) (B Bn newId nid initId inN:W5) (bmB bmN:WP),
  ExcBaseFacts Bn newId inN bmN/\bmB.contains (.type Bn)=true/\ExcBaseFacts B nid initId bmB/\
  ∀h,K.In h->h.get? C=some (excClassObj nm q C N bs bm hdct sn sub ab col dd k0 k1 k2 k3 k5 newId)/\(∃mN,h.Ns N mN/\mN "__init__"=none)/\OwnTail h bmB bm
def P0{K:Af}{U o:WP}{B T J p I r:W5}(q:PySem.W.excIn K C U J=true)(Fn:ExcBaseFacts T J r o)(a1:U.contains (.type T)=true)(F:ExcBaseFacts B p I U):Fy K C:=by
 unfold PySem.W.excIn at q;split at q
 .rename_i dd cd sl ho;split at q
  .rename_i C' bm k0 k1 k2 k3 n k5 hm hs;simp only[AM,beq_iff_eq,Dp] at q;obtain⟨⟨⟨⟨⟨rfl,rfl⟩,g⟩,ht⟩,j⟩,t⟩:=q;obtain⟨nm,bs,a4,ns,qn,hd,sn,sub,ab,a2,del⟩:=cd;dsimp only at hm g j t;subst hm g;have a3:sl=#[k0,k1,k2,k3,some<|.builtin n,k5]:=by obtain⟨l⟩:=sl;simp only at hs;rw[hs]
   subst a3;exact{nm,qn,ns,bs,bm,hd,sn,sub,ab,a2,dd,k0,k1,k2,k3,k5,B,T,n,p,I,r,U,o,Fn,a1,F,λh X=>{X _ _ ho,{_,.of_isNs<|PySem.W.isNs_of_in X j,PySem.W.nsMap_none_of_in X j t},PySem.W.tail_of_in X ht}}
  .cases q
 .cases q
def P1(C:Addr)(E1:X1)(t:TA):TS:=λ_ σ H=>t σ H λvs H1=>vs.length<=sizeLine/\E1 σ (.ref C) H1
def P2{E1:X1}{t:TA}(c:Fy X.K C)(hg:Gl X x)(U:X.mg x=some (.ref C))(hc:X.calm=true)(ht:cB X E1)(hx:X.ex=[])(ha:PA X (e::es) t)(p:Fe x:=by decide)
 (he:Fb e es X:=by rfl) (a1:Fc fm es X:=by rfl):
 PS X (.Raise (some<|.Call (.Name x np) (e::es) [] fm) none pos) (P1 C E1 t):=by
 intro J s σ H D I h;obtain⟨nm,q,N,bs,bm,hdct,sn,sub,ab,col,dd,k0,k1,k2,k3,k5,B,Bn,a2,a5,l,ac,al,ay,Fn,a3,F,all⟩:=c.ex;obtain⟨_,⟨mN,hn,a4⟩,ow⟩:=all X.base I.ok.mod.Zl;refine wpAny_Raise_call_subU (C:=C) (nm:=nm) (q:=q) (N:=N) (bs:=bs) (bm:=bm) (hdct:=hdct) (sn:=sn) (sub:=sub) (ab:=ab) (col:=col) (dd:=dd) (k0:=k0) (k1:=k1) (k2:=k2) (k3:=k3) (k5:=k5) Fn a3 F (mN:=mN) (ow.hasType F.hasBase) (I.ok.hd hc)
  (by rw[he];show(false||(backTo fm<|starEach es X.env).any (·.1))=false;rw[a1];rfl) a4 (iQ I hg U ⟨rfl,?_⟩ p)
 rw[he];have j:=ha fm J s σ H _ I h;rw[he] at j;refine Calls.evalArgs_plain (aM j λus s2 ⟨vs,H1,g,r,hl,q1⟩=>{rfl,by rw[<-r.length];exact hl,(all _ g.SL).1,hn.keeps g.bk,(all _ g.SL).2.2,λh' a U=>?_});obtain⟨t0,e1,_,_⟩:=U.there;have I2:=g.kept (t':=s2.toks) U.keeps;have fr:H1 a=none:=by
  cases z:H1 a with
  |none=>rfl
  |some u=>
   obtain⟨o,eo⟩:=(g.GT a u z).get;rw[U.new] at eo;cases eo
 exact ht J σ H1 _ a C none I2 {g.news hx U.new,fr,_,_,.ref t0,e1,rfl,rfl,rfl,rfl} (g.apart U.new) (λT z=>nomatch z) q1
section
variable {a T:Addr}{tr:Option Addr}
def jO(I:qx X pins σ H s)(C:X.ex=[])(hf:X.stack=X.env::X.outer)(un:Un X.fs [] X.H₀ H X.s₀.heap h')(GT:fF X.prog X.w H h')
 (k1:(PySem.W.hideAll s.heap<|bN a tr<|cj X.stack).StaysIn h') (l:∀b o,s.heap.get? b=some o->(∀vs,o.data≠.fields vs)->∃J,h'.get? b=some {o with slots:=J})
 (pa:∀p∈X.pn++pins,p.1≠a/\∀T,tr=some T->p.1≠T):qx X pins σ H {s with heap:=h'}:=by
 have cl:∀{c:Addr} {v:WW},s.heap.IsCell c v->h'.IsCell c v:=λ{c v} ψ=>by
  obtain⟨o,U,hd⟩:=ψ
  obtain⟨J,e⟩:=l c o U λvs q=>by rw[hd] at q;cases q
  exact{_,e,hd}
 obtain⟨m,hn,hl⟩:=id I.loc;have g:h'.Ns X.env.locals m:=by
  obtain⟨o,es,ep,U,hd,r⟩:=hn;obtain⟨J,e⟩:=l _ o U λvs q=>by rw[hd] at q;cases q
  exact{_,es,ep,e,hd,r}
 refine{I.ok,I.os,I.bare,by rw[C];exact un,{m,g,λi x v e1 e2 e3=>?_},λx c e=>?_,I.free,I.On,λp j=>?_,GT,I.len,I.tk}
 .obtain⟨u,ru,lk⟩:=hl i x v e1 e2 e3;refine{u,ru,?_};rcases lk with lk|⟨k,c,e,z⟩
  .exact .inl lk
  .exact .inr {k,c,e,cl z}
 .obtain⟨v,z⟩:=I.cell x c e;exact{v,cl z}
 .obtain⟨e,n,ne,t,d⟩:=I.pin p j;refine{k1 _ _<|C6 _ e λhm=>?_,n,ne,t,d};rcases As.mp hm with z|z
  .exact(pa p j).1 z
  .rcases Ak.mp z with z|z
   .exact(pa p j).2 p.1 (by simpa using z) rfl
   .rcases As.mp (I.Xo _ z) with z|z
    .exact ne z
    .exact t z
def P4{Q:WL}(I:qx X pins σ H s)(hs:X.stack=X.env::X.outer)(hf:X.env.frame=some X.env.locals)(hx:X.ex=[])(L:rf X.s₀.heap s.heap H a C tr)
 (pa:∀p∈X.pn++pins,p.1≠a/\∀T,tr=some T->p.1≠T)
 (h:∀h' T,qx X pins σ H {s with heap:=h'}->rf X.s₀.heap h' H a C (some T)->(∀p∈X.pn++pins,p.1≠T)->Q () {s with heap:=h'}):
 wpAny M X.A (noteFrame (.ref a) X.env) (λ_ j=>wpAny M X.A (setFlight (.ref a) none) Q E j) E s:=by
 obtain⟨new,free,oe,vs,b0,g,hc,hd,h0,J⟩:=id L;have r:∀T,tr=some T->X.s₀.heap.get? T=none/\H T=none:=by intro T e;subst e;exact{(J.2.1),J.2.2.1}
 have fr:s.heap.FunFrames (PySem.W.hideAll s.heap<|bN a tr<|cj X.stack) X.stack:=CM I.stack λenv g b hb=>Ai _<|Ah _<|mQ g hb;have st:(PySem.W.hideAll s.heap<|bN a tr<|cj X.stack).StaysIn s.heap:=λb o e=>CL _ e;have na:(PySem.W.hideAll s.heap<|bN a tr<|cj X.stack).get? a=none:=BU _ Ao;have t:X.A.frames=some (X.env::X.outer):=by rw[<-hs];exact I.ok.frames
 have nT:∀T,tr=some T->(PySem.W.hideAll s.heap<|bN a tr<|cj X.stack).get? T=none:=λT e=>by subst e;exact BU _<|Ai _<|An _ (by simp)
 have go:∀h',Heap.NotedW (PySem.W.hideAll s.heap<|bN a tr<|cj X.stack) (X.env::X.outer) a (.ref C) b0 (rawInt X.env.locals) s.heap h'->wpAny M X.A (setFlight (.ref a) none) Q E {s with heap:=h'}:=λh' ψ=>by
  obtain⟨k1,k2,k3,k4⟩:=ψ
  rw[<-hs] at k2;obtain⟨u,a5,T,ac,n1,n2,ne,al,ay,oT,ts,e1,e2,e3,e4,e5,e6,e7,e8⟩:=m4 I hs hx new free r k1 k2 k3 k4;have I2:=jO I hx hs u a5 k1 k4 pa;have a1:∀p∈X.pn++pins,p.1≠T:=λp U=>by obtain⟨e,_⟩:=I.pin p U;exact ac p.1 _ e (pa p U).2
  have aL:h'.FunFrames (PySem.W.hideAll h'<|bN a (some T)<|cj X.stack) X.stack:=CM I2.stack λenv g b hb=>Ai _<|Ah _<|mQ g hb;refine wpAny_setFlight_noneW (s:={s with heap:=h'}) (base:=PySem.W.hideAll h'<|bN a (some T)<|cj X.stack) (l:=X.stack) (e:=a) (cls:=.ref C) (a0:=b0) (fl:=rawInt X.env.locals) (λb o e=>CL _ e) aL
   ⟨al,ay,T,oT,ts,e1,⟨e2,e3⟩,e4,e5,BU _<|Ai _<|An _ (by simp),ne,e6,e7,e8⟩ λh3 j1 j2 j3 j4=>?_
  have a2:∀b o,h'.get? b=some o->(∀vs,o.data≠.fields vs)->∃sl,h3.get? b=some {o with slots:=sl}:=λb o e q=>{o.slots,j4 b o e q};obtain⟨u',a3,T',a4,ba,bb,bc,bd,bf,bg,bh,f1,f2,f3,f4,f5,f6,f7,f8⟩:=m4 (s:={s with heap:=h'}) (tr:=some T) I2 hs hx new free (λT0 e=>by cases e;exact{(n1),n2}) j1 j2 j3.at a2;have I3:=jO (s:={s with heap:=h'}) (h':=h3) (tr:=some T) I2 hx hs u' a3 j1 a2 λp U=>{(pa p U).1,λT0 e=>by cases e;exact a1 p U};refine h h3 T' I3 {(new),free,bd,bf,b0,f1,f2,f4,f3,f5,ba,bb,bc,bg,bh,f6,f7,f8} λp U=>?_;obtain⟨e,_⟩:=I2.pin p U;exact a4 p.1 _ e λT0 z=>by cases z;exact a1 p U
 generalize PySem.W.hideAll s.heap (bN a tr<|cj X.stack)=base at fr st na go nT;rw[hs] at fr;cases tr with
 |none=>
  unfold noteFrame;simp only[hf];refine Aa<|Bd g hd J ?_;rw[AB (by decide)];exact wpAny_entryW t fr hf g st na hd (Array.getElem?_eq_some_iff.mp J).1 h0 (by rw[hc];exact go)
 |some T=>
  obtain⟨h1,_,_,bi,oT,ts,hT,bj,h3⟩:=J;exact wpAny_noteFrame_onW t fr hf {oe,vs,T,oT,ts,g,{(hc),h0},hd,h1,nT T rfl,bi,hT,bj,h3} st na go
end
abbrev Cx.tr(X:Cx)(pn:List<|Addr×Obj)(xe:WK):Cx:={X with pn:=pn,xe:=xe}
abbrev Cx.XH(X:Cx)(a:Addr):Cx:={X with A:=X.A.mark<|some<|.ref a,calm:=false,xe:=λ_ _=>False}
theorem Cx.Ok.tr(ok:X.Ok)(pn:List<|Addr×Obj)(xe:WK):(X.tr pn xe).Ok:=
 ⟨ok.mod,ok.kind,ok.glob,ok.blt,ok.above,ok.inj,ok.has,ok.YW,ok.hd,ok.frames,ok.Y3,ok.Y9,ok.bs,ok.YA,ok.XE,ok.XF,ok.Xm,ok.YL⟩
theorem Cx.Ok.XW{pn:List<|Addr×Obj}(ok:(X.tr pn xe).Ok):X.Ok:=
 ⟨ok.mod,ok.kind,ok.glob,ok.blt,ok.above,ok.inj,ok.has,ok.YW,ok.hd,ok.frames,ok.Y3,ok.Y9,ok.bs,ok.YA,ok.XE,ok.XF,ok.Xm,ok.YL⟩
theorem Cx.Ok.XH(ok:X.Ok)(a:Addr):(X.XH a).Ok:=
 ⟨ok.mod,ok.kind,ok.glob,ok.blt,ok.above,ok.inj,ok.has,ok.YW,(λz=>nomatch z),ok.frames,ok.Y3,ok.Y9,ok.bs,ok.YA,ok.XE,ok.XF,ok.Xm,ok.YL⟩
section
variable {a T:Addr}
theorem qx.tr(I:qx X pins σ H s)(xe:WK):qx (X.tr (X.pn++pins) xe) [] σ H s:={I.ok.tr _ _,I.os,I.bare,I.base,I.loc,I.cell,I.free,I.On,(λp J=>I.pin p (by simpa using J)),I.GT,I.len,I.tk}
theorem qx.XW{J:List<|Addr×Obj}(I:qx (X.tr (X.pn++pins) xe) J σ H s):qx X pins σ H s:={I.ok.XW,I.os,I.bare,I.base,I.loc,I.cell,I.free,I.On,(λp U=>I.pin p<|An _ U),I.GT,I.len,I.tk}
theorem qx.XH(I:qx X pins σ H s)(a:Addr):qx (X.XH a) pins σ H s:={I.ok.XH a,I.os,I.bare,I.base,I.loc,I.cell,I.free,I.On,I.pin,I.GT,I.len,I.tk}
def qx.Yj(ok:X.Ok)(I:qx (X.XH a) pins σ H s):qx X pins σ H s:={(ok),I.os,I.bare,I.base,I.loc,I.cell,I.free,I.On,I.pin,I.GT,I.len,I.tk}
theorem SP.XW{D:o6}{f:Flow}(h:SP (X.tr (X.pn++pins) xe) [] D f s'):SP X pins D f s':=by
 cases f with
 |next=>obtain⟨I,U,J,q⟩:=h;exact{(I),U,J.XW,q}
 |brk=>obtain⟨I,U,J,q⟩:=h;exact{(I),U,J.XW,q}
 |cont=>obtain⟨I,U,J,q⟩:=h;exact{(I),U,J.XW,q}
 |ret u=>obtain⟨v,I,U,J,r,q⟩:=h;exact{(v),I,U,J.XW,r,q}
def gL{n:Str}{Q:WL}(I:qx X pins σ H s)(hN:X.N.Nodup)(hi:X.N[i]?=some n)(hk:X.env.scope.names.lookup n=some .local)
 (h:∀s',qx X pins (σ.set i none) H s'->Q () s'):wpAny M A (do bindName X.env n .none;unbindBehindTheSuite X.env n pos) Q E s:=by
 obtain⟨m,hn,hl⟩:=id I.loc;have g:(X.env.scope.kind==.class||(X.env.scope.kind==.module&&X.env.locals != X.env.globals))=false:=by rw[I.ok.kind];rfl
 refine wpAny_nameGoes_keeps hk hn g λh' v C J=>h _ ?_;obtain⟨oL,_,_,a1,_⟩:=id hn;have w9:∀b o,X.s₀.heap.get? b=some o->b≠X.env.locals:=λb o e=>A3<|AL (wh e) I.ok.above;refine{I.ok,I.os,I.bare,{λb o e n T l=>?_,λb o e n T l=>?_,I.base.free,λb o e l=>?_,I.base.SZ,I.base.Xp,I.base.Xv},{_,C,λj y v' U t e3=>?_},λy c e=>?_,I.free,I.On,λp hp=>?_,λb ob e=>?_,by simpa using I.len,by first|exact I.tk|exact BA _}
 .exact(J.2 b<|w9 b o e).trans (I.base.keep b o e n T l)
 .obtain⟨sl,U⟩:=I.base.slot b o e n T l;exact{sl,(J.2 b<|w9 b o e).trans U}
 .obtain⟨o',U⟩:=I.base.there b o e l;exact{o',(J.2 b<|w9 b o e).trans U}
 .by_cases hj:j=i
  .subst hj;have r:j<σ.length:=by rw[I.len];exact(AN.mp hi).1
   rw[Bl r] at t;cases t
  .rw[AY<|AG hj] at t;obtain⟨u',r',q⟩:=hl j y v' U t e3;refine{u',r',?_};rcases q with⟨k,e⟩|⟨k,c,e,z⟩
   .refine .inl {k,?_};have:y≠n:=λe=>hj<|nI hN U<|e▸hi;simp[this,e]
   .exact .inr {k,c,e,z.sameBut J<|I.Y2 y c e}
 .obtain⟨w',z⟩:=I.cell y c e;exact{w',z.sameBut J<|I.Y2 y c e}
 .obtain⟨e,n,ne,nf,d⟩:=I.pin p hp;exact{(J.2 p.1 ne).trans e,n,ne,nf,d}
 .refine(I.GT b ob e).Xx (λc w' hc q=>(J.2 c ?_).trans q) (λ_ q=>q) λ_ _ q=>q;rintro rfl;rcases hc with z|z
  .rw[<-z,I.free] at e;cases e
  .rw[I.free] at z;cases z
def P5{J:Obj}(I:qx X pins σ H s)(C:X.ex=[])(new:X.s₀.heap.get? a=none)(free:H a=none)(U:s.heap.get? a=some J)(ap:vI X a)(pa:∀p∈X.pn++pins,p.1≠a):qx X pins σ (upd H a<|.Xs J<|.own 0) s:=by
 refine{I.ok,I.os,I.bare,{I.base.keep,I.base.slot,λb o e n l=>?_,I.base.there,λb g e=>?_,λb o u e=>?_,λb r e=>?_},I.loc,I.cell,?_,λx c e=>?_,λp j=>?_,λb u e=>?_,I.len,I.tk}
 .rw[qp (λz=>by rw[z,new] at e;cases e)];exact I.base.free b o e n l
 .have:=I.base.SZ b g e;rw[qp (λz=>by rw[z,free] at this;cases this)];exact this
 .have:=I.base.Xp b o u e;rw[qp (λz=>by rw[z,free] at this;cases this)];exact this
 .obtain⟨more,this⟩:=I.base.Xv b r e;exact{more,by rw[qp (λz=>by rw[z,free] at this;cases this)];exact this}
 .rw[qp<|AG ap.1];exact I.free
 .rw[qp<|ap.2.1 x c e];exact I.On x c e
 .obtain⟨e,n,ne,t,d⟩:=I.pin p j;exact{e,by rw[qp<|pa p j];exact n,ne,t,d}
 .by_cases z:b=a
  .subst z;rw[zu] at e;cases e;exact{(U),J,U}
  .rw[qp z] at e;exact(I.GT b u e).Xx (λ_ _ _ q=>q) (λc q=>by rw[qp (λz=>by rw[z,free] at q;cases q)];exact q) λc g q=>by rw[qp (λz=>by rw[z,free] at q;cases q)];exact q
def P6{Q:WL}(I:qx X pins σ H s)(hs:X.stack=X.env::X.outer)(hx:X.ex=[])(L:rf X.s₀.heap s.heap H a C<|some T)
 (pa:∀p∈X.pn++pins,p.1≠a/\p.1≠T) (h:∀h' g,qx X pins σ H {s with heap:=h'}->rf X.s₀.heap h' H a C (some g)->Q () {s with heap:=h'}):wpAny M A (setFlight (.ref a) none) Q E s:=by
 obtain⟨new,free,oe,j,b0,r,hc,hd,h0,h1,n1,n2,ne,oT,ts,hT,t,h3⟩:=L;have a1:s.heap.FunFrames (PySem.W.hideAll s.heap<|bN a (some T)<|cj X.stack) X.stack:=CM I.stack λenv r b hb=>Ai _<|Ah _<|mQ r hb;refine wpAny_setFlight_noneW (base:=PySem.W.hideAll s.heap<|bN a (some T)<|cj X.stack) (l:=X.stack) (e:=a) (cls:=.ref C) (a0:=b0) (fl:=.none) (λb o e=>CL _ e) a1
  ⟨oe,j,T,oT,ts,r,⟨hc,h0⟩,hd,h1,BU _<|Ai _<|An _ (by simp),ne,hT,t,h3⟩ λh3 j1 j2 j3 j4=>?_
 have J:∀b o,s.heap.get? b=some o->(∀j,o.data≠.fields j)->∃sl,h3.get? b=some {o with slots:=sl}:=λb o e q=>{o.slots,j4 b o e q};obtain⟨u',U,g,aL,a2,a3,a4,a5,ac,al,ay,f1,f2,f3,f4,f5,f6,f7,f8⟩:=m4 (tr:=some T) I hs hx new free (λT0 e=>by cases e;exact{(n1),n2}) j1 j2 j3.at J;exact h h3 g (jO (tr:=some T) I hx hs u' U j1 J λp hp=>{(pa p hp).1,λT0 e=>by cases e;exact(pa p hp).2}) {(new),free,a5,ac,b0,f1,f2,f4,f3,f5,a2,a3,a4,al,ay,f6,f7,f8}
end
def Dh(i:Nat)(D:o6):o6 where
 nx:=λσ H=>D.nx (σ.set i none) H
 rt:=D.rt
 bk:=λσ H=>D.bk (σ.set i none) H
 ct:=λσ H=>D.ct (σ.set i none) H
def G5(K:Af)(J:Addr)(i:Nat)(th:TS)(D:o6):X1:=λσ c H=>∃C,c=.ref C/\PySem.W.exmOne K (.ref C) (.ref J)=some true/\∀a I,H a=none->I.cls=.ref C->th (Dh i D) (σ.set i<|some<|.ref a) (upd H a<|.Xs I<|.own 0)
def P7(K:Af)(I:Addr)(i:Nat)(tb:X1->TS)(th:TS):TS:=λD σ H=>tb (G5 K I i th D) D σ H
def P8{Dc:Addr}{n:Str}{a2:Pos}{l:WU}{t:Stmt}{tb:X1->TS}{th:TS}(hs:X.stack=X.env::X.outer)(hf:X.env.frame=some X.env.locals)(hx:X.ex=[])(hN:X.N.Nodup)(hi:X.N[i]?=some n)
 (hk:X.env.scope.names.lookup n=some .local) (hg:Gl X x) (hm:X.mg x=some (.ref Dc)) (hb:∀(pn:List<|Addr×Obj) (xe:WK) (E1:X1),cB (X.tr pn xe) E1->jA (X.tr pn xe) body (tb E1)) (hh:∀a,jA (X.XH a) (t::l) th)
 (a5:Fe x:=by decide):PS X (.Try body [.ExceptHandler (some<|.Name x np) (some n) (t::l) a2] [] [] pos) (P7 X.K Dc i tb th):=by
 intro U s σ H D I h;have tk:cB (X.tr (X.pn++U) λe s'=>∃g o H' a C tr,e=.ref a/\qx X U o H' s'/\rf X.s₀.heap s'.heap H' a C tr/\vI (X.tr (X.pn++g) X.xe) a/\(∀p∈X.pn++U,p.1≠a)/\(∀T,tr=some T->∀p∈X.pn++U,p.1≠T)/\G5 X.K Dc i th D o (.ref C) H')
  (G5 X.K Dc i th D):=λg o H' s' a C tr I' L ap ac q=>{[],o,H',a,C,tr,rfl,I'.XW,L,{ap.1,ap.2.1,λp j=>ap.2.2 p (by have j:=j;rw[AI] at j;exact An _ j)},ap.2.2,λT e=>(ac T e).2.2,q}
 refine wpAny_Try_except<|AZ (hb _ _ _ tk [] s σ H D (I.tr _) h) (λf s1 h1=>?_) λe s1 h1=>?_
 .have h2:=SP.XW h1;cases f with|next=>exact wpAny_execs_nil h2|brk=>exact h2|cont=>exact h2|ret u=>exact h2
 .obtain⟨g,o,H',a,C,tr,rfl,I1,L,ap,pa,al,C',ec,em,q⟩:=h1;cases ec;refine P4 I1 hs hf hx L (λp j=>{pa p j,λT e=>al T e p j}) λh' T I2 L2 a4=>?_;refine wpAny_handleBy_cons (codeAny_handlers_test ?_) (by intro q;cases q);refine iQ (X:=X.XH a) (I2.XH a) hg hm ?_ a5;obtain⟨_,_,oe,vs,a0,he,hc,_⟩:=id L2;have LT:PySem.W.Looks (model X.prog X.w) h' (typeOf<|.ref a) (.ref C):=hc▸(PySem.W.Looks.ld he).andThen .now;refine PySem.W.exm_one (K:=X.K) I2.SL LT em _ _ _ _ (λ_ _ e=>e) ?_;refine codeAny_handlers_suite_as ?_;refine P6 I2 hs hx L2 (λp j=>{pa p j,a4 p j}) λh3 T' I3 L3=>?_;obtain⟨new,free,ay,bb,a3,aL,ba,_⟩:=L3;have I4:=P5 I3 hx new free aL {ap.1,ap.2.1,λp j=>pa p<|An _ j} pa;refine bB (X:=X.XH a) (I4.XH a) hN hi (.inl hk) (v:=.ref a) (u:=.ref a) rfl (λs5 I5=>?_)<|.inr hk;refine AZ (hh a U s5 _ _ (Dh i D) I5<|q a ay free ba) (λf s6 h6=>?_) λe s6 z=>z.elim;cases f with
  |next=>obtain⟨a1,H6,J,q6⟩:=h6;exact gL (J.Yj I.ok) hN hi hk λs7 I7=>{_,H6,I7,q6}
  |brk=>obtain⟨a1,H6,J,q6⟩:=h6;exact gL (J.Yj I.ok) hN hi hk λs7 I7=>{_,H6,I7,q6}
  |cont=>obtain⟨a1,H6,J,q6⟩:=h6;exact gL (J.Yj I.ok) hN hi hk λs7 I7=>{_,H6,I7,q6}
  |ret u=>obtain⟨v,a1,H6,J,r,q6⟩:=h6;exact gL (J.Yj I.ok) hN hi hk λs7 I7=>{v,_,H6,I7,r,q6}
section
open PySem.W
structure w_(K:Frag)(C:Addr):Prop where
 ga:findIn K (.ref C) "__getattribute__"=some (some<|.builtin "BaseException.__getattribute__")
 gt:findIn K (.ref C) "__getattr__"=some none
 cl:findIn K (.ref C) "__class__"=some (some<|.builtin "object.__class__")
 ge:specialIn K (.builtin "object.__class__") "__get__"=some (some<|.builtin "getset_descriptor.__get__")
 tk:takesIn K (.builtin "object.__class__")=some true
 mo:mroIn K C (.type "object")=some true
 be:subIn K (.ref C) (.type "BaseException")=some true
def _v(self:W0):bindSpecial (.builtin "BaseException.__getattribute__") self=pure (.builtin "BaseException.__getattribute__",[self]):=by
 have J:withoutEnding? "BaseException.__getattribute__" "#opaque"=none:=by decide +kernel
 have I:withoutEnding? "BaseException.__getattribute__" "#data"=none:=by decide +kernel
 have U:builtinKind "BaseException.__getattribute__"=some .slot:=by decide +kernel
 simp only[bindSpecial,typeOf,builtinType,J,I,U];rfl
def sJ(h:W4)(a C:Addr):Prop:=∃o,h.get? a=some o/\o.cls=.ref C
def sJ.type{a:Addr}(I:sJ h a C):Looks M h (typeOf<|.ref a) (.ref C):=by obtain⟨o,h1,h2⟩:=I;exact h2▸(Looks.ld h1).andThen .now
open Builtin.ObjectAttr in
def P9{K:Frag}{a:Addr}(c:w_ K C)(X:K.In h):Looks M h (find (.ref a) (.ref C) "__class__") (.bind (.builtin "getset_descriptor.__get__")<|.builtin "object.__class__"):=by have I:=looks_findIn (M:=M) X c.cl;have L2:=looks_specialIn (M:=M) X c.ge;have L3:=looks_takesIn (M:=M) X c.tk;refine I.andThen<|L2.andThen ?_;exact(show Looks M h (dataDescriptor? (some<|.builtin "object.__class__")<|some<|.builtin "getset_descriptor.__get__") (some (.builtin "getset_descriptor.__get__",.builtin "object.__class__")) from L3.andThen .now).andThen (Looks.tag .now)
section
variable {w:W3}{K:Frag}{a:Addr}
open Builtin Builtin.ObjectAttr Builtin.Getset_descriptor in
def P_{R:Result->W1->Prop}{tp:W0}(X:K.In s.heap)(I:sJ s.heap a C)(J:mroIn K C (.type "object")=some true)
 (h:R (.ok<|.ret<|.ref C) s):codeAny (model prog w) A (.call (.builtin "getset_descriptor.__get__") ⟨[.builtin "object.__class__",.ref a,tp],[]⟩) R s:=by
 obtain⟨U,g,j,t,os⟩:=s;have l:=I.type (M:=model prog w);have o:=looks_mroIn (M:=model prog w) X J;refine codeAny_call_builtin KF.slot_gs.plain KF.entry_gs<|KF.slot_gs.check _ _ _ _ _ _ _ _ KF.type_class (KF.args_gs _ _ _) ?_;unfold Builtin.«getset_descriptor.__get__» descrGet;rw[dga_obj];refine Aa<|Aj ?_;unfold descrGetter descrCheckInstance descrNameAndClass isInstance;simp only[KF.owner_class]
 repeat lk
 refine{Code.quiet_builtin _ (by decide +kernel),codeAny_builtin KF.entry_class ?_};unfold Builtin.«object.__class__» shownTypeOf
 repeat lk
 exact h
def P'{tk:Tok}{Q:Fin->W1->Prop}(c:w_ K C)(X:K.In s.heap)(I:sJ s.heap a C)(h:Q (.done<|.ret<|.ref C) s):
 wpAny (model prog w) A (Builtin.«object.__getattribute__» ⟨[.ref a,.str "__class__" tk],[]⟩) Q E s:=by
 obtain⟨J,g,d,t,os⟩:=s;have U:=I.type (M:=model prog w);have j:=P9 (M:=model prog w) (a:=a) c X
 repeat (first|with_reducible refine wpAny_call ?_|lk)
 refine P_ X I c.mo ?_
 repeat lk
 exact h
def Qa{Q:WL}{J:W0}(c:w_ K C)(X:K.In s.heap)(I:sJ s.heap a C)(j:Q () s):wpAny (model prog w) A (checkBuiltinCall "BaseException.__getattribute__" ⟨[.ref a,J],[]⟩) Q E s:=by
 obtain⟨o,g,d,t,os⟩:=s;have p:=I.type (M:=model prog w);have r:=looks_subIn (M:=model prog w) X c.be;have l:builtinKind "BaseException.__getattribute__"=some .slot:=by decide +kernel
 have U:splitId "BaseException.__getattribute__"=some ("BaseException","__getattribute__"):=by decide +kernel
 have T:=F.args_bexc_ga (.ref a) J;simp only[checkBuiltinCall,l,U];refine Aa ?_
 repeat lk
 exact j
def Qb{tk:Tok}(c:w_ K C)(X:K.In s.heap)(I:sJ s.heap a C)(h:Q (.ref C) s):wpAny (model prog w) A (getAttrBy (.ref a) (.str "__class__" tk) false) Q E s:=by
 obtain⟨J,g,d,t,os⟩:=s;have U:=I.type (M:=model prog w);have j:=looks_findIn (M:=model prog w) X c.ga;have L2:=looks_findIn (M:=model prog w) X c.gt
 repeat (first|with_reducible refine wpAny_call ?_|with_reducible refine wpAny_attempt ?_|lk)
 refine codeAny_call_builtin (by decide +kernel) F.entry_bexc_ga<|Qa c X I<|P' c X I ?_;exact handed_on rfl h
def Qc{Q:WW->W1->Prop}(c:w_ K C)(X:K.In s.heap)(I:sJ s.heap a C)(h:Q (some<|.ref C) {s with toks:=s.toks+1}):wpAny (model prog w) A (getAttr? (.ref a) "__class__") Q E s:=by refine Aa<|wpAny_mkText<|Aa<|wpAny_attempt<|Qb (s:={s with toks:=s.toks+1}) c X I ?_;exact Aj h
end
def uQ{K:Frag}{a:Addr}(c:w_ K C)(J:(clsIn K C).isSome=true):KitX K (.ref a) (.ref C) (λh=>sJ h a C) where
 ty:=λ_ _ _ I=>I.type
 it:=λ_ _ X _=>by
  unfold clsIn at J;split at J
  .rename_i o p U g j;intro t T E' s' k q;exact Aa<|wpAny_loadPart (k _ _<|X _ _ j)<|Aj q
  .cases J
 ne:=λh tp dd r n sl X l=>by
  refine Bool.eq_false_iff.mpr λq=>?_;have e:=Value.ref.inj<|beq_iff_eq.mp q;subst e;unfold clsIn at J;split at J
  .rename_i o p U g j;have z:=(X _ _ j).symm.trans l;cases z
  .cases J
 ca:=λX I k=>Qc c X I k
def Ew:V->WW
 |.ref D=>some<|.ref D
 |.ty T=>some<|.type T
 |_=>none
def uz{c:W0}(h:Ew v=some c)(r:zr v u):u=c:=by cases v with|ref D=>cases h;exact r|ty T=>cases h;exact r|_=>cases h
theorem tw:∀{vs:W6} {us cs:WP},vs.map Ew=cs.map some->zk vs us->us=cs
 |[],_,[],_,.nil=>rfl
 |[],_,_::_,h,_=>by cases h
 |_::_,_,[],h,_=>by cases h
 |v::vs,_,c::cs,h,.cons r t=>by rw[AA,AA] at h;obtain⟨h1,h2⟩:=Em h;rw[uz h1 r,tw h2 t]
structure x_(K:Af)(C:Addr):Prop where
 at_:w_ K C
 cls:(PySem.W.clsIn K C).isSome=true
def G6(K:Af)(H:Hp)(a C:Addr):Prop:=∃I,H a=some (.Xs I<|.own 0)/\I.cls=.ref C
def Qd(K:Af):W6->Hp->VK->Prop:=λxs H Q=>∃a C v,xs=[.ref a,v]/\G6 K H a C/\x_ K C/\
 ((∃u b,Ew v=some u/\PySem.W.kitOne K (.ref C) u=some b/\Q (.bl b) H)\/(∃tp I us b,v=.ref tp/\dZ K H tp I/\I.map Ew=us.map some/\PySem.W.kitAny K (.ref C) us=some b/\Q (.bl b) H))
def oP :jh X (.builtin "isinstance") (Qd X.K):=by
 rintro U s σ H xs us Q I r⟨a,C,v,rfl,⟨g,l,p⟩,hd,h⟩;obtain⟨t,T,rfl,r1,j⟩:=zk.two r;cases (show t=Value.ref a from r1);obtain⟨he,_⟩:=(show xu X.prog X.w H s.heap a (.Xs g<|.own 0) from I.GT a _ l);have ex:sJ s.heap a C:={(g),he,p};rcases h with⟨c,b,e,k,q⟩|⟨tp,ws,cs,b,rfl,J,e,k,q⟩
 .cases uz e j;exact ja I.tk<|Bx (uQ hd.at_ hd.cls) I.SL ex k (λz=>nomatch z) λtk J=>{.bl b,H,I.tok _,rfl,q}
 .cases (show T=Value.ref tp from j);obtain⟨a1,rv,⟨o,h1,h2,n,h3⟩,_⟩:=I.tuple J;cases tw e rv;obtain⟨oc,od,a2,a3⟩:=o;dsimp only at h2 h3;subst h2 h3;exact ja I.tk<|BZ (uQ hd.at_ hd.cls) I.SL ex h1 k (λz=>nomatch z) λtk J=>{.bl b,H,I.tok _,rfl,q}
def uS(H:Hp)(P:Addr)(q:Str):Prop:=∃ps,H P=some (.XN ps)/\TriplesOk ps.toList/\∀pos I,codeAmong pos ps.toList=some I->∃c' oc vs t,I=.ref c'/\H c'=some (.Xs oc<|.own 0)/\oc.data=.fields vs/\vs[1]?=some (.str q t)
def uS.keep{P:Addr}(h:uS H P q)(e:H' P=H P)(t:∀b o u,H b=some (.Xs o u)->H' b=some (.Xs o u)):uS H' P q:=by obtain⟨I,h1,h2,h3⟩:=h;refine{I,e.trans h1,h2,λpos J z=>?_};obtain⟨U,g,j,l,p,r,C⟩:=h3 pos J z;exact{U,g,j,l,p,t _ _ _ r,C}
end
inductive Y where
 |GM|bl (b:Bool)|int (i:Int)|str (x:Str)|ref (a:Addr)|ty (n:W5)|cd (kvs:List<|Str×Str)|tup (ys:List Y)|sq (ys:List Y)
abbrev _x:=List Y
abbrev Xb:=Option Y
inductive LO where
 |lst (ys:_x)|XI (kvs:List<|jn×Y)|ins (C:Addr) (fs:List<|Str×Y)|exc (C:Addr)|tb (q:Str)
abbrev qm:=Addr->Option LO
def qj(L:qm)(a:Addr)(o:LO):qm:=λb=>if b=a then some o else L b
def q9{L:qm}{a:Addr}{o:LO}:qj L a o a=some o:=by unfold qj;rw[AC rfl]
def qf{L:qm}{a b:Addr}{o:LO}(h:b≠a):qj L a o b=L b:=by unfold qj;rw[AB h]
def kc{L:qm}{a:Addr}{o u:LO}:qj (qj L a o) a u=qj L a u:=by funext b;unfold qj;split<;>rfl
def w9{L:qm}{a b:Addr}{o:LO}(h:L a=some o)(h':L b=none):a≠b:=by intro e;subst e;rw[h] at h';cases h'
structure G3 where
 K:Af
 P:W2
 w:W3
abbrev Cx.g3(X:Cx):G3:={(X.K),X.prog,X.w}
def Zh(K:Af)(H:Hp)(a:Addr)(xs:W6):Prop:=(∃o,H a=some (.Xs o<|.lst xs))\/
 ∃(o:Obj) (eH:WQ) (n:Nat),K.lookup a=some o/\o.cls=.type "list" /\ o.dict=none/\o.data=.seq eH n/\eH.size<=sizeLine/\zk xs eH.toList
def Zh.sq{K:Af}{a:Addr}(h:Zh K H a xs):aY K H a xs:=by
 rcases h with⟨o,h⟩|h
 .exact .inl<|.inr {(o),h}
 .exact .inr h
mutual
def RV(G:G3)(H:Hp):Y->V->Prop
 |.GM,v=>v=.GM
 |.bl b,v=>v=.bl b
 |.int i,v=>v=.int i
 |.str x,v=>v=.str x
 |.ref a,v=>v=.ref a
 |.ty n,v=>v=.ty n
 |.cd kvs,v=>∃a,v=.ref a/\KD G.K G.P G.w a (kvs.map λp=>(Sum.inr p.1,V.str p.2))
 |.tup ys,v=>∃a xs,v=.ref a/\dZ G.K H a xs/\va G H ys xs
 |.sq ys,v=>∃a xs,v=.ref a/\Zh G.K H a xs/\va G H ys xs
def va(G:G3)(H:Hp):_x->W6->Prop
 |[],xs=>xs=[]
 |y::ys,xs=>∃x I,xs=x::I/\RV G H y x/\va G H ys I
end
def Qe:HO->Bool
 |.tup _=>true
 |.Xs _ _=>true
 |_=>false
def j7(H H':Hp):Prop:=∀a u,Qe u=true->H a=some u->H' a=some u
def j7.refl(H:Hp):j7 H H:=λ_ _ _ h=>h
abbrev EW:=@j7.refl
def j7.trans{H1 H2:Hp}(a:j7 H H1)(b:j7 H1 H2):j7 H H2:=λc u i h=>b c u i<|a c u i h
def j7.new{p:Addr}{o:HO}(h:H p=none):j7 H (upd H p o):=λ_ _ _ q=>by rw[qp<|j6 q h];exact q
abbrev EX:=@j7.new
def j7.lst{p:Addr}{zs:W6}{o:HO}(h:H p=some (.lst zs)):j7 H (upd H p o):=λa u i q=>by rw[qp ?_];exact q;rintro rfl;rw[h] at q;cases q;cases i
abbrev E7:=@j7.lst
def dZ.ts{K:Af}{a:Addr}(h:dZ K H a xs)(t:j7 H H'):dZ K H' a xs:=by
 rcases h with(h|⟨o,h⟩)|h
 .exact .inl<|.inl<|t _ _ rfl h
 .exact .inl<|.inr {o,t _ _ rfl h}
 .exact .inr h
def Zh.ts{K:Af}{a:Addr}(h:Zh K H a xs)(t:j7 H H'):Zh K H' a xs:=by
 rcases h with⟨o,h⟩|h
 .exact .inl {o,t _ _ rfl h}
 .exact .inr h
mutual
theorem RV.ts{G:G3}{H H':Hp}(t:j7 H H'):∀{y:Y} {v:V},RV G H y v->RV G H' y v
 |.GM,_,h=>h
 |.bl _,_,h=>h
 |.int _,_,h=>h
 |.str _,_,h=>h
 |.ref _,_,h=>h
 |.ty _,_,h=>h
 |.cd _,_,h=>h
 |.tup _,_,ψ=>(by obtain⟨a,I,e,s,r⟩:=ψ;exact {a,I,e,dZ.ts s t,va.ts t r})
 |.sq _,_,ψ=>(by obtain⟨a,I,e,s,r⟩:=ψ;exact {a,I,e,s.ts t,va.ts t r})
theorem va.ts{G:G3}{H H':Hp}(t:j7 H H'):∀{ys:_x} {xs:W6},va G H ys xs->va G H' ys xs
 |[],_,h=>h
 |_::_,_,ψ=>(by obtain⟨x,I,e,r,s⟩:=ψ;exact {x,I,e,RV.ts t r,va.ts t s})
end
theorem va.length{G:G3}{H:Hp}:∀{ys:_x} {xs:W6},va G H ys xs->ys.length=xs.length
 |[],_,h=>by cases h;rfl
 |_::_,_,ψ=>by obtain⟨x,I,e,_,s⟩:=ψ;subst e;simp[va.length s]
theorem va.get{G:G3}{H:Hp}:∀{ys:_x} {xs:W6} {i:Nat} {y:Y},va G H ys xs->ys[i]?=some y->∃x,xs[i]?=some x/\RV G H y x
 |[],_,_,_,_,h=>by simp at h
 |_::_,_,0,_,ψ,h=>by obtain⟨x,I,e,r,_⟩:=ψ;subst e;simp at h;subst h;exact{(x),rfl,r}
 |_::_,_,i+1,_,ψ,h=>by obtain⟨x,I,e,_,s⟩:=ψ;subst e;obtain⟨J,q,r⟩:=va.get (i:=i) s (by simpa using h);exact{J,by simpa using q,r}
theorem va.app{G:G3}{H:Hp}:∀{ys zs:_x} {xs us:W6},va G H ys xs->va G H zs us->va G H (ys++zs) (xs++us)
 |[],_,_,_,h,q=>by cases h;exact q
 |_::_,_,_,_,ψ,q=>by obtain⟨x,I,e,r,s⟩:=ψ;subst e;exact{x,I++_,rfl,r,va.app s q}
def va.one{G:G3}{y:Y}{x:V}(r:RV G H y x):va G H [y] [x]:={x,[],rfl,r,rfl}
theorem va.take{G:G3}{H:Hp}:∀{ys:_x} {xs:W6} (n:Nat),va G H ys xs->va G H (ys.take n) (xs.take n)
 |[],_,n,h=>by cases h;simp[va]
 |_::_,_,0,_=>by simp[va]
 |_::_,_,n+1,ψ=>by obtain⟨x,I,e,r,s⟩:=ψ;subst e;exact{x,I.take n,rfl,r,va.take n s}
theorem va.drop{G:G3}{H:Hp}:∀{ys:_x} {xs:W6} (n:Nat),va G H ys xs->va G H (ys.drop n) (xs.drop n)
 |[],_,n,h=>by cases h;simp[va]
 |_::_,_,0,h=>h
 |_::_,_,n+1,ψ=>by obtain⟨x,I,e,r,s⟩:=ψ;subst e;exact va.drop n s
theorem va.Zr{G:G3}{H:Hp}{y:Y}{x:V}(r:RV G H y x):∀{ys:_x} {xs:W6} (i:Nat),va G H ys xs->va G H (ys.set i y) (xs.set i x)
 |[],_,_,h=>by cases h;simp[va]
 |_::_,_,0,ψ=>by obtain⟨J,I,e,_,s⟩:=ψ;subst e;exact{(x),I,rfl,r,s}
 |_::_,_,i+1,ψ=>by obtain⟨J,I,e,q,s⟩:=ψ;subst e;exact{J,I.set i x,rfl,q,va.Zr r i s}
def va.dropLast{G:G3}{ys:_x}(h:va G H ys xs):va G H ys.dropLast xs.dropLast:=by rw[List.dropLast_eq_take,List.dropLast_eq_take,h.length];exact h.take _
theorem va.eraseIdx{G:G3}{H:Hp}:∀{ys:_x} {xs:W6} (n:Nat),va G H ys xs->va G H (ys.eraseIdx n) (xs.eraseIdx n)
 |[],_,n,h=>by cases h;simp[va]
 |_::_,_,0,ψ=>by obtain⟨x,I,e,r,s⟩:=ψ;subst e;exact s
 |_::_,_,n+1,ψ=>by obtain⟨x,I,e,r,s⟩:=ψ;subst e;exact{x,I.eraseIdx n,rfl,r,va.eraseIdx n s}
def RO(G:G3)(H:Hp)(a:Addr):LO->Prop
 |.lst ys=>∃xs,H a=some (.lst xs)/\va G H ys xs
 |.XI kvs=>∃xs,H a=some (.dK xs)/\Paired (λ(p:jn×Y) (q:jn×V)=>p.1=q.1/\RV G H p.2 q.2) kvs xs
 |.ins C fs=>∃dx xs,H a=some (.ins C dx xs)/\Paired (λ(p:Str×Y) (q:Str×V)=>p.1=q.1/\RV G H p.2 q.2) fs xs
 |.exc C=>G6 G.K H a C
 |.tb q=>uS H a q
def zv(G:G3)(H:Hp)(L:qm):Prop:=∀a o,L a=some o->RO G H a o
theorem RO.ex{G:G3}{a:Addr}:∀{o:LO},RO G H a o->∃u,H a=some u
 |.lst _,ψ=>(by obtain⟨_,h,_⟩:=ψ;exact {_,h})
 |.XI _,ψ=>(by obtain⟨_,h,_⟩:=ψ;exact {_,h})
 |.ins _ _,ψ=>(by obtain⟨_,_,h,_⟩:=ψ;exact {_,h})
 |.exc _,ψ=>(by obtain⟨_,h,_⟩:=ψ;exact {_,h})
 |.tb _,ψ=>(by obtain⟨_,h,_⟩:=ψ;exact {_,h})
theorem zv.none{G:G3}{L:qm}(h:zv G H L){p:Addr}(I:H p=none):L p=none:=by cases e:L p with|none=>rfl|some o=>obtain⟨u,q⟩:=(h p o e).ex;rw[I] at q;cases q
theorem RO.keep{G:G3}(t:j7 H H'){a:Addr}(e:H' a=H a):∀{o:LO},RO G H a o->RO G H' a o
 |.lst _,ψ=>(by obtain⟨I,h,r⟩:=ψ;exact {I,e.trans h,r.ts t})
 |.XI _,ψ=>(by obtain⟨I,h,r⟩:=ψ;exact {I,e.trans h,E6 r λ_ _ ψ=>(by obtain⟨a,b⟩:=ψ;exact {a,b.ts t})})
 |.ins _ _,ψ=>(by obtain⟨J,I,h,r⟩:=ψ;exact {J,I,e.trans h,E6 r λ_ _ ψ=>(by obtain⟨a,b⟩:=ψ;exact {a,b.ts t})})
 |.exc _,ψ=>(by obtain⟨o,h,c⟩:=ψ;exact {o,e.trans h,c})
 |.tb _,h=>uS.keep h e λb o u z=>t b _ rfl z
def zv.skip{G:G3}{L:qm}(h:zv G H L){p:Addr}{o:HO}(I:H p=.none):zv G (upd H p o) L:=λa u e=>by obtain⟨x,q⟩:=(h a u e).ex;exact(h a u e).keep (EX I) (qp<|j6 q I)
def zv.XX{G:G3}{L:qm}(h:zv G H L){p:Addr}{ys:_x}(I:H p=.none)(r:va G H ys xs):zv G (upd H p<|.lst xs) (qj L p<|.lst ys):=λa u e=>by
 by_cases c:a=p
 .subst c;rw[q9] at e;cases e;exact{xs,zu,r.ts<|EX I}
 .rw[qf c] at e;exact(h a u e).keep (EX I) (qp c)
def zv.X4{G:G3}{L:qm}(h:zv G H L){p:Addr}{ys:_x}{zs:W6}(I:H p=some (.lst zs))(r:va G H ys xs):zv G (upd H p<|.lst xs) (qj L p<|.lst ys):=λa u e=>by
 by_cases c:a=p
 .subst c;rw[q9] at e;cases e;exact{xs,zu,r.ts<|E7 I}
 .rw[qf c] at e;exact(h a u e).keep (E7 I) (qp c)
def qi(L L':qm):Prop:=∀a o,L a=some o->L' a=some o
def qi.refl(L:qm):qi L L:=λ_ _ h=>h
abbrev EV:=@qi.refl
def qi.trans{L L1 L2:qm}(a:qi L L1)(b:qi L1 L2):qi L L2:=λc o h=>b c o<|a c o h
def qi.new{L:qm}{p:Addr}{o:LO}(h:L p=none):qi L (qj L p o):=λa u e=>by rw[qf<|w9 e h];exact e
abbrev By:=@qi.new
@[elab_as_elim] theorem G7 {L:qm} {p:Addr} {o:LO} {motive:qm->Prop} (h:L p=none) (k:∀L',qi L L'->L' p=some o->motive L'):motive (qj L p o):=k _ (By h) q9
def zv.sub{G:G3}{L L':qm}(h:zv G H L')(s:qi L L'):zv G H L:=λa o e=>h a o<|s a o e
abbrev ji:=List<|Xb
structure xr(G:G3)(H:Hp)(σ:St)(τ:ji):Prop where
 len:σ.length=τ.length
 get:∀(i:Nat) y,τ[i]?=some (some y)->∃v,σ[i]?=some (some v)/\RV G H y v
theorem xr.ts{G:G3}{τ:ji}(h:xr G H σ τ)(t:j7 H H'):xr G H' σ τ:=
 ⟨h.len,λi y e=>let ⟨v,a,b⟩:=h.get i y e;⟨v,a,b.ts t⟩⟩
def xr.set{G:G3}{τ:ji}(h:xr G H σ τ){y:Y}(r:RV G H y v):xr G H (σ.set i<|some v) (τ.set i<|some y):=by
 refine{by simp[h.len],λj z e=>?_};by_cases c:i=j
 .subst c;have I:i<τ.length:=by
   by_cases q:i<τ.length
   .exact q
   .rw[CS (by simp;omega)] at e;cases e
  rw[Bl I] at e;cases e;exact{v,Bl (by rw[h.len];exact I),r}
 .rw[AY c] at e ⊢;exact h.get j z e
def xr.more{G:G3}{τ:ji}(h:xr G H σ τ)(n:Nat):xr G H (σ++List.replicate n none) (τ++List.replicate n none):=by
 refine{by simp[h.len],λj z e=>?_};by_cases c:j<τ.length
 .rw[Az c] at e;rw[Az (by rw[h.len];exact c)];exact h.get j z e
 .rw[AF (by omega),CD] at e;split at e<;>cases e
def xN:ji->Nat->Xb
 |[],_=>none
 |o::_,0=>o
 |_::r,i+1=>xN r i
theorem rq:∀(τ:ji) (i:Nat) {y:Y},xN τ i=some y->τ[i]?=some (some y)
 |[],_,_,h=>by cases h
 |o::_,0,_,h=>by simp[xN] at h;simp[h]
 |_::r,i+1,_,h=>by simp only[Dl];exact rq r i h
abbrev YK:=Y->qm->Prop
abbrev xw:=ji->qm->YK->Prop
abbrev jD:=ji->qm->(Bool->qm->Prop)->Prop
abbrev fH:=ji->qm->(_x->qm->Prop)->Prop
structure xb where
 nx:ji->qm->Prop
 rt:YK
 bk:ji->qm->Prop:=λ_ _=>False
 ct:ji->qm->Prop:=λ_ _=>False
abbrev bD:=xb->ji->qm->Prop
abbrev kI:=Y->ji->qm->(ji->qm->Prop)->Prop
abbrev uv:=_x->ji->qm->(ji->qm->Prop)->Prop
abbrev q_:=ji->qm->(_x->(qm->Prop)->qm->Prop)->Prop
abbrev pU:=Y->Y->qm->YK->Prop
def tK(G:G3)(H:Hp)(I:YK)(Q:VK):Prop:=∀v H' y L',j7 H H'->zv G H' L'->RV G H' y v->I y L'->Q v H'
def ZC(G:G3)(H:Hp)(I:Bool->qm->Prop)(Q:Bool->Hp->Prop):Prop:=∀b H' L',j7 H H'->zv G H' L'->I b L'->Q b H'
def IJ(G:G3)(H:Hp)(I:_x->qm->Prop)(Q:W6->Hp->Prop):Prop:=∀vs H' ys L',j7 H H'->zv G H' L'->va G H' ys vs->I ys L'->Q vs H'
def pX(G:G3)(H:Hp)(I:ji->qm->Prop)(Q:St->Hp->Prop):Prop:=∀σ H' τ L',j7 H H'->xr G H' σ τ->zv G H' L'->I τ L'->Q σ H'
def tK.ts{G:G3}{I:YK}{Q:VK}(h:tK G H I Q)(t:j7 H H'):tK G H' I Q:=λv J y U g=>h v J y U<|t.trans g
def ZC.ts{G:G3}{I:Bool->qm->Prop}{Q:Bool->Hp->Prop}(h:ZC G H I Q)(t:j7 H H'):ZC G H' I Q:=λv J U g=>h v J U<|t.trans g
def pX.ts{G:G3}{I:ji->qm->Prop}{Q:St->Hp->Prop}(h:pX G H I Q)(t:j7 H H'):pX G H' I Q:=λv J y U g=>h v J y U<|t.trans g
structure yA(G:G3)(H:Hp)(D3:xb)(D:o6):Prop where
 nx:pX G H D3.nx D.nx
 rt:tK G H D3.rt D.rt
 bk:pX G H D3.bk D.bk
 ct:pX G H D3.ct D.ct
theorem yA.ts{G:G3}{I:xb}{D:o6}(h:yA G H I D)(t:j7 H H'):yA G H' I D:={h.nx.ts t,h.rt.ts t,h.bk.ts t,h.ct.ts t}
def rj(G:G3)(t:xw):TE:=λσ H Q=>∃τ L I,xr G H σ τ/\zv G H L/\t τ L I/\tK G H I Q
def l_(G:G3)(t:jD):TT:=λσ H Q=>∃τ L I,xr G H σ τ/\zv G H L/\t τ L I/\ZC G H I Q
def IK(G:G3)(t:fH):TA:=λσ H Q=>∃τ L I,xr G H σ τ/\zv G H L/\t τ L I/\IJ G H I Q
def Fz(G:G3)(t:bD):TS:=λD σ H=>∃τ L I,xr G H σ τ/\zv G H L/\t I τ L/\yA G H I D
def FA(G:G3)(g:kI):TG:=λv σ H Q=>∃y τ L I,RV G H y v/\xr G H σ τ/\zv G H L/\g y τ L I/\pX G H I Q
def Qf(G:G3)(g:uv):g_:=λvs σ H Q=>∃ys τ L I,va G H ys vs/\xr G H σ τ/\zv G H L/\g ys τ L I/\pX G H I Q
structure hZ(G:G3)(H₀:Hp)(J:It)(ys:_x)(keep:qm->Prop):Prop where
 go:∀i H L,j7 H₀ H->zv G H L->keep L->i<ys.length->J.go i H
 Yu:∀i H L x H' y,j7 H₀ H->zv G H L->keep L->ys[i]?=some y->J.Yu i H x H'->j7 H H'/\zv G H' L/\RV G H' y x
 stop:∀H L,j7 H₀ H->zv G H L->keep L->J.stop ys.length H
def G8(G:G3)(wi:q_):TI:=λσ H R=>∃τ L I,xr G H σ τ/\zv G H L/\wi τ L I/\∀J H' ys keep L',j7 H H'->zv G H' L'->hZ G H' J ys keep->I ys keep L'->R J H'
def gS(G:G3)(U:pU):R2:=λx y H Q=>∃x3 I L J,RV G H x3 x/\RV G H I y/\zv G H L/\U x3 I L J/\tK G H J Q
def f_(G:G3)(J:_x->qm->YK->Prop):W6->Hp->VK->Prop:=λxs H Q=>∃ys L I,va G H ys xs/\zv G H L/\J ys L I/\tK G H I Q
def PE.imp{t u:TE}(h:PE X e t)(q:∀σ H Q,u σ H Q->t σ H Q):PE X e u:=λJ s σ H Q I z=>h J s σ H Q I<|q σ H Q z
abbrev E8:=@PE.imp
def PE.Xk{G:G3}{t:TE}{u:xw}(h:PE X e t)(q:∀σ H Q τ L I,xr G H σ τ->zv G H L->u τ L I->tK G H I Q->t σ H Q):PE X e (rj G u):=E8 h λσ H Q ψ=>(by obtain⟨τ,L,I,a,b,c,d⟩:=ψ;exact q σ H Q τ L I a b c d)
abbrev EY:=@PE.Xk
def PT.imp{t u:TT}(h:PT X e t)(q:∀σ H Q,u σ H Q->t σ H Q):PT X e u:=λJ s σ H Q I z=>h J s σ H Q I<|q σ H Q z
def PT.Xk{G:G3}{t:TT}{u:jD}(h:PT X e t)(q:∀σ H Q τ L I,xr G H σ τ->zv G H L->u τ L I->ZC G H I Q->t σ H Q):PT X e (l_ G u):=PT.imp h λσ H Q ψ=>(by obtain⟨τ,L,I,a,b,c,d⟩:=ψ;exact q σ H Q τ L I a b c d)
def PW.imp{t u:TT}(h:PW X e t)(q:∀σ H Q,u σ H Q->t σ H Q):PW X e u:=λU J s σ H Q I z=>h U J s σ H Q I<|q σ H Q z
def PW.Xk{G:G3}{t:TT}{u:jD}(h:PW X e t)(q:∀σ H Q τ L I,xr G H σ τ->zv G H L->u τ L I->ZC G H I Q->t σ H Q):PW X e (l_ G u):=PW.imp h λσ H Q ψ=>(by obtain⟨τ,L,I,a,b,c,d⟩:=ψ;exact q σ H Q τ L I a b c d)
def PA.imp{e:WT}{t u:TA}(h:PA X e t)(q:∀σ H Q,u σ H Q->t σ H Q):PA X e u:=λpos J s σ H Q I z=>h pos J s σ H Q I<|q σ H Q z
def PA.Xk{G:G3}{e:WT}{t:TA}{u:fH}(h:PA X e t)(q:∀σ H Q τ L I,xr G H σ τ->zv G H L->u τ L I->IJ G H I Q->t σ H Q):PA X e (IK G u):=PA.imp h λσ H Q ψ=>(by obtain⟨τ,L,I,a,b,c,d⟩:=ψ;exact q σ H Q τ L I a b c d)
def PS.imp{e:Stmt}{t u:TS}(h:PS X e t)(q:∀D σ H,u D σ H->t D σ H):PS X e u:=λJ s σ H Q I z=>h J s σ H Q I<|q _ σ H z
def PS.Xk{G:G3}{e:Stmt}{t:TS}{u:bD}(h:PS X e t)(q:∀D σ H τ L I,xr G H σ τ->zv G H L->u I τ L->yA G H I D->t D σ H):PS X e (Fz G u):=PS.imp h λD σ H ψ=>(by obtain⟨τ,L,I,a,b,c,d⟩:=ψ;exact q D σ H τ L I a b c d)
abbrev E4:=@PS.Xk
def jA.imp{e:WU}{t u:TS}(h:jA X e t)(q:∀D σ H,u D σ H->t D σ H):jA X e u:=λJ s σ H Q I z=>h J s σ H Q I<|q _ σ H z
def jA.Xk{G:G3}{e:WU}{t:TS}{u:bD}(h:jA X e t)(q:∀D σ H τ L I,xr G H σ τ->zv G H L->u I τ L->yA G H I D->t D σ H):jA X e (Fz G u):=jA.imp h λD σ H ψ=>(by obtain⟨τ,L,I,a,b,c,d⟩:=ψ;exact q D σ H τ L I a b c d)
def PF.imp{e:WT}{t u:TT}(h:PF X e t)(q:∀σ H Q,u σ H Q->t σ H Q):PF X e u:=λJ s σ H Q I z=>h J s σ H Q I<|q σ H Q z
variable {g:kI}{G:G3}{y:Y}{D En:xb}{tA tc:jD}{ta tb te ti to:xw}{ys:_x}{L L' L0 L1 Lc:qm}{τ:ji}{gs:uv}{c0 c10 c11 c12 c7 c8 c9:Option Y}
def pN:Y:=(.tup [(.str "plain"),(.str "turned")])
def mG:Y:=(.cd [("plain","turned"),("turned","plain"),("both","either"),("either","both")])
def aC(b:Bool)(A B:Prop):Prop:=match b with
 |true=>A
 |false=>B
def Qg{b:Bool}{A B:Prop}(h:b=true->A)(k:b=false->B):aC b A B:=by cases b with|true=>exact h rfl|false=>exact k rfl
def dg{b:Bool}{A B:Prop}(e:b=true)(h:A):aC b A B:=by rw[e];exact h
def bF{b:Bool}{A B:Prop}(e:b=false)(h:B):aC b A B:=by rw[e];exact h
def zm{p:Prop} [Decidable p]{A B:Prop}(h:p->A)(k:¬p->B):aC (decide p) A B:=by
 by_cases c:p
 .rw[AD c];exact h c
 .rw[Aw c];exact k c
def nb(neg b:Bool):Bool:=match neg with
 |true=>!b
 |false=>b
def qc(i:Nat)(τ:ji)(L:qm)(Q:YK):Prop:=match xN τ i with
 |some y=>Q y L
 |none=>False
def yC(y:Y)(_:ji)(L:qm)(Q:YK):Prop:=Q y L
def zx(r:pU)(ta tb:xw)(τ:ji)(L:qm)(Q:YK):Prop:=ta τ L λx L1=>tb τ L1 λy L2=>r x y L2 Q
def yI(C:Int->Int->Prop)(g:Int->Int->Y)(x y:Y)(L:qm)(Q:YK):Prop:=match x,y with
 |.int i,.int j=>C i j/\Q (g i j) L
 |_,_=>False
def n_(g:Int->Int->Y)(x y:Y)(L:qm)(Q:YK):Prop:=match x,y with
 |.int i,.int j=>Q (g i j) L
 |_,_=>False
def dJ(L:qm):Y->Option _x
 |.tup ys=>some ys
 |.sq ys=>some ys
 |.ref a=>match L a with
  |some (.lst ys)=>some ys
  |_=>none
 |_=>none
@[irreducible] def cM (L:qm) (a:Addr) (k:_x->Prop):Prop:=match L a with
 |some (.lst ys)=>k ys
 |_=>False
def xa{a:Addr}{k:_x->Prop}(h:cM L a k):∃ys,L a=some (.lst ys)/\k ys:=by
 unfold cM at h;split at h
 .rename_i ys e;exact{(ys),e,h}
 .exact h.elim
def qk{a:Addr}{k:_x->Prop}(e:L a=some (.lst ys))(h:k ys):cM L a k:=by unfold cM;rw[e];exact h
def gl(L:qm)(x:Y)(k:_x->Prop):Prop:=match x with
 |.tup ys=>k ys
 |.sq ys=>k ys
 |.ref a=>cM L a k
 |_=>False
def aO{a:Addr}(h:L a=some (.lst ys)):dJ L (.ref a)=some ys:=by show(match L a with|some (.lst ys)=>some ys|_=>none)=some ys;rw[h]
def aD{x:Y}{k:_x->Prop}(h:gl L x k):∃ys,dJ L x=some ys/\k ys:=by
 cases x with
 |tup ys=>exact{(ys),rfl,h}
 |sq ys=>exact{(ys),rfl,h}
 |ref a=>obtain⟨ys,e,q⟩:=xa h;exact{ys,aO e,q}
 |_=>exact h.elim
def kE{a:Addr}(h:dJ L (.ref a)=some ys):L a=some (.lst ys):=by
 have I:(match L a with|some (.lst ys)=>some ys|_=>none)=some ys:=h;split at I
 .rename_i e;cases I;exact e
 .cases I
def Qh{x:Y}{k:_x->Prop}(e:dJ L x=some ys)(h:k ys):gl L x k:=by cases x with|tup I=>cases e;exact h|sq I=>cases e;exact h|ref a=>exact qk (kE e) h|_=>cases e
def qa{a:Addr}{k:_x->Prop}(e:L a=some (.lst ys))(h:k ys):gl L (.ref a) k:=Qh (aO e) h
def ku(x y:Y)(L:qm)(Q:YK):Prop:=match x,y with
 |.int i,.int j=>Q (.int<|i+j) L
 |.str a,.str b=>a.length+b.length<=sizeLine/\Q (.str<|a++b) L
 |.ref a,.ref b=>∃ys zs,L a=some (.lst ys)/\L b=some (.lst zs)/\ys.length+zs.length<=sizeLine/\∀p,L p=none->Q (.ref p) (qj L p<|.lst<|ys++zs)
 |_,_=>False
def wX(L:qm)(Q:α->qm->Prop):Option α->Prop
 |some v=>Q v L
 |none=>False
def bA(kvs:List<|jn×Y)(k:jn):Xb:=(kvs.find? λp=>decide<|p.1=k).map (·.2)
@[irreducible] def wM (L:qm) (a:Addr) (k:List (jn×Y)->Prop):Prop:=match L a with
 |some (.XI kvs)=>k kvs
 |_=>False
def oV{a:Addr}{k:List (jn×Y)->Prop}(h:wM L a k):∃kvs,L a=some (.XI kvs)/\k kvs:=by
 unfold wM at h;split at h
 .rename_i I e;exact{(I),e,h}
 .exact h.elim
def aG{a:Addr}{k:List (jn×Y)->Prop}{kvs:List<|jn×Y}(e:L a=some (.XI kvs))(h:k kvs):wM L a k:=by unfold wM;rw[e];exact h
def aK(x y:Y)(L:qm)(Q:YK):Prop:=match x,y with
 |.str z,.int i=>z.length<=sizeLine/\wX L (λc L=>Q (.str {#[c]}) L) (fG z.cps.toList i)
 |.cd kvs,.str k=>wX L (λs L=>Q (.str s) L)<|kvs.lookup k
 |.ref a,.str k=>wM L a λkvs=>wX L Q<|bA kvs<|.inr k
 |x,.int i=>gl L x λys=>wX L Q<|fG ys i
 |_,_=>False
def ph(xs:_x)(L:qm)(Q:YK):Prop:=match xs with
 |[.str z]=>z.length<=sizeLine/\Q (.int z.length) L
 |[x]=>gl L x λys=>Q (.int ys.length) L
 |_=>False
def Ez(xs:_x)(L:qm)(Q:YK):Prop:=match xs with
 |[.int i,.int j]=>Q (.int<|max i j) L
 |_=>False
def FK(xs:_x)(L:qm)(Q:YK):Prop:=match xs with
 |[.int i,.int j]=>Q (.int<|min i j) L
 |_=>False
inductive lH where
 |GM|bool|int|str|tuple|list|dict
def lH.nm:lH->W5
 |.GM => "NoneType"
 |.bool => "bool"
 |.int => "int"
 |.str => "str"
 |.tuple => "tuple"
 |.list => "list"
 |.dict => "dict"
def r_(L:qm):Y->Option lH
 |.GM=>some .GM
 |.bl _=>some .bool
 |.int _=>some .int
 |.str _=>some .str
 |.tup _=>some .tuple
 |.sq _=>some .list
 |.ref a=>match L a with
  |some (.lst _)=>some .list
  |some (.XI _)=>some .dict
  |_=>none
 |_=>none
def Qi{a:Addr}(h:L a=some (.lst ys)):r_ L (.ref a)=some .list:=by show(match L a with|some (.lst _)=>some lH.list|some (.XI _)=>some .dict|_=>none)=some .list;rw[h]
def dI:lH->lH->Bool
 |.bool,.int=>true
 |.bool,.bool=>true
 |.int,.int=>true
 |.str,.str=>true
 |.tuple,.tuple=>true
 |.list,.list=>true
 |.dict,.dict=>true
 |.GM,.GM=>true
 |_,_=>false
@[irreducible] def FM (L:qm) (a:Addr) (k:lH->Prop):Prop:=match r_ L (.ref a) with
 |some T=>k T
 |none=>False
def Qj{a:Addr}{k:lH->Prop}(h:FM L a k):∃T,r_ L (.ref a)=some T/\k T:=by
 unfold FM at h;split at h
 .rename_i T e;exact{(T),e,h}
 .exact h.elim
def db{a:Addr}{k:lH->Prop}(e:L a=some (.lst ys))(h:k .list):FM L a k:=by unfold FM;rw[Qi e];exact h
def G9(L:qm)(x:Y)(k:lH->Prop):Prop:=match x with
 |.GM=>k .GM
 |.bl _=>k .bool
 |.int _=>k .int
 |.str _=>k .str
 |.tup _=>k .tuple
 |.sq _=>k .list
 |.ref a=>FM L a k
 |_=>False
def vH{x:Y}{k:lH->Prop}(h:G9 L x k):∃T,r_ L x=some T/\k T:=by cases x with|ref a=>exact Qj h|ty n=>exact h.elim|cd k=>exact h.elim|_=>exact{_,rfl,h}
def IL(S:lH)(te:xw)(τ:ji)(L:qm)(Q:YK):Prop:=te τ L λx L1=>G9 L1 x λT=>Q (.bl<|dI T S) L1
def Qk(S I:lH)(te:xw)(τ:ji)(L:qm)(Q:YK):Prop:=te τ L λx L1=>G9 L1 x λT=>Q (.bl<|dI T S||dI T I) L1
def e9:Y->Bool
 |.GM=>true
 |.bl _=>true
 |.int _=>true
 |.str _=>true
 |_=>false
def eX:Y->V
 |.GM=>.GM
 |.bl b=>.bl b
 |.int i=>.int i
 |.str x=>.str x
 |_=>.ty "?"
def RV.flat :∀{y:Y} {v:V},e9 y=true->RV G H y v->v=eX y:=by intro y v e h;cases y<;>first|exact h|cases e
theorem iU:∀{y:Y},e9 y=true->bM (eX y)=true
 |.GM,_=>rfl
 |.bl _,_=>rfl
 |.int _,_=>rfl
 |.str _,_=>rfl
theorem va.flat :∀{ys:_x} {xs:W6},ys.all e9=true->va G H ys xs->xs=ys.map eX
 |[],_,_,h=>h
 |y::ys,_,f,ψ=>by obtain⟨x,I,e,r,s⟩:=ψ;rw[CA,AM] at f;rw[e,r.flat f.1,s.flat f.2];rfl
def y4:Y->Bool
 |.ref _=>true
 |.sq _=>true
 |_=>false
def jj(L:qm):Nat->Y->Da->Prop
 |0,y,d=>e9 y=true/\d=.s (eX y)
 |n+1,y,d=>(e9 y=true/\d=.s (eX y))\/(∃ys ds,y=.tup ys/\d=.tup ds/\Paired (jj L n) ys ds)\/(∃ys ds,y4 y=true/\d=.lst ds/\dJ L y=some ys/\Paired (jj L n) ys ds)
def EC:Y->Bool
 |.ref _=>true
 |.tup _=>true
 |.sq _=>true
 |_=>false
def b_(neg:Bool)(x y:Y)(L:qm)(Q:YK):Prop:=match x,y with
 |.int i,.int j=>Q (.bl<|nb neg<|decide<|i=j) L
 |.str i,.str j=>Q (.bl<|nb neg<|decide<|i=j) L
 |.bl i,.bl j=>Q (.bl<|nb neg<|decide<|i=j) L
 |x,y=>EC x=true/\EC y=true/\∃n m d e,n<=128/\jj L n x d/\jj L m y e/\Q (.bl<|nb neg<|Da.eq d e) L
def iB(neg:Bool)(ta:xw)(τ:ji)(L:qm)(Q:YK):Prop:=ta τ L λx L1=>match x with
 |.GM=>Q (.bl<|!neg) L1
 |_=>Q (.bl neg) L1
def yB(t:xw)(τ:ji)(L:qm)(Q:Bool->qm->Prop):Prop:=t τ L λx L1=>match x with
 |.bl c=>Q c L1
 |_=>False
def fE(t u:jD)(τ:ji)(L:qm)(Q:Bool->qm->Prop):Prop:=t τ L λc L1=>aC c (u τ L1 Q)<|Q false L1
def ED(t u:jD)(τ:ji)(L:qm)(Q:Bool->qm->Prop):Prop:=t τ L λc L1=>aC c (Q true L1)<|u τ L1 Q
def FO(t:jD)(τ:ji)(L:qm)(Q:Bool->qm->Prop):Prop:=t τ L λc L1=>Q (!c) L1
def G'(ta tb:xw)(τ:ji)(L:qm)(Q:YK):Prop:=ta τ L λx L1=>match x with
 |.bl c=>aC c (tb τ L1 Q)<|Q (.bl false) L1
 |_=>False
def IM(ta:xw)(τ:ji)(L:qm)(Q:YK):Prop:=ta τ L λx L1=>match x with
 |.bl c=>Q (.bl<|!c) L1
 |_=>False
def F6(t:jD)(ta tb:xw)(τ:ji)(L:qm)(Q:YK):Prop:=t τ L λc L1=>aC c (ta τ L1 Q)<|tb τ L1 Q
def zn(_:ji)(L:qm)(Q:_x->qm->Prop):Prop:=Q [] L
def qh(ta:xw)(tr:fH)(τ:ji)(L:qm)(Q:_x->qm->Prop):Prop:=ta τ L λx L1=>tr τ L1 λxs L2=>Q (x::xs) L2
def ju(t:fH)(τ:ji)(L:qm)(Q:YK):Prop:=t τ L λys L1=>match Nat.ble ys.length 1000 with
 |true=>Q (.tup ys) L1
 |false=>False
def au(t:fH)(τ:ji)(L:qm)(Q:YK):Prop:=t τ L λys L1=>match Nat.ble ys.length 1000 with
 |true=>∀p,L1 p=none->Q (.ref p) (qj L1 p<|.lst ys)
 |false=>False
def mJ(r:_x->qm->YK->Prop)(t:fH)(τ:ji)(L:qm)(Q:YK):Prop:=t τ L λvs L1=>r vs L1 Q
abbrev FP:=ji->qm->(WX->qm->Prop)->Prop
def gQ(_:ji)(L:qm)(Q:WX->qm->Prop):Prop:=Q none L
def qX(t:xw)(τ:ji)(L:qm)(Q:WX->qm->Prop):Prop:=t τ L λx L1=>match x with
 |.int i=>Q (some i) L1
 |_=>False
def iy(xs:_x)(lo hi:WX):_x:=(xs.drop<|HT xs.length 0 lo).take<|HT xs.length xs.length hi-HT xs.length 0 lo
def IP(x:Y)(lo hi:WX)(L:qm)(Q:YK):Prop:=match x with
 |.ref a=>cM L a λys=>∀p,L p=none->Q (.ref p) (qj L p<|.lst<|iy ys lo hi)
 |.sq ys=>∀p,L p=none->Q (.ref p) (qj L p<|.lst<|iy ys lo hi)
 |_=>False
def EF(r:Y->WX->WX->qm->YK->Prop)(te:xw)(tl th:FP)(τ:ji)(L:qm)(Q:YK):Prop:=te τ L λx L1=>tl τ L1 λl L2=>th τ L2 λu L3=>r x l u L3 Q
def j8(t u:bD)(D:xb)(τ:ji)(L:qm):Prop:=t {D with nx:=u D} τ L
def cT(D:xb)(τ:ji)(L:qm):Prop:=D.nx τ L
def Ql(D:xb)(τ:ji)(L:qm):Prop:=D.ct τ L
def vv(te:xw)(D:xb)(τ:ji)(L:qm):Prop:=te τ L λ_ L1=>D.nx τ L1
def cL(te:xw)(D:xb)(τ:ji)(L:qm):Prop:=te τ L D.rt
def IQ(D:xb)(_:ji)(L:qm):Prop:=D.rt .GM L
def ww(c:jD)(t u:bD)(D:xb)(τ:ji)(L:qm):Prop:=c τ L λb L1=>aC b (t D τ L1)<|u D τ L1
def jt(te:xw)(g:kI)(D:xb)(τ:ji)(L:qm):Prop:=te τ L λx L1=>g x τ L1 D.nx
def bK:ji->Nat->Y->ji
 |[],_,_=>[]
 |_::r,0,y=>some y::r
 |o::r,i+1,y=>o::bK r i y
theorem wv:∀(τ:ji) (i:Nat) (y:Y),bK τ i y=τ.set i (some y)
 |[],_,_=>rfl
 |_::_,0,_=>rfl
 |o::r,i+1,y=>by rw[bK,wv r i y];rfl
def qo(i:Nat)(y:Y)(τ:ji)(L:qm)(Q:ji->qm->Prop):Prop:=Q (bK τ i y) L
def bL(ys:_x)(τ:ji)(L:qm)(Q:ji->qm->Prop):Prop:=match ys with
 |[]=>Q τ L
 |_=>False
def jb(t:kI)(u:uv)(ys:_x)(τ:ji)(L:qm)(Q:ji->qm->Prop):Prop:=match ys with
 |[]=>False
 |y::r=>t y τ L λI L'=>u r I L' Q
def cW(n:Nat)(t:uv)(y:Y)(τ:ji)(L:qm)(Q:ji->qm->Prop):Prop:=match y with
 |.tup ys=>match ys.length==n with
  |true=>t ys τ L Q
  |false=>False
 |_=>False
def IR(i j:Nat)(ta:fH)(D:xb)(τ:ji)(L:qm):Prop:=ta τ L λvs L1=>match vs with
 |[v,w]=>D.nx (bK (bK τ i v) j w) L1
 |_=>False
inductive gW{α:Type}(W:α->qm->Prop)(x:α)(L:qm):Prop
 |mk:∀L',qi L' L->W x L'->gW W x L
def IS{W:α->qm->Prop}{x:α}(h:W x L):gW W x L:={L,EV L,h}
inductive IT(c:jD)(tb:bD)(D:xb)(τ:ji)(L:qm):Prop
 |mk:∀W:Nat->ji->qm->Prop,(∃m,W m τ L)->(∀m τ L,W m τ L->
 c τ L λb L1=>aC b (∃N:ji->qm->Prop,(∀τ' L',N τ' L'->∃m',m'<m/\W m' τ' L')/\tb {D with nx:=gW N,ct:=gW N,bk:=D.nx} τ L1)<|D.nx τ L1)->IT c tb D τ L
inductive rY(ys:_x)(keep:qm->Prop)(g:kI)(tb:bD)(D:xb)(τ:ji)(L1:qm):Prop
 |mk:∀W:Nat->ji->qm->Prop,W 0 τ L1->(∀i τ L,W i τ L->keep L)->
 (∀i y τ L,ys[i]?=some y->W i τ L->g y τ L λτ2 L2=>tb {D with nx:=gW<|W<|i+1,ct:=gW<|W<|i+1,bk:=D.nx} τ2 L2)->(∀τ L,W ys.length τ L->D.nx τ L)->rY ys keep g tb D τ L1
def aV{keep:qm->Prop}{tb:bD}(h:rY ys keep g tb D τ L1):rY ys keep g tb D τ L1:=h
def Qm{keep:qm->Prop}{tb:bD}(h:rY ys keep g tb D τ L1):rY ys keep g tb D τ L1:=h
def u7(wi:q_)(g:kI)(tb:bD)(D:xb)(τ:ji)(L:qm):Prop:=wi τ L λys keep L1=>rY ys keep g tb D τ L1
@[irreducible] def uW (L:qm) (a:Addr) (R:_x->(qm->Prop)->qm->Prop):Prop:=match L a with
 |some (.lst ys)=>R ys (λL=>L a=some (.lst ys)) L
 |_=>False
def xg{a:Addr}{R:_x->(qm->Prop)->qm->Prop}(h:L a=some (.lst ys))(q:∀keep:qm->Prop,(∀L',L' a=L a->keep L')->R ys keep L):uW L a R:=by unfold uW;rw[h];exact q _ λL' I=>I.trans h
def ug{a:Addr}{R:_x->(qm->Prop)->qm->Prop}(h:uW L a R):∃ys keep,dJ L (.ref a)=some ys/\keep L/\(∀L',keep L'->dJ L' (.ref a)=some ys)/\R ys keep L:=by
 unfold uW at h;split at h
 .rename_i ys e;exact{ys,_,aO e,e,λL' I=>aO I,h}
 .exact h.elim
def dz(tl:xw)(τ:ji)(L:qm)(R:_x->(qm->Prop)->qm->Prop):Prop:=tl τ L λx L1=>match x with
 |.ref a=>uW L1 a R
 |.sq ys=>R ys (λ_=>True) L1
 |_=>False
def Qn(tl:xw)(τ:ji)(L:qm)(R:_x->(qm->Prop)->qm->Prop):Prop:=tl τ L λx L1=>match x with
 |.tup ys=>R ys (λ_=>True) L1
 |_=>False
def cD(lo:Int)(n:Nat):_x:=(List.range n).map λk=>.int<|lo+(k:Nat)
def fM(ta:fH)(τ:ji)(L:qm)(R:_x->(qm->Prop)->qm->Prop):Prop:=ta τ L λvs L1=>match vs with
 |[.int j]=>(-(2 ^ 62)<=j/\j<2 ^ 62)/\R (cD 0 j.toNat) (λ_=>True) L1
 |_=>False
def F7(_:ji)(L:qm)(Q:Bool->qm->Prop):Prop:=Q true L
inductive yr(ys:_x)(keep:qm->Prop)(n:Nat)(g:kI)(tc:jD)(te:xw)(τ:ji)(L1:qm)(Q:YK):Prop
 |mk:ys.length<sizeLine->∀W:Nat->_x->qm->Prop,W 0 [] L1->(∀i zs L,W i zs L->keep L)->
 (∀i y zs L,ys[i]?=some y->W i zs L->g y (τ++List.replicate n none) L λτ2 L2=>tc τ2 L2 λb L3=>aC b (te τ2 L3 λz L4=>gW (W<|i+1) (zs++[z]) L4)<|gW (W<|i+1) zs L3)->
 (∀zs L,W ys.length zs L->∀p,L p=none->Q (.ref p) (qj L p<|.lst zs))->yr ys keep n g tc te τ L1 Q
def IU{keep:qm->Prop}{Q:YK}(h:yr ys keep n g tc te τ L1 Q):yr ys keep n g tc te τ L1 Q:=h
def Qo{keep:qm->Prop}{Q:YK}(h:yr ys keep n g tc te τ L1 Q):yr ys keep n g tc te τ L1 Q:=h
def c_(n:Nat)(wi:q_)(g:kI)(tc:jD)(te:xw)(τ:ji)(L:qm)(Q:YK):Prop:=wi τ L λys keep L1=>yr ys keep n g tc te τ L1 Q
abbrev vt:=_x->qm->YK->Prop
def jq(sp:vt)(t:fH)(τ:ji)(L:qm)(Q:YK):Prop:=t τ L λys L1=>sp ys L1 Q
def x9(x:Y)(vs:_x)(L:qm)(Q:YK):Prop:=match x,vs with
 |.ref a,[v]=>cM L a λys=>ys.length<sizeLine/\Q .GM (qj L a<|.lst<|ys++[v])
 |_,_=>False
def mZ(x:Y)(vs:_x)(L:qm)(Q:YK):Prop:=match x,vs with
 |.ref a,[.ref b]=>cM L a λys=>cM L b λzs=>ys.length+zs.length<=sizeLine/\Q .GM (qj L a<|.lst<|ys++zs)
 |_,_=>False
def F8(x:Y)(vs:_x)(L:qm)(Q:YK):Prop:=match x,vs with
 |.ref a,[]=>cM L a λys=>wX L (λv L=>Q v<|qj L a<|.lst ys.dropLast)<|ys[ys.length-1]?
 |_,_=>False
def w6.imp{f:W0->W0->Sem W0}{r U:R2}(h:w6 X f r)(q:∀x y H Q,U x y H Q->r x y H Q):w6 X f U:=λJ s g H x y v u Q I j l z=>h J s g H x y v u Q I j l<|q x y H Q z
def w6.Xk{f:W0->W0->Sem W0}{r:R2}{u:pU}(h:w6 X f r)(q:∀x y H Q x3 I L J,RV G H x3 x->RV G H I y->zv G H L->u x3 I L J->tK G H J Q->r x y H Q):w6 X f (gS G u):=w6.imp h λx y H Q ψ=>(by obtain⟨x3,I,L,J,a,b,c,d,e⟩:=ψ;exact q x y H Q x3 I L J a b c d e)
abbrev FI:=@w6.Xk
def jh.imp{f:W0}{r U:W6->Hp->VK->Prop}(h:jh X f r)(q:∀x H Q,U x H Q->r x H Q):jh X f U:=λJ s g H x v Q I j z=>h J s g H x v Q I j<|q x H Q z
def jh.Xk{f:W0}{r:W6->Hp->VK->Prop}{u:_x->qm->YK->Prop}(h:jh X f r)(q:∀xs H Q ys L I,va G H ys xs->zv G H L->u ys L I->tK G H I Q->r xs H Q):jh X f (f_ G u):=jh.imp h λxs H Q ψ=>(by obtain⟨ys,L,I,a,b,c,d⟩:=ψ;exact q xs H Q ys L I a b c d)
abbrev FD:=@jh.Xk
def YF.imp{r U:R2}(h:YF X r)(q:∀x y H Q,U x y H Q->r x y H Q):YF X U:=λvalue slice J s g H x y v u Q I j l z=>h value slice J s g H x y v u Q I j l<|q x y H Q z
def iE.imp{id:W5}{r U:V->W6->Hp->VK->Prop}(h:iE X id r)(q:∀x xs H Q,U x xs H Q->r x xs H Q):iE X id U:=λJ s g H x xs v j Q I l o z=>h J s g H x xs v j Q I l o<|q x xs H Q z
def si(U:zv G H L)(r:RV G H y v)(h:dJ L y=some ys):∃p xs,v=.ref p/\(aY G.K H p xs\/dZ G.K H p xs)/\va G H ys xs:=by
 cases y with
 |tup J=>
  obtain⟨a,xs,e,s,q⟩:=r;cases h;exact{a,xs,e,.inr s,q}
 |sq J=>
  obtain⟨a,xs,e,s,q⟩:=r;cases h;exact{a,xs,e,.inl s.sq,q}
 |ref a=>
  cases (show v=.ref a from r);have I:(match L a with|some (.lst ys)=>some ys|_=>none)=some ys:=h;split at I
  .rename_i J e;cases I;obtain⟨xs,g,q⟩:=U a _ e;exact{a,xs,rfl,.inl<|FE g,q}
  .cases I
 |_=>cases h
def Qp{i:Int}(s:va G H ys xs)(h:fG ys i=some y):∃x,fG xs i=some x/\RV G H y x:=by
 unfold fG at h ⊢;rw[<-s.length];cases e:rg ys.length i with
 |none=>rw[e] at h;cases h
 |some j=>
  rw[e] at h;exact s.get (i:=j) h
section
variable {a b:Expr}{tc:xw}
abbrev QE(X:Cx)(e:Expr)(t:xw):Prop:=PE X e<|rj X.g3 t
abbrev QT(X:Cx)(e:Expr)(t:jD):Prop:=PT X e<|l_ X.g3 t
abbrev QW(X:Cx)(e:Expr)(t:jD):Prop:=PW X e<|l_ X.g3 t
abbrev QA(X:Cx)(es:WT)(t:fH):Prop:=PA X es<|IK X.g3 t
abbrev QS(X:Cx)(st:Stmt)(t:bD):Prop:=PS X st<|Fz X.g3 t
abbrev uD(X:Cx)(st:WU)(t:bD):Prop:=jA X st<|Fz X.g3 t
abbrev QG(X:Cx)(e:Expr)(g:kI):Prop:=PG X e<|FA X.g3 g
abbrev FQ(X:Cx)(es:WT)(g:uv):Prop:=YH X es<|Qf X.g3 g
abbrev QI(X:Cx)(tg it:Expr)(w:q_):Prop:=PI X tg it<|G8 X.g3 w
abbrev QF(X:Cx)(es:WT)(t:jD):Prop:=PF X es<|l_ X.g3 t
def QE.Zs(h:PE X e<|amp i):QE X e (qc i):=EY h λj H Q l L o I J z k=>by
 unfold qc at z;split at z
 .rename_i y U;obtain⟨v,ev,g⟩:=I.get i y<|rq _ _ U;exact{v,ev,k v H y L (EW _) J g z}
 .exact z.elim
def QE.YP(h:PE X e<|tC v)(q:∀H,RV X.g3 H y v):QE X e (yC y):=EY h λJ H Q U L g j I z k=>k v H y L (EW _) I (q H) z
def qv(i:Nat)(hN:X.N[i]?=some x:=by rfl)(J:A' X.env.scope x:=by first|exact Or.inl rfl|exact Or.inr (Or.inl rfl)|exact Or.inr<|Or.inr rfl)(hd:Fe x:=by decide)
 (I:Ff x:=by decide):QE X (.Name x pos) (qc i):=QE.Zs<|pv i hN J hd I
def og :QE X (.Constant .none j pos) (yC .GM):=QE.YP Nh λ_=>rfl
def cV{b:Bool} :QE X (.Constant (.bool b) j pos) (yC<|.bl b):=QE.YP Ng λ_=>rfl
def qd{i:Int} :QE X (.Constant (.int i) j pos) (yC<|.int i):=QE.YP Nf λ_=>rfl
def jd :QE X (.Constant (.str x) j pos) (yC<|.str x):=QE.YP df λ_=>rfl
def Qq{c:Addr}(I:Gl X x)(J:X.mg x=some (.ref c))(q:∀H,RV X.g3 H y<|.ref c)(hd:Fe x:=by decide):QE X (.Name x pos) (yC y):=QE.YP (IG I J hd) q
def yy{r:pU}(σ:St)(H:Hp)(Q:VK):rj G (zx r ta tb) σ H Q->Fs (gS G r) (rj G ta) (rj G tb) σ H Q:=λ ψ=>by
 obtain⟨j,L,t,l,C,z,k⟩:=ψ
 exact {j,L,_,l,C,z,λv H1 y T o I J z1=>{j,T,_,l.ts o,I,z1,λv2 H2 y2 L2 p U g z2=>{y,y2,L2,t,J.ts p,g,U,z2,k.ts<|o.trans p}}}
def ql{op:Operator}{r:pU}(h:w6 X (binaryOp op)<|gS X.g3 r)(I:QE X a ta)(J:QE X b tb):QE X (.BinOp a op b pos) (zx r ta tb):=E8 (N8 h I J) yy
def Qr{r:pU}(h:YF X<|gS X.g3 r)(I:QE X a ta)(J:QE X b tb)(U:rT b):QE X (.Subscript a b pos) (zx r ta tb):=E8 (OY h I J U) yy
def aH{op:CmpOp}{r:pU}(h:w6 X (compareOp op)<|gS X.g3 r)(I:QE X a ta)(J:QE X b tb)(U:behindInMarks op b=false):QE X (.Compare a [op] [b] pos) (zx r ta tb):=E8 (Oj h I J U) yy
def Ha{t:xw}(σ:St)(H:Hp)(Q:Bool->Hp->Prop):l_ G (yB t) σ H Q->GQ (rj G t) σ H Q:=λ ψ=>by
 obtain⟨g,L,C,j,l,z,k⟩:=ψ
 exact {g,L,_,j,l,z,λv o y p r I J U=>by cases y with|bl b=>exact{b,J,k b o p r I U}|_=>exact U.elim}
def IV{t:xw}(σ:St)(H:Hp)(Q:Bool->Hp->Prop):l_ G (yB t) σ H Q->tB (rj G t) σ H Q:=Ha σ H Q
def js{op:CmpOp}{r:pU}(h:w6 X (compareOp op)<|gS X.g3 r)(J:QE X a ta)(U:QE X b tb)(g:behindInMarks op b=false):QT X (.Compare a [op] [b] pos) (yB<|zx r ta tb):=
 PT.imp (Ol h J U g) λI H Q q=>by have j:=Ha I H Q q;obtain⟨l,L,o,p,t,z,k⟩:=j;exact yy I H _ {(l),L,o,p,t,z,k}
def km(h:QE X e te)(I:∀whole,isTrue e X.env whole=(do let v <-whole;standAt e.pos;holding [v] (truthy v)):=by intro _;rfl):QT X e (yB te):=PT.imp (Nk h I) IV
def F9{f:W0->W0->Sem W0}{C:Int->Int->Prop}{g:Int->Int->V}{g3:Int->Int->Y}(h:w6 X f<|rI C g)(e:∀i j H,RV X.g3 H (g3 i j)<|g i j):w6 X f (gS X.g3<|yI C g3):=FI h λx y H Q J I L p U l o z k=>by
 cases J with
 |int i=>
  cases I with|int j=>exact{i,j,U,l,z.1,k _ H _ L (EW _) o (e i j H) z.2}|_=>exact z.elim
 |_=>cases I<;>exact z.elim
def F_{f:W0->W0->Sem W0}{g:Int->Int->V}{g3:Int->Int->Y}(h:w6 X f<|p_ g)(e:∀i j H,RV X.g3 H (g3 i j)<|g i j):w6 X f (gS X.g3<|n_ g3):=FI h λx y H Q J I L p U l o z k=>by
 cases J with
 |int i=>
  cases I with|int j=>exact{i,j,U,l,k _ H _ L (EW _) o (e i j H) z}|_=>exact z.elim
 |_=>cases I<;>exact z.elim
def aB:w6 X (binaryOp .Sub) (gS X.g3<|n_ λi j=>.int<|i-j):=F_ N' λ_ _ _=>rfl
def vY:w6 X (binaryOp .Mult) (gS X.g3<|yI ZF λi j=>.int<|i*j):=F9 Oa λ_ _ _=>rfl
def kh:w6 X (binaryOp .FloorDiv) (gS X.g3<|yI GO λi j=>.int<|i / j):=F9 Oc λ_ _ _=>rfl
def zw:w6 X (binaryOp .Mod) (gS X.g3<|yI (λ_ j=>0<j) λi j=>.int<|i % j):=F9 Od λ_ _ _=>rfl
def IW:w6 X (binaryOp .Pow) (gS X.g3<|yI GP λi j=>.int<|i ^ j.toNat):=F9 Oe λ_ _ _=>rfl
def jQ:w6 X (compareOp .Lt) (gS X.g3<|n_ λi j=>.bl<|decide<|i<j):=F_ Og λ_ _ _=>rfl
def Hb:w6 X (compareOp .LtE) (gS X.g3<|n_ λi j=>.bl<|decide<|i<=j):=F_ Oh λ_ _ _=>rfl
def FR:w6 X (compareOp .Gt) (gS X.g3<|n_ λi j=>.bl<|decide<|j<i):=F_ Oi λ_ _ _=>rfl
def jf:w6 X (binaryOp .Add) (gS X.g3 ku):=FI Py λx y H Q t J L Q3 U g I z k=>by
 cases t with
 |int i=>
  cases J with|int j=>cases U;cases g;exact k _ H _ L (EW _) I (by rfl) z|_=>exact z.elim
 |str i=>
  cases J with|str j=>cases U;cases g;exact{z.1,k _ H _ L (EW _) I (by rfl) z.2}|_=>exact z.elim
 |ref a=>
  cases J with
  |ref b=>
   cases U;cases g;obtain⟨ys,zs,C,T,hz,q⟩:=z;obtain⟨xs,h1,o⟩:=I a _ C;obtain⟨us,h2,r⟩:=I b _ T;refine{xs,us,h1,h2,by rw[<-o.length,<-r.length];exact hz,λp l=>?_};exact k _ _ _ _ (EX l) (I.XX l<|o.app r) (by rfl)<|q p<|I.none l
  |_=>exact z.elim
 |_=>cases J<;>exact z.elim
def uJ{kvs:List<|Str×Str}{k:Str}(h:kvs.lookup k=some x):iA (kvs.map λp=>((Sum.inr p.1:jn),V.str p.2)) (Sum.inr k)=some (V.str x):=by
 induction kvs with
 |nil=>simp at h
 |cons p r I=>
  obtain⟨a,b⟩:=p;unfold iA;rw[AA,BR];rw[BH] at h;by_cases c:k=a
  .subst c;simp at h;simp[h]
  .have J:(k==a)=false:=by simpa using c
   rw[J] at h;have U:decide ((Sum.inr a:jn)=Sum.inr k)=false:=Aw λz=>c (Sum.inr.inj z).symm;simp only[U];exact I h
def qZ{kvs:List<|jn×Y}{xs:List<|jn×V}{k:jn}(p:Paired (λ(p:jn×Y) (q:jn×V)=>p.1=q.1/\RV G H p.2 q.2) kvs xs)(h:bA kvs k=some y):∃x,iA xs k=some x/\RV G H y x:=by
 induction p with
 |nil=>cases h
 |@cons a b _ _ r t U=>
  obtain⟨J,l⟩:=a;obtain⟨g,j⟩:=b;obtain⟨e,r⟩:=r;cases (show J=g from e);unfold bA at h;unfold iA;rw[BR] at h ⊢;by_cases c:J=k
  .have I:=AD c;simp only[I] at h ⊢;cases h;exact{(j),rfl,r}
  .have I:=Aw c;simp only[I] at h ⊢;exact U h
def Qs(K:Af)(P:W2)(w:W3)(hK:X.K=K:=by rfl)(hP:X.prog=P:=by rfl)(hw:X.w=w:=by rfl):YF X (gS ⟨K,P,w⟩ aK):=by
 subst hK hP hw;refine YF.imp Pz λx y H Q ψ=>?_;obtain⟨x3,j,L,Q3,I,l,o,z,k⟩:=ψ;have seq:∀{i:Int} {x3:Y},RV X.g3 H x3 x->y=.int i->(gl L x3 λg=>wX L Q3<|fG g i)->IE X.K X.prog X.w x y H Q:=by
  intro i x3 I ey z;subst ey;obtain⟨g,es,z⟩:=aD z;obtain⟨p,C,e,sq,rv⟩:=si o I es;subst e;cases ea:fG g i with
  |none=>rw[ea] at z;exact z.elim
  |some y=>
   rw[ea] at z;obtain⟨x,ex,T⟩:=Qp rv ea;exact{C,x,sq,ex,k _ H _ L (EW _) o T z}
 cases x3 with
 |str s=>
  cases j with
  |int i=>
   cases I;cases l;obtain⟨z1,r⟩:=z;cases ea:fG s.cps.toList i with
   |none=>rw[ea] at r;exact r.elim
   |some c=>rw[ea] at r;exact{z1,c,ea,k _ H _ L (EW _) o (by rfl) r}
  |_=>exact z.elim
 |cd J=>
  cases j with
  |str s=>
   obtain⟨a,ea,kd⟩:=I;cases ea;cases l;have U:wX L (λs L=>Q3 (.str s) L) (J.lookup s):=z;cases el:J.lookup s with
   |none=>rw[el] at U;exact U.elim
   |some t=>rw[el] at U;exact{_,_,.inr kd,uJ el,k _ H _ L (EW _) o (by rfl) U}
  |int i=>exact z.elim
  |_=>exact z.elim
 |ref a=>
  cases j with
  |int i=>exact seq (x3:=.ref a) I l z
  |str s=>
   cases I;cases l;obtain⟨J,e,U⟩:=oV z;obtain⟨C,e2,pr⟩:=o a _ e;cases ev:bA J (Sum.inr s) with
   |none=>rw[ev] at U;exact U.elim
   |some y=>
    rw[ev] at U;obtain⟨x,ex,I⟩:=qZ pr ev;exact{C,x,.inl<|.inl e2,ex,k _ H _ L (EW _) o I U}
  |_=>exact z.elim
 |tup g=>
  cases j with|int i=>exact seq (x3:=.tup g) I l z|_=>exact z.elim
 |sq g=>
  cases j with|int i=>exact seq (x3:=.sq g) I l z|_=>exact z.elim
 |_=>cases j<;>exact z.elim
def va.inv1(h:va G H [y] xs):∃x,xs=[x]/\RV G H y x:=by obtain⟨x,I,e,r,s⟩:=h;cases (show I=[] from s);exact{(x),e,r}
def va.inv2{J:Y}(h:va G H [y,J] xs):∃x I,xs=[x,I]/\RV G H y x/\RV G H J I:=by obtain⟨x,U,e,r,s⟩:=h;obtain⟨I,g,j⟩:=s.inv1;exact{x,I,by rw[e,g],r,j}
def Qt(K:Af)(P:W2)(w:W3)(g:X.K=K:=by rfl)(j:X.prog=P:=by rfl)(hw:X.w=w:=by rfl):jh X (.builtin "len") (f_ ⟨K,P,w⟩ ph):=by
 subst g j hw;refine FD PD λC H Q l L T U I z k=>?_;unfold ph at z;split at z
 .obtain⟨x,rfl,r⟩:=U.inv1;cases r;exact{z.1,k _ H _ L (EW _) I (by rfl) z.2}
 .rename_i y _;obtain⟨x,rfl,r⟩:=U.inv1;obtain⟨l,o,z⟩:=aD z;obtain⟨p,t,e,sq,J⟩:=si I r o;subst e;refine{t,sq,?_};rw[<-J.length];exact k _ H _ L (EW _) I (by rfl) z
 .exact z.elim
def Qu(i j:Int):(if j > i then j else i)=max i j:=by split<;>lia
def Qv(i j:Int):(if j<i then j else i)=min i j:=by split<;>lia
def Ga(hc:X.calm=true:=by rfl):jh X (.builtin "max") (f_ X.g3 Ez):=FD (Om hc) λl H Q o L p I J z k=>by
 unfold Ez at z;split at z
 .rename_i i j;obtain⟨x,r,rfl,U,g⟩:=I.inv2;cases U;cases g;refine{i,j,rfl,?_};rw[Qu];exact k _ H _ L (EW _) J (by rfl) z
 .exact z.elim
def Gb(hc:X.calm=true:=by rfl):jh X (.builtin "min") (f_ X.g3 FK):=FD (Oo hc) λl H Q o L p I J z k=>by
 unfold FK at z;split at z
 .rename_i i j;obtain⟨x,r,rfl,U,g⟩:=I.inv2;cases U;cases g;refine{i,j,rfl,?_};rw[Qv];exact k _ H _ L (EW _) J (by rfl) z
 .exact z.elim
end
section
variable {a b:Expr}{tc:xw}
def fI{a:Addr}(J:zv G H L)(h:dJ L (.ref a)=some ys):∃xs,aY G.K H a xs/\va G H ys xs:=by
 have I:(match L a with|some (.lst ys)=>some ys|_=>none)=some ys:=h;split at I
 .rename_i e;cases I;obtain⟨xs,U,q⟩:=J a _ e;exact{xs,FE U,q}
 .cases I
def jY(I:zv G H L)(r:RV G H y v)(J:y4 y=true)(h:dJ L y=some ys):∃a xs,v=.ref a/\aY G.K H a xs/\va G H ys xs:=by
 cases y with
 |ref a=>obtain⟨xs,s,q⟩:=fI I h;exact{(a),xs,r,s,q}
 |sq U=>obtain⟨a,xs,e,s,q⟩:=r;cases h;exact{(a),xs,e,s.sq,q}
 |_=>cases J
def Qw{G:G3}{T:lH}{σ:St}(I:qx X pins σ H s)(C:zv X.g3 H L)(r:RV X.g3 H y v)(J:zr v u)(h:r_ L y=some T)
 {c:W0} {b:Bool} (e:PySem.W.kitOne X.K (.type T.nm) c=some b) (U:∀tk,Q (.bool b) {s with toks:=tk}):
 wpAny (model X.prog X.w) A (call (.builtin "isinstance") [u,c]) Q E s:=by
 cases y with
 |GM=>cases h;cases r;exact bU I J .GM e U
 |bl b=>cases h;cases r;exact bU I J (.bl _) e U
 |int i=>cases h;cases r;exact bU I J (.int _) e U
 |str x=>cases h;cases r;exact bU I J (.str _) e U
 |tup ys=>
  cases h;obtain⟨a,j,rfl,sq,_⟩:=r;cases (show u=Value.ref a from J);obtain⟨l,_,⟨o,h1,h2,_⟩,_⟩:=I.tuple sq;exact Bx DP I.SL {(o),h1,h2} e (λz=>nomatch z) U
 |sq ys=>
  cases h;obtain⟨a,j,rfl,sq,_⟩:=r;cases (show u=Value.ref a from J);obtain⟨l,_,⟨o,n,h1,h2,_⟩,_⟩:=I.list sq.sq;exact Bx CT I.SL {(o),h1,h2} e (λz=>nomatch z) U
 |ref a=>
  cases (show v=.ref a from r);have g:(match L a with|some (.lst _)=>some lH.list|some (.XI _)=>some .dict|_=>none)=some T:=h;split at g
  .rename_i ys p;cases g;obtain⟨j,t,_⟩:=C a _ p;exact bU I J (.lst t) e U
  .rename_i a1 p;cases g;obtain⟨j,t,_⟩:=C a _ p;exact bU I J (.dK t) e U
  .cases g
 |_=>cases h
def sR(K:Af):∀T S:lH,PySem.W.kitOne K (.type T.nm) (.type S.nm)=some (dI T S):=by intro T S;cases T<;>cases S<;>rfl
def Qx(G:G3)(S:lH):W6->Hp->VK->Prop:=λxs H Q=>∃y v L I T,xs=[v,.ty S.nm]/\RV G H y v/\zv G H L/\r_ L y=some T/\I (.bl<|dI T S) L/\tK G H I Q
def Qy(S:lH):jh X (.builtin "isinstance") (Qx X.g3 S):=by rintro J s o H p t Q I r⟨y,v,L,C,T,rfl,g,U,ty,q,k⟩;obtain⟨u,c,rfl,j,l⟩:=zk.two r;cases (show c=Value.type S.nm from l);exact ja I.tk<|Qw (G:=X.g3) I U g j ty (sR _ T S) λtk ht=>{.bl _,H,I.tok _,rfl,k _ H _ L (EW _) U (by rfl) q}
def wz{I:Str}(S:lH)(t:Gl X "isinstance")(C:X.mg "isinstance"=none)(J:Gl X I)(U:X.mg I=none)(g:bootBuiltins I=some (.type S.nm))(ha:QE X a ta)
 (hn:I ≠ "__name__" := by decide) (hd:(I==("__debug__" : Str))=false:=by decide)
 (hs:starEach [a,.Name I p1] X.env=(false,eval a X.env)::starEach [.Name I p1] X.env:=by rfl) (j:starEach [.Name I p1] X.env=(false,eval (.Name I p1) X.env)::starEach [] X.env:=by rfl)
 (hp:(backTo pos<|starEach [.Name I p1] X.env).any (·.1)=false:=by rfl):
 QE X (.Call (.Name "isinstance" p) [a,.Name I p1] [] pos) (IL S ta):=by
 refine E8 (fZ (Qy S) t C ao (ko ha (ko (zE J U g hn hd) cq j) hs) (by decide) (by decide) hs hp) ?_;rintro σ H Q ⟨τ,L,Q3,rs,rl,z,k⟩;refine{τ,L,_,rs,rl,z,λv H1 y L1 t1 l o r=>?_};obtain⟨T,et,r⟩:=vH r;exact{y,v,L1,Q3,T,rfl,o,l,et,r,k.ts t1}
def wP(neg:Bool)(x y:Y)(L:qm)(Q:YK):Prop:=gl L y λys=>e9 x=true/\ys.all e9=true/\Q (.bl<|nb neg<|tN (eX x)<|ys.map eX) L
def IX(neg:Bool){op:CmpOp}(h:w6 X (compareOp op)<|GW X.K neg):w6 X (compareOp op) (gS X.g3<|wP neg):=FI h λx y H Q I t L C g j U z k=>by
 obtain⟨J,l,f1,f2,q⟩:=aD z;obtain⟨p,T,e,sq,o⟩:=si U j l;rw[g.flat f1];rw[o.flat f2] at sq;refine{p,_,e,sq,iU f1,?_,?_}
 .rw[List.all_map,Cm];intro y r;exact iU<|Cm.mp f2 y r
 .have:(if neg=true then !tN (eX I) (J.map eX) else tN (eX I) (J.map eX))=(nb neg<|tN (eX I)<|J.map eX):=by cases neg<;>simp[nb]
  rw[this];exact k _ H _ L (EW _) U (by rfl) q
def yc(K:Af)(P:W2)(w:W3)(I:X.K=K:=by rfl)(J:X.prog=P:=by rfl)(hw:X.w=w:=by rfl):w6 X (compareOp .In) (gS ⟨K,P,w⟩<|wP false):=by subst I J hw;exact IX false O'
def sC(K:Af)(P:W2)(w:W3)(I:X.K=K:=by rfl)(J:X.prog=P:=by rfl)(hw:X.w=w:=by rfl):w6 X (compareOp .NotIn) (gS ⟨K,P,w⟩<|wP true):=by subst I J hw;exact IX true rR
theorem jj.rep{G:G3}{H:Hp}{L:qm}(j:zv G H L):∀{n:Nat} {y:Y} {d:Da} {v:V},jj L n y d->RV G H y v->ag G.K H n v d
 |0,y,d,v,ψ,r=>by obtain⟨f,e⟩:=ψ;rw[r.flat f];exact{e,iU f}
 |n+1,y,d,v,h,r=>by
  have both:∀{U:_x} {J:List Da} {I:W6},Paired (jj L n) U J->va G H U I->Paired (ag G.K H n) I J:=by
   intro U J I p
   induction p generalizing I with
   |nil=>intro r;cases (show I=[] from r);exact .nil
   |cons q t l=>
    rintro⟨x,o,rfl,C,T⟩;exact .cons (jj.rep j q C)<|l T
  rcases h with⟨f,e⟩|⟨U,J,rfl,rfl,p⟩|⟨U,J,hy,rfl,es,p⟩
  .rw[r.flat f];exact .inl {e,iU f}
  .obtain⟨a,I,rfl,sq,g⟩:=r;exact .inr<|.inl {a,I,J,rfl,rfl,sq,both p g}
  .obtain⟨a,I,rfl,sq,g⟩:=jY j r hy es;exact .inr<|.inr {a,I,J,rfl,rfl,sq,both p g}
def zC(h:EC y=true)(r:RV G H y v):∃a,v=.ref a:=by
 cases y with
 |ref a=>exact{(a),r}
 |tup I=>obtain⟨a,J,e,_⟩:=r;exact{(a),e}
 |sq I=>obtain⟨a,J,e,_⟩:=r;exact{(a),e}
 |_=>cases h
def IY(neg:Bool)(K:Af)(P:W2)(w:W3)(g:X.A.units+128<cLine)(l:X.K=K)(o:X.prog=P)(hw:X.w=w):w6 X (compareOp<|F2 neg) (gS ⟨K,P,w⟩<|b_ neg):=by
 subst l o hw;refine FI (PJ neg g) λx y H Q T y3 L r J U I z k=>?_;have t:∀{p q:Prop} [Decidable p] [Decidable q],(p↔q)->Ft neg (decide p)=nb neg (decide q):=λh=>by rw[DB.mpr h];cases neg<;>rfl
 unfold b_ at z;split at z
 any_goals
  rename_i i j;cases J;cases U;refine{rfl,?_};rw[t (q:=i=j) (by simp)];exact k _ H _ L (EW _) I (by rfl) z
 obtain⟨f1,f2,n,m,d,e,C,h1,h2,q⟩:=z;obtain⟨a,rfl⟩:=zC f1 J;obtain⟨b,rfl⟩:=zC f2 U;have q:r (.bl<|Ft neg<|Da.eq d e) L:=by cases neg<;>exact q
 exact{n,m,d,e,C,h1.rep I J,h2.rep I U,k _ H _ L (EW _) I (by rfl) q}
def fU(K:Af)(P:W2)(w:W3)(I:X.A.units+128<cLine)(J:X.K=K:=by rfl)(U:X.prog=P:=by rfl)(hw:X.w=w:=by rfl):w6 X (compareOp .Eq) (gS ⟨K,P,w⟩<|b_ false):=IY false K P w I J U hw
def Qz(K:Af)(P:W2)(w:W3)(I:X.A.units+128<cLine)(J:X.K=K:=by rfl)(U:X.prog=P:=by rfl)(hw:X.w=w:=by rfl):w6 X (compareOp .NotEq) (gS ⟨K,P,w⟩<|b_ true):=IY true K P w I J U hw
def RV.Yk(r:RV G H y v):decide (v=.GM)=(match y with|.GM=>true|_=>false):=by
 cases y with
 |GM=>cases r;rfl
 |cd I=>obtain⟨a,rfl,_⟩:=r;rfl
 |tup J=>obtain⟨a,U,rfl,_⟩:=r;rfl
 |sq J=>obtain⟨a,U,rfl,_⟩:=r;rfl
 |_=>cases r;rfl
def IZ(σ:St)(H:Hp)(Q:VK):rj G (iB false ta) σ H Q->HV (rj G ta) σ H Q:=λ ψ=>by
 obtain⟨U,L,t,g,j,z,k⟩:=ψ
 exact {U,L,_,g,j,z,λv l y o p I J r=>by dsimp only;rw[J.Yk];cases y<;>exact k _ l _ o p I (by rfl) r}
def yd(σ:St)(H:Hp)(Q:VK):rj G (iB true ta) σ H Q->HW (rj G ta) σ H Q:=λ ψ=>by
 obtain⟨U,L,t,g,j,z,k⟩:=ψ
 exact {U,L,_,g,j,z,λv l y o p I J r=>by dsimp only;rw[J.Yk];cases y<;>exact k _ l _ o p I (by rfl) r}
def QC(h:QE X a ta):QE X (.Compare a [.Is] [.Constant .none j fy] pos) (iB false ta):=E8 (HY<|HX h) IZ
def mW(h:QE X a ta):QE X (.Compare a [.IsNot] [.Constant .none j fy] pos) (iB true ta):=E8 (HY<|zH h) yd
def I0{t:TE}(h:∀σ H Q,rj G te σ H Q->t σ H Q)(σ:St)(H:Hp)(Q:Bool->Hp->Prop):l_ G (yB te) σ H Q->tB t σ H Q:=λq=>h σ H _<|IV σ H Q q
def gp(h:QE X a ta):QT X (.Compare a [.Is] [.Constant .none j fy] pos) (yB<|iB false ta):=PT.imp (HZ<|HX h)<|I0 IZ
def m8(h:QE X a ta):QT X (.Compare a [.IsNot] [.Constant .none j fy] pos) (yB<|iB true ta):=PT.imp (HZ<|zH h)<|I0 yd
end
section
variable {a b:Expr}{rest:WT}{tc:xw}{tB:jD}{tr:fH}
def jx(h:QT X a tA):QW X (.BoolOp .And [a] pos) tA:=No h
def bX(h:QT X a tA):QW X (.BoolOp .Or [a] pos) tA:=Np h
def vf(h:QT X a tA)(k:QW X (.BoolOp .And (b::rest) pos) tB):QW X (.BoolOp .And (a::b::rest) pos) (fE tA tB):=PW.Xk (Nq h k) λt H Q U L o g p z k=>
 ⟨U,L,_,g,p,z,λc r j J I l=>by cases c with|true=>rw[AC rfl];exact{U,j,o,g.ts J,I,l,k.ts J}|false=>rw[AB AH];exact k _ r j J I l⟩
def fJ(h:QT X a tA)(k:QW X (.BoolOp .Or (b::rest) pos) tB):QW X (.BoolOp .Or (a::b::rest) pos) (ED tA tB):=PW.Xk (Nr h k) λt H Q U L o g p z k=>
 ⟨U,L,_,g,p,z,λc r j J I l=>by cases c with|true=>rw[AC rfl];exact k _ r j J I l|false=>rw[AB AH];exact{U,j,o,g.ts J,I,l,k.ts J}⟩
def xo(h:QW X a tA):QT X a tA:=PW.pt h
def gw(h:QT X a tA):QT X (.UnaryOp .Not a pos) (FO tA):=PT.Xk (Nt h) λr H Q J L t U g z k=>
 ⟨J,L,_,U,g,z,λc j l o I p=>k _ j l o I p⟩
def bG{op:BoolOp}(h:QE X a ta):QE X (.BoolOp op [a] pos) ta:=Nw h
def wm(h:QE X a ta)(k:QE X (.BoolOp .And (b::rest) pos) tb):QE X (.BoolOp .And (a::b::rest) pos) (G' ta tb):=EY (Nx h k) λT H Q g L r j t z k=>
 ⟨g,L,_,j,t,z,λv C y l J I U o=>by
  cases y with
  |bl c=>
   refine{c,U,?_};have p:=o;cases c with|true=>rw[AC rfl];exact{g,l,r,j.ts J,I,p,k.ts J}|false=>rw[AB AH];exact k _ C _ l J I (by rfl) p
  |_=>exact o.elim⟩
def QD(h:QE X a ta):QE X (.UnaryOp .Not a pos) (IM ta):=EY (Ny h) λt H Q g L C j l z k=>
 ⟨g,L,_,j,l,z,λv o y p r I J U=>by cases y with|bl c=>exact{c,J,k _ o _ p r I (by rfl) U}|_=>exact U.elim⟩
def fO(h:QT X c tA)(p:QE X a ta)(r:QE X b tb):QE X (.IfExp c a b pos) (F6 tA ta tb):=EY (NA h p r) λC H Q U L j g t z k=>
 ⟨U,L,_,g,t,z,λc T l J I o=>by cases c with|true=>rw[AC rfl];exact{U,l,j,g.ts J,I,o,k.ts J}|false=>rw[AB AH];exact{U,l,j,g.ts J,I,o,k.ts J}⟩
def xn:QA X [] zn:=PA.Xk cq λJ H Q U L g j I z k=>k _ H _ L (EW _) I (by rfl) z
def jr(h:QE X e te)(t:QA X es tr)(hs:Fb e es X:=by rfl):QA X (e::es) (qh te tr):=PA.Xk (ko h t hs) λσ H Q j L Q3 l C z k=>
 ⟨j,L,_,l,C,z,λv H1 y T o I J z1=>{j,T,_,l.ts o,I,z1,λp H2 ys L2 r U g z2=>k (v::p) H2 (y::ys) L2 (o.trans r) U {v,p,rfl,J.ts r,g} z2}⟩
def qr(h:QA X es tr):QE X (.Tuple es x1 pos) (ju tr):=EY (xG h) λσ H Q l L Q3 o r z k=>
 ⟨l,L,_,o,r,z,λt H1 j C T U I J=>by
  cases e:Nat.ble j.length 1000 with
  |false=>rw[e] at J;exact J.elim
  |true=>
   rw[e] at J;have:=Cs e;refine{cZ (by rw[<-I.length];exact this),λp g=>?_};exact k _ _ (.tup j) C (T.trans<|EX g) (U.skip g) {p,t,rfl,dZ.of zu,I.ts<|EX g} J⟩
def zj(h:QA X es tr):QE X (.List es pos) (au tr):=EY (Ox h) λC H Q j L T l o z k=>
 ⟨j,L,_,l,o,z,λvs H1 r L1 t I J U=>by
  cases e:Nat.ble r.length 1000 with
  |false=>rw[e] at U;exact U.elim
  |true=>
   rw[e] at U;have:=Cs e;refine{cZ (by rw[<-J.length];exact this),λp g=>?_};exact k _ _ _ _ (t.trans<|EX g) (I.XX g J) (by rfl)<|U p<|I.none g⟩
def j5{id:W5}{r:_x->qm->YK->Prop}(hc:jh X (.builtin id)<|f_ X.g3 r)(U:Gl X x)(g:X.mg x=none)(j:bootBuiltins x=some (.builtin id))(h:QA X (e::es) tr)
 (l:x ≠ "__name__" := by decide) (hd:Fe x:=by decide) (hs:Fb e es X:=by rfl) (o:Fc pos es X:=by rfl):
 QE X (.Call (.Name x p) (e::es) [] pos) (mJ r tr):=EY (fZ hc U g j h l hd hs o) λσ H Q t L C T rl z k=>
 ⟨t,L,_,T,rl,z,λvs H1 ys L1 t1 I J z1=>{ys,L1,C,J,I,z1,k.ts t1}⟩
def I9(G:G3)(t:FP):TO:=λσ H Q=>∃τ L I,xr G H σ τ/\zv G H L/\t τ L I/\∀(o:WX) H' L',j7 H H'->zv G H' L'->I o L'->Q o H'
abbrev QO(X:Cx)(e:Option Expr)(t:FP):Prop:=PO X e<|I9 X.g3 t
def PO.imp{e:Option Expr}{t u:TO}(h:PO X e t)(q:∀σ H Q,u σ H Q->t σ H Q):PO X e u:=λJ s σ H Q I z=>h J s σ H Q I<|q σ H Q z
def PO.Xk{e:Option Expr}{t:TO}{u:FP}(h:PO X e t)(q:∀σ H Q τ L I,xr G H σ τ->zv G H L->u τ L I->(∀(o:WX) H' L',j7 H H'->zv G H' L'->I o L'->Q o H')->t σ H Q):PO X e (I9 G u):=PO.imp h λσ H Q ψ=>(by obtain⟨τ,L,I,a,b,c,d⟩:=ψ;exact q σ H Q τ L I a b c d)
def tM.imp{U:V->WX->WX->Hp->VK->Prop}(h:tM X r)(q:∀x lo hi H Q,U x lo hi H Q->r x lo hi H Q):tM X U:=by intro J s g H x v j l lo hi o Q I p t C T z;exact h J s g H x v j l lo hi o Q I p t C T<|q _ _ _ _ _ z
def gN:QO X none gQ:=PO.Xk OQ λJ H Q U L g j I z k=>k _ H L (EW _) I z
def cO(h:QE X e te):QO X (some e) (qX te):=PO.Xk (OR h) λt H Q g L C j l z k=>
 ⟨g,L,_,j,l,z,λv o y p r I J U=>by cases y with|int i=>exact{i,J,k _ o p r I U}|_=>exact U.elim⟩
def Gc(G:G3)(r:Y->WX->WX->qm->YK->Prop):V->WX->WX->Hp->VK->Prop:=λx lo hi H Q=>∃y L I,RV G H y x/\zv G H L/\r y lo hi L I/\tK G H I Q
def bu{lo hi:Option Expr}{tl th:FP}{r:Y->WX->WX->qm->YK->Prop}(h:tM X<|Gc X.g3 r)(T:QE X a ta)(hl:QO X lo tl)(hh:QO X hi th):QE X (.Subscript a (.Slice lo hi none p2) pos) (EF r ta tl th):=
 EY (OT h T hl hh) λσ H Q I L Q3 J rl z k=>
 ⟨I,L,_,J,rl,z,λv H1 y L1 U g j z1=>{I,L1,_,J.ts U,g,z1,λo H2 L2 l p z2=>{I,L2,_,J.ts<|U.trans l,p,z2,λo' H3 L3 C t z3=>{y,L3,Q3,j.ts<|l.trans C,t,z3,k.ts<|U.trans<|l.trans C}}}⟩
def sS(r:va G H ys xs)(lo hi:WX):va G H (iy ys lo hi) (tT xs lo hi):=by unfold iy tT;rw[r.length];exact(r.drop _).take _
def QH(K:Af)(P:W2)(w:W3)(l:X.K=K:=by rfl)(o:X.prog=P:=by rfl)(hw:X.w=w:=by rfl):tM X (Gc ⟨K,P,w⟩ IP):=by
 subst l o hw;refine tM.imp O_ λx lo g H Q ψ=>?_;obtain⟨y,L,Q3,j,J,z,k⟩:=ψ;cases y with
 |ref a=>
  obtain⟨t,C,T⟩:=xa z;obtain⟨U,sq,r⟩:=fI J<|aO C;exact{a,U,j,sq,λp I=>k _ _ _ _ (EX I) (J.XX I<|sS r lo g) (by rfl)<|T p<|J.none I}
 |sq t=>
  obtain⟨a,U,e,sf,r⟩:=j;exact{a,U,e,sf.sq,λp I=>k _ _ _ _ (EX I) (J.XX I<|sS r lo g) (by rfl)<|z p<|J.none I}
 |_=>exact z.elim
end
section
variable {a b iter:Expr}{tc:xw}{tB:jD}{tr:fH}{rest r4:WU}{t u:bD}
def zg:uD X [] cT:=jA.Xk NE λD U H g L j I J z k=>k.nx _ H _ L (EW _) I J z
def qe(h:QS X st t):uD X [st] t:=H0 h
def qb(h:QS X st t)(k:uD X rest u):uD X (st::rest) (j8 t u):=jA.Xk (u8 h k) λD σ H j L I l o z k=>
 ⟨j,L,{I with nx:=u I},l,o,z,λp H1 J r C U g T=>{J,r,I,U,g,T,k.ts C},k.rt,k.bk,k.ct⟩
def uU:QS X (.Continue pos) Ql:=E4 u9 λD U H g L j I J z k=>k.ct _ H _ L (EW _) I J z
def qz(h:QE X e te)(hs:swapsWith e none pos.line X.env=pure false:=by rfl):QS X (.Expr e pos) (vv te):=E4 (yz h hs) λD t H g L C J j z k=>
 ⟨g,L,_,J,j,z,λv l y o U I p r=>k.nx _ l _ o U (J.ts U) I r⟩
def qu(h:QE X e te):QS X (.Return (some e) pos) (cL te):=E4 (NI h) λD g H I L j J U z k=>{I,L,_,J,U,z,k.rt}
def y0:QS X (.Return none pos) IQ:=E4 NK λD J H U L g j I z k=>k.rt _ H _ L (EW _) I (by rfl) z
def zo(h:QT X c tA)(p:uD X body t)(r:uD X r4 u):QS X (.If c body r4 pos) (ww tA t u):=E4 (NM h p r) λD T H U L j g C z k=>
 ⟨U,L,_,g,C,z,λc H1 l J I o=>by cases c with|true=>rw[AC rfl];exact{U,l,j,g.ts J,I,o,k.ts J}|false=>rw[AB AH];exact{U,l,j,g.ts J,I,o,k.ts J}⟩
def aj(hN:X.N.Nodup)(I:X.N[i]?=some x)(r:Loc X.env.scope x)(h:QE X e te)(J:swapsWith e (some<|.Name x fy) pos.line X.env=pure false:=by rfl)
 (U:X.fn x=true\/X.env.scope.names.lookup x=some .local:=by first|exact .inl rfl|exact .inr rfl|assumption):QS X (.Assign [.Name x fy] e pos) (jt te<|qo i):=E4 (NO hN I r h J U) λD σ H l L D3 o t z k=>
 ⟨l,L,_,o,t,z,λv C y T p g j z1=>k.nx _ C _ T p (show xr _ _ _ (bK l i y) by rw[wv];exact(o.ts p).set j) g z1⟩
def a8(h:QE X e te)(o:QG X tg g)(h1:swapsWithSole [tg] e pos.line X.env=pure false:=by rfl)(h2:swappedStores [tg] e X.env=pure none:=by rfl)
 (h3:(assignEach [tg] X.env).map (·.2)=[assign tg X.env]:=by rfl):QS X (.Assign [tg] e pos) (jt te g):=E4 (Ib h o h1 h2 h3) λD C H U L T j p z k=>
 ⟨U,L,_,j,p,z,λv H1 y r l I J t=>{y,U,r,_,J,j.ts l,I,t,k.nx.ts l}⟩
def PG.imp{t u:TG}(h:PG X e t)(q:∀v σ H Q,u v σ H Q->t v σ H Q):PG X e u:=λJ s σ H x v Q I r z=>h J s σ H x v Q I r<|q _ _ _ _ z
def YH.imp{e:WT}{t u:g_}(h:YH X e t)(q:∀v σ H Q,u v σ H Q->t v σ H Q):YH X e u:=λJ s σ H x v Q I r z=>h J s σ H x v Q I r<|q _ _ _ _ z
def bP(hN:X.N.Nodup)(I:X.N[i]?=some x)(U:Loc X.env.scope x)(J:X.fn x=true\/X.env.scope.names.lookup x=some .local:=by first|exact .inl rfl|exact .inr rfl|assumption):QG X (.Name x pos) (qo i):=
 PG.imp (mV hN I U J) λv p H Q ψ=>(by obtain⟨y,g,L,r,j,l,o,z,k⟩:=ψ;exact k _ H _ L (EW _) (show xr _ _ _ (bK g i y) by rw[wv];exact l.set j) o z)
def v5:FQ X [] bL:=YH.imp zO λj l H Q ψ=>by obtain⟨I,o,L,p,J,U,g,z,k⟩:=ψ;cases I with|nil=>exact{J,k _ H _ L (EW _) U g z}|cons y r=>exact z.elim
def qw(h:QG X e g)(hs:FQ X es gs)(l:(assignEach (e::es) X.env).map (·.2)=assign e X.env::(assignEach es X.env).map (·.2):=by rfl):FQ X (e::es) (jb g gs):=
 YH.imp (pC h hs l) λvs σ H Q ψ=>by
 obtain⟨o,p,L,t,C,T,rl,z,k⟩:=ψ
 cases o with
 |nil=>exact z.elim
 |cons y r=>
  obtain⟨x,xs,rfl,r1,r2⟩:=C;exact{x,xs,rfl,y,p,L,_,r1,T,rl,z,λa1 H1 I L1 j J U z1=>{r,I,L1,t,r2.ts j,J,U,z1,k.ts j}}
def kz{j:Nat}(hc:X.calm=true)(h:FQ X es gs)(h1:(assignEach es X.env).length=n:=by rfl)(h2:(assignEach es X.env).findIdx? (·.1)=none:=by rfl):QG X (.Tuple es j pos) (cW n gs):=
 PG.imp (H_ hc h h1 h2) λv C H Q ψ=>by
 obtain⟨y,U,L,g,l,o,p,z,k⟩:=ψ
 cases y with
 |tup I=>
  obtain⟨a,t,rfl,sq,r⟩:=l;have J:(match I.length==n with|true=>gs I U L g|false=>False):=z;split at J
  .rename_i e;exact{a,t,rfl,sq,by rw[<-r.length];exact beq_iff_eq.mp e,I,U,L,g,r,o,p,J,k}
  .exact J.elim
 |_=>exact z.elim
def Ja{y:Str}{px pt:Pos}{k2:Nat}{I:Pos}(hc:X.calm=true)(hN:X.N.Nodup)(hi:X.N[i]?=some x)(t:X.N[j]?=some y)(J:i≠j)(C:X.env.scope.names.lookup x=some .local)(T:X.env.scope.names.lookup y=some .local)
 (h:QA X [a,b] tr) (h1:swappedStores [.Tuple [.Name x px,.Name y py] kt pt] (.Tuple [a,b] k2 I) X.env=pure (some [x,y])) (h2:swapsWithSole [.Tuple [.Name x px,.Name y py] kt pt] (.Tuple [a,b] k2 I) pos.line X.env=pure false:=by rfl):
 QS X (.Assign [.Tuple [.Name x px,.Name y py] kt pt] (.Tuple [a,b] k2 I) pos) (IR i j tr):=E4 (NQ hc hN hi t J C T h h1 h2) λD σ H o L D3 p rl z k=>
 ⟨o,L,_,p,rl,z,λvs H1 ys L1 r U g l=>by
  split at l
  .rename_i v w;obtain⟨x',y',rfl,r1,r2⟩:=g.inv2;exact{x',y',rfl,k.nx _ H1 _ L1 r (show xr _ _ _ (bK (bK o i v) j w) by rw[wv,wv];exact((p.ts r).set r1).set r2) U l}
  .exact l.elim⟩
def oK(hp:PassesOwn (model X.prog X.w) X.A X.env X.xe)(h:QT X c tA)(hb:uD X body t):QS X (.While c body [] pos) (IT tA t):=PS.imp (NS hp h hb) λD σ H ψ=>by
 obtain⟨τ,L,D3,rs,rl,⟨W,⟨m0,w0⟩,turn⟩,k⟩:=ψ
 refine{λm r H1=>∃J C,j7 H H1/\xr X.g3 H1 r J/\zv X.g3 H1 C/\W m J C,{m0,τ,L,EW _,rs,rl,w0},?_};rintro m r H1 ⟨J,C,t1,l,a2,w1⟩;refine{J,C,_,l,a2,turn m J C w1,λb H2 L2 T a1 z2=>?_};cases b with
 |false=>rw[AB AH];exact k.nx _ H2 _ L2 (t1.trans T) (l.ts T) a1 z2
 |true=>
  rw[AC rfl];obtain⟨N,hN,z2⟩:=z2;refine{λU g=>∃I j,j7 H g/\xr X.g3 g U I/\zv X.g3 g j/\N I j,?_,?_}
  .rintro U g ⟨I,j,t',o,p,n'⟩;obtain⟨m',hm,w'⟩:=hN I j n';exact{(m'),hm,I,j,t',o,p,w'}
  .have nx:pX X.g3 H2 (gW N) (λU g=>∃I j,j7 H g/\xr X.g3 g U I/\zv X.g3 g j/\N I j):=λU g I j t' o p ψ=>(by obtain⟨L5,s5,n'⟩:=ψ;exact {I,L5,(t1.trans T).trans t',o,p.sub s5,n'});have k2:=k.ts<|t1.trans T;exact{J,L2,_,l.ts T,a1,z2,nx,k2.rt,k2.nx,nx}
def aU{wi:q_}(hp:PassesOwn (model X.prog X.w) X.A X.env X.xe)(hc:X.calm=true)(hi:QI X tg iter wi)(hg:QG X tg g)(hb:uD X body t)(hs:∀x,foldedSetIterable iter X.env x=pure x:=by intro _;rfl):
 QS X (.For tg iter body [] pos) (u7 wi g t):=E4 (N7 hp hc hi hg hb hs) λD σ H τ L D3 rs rl z k=>by
 refine{τ,L,_,rs,rl,z,λJ H1 ys keep L1 t1 a3 yl zz=>?_};obtain⟨W,w0,wk,turn,vd⟩:=Qm zz;refine{λi m U j=>∃I o,i+m=ys.length/\j7 H1 j/\xr X.g3 j U I/\zv X.g3 j o/\W i I o,{ys.length,τ,L1,by omega,EW _,rs.ts t1,a3,w0},?_};rintro i m aL H2 ⟨l,L2,ba,T,a1,p,w2⟩;by_cases a2:i<ys.length
 .refine .inr {yl.go i H2 L2 T p (wk i l L2 w2) a2,λU j=>∃I o,j7 H1 j/\xr X.g3 j U I/\zv X.g3 j o/\W (i+1) I o,?_,?_}
  .rintro U j ⟨I,o,t',r,C,w'⟩;exact{m-1,by omega,I,o,by omega,t',r,C,w'}
  .intro x H3 y3;have ey:=Ag a2;obtain⟨t3,a4,a5⟩:=yl.Yu i H2 L2 x H3 _ T p (wk i l L2 w2) ey y3;refine{ys[i],l,L2,_,a5,a1.ts t3,a4,turn i _ l L2 ey w2,λbb H4 ac L4 t4 al ay z4=>?_};have nx:pX X.g3 H4 (gW<|W<|i+1) (λU j=>∃I o,j7 H1 j/\xr X.g3 j U I/\zv X.g3 j o/\W (i+1) I o):=λU j I o t' r C ψ=>(by obtain⟨L5,s5,n'⟩:=ψ;exact {I,L5,((T.trans t3).trans t4).trans t',r,C.sub s5,n'});have k2:=k.ts<|t1.trans<|(T.trans t3).trans t4;exact{ac,L4,_,al,ay,z4,nx,k2.rt,k2.nx,nx}
 .have e:i=ys.length:=by omega
  subst e;exact .inl {yl.stop H2 L2 T p<|wk _ l L2 w2,k.nx _ H2 _ L2 (t1.trans T) a1 p<|vd l L2 w2}
def PI.imp{t u:TI}(h:PI X tg e t)(q:∀σ H Q,u σ H Q->t σ H Q):PI X tg e u:=λJ s σ H Q I z=>h J s σ H Q I<|q σ H Q z
def PI.Xk{t:TI}{u:q_}(h:PI X tg e t)(q:∀σ H R τ L I,xr G H σ τ->zv G H L->u τ L I->(∀J H' ys keep L',j7 H H'->zv G H' L'->hZ G H' J ys keep->I ys keep L'->R J H')->t σ H R):PI X tg e (G8 G u):=PI.imp h λσ H R ψ=>(by obtain⟨τ,L,I,a,b,c,d⟩:=ψ;exact q σ H R τ L I a b c d)
def lZ{a:Addr}{keep:qm->Prop}(h:∀H L,j7 H₀ H->zv G H L->keep L->∃xs,aY G.K H a xs/\va G H ys xs):hZ G H₀ (GJ G.K a) ys keep where
 go:=λi H L t I J U=>by
  obtain⟨xs,sq,r⟩:=h H L t I J;have:i<xs.length:=by rw[<-r.length];exact U
  exact{xs,xs[i],sq,Ag this}
 Yu:=λi H L x o y t I J g ψ=>by obtain⟨e,f⟩:=ψ;subst e;obtain⟨xs,sq,r⟩:=h _ L t I J;obtain⟨p,j,l⟩:=r.get g;have:=f xs sq;rw[j] at this;cases this;exact{EW _,I,l}
 stop:=λH L t I J=>by obtain⟨xs,sq,r⟩:=h H L t I J;exact{xs,sq,by rw[r.length];exact Am _}
def xx(h:QE X e te):QI X tg e (dz te):=PI.Xk (NW h) λσ H R τ L R3 rs l z k=>by
 refine{τ,L,_,rs,l,z,λv g y o C I U p=>?_};cases y with
 |ref a=>
  obtain⟨j,keep,es,kp,hk,z2⟩:=ug p;have T:∀H L,j7 g H->zv X.g3 H L->keep L->∃J,aY X.K H a J/\va X.g3 H j J:=λH L _ l e=>fI l<|hk L e;obtain⟨J,sq,_⟩:=T g o (EW _) I kp;exact{a,U,{(J),sq},k _ g j _ o C I (lZ T) z2}
 |sq j=>
  obtain⟨a,J,e,sf,r⟩:=U;exact{a,e,{(J),sf.sq},k _ g j (λ_=>True) o C I (lZ λH L t _ _=>{J,(sf.ts t).sq,r.ts t}) p}
 |_=>exact p.elim
def uG(lo:Int)(n:Nat):hZ G H₀ (Fq lo n) (cD lo n) (λ_=>True) where
 go:=λi H L t J g j=>show i<n by simpa[cD] using j
 Yu:=λi H L x l y t J g U ψ=>by
  obtain⟨e,f⟩:=ψ
  subst e f;refine{EW _,J,?_};unfold cD at U;rw[Al] at U;obtain⟨z,I,e⟩:=Aq.mp U;have:=List.getElem?_range (i:=i) (n:=n) (by
   by_cases c:i<n
   .exact c
   .rw[CS (by simp;omega)] at I;cases I)
  rw[this] at I;cases I;subst e;rfl
 stop:=λH L t J g=>by simp[cD,Fq]
def ky(g:Gl X "range")(l:X.mg "range"=none)(h:QA X [a] tr)(hs:starEach [a] X.env=[(false,eval a X.env)]:=by rfl):QI X tg (.Call (.Name "range" p) [a] [] pos) (fM tr):=
 PI.Xk (N0 g l h hs) λσ H R o L R3 t C z k=>by
 refine{o,L,_,t,C,z,λvs T ys L1 t1 J U I=>?_};split at I
 .rename_i j;obtain⟨x,rfl,r⟩:=U.inv1;cases r;exact{j,rfl,I.1.1,I.1.2,k _ T _ _ L1 t1 J (uG 0 _) I.2}
 .exact I.elim
end
section
variable {T:WS}{iter:Expr}{wi:q_}{tr:fH}
def eQ:QF X [] F7:=PF.imp PM λJ H Q ψ=>(by obtain⟨U,L,g,j,I,z,k⟩:=ψ;exact k _ H L (EW _) I z)
def bJ(h:QT X c tA):QF X [c] tA:=PN h
def Jb{g2:TG}(a1:∀v σ H Q,FA G g v σ H Q->g2 v σ H Q)(σ:St)(H:Hp)(Q:VK):rj G (c_ n wi g tA te) σ H Q->G2 n (G8 G wi) g2 (l_ G tA) (rj G te) σ H Q:=λ ψ=>by
 obtain⟨τ,L,Q3,rs,rl,z,k⟩:=ψ
 refine{τ,L,_,rs,rl,z,λJ H1 o keep L1 t1 a2 yl zz=>?_};obtain⟨hz,W,w0,wk,turn,vd⟩:=Qo zz;refine{λi m vs H'=>∃I L',i+m=o.length/\I.length<=i/\j7 H1 H'/\va G H' I vs/\zv G H' L'/\W i I L',{o.length,[],L1,by exact Nat.add_comm _ _,Am _,EW _,rfl,a2,w0},?_};rintro i m vs H2 ⟨I,L2,ay,aL,l,U,j,p⟩;by_cases r:i<o.length
 .refine .inr {yl.go i H2 L2 l j (wk i I L2 p) r,by rw[<-U.length];lia,?_};intro x H3 y3;have ey:=Ag r;obtain⟨t3,a3,a4⟩:=yl.Yu i H2 L2 x H3 _ l j (wk i I L2 p) ey y3;refine a1 _ _ _ _ {o[i],_,L2,_,a4,(rs.ts<|(t1.trans l).trans t3).more n,a3,turn i _ I L2 ey p,λba H4 t L4 t4 C a5 z4=>?_};refine{t,L4,_,C,a5,z4,λb H5 L5 t5 T z5=>?_};cases b with
  |true=>
   rw[AC rfl];refine{t,L5,_,C.ts t5,T,z5,λv6 H6 y6 L6 t6 ac al ψ=>?_};obtain⟨L7,s7,z6⟩:=ψ;have tt:=((t3.trans t4).trans t5).trans t6;exact{m-1,by omega,I++[y6],L7,by lia,by rw[Ad,B6];exact D_,l.trans tt,(U.ts tt).app<|va.one al,ac.sub s7,z6}
  |false=>
   rw[AB AH];have tt:=(t3.trans t4).trans t5;obtain⟨L7,s7,z6⟩:=z5;exact{m-1,by lia,I,L7,by lia,by exact Iy,l.trans tt,U.ts tt,T.sub s7,z6}
 .have ei:i=o.length:=by lia
  subst ei;refine .inl {yl.stop H2 L2 l j<|wk _ I L2 p,by rw[<-U.length];lia,λD hD=>?_};exact k _ _ _ _ ((t1.trans l).trans<|EX hD) (j.XX hD U) (by rfl)<|vd I L2 p D<|j.none hD
structure EG(X:Cx)(scope:Scope)(T:WS)(target:Expr)(g:kI):Prop where
 ex:∃g2:TG,(∀C fp s₀ H₀,PG (X.comp scope T C fp s₀ H₀) target g2)/\qK g2 X.N.length T.length/\∀v σ H Q,FA X.g3 g v σ H Q->g2 v σ H Q
def QJ(i:Nat)(v:V)(σ:St)(H:Hp)(Q:St->Hp->Prop):FA G (qo i) v σ H Q->fe i v σ H Q:=λ ψ=>by
 obtain⟨y,I,L,j,J,U,g,z,k⟩:=ψ
 exact k _ H _ L (EW _) (show xr _ _ _ (bK I i y) by rw[wv];exact U.set J) g z
def dW(hN:(X.N++[x]).Nodup)(J:∀C fp s₀ H₀,Loc (X.comp scope [x] C fp s₀ H₀).env.scope x)(I:∀C fp s₀ H₀,(X.comp scope [x] C fp s₀ H₀).env.scope.names.lookup x=some .local):EG X scope [x] (.Name x p) (qo X.N.length):=
 ⟨fe X.N.length,λC fp s₀ H₀=>mV (X:=X.comp scope [x] C fp s₀ H₀) hN (by show(X.N++[x])[X.N.length]?=some x;simp) (J C fp s₀ H₀)<|.inr<|I C fp s₀ H₀,xS _,QJ _⟩
def QK{K:Af}(n:Nat):qK (GF K 2<|vF (fe n)<|vF (fe<|n+1) GD) n 2:=by
 rintro o I x H Q ⟨a,J,e,sq,len,v,r,U,w,g,j,l,q⟩;refine{a,J,e,sq,len,v,r,U,w,g,j,l,{by simp[I],λi u ei=>?_},q};have p:i<n:=by
  by_cases c:i<n
  .exact c
  .rw[AF (by lia),CD] at ei;split at ei<;>cases ei
 rw[AY (by lia),AY (by exact Iz)];exact ei
def QL(i j:Nat)(v:V)(σ:St)(H:Hp)(Q:St->Hp->Prop):FA G (cW 2<|jb (qo i)<|jb (qo j) bL) v σ H Q->GF G.K 2 (vF (fe i)<|vF (fe j) GD) v σ H Q:=λ ψ=>by
 obtain⟨y,U,L,g,o,p,t,z,k⟩:=ψ
 cases y with
 |tup I=>
  obtain⟨a,xs,rfl,sq,r⟩:=o;have J:(match I.length==2 with|true=>jb (qo i) (jb (qo j) bL) I U L g|false=>False):=z;split at J
  .rename_i e;have C:=beq_iff_eq.mp e
   match I,C with
   |[T,y2],_=>
    obtain⟨x1,l,rfl,r1,r2⟩:=r.inv2;have z2:g (bK (bK U i T) j y2) L:=J;exact{a,_,rfl,sq,rfl,x1,[l],rfl,l,[],rfl,rfl,k _ H _ L (EW _) (by rw[wv,wv];exact(p.set r1).set r2) t z2}
  .exact J.elim
 |_=>exact z.elim
def sh{y:Str}{I pt:Pos}(hc:X.calm=true)(hN:(X.N++[x,y]).Nodup)(U:∀C fp s₀ H₀,(X.comp scope [x,y] C fp s₀ H₀).env.scope.names.lookup x=some .local)(J:∀C fp s₀ H₀,(X.comp scope [x,y] C fp s₀ H₀).env.scope.names.lookup y=some .local)
 (h1:∀env,(assignEach [.Name x p,.Name y I] env).length=2:=by intro _;rfl) (h2:∀env,(assignEach [.Name x p,.Name y I] env).findIdx? (·.1)=none:=by intro _;rfl)
 (h3:∀env,(assignEach [.Name x p,.Name y I] env).map (·.2)=assign (.Name x p) env::(assignEach [.Name y I] env).map (·.2):=by intro _;rfl) (g:∀env,(assignEach [.Name y I] env).map (·.2)=assign (.Name y I) env::(assignEach [] env).map (·.2):=by intro _;rfl):
 EG X scope [x,y] (.Tuple [.Name x p,.Name y I] kt pt) (cW 2<|jb (qo X.N.length)<|jb (qo<|X.N.length+1) bL):=
 ⟨_,λC fp s₀ H₀=>H_ (X:=X.comp scope [x,y] C fp s₀ H₀) hc (pC (mV hN (by show(X.N++[x,y])[X.N.length]?=some x;simp) (.inl<|U C fp s₀ H₀)<|.inr<|U C fp s₀ H₀) (pC (mV hN (by show(X.N++[x,y])[X.N.length+1]?=some y;simp) (.inl<|J C fp s₀ H₀)<|.inr<|J C fp s₀ H₀) zO<|g _)<|h3 _) (h1 _)<|h2 _,QK _,QL _ _⟩
def fB(T:WS)(S:jl X scope)(hc:X.calm=true)(hi:QI X target iter wi)(I:EG X scope T target g)
 (J:∀C fp s₀ H₀,QF (X.comp scope T C fp s₀ H₀) nC tA) (U:∀C fp s₀ H₀,QE (X.comp scope T C fp s₀ H₀) pj te)
 (hs:∀x,foldedSetIterable iter X.env x=pure x:=by intro _;rfl):QE X (.ListComp pj [{target,iter,nC,0}] scope pos) (c_ T.length wi g tA te):=by
 obtain⟨g2,h1,h2,h3⟩:=I.ex;exact E8 (PQ T S hc hi h1 h2 J U hs)<|Jb h3
def aT(T:WS){px o:Pos}(hN:X.N.Nodup)(I:X.N[i]?=some x)(hx:Loc X.env.scope x)(S:jl X scope)(hc:X.calm=true)(hi:QI X target iter wi)
 (hg:EG X scope T target g) (hf:∀C fp s₀ H₀,QF (X.comp scope T C fp s₀ H₀) nC tA) (he:∀C fp s₀ H₀,QE (X.comp scope T C fp s₀ H₀) pj te)
 (J:swapsWith (.ListComp pj [{target,iter,nC,0}] scope o) (some<|.Name x px) pos.line X.env=pure true:=by rfl)
 (U:X.fn x=true\/X.env.scope.names.lookup x=some .local:=by first|exact .inl rfl|exact .inr rfl|assumption)
 (hs:∀x,foldedSetIterable iter X.env x=pure x:=by intro _;rfl):QS X (.Assign [.Name x px] (.ListComp pj [{target,iter,nC,0}] scope o) pos) (jt (c_ T.length wi g tA te)<|qo i):=by
 obtain⟨g2,h1,h2,h3⟩:=hg.ex;refine PS.imp (PR (tc:=l_ X.g3 tA) (te:=rj X.g3 te) T hN I hx S hc hi h1 h2 hf he J U hs) λD σ H ψ=>?_;obtain⟨p,L,D3,r,rl,z,k⟩:=ψ;refine Jb h3 σ H _ {p,L,_,r,rl,z,λv H1 y L1 t j l z1=>?_};exact k.nx _ H1 _ L1 t (show xr _ _ _ (bK p i y) by rw[wv];exact(r.ts t).set l) j z1
def dn(G:G3)(sp:vt):Sp:=λvs H Q _=>∃ys L I,va G H ys vs/\zv G H L/\sp ys L I/\tK G H I Q
abbrev Hc(P:W2)(w:W3)(K:Af)(mg:WM)(base:W4)(k:Nat)(x:Str)(ps:WS)(sp:vt):Prop:=Yz P w K mg base k x ps<|dn {(K),P,w} sp
abbrev Zg(P:W2)(w:W3)(K:Af)(mg:WM)(base:W4)(k:Nat)(f:Addr)(fd:FuncData)(ps:WS)(sp:vt):Prop:=bV P w K mg base Yr k f fd ps<|dn {(K),P,w} sp
def QM{k:Nat}{sp:vt}(c:Hc X.prog X.w X.K X.mg X.base k x ps sp)(j:aR k X.A)(l:Gl X x)(o:QA X (e::es) tr)(I:Fe x:=by decide)
 (r:Fb e es X:=by rfl) (J:Fc pos es X:=by rfl):QE X (.Call (.Name x p) (e::es) [] pos) (jq sp tr):=
 EY (PK c j l o I r J) λσ H Q t L C T rl z k=>
 ⟨t,L,_,T,rl,z,λvs H1 ys L1 t1 U g z1=>{ys,L1,C,by rw[AI];exact g,U,z1,k.ts t1}⟩
def a6(Q:YK):YK:=λy L=>∃L2,qi L2 L/\Q y L2
def ft(N:WS)(ys:_x):ji:=ys.map some++List.replicate (N.length-ys.length) none
def jV{N:WS}{vs:W6}(r:va G H ys vs):xr G H (start N vs) (ft N ys):=by unfold start ft;rw[<-r.length];refine xr.more {by simp[r.length],λi y e=>?_} _;rw[Al] at e;obtain⟨g,I,J⟩:=Aq.mp e;cases J;obtain⟨x,ex,U⟩:=r.get I;exact{x,by rw[Al,ex];rfl,U}
def QN{P:W2}{w:W3}{K:Af}{N:WS}{k:Nat}{sp:vt}(F:Y0 K x eK st f fd)(S:aX N ps<|qy st)(len:∀ys L Q,sp ys L Q->ys.length=ps.length)
 (I:∀(eW:W0) (A:Around) (outer:List Env) (s:W1) (H:Hp) (E:XK),aR k (A.deeper<|PyProof.Rows.envOfC eK (qy st) s.heap.objs.size f eW)->
  ∃t,uD (fN Yr P w K mg base N eK (qy st) f eW A outer s H E).Y4 (x8 st) t/\∀ys L Q,sp ys L Q->t {nx:=λ_ L'=>a6 Q .GM L',rt:=a6 Q} (ft N ys) L):Zg P w K mg base (k+1) f fd ps sp:=by
 refine F.ok S (λT H Q E ψ=>by obtain⟨ys,L,U,g,C,z,_⟩:=ψ;rw[<-g.length];exact len ys L U z) λeW A outer s H T Q E hr ψ=>?_;obtain⟨ys,L,U,g,C,z,k⟩:=ψ;obtain⟨t,ht,q⟩:=I eW A outer s H E hr;refine{_,ht,ft N ys,L,_,jV g,C,q ys L U z,?_};refine{λσ j τ L' l a1 J ψ=>(by obtain⟨L2,o,p⟩:=ψ;exact k .GM j .GM L2 l (J.sub o) (by rfl) p),λv j y L' l J r ψ=>(by obtain⟨L2,o,p⟩:=ψ;exact k v j y L2 l (J.sub o) r p),λ_ _ _ _ _ _ _ z=>z.elim,λ_ _ _ _ _ _ _ z=>z.elim}
def i_(G:G3)(r:Y->_x->qm->YK->Prop):V->W6->Hp->VK->Prop:=λx xs H Q=>∃y ys L I,RV G H y x/\va G H ys xs/\zv G H L/\r y ys L I/\tK G H I Q
def iE.Xk{id:W5}{r:V->W6->Hp->VK->Prop}{u:Y->_x->qm->YK->Prop}(h:iE X id r)(q:∀x xs H Q y ys L I,RV G H y x->va G H ys xs->zv G H L->u y ys L I->tK G H I Q->r x xs H Q):iE X id (i_ G u):=iE.imp h λx xs H Q ψ=>(by obtain⟨y,ys,L,I,a,b,c,d,e⟩:=ψ;exact q x xs H Q y ys L I a b c d e)
def QP:iE X "list.append" (i_ X.g3 x9):=iE.Xk Pg λx p H Q y t L C U g J z k=>by
 unfold x9 at z;split at z
 .rename_i a v;obtain⟨T,e,z⟩:=xa z;obtain⟨j,I,r⟩:=J a _ e;obtain⟨l,rfl,o⟩:=g.inv1;exact{a,j,l,U,rfl,I,by rw[<-r.length];exact z.1,k _ _ _ _ (E7 I) (J.X4 I<|r.app<|va.one o) (by rfl) z.2}
 .exact z.elim
def QQ:iE X "list.extend" (i_ X.g3 mZ):=iE.Xk Pj λx T H Q y ys L Q3 g j I z k=>by
 unfold mZ at z;split at z
 .rename_i a b;obtain⟨zs,e,z⟩:=xa z;obtain⟨us,l,z⟩:=xa z;obtain⟨o,J,r⟩:=I a _ e;obtain⟨p,t,U⟩:=I b _ l;obtain⟨v',rfl,C⟩:=j.inv1;cases C;exact{a,b,o,p,g,rfl,J,t,by rw[<-r.length,<-U.length];exact z.1,k _ _ _ _ (E7 J) (I.X4 J<|r.app U) (by rfl) z.2}
 .exact z.elim
def QR:iE X "list.pop" (i_ X.g3 F8):=iE.Xk Pl λx l H Q y T L Q3 o p U z k=>by
 unfold F8 at z;split at z
 .rename_i a;obtain⟨g,e,z⟩:=xa z;obtain⟨t,I,r⟩:=U a _ e;cases (show l=[] from p);cases J:g[g.length-1]? with
  |none=>rw[J] at z;exact z.elim
  |some v=>
   rw[J] at z;obtain⟨u,j,C⟩:=r.get J;rw[r.length] at j;exact{a,t,u,o,rfl,I,j,k _ _ _ _ (E7 I) (U.X4 I r.dropLast) (C.ts<|E7 I) z}
 .exact z.elim
def yi{a:Addr}(I:zv G H L)(h:dJ L (.ref a)=some ys):F5 G.K "list" (.ref a) H:=by obtain⟨J,sq,_⟩:=fI I h;exact .inl {(rfl),J,sq}
def iC(r:Y->_x->qm->YK->Prop)(to:xw)(t:fH)(τ:ji)(L:qm)(Q:YK):Prop:=to τ L λx L1=>match x with
 |.ref a=>gl L1 (.ref a) λ_=>t τ L1 λxs L2=>r (.ref a) xs L2 Q
 |_=>False
structure s_(X:Cx)(o e:Expr)(es:WT)(name:Str)(apos fm:Pos):Prop where
 h4:attributeBase o name X.env (eval o X.env)=eval o X.env
 h5:((backTo fm<|starEach (e::es) X.env).all (λx=>!x.1)&&(backToKw fm<|keywordEach [] X.env).all (λx=>x.1.isSome)&&decide ((e::es).length+([]:List Keyword).length+(if ([]:List Keyword).isEmpty=true then 0 else 1)<30))=true
 h6:(apos.endLine==fm.line)=true
 h7:Fb e es X
 h8:Fc fm es X
def oW{id:W5}{r:Y->_x->qm->YK->Prop}(h2:Slot "list" name id)(h3:typeOf (.builtin id)=pure (.type "method_descriptor"))(hm:iE X id<|i_ X.g3 r)(ho:QE X o to)(ha:QA X (e::es) tr)
 (I:s_ X o e es name apos fm:=by exact{(rfl),rfl,rfl,rfl,rfl}):
 QE X (.Call (.Attribute o name apos) (e::es) [] fm) (iC r to tr):=EY (Ix PySem.F.plainAttrs_list h2 h3 hm ho ha I.h4 I.h5 I.h6 I.h7 I.h8) λσ H Q p L Q3 t rl z k=>
 ⟨p,L,_,t,rl,z,λv H1 y L1 C J U g=>by
  split at g
  .rename_i a;obtain⟨T,es,g⟩:=aD g;exact{by cases U;exact yi J es,p,L1,_,t.ts C,J,g,λvs H2 T L2 t2 j l z2=>{.ref a,T,L2,Q3,U.ts t2,l,j,z2,k.ts<|C.trans t2}}
  .exact g.elim⟩
def QU{id:W5}{r:Y->_x->qm->YK->Prop}(h2:Slot "list" name id)(h3:typeOf (.builtin id)=pure (.type "method_descriptor"))(g:iE X id<|i_ X.g3 r)(j:QE X o to)
 (l:attributeBase o name X.env (eval o X.env)=eval o X.env:=by rfl) (p:(apos.endLine==fm.line)=true:=by rfl):
 QE X (.Call (.Attribute o name apos) [] [] fm) (iC r to zn):=EY (Pd PySem.F.plainAttrs_list h2 h3 g j l p) λσ H Q t L C T rl z k=>
 ⟨t,L,_,T,rl,z,λv H1 y L1 t1 I J U=>by
  split at U
  .rename_i a;obtain⟨ys,es,U⟩:=aD U;exact{by cases J;exact yi I es,.ref a,[],L1,C,J,rfl,I,U,k.ts t1}
  .exact U.elim⟩
def ze(I:QE X o to)(J:QA X (e::es) tr)(U:s_ X o e es "append" apos fm:=by exact{(rfl),rfl,rfl,rfl,rfl}):
 QE X (.Call (.Attribute o "append" apos) (e::es) [] fm) (iC x9 to tr):=oW PySem.F.slot_list_append PySem.F.type_list_append QP I J U
def bR(I:QE X o to)(J:QA X (e::es) tr)(U:s_ X o e es "extend" apos fm:=by exact{(rfl),rfl,rfl,rfl,rfl}):
 QE X (.Call (.Attribute o "extend" apos) (e::es) [] fm) (iC mZ to tr):=oW PySem.F.slot_list_extend PySem.F.type_list_extend QQ I J U
def Jc(I:QE X o to)(J:attributeBase o "pop" X.env (eval o X.env)=eval o X.env:=by rfl)(U:(apos.endLine==fm.line)=true:=by rfl):
 QE X (.Call (.Attribute o "pop" apos) [] [] fm) (iC F8 to zn):=QU PySem.F.slot_list_pop PySem.F.type_list_pop QR I J U
end
abbrev cf:pU:=n_ λi j=>.int<|i-j
abbrev _t:pU:=yI ZF λi j=>.int<|i*j
abbrev ym:pU:=yI GO λi j=>.int<|i / j
abbrev ai:pU:=yI (λ_ j=>0<j) λi j=>.int<|i % j
abbrev Jd:pU:=yI GP λi j=>.int<|i ^ j.toNat
abbrev Gd:pU:=n_ λi j=>.bl<|decide<|i<j
abbrev _u:pU:=n_ λi j=>.bl<|decide<|i<=j
abbrev Je:pU:=n_ λi j=>.bl<|decide<|j<i
structure Hd(G:G3)(mg:WM)(x:Str)(y:Y):Prop where
 ex:∃c,mg x=some (.ref c)/\∀H,RV G H y<|.ref c
def Jf(t:Hd X.g3 X.mg x y)(I:Gl X x)(hd:Fe x:=by decide):QE X (.Name x pos) (yC y):=by obtain⟨c,J,q⟩:=t.ex;exact Qq I J q hd
def Jg(kvs:List<|Str×Str):LO:=.XI<|kvs.map λp=>(Sum.inr p.1,Y.str p.2)
def QV(kvs:List<|Str×Str)(_:ji)(L:qm)(Q:YK):Prop:=∀p,L p=none->Q (.ref p) (qj L p<|Jg kvs)
def y_(kvs:List<|Str×Str):List (jn×V):=kvs.map λp=>(Sum.inr p.1,V.str p.2)
theorem wE{σ:St}{H:Hp}{Q:List (V×V)->Hp->Prop}:∀{kvs:List<|Str×Str},Q (kvs.map λp=>(V.str p.1,V.str p.2)) H->sm (kvs.map λp=>(tC<|.str p.1,tC<|.str p.2)) σ H Q
 |[],h=>h
 |_::r,h=>wE (kvs:=r) h
theorem yq{G:G3}{H:Hp}:∀kvs:List (Str×Str),Paired (λ(p:jn×Y) (q:jn×V)=>p.1=q.1/\RV G H p.2 q.2) (kvs.map λp=>(Sum.inr p.1,Y.str p.2))<|y_ kvs
 |[]=>.nil
 |_::r=>.cons {(rfl),rfl}<|yq r
def QX{keys:List<|Option Expr}{values:WT}(kvs:List<|Str×Str)(h:Fu X pos keys values<|kvs.map λp=>(tC<|.str p.1,tC<|.str p.2))(h1:(keys.all λx=>x.isSome)=true)(h2:keys.length=values.length)(h3:keys≠[])(U:keys.length<=15)
 (g:kvs.length<=15:=by decide) (nd:kB [] (y_ kvs)=y_ kvs:=by decide +kernel):QE X (.Dict keys values pos) (QV kvs):=EY (ON h h1 h2 h3 U) λj H Q l L o r J z k=>by
 intro p I;refine wE {zu,y_ kvs,by simp[y_,kV],by simpa[y_] using g,?_};rw[nd,M7];refine k _ _ _ (qj L p<|Jg kvs) (EX I) ?_ (by rfl)<|z p<|J.none I;intro a u e;by_cases c:a=p
 .subst c;rw[q9] at e;cases e;exact{y_ kvs,zu,yq kvs}
 .rw[qf c] at e;exact(J a u e).keep (EX I) (qp c)
def jH{Q:α->qm->Prop}{o:Option α}(h:wX L Q o):∃v,o=some v/\Q v L:=by cases o with|none=>exact h.elim|some v=>exact{(v),rfl,h}
def lG{kvs:List<|Str×Str}{k:Str}(h:kvs.lookup k=some x):bA (kvs.map λp=>((Sum.inr p.1:jn),Y.str p.2)) (Sum.inr k)=some (Y.str x):=by
 induction kvs with
 |nil=>simp at h
 |cons p r I=>
  obtain⟨a,b⟩:=p;unfold bA;rw[AA,BR];rw[BH] at h;by_cases c:k=a
  .subst c;simp at h;simp[h]
  .have J:(k==a)=false:=by simpa using c
   rw[J] at h;have U:decide ((Sum.inr a:jn)=Sum.inr k)=false:=Aw λz=>c (Sum.inr.inj z).symm;simp only[U];exact I h
def zL(h:(cD lo n)[i]?=some y):i<n/\y=.int (lo+i):=by
 unfold cD at h;rw[Al] at h;obtain⟨z,I,e⟩:=Aq.mp h;have J:i<n:=by
  by_cases c:i<n
  .exact c
  .rw[CS (by simp;exact Fx)] at I;cases I
 rw[List.getElem?_range J] at I;cases I;exact{(J),e.symm}
def oQ(lo:Int)(n:Nat):(cD lo n).length=n:=by simp[cD]
def sk{tb:bD}(W:Nat->ji->qm->Prop)(h0:W 0 τ L)
 (hs:∀i τ L,i<n->W i τ L->g (.int<|lo+i) τ L λI L2=>tb {D with nx:=gW<|W<|i+1,ct:=gW<|W<|i+1,bk:=D.nx} I L2) (hd:∀τ L,W n τ L->D.nx τ L):rY (cD lo n) (λ_=>True) g tb D τ L:=by
 refine aV {W,h0,λ_ _ _ _=>trivial,λi y τ L e w=>?_,λτ L w=>hd τ L (by rw[oQ] at w;exact w)};obtain⟨J,rfl⟩:=zL e;exact hs i τ L J w
def Jh{a:Addr}{v:Y}{Q:YK}(e:L a=some (.lst<|ys++[v]))(q:Q v<|qj L a<|.lst ys):gl L (.ref a) (λ_=>zn τ L λxs L2=>F8 (.ref a) xs L2 Q):=by
 refine qa e<|qk e ?_;have:(ys++[v])[(ys++[v]).length-1]?=some v:=by simp
 rw[this,List.dropLast_concat];exact q
def yu{tb:bD}{a:Addr}(h:dJ L (.ref a)=some ys)(W:Nat->ji->qm->Prop)(h0:W 0 τ L)(J:∀i τ L',W i τ L'->L' a=L a)
 (hs:∀i y τ L,ys[i]?=some y->W i τ L->g y τ L λI L2=>tb {D with nx:=gW<|W<|i+1,ct:=gW<|W<|i+1,bk:=D.nx} I L2) (hd:∀τ L,W ys.length τ L->D.nx τ L):
 uW L a λys keep L1=>rY ys keep g tb D τ L1:=xg (kE h) λkeep U=>aV {W,h0,λi τ L' w=>U L'<|J i τ L' w,hs,hd}
def bx{keep:qm->Prop}{Q:YK}(I:Nat->_x->Prop)(hz:ys.length<sizeLine)(j:keep L)(h0:I 0 [])
 (turn:∀(i:Nat) y zs,ys[i]?=some y->I i zs->g y (τ++List.replicate n none) L λJ L2=>tc J L2 λb L3=>aC b (te J L3 λz l=>gW (λzs L'=>L'=L/\I (i+1) zs) (zs++[z]) l)<|gW (λzs L'=>L'=L/\I (i+1) zs) zs L3)
 (o:∀zs,I ys.length zs->∀p,L p=none->Q (.ref p) (qj L p<|.lst zs)):yr ys keep n g tc te τ L Q:=by
 refine IU {hz,λi zs L'=>L'=L/\I i zs,{(rfl),h0},?_,?_,?_}
 .rintro i zs L' ⟨rfl,_⟩;exact j
 .rintro i y zs L' r ⟨rfl,U⟩;exact turn i y zs r U
 .rintro zs L' ⟨rfl,U⟩ p t;exact o zs U p t
def hU{m:Nat}{Q:YK}(I:Nat->_x->Prop)(hz:m<sizeLine)(h0:I 0 [])
 (turn:∀(i:Nat) zs,i<m->I i zs->g (.int<|lo+i) (τ++List.replicate n none) L λJ L2=>tc J L2 λb L3=>aC b (te J L3 λz j=>gW (λzs L'=>L'=L/\I (i+1) zs) (zs++[z]) j)<|gW (λzs L'=>L'=L/\I (i+1) zs) zs L3)
 (l:∀zs,I m zs->∀p,L p=none->Q (.ref p) (qj L p<|.lst zs)):yr (cD lo m) (λ_=>True) n g tc te τ L Q:=by
 refine bx (keep:=λ_=>True) I (by rw[oQ];exact hz) trivial h0 (λi y zs e U=>?_) λzs U=>l zs (by rw[oQ] at U;exact U);obtain⟨o,rfl⟩:=zL e;exact turn i zs o U
def Ji(ys:_x)(n:Nat):iy ys none (some ((n:Nat):Int))=ys.take n:=by
 unfold iy;rw[XA,X0,DR,Nat.sub_zero];by_cases h:n<=ys.length
 .rw[B3 h]
 .rw[C3 (by lia),A4<|Am _,A4 (by lia)]
def jw{I:List α}{f:α->Y}{w:α}(h:I[i]?=some w):fG (I.map f) (i:Int)=some (f w):=xi (by rw[Al,h];rfl)
def QY{keep:qm->Prop}{Q:YK}(f:Y->Xb)(hz:ys.length<sizeLine)(j:keep L)
 (turn:∀(i:Nat) y (W:_x->qm->Prop) zs,ys[i]?=some y->W (zs++(f y).toList) L->g y (τ++List.replicate n none) L λI L2=>tc I L2 λb L3=>aC b (te I L3 λz l=>gW W (zs++[z]) l)<|gW W zs L3)
 (o:∀p,L p=none->Q (.ref p) (qj L p<|.lst<|ys.filterMap f)):yr ys keep n g tc te τ L Q:=by
 refine IU {hz,λi zs J=>J=L/\zs=(ys.take i).filterMap f,{rfl,by simp},?_,?_,?_}
 .rintro i zs J ⟨rfl,_⟩;exact j
 .rintro i y zs J U ⟨rfl,rfl⟩;refine turn i y _ _ U {rfl,?_};rw[Bi,U,List.filterMap_append];congr 1
 .rintro zs J ⟨rfl,rfl⟩ p r;rw[Bg];exact o p r
def xq(t:bD)(n:Nat)(ys:_x)(L:qm)(Q:YK):Prop:=t {nx:=λ_ L'=>a6 Q .GM L',rt:=a6 Q} (ys.map some++List.replicate (n-ys.length) none) L
abbrev _f(sp:_x->qm->YK->Prop)(t:bD)(n:Nat):Prop:=∀ys L Q,sp ys L Q->xq t n ys L Q
def vd{Q:YK}(h:Q y L):a6 Q y L:={L,EV L,h}
def dX{Q:YK}(s:qi L L')(h:Q y L):a6 Q y L':={(L),s,h}
theorem Zg.never{P:W2}{w:W3}{K:Af}{k:Nat}{sp:vt}(no:∀ys L Q,¬sp ys L Q):Zg P w K mg base k f fd ps sp:=
 bV.never λJ H Q E ψ=>(by obtain⟨ys,L,I,_,_,z,_⟩:=ψ;exact no ys L I z)
def qi.upd{a:Addr}{o:LO}(s:qi L L')(h:L a=none):qi L (qj L' a o):=λb u e=>by rw[qf<|w9 e h];exact s b u e
def qi.put{a:Addr}{o:LO}(s:qi L L')(h:L' a=some o):qi (qj L a o) L':=λb u e=>by
 by_cases c:b=a
 .subst c;rw[q9] at e;cases e;exact h
 .rw[qf c] at e;exact s b u e
theorem uH{G:G3}{H:Hp}:∀ns:WV,va G H (ns.map Y.int)<|ns.map V.int
 |[]=>rfl
 |_::r=>{_,_,rfl,rfl,uH r}
section
variable {σ:St}
def nR(I:qx X pins σ H s)(U:∀b∈fp,H b=none)(k:∀b o,b∉fp->s.heap.get? b=some o->h'.get? b=some o):fF X.prog X.w H h':=λb u e=>by
 refine(I.GT b u e).Xx (λc v g q=>k c v (λz=>?_) q) (λ_ q=>q) λ_ _ q=>q;have J:=U c z;rcases g with w|w
 .rw[w,e] at J;cases J
 .rw[w] at J;cases J
def QZ{fs:List Addr}(k:∀b o,b∉fp->h.get? b=some o->h'.get? b=some o):Un fs fp H H h h':=
 ⟨λb o q _ _ x=>k b o x q,λb o q _ _ x=>{o.slots,k b o x q},λ_ _ _ n _=>n,λb o q x=>{o,k b o x q},λ_ _ q=>q,λ_ _ _ q=>q,λb I q=>{#[],by rw[q];simp}⟩
def qx.Yl(I:qx X pins σ H s)(k:∀b o,b∉fp->s.heap.get? b=some o->h'.get? b=some o)(U:∀b∈fp,pH X pins H b)(g:0<t':=by walk_at "t"):qx X pins σ H {s with heap:=h',toks:=t'}:=
 I.Yh (s':={s with heap:=h',toks:=t'}) (ch:=fp) rfl (QZ k) (nR I (λb J=>(U b J).1) k) I.bare λb J=>{(U b J).2.2.2.1,(U b J).2.1,(U b J).2.2.2.2.1,(U b J).2.2.2.2.2}
def qx.Ym{a:Addr}{o:HO}(I:qx X pins σ H s)(k:∀b o,b∉fp->s.heap.get? b=some o->h'.get? b=some o)(U:∀b∈fp,pH X pins H b)(j:s.heap.objs.size<=a)
 (new:xu X.prog X.w (upd H a o) h' a o) (p:0<t':=by walk_at "t"):qx X pins σ (upd H a o) {s with heap:=h',toks:=t'}:=by
 have g:=I.GT.fresh j;have lt:∀b ob,s.heap.get? b=some ob->b≠a:=λb ob q=>A3<|AL (wh q) j;refine I.Yh (s':={s with heap:=h',toks:=t'}) (ch:=fp) rfl ?_ ?_ I.bare λb J=>{(U b J).2.2.2.1,(U b J).2.1,(U b J).2.2.2.2.1,(U b J).2.2.2.2.2}
 .exact{λb ob q _ _ x=>k b ob x q,λb ob q _ _ x=>{ob.slots,k b ob x q},λb ob q n _=>by rw[qp<|lt b ob q];exact n,λb ob q x=>{ob,k b ob x q},
   λb l q=>by rw[qp<|j6 q g];exact q,λb ob u q=>by rw[qp<|j6 q g];exact q,λb r q=>{#[],by rw[qp<|j6 q g,q];simp}}
 .intro b u e;by_cases J:b=a
  .subst J;rw[zu] at e;cases e;exact new
  .rw[qp J] at e;have ok:=nR I (h':=h') (λb J=>(U b J).1) k b u e;exact ok.Xx (λ_ _ _ q=>q) (λc q=>by rw[qp<|j6 q g];exact q) λc l q=>by rw[qp<|j6 q g];exact q
end
def He(K:Af)(a:Addr):It:=
 ⟨λi H=>∃xs x,aY K H a xs/\xs[i]?=some x,λi H v H'=>∃p x,H p=none/\v=.ref p/\H'=upd H p (.tup [.int i,x])/\∀xs,aY K H a xs->xs[i]?=some x,λi H=>∃xs,aY K H a xs/\xs.length<=i⟩
def Q0{P:W2}{w:W3}{K:Af}(a e it:Addr)(l:e≠it):DT P w K (.Tuple ml x1 tp) (He K a) [e,it] e (λi h=>(∃old,IsEnum h e it i old)/\h.IsListIter it a i) where
 mem:=by simp
 obj:=λi h ψ b g=>by
  obtain⟨⟨old,J⟩,U⟩:=ψ
  rcases As.mp g with rfl|g
  .exact{_,J,λv z=>by cases z}
  .cases Ap.mp g;obtain⟨o,T,hc,hd⟩:=U;exact{o,T,λv z=>by rw[hd] at z;cases z}
 keep:=λi h h' ψ k=>(by obtain⟨⟨old,J⟩,U⟩:=ψ;exact {{old,k e (by simp) _ J},U.at λo q=>k it (by simp) o q})
 item:=by
  rintro X hP hw hK hc i r s σ H E I t ⟨⟨old,J⟩,U⟩ hg;subst hP hw hK;obtain⟨xs,x,C,hx⟩:=hg;obtain⟨a1,rv,p,hz⟩:=I.list C;obtain⟨u,hu,ru⟩:=rv.get hx;refine wpAny_pyNext_enum_item J U p.isList (x:=u) (by simpa using hu) l λh1 a2 a3 ht ac hk=>{.ref s.heap.objs.size,rfl,wpAny_letOwnedTupleGo_enum a2 λh2 a4 j=>?_};have el:=wh J;have il:it<s.heap.objs.size:=by obtain⟨o,T,_⟩:=U;exact wh T
  have kk:∀b o,b∉[e,it]->s.heap.get? b=some o->h2.get? b=some o:=λb o nb q=>by have n1:b≠e:=λz=>nb (by simp[z]);have n2:b≠it:=λz=>nb (by simp[z]);exact j.extBut b o n1<|hk b o n1 n2 q
  have tg:=j.extBut _ _ (C0 el) ht;refine{.ref s.heap.objs.size,upd H s.heap.objs.size<|.tup [.int i,x],?_,rfl,{_,x,I.GT.fresh<|Am _,rfl,rfl,λys hy=>by rw[I.W9 hy C];exact hx},{{_,a4},a3.at λo q=>j.extBut _ _ (AG l) q},λb g=>?_}
  .exact I.Ym (t':=s.toks+1) kk t (Am _) {by show 2<=sizeLine;decide,[.int i s.toks,u],.cons {_,rfl}<|.cons ru .nil,{_,tg,rfl,_,rfl}}
  .have a5:b<s.heap.objs.size:=by rcases As.mp g with rfl|g;exact el;cases Ap.mp g;exact il
   rw[qp<|A3 a5];exact(t b g).1
 done:=by rintro X hP hw hK hc i r s σ H E I t ⟨⟨old,J⟩,U⟩ hg;subst hP hw hK;obtain⟨xs,C,hx⟩:=hg;obtain⟨a1,rv,p,hz⟩:=I.list C;have hl:=rv.length;exact wpAny_pyNext_enum_end (I.ok.hd hc) J U p.isList (by simp;omega) λh1 eb=>{rfl,I.Yl (t':=s.toks) (fp:=[e,it]) (λb o nb q=>eb b o (λz=>nb (by simp[z])) q) t}
 self:=λ_ _ _ _ _ ψ h=>(by obtain⟨⟨_,J⟩,_⟩:=ψ;exact wpAny_pyIter_enum J h)
def Q1(K:Af)(ta:TA):TI:=λσ H R=>ta σ H λvs H1=>∃a,vs=[.ref a]/\(∃xs,aY K H1 a xs)/\R (He K a) H1
def se:bootBuiltins "enumerate"=some (.type "enumerate"):=by decide +kernel
def Q2{a:Expr}{ta:TA}(t:Gl X "enumerate")(C:X.mg "enumerate"=none)(T:PA X [a] ta)(hs:starEach [a] X.env=[(false,eval a X.env)]:=by rfl):
 PI X (.Tuple ml x1 tp) (.Call (.Name "enumerate" p) [a] [] pos) (Q1 X.K ta):=by
 intro U s σ H R I h;refine Call_<|eG I t C se<|B9 (aM (T pos U s σ H _ I h) λus J ψ=>?_) hs rfl;obtain⟨vs,H1,j,r1,q1⟩:=ψ;obtain⟨l,e,⟨xs,hq⟩,q⟩:=q1;subst e;obtain⟨u,rfl,ru⟩:=rG r1;cases ru;obtain⟨a1,rv,pl,hz⟩:=j.list hq;refine call_enumerate_list pl.isList λh1 r hi a2 hk=>?_;have I2:=j.kept (t':=J.toks) hk;refine wpAny_pyIter_enum (s:={J with heap:=h1}) r ?_;refine{J.heap.objs.size+1,[J.heap.objs.size+1,J.heap.objs.size],_,_,H1,rfl,I2,Q0 l _ _<|Nat.succ_ne_self _,{{_,r},hi},λb o=>?_,q};have g:J.heap.objs.size<=b:=by rcases As.mp o with rfl|o;exact CU _;cases Ap.mp o;exact Am _
 exact j.YM g<|j.GT.fresh g
def l7{a:Addr}{keep:qm->Prop}(h:∀H L,j7 H₀ H->zv G H L->keep L->∃xs,aY G.K H a xs/\va G H ys xs):hZ G H₀ (He G.K a) (ys.zipIdx.map λp=>Y.tup [.int (p.2:Nat),p.1]) keep where
 go:=λi H L t I J o=>by
  obtain⟨xs,sq,r⟩:=h H L t I J;have:i<xs.length:=by rw[<-r.length];simpa using o
  exact{xs,xs[i],sq,Ag this}
 Yu:=λi H L x H' y t I J l ψ=>by obtain⟨p,z,U,C,T,f⟩:=ψ;subst C T;obtain⟨xs,sq,r⟩:=h H L t I J;rw[Al,List.getElem?_zipIdx] at l;obtain⟨⟨y',j⟩,ey,e3⟩:=Aq.mp l;obtain⟨a1,g,e4⟩:=Aq.mp ey;cases e4;subst e3;obtain⟨x',e',rv⟩:=r.get g;have:=f xs sq;rw[e'] at this;cases this;refine{EX U,I.skip U,p,_,rfl,dZ.of zu,{_,_,rfl,?_,_,_,rfl,rv.ts<|EX U,rfl}};congr 1;simp
 stop:=λH L t I J=>by obtain⟨xs,sq,r⟩:=h H L t I J;exact{xs,sq,by rw[Ac,List.length_zipIdx,r.length];exact Am _}
def pD(ys:_x):_x:=ys.zipIdx.map λp=>Y.tup [.int (p.2:Nat),p.1]
def iJ(h:(pD ys)[i]?=some y):∃z,ys[i]?=some z/\y=.tup [.int i,z]:=by unfold pD at h;rw[Al,List.getElem?_zipIdx] at h;obtain⟨⟨J,j⟩,U,g⟩:=Aq.mp h;obtain⟨l,I,o⟩:=Aq.mp U;cases o;exact{J,I,by rw[<-g];simp}
def gC(ys:_x):(pD ys).length=ys.length:=by simp[pD]
def xE(tl:xw)(τ:ji)(L:qm)(R:_x->(qm->Prop)->qm->Prop):Prop:=tl τ L λx L1=>match x with
 |.ref a=>uW L1 a λys keep L=>R (pD ys) keep L
 |.sq ys=>R (pD ys) (λ_=>True) L1
 |_=>False
def m5{a:Expr}(hg:Gl X "enumerate")(hm:X.mg "enumerate"=none)(ha:QE X a te)(hs:starEach [a] X.env=[(false,eval a X.env)]:=by rfl)
 (j:starEach [a] X.env=(false,eval a X.env)::starEach [] X.env:=by rfl):QI X (.Tuple ml x1 tp) (.Call (.Name "enumerate" p) [a] [] pos) (xE te):=PI.Xk (Q2 hg hm (ko ha cq j) hs) λσ H R τ L R3 rs l z k=>by
 refine{τ,L,_,rs,l,z,λv g y o T I U C=>?_};cases y with
 |ref a=>
  obtain⟨ys,keep,es,kp,hk,z2⟩:=ug C;have hy:∀H L,j7 g H->zv X.g3 H L->keep L->∃J,aY X.K H a J/\va X.g3 H ys J:=λH L _ l e=>fI l<|hk L e;obtain⟨J,sq,_⟩:=hy g o (EW _) I kp;cases U;exact{a,rfl,{(J),sq},k _ g _ _ o T I (l7 hy) z2}
 |sq ys=>
  obtain⟨a,J,e,sf,r⟩:=U;subst e;exact{a,rfl,{(J),sf.sq},k _ g _ (λ_=>True) o T I (l7 λH L t _ _=>{J,(sf.ts t).sq,r.ts t}) C}
 |_=>exact C.elim
def jN(t:Bool)(h:W4)(it l:Addr)(k:Nat):Prop:=match t with
 |false=>h.IsListIter it l k
 |true=>h.IsTupleIter it l k
def sH(t:Bool)(h:W4)(l:Addr)(xs:WQ):Prop:=match t with
 |false=>h.IsList l xs
 |true=>h.IsTuple l xs
def jN.on{l:Addr}{k:Nat}(x:jN t h it l k)(e:∀o,h.get? it=some o->h'.get? it=some o):jN t h' it l k:=by cases t with|false=>exact Heap.IsListIter.at x e|true=>exact Heap.IsTupleIter.at x e
def sH.on{l:Addr}{xs:WQ}(x:sH t h l xs)(e:∀o,h.get? l=some o->h'.get? l=some o):sH t h' l xs:=by cases t with|false=>exact Heap.IsList.at x e|true=>exact Heap.IsTuple.at x e
def jN.ob{l:Addr}{k:Nat}(x:jN t h it l k):∃o,h.get? it=some o/\∀v,o.data≠.cell v:=by
 cases t with
 |false=>obtain⟨o,e,c,d⟩:=x;exact{o,e,λv z=>by rw[d] at z;cases z}
 |true=>obtain⟨o,e,c,d⟩:=x;exact{o,e,λv z=>by rw[d] at z;cases z}
def yW(l:Addr):¬((Value.ref l==Value.none)=true):=AH
section
variable {w:W3}
def xW{l:Addr}{xs:WQ}{x:W0}(hi:s.heap.IsTupleIter it l i)(U:s.heap.IsTuple l xs)(g:xs[i]?=some x)
 (q:∀h',h'.IsTupleIter it l (i+1)->Heap.SameBut it s.heap h'->Q x {s with heap:=h'}):wpAny (model prog w) A (Builtin.SmallTypes.nextOf<|.ref it) Q E s:=by
 obtain⟨o,J,ci,I⟩:=id hi;obtain⟨u,ul,_,n,dl⟩:=U;unfold Builtin.SmallTypes.nextOf;refine Aa<|wpAny_callSpecial?_slot (name:="__next__") hi.typeIs Db<|wpAny_call_entry Db hi.typeIs F.entry_tuple_iterator_next ?_<|F.args_tuple_iterator_next_1 _;refine Aa (m:=field (.ref it) 0)<|Bd J I (x:=.ref l) rfl ?_;rw[AB<|yW l];refine Aa (m:=field (.ref it) 1)<|Bd J I (x:=.int i 0) rfl<|Aa (m:=seqItems?<|.ref l)<|BM ul dl ?_;simp only[BL,g];refine Aa<|wpAny_setField J I (by simp)<|Aj {x,rfl,Aj<|q _ {_,Fa _ J<|Obj.isFreed_of_fields<|Obj.data_mapFields I _,(Obj.cls_mapFields ..).trans ci,?_}<|yp ..};rw[Obj.data_mapFields I];simp[rawInt]
def Q4{l:Addr}{xs:WQ}(U:A.handled=none)(hi:s.heap.IsTupleIter it l i)(g:s.heap.IsTuple l xs)(j:xs[i]?=none)
 (q:∀h' e,Heap.ExtBut it s.heap h'->(∃o,h'.get? e=some o/\o.cls=.type "StopIteration")->E (.ref e) {s with heap:=h'}):wpAny (model prog w) A (Builtin.SmallTypes.nextOf<|.ref it) Q E s:=by
 obtain⟨o,I,ci,J⟩:=id hi;obtain⟨u,ul,_,n,dl⟩:=g;unfold Builtin.SmallTypes.nextOf;refine Aa<|wpAny_callSpecial?_slot (name:="__next__") hi.typeIs Db<|wpAny_call_entry Db hi.typeIs F.entry_tuple_iterator_next ?_<|F.args_tuple_iterator_next_1 _;refine Aa (m:=field (.ref it) 0)<|Bd I J (x:=.ref l) rfl ?_;rw[AB<|yW l];refine Aa (m:=field (.ref it) 1)<|Bd I J (x:=.int i 0) rfl<|Aa (m:=seqItems?<|.ref l)<|BM ul dl ?_;simp only[BL,j];refine Aa<|BD<|Aa<|wpAny_setField I J (by simp) ?_;refine Aa (m:=newExc (.type "StopIteration") []) ?_;simp only[newExc,newTuple];refine Aa (Bt (Aa (m:=firstArgMember _ _) (wpAny_of_eq (a:=Value.none) (by first|rfl|(simp only[firstArgMember];rfl))<|Bt ?_ (by size_fits))) (by size_fits));simp only[raiseNew];refine Aa<|wpAny_handled ?_
 first|rw[show A.in1.handled=none from U]|rw[U]
 exact Aa<|Aj<|wpAny_throw<|q _ _ (((yp ..).extBut.push _).push _) {_,xT _ rfl,rfl}
def jN.next{l:Addr}{xs:WQ}{x:W0}(hi:jN t s.heap it l i)(I:sH t s.heap l xs)(J:xs[i]?=some x)
 (q:∀h',jN t h' it l (i+1)->Heap.SameBut it s.heap h'->Q x {s with heap:=h'}):wpAny (model prog w) A (Builtin.SmallTypes.nextOf<|.ref it) Q E s:=by
 cases t with|false=>exact wpAny_nextOf_list_item hi I J q|true=>exact xW hi I J q
def jN.stop{l:Addr}{xs:WQ}(I:A.handled=none)(hi:jN t s.heap it l i)(J:sH t s.heap l xs)(U:xs[i]?=none)
 (q:∀h' e,Heap.ExtBut it s.heap h'->(∃o,h'.get? e=some o/\o.cls=.type "StopIteration")->E (.ref e) {s with heap:=h'}):wpAny (model prog w) A (Builtin.SmallTypes.nextOf<|.ref it) Q E s:=by
 cases t with|false=>exact wpAny_nextOf_list_end I hi J U q|true=>exact Q4 I hi J U q
structure Hf(z TI TO i1 i2 l1 l2:Addr):Prop where
 n1:TI≠z
 n2:TO≠z
 n3:i1≠z
 n4:i2≠z
 n5:TO≠i1
 n6:TO≠i2
 n7:i1≠i2
 n8:l1≠z
 n9:l1≠TO
 n10:l1≠i1
 n11:l1≠i2
 Z7:l2≠z
 Z5:l2≠TO
 Z6:l2≠i1
 n15:l2≠i2
def Q5{z TI TO J U:Addr}{k:Nat}{xs ys:WQ}{x y a b:W0}(D:Hf z TI TO J U l1 l2)(hz:IsZip s.heap z TI TO .none)(hI:IsPair s.heap TI (.ref J)<|.ref U)(hO:IsPair s.heap TO a b)
 (h1:jN t1 s.heap J l1 k) (h2:jN t2 s.heap U l2 k) (q1:sH t1 s.heap l1 xs) (q2:sH t2 s.heap l2 ys) (hx:xs[k]?=some x) (hy:ys[k]?=some y)
 (q:∀h',IsZip h' z TI TO (rawInt s.heap.objs.size)->IsPair h' TO x y->jN t1 h' J l1 (k+1)->jN t2 h' U l2 (k+1)->IsPair h' s.heap.objs.size x y->
  (∀c o,c≠z->c≠TO->c≠J->c≠U->s.heap.get? c=some o->h'.get? c=some o)->Q (.ref s.heap.objs.size) {s with heap:=h'}):
 wpAny (model prog w) A (Builtin.«zip.__next__» ⟨[.ref z],[]⟩) (λvd s'=>∃v,vd=.done (.ret v)/\Q v s') E s:=by
 refine Aa (m:=field (.ref z) 2)<|Bd hz rfl (x:=.bool false) rfl<|Aa (m:=field (.ref z) 3)<|Bd hz rfl (x:=.ref TI) rfl<|Aa<|BM hI rfl ?_;refine Aa (m:=Builtin.SmallTypes.ownedTupleIsFree<|.ref z) ?_;unfold Builtin.SmallTypes.ownedTupleIsFree;refine Aa<|Bd hz rfl (x:=.none) rfl<|Aj ?_;simp only[if_true];refine Aa<|BD<|Aa<|Bd hz rfl (x:=.ref TO) rfl<|Aa<|wpAny_setField_rec hz (by simp) λg1 z1 g=>?_;have ac:IsZip g1 z TI TO .ellipsis:=z1;refine Aa ?_;simp only[Ex,List.zipIdx_nil,Dg,EO];refine Aa<|Aa<|wpAny_onRaise<|Aa (m:=Builtin.SmallTypes.nextOf<|.ref J)<|(h1.on λo e=>g.extBut _ _ D.n3 e).next (q1.on λo e=>g.extBut _ _ D.n8 e) hx λg2 al p=>Aj ?_;have O2:IsPair g2 TO a b:=p.extBut _ _ D.n5<|g.extBut _ _ D.n2 hO;refine Aa<|BM O2 rfl<|Aa<|wpAny_updateSeq_pair O2 λg3 O3 r=>Aa<|wpAny_letGo<|Aj ?_;have ay:IsPair g3 TO x b:=O3;refine Aa (Aa (wpAny_onRaise (Aa (m:=Builtin.SmallTypes.nextOf<|.ref U) (jN.next (l:=l2) (i:=k) (xs:=ys) (x:=y) (t:=t2) (h2.on λo e=>r.extBut _ _ (AG D.n6)<|p.extBut _ _ (AG D.n7)<|g.extBut _ _ D.n4 e)
  (q2.on λo e=>r.extBut _ _ D.Z5<|p.extBut _ _ D.Z6<|g.extBut _ _ D.Z7 e) hy λg4 aL C=>Aj ?_))))
 have O4:IsPair g4 TO x b:=C.extBut _ _ D.n6 ay;refine Aa<|BM O4 rfl<|Aa<|wpAny_updateSeq_pair O4 λI O5 T=>Aa<|wpAny_letGo<|Aj<|Aj ?_;have a5:IsPair I TO x y:=O5;refine Aa<|BM a5 rfl<|Aa<|wpAny_newTuple ?_;have sz:I.objs.size=s.heap.objs.size:=by rw[T.1,C.1,r.1,p.1,g.1]
 have z5:IsZip I z TI TO .ellipsis:=T.extBut _ _ (AG D.n2)<|C.extBut _ _ (AG D.n4)<|r.extBut _ _ (AG D.n2)<|p.extBut _ _ (AG D.n3) ac;have k5:∀c o,c≠z->c≠TO->c≠J->c≠U->s.heap.get? c=some o->I.get? c=some o:=λc o j a2 a3 a4 e=>T.extBut _ _ a2<|C.extBut _ _ a4<|r.extBut _ _ a2<|p.extBut _ _ a3<|g.extBut _ _ j e;have zl:=wh z5;refine Aa (m:=Builtin.SmallTypes.ownedTupleHandOut (.ref z)<|.ref I.objs.size) ?_;unfold Builtin.SmallTypes.ownedTupleHandOut;refine Aa<|wpAny_setField_rec (show IsZip (I.push {cls:=.type "tuple",data:=.seq #[x,y]}) z TI TO .ellipsis from vb _ z5) (by simp) λg7 z7 e7=>?_;have ba:IsZip g7 z TI TO (rawInt I.objs.size):=z7;refine wpAny_setField_rec ba (by simp) λg8 z8 e8=>Aj {_,rfl,?_};have bb:IsZip g8 z TI TO (rawInt I.objs.size):=z8;have up:∀c o,c≠z->I.get? c=some o->g8.get? c=some o:=λc o j e=>e8.extBut _ _ j<|e7.extBut _ _ j<|vb _ e;have T8:IsPair g8 I.objs.size x y:=e8.extBut _ _ (C0 zl)<|e7.extBut _ _ (C0 zl)<|xT _ rfl;have vd:=q g8 (by rw[<-sz];exact bb) (up _ _ D.n2 a5) (al.on λo e=>up _ o D.n3<|T.extBut _ _ (AG D.n5)<|C.extBut _ _ D.n7<|r.extBut _ _ (AG D.n5) e) (aL.on λo e=>up _ o D.n4<|T.extBut _ _ (AG D.n6) e)
  (by rw[<-sz];exact T8) λc o j a2 a3 a4 e=>up c o j<|k5 c o j a2 a3 a4 e
 show Q (.ref I.objs.size) _;rw[sz];exact vd
def Q6{z TI TO J U:Addr}{k:Nat}{xs ys:WQ}{a b:W0}{Q:Fin->W1->Prop}(hh:A.handled=none)(D:Hf z TI TO J U l1 l2)(hz:IsZip s.heap z TI TO .none)(hI:IsPair s.heap TI (.ref J)<|.ref U)(hO:IsPair s.heap TO a b)
 (h1:jN t1 s.heap J l1 k) (h2:jN t2 s.heap U l2 k) (q1:sH t1 s.heap l1 xs) (q2:sH t2 s.heap l2 ys) (g:xs[k]?=none\/ys[k]?=none)
 (q:∀h' e,(∀c o,c≠z->c≠TO->c≠J->c≠U->s.heap.get? c=some o->h'.get? c=some o)->(∃o,h'.get? e=some o/\o.cls=.type "StopIteration")->E (.ref e) {s with heap:=h'}):
 wpAny (model prog w) A (Builtin.«zip.__next__» ⟨[.ref z],[]⟩) Q E s:=by
 refine Aa (m:=field (.ref z) 2)<|Bd hz rfl (x:=.bool false) rfl<|Aa (m:=field (.ref z) 3)<|Bd hz rfl (x:=.ref TI) rfl<|Aa<|BM hI rfl ?_;refine Aa (m:=Builtin.SmallTypes.ownedTupleIsFree<|.ref z) ?_;unfold Builtin.SmallTypes.ownedTupleIsFree;refine Aa<|Bd hz rfl (x:=.none) rfl<|Aj ?_;simp only[if_true];refine Aa<|BD<|Aa<|Bd hz rfl (x:=.ref TO) rfl<|Aa<|wpAny_setField_rec hz (by simp) λg1 z1 I=>?_;have j:IsZip g1 z TI TO .ellipsis:=z1;refine Aa ?_;simp only[Ex,List.zipIdx_nil,Dg,EO];refine Aa<|Aa<|wpAny_onRaise<|Aa (m:=Builtin.SmallTypes.nextOf<|.ref J) ?_;have p:=h1.on λo e=>I.extBut _ _ D.n3 e;have r:=q1.on λo e=>I.extBut _ _ D.n8 e;cases hx:xs[k]? with
 |none=>
  refine jN.stop hh p r hx λg2 e s2 he=>?_;obtain⟨oe,ge,ce⟩:=he;have z2:IsZip g2 z TI TO .ellipsis:=s2 _ _ (AG D.n3) j;have nz:e≠z:=λw=>by subst w;rw[z2] at ge;cases ge;simp at ce
  exact wpAny_setField_rec z2 (by simp) λg3 _ s3=>q g3 e (λc o C _ a3 _ w=>s3.extBut _ _ C<|s2 _ _ a3<|I.extBut _ _ C w) {oe,s3.extBut _ _ nz ge,ce}
 |some x=>
  have hy:ys[k]?=none:=by rcases g with h|h;rw[hx] at h;cases h;exact h
  refine jN.next p r hx λg2 a5 T=>Aj ?_;have O2:IsPair g2 TO a b:=T.extBut _ _ D.n5<|I.extBut _ _ D.n2 hO;refine Aa<|BM O2 rfl<|Aa<|wpAny_updateSeq_pair O2 λg3 O3 e3=>Aa<|wpAny_letGo<|Aj ?_;refine Aa (Aa (wpAny_onRaise (Aa (m:=Builtin.SmallTypes.nextOf<|.ref U) (jN.stop (t:=t2) (l:=l2) (i:=k) (xs:=ys) hh (h2.on λo e=>e3.extBut _ _ (AG D.n6)<|T.extBut _ _ (AG D.n7)<|I.extBut _ _ D.n4 e)
   (q2.on λo e=>e3.extBut _ _ D.Z5<|T.extBut _ _ D.Z6<|I.extBut _ _ D.Z7 e) hy λg4 e s4 he=>?_))))
  obtain⟨oe,ge,ce⟩:=he;have z4:IsZip g4 z TI TO .ellipsis:=s4 _ _ (AG D.n4)<|e3.extBut _ _ (AG D.n2)<|T.extBut _ _ (AG D.n3) j;have nz:e≠z:=λw=>by subst w;rw[z4] at ge;cases ge;simp at ce
  exact wpAny_setField_rec z4 (by simp) λg5 _ s5=>q g5 e (λc o C a2 a3 a4 w=>s5.extBut _ _ C<|s4 _ _ a4<|e3.extBut _ _ a2<|T.extBut _ _ a3<|I.extBut _ _ C w) {oe,s5.extBut _ _ nz ge,ce}
end
def FT(t:Bool):W5:=if t then "tuple_iterator" else "list_iterator"
section
variable {w:W3}
def sH.iter{l:Addr}{xs:WQ}(I:sH t s.heap l xs)(q:Q (.ref s.heap.objs.size) {s with heap:=s.heap.push {cls:=.type<|FT t,data:=.fields #[.ref l,.int 0 0]}}):wpAny (model prog w) A (pyIter<|.ref l) Q E s:=by cases t with|false=>exact wpAny_pyIter_list I q|true=>exact wpAny_pyIter_tuple I q
end
def jN.new{l:Addr}(e:h.get? it=some {cls:=.type<|FT t,data:=.fields #[.ref l,.int 0 0]}):jN t h it l 0:=by cases t with|false=>exact{_,e,rfl,rfl}|true=>exact{_,e,rfl,rfl}
abbrev Ge(t1:Bool)(h:W4)(l1:Addr):W4:=h.push {cls:=.type<|FT t1,data:=.fields #[.ref l1,.int 0 0]}
abbrev Gf(t1 t2:Bool)(h:W4)(l1 l2:Addr):W4:=(Ge t1 h l1).push {cls:=.type<|FT t2,data:=.fields #[.ref l2,.int 0 0]}
abbrev Gg(t1 t2:Bool)(h:W4)(l1 l2:Addr):W4:=(Gf t1 t2 h l1 l2).push {cls:=.type "tuple",data:=.seq #[.ref h.objs.size,.ref (Ge t1 h l1).objs.size]}
abbrev Gh(t1 t2:Bool)(h:W4)(l1 l2:Addr):W4:=(Gg t1 t2 h l1 l2).push {cls:=.type "tuple",data:=.seq #[.none,.none]}
abbrev EH(t1 t2:Bool)(h:W4)(l1 l2:Addr):W4:=(Gh t1 t2 h l1 l2).push {cls:=.type "zip",data:=.fields #[.none,.bool false,.bool false,.ref (Gf t1 t2 h l1 l2).objs.size,.ref (Gg t1 t2 h l1 l2).objs.size]}
def yQ(t1 t2:Bool)(l1 l2:Addr)(xs ys:WQ):Meets (Builtin.«zip.__new__» ⟨[.type "zip",.ref l1,.ref l2],[]⟩) (λ_ R s=>sH t1 s.heap l1 xs/\sH t2 s.heap l2 ys/\R (.ok<|.ret<|.ref (Gh t1 t2 s.heap l1 l2).objs.size) {s with heap:=EH t1 t2 s.heap l1 l2}):=
 .of_wp λI w A R s h=>by
  obtain⟨U,g,d,tk,os⟩:=s;obtain⟨j,l,h⟩:=h;have J:=sub_zip;have p:=j;have r:sH t2 (Shared.heap ⟨U.push {cls:=.type<|FT t1,data:=.fields #[.ref l1,.int 0 0]},g,d,tk,os⟩) l2 ys:=l.on λo e=>vb _ e
  wp_walk using sH.iter p,sH.iter r
  exact{_,rfl,h}
def acl{w:W3}{xs ys:WQ}(p:sH t1 s.heap l1 xs)(r:sH t2 s.heap l2 ys)
 (q:∀h',IsZip h' (s.heap.objs.size+4) (s.heap.objs.size+2) (s.heap.objs.size+3) .none->IsPair h' (s.heap.objs.size+2) (.ref s.heap.objs.size) (.ref<|s.heap.objs.size+1)->IsPair h' (s.heap.objs.size+3) .none .none->
  jN t1 h' s.heap.objs.size l1 0->jN t2 h' (s.heap.objs.size+1) l2 0->(∀c o,s.heap.get? c=some o->h'.get? c=some o)->Q (.ref<|s.heap.objs.size+4) {s with heap:=h'}):
 wpAny (model prog w) A (call (.type "zip") [.ref l1,.ref l2]) Q E s:=by
 refine callType_new F.called_zip (by decide) (F.typeCall_zip_2 _ _) (F.newCall_zip_2 _ _) (λobj=>F.args_object_init_3 obj _ _) F.entry_zip_new (yQ t1 t2 l1 l2 xs ys) {p,r,?_};have I:(Ge t1 s.heap l1).objs.size=s.heap.objs.size+1:=EQ ..;have J:(Gf t1 t2 s.heap l1 l2).objs.size=s.heap.objs.size+2:=by rw[EQ,I]
 have U:(Gg t1 t2 s.heap l1 l2).objs.size=s.heap.objs.size+3:=by rw[EQ,J]
 have j:(Gh t1 t2 s.heap l1 l2).objs.size=s.heap.objs.size+4:=by rw[EQ,U]
 have g:(EH t1 t2 s.heap l1 l2).get? (Gh t1 t2 s.heap l1 l2).objs.size=some _:=xT _ rfl;have l:(EH t1 t2 s.heap l1 l2).get? (Gg t1 t2 s.heap l1 l2).objs.size=some _:=vb _<|xT _ rfl;have g3:(EH t1 t2 s.heap l1 l2).get? (Gf t1 t2 s.heap l1 l2).objs.size=some _:=vb _<|vb _<|xT _ rfl;have g2:(EH t1 t2 s.heap l1 l2).get? (Ge t1 s.heap l1).objs.size=some _:=vb _<|vb _<|vb _<|xT _ rfl;have g1:(EH t1 t2 s.heap l1 l2).get? s.heap.objs.size=some _:=vb _<|vb _<|vb _<|vb _<|xT _ rfl;show _/\_;rw[J,U,j] at g;rw[I,J] at g3;rw[U] at l;rw[I] at g2;rw[j];exact{{_,g,rfl},q _ g g3 l (jN.new g1) (jN.new g2) λc o e=>vb _<|vb _<|vb _<|vb _<|vb _ e}
def Sq(t:Bool)(K:Af)(H:Hp)(a:Addr)(xs:W6):Prop:=match t with
 |false=>aY K H a xs
 |true=>dZ K H a xs
section
variable {σ:St}
def qx.seq{a:Addr}(I:qx X pins σ H s)(h:Sq t X.K H a xs):∃eH:WP,zk xs eH/\sH t s.heap a eH.toArray/\xs.length<=sizeLine:=by
 cases t with
 |false=>obtain⟨eH,v,p,z⟩:=I.list h;exact{(eH),v,p.isList,z}
 |true=>obtain⟨eH,v,p,z⟩:=I.tuple h;exact{(eH),v,p,z}
def qx.Yn{a:Addr}{ys:W6}(I:qx X pins σ H s)(h:Sq t X.K H a xs)(h':Sq t X.K H a ys):xs=ys:=by cases t with|false=>exact I.W9 h h'|true=>exact I.Xj h h'
end
def Hg(t1 t2:Bool)(K:Af)(a b:Addr):It:=
 ⟨λi H=>∃xs ys x y,Sq t1 K H a xs/\Sq t2 K H b ys/\xs[i]?=some x/\ys[i]?=some y,
  λi H v H'=>∃p x y,H p=none/\v=.ref p/\H'=upd H p (.tup [x,y])/\(∀xs,Sq t1 K H a xs->xs[i]?=some x)/\∀ys,Sq t2 K H b ys->ys[i]?=some y,
  λi H=>∃xs ys,Sq t1 K H a xs/\Sq t2 K H b ys/\(xs.length<=i\/ys.length<=i)⟩
def Q7{P:W2}{w:W3}{K:Af}(a b z TI TO l p:Addr)(D:Hf z TI TO l p a b)(d1:TI≠TO)(d2:TI≠l)(d3:TI≠p):
 DT P w K (.Tuple ml x1 tp) (Hg t1 t2 K a b) [z,TI,TO,l,p] z (λi h=>IsZip h z TI TO .none/\IsPair h TI (.ref l) (.ref p)/\(∃u v,IsPair h TO u v)/\jN t1 h l a i/\jN t2 h p b i) where
 mem:=by simp
 obj:=λi h ψ c j=>by
  obtain⟨U,r,⟨u,v,t⟩,h1,h2⟩:=ψ
  simp only[As,Bc,or_false] at j;rcases j with rfl|rfl|rfl|rfl|rfl
  .exact{_,U,λv z=>by cases z}
  .exact{_,r,λv z=>by cases z}
  .exact{_,t,λv z=>by cases z}
  .exact h1.ob
  .exact h2.ob
 keep:=λi h h' ψ k=>(by obtain⟨U,r,⟨u,v,t⟩,h1,h2⟩:=ψ;exact {k z (by simp) _ U,k TI (by simp) _ r,{u,v,k TO (by simp) _ t},h1.on λo q=>k l (by simp) o q,h2.on λo q=>k p (by simp) o q})
 item:=by
  rintro X hP hw hK j i a2 s σ H E I hf ⟨U,r,⟨u,v,t⟩,h1,h2⟩ hg;subst hP hw hK;obtain⟨xs,ys,x,y,q1,q2,hx,hy⟩:=hg;obtain⟨a3,C,p1,_⟩:=I.seq q1;obtain⟨a4,a1,p2,_⟩:=I.seq q2;obtain⟨ux,a5,ac⟩:=C.get hx;obtain⟨uy,al,ay⟩:=a1.get hy;have hT:s.TypeIs (.ref z) "zip" := {_,U,rfl};unfold pyNext;refine Aa (wpAny_attempt (wpAny_callSpecial?_slot (name:="__next__") hT Fg (wpAny_call_entry Fg hT F.entry_zip_next
   (Q5 D U r t h1 h2 p1 p2 (x:=ux) (y:=uy) (by simpa using a5) (by simpa using al) λg1 gz gO aL ba gT gk=>Aj {.ref s.heap.objs.size,rfl,wpAny_letOwnedTupleGo_zip gz λg2 bb J=>?_}) (F.args_zip_next_1 _))))
  have lz:=wh U;have bc:∀c∈[z,TI,TO,l,p],c<s.heap.objs.size:=λc j=>by
   simp only[As,Bc,or_false] at j;rcases j with rfl|rfl|rfl|rfl|rfl
   .exact lz
   .exact wh r
   .exact wh t
   .obtain⟨o,e,_⟩:=h1.ob;exact wh e
   .obtain⟨o,e,_⟩:=h2.ob;exact wh e
  have kk:∀c o,c∉[z,TI,TO,l,p]->s.heap.get? c=some o->g2.get? c=some o:=λc o g q=>by simp only[As,Bc,or_false,not_or] at g;exact J.extBut c o g.1<|gk c o g.1 g.2.2.1 g.2.2.2.1 g.2.2.2.2 q
  have tg:=J.extBut _ _ (C0 lz) gT;refine{.ref s.heap.objs.size,upd H s.heap.objs.size<|.tup [x,y],?_,rfl,{_,x,y,I.GT.fresh<|Am _,rfl,rfl,λzs hq=>by rw[I.Yn hq q1];exact hx,λzs hq=>by rw[I.Yn hq q2];exact hy},?_,λc j=>?_}
  .exact I.Ym (t':=s.toks) kk hf (Am _) {by show 2<=sizeLine;decide,[ux,uy],.cons ac<|.cons ay .nil,{_,tg,rfl,_,rfl}}
  .exact{bb,J.extBut _ _ D.n1<|gk _ _ D.n1 d1 d2 d3 r,{_,_,J.extBut _ _ D.n2 gO},aL.on λo q=>J.extBut _ _ D.n3 q,ba.on λo q=>J.extBut _ _ D.n4 q}
  .rw[qp<|A3<|bc c j];exact(hf c j).1
 done:=by
  rintro X hP hw hK j i a2 s σ H E I hf ⟨U,r,⟨u,v,t⟩,h1,h2⟩ hg;subst hP hw hK;obtain⟨xs,ys,q1,q2,hl⟩:=hg;obtain⟨a3,C,p1,_⟩:=I.seq q1;obtain⟨a4,a1,p2,_⟩:=I.seq q2;have l1:=C.length;have l2:=a1.length;have hT:s.TypeIs (.ref z) "zip" := {_,U,rfl};unfold pyNext;refine Aa (wpAny_attempt (wpAny_callSpecial?_slot (name:="__next__") hT Fg (wpAny_call_entry Fg hT F.entry_zip_next
   (Q6 (I.ok.hd j) D U r t h1 h2 p1 p2 (by rcases hl with h|h;exact .inl (by simp;lia);exact .inr (by simp;lia)) λg1 e gk he=>?_) (F.args_zip_next_1 _))))
  obtain⟨o,ho,bd⟩:=he;refine Aa<|wpAny_isInstance (T:="StopIteration") (b:=true) {(o),ho,bd} isSubtype_stop<|Aj {rfl,?_};exact I.Yl (t':=s.toks) (fp:=[z,TI,TO,l,p]) (λc o g q=>by simp only[As,Bc,or_false,not_or] at g;exact gk c o g.1 g.2.2.1 g.2.2.2.1 g.2.2.2.2 q) hf
 self:=λ_ _ _ _ _ ψ h=>(by obtain⟨U,_⟩:=ψ;exact wpAny_pyIter_zip U h)
def Q8(K:Af)(ta:TA):TI:=λσ H R=>ta σ H λvs H1=>∃t1 t2 a b,vs=[.ref a,.ref b]/\(∃xs,Sq t1 K H1 a xs)/\(∃xs,Sq t2 K H1 b xs)/\R (Hg t1 t2 K a b) H1
def Q9:bootBuiltins "zip"=some (.type "zip"):=by decide +kernel
def Ra{a b:Expr}{ta:TA}(hg:Gl X "zip")(hm:X.mg "zip"=none)(ha:PA X [a,b] ta)(hs:starEach [a,b] X.env=[(false,eval a X.env),(false,eval b X.env)]:=by rfl)
 (U:starEach [b] X.env=[(false,eval b X.env)]:=by rfl):PI X (.Tuple ml x1 tp) (.Call (.Name "zip" p) [a,b] [] pos) (Q8 X.K ta):=by
 intro g s σ H R I h;refine Call_ (eG I hg hm Q9 (B9 (aM (ha pos g s σ H _ I h) λus J ψ=>?_) (by rw[hs,U]) (by rw[U];rfl)));obtain⟨vs,H1,j,r1,q1⟩:=ψ;obtain⟨t1,t2,r,t,e,⟨xs,hx⟩,⟨ys,hy⟩,q⟩:=q1;subst e;obtain⟨u1,u2,rfl,C,T⟩:=zk.two r1;cases C;cases T;obtain⟨al,_,p1,_⟩:=j.seq hx;obtain⟨ay,_,p2,_⟩:=j.seq hy;have a1:r<J.heap.objs.size:=by
  cases t1 with
  |false=>obtain⟨o,e,_⟩:=p1;exact wh e
  |true=>obtain⟨o,e,_⟩:=p1;exact wh e
 have a2:t<J.heap.objs.size:=by
  cases t2 with
  |false=>obtain⟨o,e,_⟩:=p2;exact wh e
  |true=>obtain⟨o,e,_⟩:=p2;exact wh e
 refine acl p1 p2 λg1 gz gI gO a3 a4 gk=>?_;have I2:=j.kept (t':=J.toks) gk;refine wpAny_pyIter_zip (s:={J with heap:=g1}) gz ?_;refine{_,[_,J.heap.objs.size+2,J.heap.objs.size+3,J.heap.objs.size,J.heap.objs.size+1],_,_,H1,rfl,I2,Q7 r t _ _ _ _ _ ?_ (wH (by lia)) (wH (by lia))<|wH (by lia),{gz,gI,{_,_,gO},a3,a4},λc hc=>?_,q}
 .have a5:@LT.lt Nat instLTNat r J.heap.objs.size:=a1;have ac:@LT.lt Nat instLTNat t J.heap.objs.size:=a2;constructor<;>exact wH (by lia)
 .have l:J.heap.objs.size<=c:=by simp only[As,Bc,or_false] at hc;rcases hc with rfl|rfl|rfl|rfl|rfl<;>exact v_ (by simp +arith only)
  exact j.YM l<|j.GT.fresh l
def rX(I:qm):Y->qm->Prop
 |.ref a,L=>L a=I a
 |_,_=>True
theorem lO(L:qm):∀y:Y,rX L y L
 |.ref _=>rfl
 |.GM=>trivial
 |.bl _=>trivial
 |.int _=>trivial
 |.str _=>trivial
 |.ty _=>trivial
 |.cd _=>trivial
 |.tup _=>trivial
 |.sq _=>trivial
def zS{H1:Hp}(r:RV G H1 y v)(h:dJ L1 y=some ys):∃t p,v=.ref p/\∀H L,j7 H1 H->zv G H L->rX L1 y L->∃xs,Sq t G.K H p xs/\va G H ys xs:=by
 cases y with
 |tup I=>
  obtain⟨a,xs,e,s,q⟩:=r;cases h;exact{true,a,e,λH L t _ _=>{xs,dZ.ts s t,q.ts t}}
 |sq I=>
  obtain⟨a,xs,e,s,q⟩:=r;cases h;exact{false,a,e,λH L t _ _=>{xs,(s.ts t).sq,q.ts t}}
 |ref a=>
  have e:=kE h;exact{false,a,r,λH L _ J U=>let ⟨xs,g,q⟩:=J a _<|U.trans e;⟨xs,FE g,q⟩}
 |_=>cases h
def xZ(xs ys:_x):_x:=List.zipWith (λa b=>Y.tup [a,b]) xs ys
def Jj{xs:_x}(h:(xZ xs ys)[i]?=some y):∃a b,xs[i]?=some a/\ys[i]?=some b/\y=.tup [a,b]:=by
 unfold xZ at h;rw[List.getElem?_zipWith] at h;cases I:xs[i]? with
 |none=>rw[I] at h;simp at h
 |some a=>
  cases J:ys[i]? with|none=>rw[I,J] at h;simp at h|some b=>rw[I,J] at h;simp at h;exact{(a),b,rfl,rfl,h.symm}
def oD(xs ys:_x):(xZ xs ys).length=min xs.length ys.length:=by simp[xZ]
def wN{a b:Addr}{xs:_x}{keep:qm->Prop}(h1:∀H L,j7 H₀ H->zv G H L->keep L->∃us,Sq t1 G.K H a us/\va G H xs us)(h2:∀H L,j7 H₀ H->zv G H L->keep L->∃us,Sq t2 G.K H b us/\va G H ys us):
 hZ G H₀ (Hg t1 t2 G.K a b) (xZ xs ys) keep where
 go:=λi H L t I J hi=>by obtain⟨us,g,j⟩:=h1 H L t I J;obtain⟨U,l,o⟩:=h2 H L t I J;rw[oD] at hi;have l1:=j.length;have l2:=o.length;exact{us,U,us[i]'(by lia),U[i]'(by lia),g,l,Ag _,Ag _}
 Yu:=λi H L x H' y t I J hy ψ=>by obtain⟨p,u,v,r,e1,e2,f1,f2⟩:=ψ;subst e1 e2;obtain⟨us,g,j⟩:=h1 H L t I J;obtain⟨U,l,o⟩:=h2 H L t I J;obtain⟨c,d,ec,ed,rfl⟩:=Jj hy;obtain⟨u',eu,ru⟩:=j.get ec;obtain⟨v',ev,rv⟩:=o.get ed;have C:=f1 us g;rw[eu] at C;cases C;have T:=f2 U l;rw[ev] at T;cases T;exact{EX r,I.skip r,p,_,rfl,dZ.of zu,{_,_,rfl,ru.ts<|EX r,_,_,rfl,rv.ts<|EX r,rfl}}
 stop:=λH L t I J=>by obtain⟨us,g,j⟩:=h1 H L t I J;obtain⟨U,l,o⟩:=h2 H L t I J;have l1:=j.length;have l2:=o.length;exact{us,U,g,l,by rw[oD];lia}
def Rb(ta:fH)(τ:ji)(L:qm)(R:_x->(qm->Prop)->qm->Prop):Prop:=ta τ L λvs L1=>match vs with
 |[x,y]=>gl L1 x λxs=>gl L1 y λys=>R (xZ xs ys) (λL=>rX L1 x L/\rX L1 y L) L1
 |_=>False
def Rc{a b:Expr}{tr:fH}(hg:Gl X "zip")(hm:X.mg "zip"=none)(ha:QA X [a,b] tr)(hs:starEach [a,b] X.env=[(false,eval a X.env),(false,eval b X.env)]:=by rfl)
 (g:starEach [b] X.env=[(false,eval b X.env)]:=by rfl):QI X (.Tuple ml x1 tp) (.Call (.Name "zip" p) [a,b] [] pos) (Rb tr):=PI.Xk (Ra hg hm ha hs g) λσ H R τ L R3 rs U z k=>by
 refine{τ,L,_,rs,U,z,λvs j ys l t1 I o J=>?_};split at J
 .rename_i x y;obtain⟨u,v,rfl,ru,rv⟩:=o.inv2;obtain⟨xs,ex,J⟩:=aD J;obtain⟨zs,ez,J⟩:=aD J;obtain⟨r,p1,rfl,k1⟩:=zS ru ex;obtain⟨C,p2,rfl,k2⟩:=zS rv ez;obtain⟨us,s1,_⟩:=k1 j l (EW _) I<|lO _ _;obtain⟨ws,s2,_⟩:=k2 j l (EW _) I<|lO _ _;exact{r,C,p1,p2,rfl,{(us),s1},{(ws),s2},k _ j _ _ l t1 I (wN (λH L t U T=>k1 H L t U T.1) λH L t U T=>k2 H L t U T.2) J}
 .exact J.elim
def Jk(xs:_x)(L:qm)(Q:YK):Prop:=match xs with
 |[x]=>gl L x λys=>∀p,L p=none->Q (.ref p) (qj L p<|.lst ys)
 |_=>False
def oy :jh X (.type "list") (f_ X.g3 Jk):=FD sD λt H Q C L T U I z k=>by
 unfold Jk at z;split at z
 .rename_i x;obtain⟨u,rfl,g⟩:=U.inv1;obtain⟨zs,j,z⟩:=aD z;obtain⟨p,o,e,sq,r⟩:=si I g j;subst e;exact{p,o,rfl,sq,λl J=>k _ _ _ _ (EX J) (I.XX J r) (by rfl)<|z l<|I.none J}
 .exact z.elim
def iw{T:W5}{tr:fH}{r:_x->qm->YK->Prop}(hc:jh X (.type T)<|f_ X.g3 r)(U:Gl X x)(g:X.mg x=none)(j:bootBuiltins x=some (.type T))(h:QA X (e::es) tr)
 (l:x ≠ "__name__" := by decide) (hd:Fe x:=by decide) (hs:Fb e es X:=by rfl) (o:Fc pos es X:=by rfl):
 QE X (.Call (.Name x p) (e::es) [] pos) (mJ r tr):=EY (jP hc U g j h l hd hs o) λσ H Q t L C rs rl z k=>
 ⟨t,L,_,rs,rl,z,λvs H1 ys L1 t1 I J z1=>{ys,L1,C,J,I,z1,k.ts t1}⟩
def rh(x:Y)(vs:_x)(L:qm)(Q:YK):Prop:=match x,vs with
 |.ref a,[.int i]=>cM L a λys=>0<=i/\i<ys.length/\wX L (λv L=>Q v<|qj L a<|.lst<|ys.eraseIdx i.toNat) (ys[i.toNat]?)
 |_,_=>False
def Rf :iE X "list.pop" (i_ X.g3 rh):=λJ s l H x xs v o Q I p t ψ=>by
 obtain⟨y,ys,L,Q3,C,T,j,z,k⟩:=ψ
 unfold rh at z;split at z
 .rename_i a i;obtain⟨zs,e,h0,h1,z⟩:=xa z;obtain⟨ws,U,r⟩:=j a _ e;obtain⟨i',rfl,ri⟩:=T.inv1;cases ri;cases g:zs[i.toNat]? with
  |none=>rw[g] at z;exact z.elim
  |some w=>
   rw[g] at z;obtain⟨u,eu,ru⟩:=r.get g;obtain⟨_,_,_,hz⟩:=I.list<|FE U;have hl:=r.length;have hs:sizeLine<2 ^ 62:=by decide
   refine Pn J s l H x _ v o Q I p t {a,ws,i,i.toNat,u,C,rfl,U,by lia,by lia,?_,eu,k _ _ _ _ (E7 U) (j.X4 U<|r.eraseIdx _) (ru.ts<|E7 U) z};unfold seqIndex?;rw[AB (show ¬i<0 by lia),AC (by simp;lia)]
 .exact z.elim
def dC{tr:fH}(I:QE X o to)(J:QA X (e::es) tr)(U:s_ X o e es "pop" apos fm:=by exact{(rfl),rfl,rfl,rfl,rfl}):
 QE X (.Call (.Attribute o "pop" apos) (e::es) [] fm) (iC rh to tr):=oW PySem.F.slot_list_pop PySem.F.type_list_pop Rf I J U
def Gi(i:Int)(n d:Nat):max 0 (min (if i<0 then i+(n:Int) else i) n)=((HT n d (some i):Nat):Int):=by
 simp only[HT];by_cases h:i<0
 .simp only[h,if_true]<;>lia
 .simp only[h,if_false]<;>lia
def Rg(l u:WX)(n:Nat):Builtin.Str.strSliceIndices l u 1 n=(List.range<|HT n n u-HT n 0 l).map (HT n 0 l+·):=by
 have y:(n:Int)=((HT n n none:Nat):Int):=rfl;cases l with
 |none=>
  cases u with
  |none=>exact sliceRange_one 0 n
  |some j=>
   show sliceRange 0 (max 0<|min (if j<0 then j+(n:Int) else j) n) 1=_;rw[Gi j n n];exact sliceRange_one 0 _
 |some i=>
  cases u with
  |none=>
   show sliceRange (max 0<|min (if i<0 then i+(n:Int) else i) n) n 1=_;rw[Gi i n 0];exact sliceRange_one _ n
  |some j=>
   show sliceRange (max 0<|min (if i<0 then i+(n:Int) else i) n) (max 0<|min (if j<0 then j+(n:Int) else j) n) 1=_;rw[Gi i n 0,Gi j n n];exact sliceRange_one _ _
def qR(x:Str)(l u:WX):(Txt.slice x l u).cps.toList=(x.cps.toList.drop<|HT x.length 0 l).take (HT x.length x.length u-HT x.length 0 l):=by
 have U:x.length=x.cps.toList.length:=by simp[Str.length]
 have I:=pick_run x.cps (HT x.length 0 l)<|HT x.length x.length u-HT x.length 0 l;unfold Txt.slice;rw[Rg];split
 .rename_i h;simp only[beq_self_eq_true,Bool.true_and,Ac,Cu,beq_iff_eq] at h;have h1:=YE x.length 0 (A5 _) l;have h2:=YE x.length x.length (Am _) u;have J:HT x.length 0 l=0:=by lia
  rw[h,J,DR,A4<|tz]
 .show(List.filterMap (λi=>x.cps[i]?) _).toArray.toList=_;rw[List.toList_toArray];exact I
def Rh:V->WX->WX->Hp->VK->Prop:=λx lo hi H Q=>∃z,x=.str z/\z.length<=sizeLine/\Q (.str<|Txt.slice z lo hi) H
def Z9:tM X Rh:=by
 rintro J s σ H x v U g lo j sl Q I o p r C⟨z,rfl,T,q⟩;obtain⟨t,rfl⟩:=o;obtain⟨l,rfl,hl⟩:∃l:Option (Int×Tok),U=partValue l/\l.map (·.1)=lo:=by cases r with|none=>exact{(none),rfl,rfl}|int i t=>exact{some (i,t),rfl,rfl}
 obtain⟨u,rfl,hu⟩:∃u:Option (Int×Tok),g=partValue u/\u.map (·.1)=j:=by cases C with|none=>exact{(none),rfl,rfl}|int i t=>exact{some (i,t),rfl,rfl}
 subst hl hu;refine{"str",_,F.slot_str_getitem.lookup,typeIs_str _ _ _,ja I.tk<|wpAny_getItem_str_slice (l:=l) (u:=u) (st:=none) p rfl ?_};exact post_val_or_str {AS (Txt.slice_le z _ _) T,λt' k ht=>{.str _,H,I.tok _,{(t'),rfl},q}}
def xP{zs:WS}:∀{us:WP},zk (zs.map V.str) us->StrsAre us zs:=by
 induction zs with
 |nil=>intro us r;rw[Do] at r;cases r;exact .nil
 |cons z zs I=>
  intro us r;rw[AA] at r;cases r with
  |cons J U=>
   obtain⟨t,e⟩:=J;subst e;exact .cons z t<|I U
def Ri(K:Af):V->W6->Hp->VK->Prop:=λx vs H Q=>∃z a zs,x=.str z/\vs=[.ref a]/\aY K H a ((zs:WS).map V.str)/\(zs.map (·.length)).sum+zs.length*z.length<=16777216/\Q (.str<|Txt.join z zs) H
def Rj:iE X "str.join" (Ri X.K):=by rintro J s σ H x vs v us Q I U g⟨z,a,zs,rfl,rfl,j,l,q⟩;obtain⟨t,rfl⟩:=U;obtain⟨u,rfl,o⟩:=g.one;cases o;obtain⟨C,r,p,_⟩:=I.list j;exact ja I.tk<|PyProof.Rows.join_list p.isList (by simpa using xP r) l λT k ht=>{.str _,H,I.tok _,{(T),rfl},q}
def Gj(x:Y)(lo hi:WX)(L:qm)(Q:YK):Prop:=match x with
 |.str z=>z.length<=sizeLine/\Q (.str<|Txt.slice z lo hi) L
 |x=>IP x lo hi L Q
def vN(K:Af)(P:W2)(w:W3)(U:X.K=K:=by rfl)(g:X.prog=P:=by rfl)(hw:X.w=w:=by rfl):tM X (Gc ⟨K,P,w⟩ Gj):=by refine tM.imp (Z9.or<|QH K P w U g hw) λx lo l H Q ψ=>?_;obtain⟨y,L,j,I,J,z,k⟩:=ψ;cases y with|str s=>exact .inl {s,I,z.1,k _ H _ L (EW _) J (by rfl) z.2}|_=>exact .inr {_,L,j,I,J,z,k}
def Jl(r:Y->_x->qm->YK->Prop)(to:xw)(t:fH)(τ:ji)(L:qm)(Q:YK):Prop:=to τ L λx L1=>match x with
 |.str z=>t τ L1 λxs L2=>r (.str z) xs L2 Q
 |_=>False
def Rk{tr:fH}{id:W5}{r:Y->_x->qm->YK->Prop}(h2:Slot "str" name id)(h3:typeOf (.builtin id)=pure (.type "method_descriptor"))(T:iE X id<|i_ X.g3 r)(ho:QE X o to)(ha:QA X (e::es) tr)
 (I:s_ X o e es name apos fm:=by exact{(rfl),rfl,rfl,rfl,rfl}):
 QE X (.Call (.Attribute o name apos) (e::es) [] fm) (Jl r to tr):=EY (Ix PySem.F.plainAttrs_str h2 h3 T ho ha I.h4 I.h5 I.h6 I.h7 I.h8) λσ H Q p L Q3 t rl z k=>
 ⟨p,L,_,t,rl,z,λv H1 y L1 C J U g=>by
  split at g
  .rename_i s;cases U;exact{rfl,p,L1,_,t.ts C,J,g,λvs H2 ys L2 t2 j l z2=>{.str s,ys,L2,Q3,rfl,l,j,z2,k.ts<|C.trans t2}}
  .exact g.elim⟩
theorem vL{G:G3}{H:Hp}:∀{zs:WS} {xs:W6},va G H (zs.map Y.str) xs->xs=zs.map V.str
 |[],_,h=>h
 |z::r,_,ψ=>by obtain⟨x,I,e,q,s⟩:=ψ;rw[e,show x=V.str z from q,vL s];rfl
def Hh(x:Y)(vs:_x)(L:qm)(Q:YK):Prop:=match x,vs with
 |.str z,[.ref a]=>cM L a λys=>∃zs,ys=zs.map Y.str/\(zs.map (·.length)).sum+zs.length*z.length<=16777216/\Q (.str<|Txt.join z zs) L
 |_,_=>False
def Rl :iE X "str.join" (i_ X.g3 Hh):=iE.Xk Rj λx p H Q y t L C U g I z k=>by
 unfold Hh at z;split at z
 .rename_i s a;obtain⟨T,e,j,rfl,l,z⟩:=xa z;obtain⟨ws,J,r⟩:=I a _ e;obtain⟨u,rfl,o⟩:=g.inv1;cases o;rw[vL r] at J;exact{s,a,j,U,rfl,FE J,l,k _ H _ L (EW _) I (by rfl) z}
 .exact z.elim
def Rm{tr:fH}(I:QE X o to)(J:QA X (e::es) tr)(U:s_ X o e es "join" apos fm:=by exact{(rfl),rfl,rfl,rfl,rfl}):
 QE X (.Call (.Attribute o "join" apos) (e::es) [] fm) (Jl Hh to tr):=Rk PySem.F.slot_str_join PySem.F.type_str_join Rl I J U
def rQ(zs:WS):(Txt.join "" zs).cps.toList=zs.flatMap λz=>z.cps.toList:=by
 have e:∀zs:WS,(Str.join "" zs).cps.toList=zs.flatMap λz=>z.cps.toList:=by
  intro zs
  induction zs with
  |nil=>rfl
  |cons z r I=>
   cases r with
   |nil=>simp[Str.join]
   |cons y r=>
    show(z ++ "" ++ Str.join "" (y::r)).cps.toList=_;have:(z ++ "" ++ Str.join "" (y::r)).cps=z.cps++#[]++(Str.join ""<|y::r).cps:=rfl;rw[this];simp only[Ba,I,Be,Array.append_empty]
 exact(Br (λx:Str=>x.cps.toList)<|StrLaws.glued_eq_join "" zs).trans (e zs)
def Rn(K:Af)(T S I:lH):PySem.W.kitAny K (.type T.nm) [.type S.nm,.type I.nm]=some (dI T S||dI T I):=by show(match PySem.W.kitOne K (.type T.nm) (.type S.nm) with|some true=>some true|some false=>(match PySem.W.kitOne K (.type T.nm) (.type I.nm) with|some true=>some true|some false=>some false|none=>none)|none=>none)=_;rw[sR,sR];cases dI T S<;>cases dI T I<;>rfl
def Ro{T S g:lH}{a:Addr}{σ:St}(I:qx X pins σ H s)(rl:zv X.g3 H L)(r:RV X.g3 H y v)(U:zr v u)(h:r_ L y=some T)(ha:H a=some (.tup [.ty S.nm,.ty g.nm]))
 (J:∀tk,Q (.bool<|dI T S||dI T g) {s with toks:=tk}):wpAny (model X.prog X.w) A (call (.builtin "isinstance") [u,.ref a]) Q E s:=by
 obtain⟨_,a1,vs,⟨⟨oc,od,dt,sl⟩,h1,h2,n,h3⟩⟩:=(show xu X.prog X.w H s.heap a (.tup [.ty S.nm,.ty g.nm]) from I.GT a _ ha);obtain⟨u1,u2,rfl,r1,r2⟩:=zk.two vs;cases (show u1=Value.type S.nm from r1);cases (show u2=Value.type g.nm from r2);cases (show oc=_ from h2);cases (show dt=_ from h3);have e:=Rn X.K T S g;cases y with
 |GM=>cases h;cases r;cases (show u=Value.none from U);exact BZ PySem.W.kitx_none I.SL True.intro h1 e (λz=>nomatch z) J
 |bl b=>cases h;cases r;cases (show u=Value.bool b from U);exact BZ PySem.W.kitx_bool I.SL True.intro h1 e (λz=>nomatch z) J
 |int i=>cases h;cases r;obtain⟨t,q⟩:=(show ∃t,u=Value.int i t from U);cases q;exact BZ PySem.W.kitx_int I.SL True.intro h1 e (λz=>nomatch z) J
 |str x=>cases h;cases r;obtain⟨t,q⟩:=(show ∃t,u=Value.str x t from U);cases q;exact BZ PySem.W.kitx_str I.SL True.intro h1 e (λz=>nomatch z) J
 |tup ys=>
  cases h;obtain⟨b,j,rfl,sq,_⟩:=r;cases (show u=Value.ref b from U);obtain⟨_,_,⟨o,g1,g2,_⟩,_⟩:=I.tuple sq;exact BZ DP I.SL {(o),g1,g2} h1 e (λz=>nomatch z) J
 |sq ys=>
  cases h;obtain⟨b,j,rfl,sq,_⟩:=r;cases (show u=Value.ref b from U);obtain⟨_,_,⟨o,_,g1,g2,_⟩,_⟩:=I.list sq.sq;exact BZ CT I.SL {(o),g1,g2} h1 e (λz=>nomatch z) J
 |ref b=>
  cases (show v=.ref b from r);cases (show u=Value.ref b from U);have l:(match L b with|some (.lst _)=>some lH.list|some (.XI _)=>some .dict|_=>none)=some T:=h;split at l
  .rename_i ys C;cases l;obtain⟨j,e2,_⟩:=rl b _ C;obtain⟨_,_,⟨o,_,g1,g2,_⟩,_⟩:=I.list<|FE e2;exact BZ CT I.SL {(o),g1,g2} h1 e (λz=>nomatch z) J
  .rename_i a2 C;cases l;obtain⟨j,e2,_⟩:=rl b _ C;obtain⟨_,_,ws,_,p⟩:=(show xu X.prog X.w H s.heap b (.dK j) from I.GT b _ e2);obtain⟨o,es,ep,g1,g2,_⟩:=p;exact BZ Ee I.SL {(o),g1,g2.1} h1 e (λz=>nomatch z) J
  .cases l
 |_=>cases h
def Rp(G:G3)(S I:lH):W6->Hp->VK->Prop:=λxs H Q=>∃y v L J T a,xs=[v,.ref a]/\H a=some (.tup [.ty S.nm,.ty I.nm])/\RV G H y v/\zv G H L/\r_ L y=some T/\J (.bl<|dI T S||dI T I) L/\tK G H J Q
def Rq(S g:lH):jh X (.builtin "isinstance") (Rp X.g3 S g):=by rintro J s t H C us Q I r⟨y,v,L,Q3,T,a,rfl,j,l,U,ty,q,k⟩;obtain⟨u,c,rfl,o,p⟩:=zk.two r;cases (show c=Value.ref a from p);exact ja I.tk<|Ro I U l o ty j λtk ht=>{.bl _,H,I.tok _,rfl,k _ H _ L (EW _) U (by rfl) q}
def xK{a:Expr}{pt:Pos}{J I:Str}(S l:lH)(hg:Gl X "isinstance")(hm:X.mg "isinstance"=none)(o:Gl X J)(r:X.mg J=none)(t:bootBuiltins J=some (.type S.nm))(U:Gl X I)(g:X.mg I=none)(j:bootBuiltins I=some (.type l.nm))(ha:QE X a ta)
 (hn:J ≠ "__name__" := by decide) (hd:(J==("__debug__" : Str))=false:=by decide) (C:I ≠ "__name__" := by decide) (a1:(I==("__debug__" : Str))=false:=by decide)
 (hs:starEach [a,.Tuple [.Name J p1,.Name I p2] kt pt] X.env=(false,eval a X.env)::starEach [.Tuple [.Name J p1,.Name I p2] kt pt] X.env:=by rfl)
 (a2:starEach [.Tuple [.Name J p1,.Name I p2] kt pt] X.env=(false,eval (.Tuple [.Name J p1,.Name I p2] kt pt) X.env)::starEach [] X.env:=by rfl)
 (a3:starEach [.Name J p1,.Name I p2] X.env=(false,eval (.Name J p1) X.env)::starEach [.Name I p2] X.env:=by rfl) (a4:starEach [.Name I p2] X.env=(false,eval (.Name I p2) X.env)::starEach [] X.env:=by rfl)
 (hp:(backTo pos<|starEach [.Tuple [.Name J p1,.Name I p2] kt pt] X.env).any (·.1)=false:=by rfl):
 QE X (.Call (.Name "isinstance" p) [a,.Tuple [.Name J p1,.Name I p2] kt pt] [] pos) (Qk S l ta):=by
 refine E8 (fZ (Rq S l) hg hm ao (ko ha (ko (xG<|ko (zE o r t hn hd) (ko (zE U g j C a1) cq a4) a3) cq a2) hs) (by decide) (by decide) hs hp) ?_;rintro σ H Q ⟨τ,L,Q3,rs,rl,z,k⟩;refine{τ,L,_,rs,rl,z,λv H1 y L1 t1 a5 ac z1=>?_};obtain⟨T,et,z1⟩:=vH z1;refine{by show 2<=sizeLine;decide,λq hq=>?_};exact{y,v,L1,Q3,T,q,rfl,zu,ac.ts<|EX hq,a5.skip hq,et,z1,k.ts<|t1.trans<|EX hq}
inductive gh(t u:bD)(D:xb)(τ:ji)(L:qm):Prop
 |mk:∀J:ji->qm->Prop,t {D with nx:=J} τ L->(∀τ' L',J τ' L'->u D τ' L')->gh t u D τ L
def vk{rest:WU}{t u:bD}(h:QS X st t)(k:uD X rest u):uD X (st::rest) (gh t u):=jA.imp (u8 h k) λD σ H ψ=>by
 obtain⟨o,L,j,p,r,⟨J,z,q⟩,k⟩:=ψ
 exact {o,L,{j with nx:=J},p,r,z,λC H1 I l T U g z1=>{I,l,j,U,g,q I l z1,k.ts T},k.rt,k.bk,k.ct}
abbrev X3:=ji->Addr->qm->Prop
abbrev mL:=_x->qm->YK->(Addr->qm->Prop)->Prop
def ER(G:G3)(E3:X3):X1:=λσ c H=>∃C τ L,c=.ref C/\xr G H σ τ/\zv G H L/\E3 τ C L
def Jm(G:G3)(H:Hp)(E3:Addr->qm->Prop)(E:XK):Prop:=∀C H' L',j7 H H'->zv G H' L'->E3 C L'->E (.ref C) none H'
def Rr(G:G3)(sp:mL):Sp:=λvs H Q E=>∃ys L I E3,va G H ys vs/\zv G H L/\sp ys L I E3/\tK G H I Q/\Jm G H E3 E
def ES(E3:Addr->qm->Prop):X3:=λ_ C L=>∃L2,qi L2 L/\E3 C L2
abbrev Jn(P:W2)(w:W3)(K:Af)(mg:WM)(base:W4)(k:Nat)(f:Addr)(fd:FuncData)(ps:WS)(sp:mL):Prop:=bV P w K mg base (h_ P w) k f fd ps<|Rr {(K),P,w} sp
structure l8(P:W2)(w:W3)(K:Af)(mg:WM)(base:W4)(k:Nat)(x:Str)(ps:WS)(sp:mL):Prop where
 ex:∃f fd,Jn P w K mg base k f fd ps sp/\eU K fd ps []/\PySem.W.keepIn K (.ref f)=true/\mg x=some (.ref f)
theorem l8.mono{P:W2}{w:W3}{K:Af}{k:Nat}{sp:mL}(c:l8 P w K mg base j x ps sp)(h:j<=k):l8 P w K mg base k x ps sp:=by obtain⟨f,fd,F,b,I,m⟩:=c.ex;exact{f,fd,F.mono h,b,I,m}
def qx._d{σ:St}(I:qx X pins σ H s):j7 X.H₀ H:=λa u i e=>by cases u with|tup J=>exact I.base.SZ a J e|Xs o u=>exact I.base.Xp a o u e|_=>cases i
def Rs{P:W2}{w:W3}{K:Af}{N:WS}{E:XK}{E3:Addr->qm->Prop}(h:Jm ⟨K,P,w⟩ H E3 E):
 cB (fN (h_ P w) P w K mg base N eK scope f cd A outer s H E) (ER ⟨K,P,w⟩<|ES E3):=by
 rintro J j g l a C tr I L ap U ⟨t,T,L',o,rs,p,L2,r,q⟩;cases o;exact PZ J j g l a C tr I L ap U<|h C g L2 (qx._d I) (p.sub r) q
def eB(sp:mL)(E3:X3)(t:fH)(τ:ji)(L:qm)(Q:YK):Prop:=t τ L λys L1=>sp ys L1 Q<|E3 τ
def Jo(C:Addr)(E3:X3)(t:fH)(_:xb)(τ:ji)(L:qm):Prop:=t τ L λys L1=>ys.length<=1000/\E3 τ C L1
section
variable {tr:fH}{E3:X3}
def qL{k:Nat}{sp:mL}(c:l8 X.prog X.w X.K X.mg X.base k x ps sp)(t:aR k X.A)(T:Gl X x)(ht:cB X<|ER X.g3 E3)(hx:X.ex=[])(ha:QA X (e::es) tr)(I:Fe x:=by decide)
 (he:Fb e es X:=by rfl) (J:Fc pos es X:=by rfl):QE X (.Call (.Name x p) (e::es) [] pos) (eB sp E3 tr):=by
 obtain⟨f,fd,F,b,kp,m⟩:=c.ex;refine EY (uK F t T m kp b ht hx ha I he J) λσ H Q U L Q3 o rl z k=>?_;exact{U,L,_,o,rl,z,λvs H1 ys L1 r g j z1=>{ys,L1,Q3,E3 U,j,g,z1,k.ts r,λC H' L' t' l q=>{C,U,L',rfl,o.ts<|r.trans t',l,q}}}
def Rt(c:Fy X.K C)(o:Gl X x)(p:X.mg x=some (.ref C))(hc:X.calm=true)(r:cB X<|ER X.g3 E3)(t:X.ex=[])(T:QA X (e::es) tr)(I:Fe x:=by decide)
 (he:Fb e es X:=by rfl) (J:Fc fm es X:=by rfl):
 QS X (.Raise (some<|.Call (.Name x np) (e::es) [] fm) none pos) (Jo C E3 tr):=E4 (P2 c o p hc r t T I he J) λD σ H j L D3 l rl z k=>
 ⟨j,L,_,l,rl,z,λvs H1 ys L1 t1 U g ψ=>(by obtain⟨hl,z1⟩:=ψ;exact {cZ (by rw[<-g.length];exact hl),C,j,L1,rfl,l.ts t1,U,z1})⟩
end
def Rv{P:W2}{w:W3}{K:Af}{N:WS}{k:Nat}{sp:mL}{t:X3->bD}(F:Y0 K x eK st f fd)(S:aX N ps<|qy st)(len:∀ys L Q E,sp ys L Q E->ys.length=ps.length)
 (I:∀(eW:W0) (A:Around) (outer:List Env) (s:W1) (H:Hp) (E:XK) (E3:X3),aR k (A.deeper<|PyProof.Rows.envOfC eK (qy st) s.heap.objs.size f eW)->
  cB (fN (h_ P w) P w K mg base N eK (qy st) f eW A outer s H E) (ER ⟨K,P,w⟩ E3)->uD (fN (h_ P w) P w K mg base N eK (qy st) f eW A outer s H E) (x8 st) (t E3))
 (vc:∀ys L Q E,sp ys L Q E->t (ES E) {nx:=λ_ L'=>a6 Q .GM L',rt:=a6 Q} (ft N ys) L):Jn P w K mg base (k+1) f fd ps sp:=by
 obtain⟨oc,od,kV,a1,pm,an,eW,ct,a2,rfl,lk,U⟩:=F.ex;refine GR lk U S (λvs H Q E ψ=>by obtain⟨ys,L,g,E3,j,T,z,_⟩:=ψ;rw[<-j.length];exact len ys L g E3 z) λA outer s H vs Q E hr ψ=>?_;obtain⟨ys,L,g,E3,j,T,z,k,kx⟩:=ψ;refine{_,I eW A outer s H E (ES E3) hr<|Rs kx,ft N ys,L,_,jV j,T,vc ys L g E3 z,?_};exact{λσ l τ L' o a3 J ψ=>(by obtain⟨L2,p,r⟩:=ψ;exact k .GM l .GM L2 o (J.sub p) (by rfl) r),λv l y L' o J C ψ=>(by obtain⟨L2,p,r⟩:=ψ;exact k v l y L2 o (J.sub p) C r),λ_ _ _ _ _ _ _ z=>z.elim,λ_ _ _ _ _ _ _ z=>z.elim}
def top(i:Nat):Stmt:=PySem.Challenge.pw_oncewise_k17_spoilt_knots_and_cuts.main.body.getD i<|.Pass {0,0,0,0}
abbrev qU:Stmt:=top 15
abbrev tZ:Stmt:=top 16
abbrev rH:Stmt:=top 18
abbrev iZ:Stmt:=top 19
abbrev ny:Stmt:=top 20
abbrev nU:Stmt:=top 21
abbrev mC:Stmt:=top 22
abbrev lD:Stmt:=top 23
abbrev lW:Stmt:=top 24
abbrev kY:Stmt:=top 25
abbrev qE:Stmt:=top 26
abbrev lM:Stmt:=top 27
abbrev iR:Stmt:=top 28
abbrev wA:Stmt:=top 29
abbrev oO:Stmt:=top 30
abbrev Rw:Stmt:=top 31
abbrev qB:Stmt:=top 32
abbrev fc:Stmt:=top 34
abbrev lF:Stmt:=top 35
abbrev oG:Stmt:=top 36
abbrev kZ:Stmt:=top 37
abbrev mB:Stmt:=top 38
abbrev lQ:Stmt:=top 39
abbrev gZ:Stmt:=top 40
abbrev pG:Stmt:=top 41
abbrev lI:Stmt:=top 42
abbrev lK:Stmt:=top 43
abbrev xF:Stmt:=top 44
abbrev lv:Stmt:=top 45
abbrev lB:Stmt:=top 46
abbrev fw:Stmt:=top 47
abbrev fS:Stmt:=top 48
abbrev pS:Stmt:=top 49
abbrev SC:Stmt:=top 50
abbrev pL:Stmt:=top 51
abbrev oh:Stmt:=top 52
abbrev lE:Stmt:=top 53
abbrev kG:Stmt:=top 54
abbrev i9:Stmt:=top 55
abbrev cY:Stmt:=top 56
abbrev eV:Stmt:=top 57
abbrev gb:Stmt:=top 58
abbrev ou:Stmt:=top 59
abbrev tR:Stmt:=top 60
structure V_ where
 (P:W2) (w:W3) (K:Af) (mg:WM) (base:W4) (Pt:Addr) (Ca Cl Ce Ci Ch Cf Cg Cd Ck Cc Cj:Addr)
structure B0_(V:V_):Prop where
 ba:V.mg "len"=none
 b_set:V.mg "set"=none
 b_all:V.mg "all"=none
 bh:V.mg "range"=none
 b_any:V.mg "any"=none
 bq:V.mg "enumerate"=none
 bg:V.mg "sorted"=none
 bf:V.mg "isinstance"=none
 b_bool:V.mg "bool"=none
 bi:V.mg "list"=none
 b_tuple:V.mg "tuple"=none
 b_zip:V.mg "zip"=none
 br:V.mg "int"=none
 b_str:V.mg "str"=none
 bj:V.mg "max"=none
 bp:V.mg "min"=none
 b_ValueError:V.mg "ValueError"=none
 _e:Hd ⟨V.K,V.P,V.w⟩ V.mg "LEAF_KINDS" pN
 _g:Hd ⟨V.K,V.P,V.w⟩ V.mg "TURNED_KINDS" mG
abbrev Q_(V:V_)(k:Nat)(x:Str)(ps:WS)(sp:vt):Prop:=Hc V.P V.w V.K V.mg V.base k x ps sp
def I_{a b:Expr}(I:QE X a ta)(J:QE X b tb)(U:rT b:=by exactλ_ _=>rfl):QE X (.Subscript a b pos) (zx aK ta tb):=Qr (Qs X.K X.prog X.w) I J U
def jm{t:xw}(h:QE X e t)(s:starEach [e] X.env=[(false,eval e X.env)]:=by rfl):QA X [e] (qh t zn):=jr h xn s
def vj{f:Expr}{t u:xw}(h:QE X e t)(g:QE X f u)(s:starEach [e,f] X.env=[(false,eval e X.env),(false,eval f X.env)]:=by rfl)(r:starEach [f] X.env=[(false,eval f X.env)]:=by rfl):QA X [e,f] (qh t<|qh u zn):=jr h (jm g r) (by show _=_;rw[s,r])
def aA{f d:Expr}{t u v:xw}(h:QE X e t)(g:QE X f u)(i:QE X d v)(s:starEach [e,f,d] X.env=[(false,eval e X.env),(false,eval f X.env),(false,eval d X.env)]:=by rfl)(r:starEach [f,d] X.env=[(false,eval f X.env),(false,eval d X.env)]:=by rfl)(q:starEach [d] X.env=[(false,eval d X.env)]:=by rfl):QA X [e,f,d] (qh t<|qh u<|qh v zn):=jr h (vj g i r q) (by show _=_;rw[s,r])
def E_{a b:Expr}(I:X.A.units+128<cLine)(J:QE X a ta)(U:QE X b tb):QT X (.Compare a [.Eq] [b] pos) (yB<|zx (b_ false) ta tb):=js (fU X.K X.prog X.w I) J U<|jv _
def N_{a b:Expr}(I:X.A.units+128<cLine)(J:QE X a ta)(U:QE X b tb):QT X (.Compare a [.NotEq] [b] pos) (yB<|zx (b_ true) ta tb):=js (Qz X.K X.prog X.w I) J U<|jv _
def S_(i:Nat)(hN:X.N.Nodup)(h:QE X e te)(I:X.N[i]?=some x:=by rfl)(g:Loc X.env.scope x:=by exact Or.inl rfl)(J:swapsWith e (some<|.Name x fy) pos.line X.env=pure false:=by rfl)(U:X.fn x=true\/X.env.scope.names.lookup x=some .local:=by first|exact .inl rfl|exact .inr rfl|assumption):QS X (.Assign [.Name x fy] e pos) (jt te<|qo i):=aj (i:=i) hN I g h J U
def G_(i:Nat)(hN:X.N.Nodup)(I:X.N[i]?=some x:=by rfl)(U:Loc X.env.scope x:=by exact Or.inl rfl)(J:X.fn x=true\/X.env.scope.names.lookup x=some .local:=by first|exact .inl rfl|exact .inr rfl|assumption):QG X (.Name x pos) (qo i):=bP (i:=i) hN I U J
def C_{tr:fH}{k:Nat}{sp:vt}(c:Hc X.prog X.w X.K X.mg X.base j x ps sp)(U:aR k X.A)(g:QA X (e::es) tr)(l:j<=k:=by first|decide|exact Am _|exact AS (by decide)<|DH _ _)(o:Gl X x:=by rfl)(I:Fe x:=by decide)(r:Fb e es X:=by rfl)(J:Fc pos es X:=by rfl):QE X (.Call (.Name x p) (e::es) [] pos) (jq sp tr):=QM (Yz.mono c l) U o g I r J
def J_{n:Int}{k:Nat}{q:Pos}(i:Nat)(hN:X.N[i]?=some x:=by rfl)(I:A' X.env.scope x:=by first|exact Or.inl rfl|exact Or.inr (Or.inl rfl)|exact Or.inr<|Or.inr rfl)(hd:Fe x:=by decide)(hc:Ff x:=by decide):QE X (.Subscript (.Name x p) (.Constant (.int n) k q) pos) (zx aK (qc i)<|yC<|.int n):=I_ (qv i hN I hd hc) qd λ_ _=>rfl
def L_{t:xw}(I:X.mg "len"=none)(h:QE X e t)(s:starEach [e] X.env=[(false,eval e X.env)]:=by rfl)(J:Gl X "len" := by rfl):QE X (.Call (.Name "len" p) [e] [] pos) (mJ ph<|qh t zn):=j5 (Qt X.K X.prog X.w) J I II (jm h s) (hs:=s)
def d_{l:WS}(h:decide l.Nodup=true:=by kernel_rfl):l.Nodup:=of_decide_eq_true h
abbrev FU(V:V_):=Q_ V 1 "is_leaf" ["word"]
abbrev Hi(V:V_):=Q_ V 122 "turned" ["word"]
abbrev Jp(V:V_):=Q_ V 122 "word_at" ["knots","place"]
abbrev Hj(V:V_):=Q_ V 2 "holds_leaf" ["knot"]
abbrev Hk(V:V_):=Q_ V 2 "parts_of" ["knot"]
abbrev Jq(V:V_):=Q_ V 3 "parts_in" ["knots"]
abbrev Hl(V:V_):=Q_ V 1 "places_in" ["pairs"]
abbrev Hm(V:V_):=Q_ V 1 "each_once" ["places"]
abbrev Jr(V:V_):=Q_ V 3 "parts_fit" ["knots","place"]
abbrev Rx(V:V_):=Q_ V 4 "are_knots" ["knots"]
abbrev Js(V:V_):=Q_ V 123 "is_link" ["knots","p","q"]
abbrev Ry(V:V_):=Q_ V 124 "are_links" ["knots","links"]
abbrev Jt(V:V_):=Q_ V 4 "can_be_cut" ["knots","place"]
abbrev Ju(V:V_):=Q_ V 123 "is_cut" ["knots","p","q"]
abbrev Rz(V:V_):=Q_ V 124 "are_cuts" ["knots","cuts"]
abbrev RA(V:V_):=l8 V.P V.w V.K V.mg V.base 1 "demand" ["holds","words"]
abbrev RB(V:V_):=l8 V.P V.w V.K V.mg V.base 125 "checked_web" ["web"]
abbrev RC(V:V_):=Q_ V 1 "_law_cell_at" ["_law_script","_law_k"]
abbrev RE(V:V_):=Q_ V 125 "_law_same" ["_law_found","_law_due"]
abbrev Ho(V:V_):=Q_ V 1 "_law_mix" ["_law_cell","_law_k","_law_factor"]
abbrev Jv(V:V_):=Q_ V 1 "_law_name" ["_law_seed","_law_which"]
abbrev Jw(V:V_):=Q_ V 121 "_law_word" ["_law_knots","_law_p"]
abbrev Jx(V:V_):=Q_ V 121 "_law_flip" ["_law_word_here"]
abbrev RF(V:V_):=Q_ V 121 "_law_weight" ["_law_word_here"]
abbrev RG(V:V_):=Q_ V 127 "_law_mirror" ["_law_knots","_law_word_here"]
abbrev Jy(V:V_):=Q_ V 1 "_law_join" ["_law_knots","_law_forest","_law_one","_law_two"]
abbrev Jz(V:V_):=Q_ V 1 "_law_fold" ["_law_knots","_law_tree_here","_law_one","_law_two"]
abbrev asg(V:V_):=Q_ V 128 "_law_cut" ["_law_knots","_law_forest","_law_one","_law_two"]
abbrev JA(V:V_):=Q_ V 129 "_law_tree" ["_law_cells","_law_seed","_law_room"]
abbrev JB(V:V_):=Q_ V 1 "_law_told" ["_law_rule"]
abbrev JC(V:V_):=Q_ V 1 "_law_crossed" ["_law_knots","_law_links","_law_one","_law_two"]
abbrev RH(V:V_):=Q_ V 1 "_law_beneath" ["_law_knots","_law_cuts"]
abbrev JD(V:V_):=Q_ V 2 "_law_recast" ["_law_knots","_law_cuts","_law_seed","_law_most"]
abbrev aug(V:V_):=Q_ V 2 "_law_order" ["_law_knots","_law_seed"]
abbrev JE(V:V_):=Q_ V 3 "_law_gapped" ["_law_knots","_law_links","_law_cuts","_law_seed","_law_gaps"]
abbrev RI(V:V_):=Q_ V 130 "_law_web" ["_law_script","_law_seed","_law_room","_law_most"]
abbrev Hq(V:V_):=Q_ V 1 "_law_copy" ["_law_web_here"]
abbrev JF(V:V_):=Q_ V 2 "_law_bad_parts" ["_law_web_here","_law_way","_law_one","_law_two"]
abbrev JG(V:V_):=Q_ V 1 "_law_parts" ["_law_knots"]
abbrev JH(V:V_):=Q_ V 122 "_law_bad_cut_at" ["_law_web_here","_law_way","_law_at","_law_two"]
abbrev JI(V:V_):=Q_ V 123 "_law_bad_cuts" ["_law_web_here","_law_way","_law_one","_law_two"]
abbrev RJ(V:V_):=Q_ V 124 "_law_spoilt" ["_law_web_here","_law_draw","_law_one","_law_two"]
abbrev RK(V:V_):=Q_ V 126 "_law_refused" ["_law_web_here"]
abbrev FV(V:V_)(k:Nat)(N:WS)(x:Str)(st:Stmt)(f:Addr)(t:bD):Prop:=∀(eW:W0) (A:Around) (outer:List Env) (s:W1) (H:Hp) (E:XK),aR k (A.deeper<|PyProof.Rows.envOfC x (qy st) s.heap.objs.size f eW)->N.Nodup->(A.deeper<|PyProof.Rows.envOfC x (qy st) s.heap.objs.size f eW).units+128<cLine->uD (fN Yr V.P V.w V.K V.mg V.base N x (qy st) f eW A outer s H E).Y4 (x8 st) t
abbrev Gk(x:Str)(st:Stmt)(ps:WS):Prop:=∀(kV hQ pm:W0) (an:Option Addr) (eW ct:W0) (us:WP),us.length=ps.length->bindArgs (PySem.W.fnOf x x (w4 st) (x8 st) (qy st) .none kV hQ pm an eW ct) ⟨us,[]⟩=pure (ps.zip us)
abbrev RD(x:Str)(st:Stmt)(k:Nat)(N:WS)(h:V_->Prop):=PSigma λt:bD=>∀V:V_,B0_ V->h V->∀f:Addr,FV V k N x st f t
abbrev RR(x:Str)(st:Stmt)(k:Nat)(ps N:WS)(p:vt)(h:V_->Prop):=PSigma λt:bD=>∀V:V_,B0_ V->h V->∀(n:Nat) (f:Addr),Q_ V (n+k) x ps p->FV V (n+k) N x st f t
def o7(i:Nat)(hi:X.N.length=i:=by rfl)(hN:(X.N++[x]).Nodup:=by exact d_)(J:∀C fp s₀ H₀,Loc (X.comp scope [x] C fp s₀ H₀).env.scope x:=by exactλ_ _ _ _=>Or.inl rfl)(I:∀C fp s₀ H₀,(X.comp scope [x] C fp s₀ H₀).env.scope.names.lookup x=some .local:=by exactλ_ _ _ _=>rfl):EG X scope [x] (.Name x p) (qo i):=hi▸dW hN J I
def Hr{y:Str}{I pt:Pos}(i:Nat)(hi:X.N.length=i:=by rfl)(hc:X.calm=true:=by rfl)(hN:(X.N++[x,y]).Nodup:=by exact d_)(U:∀C fp s₀ H₀,(X.comp scope [x,y] C fp s₀ H₀).env.scope.names.lookup x=some .local:=by exactλ_ _ _ _=>rfl)(J:∀C fp s₀ H₀,(X.comp scope [x,y] C fp s₀ H₀).env.scope.names.lookup y=some .local:=by exactλ_ _ _ _=>rfl)(h1:∀env,(assignEach [.Name x p,.Name y I] env).length=2:=by intro _;rfl)(h2:∀env,(assignEach [.Name x p,.Name y I] env).findIdx? (·.1)=none:=by intro _;rfl)(h3:∀env,(assignEach [.Name x p,.Name y I] env).map (·.2)=assign (.Name x p) env::(assignEach [.Name y I] env).map (·.2):=by intro _;rfl)(g:∀env,(assignEach [.Name y I] env).map (·.2)=assign (.Name y I) env::(assignEach [] env).map (·.2):=by intro _;rfl):EG X scope [x,y] (.Tuple [.Name x p,.Name y I] kt pt) (cW 2<|jb (qo i)<|jb (qo<|i+1) bL):=hi▸sh hc hN U J h1 h2 h3 g
def xJ:ji->Nat->ji
 |[],_=>[]
 |_::r,0=>none::r
 |o::r,i+1=>o::xJ r i
theorem y8:∀(τ:ji) (i:Nat),xJ τ i=τ.set i none
 |[],_=>rfl
 |_::_,0=>rfl
 |o::r,i+1=>by rw[xJ,y8 r i];rfl
def xr.ZX{σ:St}(h:xr G H σ τ)(i:Nat):xr G H (σ.set i none) (xJ τ i):=by
 rw[y8];refine{by simpa using h.len,λj y e=>?_};by_cases I:i=j
 .subst I;rw[List.getElem?_set] at e;simp at e
 .rw[AY I] at e ⊢;exact h.get j y e
def JJ(i:Nat)(D:xb):xb where
 nx:=λτ L=>D.nx (xJ τ i) L
 rt:=D.rt
 bk:=λτ L=>D.bk (xJ τ i) L
 ct:=λτ L=>D.ct (xJ τ i) L
def RL(G:G3)(H:Hp)(E3:X3)(E1:X1):Prop:=∀hE C H' I L',j7 H H'->xr G H' hE I->zv G H' L'->E3 I C L'->E1 hE (.ref C) H'
def JK(G:G3)(t:X3->bD):X1->TS:=λE1 D σ H=>∃τ L I E3,xr G H σ τ/\zv G H L/\t E3 I τ L/\yA G H I D/\RL G H E3 E1
def QB(X:Cx)(body:WU)(t:X3->bD):Prop:=∀(pn:List<|Addr×Obj) (xe:WK) (E1:X1),cB (X.tr pn xe) E1->jA (X.tr pn xe) body (JK X.g3 t E1)
def JL(K:Af)(J:Addr)(i:Nat)(tb:X3->bD)(th:bD)(D:xb)(τ:ji)(L:qm):Prop:=
 tb (λI C L'=>PySem.W.exmOne K (.ref C) (.ref J)=some true/\∀a,L' a=none->th (JJ i D) (bK I i<|.ref a) (qj L' a<|.exc C)) D τ L
section
variable {tr:fH}{cp:Pos}
def RM{k:Nat}{sp:mL}(c:l8 X.prog X.w X.K X.mg X.base k x ps sp)(hr:aR k X.A)(hg:Gl X x)(hx:X.ex=[])(ha:∀pn xe,QA (X.tr pn xe) (e::es) tr)(J:Fe x:=by decide)
 (he:Fb e es X:=by rfl) (U:Fc cp es X:=by rfl) (hs:swapsWith (.Call (.Name x p) (e::es) [] cp) none pos.line X.env=pure false:=by rfl):
 QB X [.Expr (.Call (.Name x p) (e::es) [] cp) pos] (λE3=>vv<|eB sp E3 tr):=by
 obtain⟨f,fd,F,b,kp,m⟩:=c.ex;intro pn xe E1 ht;refine jA.imp (H0<|yz (uK (X:=X.tr pn xe) F hr hg m kp b ht hx (ha pn xe) J he U) hs) λD σ H ψ=>?_;obtain⟨g,L,D3,E3,j,rl,z,k,kx⟩:=ψ;exact{g,L,_,j,rl,z,λvs H1 ys L1 I l o z1=>{ys,L1,_,E3 g,o,l,z1,(λv H2 y L2 T r a1 z2=>k.nx _ H2 _ L2 (I.trans T) (j.ts<|I.trans T) r z2),λC H' L' t' t q=>kx σ C H' g L' (I.trans t') (j.ts<|I.trans t') t q}}
def RN{Dc:Addr}{n:Str}{j:Pos}{I:WU}{g:Stmt}{tb:X3->bD}{th:bD}(hs:X.stack=X.env::X.outer)(hf:X.env.frame=some X.env.locals)(hx:X.ex=[])(hN:X.N.Nodup)(hi:X.N[i]?=some n)
 (hk:X.env.scope.names.lookup n=some .local) (hg:Gl X x) (hm:X.mg x=some (.ref Dc)) (hb:QB X body tb) (hh:∀a,uD (X.XH a) (g::I) th)
 (a1:Fe x:=by decide):QS X (.Try body [.ExceptHandler (some<|.Name x np) (some n) (g::I) j] [] [] pos) (JL X.K Dc i tb th):=
 PS.imp (P8 (tb:=JK X.g3 tb) (th:=Fz X.g3 th) hs hf hx hN hi hk hg hm hb hh a1) λD σ H ψ=>by
 obtain⟨τ,L,D3,rs,rl,z,k⟩:=ψ
 refine{τ,L,D3,_,rs,rl,z,k,λa4 C H' a2 L' t' a3 l ⟨em,q⟩=>{C,rfl,em,λa oe ha hc=>?_}};have ta:j7 H' (upd H' a<|.Xs oe<|.own 0):=EX ha;refine{bK a2 i<|.ref a,qj L' a<|.exc C,JJ i D3,by rw[wv];exact(a3.ts ta).set rfl,λb u e=>?_,q a<|l.none ha,?_}
 .by_cases c:b=a
  .subst c;rw[q9] at e;cases e;exact{(oe),zu,hc}
  .rw[qf c] at e;exact(l b u e).keep ta (qp c)
 .have k2:=k.ts<|t'.trans ta;exact{λo p r L2 t J U T=>k2.nx _ p _ L2 t (J.ZX i) U T,k2.rt,λo p r L2 t J U T=>k2.bk _ p _ L2 t (J.ZX i) U T,λo p r L2 t J U T=>k2.ct _ p _ L2 t (J.ZX i) U T}
end
@[irreducible] def Zy (L:qm) (a:Addr) (k:Addr->Prop):Prop:=match L a with
 |some (.exc C)=>k C
 |_=>False
def tD{a:Addr}{k:Addr->Prop}(e:L a=some (.exc C))(h:k C):Zy L a k:=by unfold Zy;rw[e];exact h
def uC{a:Addr}{k:Addr->Prop}(h:Zy L a k):∃C,L a=some (.exc C)/\k C:=by
 unfold Zy at h;split at h
 .rename_i C e;exact{(C),e,h}
 .exact h.elim
def wL(K:Af)(u:W0)(te:xw)(τ:ji)(L:qm)(Q:YK):Prop:=te τ L λx L1=>match x with
 |.ref a=>Zy L1 a λC=>x_ K C/\∃b,PySem.W.kitOne K (.ref C) u=some b/\Q (.bl b) L1
 |_=>False
def JM(K:Af)(us:WP)(te:xw)(τ:ji)(L:qm)(Q:YK):Prop:=te τ L λx L1=>match x with
 |.ref a=>Zy L1 a λC=>x_ K C/\∃b,PySem.W.kitAny K (.ref C) us=some b/\Q (.bl b) L1
 |_=>False
def Gm(X:Cx)(es:WT)(vs:W6):Prop:=PA X es λ_ H Q=>Q vs H
section
variable {a:Expr}{pt:Pos}{vs:W6}
def RP:Gm X [] []:=cq
def aW(h:PE X e<|tC v)(t:Gm X es vs)(hs:Fb e es X:=by rfl):Gm X (e::es) (v::vs):=PA.imp (ko h t hs) λ_ _ _ q=>q
def cw(I:Gl X x)(J:X.mg x=some (.ref C))(hd:Fe x:=by decide):PE X (.Name x p) (tC<|.ref C):=IG I J hd
def uP(j:Gl X "isinstance")(l:X.mg "isinstance"=none)(o:QE X a ta)(hc:PE X c<|tC v)(r:Ew v=some u)
 (hs:starEach [a,c] X.env=(false,eval a X.env)::starEach [c] X.env:=by rfl) (J:starEach [c] X.env=(false,eval c X.env)::starEach [] X.env:=by rfl) (t:(backTo pos<|starEach [c] X.env).any (·.1)=false:=by rfl):
 QE X (.Call (.Name "isinstance" p) [a,c] [] pos) (wL X.K u ta):=by
 refine E8 (fZ oP j l ao (ko o (ko hc cq J) hs) (by decide) (by decide) hs t) ?_;rintro σ H Q ⟨T,L,Q3,rs,rl,z,k⟩;refine{T,L,_,rs,rl,z,λw H1 y L1 t1 I U g=>?_};cases y with
 |ref b=>
  obtain⟨C,e,hd,bb,kk,q⟩:=uC g;cases U;exact{b,C,v,rfl,I b _ e,hd,.inl {u,bb,r,kk,k _ H1 _ L1 t1 I (by rfl) q}}
 |_=>exact g.elim
def RQ(t:Gl X "isinstance")(T:X.mg "isinstance"=none)(ha:QE X a ta)(hc:Gm X es vs)(hv:vs.map Ew=us.map some)(hl:vs.length<=1000)
 (hs:starEach [a,.Tuple es kt pt] X.env=(false,eval a X.env)::starEach [.Tuple es kt pt] X.env:=by rfl) (J:starEach [.Tuple es kt pt] X.env=(false,eval (.Tuple es kt pt) X.env)::starEach [] X.env:=by rfl) (hp:(backTo pos<|starEach [.Tuple es kt pt] X.env).any (·.1)=false:=by rfl):
 QE X (.Call (.Name "isinstance" p) [a,.Tuple es kt pt] [] pos) (JM X.K us ta):=by
 refine E8 (fZ oP t T ao (ko ha (ko (xG hc) cq J) hs) (by decide) (by decide) hs hp) ?_;rintro σ H Q ⟨τ,L,Q3,rs,rl,z,k⟩;refine{τ,L,_,rs,rl,z,λw U y L1 t1 I g l=>{cZ hl,λq o=>?_}};cases y with
 |ref b=>
  obtain⟨C,e,hd,bb,kk,z2⟩:=uC l;cases g;have r:j7 U (upd U q<|.tup vs):=EX o;obtain⟨oe,ho,j⟩:=(I b _ e:G6 X.K U b C);refine{b,C,.ref q,rfl,{oe,r _ _ rfl ho,j},hd,.inr {q,vs,us,bb,rfl,.inl<|.inl zu,hv,kk,k _ _ _ L1 (t1.trans r) (I.skip o) (by rfl) z2}}
 |_=>exact l.elim
end
def Hs:X3:=λ_ _ _=>False
def JN :cB X (ER X.g3 Hs):=λ_ _ _ _ _ _ _ _ _ _ _ ψ=>(by obtain⟨_,_,_,_,_,_,z⟩:=ψ;exact z.elim)
def pK:bootBuiltins "ValueError"=some (.type "ValueError"):=by decide +kernel
section
open PySem.W
def xA{K:Frag}(q:excIn K C [.type "ValueError",.type "Exception",.type "BaseException",.type "object"] "ValueError.__new__"=true):Fy K C:=P0 q DS (by decide +kernel) DS
section
variable {K:Frag}{D:Addr}{t c:W0}{b:Bool}
def Re{cd:ClassData}(ne:(Value.ref C==Value.ref D)=false)(h1:clsIn K D=some cd)(h2:typeIn K (.ref D)=some (.type "type"))(h3:subIn K (.ref C) (.ref D)=some b):kitOne K (.ref C) (.ref D)=some b:=by unfold kitOne;rw[AB (by rw[ne];exact AH)];unfold kitCls;simp only[h1,h2,DQ,beq_self_eq_true,Bool.and_self,if_true];exact h3
def YY{T:W5}(I:kitMeta T=true)(h3:subIn K (.ref C) (.type T)=some b):kitOne K (.ref C) (.type T)=some b:=by unfold kitOne;rw[AB (by intro q;cases beq_iff_eq.mp q)];unfold kitCls;simp only[I,if_true];exact h3
def KM{r:WP}(h:kitOne K t c=some false)(k:kitAny K t r=some b):kitAny K t (c::r)=some b:=by unfold kitAny;rw[h];exact k
def YX{cd:ClassData}(h0:subIn K (.ref D) (.type "BaseException")=some true)(h1:clsIn K D=some cd)(h2:typeIn K (.ref D)=some (.type "type"))(h3:subIn K (.ref C) (.ref D)=some b):exmOne K (.ref C) (.ref D)=some b:=by unfold exmOne;rw[AC (by rw[h0];rfl)];unfold kitCls;simp only[h1,h2,DQ,beq_self_eq_true,Bool.and_self,if_true];exact h3
def Zi{cd:ClassData}(ga:findIn K (.ref C) "__getattribute__"=some (some<|.builtin "BaseException.__getattribute__"))(gt:findIn K (.ref C) "__getattr__"=some none)(cl:findIn K (.ref C) "__class__"=some (some<|.builtin "object.__class__"))
 (ge:specialIn K (.builtin "object.__class__") "__get__"=some (some<|.builtin "getset_descriptor.__get__")) (tk:takesIn K (.builtin "object.__class__")=some true) (mo:mroIn K C (.type "object")=some true) (be:subIn K (.ref C) (.type "BaseException")=some true) (h:clsIn K C=some cd):x_ K C:=
 ⟨⟨ga,gt,cl,ge,tk,mo,be⟩,by rw[h];rfl⟩
end
end
def Yp(X:Cx)(ops:List CmpOp)(es:WT)(t:V->TE):Prop:=∀(pos:Pos) (pins:List<|Addr×Obj) (s:W1) (σ:St) (H:Hp) (x:V) (v:W0) (Q:VK),qx X pins σ H s->zr x v->t x σ H Q->_w X (compareChain pos v ops<|evalEach es X.env) (EP X pins σ Q) X.xe s
def kM(X:Cx)(ops:List CmpOp)(es:WT)(t:V->TE):Prop:=∀(pos:Pos) (pins:List<|Addr×Obj) (s:W1) (σ:St) (H:Hp) (x:V) (v:W0) (Q:Bool->Hp->Prop),qx X pins σ H s->zr x v->(t x σ H λz H'=>∃k,z=.bl k/\Q k H')->_w X (testChain pos v ops<|evalEach es X.env) (TP X pins σ Q) X.xe s
def Ht(r:R2)(tb:TE):V->TE:=λx σ H Q=>tb σ H λy H1=>r x y H1 Q
def Hu(r:R2)(tb:TE)(u:V->TE):V->TE:=λx σ H Q=>tb σ H λy H1=>r x y H1 λz H2=>∃k,z=.bl k/\(if k=true then u y σ H2 Q else Q (.bl false) H2)
section
variable {a b:Expr}{ta tb:TE}{op mv:CmpOp}{ops:List CmpOp}{r:R2}{u:V->TE}
def RS(g:w6 X (compareOp op) r)(j:PE X b tb):Yp X [op] [b] (Ht r tb):=by intro pos J s U H x v Q I l h;exact chain_last<|aM (j J s U H _ I h) λo p ψ=>(by obtain⟨y,t,C,T,q1⟩:=ψ;exact g J p U t x y v o Q C l T q1)
def RT(t:w6 X (compareOp op) r)(C:PE X b tb)(T:Yp X (mv::ops) (c::es) u):Yp X (op::mv::ops) (b::c::es) (Hu r tb u):=by intro pos J s U H x v Q I rx h;refine chain_link<|aM (C J s U H _ I h) λg s1 ⟨y,H1,I1,j,q1⟩=>aM (t J s1 U H1 x y v g _ I1 rx j q1) λd s2 ψ=>?_;obtain⟨z,l,o,r2,k,e,p⟩:=ψ;subst e;cases r2;refine wpAny_truthy_bool ?_;cases k with|false=>exact ite_ff {.bl false,l,o,rfl,p}|true=>exact ite_tt<|T pos J s2 U l y g Q o j p
def RU(U:PE X a ta)(h:Yp X (op::mv::ops) (b::c::es) u)(g:lastMarks (op::mv::ops) (b::c::es)=false):PE X (.Compare a (op::mv::ops) (b::c::es) pos) (λσ H Q=>ta σ H λx H1=>u x σ H1 Q):=by intro J s σ H Q I j;exact Compare_chain (aM (U J s σ H _ I j) λv l ψ=>(by obtain⟨x,H1,o,p,r⟩:=ψ;exact h pos J l σ H1 x v Q o p r)) g
def RW(g:w6 X (compareOp op) r)(j:PE X b tb):kM X [op] [b] (Ht r tb):=by intro pos J s U H x v Q I l h;refine test_last<|aM (j J s U H _ I h) λo p ⟨y,t,C,T,q1⟩=>aM (g J p U t x y v o _ C l T q1) λd s2 ψ=>?_;obtain⟨z,H2,I2,r2,k,e,q2⟩:=ψ;subst e;cases r2;exact wpAny_truthy_bool {(H2),I2,q2}
def RX(t:w6 X (compareOp op) r)(C:PE X b tb)(T:kM X (mv::ops) (c::es) u):kM X (op::mv::ops) (b::c::es) (Hu r tb u):=by
 intro pos J s U H x v Q I rx h;refine test_link<|aM (C J s U H _ I h) λg s1 ⟨y,H1,I1,j,q1⟩=>aM (t J s1 U H1 x y v g _ I1 rx j q1) λd s2 ψ=>?_;obtain⟨z,l,o,r2,k,e,p⟩:=ψ;subst e;cases r2;refine wpAny_truthy_bool ?_;cases k with
 |false=>
  obtain⟨k',e',q'⟩:=p;cases e';exact ite_ff {(l),o,q'}
 |true=>exact ite_tt<|T pos J s2 U l y g Q o j p
def RY(U:PE X a ta)(h:kM X (op::mv::ops) (b::c::es) u)(g:lastMarks (op::mv::ops) (b::c::es)=false):PT X (.Compare a (op::mv::ops) (b::c::es) pos) (GQ λσ H Q=>ta σ H λx H1=>u x σ H1 Q):=by intro J s σ H Q I j;exact isTrue_chain (aM (U J s σ H _ I j) λv l ψ=>(by obtain⟨x,H1,o,p,r⟩:=ψ;exact h pos J l σ H1 x v Q o p r)) g
end
def yP(ta:xw)(u:Y->xw)(τ:ji)(L:qm)(Q:YK):Prop:=ta τ L λx L1=>u x τ L1 Q
def Hv(r:pU)(tb:xw)(x:Y)(τ:ji)(L:qm)(Q:YK):Prop:=tb τ L λy L1=>r x y L1 Q
def Hw(r:pU)(tb:xw)(u:Y->xw)(x:Y)(τ:ji)(L:qm)(Q:YK):Prop:=tb τ L λy L1=>r x y L1 λz L2=>match z with
 |.bl k=>aC k (u y τ L2 Q)<|Q (.bl false) L2
 |_=>False
def f'(G:G3)(u:Y->xw):V->TE:=λx σ H Q=>∃y τ L I,RV G H y x/\xr G H σ τ/\zv G H L/\u y τ L I/\tK G H I Q
def Yp.imp{ops:List CmpOp}{t u:V->TE}(h:Yp X ops es t)(q:∀x σ H Q,u x σ H Q->t x σ H Q):Yp X ops es u:=λpos J s σ H x v Q I r z=>h pos J s σ H x v Q I r<|q _ _ _ _ z
def kM.imp{ops:List CmpOp}{t u:V->TE}(h:kM X ops es t)(q:∀x σ H Q,u x σ H Q->t x σ H Q):kM X ops es u:=λpos J s σ H x v Q I r z=>h pos J s σ H x v Q I r<|q _ _ _ _ z
def yh{r:pU}(x:V)(σ:St)(H:Hp)(Q:VK):f' G (Hv r tb) x σ H Q->Ht (gS G r) (rj G tb) x σ H Q:=λ ψ=>by
 obtain⟨y,g,L,j,l,o,p,z,k⟩:=ψ
 exact {g,L,_,o,p,z,λv H1 t C U I J T=>{y,t,C,j,l.ts U,J,I,T,k.ts U}}
def ye{r:pU}{u:Y->xw}(x:V)(σ:St)(H:Hp)(Q:VK):f' G (Hw r tb u) x σ H Q->Hu (gS G r) (rj G tb) (f' G u) x σ H Q:=λ⟨y,o,L,Q3,rv,p,rl,z,k⟩=>
 ⟨o,L,_,p,rl,z,λv H1 t L1 U j I z1=>{y,t,L1,_,rv.ts U,I,j,z1,λv2 H2 y2 L2 g J l C=>by
  cases y2 with
  |bl T=>
   refine{T,l,?_};have z3:=C;cases T with|true=>rw[AC rfl];exact{t,o,L2,Q3,I.ts g,p.ts<|U.trans g,J,z3,k.ts<|U.trans g}|false=>rw[AB AH];exact k _ H2 _ L2 (U.trans g) J (by rfl) z3
  |_=>exact C.elim}⟩
section
variable {a b:Expr}{op mv:CmpOp}{ops:List CmpOp}{r:pU}{u:Y->xw}
def u6(I:w6 X (compareOp op)<|gS X.g3 r)(J:QE X b tb):Yp X [op] [b] (f' X.g3<|Hv r tb):=Yp.imp (RS I J) yh
def uF(I:w6 X (compareOp op)<|gS X.g3 r)(J:QE X b tb)(U:Yp X (mv::ops) (c::es)<|f' X.g3 u):Yp X (op::mv::ops) (b::c::es) (f' X.g3<|Hw r tb u):=Yp.imp (RT I J U) ye
def RZ(I:w6 X (compareOp op)<|gS X.g3 r)(J:QE X b tb):kM X [op] [b] (f' X.g3<|Hv r tb):=kM.imp (RW I J) yh
def qQ(I:w6 X (compareOp op)<|gS X.g3 r)(J:QE X b tb)(U:kM X (mv::ops) (c::es)<|f' X.g3 u):kM X (op::mv::ops) (b::c::es) (f' X.g3<|Hw r tb u):=kM.imp (RX I J U) ye
def uN(σ:St)(H:Hp)(Q:VK):rj G (yP ta u) σ H Q->(λσ H Q=>rj G ta σ H λx H1=>f' G u x σ H1 Q) σ H Q:=λ ψ=>by
 obtain⟨U,L,l,g,o,z,k⟩:=ψ
 exact {U,L,_,g,o,z,λv H1 y p j I J r=>{y,U,p,l,J,g.ts j,I,r,k.ts j}}
def vP(I:QE X a ta)(h:Yp X (op::mv::ops) (b::c::es)<|f' X.g3 u)(J:lastMarks (op::mv::ops) (b::c::es)=false:=by with_unfolding_all rfl):QE X (.Compare a (op::mv::ops) (b::c::es) pos) (yP ta u):=E8 (RU I h J) uN
def R4(J:QE X a ta)(h:kM X (op::mv::ops) (b::c::es)<|f' X.g3 u)(U:lastMarks (op::mv::ops) (b::c::es)=false:=by with_unfolding_all rfl):QT X (.Compare a (op::mv::ops) (b::c::es) pos) (yB<|yP ta u):=
 PT.imp (RY J h U) λI H Q q=>uN I H _<|Ha I H Q q
end
theorem r9:∀{bs:List Bool} {us:WP},zk (bs.map V.bl) us->us=bs.map Value.bool
 |[],_,.nil=>rfl
 |b::bs,_,.cons r t=>by cases (show _=Value.bool b from r);rw[r9 t];rfl
def R5(hc:X.calm=true:=by rfl):jh X (.builtin "all") (λxs H Q=>∃(a:Addr) (bs:List Bool),xs=[.ref a]/\aY X.K H a (bs.map V.bl)/\Q (.bl<|bs.all id) H):=by
 rintro l s σ H xs us Q I r⟨a,bs,rfl,sq,q⟩;obtain⟨u,rfl,o⟩:=rG r;cases o;obtain⟨p,t,C,_⟩:=I.list sq;cases r9 t;have g:=xj C;have j:a<s.heap.objs.size:=by obtain⟨_,e,_⟩:=g;exact wh e
 refine ja I.tk<|call_all_walk<|wpAny_pyIter_list g ?_;refine{s.heap.objs.size,[s.heap.objs.size,a],[s.heap.objs.size],(bs.map Value.bool).toArray.size,_,_,λi=>(bs[i]?).getD true,rfl,Walks.list (A:=X.A.in1) (I.ok.hd hc) _ a (A3 j) (bs.map Value.bool).toArray,
  ⟨⟨_,xT _ rfl,rfl,rfl⟩,g.push _⟩,λi v T Q' E' J U=>?_,λh' tk hk ht=>?_}
 .have J:(bs.map Value.bool).toArray[i]?=some v:=J;rw[List.getElem?_toArray,Al] at J;obtain⟨b,e,rfl⟩:=Aq.mp J;have U:Q' ((bs[i]?).getD true) T:=U;rw[e] at U;exact wpAny_truthy_bool U
 .have e:((List.range (bs.map Value.bool).toArray.size).all λi=>(bs[i]?).getD true)=bs.all id:=by rw[Ar,Ac];exact PyProof.Rows.LSm.range_all bs
  rw[e];exact{.bl _,H,I.kept (h':=h') (t':=tk)<|DU hk,rfl,q}
def R6(hc:X.calm=true:=by rfl):jh X (.builtin "any") (λxs H Q=>∃(a:Addr) (bs:List Bool),xs=[.ref a]/\aY X.K H a (bs.map V.bl)/\Q (.bl<|bs.any id) H):=by
 rintro l s σ H xs us Q I r⟨a,bs,rfl,sq,q⟩;obtain⟨u,rfl,o⟩:=rG r;cases o;obtain⟨p,t,C,_⟩:=I.list sq;cases r9 t;have g:=xj C;have j:a<s.heap.objs.size:=by obtain⟨_,e,_⟩:=g;exact wh e
 refine ja I.tk<|call_any_walk<|wpAny_pyIter_list g ?_;refine{s.heap.objs.size,[s.heap.objs.size,a],[s.heap.objs.size],(bs.map Value.bool).toArray.size,_,_,λi=>(bs[i]?).getD false,rfl,Walks.list (A:=X.A.in1) (I.ok.hd hc) _ a (A3 j) (bs.map Value.bool).toArray,
  ⟨⟨_,xT _ rfl,rfl,rfl⟩,g.push _⟩,λi v T Q' E' J U=>?_,λh' tk hk ht=>?_}
 .have J:(bs.map Value.bool).toArray[i]?=some v:=J;rw[List.getElem?_toArray,Al] at J;obtain⟨b,e,rfl⟩:=Aq.mp J;have U:Q' ((bs[i]?).getD false) T:=U;rw[e] at U;exact wpAny_truthy_bool U
 .have e:((List.range (bs.map Value.bool).toArray.size).any λi=>(bs[i]?).getD false)=bs.any id:=by rw[Ar,Ac];exact PyProof.Rows.LSm.range_any bs
  rw[e];exact{.bl _,H,I.kept (h':=h') (t':=tk)<|DU hk,rfl,q}
def Fh:_x->Option (List Bool)
 |[]=>some []
 |.bl b::r=>(Fh r).map (b::·)
 |_::_=>none
def fk(bs:List Bool):Fh (bs.map Y.bl)=some bs:=by induction bs with|nil=>rfl|cons b r I=>show(Fh<|r.map Y.bl).map (b::·)=_;rw[I];rfl
theorem oE{G:G3}{H:Hp}:∀{ys:_x} {xs:W6} {bs:List Bool},Fh ys=some bs->va G H ys xs->xs=bs.map V.bl
 |[],_,_,h,r=>by cases h;exact r
 |y::ys,_,bs,h,ψ=>by
  obtain⟨x,I,e,J,U⟩:=ψ
  cases y with
  |bl b=>
   have g:=h;obtain⟨l,j,rfl⟩:=Aq.mp g;cases (show x=V.bl b from J);rw[e,oE j U];rfl
  |_=>cases h
def JO(xs:_x)(L:qm)(Q:YK):Prop:=match xs with
 |[y]=>y4 y=true/\gl L y λys=>wX L (λbs L=>Q (.bl<|List.all bs id) L)<|Fh ys
 |_=>False
def JP(xs:_x)(L:qm)(Q:YK):Prop:=match xs with
 |[y]=>y4 y=true/\gl L y λys=>wX L (λbs L=>Q (.bl<|List.any bs id) L)<|Fh ys
 |_=>False
def yg(hc:X.calm=true:=by rfl):jh X (.builtin "all") (f_ X.g3 JO):=FD (R5 hc) λj H Q l L o J I z k=>by
 unfold JO at z;split at z
 .rename_i y;obtain⟨x,rfl,r⟩:=J.inv1;obtain⟨U,z⟩:=z;obtain⟨p,g,z⟩:=aD z;obtain⟨bs,eb,z⟩:=jH z;obtain⟨a,t,rfl,sq,rr⟩:=jY I r U g;cases oE eb rr;exact{a,bs,rfl,sq,k _ H _ L (EW _) I (by rfl) z}
 .exact z.elim
def R7(hc:X.calm=true:=by rfl):jh X (.builtin "any") (f_ X.g3 JP):=FD (R6 hc) λj H Q l L o J I z k=>by
 unfold JP at z;split at z
 .rename_i y;obtain⟨x,rfl,r⟩:=J.inv1;obtain⟨U,z⟩:=z;obtain⟨p,g,z⟩:=aD z;obtain⟨bs,eb,z⟩:=jH z;obtain⟨a,t,rfl,sq,rr⟩:=jY I r U g;cases oE eb rr;exact{a,bs,rfl,sq,k _ H _ L (EW _) I (by rfl) z}
 .exact z.elim
def re:bootBuiltins "all"=some (.builtin "all"):=by decide +kernel
def R8:bootBuiltins "any"=some (.builtin "any"):=by decide +kernel
def Hx:Y->Option jn
 |.int i=>some<|.inl i
 |.str x=>some<|.inr x
 |_=>none
def tj{k:jn}(h:Hx y=some k)(r:RV G H y v):v=kV k:=by cases y with|int i=>cases h;exact r|str x=>cases h;exact r|_=>cases h
def pY(kvs:List<|jn×Y)(k:jn)(y:Y):List (jn×Y):=
 if (kvs.any λI=>decide<|I.1=k)=true then kvs.map (λI=>if I.1=k then(I.1,y) else I) else kvs++[(k,y)]
def j7.XI{p:Addr}{zs:List<|jn×V}{o:HO}(h:H p=some (.dK zs)):j7 H (upd H p o):=λa u i q=>by rw[qp ?_];exact q;rintro rfl;rw[h] at q;cases q;cases i
def R9{kvs:List<|jn×Y}{xs:List<|jn×V}(p:Paired (λ(p:jn×Y) (q:jn×V)=>p.1=q.1/\RV G H p.2 q.2) kvs xs)(k:jn):(kvs.any λI=>decide<|I.1=k)=xs.any λI=>decide (I.1=k):=by induction p with|nil=>rfl|cons r t J=>rw[Cz,Cz,J,r.1]
def Sa{kvs:List<|jn×Y}{xs:List<|jn×V}(p:Paired (λ(p:jn×Y) (q:jn×V)=>p.1=q.1/\RV G H p.2 q.2) kvs xs)(k:jn)(r:RV G H y v):
 Paired (λ(p:jn×Y) (q:jn×V)=>p.1=q.1/\RV G H p.2 q.2) (kvs.map λI=>if I.1=k then(I.1,y) else I) (xs.map λI=>if I.1=k then(I.1,v) else I):=by
 induction p with
 |nil=>exact .nil
 |@cons a b _ _ J t U=>
  refine .cons ?_ U;obtain⟨e,q⟩:=J;dsimp only;by_cases c:a.1=k
  .rw[AC c,AC<|e▸c];exact{(e),r}
  .rw[AB c,AB λz=>c<|e.trans z];exact{(e),q}
def Sb{kvs:List<|jn×Y}{xs:List<|jn×V}(p:Paired (λ(p:jn×Y) (q:jn×V)=>p.1=q.1/\RV G H p.2 q.2) kvs xs)(k:jn)(r:RV G H y v):
 Paired (λ(p:jn×Y) (q:jn×V)=>p.1=q.1/\RV G H p.2 q.2) (kvs++[(k,y)]) (xs++[(k,v)]):=by
 induction p with|nil=>exact .cons {(rfl),r} .nil|cons I t J=>exact .cons I J
def Sc{kvs:List<|jn×Y}{xs:List<|jn×V}(p:Paired (λ(p:jn×Y) (q:jn×V)=>p.1=q.1/\RV G H p.2 q.2) kvs xs)(k:jn)(r:RV G H y v):
 Paired (λ(p:jn×Y) (q:jn×V)=>p.1=q.1/\RV G H p.2 q.2) (pY kvs k y) (fb xs k v):=by
 unfold pY fb;rw[R9 p k];by_cases c:(xs.any λI=>decide<|I.1=k)=true
 .rw[AC c,AC c];exact Sa p k r
 .rw[AB c,AB c];exact Sb p k r
def Sd{R:α->β->Prop}{l:List α}{m:List β}(p:Paired R l m):l.length=m.length:=by induction p with|nil=>rfl|cons _ _ I=>rw[AK,AK,I]
def JQ(_:ji)(L:qm)(Q:YK):Prop:=∀p,L p=none->Q (.ref p) (qj L p<|.XI [])
def jI(td ti:xw)(τ:ji)(L:qm)(Q:YK):Prop:=td τ L λx L1=>ti τ L1 λy L2=>match x,Hx y with
 |.ref a,some k=>wM L2 a λkvs=>wX L2 Q<|bA kvs k
 |_,_=>False
def JR(td ti tv:xw)(D:xb)(τ:ji)(L:qm):Prop:=tv τ L λv L1=>td τ L1 λx L2=>ti τ L2 λy L3=>match x,Hx y with
 |.ref a,some k=>wM L3 a λkvs=>kvs.length<sizeLine/\D.nx τ (qj L3 a<|.XI<|pY kvs k v)
 |_,_=>False
section
variable {i:Expr}{td tv:xw}
def Se:QE X (.Dict [] [] pos) JQ:=EY OK λU H Q g L j l J z k=>λp I=>by
 refine k _ _ _ (qj L p<|.XI []) (EX I) (λa u e=>?_) (by rfl)<|z p<|J.none I;by_cases c:a=p
 .subst c;rw[q9] at e;cases e;exact{[],zu,.nil}
 .rw[qf c] at e;exact(J a u e).keep (EX I) (qp c)
def cR(hu:X.A.units+128<cLine)(t:QE X o td)(hi:QE X i ti)(hs:GV i):QE X (.Subscript o i pos) (jI td ti):=EY (OH (by omega) t hi hs) λσ H Q l L Q3 p C z k=>
 ⟨l,L,_,p,C,z,λv H1 x T r J U z1=>{l,T,_,p.ts r,J,z1,λw H2 y L2 t2 I g j=>by
  split at j
  .rename_i a kk ek;obtain⟨a1,e,z3⟩:=oV j;obtain⟨yv,ev,q⟩:=jH z3;obtain⟨xs,e2,pr⟩:=I a _ e;obtain⟨xv,ex,rx⟩:=qZ pr ev;exact{a,xv,U,.inl {xs,kk,.inl e2,tj ek g,ex.symm},k _ H2 _ L2 (r.trans t2) I rx q}
  .exact j.elim}⟩
theorem Sf(hu:X.A.units+128<cLine)(ho:QE X o td)(hi:QE X i ti)(hv:QE X value tv)(hs:swapsWith value (some<|.Subscript o i fy) pos.line X.env=pure false:=by rfl):QS X (.Assign [.Subscript o i fy] value pos) (JR td ti tv):=
 E4 (OI (by omega) ho hi hv hs) λD σ H l L D3 J rl z k=>
 ⟨l,L,_,J,rl,z,λv H1 vy L1 U p r z1=>{l,L1,_,J.ts U,p,z1,λx H2 xy L2 g t C z2=>{l,L2,_,J.ts<|U.trans g,t,z2,λw H3 y L3 T I a1 z3=>by
  split at z3
  .rename_i a kk ek;obtain⟨a2,e,hl,q⟩:=oV z3;obtain⟨xs,e2,pr⟩:=I a _ e;have j:j7 H3 (upd H3 a<|.dK<|fb xs kk v):=j7.XI e2;cases (show x=V.ref a from C);refine{a,_,rfl,.inl {xs,kk,e2,tj ek a1,by rw[<-Sd pr];exact hl,rfl},?_};refine k.nx _ _ _ _ (((U.trans g).trans T).trans j) (J.ts<|((U.trans g).trans T).trans j) (λb u eb=>?_) q;by_cases c:b=a
   .subst c;rw[q9] at eb;cases eb;exact{_,zu,E6 (Sc pr kk<|r.ts<|g.trans T) λ_ _ ψ=>(by obtain⟨h1,h2⟩:=ψ;exact {h1,h2.ts j})}
   .rw[qf c] at eb;exact(I b u eb).keep j (qp c)
  .exact z3.elim}}⟩
end
def dU(to ti tv:xw)(D:xb)(τ:ji)(L:qm):Prop:=tv τ L λv L1=>to τ L1 λx L2=>ti τ L2 λy L3=>match x,y with
 |.ref a,.int i=>cM L3 a λys=>wX L3 (λj L=>D.nx τ<|qj L a<|.lst<|ys.set j v)<|rg ys.length i
 |_,_=>False
section
variable {i:Expr}{tv:xw}
theorem am(ho:QE X o to)(hi:QE X i ti)(hv:QE X value tv)
 (ha:∀v,assign (.Subscript o i fy) X.env v=(do
  let J <-holding [v] (eval o X.env)
  let p <-holding [v,J] (eval i X.env)
  standAt fy
  holding [v,J,p] (setItem J p v)
  release [v,J,p] []):=by intro _;rfl)
 (h1:swapsWithSole [.Subscript o i fy] value pos.line X.env=pure false:=by rfl) (h2:swappedStores [.Subscript o i fy] value X.env=pure none:=by rfl)
 (h3:(assignEach [.Subscript o i fy] X.env).map (·.2)=[assign (.Subscript o i fy) X.env]:=by rfl):QS X (.Assign [.Subscript o i fy] value pos) (dU to ti tv):=
 E4 (Ib hv (Ia ho hi vM ha) h1 h2 h3) λD σ H t L D3 U rl z k=>
 ⟨t,L,_,U,rl,z,λv H1 vy L1 g C T z1=>{t,L1,_,U.ts g,C,z1,λx H2 xy L2 l a1 a2 z2=>{t,L2,_,U.ts<|g.trans l,a1,z2,λw H3 y L3 t3 I a3 z3=>by
  split at z3
  .rename_i a ii;obtain⟨ys,e,z4⟩:=xa z3;obtain⟨j,ej,q⟩:=jH z4;obtain⟨xs,e2,r⟩:=I a _ e;cases (show x=V.ref a from a2);cases (show w=V.int ii from a3);have tt:j7 H3 (upd H3 a<|.lst<|xs.set j v):=E7 e2;exact{a,xs,ii,j,rfl,rfl,e2,by rw[<-r.length];exact ej,k.nx _ _ _ _ (((g.trans l).trans t3).trans tt) (U.ts<|((g.trans l).trans t3).trans tt) (I.X4 e2<|va.Zr (T.ts<|l.trans t3) j r) q}
  .exact z3.elim}}⟩
end
section
variable {v₁ v₂:Expr}{te:TE}{u:Str->TE}
end
section
variable {v₁ v₂:Expr}{u:Str->xw}
end
section
variable {tv:xw}{tr:fH}{f m:Str}{g:Addr}
end
open PySem.AutoSeq1 (wpAny_loadPart')
section
open MeetsSeq MeetsSeq2 MeetsSeq3 SeqRoads2
end
section
open PySem.Builtin.Str
def len_list(x:Str):x.cps.toList.length=x.length:=by simp[Str.length]
end
section
variable {isp imk c j1 j2:Nat}{sp mk:Str}{u:Tok}{m:WM}{p6 p7 p8 p9 p10:Pos}{Q:Flow->W1->Prop}
end
def Sg(s:Stmt):WU:=match s with
 |.ClassDef _ _ _ b _ _ _ _ _ _ _=>b
 |_=>[]
section
variable {tr:fH}{m:Str}{k:Nat}{sp:vt}
end
section
variable {te:TE}
end
section
variable {a T:Addr}{tr:Option Addr}
end
section
variable {T:WS}{iter:Expr}{g:TG}{tc:TT}{te:TE}
end
section
variable {a b T:Addr}{tr:Option Addr}{E1:X1}
end
section
variable {k:Nat}{E1:X1}{t:TA}
end
section
variable {T:WS}{iter:Expr}{wi:q_}{tr:fH}{E3:X3}{Ea:Addr->qm->Prop}
end
theorem zk.Za:∀{xs:W6} {us:WP} (n:Nat),zk xs us->zk (xs.take n) (us.take n)
 |[],_,n,.nil=>by simp;exact .nil
 |_::_,_,0,.cons _ _=>.nil
 |_::_,_,n+1,.cons r t=>.cons r<|zk.Za n t
theorem zk.Zb:∀{xs:W6} {us:WP} (n:Nat),zk xs us->zk (xs.drop n) (us.drop n)
 |[],_,n,.nil=>by simp;exact .nil
 |_::_,_,0,.cons r t=>.cons r t
 |_::_,_,n+1,.cons _ t=>zk.Zb n t
def Sh:V->W6->Hp->VK->Prop:=λx vs H Q=>∃l xs,∃i:Int,∃y,x=.ref l/\vs=[.int i,y]/\H l=some (.lst xs)/\0<=i/\i.toNat<=xs.length/\xs.length<=100000/\Q .GM (upd H l<|.lst<|xs.take i.toNat++y::xs.drop i.toNat)
def Si:iE X "list.insert" Sh:=by
 rintro o s σ H x vs v us Q I C T⟨l,xs,i,y,rfl,rfl,p,h0,hk,hz,q⟩;cases C;obtain⟨u0,u,rfl,r0,ru⟩:=T.two;obtain⟨t,rfl⟩:=(show ∃t,u0=Value.int i t from r0);obtain⟨z,J,n,r,hl,e⟩:=I.XU p;have hb:(100000:Nat)<sizeLine:=by decide
 have g:¬(!Builtin.List.listFitsIndex i)=true:=by unfold Builtin.List.listFitsIndex;simp;lia
 obtain⟨arr,U⟩:∃arr:WQ,arr=J.toArray:={_,rfl};have j:arr.size<=sizeLine:=by rw[U,Ar];lia
 have M:=PySem.AutoListH.list_insert_list_int_val_1 l arr n i t u g j;rw[U] at M;refine call_meets F.slot_list_insert {_,e,rfl} F.entry_list_insert (F.args_list_insert_3 _ _ _) M {e,?_};refine{.GM,_,I.Yw (its':=J.take i.toNat++u::J.drop i.toNat) p e ?_ ((r.Za i.toNat).append<|.cons ru<|r.Zb i.toNat) ?_,rfl,q}
 .have h1:¬(i<0):=by lia
  have h2:min i.toNat J.length=i.toNat:=by lia
  simp[h1,h2];exact A4 (by rw[BV];simp +arith only)
 .simp;lia
def mS(x:Y)(vs:_x)(L:qm)(Q:YK):Prop:=match x,vs with
 |.ref a,[.int i,v]=>cM L a λys=>(0<=i/\i<=ys.length/\ys.length<=100000)/\Q .GM (qj L a<|.lst<|ys.take i.toNat++v::ys.drop i.toNat)
 |_,_=>False
def Sj :iE X "list.insert" (i_ X.g3 mS):=iE.Xk Si λx t H Q y C L T j l U z k=>by
 unfold mS at z;split at z
 .rename_i a i v;obtain⟨zs,e,⟨h0,h1,h2⟩,z⟩:=xa z;obtain⟨o,I,r⟩:=U a _ e;obtain⟨v0,g,rfl,J,p⟩:=l.inv2;cases J;refine{a,o,i,g,j,rfl,I,h0,by rw[<-r.length];lia,by rw[<-r.length];exact h2,?_};exact k _ _ _ _ (E7 I) (U.X4 I<|(r.take _).app<|show va X.g3 H (v::_) _ from{g,_,rfl,p,r.drop _}) (by rfl) z
 .exact z.elim
def Sk{tr:fH}(I:QE X o to)(J:QA X (e::es) tr)(U:s_ X o e es "insert" apos fm:=by exact{(rfl),rfl,rfl,rfl,rfl}):
 QE X (.Call (.Attribute o "insert" apos) (e::es) [] fm) (iC mS to tr):=oW PySem.F.slot_list_insert PySem.F.type_list_insert Sj I J U
section
variable {w:W3}
theorem vQ{it t:Addr}{eH:WQ}(I:t≠it):∀(n i:Nat) (s:W1) (Q:WP->W1->Prop),s.heap.IsListIter it t i->s.heap.IsList t eH->i+n<=eH.size->
 (∀h',h'.IsListIter it t (i+n)->Heap.SameBut it s.heap h'->Q ((eH.toList.drop i).take n) {s with heap:=h'})->wpAny (model prog w) A (draw (.ref it) n) Q E s
 |0,i,s,Q,hit,_,_,g=>by unfold draw;exact Aj (by simpa using g s.heap hit (Heap.SameBut.refl ..))
 |n+1,i,s,Q,hit,p,r,g=>by
  have J:i<eH.size:=by omega
  unfold draw;refine Aa<|wpAny_pyNext_list_item hit p (x:=eH[i]) (by simp[J]) λg1 j U=>?_;refine Aa<|Bj<|vQ I n (i+1) _ _ j (p.extBut U.extBut I) (by lia) λg2 l o=>Aj ?_;have e:eH.toList.drop i=eH[i]::eH.toList.drop (i+1):=by simp[B4,J]
  have q:=g g2 (by rw[show i+(n+1)=i+1+n by simp +arith only];exact l)
   (U.trans o)
  rw[e,List.take_succ_cons] at q;exact q
def Sl{t:Addr}{eH:WQ}{Q:WL}(T:A.handled=none)(I:s.heap.IsList t eH)(hn:(assignEach ml env).length=eH.size)(j:(assignEach ml env).findIdx? (·.1)=none)
 (h:∀g,Heap.ExtBut s.heap.objs.size s.heap g->wpAny (model prog w) A (assignInOrder ((assignEach ml env).map (·.2)) eH.toList) Q E {s with heap:=g}):wpAny (model prog w) A (assign (.Tuple ml x1 pos) env<|.ref t) Q E s:=by
 have J:t≠s.heap.objs.size:=by obtain⟨o,ho,_⟩:=I;exact A3<|wh ho
 rw[arm_assign_Tuple];refine Aa<|wpAny_standAt ?_;unfold unpack;rw[hn,j];refine Aa<|Bj ?_;unfold unpackItems notIterableAtAll;refine Aa<|Aa<|wpAny_specialOf I.typeIs slot_list_iter.lookup ?_;refine Aj ?_;rw[AB (by simp)];refine Aa<|Bj<|wpAny_pyIter_list I ?_;refine Aa<|Bj<|vQ J eH.size 0 _ _ {_,xT _ rfl,rfl,rfl} (I.push _) (by simp +arith only) λg1 l U=>?_;have all:List.take eH.size (List.drop 0 eH.toList)=eH.toList:=by rw[DR];exact A4 (by simp)
 rw[all,AB (by simp)];have p:=(I.push _).extBut U.extBut J;refine Aa<|Bj<|wpAny_pyNext_list_end T l p (by simp) λg2 r=>?_;rw[AB (by simp)];exact Aj<|h g2 λb o C e=>r b o C<|U.extBut b o C<|vb _ e
end
def Sm(K:Af)(n:Nat)(t:g_):TG:=λv σ H Q=>∃a xs,v=.ref a/\aY K H a xs/\xs.length=n/\t xs σ H Q
def Sn{k:Nat}{t:g_}(hc:X.calm=true)(h:YH X es t)
 (j:(assignEach es X.env).length=n:=by rfl) (U:(assignEach es X.env).findIdx? (·.1)=none:=by rfl):PG X (.Tuple es k pos) (Sm X.K n t):=by
 rintro J s l H v u Q I r⟨a,p,C,T,hl,hw⟩;subst C;cases r;obtain⟨a1,g,pl,hz⟩:=I.list T;have ht:=xj pl;refine Sl (I.ok.hd hc) ht (by simp[j,<-hl,g.length]) U λh' hx=>?_;have I1:=I.kept (t':=s.toks) λb o e=>hx b o (A3<|wh e) e;exact h J _ l H p _ Q I1 (by simpa using g) hw
def So(l:Addr)(eH:WQ)(n:Nat)(x:W0)(b:Nat->Bool)(j:Nat)(C:j<eH.size)(hit:b j=true)(hz:eH.size<=sizeLine):∀(k i:Nat),j-i=k->i<=j->(∀m,i<=m->m<j->b m=false)->
 Meets (Builtin.«list.remove.loop» ⟨[.ref l,x,rawInt i],[]⟩) (λA R s=>s.heap.get? l=some {cls:=.type "list",dict:=none,data:=.seq eH n,slots:=#[]}/\(∀m (hm:m<eH.size),SeqAt.EqAt A.in1 s eH[m] x<|b m)/\R (.ok<|.ret .none) {s with heap:=s.heap.update l (Obj.mapSeq λxs=>xs.eraseIdxIfInBounds j)}):=by
 intro k
 induction k with
 |zero=>
  intro i T p J I w A R s h;obtain⟨hp,g,d,tk,os⟩:=s;obtain⟨U,eq,h⟩:=h;have e:i=j:=by lia
  subst e
  (wp_walk using wpAny_loadPart' U)
  have r:eH[((i:Nat):Int).toNat]?=some eH[i]:=by simp[C]
  rw[r];refine Aa<|eq i C I w _ _ ?_;rw[hit];have t:(eH.eraseIdxIfInBounds i).size<=sizeLine+1:=AS (MeetsSeq.size_erased eH _)<|B7 hz
  (wp_walk using (wpAny_updateSeq U rfl (hz:=hz) (_hz':=t)),wpAny_loadPart' U)
  simpa using h
 |succ k ih=>
  intro i T p J I w A R s h;obtain⟨hp,g,d,tk,os⟩:=s;obtain⟨U,eq,h⟩:=h;have o:i<eH.size:=by exact pM
  (wp_walk using wpAny_loadPart' U)
  have r:eH[((i:Nat):Int).toNat]?=some eH[i]:=by simp[o]
  have hc:((i:Int)+1)=((i+1:Nat):Int):=by rfl
  rw[r];refine Aa<|eq i o I w _ _ ?_;rw[J i (Am _) (by omega)]
  wp_walk
  rw[hc];refine{plainId_quiet Dd _,codeAny_builtin MeetsSeq.entry_remove_loop ?_};rw[Around.under_plainId Dd _];exact ih (i+1) (by omega) (by omega) (λm h1 h2=>J m (by exact jL) h2) I w A R _ {(U),eq,h}
def Sr(l:Addr)(eH:WQ)(n:Nat)(x:W0)(b:Nat->Bool)(j:Nat)(o:j<eH.size)(hit:b j=true)(hz:eH.size<=sizeLine)(J:∀m,m<j->b m=false):
 Meets (Builtin.«list.remove» ⟨[.ref l,x],[]⟩) (λA R s=>s.heap.get? l=some {cls:=.type "list",dict:=none,data:=.seq eH n,slots:=#[]}/\(∀m (p:m<eH.size),SeqAt.EqAt A.in1 s eH[m] x<|b m)/\R (.ok<|.ret .none) {s with heap:=s.heap.update l (Obj.mapSeq λxs=>xs.eraseIdxIfInBounds j)}):=by
 intro I w A R s h;obtain⟨r,g,d,tk,os⟩:=s;obtain⟨U,eq,h⟩:=h
 (wp_walk using wpAny_loadPart' U)
 refine{plainId_quiet Dd _,codeAny_builtin MeetsSeq.entry_remove_loop ?_};rw[Around.under_plainId Dd _];exact So l eH n x b j o hit hz _ 0 rfl (A5 _) (λm _ h2=>J m h2) I w A R _ {(U),eq,h}
theorem zk.YQ:∀{xs:W6} {us:WP} (n:Nat),zk xs us->zk (xs.eraseIdx n) (us.eraseIdx n)
 |[],_,n,.nil=>by simp;exact .nil
 |_::_,_,0,.cons _ t=>t
 |_::_,_,n+1,.cons r t=>.cons r<|zk.YQ n t
def Ss(X:Cx):V->W6->Hp->VK->Prop:=λx vs H Q=>∃l xs y ds e,∃n m j:Nat,x=.ref l/\vs=[y]/\H l=some (.lst xs)/\n<=126/\Paired (ag X.K H n) xs ds/\ag X.K H m y e/\j<ds.length/\(∃d,ds[j]?=some d/\Da.eq d e=true)/\
 (∀(k:Nat) d,k<j->ds[k]?=some d->Da.eq d e=false)/\Q .GM (upd H l<|.lst<|xs.eraseIdx j)
def Su(hu:X.A.units+128<cLine):iE X "list.remove" (Ss X):=by
 rintro a5 s σ H x vs v us Q I rx rv⟨l,p,y,g,e,n,m,j,rfl,rfl,hH,hn,pd,ry,hj,⟨dj,t,C⟩,T,q⟩;cases rx;obtain⟨u,rfl,ru⟩:=rv.one;obtain⟨z,J,nn,r,hl,eo⟩:=I.XU hH;have l1:=pd.length;have l2:=r.length.symm;obtain⟨arr,U⟩:∃arr:WQ,arr=J.toArray:={_,rfl};have a1:arr.size=J.length:=by rw[U,Ar]
 have b:Nat->Bool:=λ_=>true;have a2:arr.size<=sizeLine:=by rw[a1];lia
 have M:=Sr l arr nn u (λk=>((g[k]?).map λd=>Da.eq d e).getD false) j (by lia) (by show((g[j]?).map λd=>Da.eq d e).getD false=true;rw[t];exact C) a2 (λk o=>by show((g[k]?).map λd=>Da.eq d e).getD false=false;cases ek:g[k]? with|none=>rfl|some d=>exact T k d o ek)
 rw[U] at M;refine call_meets F.slot_list_remove {_,eo,rfl} F.entry_list_remove (F.args_list_remove_2 _ _) M {eo,λk o=>?_,?_}
 .have ac:k<J.length:=by rw[Ar] at o;exact o
  obtain⟨d,ed,rd⟩:=Paired.Zq pd<|Ag (by lia:k<p.length);show SeqAt.EqAt _ s _ u (((g[k]?).map λd=>Da.eq d e).getD false);rw[ed];obtain⟨u',a3,a4⟩:=Paired.Zq r<|Ag (by lia:k<p.length);have eg:J.toArray[k]=u':=by have:=(AN.mp a3).2;simpa using this
  rw[eg];exact yU I n (by show X.A.units+1+n<cLine;lia) rd ry a4 ru
 .refine{.GM,_,I.Yw (its':=J.eraseIdx j) hH eo ?_ (r.YQ j) ?_,rfl,q}
  .have:j<J.length:=by lia
   simp[Array.eraseIdxIfInBounds,this]
  .have:=Dm p j;exact GX
def JS(n:Nat)(t:uv)(y:Y)(τ:ji)(L:qm)(Q:ji->qm->Prop):Prop:=match y with
 |.ref a=>cM L a λys=>match ys.length==n with
  |true=>t ys τ L Q
  |false=>False
 |_=>False
def Sv{U:Nat}(hc:X.calm=true)(h:FQ X es gs)(h1:(assignEach es X.env).length=n:=by rfl)(h2:(assignEach es X.env).findIdx? (·.1)=none:=by rfl):QG X (.Tuple es U pos) (JS n gs):=
 PG.imp (Sn hc h h1 h2) λv σ H Q ψ=>by
 obtain⟨y,g,L,j,l,o,J,z,k⟩:=ψ
 cases y with
 |ref a=>
  cases (show v=.ref a from l);obtain⟨p,e,I⟩:=xa z;obtain⟨t,C,r⟩:=J a _ e;split at I
  .rename_i T;exact{a,t,rfl,FE C,by rw[<-r.length];exact beq_iff_eq.mp T,p,g,L,j,r,o,J,I,k}
  .exact I.elim
 |_=>exact z.elim
def mM(x:Y)(vs:_x)(L:qm)(Q:YK):Prop:=match x,vs with
 |.ref a,[v]=>cM L a λys=>∃ds e,∃n m j:Nat,n<=126/\Paired (jj L n) ys ds/\jj L m v e/\j<ds.length/\(∃d,ds[j]?=some d/\Da.eq d e=true)/\(∀(k:Nat) d,k<j->ds[k]?=some d->Da.eq d e=false)/\Q .GM (qj L a<|.lst<|ys.eraseIdx j)
 |_,_=>False
def Sw(C:X.A.units+128<cLine):iE X "list.remove" (i_ X.g3 mM):=iE.Xk (Su C) λx I H Q y U L Q3 T r2 g z k=>by
 unfold mM at z;split at z
 .rename_i a v;obtain⟨zs,e,J,de,n,m,j,hn,pd,dv,hj,hit,l,z⟩:=xa z;obtain⟨us,o,r⟩:=g a _ e;obtain⟨v',rfl,rv⟩:=r2.inv1;have both:∀{U:_x} {J:List Da} {I:W6},Paired (jj L n) U J->va X.g3 H U I->Paired (ag X.K H n) I J:=by
   intro U J I p
   induction p generalizing I with
   |nil=>intro q;cases (show I=[] from q);exact .nil
   |cons h t ih=>
    rintro⟨x,a1,rfl,q1,q2⟩;exact .cons (jj.rep g h q1)<|ih q2
  exact{a,us,v',J,de,n,m,j,T,rfl,o,hn,both pd r,jj.rep g dv rv,hj,hit,l,k _ _ _ _ (E7 o) (g.X4 o<|r.eraseIdx j) (by rfl) z}
 .exact z.elim
def Sx(I:X.A.units+128<cLine){tr:fH}(J:QE X o to)(U:QA X (e::es) tr)(g:s_ X o e es "remove" apos fm:=by exact{(rfl),rfl,rfl,rfl,rfl}):
 QE X (.Call (.Attribute o "remove" apos) (e::es) [] fm) (iC mM to tr):=oW PySem.F.slot_list_remove PySem.F.type_list_remove (Sw I) J U g
def Sy:W6->Hp->VK->Prop:=λxs H Q=>∃n:Int,xs=[.int n]/\∀p,H p=none->Q (.ref p) (upd H p<|.Y1 0 n)
def Sz:jh X (.type "range") Sy:=by rintro J s g H j l Q I r⟨n,rfl,q⟩;obtain⟨u,rfl,U⟩:=r.one;obtain⟨t,rfl⟩:=(show ∃t,u=Value.int n t from U);refine call_range_1 ?_;refine{.ref s.heap.objs.size,_,I.laid (t':=s.toks+1+1) (o:=.Y1 0 n) (λb ob q=>vb _ q) (Am _) ?_,rfl,q _<|I.GT.fresh<|Am _};exact{s.toks,t,s.toks+1,xT _ rfl}
def yG{I:WQ}(h:ItemsOf (λi v=>∃t,v=.int (0+(i:Int)*1) t) I n):zk ((List.range n).map λi:Nat=>V.int<|0+(i:Int)) I.toList:=by
 have len:I.toList.length=n:=by rw[A1];exact h.1
 have key:∀(l:WP) (k:Nat),(∀(j:Nat) v,l[j]?=some v->∃t,v=Value.int (0+((k+j:Nat):Int)*1) t)->zk ((List.range' k l.length).map λi:Nat=>V.int<|0+(i:Int)) l:=by
  intro l
  induction l with
  |nil=>intro k _;exact .nil
  |cons v r g=>
   intro k U;rw[AK,Ey,AA];obtain⟨t,e⟩:=U 0 v rfl;refine .cons ?_<|g (k+1) λj o J=>?_
   .exact{t,by rw[e];simp}
   .have:=U (j+1) o J;rw[show k+1+j=k+(j+1) by simp +arith only];exact this
 have:=key I.toList 0 λj v J=>by rw[DL];exact h.2 j v (by simpa using J)
 rw[len,<-List.range_eq_range'] at this;exact this
def SA:W6->Hp->VK->Prop:=λxs H Q=>∃a,∃n:Nat,xs=[.ref a]/\H a=some (.Y1 0 n)/\n<=100000/\∀p,H p=none->Q (.ref p) (upd H p<|.lst ((List.range n).map λi:Nat=>V.int<|0+(i:Int)))
theorem SD(hc:X.calm=true):jh X (.type "list") SA:=by
 rintro g s σ H xs us Q I r⟨a,n,rfl,j,l,q⟩;obtain⟨u,rfl,p⟩:=r.one;cases (show u=Value.ref a from p);obtain⟨t,u,v,e⟩:=I.GT a _ j;have hb:(100000:Nat)<=sizeLine:=by decide
 have C:Builtin.Range.rangeSize 0 (n:Int) 1=((n:Nat):Int):=by rw[rangeSize_one];split<;>lia
 refine ja I.tk<|call_list_range (I.ok.hd hc) (show IsRange s.heap a 0 (n:Int) 1 t u v from e) (small_one (by decide) (by decide) (by exact AQ _) (by omega)) C (AS l (by decide)) λh' tk U c T hS J ht=>?_;refine{.ref s.heap.objs.size,_,I.laid (t':=tk) (o:=.lst ((List.range n).map λi:Nat=>V.int<|0+(i:Int))) T (Am _) ?_,rfl,q _<|I.GT.fresh<|Am _};refine{by rw[Ac,Cu];exact GX,U.toList,c,yG J,?_};rw[hS]
def SE:W6->Hp->VK->Prop:=λxs H Q=>∃b:Bool,xs=[.bl b]/\Q (.int<|if b=true then 1 else 0) H
def SF:jh X (.type "int") SE:=by rintro J s g H j l Q I r⟨b,rfl,q⟩;obtain⟨u,rfl,U⟩:=r.one;cases (show u=Value.bool b from U);exact call_int_bool {.int _,_,I.tok<|s.toks+1,{_,rfl},q}
def SG:bootBuiltins "range"=some (.type "range"):=by decide +kernel
def ue(te:xw)(τ:ji)(L:qm)(Q:YK):Prop:=te τ L λy L1=>match y with
 |.int n=>(0<=n/\n<=100000)/\∀p,L1 p=none->Q (.ref p) (qj L1 p<|.lst<|cD 0 n.toNat)
 |_=>False
def SH(n:Nat):va G H (cD 0 n) ((List.range n).map λi:Nat=>V.int<|0+(i:Int)):=by
 unfold cD;generalize List.range n=l
 induction l with|nil=>rfl|cons k r I=>exact{_,_,rfl,rfl,I}
theorem wQ{I:Pos}(hc:X.calm=true)(C:Gl X "list")(T:X.mg "list"=none)(j:Gl X "range")(l:X.mg "range"=none)(h:QE X e te)
 (h1:starEach [.Call (.Name "range" p2) [e] [] I] X.env=(false,eval (.Call (.Name "range" p2) [e] [] I) X.env)::starEach [] X.env:=by rfl) (h2:(backTo pos<|starEach [] X.env).any (·.1)=false:=by rfl)
 (h3:starEach [e] X.env=(false,eval e X.env)::starEach [] X.env:=by rfl) (h4:(backTo I<|starEach [] X.env).any (·.1)=false:=by rfl):
 QE X (.Call (.Name "list" p) [.Call (.Name "range" p2) [e] [] I] [] pos) (ue te):=
 EY (jP (SD hc) C T eE (ko (jP Sz j l SG (ko h cq h3) (by decide) (by decide) h3 h4) cq h1) (by decide) (by decide) h1 h2) λσ H Q τ L Q3 rs rl z k=>
 ⟨τ,L,_,rs,rl,z,λv H1 y L1 t1 J o U=>by
  cases y with
  |int n=>
   obtain⟨⟨h0,h5⟩,U⟩:=U;cases (show v=V.int n from o);obtain⟨m,rfl⟩:∃m:Nat,n=(m:Int):={n.toNat,by lia};refine{_,rfl,λq r=>{q,m,rfl,zu,by lia,λp g=>?_}};have t:H1 p=none:=by
    by_cases c:p=q
    .subst c;exact r
    .rw[qp c] at g;exact g
   exact k _ _ _ _ (t1.trans<|(EX r).trans<|EX g) ((J.skip r).XX g<|SH m) (by rfl) (U p<|J.none t)
  |_=>exact U.elim⟩
def Hy(xs:_x)(L:qm)(Q:YK):Prop:=match xs with
 |[.bl b]=>Q (.int<|if b=true then 1 else 0) L
 |_=>False
theorem SI :jh X (.type "int") (f_ X.g3 Hy):=FD SF λg H Q j L l I J z k=>by
 unfold Hy at z;split at z
 .rename_i b;obtain⟨u,rfl,U⟩:=I.inv1;cases (show u=V.bl b from U);exact{b,rfl,k _ _ _ _ (EW _) J (by rfl) z}
 .exact z.elim
section
variable {tr:fH}{m:Str}{g:Addr}
end
abbrev Xi:=Keyed->Int
abbrev Xh:=Array Keyed
abbrev Xg:=List Keyed
def SJ:Bool->Keyed->Xh->Nat->Nat->Nat->StateT SortSt Sem (Option Nat):=sortPriv% PySem.Builtin.gallop
section
variable {w:W3}
structure Ord(prog:W2)(w:W3)(A:Around)(s:W1)(κ:SortKind)(Ok:Keyed->Prop)(f:Xi):Prop where
 lt:∀x y,Ok x->Ok y->∀{E:WK} {Q:Bool->W1->Prop},Q (decide<|f x<f y) s->wpAny (model prog w) A (keyLt' κ x.1 y.1) Q E s
variable {κ:SortKind}{Ok:Keyed->Prop}{f:Xi}
def w_lt(O:Ord prog w A s κ Ok f){st:SortSt}{x y:Keyed}{Q:Option Bool->SortSt->Prop}(I:kindOf st=κ)(J:Ok x)(U:Ok y)(h:Q (some<|decide<|f x<f y) st):wpS (model prog w) A E s (lt' x y) Q st:=by rw[lt'_eq];refine Ab<|wpS_get ?_;rw[I];refine Ab<|wpS_lift<|wpAny_attempt<|O.lt x y J U {rfl,?_};exact Ae h
def vg{arr:Xh}{x:Keyed}{st:SortSt}{Q:Keyed->SortSt->Prop}(h:arr[i]?=some x)(q:Q x st):wpS (model prog w) A E s (elem' arr i) Q st:=by rw[elem'_eq,h];exact Ae q
def JT(left:Bool)(key:Keyed)(arr:Xh)(i:Nat):StateT SortSt Sem (Option Bool):=elem' arr i >>= λx=>if left=true then lt' x key else lt' key x >>= λr=>pure<|r.map λb=>!b
def SK(O:Ord prog w A s κ Ok f){left:Bool}{key x:Keyed}{arr:Xh}{st:SortSt}{Q:Option Bool->SortSt->Prop}(J:kindOf st=κ)(I:Ok key)(U:Ok x)(hi:arr[i]?=some x)
 (q:Q (some<|if left=true then decide (f x<f key) else !decide (f key<f x)) st):wpS (model prog w) A E s (JT left key arr i) Q st:=by
 refine Ab<|vg hi ?_;cases left with|true=>exact w_lt O J U I q|false=>exact Ab<|w_lt O J I U<|Ae q
def dY(O:Ord prog w A s κ Ok f){left:Bool}{key:Keyed}{arr:Xh}{base hint:Nat}{st:SortSt}{Q:Option Nat->SortSt->Prop}(hk:kindOf st=κ)(a3:Ok key)(hh:hint<n)
 (it:Nat->Keyed) (hit:∀i,i<n->arr[base+i]?=some (it i)/\Ok (it i)) (o:Nat->Bool) (a4:∀i,i<n->o i=if left=true then decide (f (it i)<f key) else !decide (f key<f (it i)))
 (mono:∀i j,i<=j->j<n->o j=true->o i=true)
 (q:∀k,k<=n->(∀i,i<k->o i=true)->(∀i,k<=i->i<n->o i=false)->Q (some k) st):wpS (model prog w) A E s (SJ left key arr base n hint) Q st:=by
 have go:∀i,i<n->∀Q':Option Bool->SortSt->Prop,Q' (some<|o i) st->wpS (model prog w) A E s (JT left key arr<|base+i) Q' st:=λi U Q' h=>SK O hk a3 (hit i U).2 (hit i U).1 (by rw[<-a4 i U];exact h);refine Ab<|go hint hh _ ?_;dsimp only;cases hb:o hint with
 |true=>
  rw[AC rfl];refine Ab (AW (AJ (I:=λx c g=>g=st/\∃l J,c=(none,l,J)/\l<J/\l<n-hint/\o (hint+l)=true/\x+1<=J)
   (Q:=λc g=>g=st/\∃l J,c=(none,l,J)/\l<J/\l<n-hint/\o (hint+l)=true/\(n-hint<=J\/o (hint+J)=false)) ?_ ?_ ⟨rfl,0,1,rfl,BI _,by omega,hb,BI _⟩) ?_)
  .rintro x c g _ hx ⟨rfl,l,J,rfl,h1,h2,h3,r⟩;by_cases c:J>=n-hint
   .rw[AC c];exact Ae {rfl,l,J,rfl,h1,h2,h3,.inl c}
   .rw[AB c];refine Ab<|go (hint+J) (by lia) _ ?_;dsimp only;cases t:o (hint+J) with
    |true=>
     rw[AB (by simp)];exact Ae {rfl,J,2*J+1,rfl,by simp +arith only,IB,t,by lia}
    |false=>
     rw[AC (by simp)];exact Ae {rfl,l,J,rfl,h1,h2,h3,.inr t}
  .rintro c g ⟨rfl,l,J,rfl,h1,h2,h3,r⟩;exact{rfl,l,J,rfl,h1,h2,h3,.inl (by lia)}
  .rintro c g ⟨rfl,l,J,rfl,h1,h2,h3,r⟩;obtain⟨lo,a1⟩:∃lo,lo=hint+l+1:={_,rfl};obtain⟨U,a2⟩:∃U,U=hint+min J (n-hint):={_,rfl};rw[<-a1,<-a2];have g1:lo<=U:=by omega
   have g2:U<=n:=by lia
   have g3:∀i,i<lo->o i=true:=λi U=>mono i (hint+l) (by lia) (by lia) h3;have g4:∀i,U<=i->i<n->o i=false:=λi h5 h6=>by
    rcases r with r|r
    .omega
    .cases e:o i with
     |false=>rfl
     |true=>
      by_cases c:J<n-hint
      .rw[mono (hint+J) i (by omega) h6 e] at r;cases r
      .omega
   refine Ab (AW (AJ (I:=λx c sx=>sx=g/\∃lo U,c=(none,lo,U)/\lo<=U/\U<=n/\(∀i,i<lo->o i=true)/\(∀i,U<=i->i<n->o i=false)/\U-lo+x<=n)
    (Q:=λc sx=>sx=g/\∃U,c=(none,U,U)/\U<=n/\(∀i,i<U->o i=true)/\(∀i,U<=i->i<n->o i=false)) ?_ ?_ ⟨rfl,lo,U,rfl,g1,g2,g3,g4,ID⟩) ?_)
   .rintro x c p _ hx ⟨rfl,lo,U,rfl,k1,C,T,k4,k5⟩;by_cases c:lo>=U
    .rw[AC c];have:lo=U:=by lia
     subst this;exact Ae {(rfl),lo,rfl,C,T,k4}
    .rw[AB c];refine Ab<|go (lo+(U-lo) / 2) (by lia) _ ?_;dsimp only;cases t:o (lo+(U-lo) / 2) with
     |true=>
      rw[AC rfl];exact Ae {rfl,lo+(U-lo) / 2+1,U,rfl,by lia,C,λi h5=>mono i _ (IC) (by lia) t,k4,by lia}
     |false=>
      rw[AB (by simp)];refine Ae {rfl,lo,lo+(U-lo) / 2,rfl,Bb _ _,by lia,T,λi h5 h6=>?_,by omega};cases e:o i with|false=>rfl|true=>rw[mono _ i h5 h6 e] at t;cases t
   .rintro c p ⟨rfl,lo,U,rfl,k1,C,T,k4,k5⟩;have:lo=U:=by lia
    subst this;exact{(rfl),lo,rfl,C,T,k4}
   .rintro c p ⟨rfl,U,rfl,C,T,k4⟩;exact Ae<|q U C T k4
 |false=>
  rw[AB (by simp)];refine Ab (AW (AJ (I:=λx c g=>g=st/\∃l J,c=(none,l,J)/\l<J/\l<hint+1/\o (hint-l)=false/\x+1<=J)
   (Q:=λc g=>g=st/\∃l J,c=(none,l,J)/\l<J/\l<hint+1/\o (hint-l)=false/\(hint+1<=J\/o (hint-J)=true)) ?_ ?_ ⟨rfl,0,1,rfl,by lia,BA _,hb,by lia⟩) ?_)
  .rintro x c g _ hx ⟨rfl,l,J,rfl,h1,h2,h3,r⟩;by_cases c:J>=hint+1
   .rw[AC c];exact Ae {rfl,l,J,rfl,h1,h2,h3,.inl c}
   .rw[AB c];refine Ab<|go (hint-J) (rV) _ ?_;dsimp only;cases t:o (hint-J) with
    |true=>
     rw[AC rfl];exact Ae {rfl,l,J,rfl,h1,h2,h3,.inr t}
    |false=>
     rw[AB (by simp)];exact Ae {rfl,J,2*J+1,rfl,by lia,IB,t,by lia}
  .rintro c g ⟨rfl,l,J,rfl,h1,h2,h3,r⟩;exact{rfl,l,J,rfl,h1,h2,h3,.inl<|rS}
  .rintro c g ⟨rfl,l,J,rfl,h1,h2,h3,r⟩;obtain⟨lo,a1⟩:∃lo,lo=hint+1-min J (hint+1):={_,rfl};obtain⟨U,a2⟩:∃U,U=hint-l:={_,rfl};rw[<-a1,<-a2];have g1:lo<=U:=by omega
   have g2:U<=n:=by omega
   have g3:∀i,i<lo->o i=true:=λi h5=>by
    rcases r with r|r
    .omega
    .exact mono i (hint-J) (by omega) (rV) r
   have g4:∀i,U<=i->i<n->o i=false:=λi h5 h6=>by cases e:o i with|false=>rfl|true=>rw[mono (hint-l) i (by lia) h6 e] at h3;cases h3
   refine Ab (AW (AJ (I:=λx c sx=>sx=g/\∃lo U,c=(none,lo,U)/\lo<=U/\U<=n/\(∀i,i<lo->o i=true)/\(∀i,U<=i->i<n->o i=false)/\U-lo+x<=n)
    (Q:=λc sx=>sx=g/\∃U,c=(none,U,U)/\U<=n/\(∀i,i<U->o i=true)/\(∀i,U<=i->i<n->o i=false)) ?_ ?_ ⟨rfl,lo,U,rfl,g1,g2,g3,g4,ID⟩) ?_)
   .rintro x c p _ hx ⟨rfl,lo,U,rfl,k1,C,T,k4,k5⟩;by_cases c:lo>=U
    .rw[AC c];have:lo=U:=by lia
     subst this;exact Ae {(rfl),lo,rfl,C,T,k4}
    .rw[AB c];refine Ab<|go (lo+(U-lo) / 2) (by lia) _ ?_;dsimp only;cases t:o (lo+(U-lo) / 2) with
     |true=>
      rw[AC rfl];exact Ae {rfl,lo+(U-lo) / 2+1,U,rfl,by lia,C,λi h5=>mono i _ (by lia) (by lia) t,k4,by lia}
     |false=>
      rw[AB (by simp)];refine Ae {rfl,lo,lo+(U-lo) / 2,rfl,by lia,by lia,T,λi h5 h6=>?_,by lia};cases e:o i with|false=>rfl|true=>rw[mono _ i h5 h6 e] at t;cases t
   .rintro c p ⟨rfl,lo,U,rfl,k1,C,T,k4,k5⟩;have:lo=U:=by lia
    subst this;exact{(rfl),lo,rfl,C,T,k4}
   .rintro c p ⟨rfl,U,rfl,C,T,k4⟩;exact Ae<|q U C T k4
end
def SM:Xh->Xh->StateT SortSt Sem (Xh):=sortPriv% PySem.Builtin.mergeLo
def SN:Xh->Xh->StateT SortSt Sem (Xh):=sortPriv% PySem.Builtin.mergeHi
structure MI(f:Xi)(la lb eA ra rb:Xg):Prop where
 perm:(eA++(ra++rb)).Perm (la++lb)
 so:eA.Pairwise λx y=>f x<=f y
 sa:ra.Pairwise λx y=>f x<=f y
 sb:rb.Pairwise λx y=>f x<=f y
 oa:∀x∈eA,∀y∈ra,f x<=f y
 ob:∀x∈eA,∀y∈rb,f x<=f y
def MI.a{f:Xi}{j l eA seg o U:Xg}(h:MI f j l eA (seg++o) U)(hs:∀x∈seg,∀y∈U,f x<=f y):MI f j l (eA++seg) o U:=by
 have g:=AU.mp h.sa;refine{?_,AU.mpr {h.so,g.1,λx I y J=>h.oa x I y<|An _ J},g.2.1,h.sb,λx I y J=>?_,λx I y J=>?_}
 .have:=h.perm;rw[Ay] at this ⊢;exact this
 .rcases Ak.mp I with I|I
  .exact h.oa x I y<|Ah _ J
  .exact g.2.2 x I y J
 .rcases Ak.mp I with I|I
  .exact h.ob x I y J
  .exact hs x I y J
def MI.b{f:Xi}{l o eA seg U g:Xg}(h:MI f l o eA U<|seg++g)(hs:∀x∈seg,∀y∈U,f x<=f y):MI f l o (eA++seg) U g:=by
 have j:=AU.mp h.sb;refine{?_,AU.mpr {h.so,j.1,λx I y J=>h.ob x I y<|An _ J},h.sa,j.2.1,λx I y J=>?_,λx I y J=>?_}
 .refine List.Perm.trans ?_ h.perm;rw[Ay];exact(BG eA).mpr (by rw[<-Ay,<-Ay];exact(BE g).mpr Bo)
 .rcases Ak.mp I with I|I
  .exact h.oa x I y J
  .exact hs x I y J
 .rcases Ak.mp I with I|I
  .exact h.ob x I y<|Ah _ J
  .exact j.2.2 x I y J
def wc(f:Xi)(I J r:Xg):Prop:=r.Perm (I++J)/\r.Pairwise λx y=>f x<=f y
def MI.ea{f:Xi}{I J eA U:Xg}(h:MI f I J eA U []):wc f I J (eA++U):={by have:=h.perm;rwa[AI] at this,AU.mpr {(h.so),h.sa,h.oa}}
def MI.eb{f:Xi}{g j eA J U:Xg}(h:MI f g j eA J U)(hs:∀x∈U,∀y∈J,f x<=f y):wc f g j (eA++U++J):=by
 refine{List.Perm.trans ?_ h.perm,?_}
 .rw[Ay];exact(BG eA).mpr Bo
 .rw[Ay];refine AU.mpr {h.so,AU.mpr {(h.sb),h.sa,hs},λx l y I=>?_};rcases Ak.mp I with I|I
  .exact h.ob x l y I
  .exact h.oa x l y I
structure MP(f:Xi)(a b eA:Xh)(ia ib:Nat):Prop where
 mi:MI f a.toList b.toList eA.toList (a.toList.drop ia) (b.toList.drop ib)
 sz:eA.size=ia+ib
 la:ia<=a.size
 lb:ib<=b.size
def JU(a:Xh)(h:i<a.size):a.toList.drop i=a[i]::a.toList.drop (i+1):=by rw[B4 (by simpa using h)];simp
def jG(a:Xh)(i j:Nat):(a.extract i j).toList=(a.toList.drop i).take (j-i):=by rw[Array.toList_extract,List.extract_eq_drop_take]
def JV(l:Xg)(i k:Nat):(l.drop i).take k++l.drop (i+k)=l.drop i:=by rw[<-List.drop_drop,A9]
def sN{a:Xh}{k:Nat}{x:Keyed}(h:x∈(a.toList.drop i).take k):∃j,∃I:i+j<a.size,j<k/\a[i+j]=x:=by
 obtain⟨j,I,e⟩:=BK h;rw[AV,BV] at I;have h1:i+j<a.size:=by have:a.toList.length=a.size:=A1;omega
 refine{j,h1,by omega,?_};rw[<-e];simp
def jK{a:Xh}{x:Keyed}(h:x∈a.toList.drop i):∃j,∃I:j<a.size,i<=j/\a[j]=x:=by
 obtain⟨j,I,e⟩:=BK h;rw[BV] at I;have h1:i+j<a.size:=by have:a.toList.length=a.size:=A1;omega
 refine{i+j,h1,Bb _ _,?_};rw[<-e];simp
def e_{f:Xi}{a:Xh}(s:a.toList.Pairwise λx y=>f x<=f y)(I:i<=j)(J:j<a.size):f (a[i]'(pM))<=f a[j]:=by
 rcases DV I with h|h
 .have:=B5.mp s i j (by simpa using (pM:i<a.size)) (by simpa using J) h;simpa using this
 .subst h;exact CV _
section
variable {f:Xi}{a b eA:Xh}{ia ib:Nat}
def MP.Zt(M:MP f a b eA ia ib){k:Nat}(J:ia+k<=a.size)(h:∀i (hi:ia+i<a.size),i<k->∀j (I:j<b.size),ib<=j->f a[ia+i]<=f b[j]):MP f a b (eA++a.extract ia (ia+k)) (ia+k) ib:=by
 refine{?_,?_,J,M.lb}
 .rw[Ba,jG,show ia+k-ia=k by omega];refine MI.a (by rw[JV];exact M.mi) λx U y g=>?_;obtain⟨i,hi,h1,rfl⟩:=sN U;obtain⟨j,I,h2,rfl⟩:=jK g;exact h i hi h1 j I h2
 .rw[BX,Dk,M.sz];lia
def MP.Zu(M:MP f a b eA ia ib){k:Nat}(J:ib+k<=b.size)(h:∀i (hi:ib+i<b.size),i<k->∀j (I:j<a.size),ia<=j->f b[ib+i]<=f a[j]):MP f a b (eA++b.extract ib (ib+k)) ia (ib+k):=by
 refine{?_,?_,M.la,J}
 .rw[Ba,jG,show ib+k-ib=k by lia];refine MI.b (by rw[JV];exact M.mi) λx U y g=>?_;obtain⟨i,hi,h1,rfl⟩:=sN U;obtain⟨j,I,h2,rfl⟩:=jK g;exact h i hi h1 j I h2
 .rw[BX,Dk,M.sz];lia
def MP.YR(M:MP f a b eA ia ib)(hi:ia<a.size)(h:∀j (I:j<b.size),ib<=j->f a[ia]<=f b[j]):MP f a b (eA.push a[ia]) (ia+1) ib:=by refine{?_,by rw[Bz,M.sz];simp +arith only,hi,M.lb};rw[Dq];refine MI.a (seg:=[a[ia]]) (by rw[Dy,<-JU a hi];exact M.mi) λx J y U=>?_;obtain⟨j,I,h2,rfl⟩:=jK U;rw[Ap.mp J];exact h j I h2
def MP.YS(M:MP f a b eA ia ib)(hi:ib<b.size)(h:∀j (I:j<a.size),ia<=j->f b[ib]<=f a[j]):MP f a b (eA.push b[ib]) ia (ib+1):=by refine{?_,by rw[Bz,M.sz];exact Nat.add_assoc _ _ _,M.la,hi};rw[Dq];refine MI.b (seg:=[b[ib]]) (by rw[Dy,<-JU b hi];exact M.mi) λx J y U=>?_;obtain⟨j,I,h2,rfl⟩:=jK U;rw[Ap.mp J];exact h j I h2
def MP.done(M:MP f a b eA ia ib)(h:ib=b.size):wc f a.toList b.toList (eA++a.extract ia++b.extract ib).toList:=by have e:b.toList.drop ib=[]:=List.drop_eq_nil_of_le (by rw[A1];lia);have m:=M.mi;rw[e] at m;have:=m.ea;rw[Ba,Ba,jG,jG,e,List.take_nil,AI,A4 (by simp)];exact this
def MP.last(M:MP f a b eA ia ib)(h:ia+1=a.size)(I:∀x∈b.toList,f x<f (a[a.size-1]'(by omega))):wc f a.toList b.toList (eA++b.extract ib++a.extract ia).toList:=by
 have:=M.mi.eb λx J y U=>by
  obtain⟨j,g,h2,rfl⟩:=jK U;have e:j=a.size-1:=by omega
  subst e;exact BO<|I x<|CW J
 rw[Ba,Ba,jG,jG,A4 (by simp),A4 (by simp)];exact this
end
section
variable {w:W3}{κ:SortKind}{Ok:Keyed->Prop}{f:Xi}
abbrev ij(st:SortSt)(g:Nat):SortSt:=SortSt.mk' (kindOf st) (arrOf st) (pendingOf st) g<|failedOf st
def uq{c:Prop}{_:Decidable c}{K:β->StateT SortSt Sem α}{y:β}{Q:α->SortSt->Prop}{st:SortSt}(key:∀z,wpS (model prog w) A E s (K z) Q st):∀x,wpS (model prog w) A E s (if c then K x else K y) Q st:=λx=>by
 by_cases h:c
 .rw[AC h];exact key x
 .rw[AB h];exact key y
def mU{I:Type}{c:Prop}{_:Decidable c}{K T:β->I->StateT SortSt Sem α}{P:β->I->Prop}{x:β}{i:I}{Q:α->SortSt->Prop}{st:SortSt}(key:∀o j,P o j->wpS (model prog w) A E s (K o j) Q st)(J:¬c->P x i)
 (U:c->(∀o j,P o j->wpS (model prog w) A E s (K o j) Q st)->wpS (model prog w) A E s (T x i) Q st):∀o,x=o->∀j,i=j->wpS (model prog w) A E s (if c then T o j else K o j) Q st:=by
 rintro _ rfl _ rfl;by_cases h:c
 .rw[AC h];exact U h key
 .rw[AB h];exact key x i<|J h
def vi{c:Prop} [Decidable c]{x y:StateT SortSt Sem α}{Q:α->SortSt->Prop}{st:SortSt}(h:c)(k:wpS M A E s x Q st):wpS M A E s (if c then x else y) Q st:=by rw[AC h];exact k
def xh{c:Prop} [Decidable c]{x y:StateT SortSt Sem α}{Q:α->SortSt->Prop}{st:SortSt}(h:¬c)(k:wpS M A E s y Q st):wpS M A E s (if c then x else y) Q st:=by rw[AB h];exact k
def gD{c:Prop} [Decidable c]{x y:StateT SortSt Sem α}{Q:α->SortSt->Prop}{st:SortSt}(h:c->wpS M A E s x Q st)(k:¬c->wpS M A E s y Q st):wpS M A E s (if c then x else y) Q st:=by
 by_cases d:c
 .rw[AC d];exact h d
 .rw[AB d];exact k d
def Gn{a:Xh}(ok:∀x∈a.toList,Ok x)(U:a.toList.Pairwise λx y=>f x<=f y)(d:Keyed):∃t:Nat->Keyed,(∀i (hi:i<a.size),t i=a[i])/\(∀i,i<a.size->a[i]?=some (t i))/\(∀i,i<a.size->Ok (t i))/\∀{i j},i<=j->j<a.size->f (t i)<=f (t j):=by
 have e:∀i (hi:i<a.size),(a[i]?).getD d=a[i]:=λi hi=>by simp[hi]
 exact{λi=>(a[i]?).getD d,e,λi hi=>by simp[hi],λi hi=>by show Ok ((a[i]?).getD d);rw[e i hi];exact ok _ (by simp),λ{i j} I J=>by show f ((a[i]?).getD d)<=f ((a[j]?).getD d);rw[e i<|pM,e j J];exact e_ U I J}
theorem SO(O:Ord prog w A s κ Ok f){a b:Xh}{st:SortSt}{Q:Xh->SortSt->Prop}(hk:kindOf st=κ)(bq:∀x∈a.toList,Ok x)(br:∀x∈b.toList,Ok x)
 (sa:a.toList.Pairwise λx y=>f x<=f y) (sb:b.toList.Pairwise λx y=>f x<=f y) (ha:0<a.size) (hb:0<b.size) (h0:∀x∈a.toList,f b[0]<f x) (hl:∀x∈b.toList,f x<f a[a.size-1])
 (q:∀r g,wc f a.toList b.toList r.toList->Q r (ij st g)):wpS (model prog w) A E s (SM a b) Q st:=by
 refine Ab<|wpS_lift<|BD {rfl,?_};refine Ab<|vg (x:=b[0]) (by simp[hb]) ?_;have M0:MP f a b #[b[0]] 0 1:=by have M:MP f a b #[] 0 0:={{by simp,by simp,by simpa using sa,by simpa using sb,by simp,by simp},rfl,A5 _,A5 _};have:=M.YS hb λj hj _=>BO<|h0 a[j] (by simp);simpa using this
 by_cases c1:(1==b.size)=true
 .refine vi c1 ?_;exact Ae<|q _ (gallopOf st)<|M0.done (by simpa using c1)
 refine xh c1 ?_;by_cases c2:(0+1==a.size)=true
 .refine vi c2 ?_;exact Ae<|q _ (gallopOf st)<|M0.last (by simpa using c2) hl
 refine xh c2 ?_;have c1:¬1=b.size:=by simpa using c1
 have c2:¬1=a.size:=by simpa using c2
 refine Ab<|wpS_get ?_;have c3:∀i (hi:i<a.size),Ok a[i]:=λi hi=>bq _ (by simp);have c4:∀i (hi:i<b.size),Ok b[i]:=λi hi=>br _ (by simp);have al:∀i (hi:i<a.size),a[i]?=some a[i]:=λi hi=>by simp[hi]
 have ay:∀i (hi:i<b.size),b[i]?=some b[i]:=λi hi=>by simp[hi]
 obtain⟨tA,bh,cn,cv,cy⟩:=Gn (f:=f) bq sa b[0];obtain⟨tB,c5,cI,cP,d0⟩:=Gn (f:=f) br sb b[0];refine Ab (AW (AJ (I:=λx c p=>(∃g,p=ij st g)/\∃a3 l U mg,c=(none,a3,l,U,mg)/\MP f a b a3 l U/\l+1<a.size/\U<b.size/\x+1<=a3.size)
  (Q:=λc p=>(∃g,p=ij st g)/\∃r,c.1=some r/\wc f a.toList b.toList r.toList) ?_ ?_ ⟨⟨gallopOf st,rfl⟩,_,_,_,_,rfl,M0,Et,Et,by simp⟩) ?_)
 .rintro x c p _ hx ⟨⟨g,rfl⟩,a3,l,U,mg,rfl,M,T,t,hs⟩;refine Ab (AW (AJ (I:=λy c p=>p=ij st g/\∃J l U ac bc,c=(none,J,l,U,ac,bc)/\MP f a b J l U/\l+1<a.size/\U<b.size/\a3.size+y<=J.size)
   (Q:=λc p=>p=ij st g/\((∃r,c.1=some r/\wc f a.toList b.toList r.toList)\/∃J l U ac bc,c=(none,J,l,U,ac,bc)/\MP f a b J l U/\l+1<a.size/\U<b.size/\a3.size+1<=J.size)) ?_ ?_ ⟨rfl,_,_,_,_,_,rfl,M,T,t,Am _⟩) ?_)
  .rintro y c p _ hy ⟨rfl,J,l,U,ac,bc,rfl,M,T,t,c6⟩;have aL:l<a.size:=jL;refine Ab<|vg (ay U t) ?_;refine Ab<|vg (al l aL) ?_;refine Ab<|w_lt O hk (c4 U t) (c3 l aL) ?_;by_cases c:f b[U]<f a[l]
   .refine vi (AD c) ?_;refine Ab<|vg (ay U t) ?_;have M':=M.YS t λj hj a1=>BO<|Int.lt_of_lt_of_le c<|e_ sa a1 hj;have s2:(J.push b[U]).size=J.size+1:=Bz _;by_cases e1:(U+1==b.size)=true
    .refine vi e1 ?_;exact Ae {rfl,.inl {_,rfl,M'.done (by simpa using e1)}}
    .refine xh e1 ?_;have e1:¬U+1=b.size:=by simpa using e1
     refine gD (λ_=>?_) λ_=>?_
     .exact Ae {rfl,.inr {_,_,_,_,_,rfl,M',T,Et,by lia}}
     .exact Ae {rfl,_,_,_,_,_,rfl,M',T,by lia,by lia}
   .refine xh (by rw[Aw c];decide) ?_;refine Ab<|vg (al l aL) ?_;have M':=M.YR (by lia) λj hj a1=>BS (by omega)<|e_ sb a1 hj;have s2:(J.push a[l]).size=J.size+1:=Bz _;by_cases e1:(l+1+1==a.size)=true
    .refine vi e1 ?_;exact Ae {rfl,.inl {_,rfl,M'.last (by simpa using e1) hl}}
    .refine xh e1 ?_;have e1:¬l+1+1=a.size:=by simpa using e1
     refine gD (λ_=>?_) λ_=>?_
     .exact Ae {rfl,.inr {_,_,_,_,_,rfl,M',Et,t,by lia}}
     .exact Ae {rfl,_,_,_,_,_,rfl,M',by lia,t,by lia}
  .rintro c p ⟨rfl,J,l,U,ac,bc,rfl,M,T,t,c6⟩;have:=M.sz;omega
  .rintro c p ⟨rfl,h⟩;rcases h with⟨r,er,hr⟩|⟨bd,l,U,ac,bc,rfl,M,T,t,c6⟩
   .obtain⟨c1,c2⟩:=c;cases er;exact Ae {{(g),rfl},r,rfl,hr}
   .dsimp only;refine Ab<|wpS_lift<|BD {rfl,?_};refine Ab (AW (AJ (I:=λy c p=>(∃g,p=ij st g)/\∃J l U mg ac bc,c=(none,J,l,U,mg,ac,bc)/\MP f a b J l U/\l+1<a.size/\U<b.size/\bd.size+y<=J.size)
     (Q:=λc p=>(∃g,p=ij st g)/\((∃r,c.1=some r/\wc f a.toList b.toList r.toList)\/∃J l U mg ac bc,c=(none,J,l,U,mg,ac,bc)/\MP f a b J l U/\l+1<a.size/\U<b.size/\bd.size<=J.size)) ?_ ?_ ⟨⟨g,rfl⟩,_,_,_,_,_,_,rfl,M,T,t,Am _⟩) ?_)
    .rintro y c p _ hy ⟨⟨g',rfl⟩,J,l,U,bi,ac,bc,rfl,M,T,t,bf⟩;have aL:l<a.size:=jL;generalize bi-1=dc;revert dc;refine uq (y:=bi) λde=>?_
     all_goals
      refine Ab<|wpS_modify ?_;refine Ab<|vg (ay U t) ?_;refine Ab<|dY O hk (c4 U t) (by lia) (λi=>tA<|l+i) (λi hi=>{cn _ (by lia),cv _ (by lia)}) (λi=>!decide (f b[U]<f (tA<|l+i))) (λi hi=>by rw[AB (by simp)]) (λi j a1 hj h=>?_) λk di ba bj=>?_
      .have:=cy (i:=l+i) (j:=l+j) (by lia) (by lia);simp at h ⊢;lia
      have ba:∀i,i<k->f (tA<|l+i)<=f b[U]:=λi hi=>by have:=ba i hi;simpa using this
      have bj:∀i,k<=i->i<a.size-l->f b[U]<f (tA<|l+i):=λi hi hj=>by have:=bj i hi hj;simpa using this
      have kl:k<a.size-l:=by
       rcases DV di with h|h
       .exact h
       .exfalso;have h1:=ba (a.size-1-l) (by lia);have h2:=hl b[U] (by simp);rw[show l+(a.size-1-l)=a.size-1 by lia,bh _<|D'] at h1;omega
      have M1:MP f a b (J++a.extract l (l+k)) (l+k) U:=M.Zt (by lia) λi hi bn j hj a1=>by have h1:=ba i bn;rw[bh _ hi] at h1;exact BS h1<|e_ sb a1 hj
      have pB:∀j (hj:j<a.size),l+k<=j->f b[U]<=f a[j]:=λj hj a1=>by have h1:=bj (j-l) (by lia) (by lia);rw[show l+(j-l)=j by lia,bh _ hj] at h1;lia
      dsimp only;generalize dj:J=o0;generalize dp:l=j0;revert j0;revert o0;refine mU (P:=λ(o:Xh) (j:Nat)=>MP f a b o j U/\J.size<=o.size/\j+1<a.size/\∀j' (hj:j'<a.size),j<=j'->f b[U]<=f a[j']) (x:=J) (i:=l) (λa2 C hP=>?tail) (λck=>?hN) λck key=>?hY
      case hN=>
       obtain rfl:k=0:=by lia
       exact{M,Am _,T,λj hj a1=>pB j hj (by lia)}
      case hY=>
       by_cases e1:(l+k+1==a.size)=true
       .refine vi e1 ?_;exact Ae {{_,rfl},.inl {_,rfl,M1.last (by simpa using e1) hl}}
       .refine xh e1 (xh (show ¬(l+k==a.size)=true by simp;lia) ?_);have e1:¬l+k+1=a.size:=by simpa using e1
        exact key _ _ {M1,by rw[BX];exact Bb _ _,by lia,pB}
      obtain⟨M1,h3,l3,pB⟩:=hP;have bp:C<a.size:=jL
      all_goals
       refine Ab<|vg (ay U t) ?_;have M2:=M1.YS t pB;have s2:(a2.push b[U]).size=a2.size+1:=Bz _;by_cases e2:(U+1==b.size)=true
       case' pos=>
        refine vi e2 ?_;exact Ae {{_,rfl},.inl {_,rfl,M2.done (by simpa using e2)}}
       case' neg=>
        refine xh e2 ?_;have e2:¬U+1=b.size:=by simpa using e2
        refine Ab<|vg (al C bp) ?_;refine Ab<|dY O hk (c3 C bp) (by lia) (λi=>tB<|U+1+i) (λi hi=>{cI _ (by omega),cP _ (by lia)}) (λi=>decide<|f (tB<|U+1+i)<f a[C]) (λi hi=>by rw[AC rfl]) (λi j a1 hj h=>?_) λk2 dr a4 a5=>?_
        .have:=d0 (i:=U+1+i) (j:=U+1+j) (by lia) (by omega);simp at h ⊢;lia
        have a4:∀i,i<k2->f (tB<|U+1+i)<f a[C]:=λi hi=>by have:=a4 i hi;simpa using this
        have a5:∀i,k2<=i->i<b.size-(U+1)->f a[C]<=f (tB<|U+1+i):=λi hi hj=>by have:=a5 i hi hj;simpa using this
        have M3:MP f a b (a2.push b[U]++b.extract (U+1) (U+1+k2)) C (U+1+k2):=M2.Zu (by omega) λi hi bn j hj a1=>by have h1:=a4 i bn;rw[c5 _ hi] at h1;exact BS (BO h1)<|e_ sa a1 hj
        have pA:∀j (hj:j<b.size),U+1+k2<=j->f a[C]<=f b[j]:=λj hj a1=>by have h1:=a5 (j-(U+1)) (by lia) (by omega);rw[show U+1+(j-(U+1))=j by lia,c5 _ hj] at h1;exact h1
        obtain⟨o3,cc⟩:∃o,o=a2.push b[U]:={_,rfl};obtain⟨bb,cm⟩:∃i,i=U+1:={_,rfl};rw[<-cc] at s2;rw[<-cc,<-cm] at M2 M3 ⊢;rw[<-cm] at pA dr;generalize dj:o3=o0;generalize dp:bb=j0;revert j0;revert o0;refine mU (P:=λ(o:Xh) (j:Nat)=>MP f a b o C j/\a2.size+1<=o.size/\j<b.size/\∀j' (hj:j'<b.size),j<=j'->f a[C]<=f b[j']) (x:=o3) (i:=bb) (λbg du hP=>?tail2) (λck=>?hN) λck key=>?hY
        case hN=>
         obtain rfl:k2=0:=by lia
         exact{M2,by lia,by lia,λj hj a1=>pA j hj (by lia)}
        case hY=>
         by_cases e3:(bb+k2==b.size)=true
         .refine vi e3 ?_;exact Ae {{_,rfl},.inl {_,rfl,M3.done (by simpa using e3)}}
         .refine xh e3 ?_;have e3:¬bb+k2=b.size:=by simpa using e3
          exact key _ _ {M3,by rw[BX];lia,by lia,pA}
        obtain⟨M3,h4,l4,pA⟩:=hP
        all_goals
         refine Ab<|vg (al C bp) ?_;have M4:=M3.YR (by lia) pA;have s4:(bg.push a[C]).size=bg.size+1:=Bz _;by_cases e4:(C+1+1==a.size)=true
         .refine vi e4 ?_;exact Ae {{_,rfl},.inl {_,rfl,M4.last (by simpa using e4) hl}}
         .refine xh e4 ?_;have e4:¬C+1+1=a.size:=by simpa using e4
          refine gD (λ_=>?_) λ_=>?_
          .exact Ae {{_,rfl},.inr {_,_,_,_,_,_,rfl,M4,Et,l4,by lia}}
          .exact Ae {{_,rfl},_,_,_,_,_,_,rfl,M4,by lia,l4,by lia}
    .rintro c p ⟨⟨g',rfl⟩,J,l,U,bi,ac,bc,rfl,M,T,t,bf⟩;have:=M.sz;omega
    .rintro c p ⟨⟨g',rfl⟩,h⟩;rcases h with⟨r,er,hr⟩|⟨dt,l,U,de,ac,bc,rfl,M,T,t,bf⟩
     .obtain⟨c1,c2⟩:=c;cases er;exact Ae {{(g'),rfl},r,rfl,hr}
     .dsimp only;refine Ab<|wpS_modify ?_;exact Ae {{_,rfl},_,_,_,_,rfl,M,T,t,by lia}
 .rintro c p ⟨⟨g,rfl⟩,a3,l,U,mg,rfl,M,T,t,hs⟩;have:=M.sz;lia
 .rintro c p ⟨⟨g,rfl⟩,r,er,hr⟩;obtain⟨c1,c2⟩:=c;cases er;exact Ae<|q r g hr
end
structure MH(f:Xi)(la lb ra rb o:Xg):Prop where
 perm:(ra++rb++o).Perm (la++lb)
 so:o.Pairwise λx y=>f x<=f y
 sa:ra.Pairwise λx y=>f x<=f y
 sb:rb.Pairwise λx y=>f x<=f y
 oa:∀x∈ra,∀y∈o,f x<=f y
 ob:∀x∈rb,∀y∈o,f x<=f y
def MH.a{f:Xi}{l p o seg U g:Xg}(h:MH f l p (U++seg) g o)(hs:∀x∈g,∀y∈seg,f x<=f y):MH f l p U g (seg++o):=by
 have j:=AU.mp h.sa;refine{List.Perm.trans ?_ h.perm,AU.mpr {j.2.1,h.so,λx J y I=>h.oa x (Ah _ J) y I},j.1,h.sb,λx J y I=>?_,λx J y I=>?_}
 .rw[<-Ay];refine(BE o).mpr ?_;rw[Ay,Ay];exact(BG U).mpr Bo
 .rcases Ak.mp I with I|I
  .exact j.2.2 x J y I
  .exact h.oa x (An _ J) y I
 .rcases Ak.mp I with I|I
  .exact hs x J y I
  .exact h.ob x J y I
def MH.b{f:Xi}{l p o seg U g:Xg}(h:MH f l p U (g++seg) o)(hs:∀x∈U,∀y∈seg,f x<=f y):MH f l p U g (seg++o):=by
 have j:=AU.mp h.sb;refine{?_,AU.mpr {j.2.1,h.so,λx J y I=>h.ob x (Ah _ J) y I},h.sa,j.1,λx J y I=>?_,λx J y I=>?_}
 .have:=h.perm;rw[<-Ay,Ay U g seg];exact this
 .rcases Ak.mp I with I|I
  .exact hs x J y I
  .exact h.oa x J y I
 .rcases Ak.mp I with I|I
  .exact j.2.2 x J y I
  .exact h.ob x (An _ J) y I
def MH.ea{f:Xi}{I J o U:Xg}(h:MH f I J [] U o):wc f I J (U++o):={by have:=h.perm;rwa[Di] at this,AU.mpr {(h.sb),h.so,h.ob}}
def MH.eb{f:Xi}{g j o J U:Xg}(h:MH f g j J U o)(hs:∀x∈U,∀y∈J,f x<=f y):wc f g j (U++J++o):=by
 refine{List.Perm.trans ?_ h.perm,?_}
 .exact(BE o).mpr Bo
 .refine AU.mpr {AU.mpr {(h.sb),h.sa,hs},h.so,λx I y l=>?_};rcases Ak.mp I with I|I
  .exact h.ob x I y l
  .exact h.oa x I y l
structure HP(f:Xi)(a b eA:Xh)(na nb:Nat):Prop where
 mi:MH f a.toList b.toList (a.toList.take na) (b.toList.take nb) eA.toList.reverse
 sz:eA.size+na+nb=a.size+b.size
 la:na<=a.size
 lb:nb<=b.size
def JW(a:Xh)(h:i<a.size):a.toList.take (i+1)=a.toList.take i++[a[i]]:=by rw[Bi];simp[h]
def iT{a:Xh}{x:Keyed}(h:x∈a.toList.take i):∃j,∃I:j<a.size,j<i/\a[j]=x:=by
 obtain⟨j,I,e⟩:=BK h;rw[AV] at I;have h1:j<a.size:=by have:a.toList.length=a.size:=A1;omega
 refine{j,h1,by omega,?_};rw[<-e];simp
def Go(l:Xg){k:Nat}(h:i<=k):l.take i++(l.drop i).take (k-i)=l.take k:=by have:=List.take_add (l:=l) (i:=i) (j:=k-i);rw[show i+(k-i)=k by omega] at this;exact this.symm
section
variable {f:Xi}{a b eA:Xh}{nb:Nat}
def HP.Zt(M:HP f a b eA na nb){k:Nat}(J:k<=na)(h:∀i (hi:i<a.size),k<=i->i<na->∀j (I:j<b.size),j<nb->f b[j]<=f a[i]):HP f a b (eA++(a.extract k na).reverse) k nb:=by
 have l:=M.la;refine{?_,?_,GX,M.lb}
 .rw[Ba,C7,CY,List.reverse_reverse,jG];refine MH.a (by rw[Go _ J];exact M.mi) λx U y g=>?_;obtain⟨j,I,h2,rfl⟩:=iT U;obtain⟨i,hi,h1,rfl⟩:=sN g;exact h (k+i) hi (Bb _ _) (by lia) j I h2
 .have:=M.sz;rw[BX,Array.size_reverse,Dk];lia
def HP.Zu(M:HP f a b eA na nb){k:Nat}(J:k<=nb)(h:∀i (hi:i<b.size),k<=i->i<nb->∀j (I:j<a.size),j<na->f a[j]<=f b[i]):HP f a b (eA++(b.extract k nb).reverse) na k:=by
 have l:=M.lb;refine{?_,?_,M.la,by lia}
 .rw[Ba,C7,CY,List.reverse_reverse,jG];refine MH.b (by rw[Go _ J];exact M.mi) λx U y g=>?_;obtain⟨j,I,h2,rfl⟩:=iT U;obtain⟨i,hi,h1,rfl⟩:=sN g;exact h (k+i) hi (by lia) (by lia) j I h2
 .have:=M.sz;rw[BX,Array.size_reverse,Dk];lia
def HP.YR(M:HP f a b eA (na+1) nb)(hi:na<a.size)(h:∀j (I:j<b.size),j<nb->f b[j]<=f a[na]):HP f a b (eA.push a[na]) na nb:=by refine{?_,by have:=M.sz;rw[Bz];lia,jL,M.lb};rw[Dq,C7];refine MH.a (seg:=[a[na]]) (by rw[<-JW a hi];exact M.mi) λx J y U=>?_;obtain⟨j,I,h2,rfl⟩:=iT J;rw[Ap.mp U];exact h j I h2
def HP.YS(M:HP f a b eA na<|nb+1)(hi:nb<b.size)(h:∀j (I:j<a.size),j<na->f a[j]<=f b[nb]):HP f a b (eA.push b[nb]) na nb:=by refine{?_,by have:=M.sz;rw[Bz];lia,M.la,by lia};rw[Dq,C7];refine MH.b (seg:=[b[nb]]) (by rw[<-JW b hi];exact M.mi) λx J y U=>?_;obtain⟨j,I,h2,rfl⟩:=iT J;rw[Ap.mp U];exact h j I h2
def HP.done(M:HP f a b eA na nb)(h:na=0):wc f a.toList b.toList (a.extract 0 na++b.extract 0 nb++eA.reverse).toList:=by subst h;have:=M.mi;rw[List.take_zero] at this;have:=this.ea;rw[Ba,Ba,jG,jG,CY];simpa using this
def HP.last(M:HP f a b eA na nb)(h:nb=1)(U:0<b.size)(h0:∀x∈a.toList,f b[0]<f x):wc f a.toList b.toList (b.extract 0 nb++a.extract 0 na++eA.reverse).toList:=by
 have:=M.mi.eb λx I y J=>by
  obtain⟨j,g,h2,rfl⟩:=iT I;have e:j=0:=by lia
  subst e;exact BO<|h0 y<|BB J
 rw[Ba,Ba,jG,jG,CY];simpa using this
end
def HP.ZH{f:Xi}{a b eA:Xh}{nb:Nat}(M:HP f a b eA na nb)(h0:0<na)(h:∀j (I:j<b.size),j<nb->f b[j]<=f (a[na-1]'(by have:=M.la;omega))):HP f a b (eA.push (a[na-1]'(by have:=M.la;omega))) (na-1) nb:=by obtain⟨n,rfl⟩:∃n,na=n+1:={na-1,by lia};have J:=M.la;exact HP.YR M (by assumption) h
def HP.ZI{f:Xi}{a b eA:Xh}{nb:Nat}(M:HP f a b eA na nb)(h0:0<nb)(h:∀j (I:j<a.size),j<na->f a[j]<=f (b[nb-1]'(by have:=M.lb;omega))):HP f a b (eA.push (b[nb-1]'(by have:=M.lb;lia))) na (nb-1):=by obtain⟨n,rfl⟩:∃n,nb=n+1:={nb-1,by lia};have J:=M.lb;exact HP.YS M (by lia) h
section
variable {w:W3}{κ:SortKind}{Ok:Keyed->Prop}{f:Xi}
theorem SQ(O:Ord prog w A s κ Ok f){a b:Xh}{st:SortSt}{Q:Xh->SortSt->Prop}(hk:kindOf st=κ)(c3:∀x∈a.toList,Ok x)(c4:∀x∈b.toList,Ok x)
 (sa:a.toList.Pairwise λx y=>f x<=f y) (sb:b.toList.Pairwise λx y=>f x<=f y) (ha:0<a.size) (hb:0<b.size) (h0:∀x∈a.toList,f b[0]<f x) (hl:∀x∈b.toList,f x<f a[a.size-1])
 (q:∀r g,wc f a.toList b.toList r.toList->Q r (ij st g)):wpS (model prog w) A E s (SN a b) Q st:=by
 have c5:∀i (p:i<a.size),Ok a[i]:=λi p=>c3 _ (by simp);have c6:∀i (p:i<b.size),Ok b[i]:=λi p=>c4 _ (by simp);have ay:∀i (p:i<a.size),a[i]?=some a[i]:=λi p=>by simp[p]
 have ba:∀i (p:i<b.size),b[i]?=some b[i]:=λi p=>by simp[p]
 obtain⟨tA,cc,bn,cI,cP⟩:=Gn (f:=f) c3 sa b[0];obtain⟨tB,bp,bq,d0,dc⟩:=Gn (f:=f) c4 sb b[0];have bn:∀i,i<a.size->a[0+i]?=some (tA i):=λi p=>by rw[DL];exact bn i p
 have bq:∀i,i<b.size->b[0+i]?=some (tB i):=λi p=>by rw[DL];exact bq i p
 refine Ab<|wpS_lift<|BD {rfl,?_};refine Ab<|vg (x:=a[a.size-1]) (ay _ (by exact D')) ?_;dsimp only;obtain⟨n0,e6⟩:∃n,a.size=n+1:={a.size-1,by lia};have M0:HP f a b #[a[a.size-1]] (a.size-1) b.size:=by
  have M:HP f a b #[] (a.size-1+1) b.size:=by
   refine{{?_,by simp,?_,?_,by simp,by simp},by simp;lia,by exact D',Am _}
   .rw[A4 (by simp;lia),A4 (by simp)];simp
   .rw[A4 (by simp;lia)];exact sa
   .rw[A4 (by simp)];exact sb
  have:=M.YR (by lia) λj hj _=>BO<|hl b[j] (by simp);simpa using this
 by_cases c1:(a.size-1==0)=true
 .refine vi c1 ?_;exact Ae<|q _ (gallopOf st)<|M0.done (by simpa using c1)
 refine xh c1 ?_;by_cases c2:(b.size==1)=true
 .refine vi c2 ?_;exact Ae<|q _ (gallopOf st)<|M0.last (by simpa using c2) hb h0
 refine xh c2 ?_;have c1:¬a.size-1=0:=by simpa using c1
 have c2:¬b.size=1:=by simpa using c2
 refine Ab<|wpS_get ?_;refine Ab (AW (AJ (I:=λx c U=>(∃g,U=ij st g)/\∃l nb a5 mg,c=(none,l,nb,a5,mg)/\HP f a b a5 l nb/\0<l/\1<nb/\x+1<=a5.size)
  (Q:=λc U=>(∃g,U=ij st g)/\∃r,c.1=some r/\wc f a.toList b.toList r.toList) ?_ ?_ ⟨⟨gallopOf st,rfl⟩,_,_,_,_,rfl,M0,by exact Fw,by lia,by simp⟩) ?_)
 .rintro x c U _ hx ⟨⟨g,rfl⟩,l,nb,a5,mg,rfl,M,t,a1,hs⟩;dsimp only;refine Ab (AW (AJ (I:=λy c U=>U=ij st g/\∃l nb J ac bc,c=(none,l,nb,J,ac,bc)/\HP f a b J l nb/\0<l/\1<nb/\a5.size+y<=J.size)
   (Q:=λc U=>U=ij st g/\((∃r,c.1=some r/\wc f a.toList b.toList r.toList)\/∃l nb J ac bc,c=(none,l,nb,J,ac,bc)/\HP f a b J l nb/\0<l/\1<nb/\a5.size+1<=J.size)) ?_ ?_ ⟨rfl,_,_,_,_,_,rfl,M,t,a1,Am _⟩) ?_)
  .rintro y c U _ hy ⟨rfl,l,nb,J,ac,bc,rfl,M,t,a1,cm⟩;have de:=M.la;have di:=M.lb;have a2:nb-1<b.size:=by omega
   have aL:l-1<a.size:=by lia
   dsimp only;refine Ab<|vg (ba (nb-1) a2) ?_;refine Ab<|vg (ay (l-1) aL) ?_;refine Ab<|w_lt O hk (c6 (nb-1) a2) (c5 (l-1) aL) ?_;dsimp only;by_cases c:f b[nb-1]<f a[l-1]
   .refine vi (AD c) ?_;refine Ab<|vg (ay (l-1) aL) ?_;have M':=M.ZH t λj hj C=>BO<|Int.lt_of_le_of_lt (e_ sb (i:=j) (j:=nb-1) (CZ C) a2) c;have s2:(J.push a[l-1]).size=J.size+1:=Bz _;by_cases e1:(l-1==0)=true
    .refine vi e1 ?_;exact Ae {rfl,.inl {_,rfl,M'.done (by simpa using e1)}}
    .refine xh e1 ?_;have e1:¬l-1=0:=by simpa using e1
     refine gD (λ_=>?_) λ_=>?_
     .exact Ae {rfl,.inr {_,_,_,_,_,rfl,M',by exact Fw,a1,by lia}}
     .exact Ae {rfl,_,_,_,_,_,rfl,M',by lia,a1,by lia}
   .refine xh (by rw[Aw c];decide) ?_;refine Ab<|vg (ba (nb-1) a2) ?_;have M':=M.ZI (by exact jL) λj hj C=>BS (e_ sa (i:=j) (j:=l-1) (CZ C) aL) (by omega);have s2:(J.push b[nb-1]).size=J.size+1:=Bz _;by_cases e1:(nb-1==1)=true
    .refine vi e1 ?_;exact Ae {rfl,.inl {_,rfl,M'.last (by simpa using e1) hb h0}}
    .refine xh e1 ?_;have e1:¬nb-1=1:=by simpa using e1
     refine gD (λ_=>?_) λ_=>?_
     .exact Ae {rfl,.inr {_,_,_,_,_,rfl,M',t,by lia,by lia}}
     .exact Ae {rfl,_,_,_,_,_,rfl,M',t,by lia,by lia}
  .rintro c U ⟨rfl,l,nb,J,ac,bc,rfl,M,t,a1,cm⟩;have:=M.sz;omega
  .rintro c U ⟨rfl,h⟩;rcases h with⟨r,er,hr⟩|⟨l,nb,bh,ac,bc,rfl,M,t,a1,cm⟩
   .obtain⟨c1,c2⟩:=c;cases er;exact Ae {{(g),rfl},r,rfl,hr}
   .dsimp only;refine Ab<|wpS_lift<|BD {rfl,?_};refine Ab (AW (AJ (I:=λy c U=>(∃g,U=ij st g)/\∃l nb J mg ac bc,c=(none,l,nb,J,mg,ac,bc)/\HP f a b J l nb/\0<l/\1<nb/\bh.size+y<=J.size)
     (Q:=λc U=>(∃g,U=ij st g)/\((∃r,c.1=some r/\wc f a.toList b.toList r.toList)\/∃l nb J mg ac bc,c=(none,l,nb,J,mg,ac,bc)/\HP f a b J l nb/\0<l/\1<nb/\bh.size<=J.size)) ?_ ?_ ⟨⟨g,rfl⟩,_,_,_,_,_,_,rfl,M,t,a1,Am _⟩) ?_)
    .rintro y c U _ hy ⟨⟨g',rfl⟩,l,nb,J,br,ac,bc,rfl,M,t,a1,bi⟩;have de:=M.la;have di:=M.lb;have a2:nb-1<b.size:=by omega
     have aL:l-1<a.size:=by lia
     dsimp only;generalize br-1=dj;revert dj;refine uq (y:=br) λdp=>?_
     all_goals
      refine Ab<|wpS_modify ?_;refine Ab<|vg (ba (nb-1) a2) ?_;refine Ab<|dY O hk (c6 (nb-1) a2) (by exact D') tA (λi p=>{bn _ (by exact Fv),cI _ (by lia)}) (λi=>!decide (f b[nb-1]<f (tA i))) (λi p=>by rw[AB (by simp)]) (λi j C hj h=>?_) λk dr bb bd=>?_
      .have:=cP (i:=i) (j:=j) (by lia) (by exact Fv);simp at h ⊢;lia
      have bb:=λi p=>by have:=bb i p;simpa using this
      have bd:=λi p hj=>by have:=bd i p hj;simpa using this
      have M1:=M.Zt dr λi p h1 h2 j hj C=>by have h3:=bd i h1 h2;rw[cc _ p] at h3;exact BS (e_ sb (i:=j) (j:=nb-1) (CZ C) a2)<|BO h3
      have pB:=λj hj C=>by have h1:=bb j C;rw[cc _ hj] at h1;exact h1
      dsimp only;generalize e7:l-k=cn;generalize dt:J=o0;generalize du:l=j0;revert j0;revert o0;refine mU (P:=λ(o:Xh) (j:Nat)=>HP f a b o j nb/\J.size<=o.size/\0<j/\∀j' (hj:j'<a.size),j'<j->f a[j']<=f b[nb-1]) (x:=J) (i:=l) (λa3 T hP=>?tail) (λck=>?hN) λck key=>?hY
      case hN=>
       obtain rfl:k=l:=by lia
       exact{M,Am _,by lia,pB}
      case hY=>
       by_cases e1:(k==0)=true
       .refine vi e1 ?_;exact Ae {{_,rfl},.inl {_,rfl,M1.done (by simpa using e1)}}
       .refine xh e1 ?_;have e1:¬k=0:=by simpa using e1
        exact key _ _ {M1,by rw[BX];exact Bb _ _,by exact Fw,pB}
      clear pB M1 bb bd;obtain⟨M1,h3,l3,pB⟩:=hP
      all_goals
       have e0:=M1.la;have bf:T-1<a.size:=by lia
       refine Ab<|vg (ba (nb-1) a2) ?_;have M2:=M1.ZI (by exact jL) pB;have s2:(a3.push b[nb-1]).size=a3.size+1:=Bz _;by_cases e2:(nb-1==1)=true
       case' pos=>
        refine vi e2 ?_;exact Ae {{_,rfl},.inl {_,rfl,M2.last (by simpa using e2) hb h0}}
       case' neg=>
        refine xh e2 ?_;have e2:¬nb-1=1:=by simpa using e2
        refine Ab<|vg (ay (T-1) bf) ?_;refine Ab<|dY O hk (c5 (T-1) bf) (by lia) tB (λi p=>{bq _ (by exact rS),d0 _ (by lia)}) (λi=>decide<|f (tB i)<f a[T-1]) (λi p=>by rw[AC rfl]) (λi j C hj h=>?_) λk2 cv al a4=>?_
        .have:=dc (i:=i) (j:=j) (by lia) (by exact rS);simp at h ⊢;lia
        have al:=λi p=>by have:=al i p;simpa using this
        have a4:=λi p hj=>by have:=a4 i p hj;simpa using this
        have k1:0<k2:=by
         rcases Nat.eq_zero_or_pos k2 with h|h
         .exfalso;have h5:=a4 0 (by exact tz) (by lia);rw[bp _ hb] at h5;have h6:=h0 a[T-1] (by simp);lia
         .exact h
        have M3:HP f a b (a3.push b[nb-1]++(b.extract k2<|nb-1).reverse) T k2:=M2.Zu cv λi p h1 h2 j hj C=>by have h5:=a4 i h1 h2;rw[bp _ p] at h5;exact BS (e_ sa (i:=j) (j:=T-1) (CZ C) bf) h5
        have pA:=λj hj C=>by have h5:=al j C;rw[bp _ hj] at h5;exact BO h5
        dsimp only;generalize dv:nb-1-k2=e8;obtain⟨o3,dV⟩:∃o,o=a3.push b[nb-1]:={_,rfl};obtain⟨bg,cy⟩:∃i,i=nb-1:={_,rfl};have eb:b[nb-1]=b[bg]'(by lia):=by subst cy;rfl
        rw[<-dV] at s2 M2 M3 ⊢;rw[<-cy] at M2 M3 dv cv ⊢;generalize dt:o3=o0;generalize du:bg=j0;revert j0;revert o0;refine mU (P:=λ(o:Xh) (j:Nat)=>HP f a b o T j/\a3.size+1<=o.size/\1<j/\∀j' (hj:j'<b.size),j'<j->f b[j']<=f a[T-1]) (x:=o3) (i:=bg) (λbj ec hP=>?tail2) (λck=>?hN) λck key=>?hY
        case hN=>
         obtain rfl:k2=bg:=by lia
         exact{M2,by lia,by lia,pA}
        case hY=>
         by_cases e3:(k2==1)=true
         .refine vi e3 ?_;exact Ae {{_,rfl},.inl {_,rfl,M3.last (by simpa using e3) hb h0}}
         .refine xh e3 (xh (show ¬(k2==0)=true by simp;exact Iz) ?_);have e3:¬k2=1:=by simpa using e3
          exact key _ _ {M3,by rw[BX];lia,by lia,pA}
        clear pA M3 al a4;obtain⟨M3,h4,l4,pA⟩:=hP
        all_goals
         refine Ab<|vg (ay (T-1) bf) ?_;have M4:=M3.ZH l3 pA;have s4:(bj.push a[T-1]).size=bj.size+1:=Bz _;by_cases e4:(T-1==0)=true
         .refine vi e4 ?_;exact Ae {{_,rfl},.inl {_,rfl,M4.done (by simpa using e4)}}
         .refine xh e4 ?_;have e4:¬T-1=0:=by simpa using e4
          refine gD (λ_=>?_) λ_=>?_
          .exact Ae {{_,rfl},.inr {_,_,_,_,_,_,rfl,M4,by exact Fw,l4,by lia}}
          .exact Ae {{_,rfl},_,_,_,_,_,_,rfl,M4,by lia,l4,by lia}
    .rintro c U ⟨⟨g',rfl⟩,l,nb,J,br,ac,bc,rfl,M,t,a1,bi⟩;have:=M.sz;omega
    .rintro c U ⟨⟨g',rfl⟩,h⟩;rcases h with⟨r,er,hr⟩|⟨l,nb,e5,dp,ac,bc,rfl,M,t,a1,bi⟩
     .obtain⟨c1,c2⟩:=c;cases er;exact Ae {{(g'),rfl},r,rfl,hr}
     .dsimp only;refine Ab<|wpS_modify ?_;exact Ae {{_,rfl},_,_,_,_,rfl,M,t,a1,by lia}
 .rintro c U ⟨⟨g,rfl⟩,l,nb,a5,mg,rfl,M,t,a1,hs⟩;have:=M.sz;lia
 .rintro c U ⟨⟨g,rfl⟩,r,er,hr⟩;obtain⟨c1,c2⟩:=c;cases er;exact Ae<|q r g hr
end
def SS{σ:Type}{st I:σ}{Q:PUnit->σ->Prop}(h:Q ⟨⟩ I):wpS M A E s (set I:StateT σ Sem PUnit) Q st:=by unfold wpS;rw[StateT.run_set];exact Aj {(rfl),h}
theorem ox{α:Type}:∀(m:List α) (arr:Array α) (i k:Nat),i+k+m.length<=arr.size->((m.zipIdx k).foldl (λ(a:Array α) (I:α×Nat)=>a.setIfInBounds (i+I.2) I.1) arr).toList=arr.toList.take (i+k)++(m++arr.toList.drop (i+k+m.length))
 |[],arr,i,k,h=>by simp
 |x::m,arr,i,k,h=>by
  rw[Ex,List.foldl_cons];simp only[AK] at h;rw[ox m _ i (k+1) (by simp;lia)];have e:(arr.setIfInBounds (i+k) x).toList=arr.toList.set (i+k) x:=by simp
  have l:arr.toList.length=arr.size:=A1;rw[e,List.drop_set,AC (by exact Bb _ _),<-Nat.add_assoc,Bi,Bl (by lia),List.take_set_of_le (by simp +arith only),AK];simp;congr 1;simp +arith only
section
variable {w:W3}{κ:SortKind}{Ok:Keyed->Prop}{f:Xi}
def uj{l:Xg}(s:l.Pairwise λx y=>f x<=f y)(I:i<=j)(J:j<l.length):f (l[i]'(pM))<=f l[j]:=by
 rcases DV I with h|h
 .exact B5.mp s i j (pM) J h
 .subst h;exact CV _
def Hz{l:Xg}{x:Keyed}(h:x∈l):∃i,∃hi:i<l.length,l[i]=x:=BK h
def HA{l:Xg}{x:Keyed}{m:Nat}(h:x∈l.take m):∃i,∃hi:i<l.length,i<m/\l[i]=x:=by obtain⟨i,hi,rfl⟩:=BK h;rw[AV] at hi;exact{i,by lia,by lia,BF.symm}
def Gp{l:Xg}{x:Keyed}{k:Nat}(h:x∈l.drop k):∃i,∃hi:i<l.length,k<=i/\l[i]=x:=by obtain⟨i,hi,rfl⟩:=BK h;rw[BV] at hi;exact{k+i,by lia,Bb _ _,Eg.symm}
theorem SU(O:Ord prog w A s κ Ok f){st:SortSt}{X Y:Xg}{w1 w2:Nat}{Q:Bool->SortSt->Prop}(hk:kindOf st=κ)(hf:failedOf st=none)(hp:pendingOf st=#[(0,X.length,w1),(X.length,Y.length,w2)])(ea:(arrOf st).toList=X++Y)(ok:∀x∈X++Y,Ok x)
 (lX:0<X.length) (lY:0<Y.length) (sX:X.Pairwise λx y=>f x<=f y) (sY:Y.Pairwise λx y=>f x<=f y) (q:∀T,failedOf T=none->(pendingOf T).size=1->(arrOf T).toList.Perm (X++Y)->((arrOf T).toList.Pairwise λx y=>f x<=f y)->Q true T):wpS (model prog w) A E s (mergeAt' 0) Q st:=by
 have a1:(pendingOf st)[0]?=some (0,X.length,w1):=by rw[hp];rfl
 have a2:(pendingOf st)[0+1]?=some (X.length,Y.length,w2):=by rw[hp];rfl
 have a3:(((pendingOf st).setIfInBounds 0 (0,X.length+Y.length,w1)).eraseIdxIfInBounds<|0+1).size=1:=by simp[hp]
 refine Ab<|wpS_get ?_;rw[show(sortPriv% PySem.Builtin.SortState.pending) st=pendingOf st from rfl,a1,a2];refine Ab<|SS ?_;generalize ((pendingOf st).setIfInBounds 0 (0,X.length+Y.length,w1)).eraseIdxIfInBounds (0+1)=pn at a3 ⊢;have ba:∀i (I:i<X.length),(arrOf st)[i]?=some X[i]:=λi I=>by rw[<-A8,ea,Az I];simp
 have bb:∀i (I:i<Y.length),(arrOf st)[X.length+i]?=some Y[i]:=λi I=>by rw[<-A8,ea,AF<|Bb _ _,Bu];simp
 have al:∀x∈X,Ok x:=λx l=>ok x<|An _ l;have ay:∀x∈Y,Ok x:=λx l=>ok x<|Ah _ l;obtain⟨tX,bc⟩:∃t:Nat->Keyed,t=λi=>(X[i]?).getD X[0]:={_,rfl};have p:∀i (I:i<X.length),tX i=X[i]:=λi I=>by rw[bc];simp[I]
 obtain⟨tY,bd⟩:∃t:Nat->Keyed,t=λi=>(Y[i]?).getD X[0]:={_,rfl};have C:∀i (I:i<Y.length),tY i=Y[i]:=λi I=>by rw[bd];simp[I]
 refine Ab<|vg (x:=Y[0]) (bb 0 lY) ?_;refine Ab (dY O hk (ay _<|CG _) lX tX (λi I=>{by rw[p i I,DL];exact ba i I,by rw[p i I];exact al _<|CG _}) (λi=>!decide (f Y[0]<f (tX i))) (λi I=>by rw[AB (by simp)]) (λi j aL J h=>?_) λk bf a5 ac=>?_)
 .have:=uj sX aL J;rw[p j J] at h;rw[p i<|pM];simp at h ⊢;omega
 have a5:∀i (I:i<k),f (X[i]'(Fv))<=f Y[0]:=λi I=>by have:=a5 i I;rw[p i (by lia)] at this;simpa using this
 have ac:∀i (J:i<X.length),k<=i->f Y[0]<f X[i]:=λi J I=>by have:=ac i I J;rw[p i J] at this;simpa using this
 dsimp only;rw[DL];by_cases c:(X.length-k==0)=true
 .rw[AC c];have c:X.length-k=0:=by simpa using c
  refine Ae (q _ hf a3 (by rw[ea]) (by rw[ea];refine AU.mpr {sX,sY,λx l y hy=>?_};obtain⟨i,I,rfl⟩:=Hz l;obtain⟨j,J,rfl⟩:=Hz hy;exact BS (a5 i (by lia))<|uj sY (A5 _) J))
 rw[AB c];have c:k<X.length:=by lia
 refine Ab (vg (x:=X[X.length-1]) (by rw[show k+(X.length-k)-1=X.length-1 by lia];exact ba _ (by lia)) ?_);refine Ab (dY O hk (al _<|CG _) (by lia) tY (λi I=>{by rw[C i I];exact bb i I,by rw[C i I];exact ay _<|CG _}) (λi=>decide<|f (tY i)<f X[X.length-1]) (λi I=>by rw[AC rfl]) (λi j aL J h=>?_) λm bg a4 o=>?_)
 .have:=uj sY aL J;rw[C j J] at h;rw[C i<|pM];simp at h ⊢;omega
 have a4:∀i (I:i<m),f (Y[i]'(Fv))<f X[X.length-1]:=λi I=>by have:=a4 i I;rw[C i (by lia)] at this;simpa using this
 have o:∀i (J:i<Y.length),m<=i->f X[X.length-1]<=f Y[i]:=λi J I=>by have:=o i I J;rw[C i J] at this;simpa using this
 have m0:0<m:=Nat.pos_of_ne_zero λh=>by have h5:=o 0 lY (by lia);have h6:=ac (X.length-1) (by lia) (by lia);omega
 dsimp only;rw[AB (show ¬(m==0)=true by simp;lia)];have ex:((arrOf st).extract k X.length).toList=X.drop k:=by rw[jG,ea,List.drop_append_of_le_length (by lia),DE (by simp),A4 (by simp)]
 have ey:((arrOf st).extract X.length<|X.length+m).toList=Y.take m:=by rw[jG,ea,List.drop_left,Bu]
 have vd:∀(r:Xh) (g:Nat),wc f (X.drop k) (Y.take m) r.toList->Q (failedOf st).isNone (SortSt.mk' (kindOf st) (r.toList.zipIdx.foldl (λa x=>a.setIfInBounds (k+x.2) x.1)<|arrOf st) pn g<|failedOf st):=by
  rintro r g ⟨hm,hs⟩;have lr:r.toList.length=X.length-k+m:=by rw[hm.length_eq];simp;lia
  have pt:=ox r.toList (arrOf st) k 0 (by rw[lr,<-A1,ea,Ad];lia);rw[ea,lr,Nat.add_zero,show k+(X.length-k+m)=X.length+m by lia,DE (by lia),List.drop_length_add_append] at pt;rw[hf];refine q _ rfl a3 ((EK pt).trans ?_)<|Eq.subst (motive:=List.Pairwise λx y=>f x<=f y) pt.symm ?_
  .have h1:=(BG<|X.take k).mpr<|(BE<|Y.drop m).mpr hm;rwa[Ay<|X.drop k,A9,<-Ay (X.take k) (X.drop k),A9] at h1
  .refine AU.mpr {sX.sublist<|Ef _ _,AU.mpr {hs,sY.sublist<|List.drop_sublist _ _,λx l y hy=>?_},λx l y hy=>?_}
   .obtain⟨j,J,h2,rfl⟩:=Gp hy;rcases Ak.mp (hm.mem_iff.mp l) with h|h
    .obtain⟨i,I,_,rfl⟩:=Gp h;exact BS (uj sX (by lia) (by lia))<|o j J h2
    .obtain⟨i,I,h1,rfl⟩:=HA h;exact uj sY (by lia) J
   .obtain⟨i,I,h1,rfl⟩:=HA l;have low:∀z∈Y,f X[i]<=f z:=λz hz=>by obtain⟨j,J,rfl⟩:=Hz hz;exact BS (a5 i h1) (uj sY (A5 _) J)
    rcases Ak.mp hy with h|h
    .rcases Ak.mp (hm.mem_iff.mp h) with h|h
     .obtain⟨j,J,h2,rfl⟩:=Gp h;exact uj sX (by lia) J
     .exact low y<|BB h
    .exact low y<|CW h
 generalize (arrOf st).extract k X.length=U at ex ⊢;generalize (arrOf st).extract X.length (X.length+m)=V at ey ⊢;have zU:U.size=X.length-k:=by rw[<-A1,ex];simp
 have zV:V.size=m:=by rw[<-A1,ey];simp;lia
 have q5:0<U.size:=by lia
 have q6:0<V.size:=by lia
 have v0:V[0]=Y[0]:=by
  have:V.toList[0]?=(Y.take m)[0]?:=by rw[ey]
  rw[A8,List.getElem?_take,AC m0] at this;simpa[q6,lY] using this
 have ul:U[U.size-1]=X[X.length-1]:=by
  have:U.toList[U.size-1]?=(X.drop k)[U.size-1]?:=by rw[ex]
  rw[A8,DW,show k+(U.size-1)=X.length-1 by lia] at this;rw[Array.getElem?_eq_getElem (by lia),Ag (by lia)] at this;exact A2 this
 have q1:∀x∈U.toList,Ok x:=λx l=>al x (CW (by rw[ex] at l;exact l));have q2:∀x∈V.toList,Ok x:=λx l=>ay x (BB (by rw[ey] at l;exact l));have q3:U.toList.Pairwise λx y=>f x<=f y:=by rw[ex];exact sX.sublist<|List.drop_sublist _ _
 have q4:V.toList.Pairwise λx y=>f x<=f y:=by rw[ey];exact sY.sublist<|Ef _ _
 have q7:∀x∈U.toList,f V[0]<f x:=λx l=>by rw[v0];rw[ex] at l;obtain⟨i,I,h1,rfl⟩:=Gp l;exact ac i I h1
 have q8:∀x∈V.toList,f x<f U[U.size-1]:=λx l=>by rw[ul];rw[ey] at l;obtain⟨i,I,h1,rfl⟩:=HA l;exact a4 i h1
 rw[<-ex,<-ey] at vd;split
 .exact Ab<|SO O hk q1 q2 q3 q4 q5 q6 q7 q8 λr g h=>Ab<|wpS_modify<|Ab<|wpS_get<|Ae<|vd r g h
 .exact Ab<|SQ O hk q1 q2 q3 q4 q5 q6 q7 q8 λr g h=>Ab<|wpS_modify<|Ab<|wpS_get<|Ae<|vd r g h
end
def kR{arr:Array α}{P R:List α}(h:arr.toList=P++R)(J:n<=R.length):(mirror arr P.length (P.length+n)<|(P.length+n-P.length) / 2).toList=P++((R.take n).reverse++R.drop n):=by
 have U:P.length+n<=arr.size:=by rw[<-A1,h,Ad];exact Nat.add_le_add_left J _
 have ap:∀(B:List α) (t:Nat),(P++B)[P.length+t]?=B[t]?:=λB t=>by rw[AF<|Bb ..,Bu]
 have I:=Dr J;refine List.ext_getElem? λk=>?_;rw[A8,getElem?_mirror_all U,<-A8,<-A8,h];rcases Cv k P.length with c|c
 .rw[AB λz=>EU.mpr z.1 c,Az c,Az c]
 obtain⟨j,rfl⟩:=B8 c;rw[ap ((R.take n).reverse++R.drop n) j];rcases Cv j n with d|d
 .rw[AC {c,Nat.add_lt_add_left d _},show P.length+(P.length+n)-1-(P.length+j)=P.length+(n-1-j) by lia,ap,Az (by rw[DK,I];exact d),List.getElem?_reverse (by rw[I];exact d),I,List.getElem?_take,AC (by lia)]
 .obtain⟨t,rfl⟩:=B8 d;rw[AB λz=>EU.mpr (Bb n t)<|Nat.lt_of_add_lt_add_left z.2,ap,AF (by rw[DK,I];exact d),DK,I,Bu,DW]
def SV{arr:Array α}{A Y Z:List α}{r:α}(h:arr.toList=A++(Y++r::Z)):(bubble arr (A.length+Y.length) Y.length).toList=A++r::(Y++Z):=by
 have J:A.length+Y.length<arr.size:=by rw[<-A1,h,Ad,Ad];exact Nat.add_lt_add_left (Dn<|BA _) _
 refine List.ext_getElem? λi=>?_;rw[A8,getElem?_bubble J _<|DH ..,Nat.add_sub_cancel,<-A8,<-A8,<-A8,h];rcases Cv i A.length with c|c
 .rw[AB<|A3 c,AB λz=>Nat.lt_asymm z.1 c,Az c,Az c]
 obtain⟨j,rfl⟩:=B8 c;have ap:∀(B:List α) (t:Nat),(A++B)[A.length+t]?=B[t]?:=λB t=>by rw[AF<|Bb ..,Bu]
 have I:∀(B:List α) (t:Nat),(Y++B)[Y.length+t]?=B[t]?:=λB t=>by rw[AF<|Bb ..,Bu]
 rw[ap (r::(Y++Z)) j];cases j with
 |zero=>rw[AC<|Nat.add_zero _,ap,List.getElem?_cons_zero];exact I _ 0
 |succ j=>
  rw[AB<|C0<|Dn<|BA _,Dl,show A.length+(j+1)-1=A.length+j from rfl,ap _ j,ap _<|j+1];rcases Cv j Y.length with d|d
  .rw[AC {Dn<|BA _,Nat.add_le_add_left d _},Az d,Az d]
  .obtain⟨t,rfl⟩:=B8 d;rw[AB λz=>EU.mpr d<|Nat.le_of_add_le_add_left z.2,I,show Y.length+t+1=Y.length+(t+1) from rfl,I,Dl]
def uR{arr:Array α}{P R:List α}{k l:Nat}(h:arr.toList=P++R)(I:k<R.length)(J:l<=k):(bubble arr (P.length+k)<|P.length+k-(P.length+l)).toList=P++(R.take l++R[k]::((R.drop l).take (k-l)++R.drop (k+1))):=by
 obtain⟨d,rfl⟩:=B8 J;have U:R.take l++((R.drop l).take d++R[l+d]::R.drop (l+d+1))=R:=by rw[<-B4 I,<-List.drop_drop,A9,A9]
 have g:=Dr<|AS J<|Bk I;have j:((R.drop l).take d).length=d:=Dr (by rw[BV];lia);have b:=SV (arr:=arr) (A:=P++R.take l) (Y:=(R.drop l).take d) (Z:=R.drop<|l+d+1) (r:=R[l+d]) (by rw[Ay,U];exact h);rw[Ad,g,j,Ay] at b;rw[Bu,show P.length+(l+d)=P.length+l+d from(Nat.add_assoc _ _ _).symm,Bu];exact b
section
variable {w:W3}{κ:SortKind}{Ok:Keyed->Prop}{f:Xi}
structure Tl(κ:SortKind)(Ok:Keyed->Prop)(st:SortSt)(P R:Xg):Prop where
 kind:kindOf st=κ
 arr:(arrOf st).toList=P++R
 ok:∀x∈R,Ok x
def kD(O:Ord prog w A s κ Ok f){st:SortSt}{P R:Xg}(T:Tl κ Ok st P R)(hi:i<R.length)(I:j<R.length){a b:Nat}(ea:a=P.length+i)(eb:b=P.length+j){Q:Option Bool->SortSt->Prop}(q:Q (some<|decide<|f R[i]<f R[j]) st):wpS (model prog w) A E s (ltAt' a b) Q st:=by
 have at_:∀i (hi:i<R.length),(arrOf st)[P.length+i]?=some R[i]:=λi hi=>by rw[<-A8,T.arr,AF<|Bb _ _,Bu];simp
 subst ea eb;rw[ltAt'_eq];refine Ab<|wpS_get ?_;refine Ab<|vg (at_ i hi)<|Ab<|vg (at_ j I) ?_;exact w_lt O T.kind (T.ok _<|CG _) (T.ok _<|CG _) q
def Up(f:Xi)(R:Xg)(n:Nat):Prop:=∀i j (_:i<=j) (_:j<R.length),j<n->f (R[i]'(by exact pM))<=f R[j]
def Up.snoc{R:Xg}(h:Up f R n)(h1:1<=n)(l:n<R.length)(hs:f (R[n-1]'(rV))<=f R[n]):Up f R (n+1):=λi j I J U=>by
 rcases Cv j n with c|c
 .exact h i j I J c
 .have e:j=n:=by lia
  subst e;rcases Cv i j with g|g
  .exact BS (h i (j-1) (by omega) (rV)<|D') hs
  .have e:i=j:=by lia
   subst e;exact CV _
def Up.pair{R:Xg}(h:Up f R n)(g:n<=R.length):(R.take n).Pairwise λx y=>f x<=f y:=by rw[B5];intro i j I J U;rw[AV] at I J;rw[BF,BF];exact h i j (jL) (by lia) (by lia)
end
section
variable {w:W3}{κ:SortKind}{Ok:Keyed->Prop}{f:Xi}
def Tl.same{st:SortSt}{P R R':Xg}(T:Tl κ Ok st P R)(p:R'.Perm R){arr:Xh}(h:arr.toList=P++R'):Tl κ Ok (setArr st arr) P R':={T.kind,h,λx I=>T.ok x<|p.mem_iff.mp I}
def Up.one{R:Xg}:Up f R 1:=λi j I J h=>by
 have:i=j:=by lia
 subst this;exact CV _
def jR{c:Prop}{_:Decidable c}{K T:StateT SortSt Sem α}{P:SortSt->Prop}{Q:α->SortSt->Prop}{st:SortSt}(J:¬c->P st)(key:∀I,P I->wpS (model prog w) A E s K Q I)
 (U:c->(∀I,P I->wpS (model prog w) A E s K Q I)->wpS (model prog w) A E s T Q st):wpS (model prog w) A E s (if c then T else K) Q st:=by
 by_cases h:c
 .rw[AC h];exact U h key
 .rw[AB h];exact key st<|J h
def gq(f:Xi)(R:Xg)(n:Nat):Prop:=∀i j (_:i<=j) (_:j<R.length),j<n->f R[j]<=f (R[i]'(by exact pM))
def JX{R R':Xg}(e:R'.map f=R.map f)(h1:i<R'.length)(h2:i<R.length):f R'[i]=f R[i]:=by
 have:(R'.map f)[i]?=(R.map f)[i]?:=by rw[e]
 rw[Al,Al,Ag h1,Ag h2] at this;exact A2 this
def gq.same{R R':Xg}(D:gq f R n)(e:R'.map f=R.map f):gq f R' n:=λi j I U J=>by
 have l:R'.length=R.length:=by have:=Br List.length e;rwa[Ac,Ac] at this
 rw[JX e U (by lia),JX e (by lia) (by lia)];exact D i j I (by lia) J
def gq.snoc{R:Xg}(h:gq f R n)(h1:1<=n)(l:n<R.length)(hs:f R[n]<=f (R[n-1]'(by exact rV))):gq f R (n+1):=λi j I J U=>by
 rcases Cv j n with c|c
 .exact h i j I J c
 .have e:j=n:=by lia
  subst e;rcases Cv i j with g|g
  .exact BS hs<|h i (j-1) (by omega) (by exact rV) (by exact D')
  .have e:i=j:=by lia
   subst e;exact CV _
def oj{arr:Xh}{P R:Xg}{a b:Nat}{v:Int}(h:arr.toList=P++R)(U:a<=b)(l:b<=R.length)(g:∀i (_:i<R.length),a<=i->i<b->f R[i]=v):
 ∃R',(mirror arr (P.length+a) (P.length+b)<|(P.length+b-(P.length+a)) / 2).toList=P++R'/\R'.Perm R/\R'.map f=R.map f:=by
 have j:(P++R.take a).length=P.length+a:=by simp;lia
 have I:R=R.take a++((R.drop a).take (b-a)++(R.drop a).drop (b-a)):=by rw[A9,A9]
 have m:=kR (P:=P++R.take a) (R:=R.drop a) (n:=b-a) (by rw[h,Ay,A9]) (by simp;lia);rw[j,show P.length+a+(b-a)=P.length+b by lia,Ay] at m;refine{_,m,?_,?_}
 .refine List.Perm.trans ?_<|EK I.symm;exact(BG _).mpr ((BE _).mpr<|Eh _)
 .have r:((R.drop a).take<|b-a).map f=List.replicate (b-a) v:=by refine List.ext_getElem (by simp;lia) λi h1 h2=>?_;rw[List.getElem_map,BF,Eg,List.getElem_replicate];rw[BQ] at h2;exact g _ _ (by lia) (by lia)
  have J:=Br (List.map f) I;rw[Av,Av,r] at J;rw[Av,Av,List.map_reverse,r,List.reverse_replicate,J]
theorem SW(O:Ord prog w A s κ Ok f){st:SortSt}{P R:Xg}(T:Tl κ Ok st P R)(h1:1<=R.length){Q:Option Nat->SortSt->Prop}
 (q:∀n R' arr,1<=n->n<=R.length->R'.Perm R->arr.toList=P++R'->Up f R' n->Q (some n) (setArr st arr)):wpS (model prog w) A E s (countRun' P.length R.length) Q st:=by
 have bd:setArr st (arrOf st)=st:=rfl;refine Ab (AW (AJ (I:=λx c g=>g=st/\c=(none,x)/\Up f R x)
  (Q:=λc g=>g=st/\∃n,c=(none,n)/\1<=n/\n<=R.length/\Up f R n/\(n=R.length\/∃h:n<R.length,f R[n]<f (R[n-1]'(by exact rV)))) ?_ ?_ ⟨rfl,rfl,Up.one⟩) ?_)
 .rintro x c g t hx ⟨rfl,rfl,U⟩;dsimp only;refine Ab<|kD O T (i:=x) (j:=x-1) hx (by exact rV) rfl (by lia) ?_;dsimp only;by_cases c:f R[x]<f (R[x-1]'(by omega))
  .rw[AD c,AC rfl];exact Ae {rfl,x,rfl,t,by exact jL,U,.inr {(hx),c}}
  .rw[Aw c,AB (by simp)];exact Ae {rfl,rfl,U.snoc t hx (by omega)}
 .rintro c g ⟨rfl,rfl,U⟩;exact{rfl,_,rfl,by lia,by lia,by rw[CH h1] at *;exact U,.inl (by lia)}
 .rintro c g ⟨rfl,n,rfl,a3,a4,U,ac⟩;dsimp only;by_cases c1:(n==R.length)=true
  .rw[AC c1];exact Ae<|q n R (arrOf g) a3 a4 (CI _) T.arr U
  rw[AB c1];have c1:¬n=R.length:=by simpa using c1
  have ay:n<R.length:=by exact Et
  have hd:f R[n]<f (R[n-1]'(by omega)):=by
   rcases ac with h|⟨h,h'⟩
   .exact absurd h c1
   .exact h'
  refine jR (P:=λo=>∃arr R',o=setArr g arr/\arr.toList=P++R'/\R'.Perm R/\gq f R' (n+1)) (λc2=>{arrOf g,R,rfl,T.arr,CI _,?_}) ?_ λc2 key=>?_
  .obtain rfl:n=1:=by lia
   exact gq.snoc (λi j aL hj a5=>by (have e:i=j:=by lia);(subst e;exact CV _)) (Am _) ay<|BO hd
  rotate_left
  .refine Ab<|kD O T (i:=0) (j:=n-1) (by assumption) (by exact rV) rfl (by omega) ?_;dsimp only;by_cases c3:f R[0]<f (R[n-1]'(by omega))
   .rw[AD c3,AC rfl];exact Ae<|q n R (arrOf g) a3 a4 (CI _) T.arr U
   rw[Aw c3,AB (by simp)];have al:∀i (_:i<R.length),0<=i->i<n->f R[i]=f R[0]:=λi hi _ bc=>by have a1:=U 0 i (A5 _) hi bc;have a2:=U i (n-1) (by lia) (by lia) (by lia);lia
   obtain⟨R',m1,m2,m3⟩:=oj (f:=f) T.arr (A5 n) a4 al;refine Ab<|wpS_modify<|key _ {_,R',rfl,m1,m2,gq.same (gq.snoc (λi j aL hj a5=>?_) a3 ay<|BO hd) m3};rw[al j hj (A5 _) a5,al i (by lia) (A5 _) (by lia)];exact CV _
  rintro _ ⟨arr,R0,rfl,p,ba,D0⟩;refine Ab<|wpS_lift<|BD {rfl,?_};have l0:=ba.length_eq;refine Ab (AW (AJ (I:=λx c o=>∃J arr R',c=(none,x,J)/\o=setArr g arr/\arr.toList=P++R'/\R'.Perm R/\gq f R' x/\J+1<=x/\∃v,∀i (_:i<R'.length),x-(J+1)<=i->i<x->f R'[i]=v)
   (Q:=λc o=>∃n J arr R',c=(none,n,J)/\o=setArr g arr/\arr.toList=P++R'/\R'.Perm R/\gq f R' n/\J+1<=n/\n<=R.length/\∃v,∀i (_:i<R'.length),n-(J+1)<=i->i<n->f R'[i]=v) ?_ ?_ ⟨0,arr,R0,rfl,rfl,p,ba,D0,by lia,f<|R0[n]'(by lia),λi hi h2 h3=>by (have e:i=n:=by lia);(subst e;rfl)⟩) ?_)
  .rintro x c o t hx ⟨J,arr,r,rfl,rfl,p,l,D,hq,v,C⟩;have l1:=l.length_eq;have T1:=T.same l p;dsimp only;refine Ab<|kD O T1 (i:=x) (j:=x-1) (by lia) (by lia) rfl (by lia) ?_;dsimp only;by_cases c:f (r[x]'(by lia))<f (r[x-1]'(by omega))
   .rw[AD c,AC rfl];refine jR (P:=λo=>∃arr R',o=setArr g arr/\arr.toList=P++R'/\R'.Perm R/\gq f R' (x+1)) (λ_=>{arr,r,rfl,p,l,D.snoc (by lia) (by lia)<|BO c}) ?_ λc2 key=>?_
    .rintro _ ⟨arr,R',rfl,p,l,D⟩;exact Ae {0,arr,R',rfl,rfl,p,l,D,by lia,f (R'[x]'(by have:=l.length_eq;lia)),λi hi h2 h3=>by (have e:i=x:=by lia);(subst e;rfl)}
    .obtain⟨R',m1,m2,m3⟩:=oj (f:=f) (a:=x-(J+1)) (b:=x) p (by lia) (by lia) C;refine Ab<|wpS_modify<|key _ {_,R',rfl,?_,m2.trans l,gq.same (D.snoc (by lia) (by lia)<|BO c) m3};rw[<-m1];show(mirror arr (P.length+x-(J+1)) (P.length+x)<|(P.length+x-(P.length+x-(J+1))) / 2).toList=_;rw[show P.length+x-(J+1)=P.length+(x-(J+1)) by lia]
   .rw[Aw c,AB (by simp)];refine Ab<|kD O T1 (i:=x-1) (j:=x) (by omega) (by lia) (by lia) rfl ?_;dsimp only;by_cases c3:f (r[x-1]'(by omega))<f (r[x]'(by lia))
    .rw[AD c3,AC rfl];exact Ae {x,J,arr,r,rfl,rfl,p,l,D,hq,by lia,v,C}
    .rw[Aw c3,AB (by simp)];refine Ae {J+1,arr,r,rfl,rfl,p,l,D.snoc (by lia) (by lia) (by lia),by lia,v,λi hi h2 h3=>?_};rcases Cv i x with h|h
     .exact C i hi (by lia) h
     .have:i=x:=by lia
      subst this;rw[<-C (i-1) (by lia) (by lia) (by lia)];lia
  .rintro c o ⟨J,arr,r,rfl,rfl,p,l,D,hq,v,C⟩;exact{_,J,arr,r,rfl,rfl,p,l,D,hq,by lia,v,C}
  .rintro c o ⟨n,J,arr,r,rfl,rfl,p,l,D,hq,g2,v,C⟩;have l1:=l.length_eq;dsimp only;refine jR (P:=λo=>∃arr R',o=setArr g arr/\arr.toList=P++R'/\R'.Perm R/\gq f R' n) (λ_=>{(arr),r,rfl,p,l,D}) ?_ (λc2 key=>?_)
   rotate_left
   .obtain⟨R',m1,m2,m3⟩:=oj (f:=f) (a:=n-(J+1)) (b:=n) p (by lia) (by lia) C;refine Ab<|wpS_modify<|key _ {_,R',rfl,?_,m2.trans l,D.same m3};rw[<-m1];show(mirror arr (P.length+n-(J+1)) (P.length+n)<|(P.length+n-(P.length+n-(J+1))) / 2).toList=_;rw[show P.length+n-(J+1)=P.length+(n-(J+1)) by lia]
   clear C D p l l1;rintro _ ⟨arr,r,rfl,p,l,D⟩;have l1:=l.length_eq;have T1:=T.same l p;have T':=T1.same (R':=(r.take n).reverse++r.drop n) (((BE _).mpr<|Eh _).trans (by rw[A9]))<|kR p (by lia);obtain⟨R',eR⟩:∃R',R'=(r.take n).reverse++r.drop n:={_,rfl};have bb:R'.Perm R:=by rw[eR];exact(((BE _).mpr<|Eh _).trans (by rw[A9])).trans l
   have lR:=bb.length_eq;have U':Up f R' n:=λi j aL hj a5=>by
    subst eR;rw[Eo (by simp;lia),Eo (by simp;lia),List.getElem_reverse,List.getElem_reverse,BF,BF];refine D _ _ ?_ (by simp;omega) ?_
    .simp;omega
    .simp;omega
   rw[<-eR] at T';refine Ab<|wpS_modify ?_;refine Ab (AW (AJ (I:=λx c o=>o=setArr g (mirror arr P.length (P.length+n)<|(P.length+n-P.length) / 2)/\c=(none,x)/\Up f R' x)
    (Q:=λc o=>o=setArr g (mirror arr P.length (P.length+n)<|(P.length+n-P.length) / 2)/\∃n,c=(none,n)/\1<=n/\n<=R.length/\Up f R' n) ?_ ?_ ⟨rfl,rfl,U'⟩) ?_)
   .rintro x c o t hx ⟨rfl,rfl,U⟩;dsimp only;refine Ab<|kD O T' (i:=x) (j:=x-1) (by lia) (by omega) rfl (by lia) ?_;dsimp only;by_cases c:f (R'[x]'(by omega))<f (R'[x-1]'(by omega))
    .rw[AD c,AC rfl];exact Ae {rfl,x,rfl,by lia,by exact jL,U}
    .rw[Aw c,AB (by simp)];exact Ae {rfl,rfl,U.snoc (by omega) (by lia) (by omega)}
   .rintro c o ⟨rfl,rfl,U⟩;exact{rfl,_,rfl,by lia,by lia,U}
   .rintro c o ⟨rfl,n,rfl,k1,k2,U⟩;exact Ae<|q n R' _ k1 k2 bb T'.arr U
end
section
variable {w:W3}{κ:SortKind}{Ok:Keyed->Prop}{f:Xi}
def Up.of{R:Xg}(h:(R.take n).Pairwise λx y=>f x<=f y):Up f R n:=λi j I U J=>by have:=uj h (i:=i) (j:=j) I (by simp;lia);rw[BF,BF] at this;exact this
def SX{R:Xg}{k l:Nat}(I:k<R.length)(J:l<=k):(R.take l++R[k]::((R.drop l).take (k-l)++R.drop (k+1))).Perm R:=by
 have e:R=R.take l++((R.drop l).take (k-l)++(R[k]::R.drop (k+1))):=by rw[<-Ay,Go _ J,<-B4 I,A9]
 refine List.Perm.trans ?_<|EK e.symm;exact(BG _).mpr Cn.symm
def SY{R:Xg}{k l:Nat}(p:k<R.length)(r:l<=k)(U:Up f R k)(lo:∀i (_:i<l),f (R[i]'(by lia))<=f R[k])(hi:∀i (_:i<k),l<=i->f R[k]<=f (R[i]'(rS))):
 Up f (R.take l++R[k]::((R.drop l).take (k-l)++R.drop (k+1))) (k+1):=by
 apply Up.of;have e:R.take l++R[k]::((R.drop l).take (k-l)++R.drop (k+1))=(R.take l++R[k]::(R.drop l).take (k-l))++R.drop (k+1):=by simp
 rw[e,List.take_left' (by simp;lia)];have I:=U.pair<|Bk p;rw[<-Go R r] at I;have I:=AU.mp I;have t:∀y∈(R.drop l).take (k-l),f R[k]<=f y:=λy J=>by obtain⟨j,o,rfl⟩:=BK J;rw[AV,BV] at o;rw[BF,Eg];exact hi (l+j) (by lia)<|Bb _ _
 have C:∀x∈R.take l,f x<=f R[k]:=λx g=>by obtain⟨j,o,rfl⟩:=BK g;rw[AV] at o;rw[BF];exact lo j (by lia)
 refine AU.mpr {I.1,List.pairwise_cons.mpr {(t),I.2.1},λx g y J=>?_};rcases As.mp J with rfl|J
 .exact C x g
 .exact I.2.2 x g y J
def S4(O:Ord prog w A s κ Ok f){st:SortSt}{P R:Xg}(T:Tl κ Ok st P R){ok:Nat}(hn:n<=R.length)(h1:1<=ok)(ho:ok<=n)(U:Up f R ok){Q:Bool->SortSt->Prop}
 (q:∀R' arr,R'.Perm R->arr.toList=P++R'->Up f R' n->Q true (setArr st arr)):wpS (model prog w) A E s (binarySort' P.length n ok) Q st:=by
 refine Ab (AW (AJ (I:=λx c J=>c=(none,())/\∃R' arr,J=setArr st arr/\R'.Perm R/\arr.toList=P++R'/\Up f R' x)
  (Q:=λc J=>c=(none,())/\∃R' arr,J=setArr st arr/\R'.Perm R/\arr.toList=P++R'/\Up f R' n) ?_ ?_ ⟨rfl,R,arrOf st,rfl,CI _,T.arr,by rw[CP h1];exact U⟩) ?_)
 .rintro x c J a1 hx ⟨rfl,R',arr,rfl,p,t,o⟩;have T':=T.same p t;have lR:=p.length_eq;have g:x<R'.length:=by lia
  refine Ab (AW (AJ (I:=λy c J=>J=setArr st arr/\∃l r,c=(none,l,r)/\l<=r/\r<=x/\r-l+y<=x/\(∀i (_:i<l) (_:i<R'.length),f R'[i]<=f R'[x])/\(∀i (_:i<x),r<=i->f R'[x]<=f (R'[i]'(rS))))
   (Q:=λc J=>J=setArr st arr/\∃l,c=(none,l,l)/\l<=x/\(∀i (_:i<l) (_:i<R'.length),f R'[i]<=f R'[x])/\(∀i (_:i<x),l<=i->f R'[x]<=f (R'[i]'(by lia)))) ?_ ?_ ⟨rfl,0,x,rfl,A5 _,Am _,Nat.sub_le _ _,λi h=>by lia,λi h h'=>by omega⟩) ?_)
  .rintro y c J _ hy ⟨rfl,l,r,rfl,g1,g2,g3,C,g5⟩;by_cases c:l>=r
   .rw[AC c];obtain rfl:l=r:=by lia
    exact Ae {(rfl),l,rfl,g2,C,g5}
   .rw[AB c];refine Ab<|kD O T' (i:=x) (j:=(l+r) / 2) g (by lia) rfl rfl ?_;dsimp only;by_cases e:f R'[x]<f (R'[(l+r) / 2]'(by lia))
    .rw[AD e,AC rfl];refine Ae {rfl,l,(l+r) / 2,rfl,by lia,by lia,by omega,C,λi h h'=>?_};exact BS (BO e)<|o _ _ h' (rS) h
    .rw[Aw e,AB (by simp)];refine Ae {rfl,(l+r) / 2+1,r,rfl,by lia,g2,by omega,λi h h'=>?_,g5};exact BS (o i ((l+r) / 2) (IC) (by lia) (by lia)) (by omega)
  .rintro c J ⟨rfl,l,r,rfl,g1,g2,g3,C,g5⟩;obtain rfl:l=r:=by lia
   exact{(rfl),l,rfl,g2,C,g5}
  .rintro c J ⟨rfl,l,rfl,g2,C,g5⟩;refine Ab<|wpS_modify ?_;exact Ae {rfl,_,_,rfl,(SX g g2).trans p,uR t g g2,SY g g2 o (λi h=>C i h (by lia)) g5}
 .rintro c J ⟨rfl,R',arr,rfl,p,t,o⟩;exact{rfl,R',arr,rfl,p,t,by rw[CP h1,CH ho] at o;exact o}
 .rintro c J ⟨rfl,R',arr,rfl,p,t,o⟩;exact Ae<|q R' arr p t o
end
section
variable {w:W3}{κ:SortKind}{Ok:Keyed->Prop}{f:Xi}
def S5{N:Nat}(h:N<128):N<=2*(sortPriv% PySem.Builtin.minRun) N N 0:=by
 show N<=2*minRun' N N 0;cases N with
 |zero=>exact A5 _
 |succ r=>
  rw[minRun'_succ];split
  .lia
  .cases r with|zero=>lia|succ r=>rw[minRun'_succ,AC (by lia)];lia
def HB(f:Xi)(I:Nat)(pn:Array<|Nat×Nat×Nat)(X Y R:Xg):Prop:=
 (pn=#[]/\X=[]/\Y=[])\/(∃w,pn=#[(0,X.length,w)]/\Y=[]/\(I<=X.length\/R=[])/\X.Pairwise λx y=>f x<=f y)\/
  ∃w v,pn=#[(0,X.length,w),(X.length,Y.length,v)]/\0<X.length/\0<Y.length/\R=[]/\(X.Pairwise λx y=>f x<=f y)/\Y.Pairwise λx y=>f x<=f y
theorem JY(O:Ord prog w A s κ Ok f){st:SortSt}{Q:Unit->SortSt->Prop}(a3:(arrOf st).size<128)(hk:kindOf st=κ)(hp:pendingOf st=#[])(hf:failedOf st=none)(ok:∀x∈(arrOf st).toList,Ok x)
 (q:∀g,failedOf g=none->(arrOf g).toList.Perm (arrOf st).toList->((arrOf g).toList.Pairwise λx y=>f x<=f y)->Q () g):wpS (model prog w) A E s sortRuns' Q st:=by
 refine Ab<|wpS_get ?_;dsimp only;have lN:(arrOf st).toList.length=(arrOf st).size:=A1;obtain⟨N,eN⟩:∃N,N=(arrOf st).size:={_,rfl};rw[<-eN] at a3 lN ⊢;obtain⟨Z,eZ⟩:∃Z,Z=(arrOf st).toList:={_,rfl};rw[<-eZ] at lN ok q;have ay:=S5 a3;generalize (sortPriv% PySem.Builtin.minRun) N N 0=mr at ay ⊢;refine Ab (AW (AJ (I:=λx c g=>∃X Y R lo,c=(none,lo)/\kindOf g=κ/\failedOf g=none/\(arrOf g).toList=X++Y++R/\(X++Y++R).Perm Z/\lo=(X++Y).length/\HB f mr (pendingOf g) X Y R/\x<=lo)
  (Q:=λc g=>∃X Y lo,c=(none,lo)/\kindOf g=κ/\failedOf g=none/\(arrOf g).toList=X++Y/\(X++Y).Perm Z/\HB f mr (pendingOf g) X Y []) ?_ ?_ ⟨[],[],Z,0,rfl,hk,hf,eZ.symm,.refl _,rfl,.inl ⟨hp,rfl,rfl⟩,Am _⟩) ?_)
 .rintro x c g _ hx ⟨X,Y,R,lo,rfl,k1,k2,t,r,rfl,k6,k7⟩;have lt:=r.length_eq;rw[Ad,lN] at lt;by_cases c:(X++Y).length>=N
  .rw[AC c];cases Bv (show R.length=0 by lia);rw[AI] at t r;exact Ae {X,Y,_,rfl,k1,k2,t,r,k6}
  rw[AB c,show N-(X++Y).length=R.length by lia];have T:Tl κ Ok g (X++Y) R:={k1,t,λx hx=>ok x<|r.mem_iff.mp<|Ah _ hx};refine Ab<|SW O T (by lia) λn R1 a4 g1 g2 a1 ac U1=>?_;dsimp only;have l1:=a1.length_eq;have vd:∀{J:SortSt} {R2:Xg} {j:Nat} {pn:Array<|Nat×Nat×Nat},kindOf J=κ->failedOf J=none->(arrOf J).toList=X++Y++R2->pendingOf J=pn.push ((X++Y).length,j,0)->((pendingOf g=#[]/\pn=#[])\/∃v,pn=(pendingOf g).modify ((pendingOf g).size-1) λp=>(p.1,p.2.1,v))->R2.Perm R->1<=j->j<=R.length->(mr<=j\/j=R.length)->Up f R2 j->
   ∃X' Y' R' lo,((none,(X++Y).length+j):Option Unit×Nat)=(none,lo)/\kindOf J=κ/\failedOf J=none/\(arrOf J).toList=X'++Y'++R'/\(X'++Y'++R').Perm Z/\lo=(X'++Y').length/\HB f mr (pendingOf J) X' Y' R'/\x+1<=lo:=λ{J R2 j pn} h1 h2 h3 h4 hn p2 h5 h6 h7 U=>by
   have l2:=p2.length_eq;have aL:(R2.take j).length=j:=by rw[AV];lia
   have U':=U.pair (by lia);have pz:=((BG _).mpr p2).trans r;rcases k6 with⟨o,rfl,rfl⟩|⟨w,o,rfl,h8,h9⟩|⟨w,v',o,_,_,rfl,_⟩
   .have e2:pn=#[]:=by
     rcases hn with⟨_,h⟩|⟨v,h⟩
     .exact h
     .rw[h,o];rfl
    refine{R2.take j,[],R2.drop j,_,rfl,h1,h2,by rw[h3];simp,by simpa using pz,by simp;lia,.inr (.inl {0,by rw[h4,e2,aL];rfl,rfl,?_,U'}),by lia};rcases h7 with h|h
    .exact .inl (by lia)
    .exact .inr<|List.drop_eq_nil_of_le (by lia)
   .have e2:∃v,pn=#[(0,X.length,v)]:=by
     rcases hn with⟨h,_⟩|⟨v,h⟩
     .rw[o] at h;cases h
     .exact{v,by rw[h,o];rfl}
    obtain⟨v,e2⟩:=e2;have r0:R≠[]:=λe=>by rw[e] at h6;exact absurd h6 (by simp;lia)
    have h8:=h8.resolve_right r0;rw[AI] at h3 h4 pz lt c ⊢;have en:j=R2.length:=by rcases h7 with h'|h'<;>lia
    rw[A4 (by lia)] at U';exact{X,R2,[],_,rfl,h1,h2,by rw[h3];simp,by simpa using pz,by rw[Ad,en],.inr (.inr {v,0,by rw[h4,e2,en];rfl,by lia,by lia,rfl,h9,U'}),by lia}
   .exact absurd h6 (by simp;lia)
  have sz:(pendingOf g).size<=1:=by
   rcases k6 with⟨o,_⟩|⟨w,o,_⟩|⟨w,v',o,_,_,rfl,_⟩
   .rw[o];exact A5 _
   .rw[o];exact Am _
   .exact absurd lt (by simp at c ⊢;lia)
  by_cases cm:n<mr
  case' pos=>
   rw[AC cm];refine Ab<|wpS_lift<|BD {rfl,?_};refine Ab<|S4 O (T.same a1 ac) (by lia) g1 (by lia) U1 λR2 al ba bb U2=>?_;rw[AB (by simp)];obtain⟨j,a2⟩:∃j,j=min R.length mr:={_,rfl};rw[<-a2] at U2 ⊢;have p2:=ba.trans a1;have h7:mr<=j\/j=R.length:=by lia
   obtain⟨l,C⟩:∃l,l=setArr (setArr g a4) al:={_,rfl}
  case' neg=>
   rw[AB cm];obtain⟨j,a2⟩:∃j,j=n:={_,rfl};obtain⟨R2,a5⟩:∃R2,R2=R1:={_,rfl};rw[<-a2,<-a5] at U1;rw[<-a2];have U2:=U1;have p2:R2.Perm R:=by rw[a5];exact a1
   have h7:mr<=j\/j=R.length:=by lia
   obtain⟨l,C⟩:∃l,l=setArr g a4:={_,rfl}
  all_goals
   have n1:1<=j:=by lia
   have n3:j<=R.length:=by lia
   have o:kindOf l=κ:=by rw[C];exact k1
   have e2:failedOf l=none:=by rw[C];exact k2
   have e3:(arrOf l).toList=X++Y++R2:=by rw[C];first|exact bb|(rw[a5];exact ac)
   have e4:pendingOf l=pendingOf g:=by rw[C]
   rw[<-C];refine Ab<|wpS_get ?_;split
   .refine Ab<|AW (AJ (I:=λy c J=>c=(none,())/\J=l) (Q:=λc J=>c=(none,())/\J=l) ?_ ?_ {(rfl),rfl}) ?_
    .rintro y c J _ hy ⟨rfl,rfl⟩;refine Ab<|wpS_get ?_;rw[AB (show ¬(pendingOf J).size > 1 by rw[e4];lia)];exact Ae {(rfl),rfl}
    .exactλc J h=>h
    .rintro c J ⟨rfl,rfl⟩;refine Ab<|wpS_modify<|Ab<|wpS_modify<|Ae ?_;exact vd o e2 e3 rfl (.inr {_,by rw[<-e4]}) p2 n1 n3 h7 U2
   .rename_i hb;have hb:(pendingOf l).back?=none:=Option.eq_none_iff_forall_ne_some.mpr λp=>hb p.1 p.2.1 p.2.2;rw[e4,Array.back?_eq_none_iff] at hb;exact Ab<|wpS_modify<|Ae<|vd o e2 e3 rfl (.inl {hb,e4.trans hb}) p2 n1 n3 h7 U2
 .rintro c g ⟨X,Y,R,lo,rfl,k1,k2,t,r,rfl,k6,k7⟩;have lt:=r.length_eq;rw[Ad,lN] at lt;cases Bv (show R.length=0 by lia);rw[AI] at t r;exact{X,Y,_,rfl,k1,k2,t,r,k6}
 .rintro c g ⟨X,Y,lo,rfl,k1,k2,t,r,k6⟩;have lt:=r.length_eq;rw[lN] at lt;refine Ab (AW (AJ (I:=λy c J=>c=(none,())/\((y=0/\J=g)\/(failedOf J=none/\(pendingOf J).size<=1/\(arrOf J).toList.Perm Z/\(arrOf J).toList.Pairwise λx y=>f x<=f y)))
   (Q:=λc J=>c=(none,())/\failedOf J=none/\(arrOf J).toList.Perm Z/\(arrOf J).toList.Pairwise λx y=>f x<=f y) ?_ ?_ ⟨rfl,.inl ⟨rfl,rfl⟩⟩) ?_)
  .rintro y c J _ hy ⟨rfl,h⟩;refine Ab<|wpS_get ?_;rcases h with⟨rfl,rfl⟩|⟨h1,h2,h3⟩
   .rcases k6 with⟨o,rfl,rfl⟩|⟨w,o,rfl,_,h9⟩|⟨w,v,o,lX,lY,_,sX,sY⟩
    .rw[AC (show(pendingOf J).size<=1 by rw[o];exact A5 _)];exact Ae {rfl,k2,by rw[t];exact r,by rw[t];exact .nil}
    .rw[AC (show(pendingOf J).size<=1 by rw[o];exact Am _)];exact Ae {rfl,k2,by rw[t];exact r,by rw[t,AI];exact h9}
    .rw[AB (show ¬(pendingOf J).size<=1 by rw[o];exact Nat.not_succ_le_self 1)];have gen:∀b:Bool,(if b=true then(pendingOf J).size-2-1 else(pendingOf J).size-2)=0:=λb=>by cases b<;>rw[o]<;>rfl
     refine Ab ?_;rw[gen];refine SU O k1 k2 o t (λx hx=>ok x<|r.mem_iff.mp hx) lX lY sX sY λbc b1 b2 b3 b4=>?_;rw[AB (by simp)];exact Ae {rfl,.inr {b1,by rw[b2];exact Am _,b3.trans r,b4}}
   .rw[AC h2];exact Ae {(rfl),h1,h3}
  .rintro c J ⟨rfl,h⟩;rcases h with⟨h0,rfl⟩|⟨h1,_,h3⟩
   .have e:X++Y=[]:=Bv (by lia);rw[e] at t r;exact{rfl,k2,by rw[t];exact r,by rw[t];exact .nil}
   .exact{(rfl),h1,h3}
  .rintro c J ⟨rfl,h1,h2,h3⟩;exact Ae<|q J h1 h2 h3
end
section
open PySem.W
def JZ(h:W4)(B:Int)(x:Keyed):Prop:=∃a o n r p t u,x.1=.ref a/\h.get? a=some o/\o.data=.seq #[.int r t,.int p u] n/\0<=p/\p<B
noncomputable def num(h:W4)(B:Int)(x:Keyed):Int:=match x.1 with
 |.ref a=>match h.get? a with
  |some o=>match o.data with
   |.seq xs _=>match xs.toList with
    |[.int r _,.int p _]=>r*B+p
    |_=>0
   |_=>0
  |none=>0
 |_=>0
def Xw{B:Int}{x:Keyed}{a:Addr}{o:Obj}{r p:Int}{t u:Tok}(I:x.1=.ref a)(J:h.get? a=some o)(U:o.data=.seq #[.int r t,.int p u] n):num h B x=r*B+p:=by unfold num;simp[I,J,U]
def uk{w:W3}{B:Int}:Ord prog w A s (tuples' true) (JZ s.heap B) (num s.heap B):=by
 constructor;rintro x y ⟨r,t,C,I,J,T,u1,l,g1,d1,b1,c1⟩ ⟨a2,o2,n2,U,g,t2,u2,o,g2,d2,b2,c2⟩ E Q h;rw[Xw l g1 d1,Xw o g2 d2] at h;rw[l,o];refine kat_lt g1 d1 g2 d2 ?_;refine kat_cons<|wpAny_eqBool_int ?_;by_cases c:I=U
 .subst c;rw[beq_self_eq_true];refine kat_yes<|kat_cons<|wpAny_eqBool_int ?_;by_cases p:J=g
  .subst p;rw[beq_self_eq_true];refine kat_yes<|kat_nil ?_;have e:decide (I*B+J<I*B+J)=false:=Aw (by lia);rw[e] at h;exact h
  .rw[EL p];refine kat_no<|kat_one _ _<|PyProof.Rows.lt_int ?_;have e:decide (I*B+J<I*B+g)=decide (J<g):=by
    by_cases z:J<g
    .rw[AD z];exact AD (by lia)
    .rw[Aw z];exact Aw (by lia)
   rw[e] at h;exact h
 .rw[EL c];refine kat_no<|oneLt_int ?_;have e:decide (I*B+J<U*B+g)=decide (I<U):=by
   by_cases z:I<U
   .rw[AD z];have j:(I+1)*B<=U*B:=CK (by assumption) (by lia);rw[Int.add_mul,Int.one_mul] at j;exact AD (by omega)
   .rw[Aw z];have j:(U+1)*B<=I*B:=CK (by lia) (by lia);rw[Int.add_mul,Int.one_mul] at j;exact Aw (by lia)
  rw[e] at h;exact h
section
variable {w:W3}
def pW(h:W4)(B:Int)(v:W0):Prop:=∃a o n r p t u,v=.ref a/\h.get? a=some o/\o.cls=.type "tuple" /\ o.data=.seq #[.int r t,.int p u] n/\0<=p/\p<B
def pW.pair{B:Int}{x:Keyed}(k:pW h B x.1):JZ h B x:=by obtain⟨a,o,n,r,p,t,u,I,J,_,U,g,j⟩:=k;exact{(a),o,n,r,p,t,u,I,J,U,g,j}
theorem SZ{h:W4}{B:Int}:∀{ks:WP},(∀v∈ks,pW h B v)->∃fs,KatTups h ks fs/\fs.length=ks.length/\∀v∈fs,∃r t,v=Value.int r t
 |[],_=>{[],trivial,rfl,λv I=>by simp at I}
 |k::ks,J=>by
  obtain⟨fs,h1,h2,h3⟩:=SZ (ks:=ks) λv I=>J v<|Ai _ I;obtain⟨a,o,n,r,p,t,u,rfl,U,g,j,_,_⟩:=J k<|Ao ..;refine{.int r t::fs,KatTups.cons U g j rfl h1,by simp[h2],λv I=>?_};rcases As.mp I with rfl|I
  .exact{(r),t,rfl}
  .exact h3 v I
def J0{B:Int}{ks:WP}{Q:SortKind->W1->Prop}(I:∀v∈ks,pW s.heap B v)(h0:0<ks.length)(q:Q (tuples' true) s):wpAny (model prog w) A (keyKind' ks.toArray) Q E s:=by
 obtain⟨fs,h1,h2,h3⟩:=SZ I;refine kat_kind (T:=.type "int") h1 (by lia) (λv J=>?_) (by decide) ?_
 .obtain⟨r,t,rfl⟩:=h3 v J;exact .now
 .exact q
theorem vK{R:α->α->Prop}:∀{l:List α},l.length<2->l.Pairwise R
 |[],_=>List.Pairwise.nil
 |[_],_=>List.pairwise_singleton _ _
 |_::_::_,h=>absurd h (by simp)
def S6{a kS:Addr}{ks:WP}{e o:Nat}{B:Int}{P:PySem.Fin->W1->Prop}(p:s.heap.get? kS=some (seqObj "list" ks.toArray e))(ha:s.heap.get? a=some (seqObj "list" #[] o))(r:kS≠a)(hl:ks.length=vs.length)(U:vs.length<=127)
 (hk:∀v∈ks,pW s.heap B v)
 (h:∀h' tk (xs:Xg) c,(∀b,b≠kS->b≠a->h'.get? b=s.heap.get? b)->h'.get? a=some (seqObj "list" (List.toArray (xs.map (·.2))) c)->xs.Perm (ks.zip vs)->(xs.Pairwise λx y=>num s.heap B x<=num s.heap B y)->P (.done<|.ret .none) {s with heap:=h',toks:=tk}):
 wpAny (model prog w) A (ksk_end a false vs.toArray o (.ref kS) ks.toArray) P E s:=by
 have hz:vs.length<=sizeLine:=AS U (by decide);have j:(ks.toArray.zip vs.toArray).toList=ks.zip vs:=by simp
 have tail:∀st:SortSt,failedOf st=none->(arrOf st).toList.Perm (ks.zip vs)->((arrOf st).toList.Pairwise λx y=>num s.heap B x<=num s.heap B y)->wpAny (model prog w) A (ksk_tail a false o (.ref kS) st) P E s:=by
  intro st hf hp hs;have s1:=yp s.heap kS<|Obj.mapSeq λ_=>(#[]:WQ);have J:=(s1.2 a r.symm).trans ha;have s2:=yp (s.heap.update kS<|Obj.mapSeq λ_=>(#[]:WQ)) a (Obj.mapSeq λ_=>(arrOf st).map (·.2));have len:((arrOf st).map (·.2)).size<=sizeLine:=by have:=hp.length_eq;rw[DI,A1] at this;rw[Array.size_map];lia
  unfold ksk_tail
  try dsimp only
  refine Aa (listUpdate_at p rfl ?_ (by rw[Ar];lia)<|A5 _);refine Aa<|wpAny_letGo ?_;refine Aa<|seqEpoch_at J rfl ?_;refine Aa (listUpdate_at J rfl ?_ (A5 _) (by simp only[Cp,if_false];exact B7 len));rw[hf];simp only[bne_self_eq_false,Cp,if_false];obtain⟨t,g⟩:∃t,((s.heap.update kS<|Obj.mapSeq λ_=>(#[]:WQ)).update a (Obj.mapSeq λ_=>(arrOf st).map (·.2))).get? a=some (seqObj "list" ((arrOf st).map (·.2)) t):={_,get?_update_seq J λ_=>(arrOf st).map (·.2)};refine Aj<|h _ _ (arrOf st).toList t (λb C T=>?_) ?_ hp hs
  .exact(s2.2 b T).trans (s1.2 b C)
  .have em:(arrOf st).map (·.2)=List.toArray ((arrOf st).toList.map (·.2)):=by apply Array.toList_inj.mp;rw[Array.toList_map]
   rw[em] at g ⊢;exact g
 unfold ksk_end;simp only[Cp,if_false];by_cases h2:vs.toArray.size<2
 .rw[AC h2,AC h2];refine Aa<|Aj ?_;rw[StateT.run_pure];refine Aa<|Aj ?_;refine tail _ rfl (by show(ks.toArray.zip vs.toArray).toList.Perm _;rw[j]) ?_;show(ks.toArray.zip vs.toArray).toList.Pairwise _;rw[j];rw[Ar] at h2;have:(ks.zip vs).length<2:=by rw[DI];lia
  exact vK this
 .rw[AB h2,AB h2];rw[Ar] at h2;refine Aa<|J0 hk (by omega) ?_;refine Aa (AZ (JY (E:=E) (uk (B:=B)) (st:=SortSt.mk' (tuples' true) (ks.toArray.zip vs.toArray) #[] 7 none)
   (Q:=λ_ I=>failedOf I=none/\(arrOf I).toList.Perm (ks.zip vs)/\((arrOf I).toList.Pairwise λx y=>num s.heap B x<=num s.heap B y)) (by show(ks.toArray.zip vs.toArray).size<128;simp;lia) rfl rfl rfl (λx l=>?_) λI b1 b2 b3=>{b1,?_,b3}) ?_ λ_ _ e=>e)
  .have l:x∈(ks.toArray.zip vs.toArray).toList:=l;rw[j] at l;exact pW.pair<|hk _ (DG (a:=x.1) (b:=x.2) l).1
  .have b2:(arrOf I).toList.Perm (ks.toArray.zip vs.toArray).toList:=b2;rw[j] at b2;exact b2
  .rintro⟨⟨⟩,I⟩ s' ⟨rfl,b1,b2,b3⟩;exact tail I b1 b2 b3
end
def XY(f:α->β):∀{l m:List β},l.Perm m->∀{T:List α},T.map f=m->∃U:List α,U.Perm T/\U.map f=l:=by
 intro l m p
 induction p with
 |nil=>intro T e;exact{T,CI _,e}
 |cons x _ o=>
  intro T e;cases T with
  |nil=>cases e
  |cons t r=>
   rw[AA] at e;obtain⟨I,J⟩:=Em e;obtain⟨U,C,e'⟩:=o J;exact{t::U,C.cons t,by rw[AA,e',I]}
 |swap x y l=>
  intro T e
  match T,e with
  |t::u::r,e=>
   rw[AA,AA] at e;obtain⟨I,J⟩:=Em e;obtain⟨e3,e4⟩:=Em J;exact{u::t::r,List.Perm.swap t u r,by rw[AA,AA,I,e3,e4]}
 |trans _ _ g j=>
  intro T e;obtain⟨T1,p1,I⟩:=j e;obtain⟨T2,p2,J⟩:=g I;exact{T2,p2.trans p1,J}
section
variable {w:W3}
def KB{x:Keyed}(h:x∈vs.zip vs):x.1∈vs/\x.1=x.2:=by
 induction vs with
 |nil=>simp at h
 |cons v r I=>
  rw[DX] at h;rcases As.mp h with rfl|h
  .exact{Ao ..,rfl}
  .exact{Ai _ (I h).1,(I h).2}
def J1(prog:W2)(w:W3)(s:W1)(keep:W4->Prop)(κ:SortKind)(vs:WP)(nm:Xi):Prop:=∀(A:Around) (E:WK) (g:W4),keep g->
 Ord prog w A {s with heap:=g} κ (λx=>x∈vs.zip vs) nm/\(¬vs.length<2->∀Q:SortKind->W1->Prop,Q κ {s with heap:=g}->wpAny (model prog w) A (keyKind' vs.toArray) Q E {s with heap:=g})
def S7{a:Addr}{κ:SortKind}{nm:Xi}{P:PySem.Fin->W1->Prop}(T:s.heap.get? a=some (seqObj "list" vs.toArray n))(hz:vs.length<=127)(ok:J1 prog w s (λg=>∀b o,b≠a->s.heap.get? b=some o->g.get? b=some o) κ vs nm)
 (h:∀h' tk (xs:Xg) c,(∀b o,b≠a->s.heap.get? b=some o->h'.get? b=some o)->h'.get? a=some (seqObj "list" (List.toArray (xs.map (·.2))) c)->xs.Perm (vs.zip vs)->(xs.Pairwise λx y=>nm x<=nm y)->P (.done<|.ret .none) {s with heap:=h',toks:=tk}):
 wpAny (model prog w) A (Builtin.«list.sort» ⟨[.ref a],[]⟩) P E s:=by
 have big:(100000:Nat)+1<=sizeLine:=by rw[sizeLine_eq];exact DH _ _
 have r:(vs.toArray.zip vs.toArray).toList=vs.zip vs:=by simp
 have s1:=yp s.heap a<|Obj.mapSeq λ_=>(#[]:WQ);obtain⟨e1,l⟩:∃e1,(s.heap.update a<|Obj.mapSeq λ_=>(#[]:WQ)).get? a=some (seqObj "list" #[] e1):={_,get?_update_seq T λ_=>#[]};obtain⟨I,U⟩:∃g,g=((s.heap.update a<|Obj.mapSeq λ_=>(#[]:WQ)).push<|seqObj "tuple" vs.toArray 0).push (seqObj "list" #[] 0):={_,rfl};have k3:∀b o,b≠a->s.heap.get? b=some o->I.get? b=some o:=λb o t e=>by rw[U];exact vb _<|vb _<|(s1.2 b t).trans e
 have j:I.get? a=some (seqObj "list" #[] e1):=by rw[U];exact vb _<|vb _ l
 have tail:∀st:SortSt,(arrOf st).toList.Perm (vs.zip vs)->((arrOf st).toList.Pairwise λx y=>nm x<=nm y)->
  ∀tk,P (.done<|.ret .none) {s with heap:=I.update a (Obj.mapSeq λ_=>(arrOf st).map (·.2)),toks:=tk}:=by
  intro st hp hs tk;have s2:=yp I a (Obj.mapSeq λ_=>(arrOf st).map (·.2));obtain⟨c2,p⟩:∃c2,(I.update a (Obj.mapSeq λ_=>(arrOf st).map (·.2))).get? a=some (seqObj "list" ((arrOf st).map (·.2)) c2):={_,get?_update_seq j λ_=>(arrOf st).map (·.2)};have em:(arrOf st).map (·.2)=List.toArray ((arrOf st).toList.map (·.2)):=by apply Array.toList_inj.mp;rw[Array.toList_map]
  refine h _ tk (arrOf st).toList c2 (λb o t e=>(s2.2 b t).trans<|k3 b o t e) ?_ hp hs;rw[em] at p ⊢;exact p
 have len:∀st:SortSt,(arrOf st).toList.Perm (vs.zip vs)->((arrOf st).map (·.2)).size<=sizeLine+1:=λst hp=>by have:=hp.length_eq;rw[DI,A1] at this;rw[Array.size_map];lia
 rw[list_sort_plain];refine Aa<|listItems_at T rfl ?_;refine Aa (listUpdate_at T rfl ?_ (by rw[Ar];exact fV)<|A5 _);refine Aa<|seqEpoch_at l rfl ?_;refine Aa<|wpAny_newTuple ?_ (by lia);refine Aa<|wpAny_newList ?_<|A5 _;refine Bj ?_;rw[<-U];dsimp only;by_cases h2:vs.toArray.size<2
 .rw[AC h2,AC h2];refine Aa<|Aj ?_;rw[StateT.run_pure];refine Aa<|Aj ?_;refine Aa<|seqEpoch_at j rfl ?_;have pz:(arrOf<|SortSt.mk' κ (vs.toArray.zip vs.toArray) #[] 7 none).toList.Perm (vs.zip vs):=by rw[r]
  refine Aa<|listUpdate_at j rfl ?_ (A5 _)<|len _ pz;simp only[bne_self_eq_false,Cp,if_false];refine Aj<|tail (SortSt.mk' κ (vs.toArray.zip vs.toArray) #[] 7 none) pz ?_ _;rw[r];rw[Ar] at h2;have:(vs.zip vs).length<2:=by rw[DI];lia
  exact vK this
 .rw[AB h2,AB h2];rw[Ar] at h2;refine Aa<|(ok _ _ I k3).2 h2 _ ?_;refine Aa (AZ (JY (E:=E) (ok _ E I k3).1 (st:=SortSt.mk' κ (vs.toArray.zip vs.toArray) #[] 7 none)
   (Q:=λ_ J=>failedOf J=none/\(arrOf J).toList.Perm (vs.zip vs)/\((arrOf J).toList.Pairwise λx y=>nm x<=nm y)) (by show(vs.toArray.zip vs.toArray).size<128;simp;lia) rfl rfl rfl (λx C=>?_) λJ b1 b2 b3=>{b1,?_,b3}) ?_ λ_ _ e=>e)
  .have C:=C;rw[r] at C;exact C
  .have b2:=b2;rw[r] at b2;exact b2
  .rintro⟨⟨⟩,J⟩ s' ⟨rfl,b1,b2,b3⟩;refine Aa<|seqEpoch_at j rfl ?_;refine Aa<|listUpdate_at j rfl ?_ (A5 _)<|len _ b2;rw[b1];simp only[bne_self_eq_false,Cp,if_false];exact Aj<|tail J b2 b3 _
def qT{l:Addr}{κ:SortKind}{nm:Xi}(r:s.heap.IsList l vs.toArray)(hz:vs.length<=127)(ok:J1 prog w s (λg=>∀b o,s.heap.get? b=some o->g.get? b=some o) κ vs nm)
 (h:∀h' tk (xs:Xg) D c,s.heap.objs.size<=D->(∀b o,s.heap.get? b=some o->h'.get? b=some o)->h'.get? D=some (seqObj "list" (List.toArray (xs.map (·.2))) c)->xs.Perm (vs.zip vs)->(xs.Pairwise λx y=>nm x<=nm y)->Q (.ref D) {s with heap:=h',toks:=tk}):
 wpAny (model prog w) A (call (.builtin "sorted") [.ref l]) Q E s:=by
 have big:(100000:Nat)+1<=sizeLine:=by rw[sizeLine_eq];lia
 refine Calls.call_function_entry kind_sorted plain_sorted entry_sorted (args_sorted1 _) ?_;refine Aa (m:=checkCount "sorted" 1 1 _)<|Aj ?_;refine Aa<|collect_list r ?_ (by lia);refine Aa<|wpAny_newList ?_ (by lia);obtain⟨g,j⟩:∃g,g=(s.heap.push<|seqObj "list" #[] 0).update s.heap.objs.size (Obj.mapSeq (· ++ vs.toArray)):={_,rfl};have p:g.objs.size=s.heap.objs.size+1:=by rw[j,Heap.size_update,size_push']
 have t:∀b o,s.heap.get? b=some o->g.get? b=some o:=λb o q=>by have I:=wh q;rw[j,Heap.get?_update_ne _ _ _ _<|A3 I];exact vb _ q
 rw[<-j];have U:(g.push<|seqObj "list" vs.toArray 0).get? g.objs.size=some (seqObj "list" vs.toArray 0):=xT _ rfl;have keep:∀J:W4,(∀b o,b≠g.objs.size->(g.push<|seqObj "list" vs.toArray 0).get? b=some o->J.get? b=some o)->∀b o,s.heap.get? b=some o->J.get? b=some o:=λJ k b o q=>k b o (λz=>by have I:=wh q;rw[z,p] at I;exact Nat.not_succ_lt_self I)<|vb _<|t b o q
 refine Aa<|Bj<|wpAny_call_entry slot_list_sort {_,U,rfl} entry_list_sort ?body<|args_list_sort _
 case body=>
  refine S7 (s:={s with heap:=g.push (seqObj "list" vs.toArray 0)}) U hz (λA E J k=>ok A E J<|keep J k) λh' tk xs c C T pm pw=>?_;exact{_,rfl,Aj {_,rfl,h h' tk xs g.objs.size c (by rw[p];exact CU _) (keep h' C) T pm pw}}
def YI{l:Addr}{B:Int}(hl:s.heap.IsList l vs.toArray)(hz:vs.length<=127)(C:∀v∈vs,pW s.heap B v)
 (h:∀h' tk (xs:Xg) D c,s.heap.objs.size<=D->(∀b o,s.heap.get? b=some o->h'.get? b=some o)->h'.get? D=some (seqObj "list" (List.toArray (xs.map (·.2))) c)->xs.Perm (vs.zip vs)->(xs.Pairwise λx y=>num s.heap B x<=num s.heap B y)->Q (.ref D) {s with heap:=h',toks:=tk}):
 wpAny (model prog w) A (call (.builtin "sorted") [.ref l]) Q E s:=by
 refine qT (κ:=tuples' true) hl hz (λA E g k=>?_) h;have j:∀v∈vs,pW g B v:=λv hv=>by obtain⟨a,o,m,r,p,t,u,I,J,r'⟩:=C v hv;exact{a,o,m,r,p,t,u,I,k _ _ J,r'}
 have nk:∀x∈vs.zip vs,num g B x=num s.heap B x:=λx U=>by obtain⟨a,o,m,r,p,t,u,I,J,e3,T,_⟩:=C _ (KB U).1;rw[Xw I J T,Xw I (k _ _ J) T]
 refine{{λx y U hy {E Q} q=>?_},λh2 Q q=>J0 (s:={s with heap:=g}) j (by lia) q};rw[<-nk x U,<-nk y hy] at q;exact(uk (s:={s with heap:=g})).lt x y (pW.pair<|j _ (KB U).1) (pW.pair<|j _ (KB hy).1) q
end
end
def jW(f:α->β){l m:List β}(p:l.Perm m){T:List α}(e:T.map f=m):∃I:List α,I.Perm T/\I.map f=l:=XY f p e
theorem gu{α β I:Type}{R:β->I->Prop}{g:α->β}{h:α->I}:∀{T:List α},(∀t∈T,R (g t)<|h t)->Paired R (T.map g) (T.map h)
 |[],_=>.nil
 |t::_,k=>.cons (k t<|Ao ..)<|gu λu J=>k u<|Ai _ J
def r6{J:Type}{R:α->β->Prop}{S:α->J->Prop}:∀{xs:List α} {ys:List β} {zs:List J},Paired R xs ys->Paired S xs zs->∃T:List (α×β×J),T.map (·.1)=xs/\T.map (λt=>t.2.1)=ys/\T.map (λt=>t.2.2)=zs/\∀t∈T,R t.1 t.2.1/\S t.1 t.2.2
 := by
 intro xs ys zs p q
 induction p generalizing zs with
 |nil=>cases q;exact{[],rfl,rfl,rfl,λt I=>by cases I}
 |cons r p l=>
  cases q with
  |cons q o=>
   rename_i x y U g z j;obtain⟨T,C,e2,e3,k⟩:=l o;refine{(x,y,z)::T,by rw[AA,C],by rw[AA,e2],by rw[AA,e3],λt I=>?_};rcases As.mp I with rfl|I
   .exact{(r),q}
   .exact k t I
theorem fj{α β:Type}{f:α->β}:∀{l:List α},(∀x∈l,∀y∈l,f x=f y->x=y)->l.Nodup->(l.map f).Nodup
 |[],_,_=>BY
 |a::r,h,n=>by obtain⟨J,U⟩:=AE.mp n;rw[AA];refine AE.mpr {λz=>?_,fj (λx g y I=>h x (Ai _ g) y<|Ai _ I) U};obtain⟨y,I,e⟩:=A7.mp z;have:=h y (Ai _ I) a (Ao ..) e;exact J<|this▸I
def HE(p q:Int×Int):Prop:=p.1<q.1\/(p.1=q.1/\p.2<=q.2)
abbrev Gq(K:Af)(H:Hp)(v:V)(p:Int×Int):Prop:=∃a,v=.ref a/\dZ K H a [.int p.1,.int p.2]
def S8{B:Int}{p q:Int×Int}(J:0<=p.2/\p.2<B)(U:0<=q.2/\q.2<B)(h:p.1*B+p.2<=q.1*B+q.2):HE p q:=by
 by_cases c:p.1<q.1
 .exact .inl c
 .right;by_cases d:q.1<p.1
  .have I:(q.1+1)*B<=p.1*B:=CK (by assumption) (by lia);rw[Int.add_mul,Int.one_mul] at I;omega
  .have e:p.1=q.1:=by lia
   rw[e] at h;exact{e,by lia}
def S9(X:Cx):W6->Hp->VK->Prop:=λxs H Q=>∃l ys ps,xs=[.ref l]/\aY X.K H l ys/\Paired (Gq X.K H) ys ps/\(∀p∈ps,0<=p.2/\p.2<1000000)/\ps.Nodup/\ys.length<=127/\
 ∀D zs qs,H D=none->Paired (Gq X.K H) zs qs->qs.Perm ps->qs.Pairwise HE->Q (.ref D) (upd H D<|.lst zs)
def yL:jh X (.builtin "sorted") (S9 X):=by
 rintro a4 s σ H xs us Q I r⟨l,ys,ps,rfl,hl,pr,hb,XH,C,q⟩;obtain⟨u,rfl,ru⟩:=r.one;cases (show u=Value.ref l from ru);obtain⟨a1,rv,pl,hz⟩:=I.list hl;have l1:=rv.length;obtain⟨T,e1,e2,e3,kT⟩:=r6 rv pr;have U:∀t∈T,(∃a o n g j,t.2.1=Value.ref a/\s.heap.get? a=some o/\o.cls=.type "tuple" /\ o.data=.seq #[.int t.2.2.1 g,.int t.2.2.2 j] n)/\0<=t.2.2.2/\t.2.2.2<1000000:=λt J=>by obtain⟨r1,a,ea,hs⟩:=kT t J;obtain⟨a5,a2,⟨o,g1,g2,n,g3⟩,_⟩:=I.tuple hs;obtain⟨w1,w2,rfl,x1,x2⟩:=a2.two;obtain⟨g,rfl⟩:=(show ∃g,w1=Value.int t.2.2.1 g from x1);obtain⟨j,rfl⟩:=(show ∃j,w2=Value.int t.2.2.2 j from x2);rw[ea] at r1;refine{{(a),o,n,g,j,r1,g1,g2,g3},?_};exact hb _ (by rw[<-e3];exact C8 (f:=λt:V×W0×(Int×Int)=>t.2.2) J)
 have nT:∀t∈T,num s.heap 1000000 (t.2.1,t.2.1)=t.2.2.1*1000000+t.2.2.2:=λt J=>by obtain⟨⟨a,o,n,g,j,g0,g1,g2,g3⟩,_⟩:=U t J;exact Xw g0 g1 g3
 have ez:a1.zip a1=T.map λt=>(t.2.1,t.2.1):=by rw[<-e2,List.zip_map']
 refine ja I.tk (YI (B:=1000000) pl.isList (by rw[<-l1];exact C) (λv hv=>?_) λh' tk ks D c hD hk hg pm pw J=>?_)
 .rw[<-e2] at hv;obtain⟨t,J,rfl⟩:=A7.mp hv;obtain⟨⟨a,o,n,g,j,g0,g1,g2,g3⟩,b1,b2⟩:=U t J;exact{a,o,n,_,_,g,j,g0,g1,g2,g3,b1,b2}
 .rw[ez] at pm;obtain⟨T',pT,eT⟩:=jW _ pm rfl;subst eT;have p:∀t,t∈T'->t∈T:=λt=>pT.mem_iff.mp;have a3:=BP.mp pw;refine{.ref D,_,I.laid (t':=tk) (o:=.lst (T'.map (·.1))) hk hD ?_,rfl,q D (T'.map (·.1)) (T'.map λt=>t.2.2) (I.GT.fresh hD) (gu λt J=>(kT t<|p t J).2) ?_ ?_}
  .refine{?_,T'.map λt=>t.2.1,c,gu λt J=>(kT t<|p t J).1,?_}
   .rw[Ac,pT.length_eq];have:T.length=ys.length:=by rw[<-e1,Ac]
    rw[this];exact hz
   .rw[hg,BC];rfl
  .rw[<-e3];exact pT.map _
  .refine BP.mpr<|Ep (λ{x y} hx hy z=>?_) a3;rw[nT x<|p x hx,nT y<|p y hy] at z;exact S8 (U x<|p x hx).2 (U y<|p y hy).2 z
def rW(p:Int×Int):Y:=.tup [.int p.1,.int p.2]
theorem uh{G:G3}{H:Hp}:∀{ps:List<|Int×Int} {xs:W6},va G H (ps.map rW) xs->Paired (Gq G.K H) xs ps
 |[],_,h=>by cases (show _=[] from h);exact .nil
 |p::r,_,ψ=>by obtain⟨x,U,e,⟨a,zs,ea,g,j,l,o,I,t,C,T,J,e3⟩,s⟩:=ψ;subst e ea o T e3;cases (show j=V.int p.1 from I);cases (show t=V.int p.2 from J);exact .cons {(a),rfl,g}<|uh s
def S' :∀{ps:List<|Int×Int} {xs:W6},Paired (Gq G.K H) xs ps->va G H (ps.map rW) xs:=by
 intro ps xs h
 induction h with
 |nil=>exact rfl
 |cons z t I=>
  obtain⟨a,ea,J⟩:=z;subst ea;exact{_,_,rfl,{a,_,rfl,J,_,_,rfl,rfl,_,_,rfl,rfl,rfl},I}
def aI(xs:_x)(L:qm)(Q:YK):Prop:=match xs with
 |[.ref a]=>cM L a λys=>∃ps:List (Int×Int),ys=ps.map rW/\(∀p∈ps,0<=p.2/\p.2<1000000)/\ps.Nodup/\ps.length<=127/\∀(D:Addr) (qs:List<|Int×Int),L D=none->qs.Perm ps->qs.Pairwise HE->Q (.ref D) (qj L D<|.lst<|qs.map rW)
 |_=>False
def k8:bootBuiltins "sorted"=some (.builtin "sorted"):=by decide +kernel
theorem ak :jh X (.builtin "sorted") (f_ X.g3 aI):=FD yL λxs H Q ys L Q3 g J z k=>by
 unfold aI at z;split at z
 .rename_i a;obtain⟨j,e,l,rfl,o,XH,I,z⟩:=xa z;obtain⟨p,t,r⟩:=J a _ e;obtain⟨u,rfl,C⟩:=g.inv1;cases (show u=V.ref a from C);have T:=uh r;exact{a,p,l,rfl,FE t,T,o,XH,by rw[<-r.length,Ac];exact I,λD j qs U pz pm pw=>k _ _ _ _ (EX U) (J.XX U<|S' pz) (by rfl)<|z D qs (J.none U) pm pw}
 .exact z.elim
def cJ:Wd->Y
 |.leaf t n=>.tup [.str<|kL t,.str n]
 |.node e l r=>.tup [.str<|kN e,cJ l,cJ r]
def qg{Q:α->qm->Prop}{o:Option α}{v:α}(e:o=some v)(h:Q v L):wX L Q o:=by rw[e];exact h
def qP:RD "is_leaf" qU 0 ["word"] (λ_=>True):={_,λV B c _ _ _ _ _ _ _ I hN J=>(qe<|qu<|aH (yc _ _ _) (J_ 0) (Jf B._e rfl) (by with_unfolding_all rfl))}
def kX:Bool->Bool->Str
 |true,t=>kL t
 |false,e=>kN e
inductive aJ(ys:_x)(L:qm)(Q:YK):Prop
 |mk:∀lf b rest,(ys=[.tup<|.str (kX lf b)::rest])->(Q (.bl lf) L)->aJ ys L Q
def Ta(t:Bool):tN (.str<|kL t) [.str "plain",.str "turned"]=true:=by cases t<;>decide +kernel
def Tb(t:Bool):tN (.str<|kN t) [.str "plain",.str "turned"]=false:=by cases t<;>decide +kernel
def xD:_f aJ qP.1 1:=by
 rintro ys L Q ⟨lf,b,rest,rfl,q⟩;have I:fG (Y.str (kX lf b)::rest) 0=some (Y.str<|kX lf b):=xi (xs:=Y.str (kX lf b)::rest) (j:=0) rfl;walk_at "w";rw[I];refine{rfl,rfl,vd ?_};cases lf with
 |true=>
  rw[show nb false (tN (eX<|.str<|kX true b)<|[Y.str "plain",.str "turned"].map eX)=true from Ta b];exact q
 |false=>
  rw[show nb false (tN (eX<|.str<|kX false b)<|[Y.str "plain",.str "turned"].map eX)=false from Tb b];exact q
def uT(J U:vt):RR "turned" tZ 2 ["word"] ["word","kind"] U (λV=>FU V J):={_,λV B c _ _ I _ _ _ _ _ _ g hN j=>(qb (S_ 1 hN<|I_ (Jf B._g rfl)<|J_ 0)<|qb (zo (km<|C_ c g<|jm<|qv 0) (qe<|qu<|qr<|vj (qv 1)<|J_ 0) zg)<|qe<|qu<|qr<|aA (qv 1) (C_ I g<|jm<|J_ 0)<|C_ I g<|jm<|J_ 0)}
inductive a9(n:Nat)(ys:_x)(L:qm)(Q:YK):Prop
 |mk:∀wd,(ys=[cJ wd])->(wd.depth<=n)->(Q (cJ wd.turn) L)->a9 n ys L Q
def rE(t:Bool):List.lookup (kL t) [(("plain" : Str),("turned" : Str)),("turned","plain"),("both","either"),("either","both")]=some (kL<|!t):=by cases t<;>decide +kernel
def rL(t:Bool):List.lookup (kN t) [(("plain" : Str),("turned" : Str)),("turned","plain"),("both","either"),("either","both")]=some (kN<|!t):=by cases t<;>decide +kernel
def Tc(n:Nat):_f (a9 (n+1)) (uT aJ<|a9 n).1 2:=by
 rintro ys L Q ⟨I,rfl,hd,q⟩;cases I with
 |leaf t nm=>
  exact qg (rE t) {true,t,_,rfl,vd q}
 |node e l r=>
  have J:max l.depth r.depth+1<=n+1:=hd;refine qg (rL e) {false,e,_,rfl,l,rfl,by lia,r,rfl,by lia,?_};exact vd q
def jj.str(x:Str):jj L n (.str x) (.s<|.str x):=by cases n with|zero=>exact{(rfl),rfl}|succ n=>exact .inl {(rfl),rfl}
abbrev FB:=@jj.str
def jj.int(x:Int):jj L n (.int x) (.s<|.int x):=by cases n with|zero=>exact{(rfl),rfl}|succ n=>exact .inl {(rfl),rfl}
abbrev E5:=@jj.int
theorem jM{L:qm}:∀{wd:Wd} {n:Nat},wd.depth<=n->jj L n (cJ wd) (oM wd)
 |.leaf t nm,n+1,_=>.inr<|.inl {_,_,rfl,rfl,.cons (FB _)<|.cons (FB _) .nil}
 |.node e l r,n+1,h=>by have I:max l.depth r.depth+1<=n+1:=h;exact .inr<|.inl {_,_,rfl,rfl,.cons (FB _)<|.cons (jM (by lia))<|.cons (jM (by lia)) .nil}
def wy{a:Addr}(e:L a=some (.lst ys))(p:Paired (jj L n) ys ds):jj L (n+1) (.ref a) (.lst ds):=.inr<|.inr {ys,ds,rfl,rfl,aO e,p}
def wo(p:Paired (jj L n) ys ds):jj L (n+1) (.tup ys) (.tup ds):=.inr<|.inl {(ys),ds,rfl,rfl,p}
def iI{neg:Bool}{u v:Wd}{Q:YK}(J:u.depth<=128)(q:Q (.bl<|nb neg<|Da.eq (oM u)<|oM v) L):b_ neg (cJ u) (cJ v) L Q:=by
 have I:∀w:Wd,EC (cJ w)=true:=λw=>by cases w<;>rfl
 have:EC (cJ u)=true/\EC (cJ v)=true/\∃n m d e,n<=128/\jj L n (cJ u) d/\jj L m (cJ v) e/\Q (.bl<|nb neg<|Da.eq d e) L:=
  ⟨I u,I v,u.depth,v.depth,oM u,oM v,J,jM<|Am _,jM<|Am _,q⟩
 cases u<;>cases v<;>exact this
def kq{neg:Bool}{a b:Addr}{zs:_x}{es:List Da}{m:Nat}{Q:YK}(I:n<128)(ea:L a=some (.lst ys))(eb:L b=some (.lst zs))(pa:Paired (jj L n) ys ds)(pb:Paired (jj L m) zs es)(q:Q (.bl<|nb neg<|Da.eqs ds es) L):
 b_ neg (.ref a) (.ref b) L Q:={rfl,rfl,n+1,m+1,_,_,I,wy ea pa,wy eb pb,q}
def Td:∀ys L Q,¬a9 0 ys L Q:=by rintro ys L Q ⟨I,_,hd,_⟩;cases I<;>simp[Wd.depth] at hd
def nY(hs:WR):_x:=hs.map λn:Nat=>.int (n:Int)
def fv(hs:WR):(nY hs).length=hs.length:=by unfold nY;rw[Ac]
def sQ(h:j<n):rg n (j:Int)=some j:=by unfold rg;rw[AC (by exact AQ _),AC (by omega)];rfl
def vm{a p:Addr}{o:LO}(h:qj L a o p=none):L p=none:=by
 by_cases c:p=a
 .subst c;rw[q9] at h;cases h
 .rw[qf c] at h;exact h
def zf{l:List α}{x:α}(h:l[i]?=some x):i<l.length:=(AN.mp h).1
def fY:RD "_law_cell_at" fc 0 ["_law_script","_law_k"] (λ_=>True):={_,λV B c _ _ _ _ _ _ _ I hN J=>(qb (zo (js jQ (qv 1) (L_ B.ba<|qv 0)<|jv _) (qe<|qu<|I_ (qv 0)<|qv 1) zg)<|qe<|qu qd)}
def oJ:RD "_law_mix" oG 0 ["_law_cell","_law_k","_law_factor"] (λ_=>True):={_,λV B c _ _ _ _ _ _ _ I hN J=>(qe<|qu<|ql kh (ql zw (ql vY (ql jf (ql jf (ql vY (ql zw (qv 0) qd) qd)<|ql vY (qv 1)<|qv 1) qd)<|qv 2) qd) qd)}
def gc(J:vt):RR "_law_weight" gZ 1 ["_law_word_here"] ["_law_word_here"] J (λ_=>True):={_,λV B c _ _ I _ _ _ _ _ _ U hN g=>(qb (zo (E_ g (L_ B.ba<|qv 0) qd) (qe<|qu qd) zg)<|qe<|qu<|ql jf (ql jf qd<|C_ I U<|jm<|J_ 0)<|C_ I U<|jm<|J_ 0)}
def lV(I:vt):RR "_law_same" lF 1 ["_law_found","_law_due"] ["_law_found","_law_due","_law_one","_law_other"] I (λ_=>True):={_,λV B c _ _ J _ _ _ _ _ _ g hN U=>(qb (zo (xo<|fJ (km<|wz .bool rfl B.bf rfl B.b_bool m6<|qv 0)<|bX<|km<|wz .bool rfl B.bf rfl B.b_bool m6<|qv 1) (qe<|qu<|wm (wz .bool rfl B.bf rfl B.b_bool m6<|qv 0)<|wm (wz .bool rfl B.bf rfl B.b_bool m6<|qv 1)<|bG<|aH (fU _ _ _ U) (qv 0) (qv 1)<|jv _) zg)<|qb (zo (km<|xK .list .tuple rfl B.bf rfl B.bi eE rfl B.b_tuple iY<|qv 1) (qb (zo (xo<|fJ (N_ U (wz .list rfl B.bf rfl B.bi eE<|qv 0)<|wz .list rfl B.bf rfl B.bi eE<|qv 1)<|bX<|N_ U (wz .tuple rfl B.bf rfl B.b_tuple iY<|qv 0)<|wz .tuple rfl B.bf rfl B.b_tuple iY<|qv 1) (qe<|qu cV) zg)<|qb (zo (N_ U (L_ B.ba<|qv 0)<|L_ B.ba<|qv 1) (qe<|qu cV) zg)<|qb (aU ya rfl (Rc rfl B.b_zip<|vj (qv 0)<|qv 1) (kz (n:=2) rfl<|qw (G_ 2 hN)<|qw (G_ 3 hN) v5)<|qe<|zo (gw<|km<|C_ J g<|vj (qv 2)<|qv 3) (qe<|qu cV) zg)<|qe<|qu cV) zg)<|qb (zo (km<|wz .int rfl B.bf rfl B.br wY<|qv 1) (qe<|qu<|wm (wz .int rfl B.bf rfl B.br wY<|qv 0)<|bG<|aH (fU _ _ _ U) (qv 0) (qv 1)<|jv _) zg)<|qb (zo (km<|wz .str rfl B.bf rfl B.b_str IH<|qv 1) (qe<|qu<|wm (wz .str rfl B.bf rfl B.b_str IH<|qv 0)<|bG<|aH (fU _ _ _ U) (qv 0) (qv 1)<|jv _) zg)<|qe<|qu<|QC<|qv 0)}
def lU(J:vt):RR "_law_word" mB 1 ["_law_knots","_law_p"] ["_law_knots","_law_p","_law_knot"] J (λ_=>True):={_,λV B c _ _ I _ _ _ _ _ _ U hN g=>(qb (S_ 2 hN<|I_ (qv 0)<|qv 1)<|qb (zo (E_ g (L_ B.ba<|qv 2) qd) (qe<|qu<|qv 2) zg)<|qe<|qu<|qr<|aA (J_ 2) (C_ I U<|vj (qv 0)<|J_ 2)<|C_ I U<|vj (qv 0)<|J_ 2)}
def qF(J U:vt):RR "word_at" rH 2 ["knots","place"] ["knots","place","knot"] U (λV=>FU V J):={_,λV B c _ _ I _ _ _ _ _ _ g hN j=>(qb (S_ 2 hN<|I_ (qv 0)<|qv 1)<|qb (zo (km<|C_ c g<|jm<|qv 2) (qe<|qu<|qv 2) zg)<|qe<|qu<|qr<|aA (J_ 2) (C_ I g<|vj (qv 0)<|J_ 2)<|C_ I g<|vj (qv 0)<|J_ 2)}
inductive dm(ys:_x)(L:qm)(Q:YK):Prop
 |mk:∀ns:WV,∀k:Int,(ys=[.sq<|ns.map Y.int,.int k])->(0<=k)->(∀v,Q (.int v) L)->dm ys L Q
def wO:_f dm fY.1 2:=by rintro ys L Q ⟨I,k,rfl,h0,q⟩;refine zm (λc=>?_) λc=>vd<|q 0;have J:=c;rw[Ac] at J;obtain⟨j,rfl⟩:∃j:Nat,k=(j:Int):={k.toNat,by lia};have e:fG (I.map Y.int) (j:Int)=some (Y.int<|I[j]'(by omega)):=jw<|Ag _;walk_at "w";rw[e];exact vd<|q _
inductive cr(ys:_x)(L:qm)(Q:YK):Prop
 |mk:∀c k f:Int,(ys=[.int c,.int k,.int f])->(0<=k)->(k<1000000)->(0<f)->(f<1000000)->(∀v,0<=v->v<134217728->Q (.int v) L)->cr ys L Q
def Te:_f cr oJ.1 3:=by
 rintro ys L Q ⟨c,k,f,rfl,h0,h1,h2,h3,q⟩;refine{(by decide:(0:Int)<1000003),.inr {by decide,by decide},.inl {by lia,by lia},.inr {by lia,by lia},(by decide:(0:Int)<2147483647),{by decide,by decide},vd<|q _ ?_ ?_}
 all_goals
  generalize ((c % 1000003*7+k*k+1)*f)=z;lia
def Tf(cs:WR):(Txt.join ""<|cs.map λc=>({#[c]}:Str)).cps.toList=cs:=by
 rw[rQ]
 induction cs with|nil=>rfl|cons c r I=>rw[AA,Be,I];rfl
inductive bT(n:Nat)(ys:_x)(L:qm)(Q:YK):Prop
 |mk:∀wd,(ys=[cJ wd])->(wd.depth<=n)->(Q (.int wd.size) L)->bT n ys L Q
def oZ:∀ys L Q,¬bT 0 ys L Q:=by rintro ys L Q ⟨I,_,hd,_⟩;cases I<;>simp[Wd.depth] at hd
def Tg(n:Nat):_f (bT (n+1)) (gc<|bT n).1 1:=by
 rintro ys L Q ⟨I,rfl,hd,q⟩;cases I with
 |leaf t n=>exact vd q
 |node e l r=>
  have J:max l.depth r.depth+1<=n+1:=hd;refine{l,rfl,by lia,r,rfl,by lia,vd ?_};have e:(1+(l.size:Int)+(r.size:Int))=(((Wd.node e l r).size:Nat):Int):=by show _=((1+l.size+r.size:Nat):Int);rfl
  rw[e];exact q
def fA(L:qm):Nat->Y->Y->Prop
 |0,_,_=>False
 |n+1,x,y=>(e9 x=true/\y=x)\/(∃xs ys,x=.tup xs/\y=.tup ys/\Paired (fA L n) xs ys)\/(∃a b xs ys,x=.ref a/\y=.ref b/\L a=some (.lst xs)/\L b=some (.lst ys)/\Paired (fA L n) xs ys)
def fA.flat{x:Y}(h:e9 x=true):fA L (n+1) x x:=.inl {(h),rfl}
inductive fz(n:Nat)(ys:_x)(L:qm)(Q:YK):Prop
 |mk:∀x y,(ys=[x,y])->(fA L n x y)->(Q (.bl true) L)->fz n ys L Q
def sv:∀ys L Q,¬fz 0 ys L Q:=λys L Q ψ=>(by obtain⟨x,y,_,h,_⟩:=ψ;exact h)
def zK{xs:_x}{keep:qm->Prop}{tb:bD}(W:Nat->ji->qm->Prop)(h0:W 0 τ L)(J:∀i τ L',W i τ L'->keep L')
 (hs:∀i x y τ L,xs[i]?=some x->ys[i]?=some y->W i τ L->g (.tup [x,y]) τ L λI L2=>tb {D with nx:=gW<|W<|i+1,ct:=gW<|W<|i+1,bk:=D.nx} I L2) (hd:∀τ L,W (min xs.length ys.length) τ L->D.nx τ L):
 rY (xZ xs ys) keep g tb D τ L:=aV {W,h0,J,λi y τ L e w=>by obtain⟨a,b,ea,eb,rfl⟩:=Jj e;exact hs i a b τ L ea eb w,λτ L w=>hd τ L (by rw[oD] at w;exact w)}
def Th(n:Nat):_f (fz (n+1)) (lV<|fz n).1 4:=by
 rintro ys L Q ⟨x,y,rfl,h,q⟩;rcases h with⟨f,rfl⟩|⟨U,ys,rfl,rfl,p⟩|⟨a,b,U,ys,rfl,rfl,h1,h2,p⟩
 .cases y with
  |GM=>exact vd q
  |bl b=>
   refine vd ?_;show Q (.bl<|nb false<|decide<|b=b) L;rw[AD rfl];exact q
  |int i=>
   refine vd ?_;show Q (.bl<|nb false<|decide<|i=i) L;rw[AD rfl];exact q
  |str i=>
   refine vd ?_;show Q (.bl<|nb false<|decide<|i=i) L;rw[AD rfl];exact q
  |_=>cases f
 .have g:=p.length;walk_at "w";refine bF (b:=nb true<|decide<|(U.length:Int)=ys.length) (by rw[g,AD rfl];rfl) ?_;refine zK (λi I J=>J=L/\∃c d,I=[some<|.tup U,some<|.tup ys,c,d]) {rfl,_,_,rfl} (λi I J w=>{(trivial),trivial}) ?_ ?_
  .rintro i u v I J j ev ⟨rfl,c,d,rfl⟩;exact{u,v,rfl,E9 p j ev,_,EV _,rfl,_,_,rfl}
  .rintro I J ⟨rfl,c,d,rfl⟩;exact vd q
 .have g:=p.length;refine db h1<|db h2 ?_;walk_at "w";refine db h2 ?_;walk_at "w";refine db h1<|db h2 ?_;walk_at "w";refine db h1<|db h2 ?_;walk_at "w";refine qa h1 (qa h2 (bF (by rw[g,AD rfl];rfl) ?_));walk_at "w";refine qk h1<|qk h2 ?_;refine zK (λi I J=>J=L/\∃c d,I=[some<|.ref a,some<|.ref b,c,d]) {rfl,_,_,rfl} (λi I J ψ=>by obtain⟨e,_⟩:=ψ;subst e;exact{(rfl),rfl}) ?_ ?_
  .rintro i u v I J j ev ⟨rfl,c,d,rfl⟩;exact{u,v,rfl,E9 p j ev,_,EV _,rfl,_,_,rfl}
  .rintro I J ⟨rfl,c,d,rfl⟩;exact vd q
def KW(ks:_x):Nat->Wd->Prop
 |p,.leaf t n=>ks[p]?=some (.tup [.str<|kL t,.str n])
 |p,.node e l r=>∃i j:Nat,ks[p]?=some (.tup [.str<|kN e,.int i,.int j])/\KW ks i l/\KW ks j r
theorem KW.more{ks:_x}(ms:_x):∀{wd:Wd} {p:Nat},KW ks p wd->KW (ks++ms) p wd
 |.leaf _ _,p,h=>by have I:ks[p]?=some _:=h;show(ks++ms)[p]?=some _;rw[Az (AN.mp I).1];exact I
 |.node _ _ _,p,ψ=>(by obtain⟨i,j,h,a,b⟩:=ψ;exact {i,j,by rw[Az (AN.mp h).1];exact h,KW.more ms a,KW.more ms b})
inductive x4(n:Nat)(ys:_x)(L:qm)(Q:YK):Prop
 |mk:∀k ks p wd,(ys=[.ref k,.int ((p:Nat):Int)])->(L k=some (.lst ks))->(KW ks p wd)->(wd.depth<=n)->(Q (cJ wd) L)->x4 n ys L Q
def oF:∀ys L Q,¬x4 0 ys L Q:=by rintro ys L Q ⟨k,J,p,I,_,_,_,hd,_⟩;cases I<;>simp[Wd.depth] at hd
def tH:∀ys L Q,¬x4 0 ys L Q:=oF
def xH(n:Nat):_f (x4 (n+1)) (qF aJ<|x4 n).1 3:=by
 rintro ys L Q ⟨k,J,p,U,rfl,I,h,hd,q⟩;cases U with
 |leaf t nm=>exact qa I<|qg (xi h) {true,t,_,rfl,vd q}
 |node e l r=>
  obtain⟨i,j,h,g,o⟩:=h;have C:max l.depth r.depth+1<=n+1:=hd;exact qa I<|qg (xi h) {false,e,_,rfl,k,J,i,l,rfl,I,g,by lia,k,J,j,r,rfl,I,o,by lia,vd q}
def vT(n:Nat):_f (x4 (n+1)) (lU<|x4 n).1 3:=by
 rintro ys L Q ⟨k,J,p,U,rfl,I,h,hd,q⟩;cases U with
 |leaf t nm=>exact qa I<|qg (xi h)<|vd q
 |node e l r=>
  obtain⟨i,j,h,g,o⟩:=h;have C:max l.depth r.depth+1<=n+1:=hd;exact qa I<|qg (xi h) {k,J,i,l,rfl,I,g,by lia,k,J,j,r,rfl,I,o,by lia,vd q}
def o_(l:WR):Str:={(l.toArray)}
def zY(x:Str):o_ x.cps.toList=x:=by cases x;rfl
def zZ(J:vt):RR "_law_flip" lQ 1 ["_law_word_here"] ["_law_word_here","_law_sides"] J (λ_=>True):={_,λV B c _ _ I _ _ _ _ _ _ U hN g=>(qb (S_ 1 hN<|QX [ ("plain" ,"turned") ,("turned" ,"plain") ,("both" ,"either") ,("either" ,"both") ] (io df df<|io df df<|io df df<|io df df OL) rfl rfl (List.cons_ne_nil _ _)<|Cs rfl)<|qb (zo (E_ g (L_ B.ba<|qv 0) qd) (qe<|qu<|qr<|vj (I_ (qv 1)<|J_ 0)<|J_ 0) zg)<|qe<|qu<|qr<|aA (I_ (qv 1)<|J_ 0) (C_ I U<|jm<|J_ 0)<|C_ I U<|jm<|J_ 0)}
abbrev v9(i:Int):xw:=yC<|.int i
abbrev rN(x:Str):xw:=yC<|.str x
abbrev eh(i:Nat)(n:Int):xw:=zx aK (qc i)<|yC<|.int n
abbrev gA(i:Nat):xw:=mJ ph<|qh (qc i) zn
abbrev gH(a b:xw):jD:=yB<|zx (b_ false) a b
abbrev Fi(a b:xw):jD:=yB<|zx (b_ true) a b
abbrev Fj(a b:xw):xw:=ju<|qh a<|qh b zn
abbrev bH(a:xw):fH:=qh a zn
abbrev cH(a b:xw):fH:=qh a<|qh b zn
def Ti(I:vt)(p1:vt):bD:=(j8 (ww (gH (gA 1)<|v9 2) (j8 (vv<|iC x9 (qc 0)<|qh (jq I<|bH<|qc 1) zn)
 (j8 (vv<|iC x9 (qc 0)<|bH<|qc 1)
 (cL<|au<|qh (ju<|qh (rN "link")<|qh (zx cf (gA 0)<|v9 2)<|qh (zx cf (gA 0)<|v9 1) zn)<|qh (zx cf (gA 0)<|v9 2)<|qh (zx cf (gA 0)<|v9 1) zn))) cT)
 (j8 (jt (jq p1<|cH (qc 0)<|eh 1 1)<|qo 2)
 (j8 (jt (jq p1<|cH (qc 0)<|eh 1 2)<|qo 3)
 (j8 (vv<|iC x9 (qc 0)<|qh (ju<|qh (zx aK (jq I<|bH<|qc 1)<|v9 0)<|cH (eh 2 1)<|eh 3 1) zn)
 (j8 (vv<|iC x9 (qc 0)<|qh (ju<|qh (eh 1 0)<|cH (eh 2 2)<|eh 3 2) zn)
 (j8 (IR 4 5<|qh (zx cf (gA 0)<|v9 2)<|qh (zx cf (gA 0)<|v9 1) zn)
 (j8 (jt (F6 (gH (eh 1 0)<|rN "either") (qc 4)<|qc 5)<|qo 6)
 (j8 (jt (F6 (gH (eh 1 0)<|rN "either") (qc 5)<|qc 4)<|qo 7)
 (cL<|au<|qh (ju<|qh (rN "either")<|qh (qc 7)<|qh (ju<|qh (rN "both")<|qh (qc 6)<|cH (eh 2 0)<|eh 3 0) zn)<|cH (qc 4)<|qc 5)))))))))
set_option genInjectivity true in
inductive Kn where
 |lf (t:Bool) (n:Str)|nd (e:Bool) (i j:Nat)
abbrev Xd:=Option Kn
abbrev Xc:=List Kn
def qC:Kn->Y
 |.lf t n=>.tup [.str<|kL t,.str n]
 |.nd e i j=>.tup [.str<|kN e,.int ((i:Nat):Int),.int ((j:Nat):Int)]
inductive Ru where
 |link (p q:Nat)|ei (r:Nat) (A:Ru)|bo (r:Nat) (A B:Ru)|cu (p q:Nat) (A B:Ru)
def jp:Ru->Y
 |.link p q=>.tup [.str "link",.int ((p:Nat):Int),.int ((q:Nat):Int)]
 |.ei r A=>.tup [.str "either",.int ((r:Nat):Int),jp A]
 |.bo r A B=>.tup [.str "both",.int ((r:Nat):Int),jp A,jp B]
 |.cu p q A B=>.tup [.str "cut",.int ((p:Nat):Int),.int ((q:Nat):Int),jp A,jp B]
def z9:Ru->WR
 |.link p q=>[p,q]
 |.ei r A=>r::z9 A
 |.bo r A B=>r::(z9 A++z9 B)
 |.cu _ _ A B=>z9 A++z9 B
abbrev kg(ks:Xc):_x:=ks.map qC
def fD(ks:Xc)(p:Nat)(w:Wd):Prop:=KW (kg ks) p w
theorem fD.more{ks:Xc}{p:Nat}{w:Wd}(h:fD ks p w)(ms:Xc):fD (ks++ms) p w:=by unfold fD kg;rw[Av];exact KW.more _ h
def av(ks:Xc):Prop:=∀(p:Nat) (k:Kn),ks[p]?=some k->match k with
 |.lf _ n=>fQ n
 |.nd _ i j=>i<p/\j<p
def av.snoc{ks:Xc}{k:Kn}(h:av ks)(I:match k with|.lf _ n=>fQ n|.nd _ i j=>i<ks.length/\j<ks.length):av (ks++[k]):=by
 intro p J e;by_cases c:p<ks.length
 .rw[Az c] at e;exact h p J e
 .rw[AF<|Fx] at e;have U:p=ks.length:=by
   by_cases g:p-ks.length=0
   .omega
   .rw[CS (by simp;exact Fw)] at e;cases e
  subst U;rw[Ds] at e;cases e;exact I
def dq(l:List α)(x:α)(r:List α):(l++x::r)[l.length]?=some x:=by rw[AF<|Am _,Ds];rfl
def jU{l r:List α}{p:Nat}{x:α}(h:l[p]?=some x):(l++r)[p]?=some x:=by rw[Az (AN.mp h).1];exact h
inductive SR(ks:Xc):Ru->WR->Prop
 |link {p q:Nat} {t:Bool} {n:Str} {E:WR}:p<q->ks[p]?=some (.lf t n)->ks[q]?=some (.lf (!t) n)->(∀x,x∈E↔x=p\/x=q)->E.Nodup->SR ks (.link p q) E
 |ei {r i j:Nat} {A:Ru} {EA E:WR}:ks[r]?=some (.nd true i j)->SR ks A EA->i∈EA->j∈EA->i≠j->(∀x,x∈E↔(x∈EA/\x≠i/\x≠j)\/x=r)->E.Nodup->SR ks (.ei r A) E
 |bo {r i j:Nat} {A B:Ru} {EA EB E:WR}:ks[r]?=some (.nd false i j)->SR ks A EA->SR ks B EB->i∈EA->j∈EB->(∀x,x∈E↔(x∈EA/\x≠i)\/(x∈EB/\x≠j)\/x=r)->E.Nodup->SR ks (.bo r A B) E
 |cu {p q:Nat} {A B:Ru} {EA EB E:WR} {w:Wd}:SR ks A EA->SR ks B EB->p∈EA->q∈EB->fD ks p w->fD ks q w.turn->(∀x,x∈E↔(x∈EA/\x≠p)\/(x∈EB/\x≠q))->E.Nodup->SR ks (.cu p q A B) E
theorem SR.more{ks:Xc}{R:Ru}{E:WR}(h:SR ks R E)(ms:Xc):SR (ks++ms) R E:=by induction h with|link h1 h2 h3 I J=>exact .link h1 (jU h2) (jU h3) I J|ei h1 _ h3 I J j l o=>exact .ei (jU h1) o h3 I J j l|bo h1 _ _ I J j l U g=>exact .bo (jU h1) U g I J j l|cu _ _ h3 I J j l p U g=>exact .cu U g h3 I (J.more ms) (j.more ms) l p
def SR.sub{ks:Xc}{R:Ru}{E:WR}(h:SR ks R E):∀x∈E,x∈z9 R:=by
 induction h with
 |link _ _ _ j _=>intro x I;rcases (j x).mp I with rfl|rfl<;>simp[z9]
 |ei _ _ _ _ _ g _ l=>intro x I;rcases (g x).mp I with⟨h,_⟩|rfl;exact Ai _<|l x h;exact Ao ..
 |bo _ _ _ _ _ g _ J U=>
  intro x I;rcases (g x).mp I with⟨h,_⟩|⟨h,_⟩|rfl
  .exact Ai _<|An _<|J x h
  .exact Ai _<|Ah _<|U x h
  .exact Ao ..
 |cu _ _ _ _ _ _ o _ J U=>
  intro x I;rcases (o x).mp I with⟨h,_⟩|⟨h,_⟩
  .exact An _<|J x h
  .exact Ah _<|U x h
inductive fh(n:Nat)(ys:_x)(L:qm)(Q:YK):Prop
 |mk:∀wd,(ys=[cJ wd])->(wd.depth<=n)->(Q (cJ wd.turn) L)->fh n ys L Q
def Tj:∀ys L Q,¬fh 0 ys L Q:=by rintro ys L Q ⟨I,_,hd,_⟩;cases I<;>simp[Wd.depth] at hd
def xU(t:Bool):bA ([(("plain" : Str),("turned" : Str)),("turned","plain"),("both","either"),("either","both")].map λp=>((Sum.inr p.1:jn),Y.str p.2)) (Sum.inr<|kL t)=some (.str<|kL<|!t):=lG<|rE t
def nZ(t:Bool):bA ([(("plain" : Str),("turned" : Str)),("turned","plain"),("both","either"),("either","both")].map λp=>((Sum.inr p.1:jn),Y.str p.2)) (Sum.inr<|kN t)=some (.str<|kN<|!t):=lG<|rL t
structure Fk(ks:Xc)(w:Wd)(ms:Xc)(R:Ru)(tp sp:Nat):Prop where
 len:ms.length=2*w.size
 sr:SR (ks++ms) R [tp,sp]
 wt:fD (ks++ms) tp w.turn
 ws:fD (ks++ms) sp w
 tm:∀x,x∈z9 R↔ks.length<=x/\x<ks.length+ms.length
 nd:(z9 R).Nodup
 ok:av (ks++ms)
def fD.leaf{ks:Xc}{p:Nat}{n:Str}(h:ks[p]?=some (.lf t n)):fD ks p (.leaf t n):=by show(kg ks)[p]?=_;rw[Al,h];rfl
def fD.node{ks:Xc}{p:Nat}{e:Bool}{l r:Wd}(h:ks[p]?=some (.nd e i j))(I:fD ks i l)(J:fD ks j r):fD ks p (.node e l r):=by refine{i,j,?_,I,J};rw[Al,h];rfl
abbrev FF:=@fD.node
def wD{ks:Xc}(g:av ks){n:Str}(I:fQ n):Fk ks (.leaf t n) [.lf (!t) n,.lf t n] (.link ks.length<|ks.length+1) ks.length (ks.length+1):=by
 have J:(ks++[Kn.lf (!t) n,.lf t n])[ks.length]?=some (.lf (!t) n):=dq _ _ _;have U:(ks++[Kn.lf (!t) n,.lf t n])[ks.length+1]?=some (.lf t n):=by have:=dq (ks++[Kn.lf (!t) n]) (Kn.lf t n) [];rw[Ad,Ay] at this;exact this
 refine{rfl,.link (t:=!t) (n:=n) (BI _) J (by rw[Bool.not_not];exact U) (by simp) (by simp),fD.leaf J,fD.leaf U,λx=>?_,by simp[z9],?_}
 .show x∈[ks.length,ks.length+1]↔ks.length<=x/\x<ks.length+2;simp;lia
 .have:=(g.snoc (k:=.lf (!t) n) I).snoc (k:=.lf t n) I;rw[Ay] at this;exact this
def SR.YT{ks:Xc}{R:Ru}{E:WR}(h:SR ks R E):E.Nodup:=by cases h<;>assumption
def Tk{x h lo a m r N:Nat}(I:(h=N/\lo=N+1)\/(h=N+1/\lo=N))(hN:N=a+m+r):x=h\/x=lo\/(a<=x/\x<a+m)\/a+m<=x/\x<a+m+r↔a<=x/\x<N+2:=by subst hN;rcases I with⟨rfl,rfl⟩|⟨rfl,rfl⟩<;>lia
def To{x a b c N:Nat}(h:a≠b)(k:c≠d):x∈[b,d,N]↔(x∈[a,b]/\x≠a)\/(x∈[c,d]/\x≠c)\/x=N:=by simp only[As,Bc,or_false];lia
def Tp{x a b c N:Nat}(h:a≠b)(k:c≠d):x∈[a,c,N]↔(x∈[a,b]/\x≠b)\/(x∈[c,d]/\x≠d)\/x=N:=by simp only[As,Bc,or_false];lia
def Tq{x a b N M:Nat}(h:a<N)(k:b<N):x∈[N,M]↔(x∈[a,b,N]/\x≠a/\x≠b)\/x=M:=by simp only[As,Bc,or_false];lia
def Ts{x a b N M:Nat}(h:a<N)(k:b<N):x∈[M,N]↔(x∈[a,b,N]/\x≠a/\x≠b)\/x=M:=by simp only[As,Bc,or_false];lia
def J2{a b N:Nat}(h:a<N)(k:b<N)(d:a≠b):[a,b,N].Nodup:=by rw[AE,AE];simp;lia
def Tt{a m r N t s u v:Nat}(I:a<=t/\t<a+m)(J:a<=s/\s<a+m)(b1:a+m<=u/\u<a+m+r)(b2:a+m<=v/\v<a+m+r)(hN:N=a+m+r):t<N/\s<N/\u<N/\v<N/\t≠u/\s≠v:=by lia
def J3{h lo a m r N:Nat}(I:(h=N/\lo=N+1)\/(h=N+1/\lo=N))(hN:N=a+m+r):¬(h=lo\/(a<=h/\h<a+m)\/a+m<=h/\h<a+m+r)/\¬((a<=lo/\lo<a+m)\/a+m<=lo/\lo<a+m+r):=by lia
def Tu{x y a m r:Nat}(h1:a<=x/\x<a+m)(h2:a+m<=y/\y<a+m+r)(e:x=y):False:=by lia
def Tv{ks I g:Xc}{e:Bool}{l r:Wd}{A B:Ru}{tl J tr U:Nat}(p:Fk ks l I A tl J)(o:Fk (ks++I) r g B tr U){N:Nat}(hN:N=ks.length+(I++g).length):
 Fk ks (.node e l r) (I++g++[.nd (!e) tl tr,.nd e J U]) (.ei (if e=true then N+1 else N)<|.bo (if e=true then N else N+1) A B) N (N+1):=by
 have hA:∀x∈[tl,J],ks.length<=x/\x<ks.length+I.length:=λx T=>(p.tm x).mp<|p.sr.sub x T;have hB:∀x∈[tr,U],ks.length+I.length<=x/\x<ks.length+I.length+g.length:=λx T=>by have:=(o.tm x).mp<|o.sr.sub x T;rw[Ad] at this;exact this
 have a1:=hA tl (by simp);have a2:=hA J (by simp);have b1:=hB tr (by simp);have b2:=hB U (by simp);have nA:tl≠J:=by have:=p.sr.YT;simpa using this
 have nB:tr≠U:=by have:=o.sr.YT;simpa using this
 have t:N=ks.length+I.length+g.length:=by rw[hN,Ad];simp +arith only
 obtain⟨d1,d2,d3,d4,d5,d6⟩:=Tt a1 a2 b1 b2 t;generalize j:ks++(I++g++[Kn.nd (!e) tl tr,.nd e J U])=K;have k1:K=(ks++I)++(g++[Kn.nd (!e) tl tr,.nd e J U]):=by rw[<-j];simp
 have k2:K=((ks++I)++g)++[Kn.nd (!e) tl tr,.nd e J U]:=by rw[<-j];simp
 have k3:K=(((ks++I)++g)++[Kn.nd (!e) tl tr])++[.nd e J U]:=by rw[<-j];simp
 have l2:((ks++I)++g).length=N:=by rw[Ad,Ad];lia
 have g1:K[N]?=some (.nd (!e) tl tr):=by rw[k2,<-l2];exact dq _ _ _
 have g2:K[N+1]?=some (.nd e J U):=by
  have l3:(((ks++I)++g)++[Kn.nd (!e) tl tr]).length=N+1:=by rw[Ad,l2];rfl
  rw[k3,<-l3];exact dq _ _ _
 have sA:SR K A [tl,J]:=by rw[k1];exact p.sr.more _
 have sB:SR K B [tr,U]:=by rw[k2];exact o.sr.more _
 have a3:av K:=by have o1:=o.ok.snoc (k:=.nd (!e) tl tr) (by rw[l2];exact{(d1),d3});have o2:=o1.snoc (k:=.nd e J U) (by rw[Ad,l2];exact{Cw d2,Cw d4});rw[k3];exact o2
 have tA:=p.tm;have tB:=o.tm;rw[Ad] at tB;have wt:=FF g1 (by rw[k1];exact p.wt.more _) (by rw[k2];exact o.wt.more _);have a4:=FF g2 (by rw[k1];exact p.ws.more _) (by rw[k2];exact o.ws.more _);have C:(I++g++[Kn.nd (!e) tl tr,.nd e J U]).length=2*(Wd.node e l r).size:=by have h1:=p.len;have h2:=o.len;show _=2*(1+l.size+r.size);rw[Ad,Ad];simp;lia
 have lt:ks.length+(I++g++[Kn.nd (!e) tl tr,.nd e J U]).length=N+2:=by rw[Ad];simp[hN];rfl
 have tt:∀h lo:Nat,(h=N/\lo=N+1)\/(h=N+1/\lo=N)->(∀x,x∈z9 (.ei h<|.bo lo A B)↔ks.length<=x/\x<ks.length+(I++g++[Kn.nd (!e) tl tr,.nd e J U]).length)/\(z9<|.ei h<|.bo lo A B).Nodup:=by
  intro h lo hh;constructor
  .intro x;rw[lt];show x∈h::lo::(z9 A++z9 B)↔_;rw[As,As,Ak,tA,tB];exact Tk hh t
  .show(h::lo::(z9 A++z9 B)).Nodup;rw[AE,AE,Au];refine{?_,?_,p.nd,o.nd,λx T y hy e=>?_}
   .rw[As,Ak,tA,tB];exact(J3 hh t).1
   .rw[Ak,tA,tB];exact(J3 hh t).2
   .exact Tu ((tA x).mp T) ((tB y).mp hy) e
 cases e with
 |true=>
  have s1:SR K (.bo N A B) [J,U,N]:=by exact .bo g1 sA sB (by simp) (by simp) (λx=>To nA nB)<|J2 d2 d4 d6
  have s2:SR K (.ei (N+1)<|.bo N A B) [N,N+1]:=by exact .ei g2 s1 (by simp) (by simp) d6 (λx=>Tq d2 d4) (by simp)
  obtain⟨t1,t2⟩:=tt (N+1) N<|.inr {(rfl),rfl};exact{C,by rw[j];exact s2,by rw[j];exact wt,by rw[j];exact a4,t1,t2,by rw[j];exact a3}
 |false=>
  have s1:SR K (.bo (N+1) A B) [tl,tr,N+1]:=by exact .bo g2 sA sB (by simp) (by simp) (λx=>Tp nA nB)<|J2 (Cw d1) (Cw d3) d5
  have s2:SR K (.ei N<|.bo (N+1) A B) [N,N+1]:=by exact .ei g1 s1 (by simp) (by simp) d5 (λx=>Ts (Cw d1)<|Cw d3) (by simp)
  obtain⟨t1,t2⟩:=tt N (N+1)<|.inl {(rfl),rfl};exact{C,by rw[j];exact s2,by rw[j];exact wt,by rw[j];exact a4,t1,t2,by rw[j];exact a3}
inductive af(n:Nat)(ys:_x)(L:qm)(Q:YK):Prop
 |mk:∀a,∀ks:Xc,∀w:Wd,(ys=[.ref a,cJ w])->(L a=some (.lst<|kg ks))->(w.depth<=n)->(n<=120)->(w.ok)->(av ks)->(ks.length+2*w.size<=10000)->(∀ms R tp sp p,L p=none->Fk ks w ms R tp sp->Q (.ref p) (qj (qj L a<|.lst<|kg<|ks++ms) p<|.lst [jp R,.int ((tp:Nat):Int),.int ((sp:Nat):Int)]))->af n ys L Q
def Tw:∀ys L Q,¬af 0 ys L Q:=by rintro ys L Q ⟨a,J,I,_,_,hd,_⟩;cases I<;>simp[Wd.depth] at hd
def zF{a p:Addr}{o x y:LO}(J:L a=some o)(I:L p=none):qj (qj L a x) p y a=some x/\qj (qj L a x) p y p=some y/\∀b u,b≠a->L b=some u->qj (qj L a x) p y b=some u:=
 ⟨(qf<|w9 J I).trans q9,q9,λ_ _ n e=>(qf<|w9 e I).trans<|(qf n).trans e⟩
def vJ{a p:Addr}{o x:LO}(J:L a=some o)(I:qj L a x p=none):L p=none:=by
 have:p≠a:=λe=>by rw[e,q9] at I;cases I
 rw[qf this] at I;exact I
def a_:∀m:Nat,m<=20000->m<sizeLine:=λm h=>Bs h (by decide)
def Tx{FS:vt}(hF:∀ys L Q,fh 120 ys L Q->FS ys L Q)(n:Nat):_f (af (n+1)) (Ti FS<|af n) 8:=by
 rintro ys L Q ⟨a,I,w,rfl,ha,hd,hn,C,hk,hb,q⟩;have big:=a_;cases w with
 |leaf t nm=>
  have hb:=hb;refine qa ha (hF _ _ _ {.leaf t nm,rfl,BA _,qk ha {big _ (by rw[Ac];lia),?_}});refine qa q9 (qk q9 {big _ (by rw[Ad,Ac];simp;lia),?_});rw[kc];obtain⟨W,T⟩:∃W,W=kg (I++[Kn.lf (!t) nm,.lf t nm]):={_,rfl};have e1:(kg I++[cJ (Wd.leaf t nm).turn])++[cJ<|.leaf t nm]=W:=by rw[T];unfold kg;rw[Av,Ay];rfl
  have e2:W.length=I.length+2:=by rw[T,Ac,Ad];rfl
  have i1:((W.length:Nat):Int)-2=((I.length:Nat):Int):=by rw[e2];lia
  have i2:((W.length:Nat):Int)-1=((I.length+1:Nat):Int):=by rw[e2];lia
  have ay:=e1
  first|rw[e1]|rw[ay]
  refine qa q9<|qa q9<|qa q9<|qa q9 λp J=>?_;have np:=vJ ha J;have:=q _ _ _ _ p np<|wD hk C;rw[<-T] at this;show a6 Q (.ref p) (qj _ p<|.lst [.tup [.str "link",.int<|((W.length:Nat):Int)-2,.int<|((W.length:Nat):Int)-1],.int<|((W.length:Nat):Int)-2,.int<|((W.length:Nat):Int)-1]);rw[i1,i2];exact vd this
 |node e l r=>
  have ba:max l.depth r.depth+1<=n+1:=hd;have hb:I.length+2*(1+l.size+r.size)<=10000:=hb;refine{a,I,l,rfl,ha,by lia,jL,C.1,hk,by lia,λU A tl sl p1 a5 ML=>?_};obtain⟨g,g1,o1⟩:=zF (x:=.lst<|kg<|I++U) (y:=.lst [jp A,.int ((tl:Nat):Int),.int ((sl:Nat):Int)]) ha a5;have ac:=AG<|w9 ha a5;have bb:=ML.len;generalize qj (qj L a<|.lst<|kg<|I++U) p1 _=L1 at g g1 o1 ⊢;refine{a,I++U,r,rfl,g,by lia,jL,C.2,ML.ok,by rw[Ad];lia,λj B tr sr p2 al MR=>?_};obtain⟨a1,h2,o2⟩:=zF (x:=.lst<|kg<|(I++U)++j) (y:=.lst [jp B,.int ((tr:Nat):Int),.int ((sr:Nat):Int)]) g al;have aL:=AG<|w9 g al;have h1:=o2 _ _ ac g1;have bc:=MR.len;generalize qj (qj L1 a<|.lst<|kg<|(I++U)++j) p2 _=L2 at a1 h1 h2 o2 ⊢;have bd:(kg<|(I++U)++j).length=I.length+U.length+j.length:=by rw[Ac,Ad,Ad]
  refine qa a1<|hF _ _ _ {.node e l r,rfl,by exact Fv,qa h1<|qa h2<|qk a1 {big _ (by lia),?_}};have a2:=λo=>(qf (L:=L2) (o:=o) ac).trans h1;have a3:=λo=>(qf (L:=L2) (o:=o) aL).trans h2;refine qa q9 (qa (a2 _) (qa (a3 _) (qk q9 {big _ (by rw[Ad];simp;lia),?_})));rw[kc];obtain⟨N,hN⟩:∃N,N=I.length+(U++j).length:={_,rfl};have M:=Tv (e:=e) ML MR hN;obtain⟨W,T⟩:∃W,W=kg (I++(U++j++[.nd (!e) tl tr,.nd e sl sr])):={_,rfl};have e1:(kg ((I++U)++j)++[.tup [.str<|kN<|!e,.int ((tl:Nat):Int),.int ((tr:Nat):Int)]])++[.tup [.str<|kN e,.int ((sl:Nat):Int),.int ((sr:Nat):Int)]]=W:=by rw[T];unfold kg;simp[qC]
  rw[e1];have lN:W.length=N+2:=by rw[T,Ac,Ad,Ad,hN];simp;rfl
  have i1:((W.length:Nat):Int)-2=((N:Nat):Int):=by rw[lN];lia
  have i2:((W.length:Nat):Int)-1=((N+1:Nat):Int):=by rw[lN];lia
  refine qa q9<|qa q9 ?_;have done:∀p,qj L2 a (.lst W) p=none->∀R,Fk I (.node e l r) (U++j++[Kn.nd (!e) tl tr,.nd e sl sr]) R N (N+1)->
   a6 Q (.ref p) (qj (qj L2 a<|.lst W) p<|.lst [jp R,.int ((N:Nat):Int),.int ((N+1:Nat):Int)]):=λp J R MM=>by
   have a4:p≠a:=λz=>by rw[z,q9] at J;cases J
   rw[qf a4] at J;have np:L p=none:=by cases z:L p with|none=>rfl|some o=>rw[o2 p o a4<|o1 p o a4 z] at J;cases J
   refine dX ?_<|q _ _ _ _ p np MM;rw[<-T];intro b o z;by_cases c1:b=p
   .subst c1;rw[q9] at z ⊢;exact z
   .rw[qf c1] at z ⊢;by_cases c2:b=a
    .subst c2;rw[q9] at z ⊢;exact z
    .rw[qf c2] at z ⊢;exact o2 b o c2<|o1 b o c2 z
  cases e with
  |true=>
   walk_at "w";refine qa (a2 _)<|qa (a3 _) λp J=>?_;show a6 Q (.ref p) (qj _ p<|.lst [.tup [.str "either",.int<|((W.length:Nat):Int)-1,.tup [.str "both",.int<|((W.length:Nat):Int)-2,jp A,jp B]],.int<|((W.length:Nat):Int)-2,.int<|((W.length:Nat):Int)-1]);rw[i1,i2];exact done p J _ M
  |false=>
   walk_at "w";refine qa (a2 _)<|qa (a3 _) λp J=>?_;show a6 Q (.ref p) (qj _ p<|.lst [.tup [.str "either",.int<|((W.length:Nat):Int)-2,.tup [.str "both",.int<|((W.length:Nat):Int)-1,jp A,jp B]],.int<|((W.length:Nat):Int)-2,.int<|((W.length:Nat):Int)-1]);rw[i1,i2];exact done p J _ M
variable {R:Ru}{ks ms:List Kn}{eA wd:List<|Option Kn}
def oH(I:vt):RD "parts_of" ny 1 ["knot"] (λV=>FU V I):={_,λV B c _ _ _ _ _ _ _ J hN U=>(qb (zo (xo<|fJ (gp<|qv 0)<|bX<|km<|C_ c J<|jm<|qv 0) (qe<|qu<|zj xn) zg)<|qe<|qu<|zj<|vj (J_ 0)<|J_ 0)}
def lL:RD "places_in" mC 0 ["pairs","places","p","q"] (λ_=>True):={_,λV B c _ _ _ _ _ _ _ I hN J=>(qb (S_ 1 hN<|zj xn)<|qb (aU ya rfl (xx<|qv 0) (kz (n:=2) rfl<|qw (G_ 2 hN)<|qw (G_ 3 hN) v5)<|qb (qz<|ze (qv 1)<|jm<|qv 2)<|qe<|qz<|ze (qv 1)<|jm<|qv 3)<|qe<|qu<|qv 1)}
def jF:Xd->Y
 |none=>.GM
 |some k=>qC k
abbrev jz(ks:List<|Xd):_x:=ks.map jF
def xm:Xd->WR
 |some (.nd _ i j)=>[i,j]
 |_=>[]
def wG(f:Xd->Bool)(ks:List<|Xd)(i:Nat):WR:=(List.range i).filter λp=>match ks[p]? with
 |some k=>f k
 |none=>false
def wB{f:Xd->Bool}{ks:List<|Xd}{k:Xd}(h:ks[i]?=some k):wG f ks (i+1)=wG f ks i++if f k=true then [i] else []:=by unfold wG;rw[EM,Cq];congr 1;rw[C4];simp only[h,Dj]
def Tz{f:Xd->Bool}{ks:List<|Xd}{p:Nat}(h:p∈wG f ks i):p<i/\∃k,ks[p]?=some k/\f k=true:=by
 unfold wG at h;obtain⟨h1,h2⟩:=AR.mp h;refine{AX.mp h1,?_};split at h2
 .rename_i k e;exact{(k),e,h2}
 .cases h2
def TB(e:Bool):Xd->Bool
 |some (.nd I _ _)=>decide<|I=e
 |_=>false
def cg(a b:WR):nY (a++b)=nY a++nY b:=by unfold nY;rw[Av]
def TC{hs:WR}(h:(nY hs)[i]?=some y):∃n,hs[i]?=some n/\y=.int (n:Int):=by unfold nY at h;rw[Al] at h;obtain⟨n,I,J⟩:=Aq.mp h;exact{(n),I,J.symm}
def TD{f:Xd->Bool}{ks:List<|Xd}{keep:qm->Prop}{Q:YK}(hz:ks.length<=1000)(j:keep L)
 (turn:∀(i:Nat) (k:Xd) (R:_x->qm->Prop) zs,ks[i]?=some k->(f k=true->R (zs++[.int (i:Int)]) L)->(f k=false->R zs L)->g (.tup [.int (i:Nat),jF k]) (τ++List.replicate 2 none) L λI L2=>tc I L2 λb L3=>aC b (te I L3 λz l=>R (zs++[z]) l)<|R zs L3)
 (o:∀p,L p=none->Q (.ref p) (qj L p<|.lst<|nY<|wG f ks ks.length)):yr (pD<|jz ks) keep 2 g tc te τ L Q:=by
 refine bx (λi zs=>zs=nY (wG f ks i)) (by rw[gC,Ac];exact Bs hz (by decide)) j rfl ?_ ?_
 .rintro i y zs r rfl;obtain⟨z,U,rfl⟩:=iJ r;rw[Al] at U;obtain⟨k,J,rfl⟩:=Aq.mp U;refine turn i k _ _ J (λh=>{L,EV _,rfl,?_}) λh=>{L,EV _,rfl,?_}
  .rw[wB J,AC h,cg];rfl
  .rw[wB J,AB (by rw[h];exact AH),AI]
 .rintro zs rfl;rw[gC,Ac];exact o
abbrev eI(a l c:Addr):Y:=.tup [.ref a,.ref l,.ref c]
def TF(a b:Nat):min (a:Int) (b:Int)=((min a b:Nat):Int):=by omega
def TH(a b:Nat):max (a:Int) (b:Int)=((max a b:Nat):Int):=by omega
def gd(p:WZ):Y:=.tup [.int ((p.1:Nat):Int),.int ((p.2:Nat):Int)]
abbrev qt(l:WN):_x:=l.map gd
section
open PySem.W PySem.Calls
section
variable {w:W3}
abbrev Os(kx px:Str)(p1 p2 p3 p4 p5:Pos)(n:Nat):Expr:=.Tuple [.Subscript (.Name kx p1) (.Name px p2) p3,.Name px p4] n p5
structure oA(h:W4)(f:Addr)(kx px:Str)(scope:Scope)(kvs:WP):Prop where
 ex:∃(name eK:Str) (params:Arguments) (p1 p2 p3 p4 p5:Pos) (n:Nat) (pm ctv:W0) (c' cell k:Addr),h.get? f=some (kla_obj name eK params (Os kx px p1 p2 p3 p4 p5 n) scope [(kx,cell)] pm c' ctv)/\h.CodeRec (.ref c') eK/\
  h.IsCell cell (some<|.ref k)/\h.IsList k kvs.toArray/\∀v:W0,bindArgs (kla_fn name eK params (Os kx px p1 p2 p3 p4 p5 n) scope [(kx,cell)] pm (.ref c') ctv) ⟨[v],[]⟩=pure [(px,v)]
 lim:h.NoLimit
structure XB(scope:Scope)(kx px:Str):Prop where
 kind:scope.kind=.function
 co:scope.isCoroutine=false
 gen:scope.isGenerator=false
 nc:∀x∈scope.names,x.2≠.cell
 lp:scope.names.lookup px=some .local
 lk:scope.names.lookup kx=some .free
 d1:(kx==("__debug__" : Str))=false
 d2:(px==("__debug__" : Str))=false
 d3:(kx==("__classdict__" : Str))=false
theorem oA.keeps{kvs:WP}(k:oA h f kx px scope kvs)(J:∀b o,h.get? b=some o->h'.get? b=some o):oA h' f kx px scope kvs:=by
 obtain⟨name,U,I,p,r,t,C,T,n,pm,l,c',cell,kk,g1,g2,g3,g4,g5⟩:=k.ex;refine{{name,U,I,p,r,t,C,T,n,pm,l,c',cell,kk,J _ _ g1,?_,?_,?_,g5},k.lim.keeps J}
 .obtain⟨c,oc,vs,tq,g,j,e3⟩:=g2;exact{c,oc,vs,tq,g,J _ _ j,e3}
 .obtain⟨o,g,j⟩:=g3;exact{o,J _ _ g,j}
 .obtain⟨o,g,j⟩:=g4;exact{o,J _ _ g,j}
def TJ{kvs:WP}{u t:Tok}{r:Int}(K:oA s.heap f kx px scope kvs)(S:XB scope kx px)(J:A.depth<recursionLimit)(hi:kvs[i]?=some (.int r t))(a1:i<2 ^ 40)
 (h:∀h' tk a,(∀b o,s.heap.get? b=some o->h'.get? b=some o)->h'.get? a=some {cls:=.type "tuple",data:=.seq #[.int r t,.int (i:Int) u]}->Q (.ref a) {s with heap:=h',toks:=tk}):
 wpAny (model prog w) A (call (.ref f) [.int (i:Int) u]) Q E s:=by
 obtain⟨name,U,l,p1,p2,p3,p4,p5,n,pm,a2,c',cell,kk,g1,g2,g3,g4,g5⟩:=K.ex;refine wpAny_call<|kla_callFunE J g1 rfl S.co S.gen rfl g2 ?_;rw[g5];refine Aj (wpAny_newFunctionEnv S.nc (λx hx=>by rw[Ap.mp hx];exact S.lp) (λI g j=>{K.lim.fresh _ j,?_}) S.kind);have p:∀b o,s.heap.get? b=some o->I.get? b=some o:=λb o e=>j.extBut b o (A3<|wh e)<|vb _ e;refine kla_codeExpr ?_;have look:(([(px,Value.int (i:Int) u)]:List<|Str×W0).reverse.lookup px)=some (.int (i:Int) u):=by simp
 have kf:=S.lk;have kp:=S.lp;have cl:(envX U scope s.heap.objs.size f (.ref c') [(kx,cell)]).cells.lookup kx=some cell:=by simp
 have ic:I.IsCell cell (some<|.ref kk):=by obtain⟨o,C,T⟩:=g3;exact{o,p _ _ C,T}
 have il:I.IsList kk kvs.toArray:=by obtain⟨o,C,T⟩:=g4;exact{o,p _ _ C,T}
 refine wpAny_Tuple_spliced<|At<|Subscript_<|wpAny_Name (wpAny_loadName_free S.kind kf cl ic (wpAny_Name (wpAny_loadName_local S.kind kp g look ?_) S.d2) S.d3) S.d1;refine item_listL il (AQ _) (by omega) (by rw[show((i:Nat):Int).toNat=i from rfl];exact hi) ?_;refine At<|wpAny_Name (wpAny_loadName_local S.kind kp g look ?_) S.d2;refine Ev {by show 2<=sizeLine;decide,?_};exact h _ _ _ (λb o e=>vb _<|p b o e)<|xT _ rfl
end
def XM(x:Nat×Tok):W0:=.int (x.1:Int) x.2
def HF(h:W4)(kS:Addr)(rk:Nat->Int)(k:W0)(x:Nat×Tok):Prop:=∃a t u,k=.ref a/\a≠kS/\h.get? a=some {cls:=.type "tuple",data:=.seq #[.int (rk x.1) t,.int (x.1:Int) u]}
def kW(h:W4)(kS:Addr)(rk:Nat->Int):WP->List (Nat×Tok)->Prop
 |[],[]=>True
 |k::ks,x::xs=>HF h kS rk k x/\kW h kS rk ks xs
 |_,_=>False
theorem kW.len{h:W4}{kS:Addr}{rk:Nat->Int}:∀{ks:WP} {xs:List<|Nat×Tok},kW h kS rk ks xs->ks.length=xs.length
 |[],[],_=>rfl
 |_::_,_::_,ψ=>by obtain⟨_,b⟩:=ψ;rw[AK,AK,kW.len b]
 |[],_::_,z=>z.elim
 |_::_,[],z=>z.elim
theorem kW.mem{h:W4}{kS:Addr}{rk:Nat->Int}:∀{ks:WP} {xs:List<|Nat×Tok},kW h kS rk ks xs->∀t∈ks.zip xs,HF h kS rk t.1 t.2
 |[],[],_,t,I=>by cases I
 |_::_,_::_,ψ,t,I=>by
  obtain⟨a,b⟩:=ψ
  rw[DX] at I;rcases As.mp I with rfl|I
  .exact a
  .exact kW.mem b t I
 |[],_::_,z,_,_=>z.elim
 |_::_,[],z,_,_=>z.elim
section
variable {w:W3}
theorem J4{g:W4}{f:Addr}{kx px:Str}{scope:Scope}{kvs:WP}{kS:Addr}{rk:Nat->Int}{body:W0->PUnit->Sem (ForInStep PUnit)}(K:oA g f kx px scope kvs)(S:XB scope kx px)(I:A.depth<recursionLimit)(hn:g.get? kS=none)
 (hb:∀(x:W0) (s:W1) (Q':ForInStep PUnit->W1->Prop),wpAny (model prog w) A (call (.ref f) [x]) (λk s'=>wpAny (model prog w) A (Builtin.List.listUpdate (.ref kS) (·.push k)) (λ_ C=>Q' (.yield ⟨⟩) C) E s') (λ_ _=>False) s->wpAny (model prog w) A (body x ⟨⟩) Q' E s):
 ∀(ps:List<|Nat×Tok) (ks:WP) (e:Nat) (s:W1) (Q:PUnit->W1->Prop),(∀b o,g.get? b=some o->s.heap.get? b=some o)->s.heap.get? kS=some (seqObj "list" ks.toArray e)->ks.length+ps.length<=100000->
  (∀x∈ps,x.1<2 ^ 40/\∃t,kvs[x.1]?=some (.int (rk x.1) t))->
  (∀h' tk j T,(∀b o,b≠kS->s.heap.get? b=some o->h'.get? b=some o)->h'.get? kS=some (seqObj "list" (ks++j).toArray T)->kW h' kS rk j ps->Q ⟨⟩ {s with heap:=h',toks:=tk})->
  wpAny (model prog w) A (forIn (ps.map XM) PUnit.unit body) Q E s
 |[],ks,e,s,Q,hg,hk,hz,hp,q=>by rw[Do,EO];exact Aj (q s.heap s.toks [] e (λ_ _ _ h=>h) (by rw[AI];exact hk) trivial)
 |x::r,ks,e,s,Q,hg,hk,hz,hp,q=>by
  rw[AA,Dg];rw[AK] at hz;obtain⟨a1,t,ht⟩:=hp x<|Ao ..;have big:(100000:Nat)+1<=sizeLine:=by rw[sizeLine_eq];exact DH _ _
  refine Aa<|hb (XM x) s _<|TJ (K.keeps hg) S I ht a1 λh1 l a k1 ha=>?_;have J:=k1 _ _ hk;have s1:=yp h1 kS (Obj.mapSeq (·.push (.ref a)));have ea:ks.toArray.push (.ref a)=List.toArray (ks++[.ref a]):=by simp
  obtain⟨c2,a2⟩:∃c2,(h1.update kS (Obj.mapSeq (·.push (.ref a)))).get? kS=some (seqObj "list" (List.toArray<|ks++[.ref a]) c2):={_,by rw[<-ea];exact get?_update_seq J (·.push (.ref a))};have p:a≠kS:=λz=>by
   rw[z,J] at ha;have:=Br (λo:Option Obj=>o.map (·.cls)) ha;have z2:=this;injection z2 with z3
   injection z3 with z4
   exact absurd z4 (by decide)
  refine listUpdate_at (s:={s with heap:=h1,toks:=l}) J rfl ?_ (by rw[Ar];lia) (AS (Nat.le_of_eq<|Bz ..) (by rw[Ar];lia));refine J4 K S I hn hb r (ks++[.ref a]) c2 {s with heap:=h1.update kS (Obj.mapSeq (·.push (.ref a))),toks:=l} Q (λb o e=>?_) a2 (by rw[Ad,B6];lia) (λy hy=>hp y<|Ai _ hy) λh' tk j T kk a3 vs=>?_
  .have nb:b≠kS:=λz=>by rw[z,hn] at e;cases e
   exact(s1.2 b nb).trans (k1 b o<|hg b o e)
  .have U:∀b o,b≠kS->h1.get? b=some o->h'.get? b=some o:=λb o nb e=>kk b o nb<|(s1.2 b nb).trans e;refine q h' tk (.ref a::j) T (λb o nb e=>U b o nb<|k1 b o e) (by rw[a3,Ay];rfl) {{a,t,x.2,rfl,p,U a _ p ha},vs}
end
section
variable {w:W3}
def TK{g:W4}{kvs:WP}{kS a:Addr}{rk:Nat->Int}{ps:List<|Nat×Tok}{e1 e0:Nat}{B:Int}{P:PySem.Fin->W1->Prop}(K:oA g f kx px scope kvs)(S:XB scope kx px)(I:A.depth<recursionLimit)(hn:g.get? kS=none)
 (hg:∀b o,g.get? b=some o->s.heap.get? b=some o) (hk:s.heap.get? kS=some (seqObj "list" #[] e0)) (ha:s.heap.get? a=some (seqObj "list" #[] e1)) (l:kS≠a) (hz:ps.length<=127)
 (hp:∀x∈ps,x.1<2 ^ 40/\∃t,kvs[x.1]?=some (.int (rk x.1) t)) (hB:∀x∈ps,((x.1:Nat):Int)<B) (nd:(ps.map (·.1)).Nodup)
 (h:∀h' tk (qs:List<|Nat×Tok) c,(∀b o,b≠kS->b≠a->s.heap.get? b=some o->h'.get? b=some o)->h'.get? a=some (seqObj "list" (qs.map XM).toArray c)->qs.Perm ps->(qs.Pairwise λx y=>rk x.1*B+(x.1:Int)<=rk y.1*B+(y.1:Int))->P (.done<|.ret .none) {s with heap:=h',toks:=tk}):
 wpAny (model prog w) A (ksk_rest a (.ref f) false (ps.map XM).toArray e1<|.ref kS) P E s:=by
 refine Aa<|BD ?_;rw[List.forIn_toArray];refine Aa (J4 (rk:=rk) K S I hn (λx s' Q' hx=>?_) ps [] e0 s _ hg hk (by simp;lia) hp λh' tk ks e' keep J kv=>?_)
 .refine Aa (wpAny_attempt<|AZ hx (λk a5 hk=>?_) λ_ _ hF=>hF.elim)
  try dsimp only
  exact Aa<|AZ hk (λ_ s3 q=>Aj q) λ_ _ e=>e
 .try dsimp only
  rw[Di] at J;refine Aa<|listItems_at (s:={s with heap:=h',toks:=tk}) J rfl ?_;have a1:=keep _ _ (AG l) ha;have len:=kv.len;obtain⟨T,C⟩:∃T,T=ks.zip ps:={_,rfl};have kT:∀t∈T,HF h' kS rk t.1 t.2:=λt p=>kv.mem t<|C▸p;have e2:T.map (·.2)=ps:=by rw[C];exact List.map_snd_zip (by lia)
  have ez:ks.zip (ps.map XM)=T.map λt=>(t.1,XM t.2):=by rw[C,List.zip_map_right];rfl
  have mp:∀t∈T,t.2∈ps:=λt p=>by rw[<-e2];exact C8 p
  have nT:∀t∈T,num h' B (t.1,XM t.2)=rk t.2.1*B+(t.2.1:Int):=λt p=>by obtain⟨b,tt,u,r,x2,x3⟩:=kT t p;exact Xw r x3 rfl
  refine S6 (s:={s with heap:=h',toks:=tk}) (vs:=ps.map XM) (ks:=ks) (B:=B) J a1 l (by rw[Ac];exact len) (by rw[Ac];exact hz) (λv hv=>?_) λh2 a2 xs c U hc pm pw=>?_
  .obtain⟨j,hj⟩:=DF hv;have a3:j<ps.length:=by rw[<-len];exact(AN.mp hj).1
   have hm:(v,ps[j])∈T:=by rw[C];refine List.mem_iff_getElem?.mpr {j,?_};rw[List.getElem?_zip_eq_some];exact{hj,Ag a3}
   obtain⟨b,tt,u,r,x2,x3⟩:=kT _ hm;have r:=r;exact{b,_,_,_,_,tt,u,r,x3,rfl,rfl,AQ _,hB _<|mp _ hm}
  .rw[ez] at pm;obtain⟨T',pT,a4⟩:=XY _ pm rfl;subst a4;have mT:∀t,t∈T'->t∈T:=λt=>pT.mem_iff.mp;refine h h2 a2 (T'.map (·.2)) c (λb o n1 n2 e=>?_) ?_ ?_ ?_
   .rw[U b n1 n2];exact keep b o n1 e
   .rw[hc,BC,BC];rfl
   .rw[<-e2];exact pT.map _
   .refine BP.mpr<|Ep (λ{x y} hx hy z=>?_)<|BP.mp pw;rw[nT x<|mT x hx,nT y<|mT y hy] at z;exact z
def Yq{l:Addr}{kvs:WP}{rk:Nat->Int}{ps:List<|Nat×Tok}{B:Int}(K:oA s.heap f kx px scope kvs)(S:XB scope kx px)(j:A.in1.in1.depth<recursionLimit)
 (hl:s.heap.IsList l (ps.map XM).toArray) (hz:ps.length<=127)
 (hp:∀x∈ps,x.1<2 ^ 40/\∃t,kvs[x.1]?=some (.int (rk x.1) t)) (hB:∀x∈ps,((x.1:Nat):Int)<B) (nd:(ps.map (·.1)).Nodup)
 (h:∀h' tk (qs:List<|Nat×Tok) D c,s.heap.objs.size<=D->(∀b o,s.heap.get? b=some o->h'.get? b=some o)->h'.get? D=some (seqObj "list" (qs.map XM).toArray c)->qs.Perm ps->(qs.Pairwise λx y=>rk x.1*B+(x.1:Int)<=rk y.1*B+(y.1:Int))->Q (.ref D) {s with heap:=h',toks:=tk}):
 wpAny (model prog w) A (call (.builtin "sorted") [.ref l] [(Str.ofString "key",.ref f)]) Q E s:=by
 have big:(100000:Nat)+1<=sizeLine:=by rw[sizeLine_eq];lia
 have a2:(ps.map XM).length<=100000:=by rw[Ac];lia
 refine call_function_entry_kw kind_sorted plain_sorted entry_sorted (ksk_s1 _ _) ?_;refine Aa (m:=checkCount "sorted" 1 1 _)<|Aj ?_;refine Aa<|collect_list hl ?_<|fV;refine Aa<|wpAny_newList ?_ (by lia);obtain⟨g1,C⟩:∃g1,g1=(s.heap.push<|seqObj "list" #[] 0).update s.heap.objs.size (Obj.mapSeq (· ++ (ps.map XM).toArray)):={_,rfl};have T:g1.objs.size=s.heap.objs.size+1:=by rw[C,Heap.size_update,size_push']
 have gk:∀b o,s.heap.get? b=some o->g1.get? b=some o:=λb o q=>by have J:=wh q;rw[C,Heap.get?_update_ne _ _ _ _<|A3 J];exact vb _ q
 rw[<-C];have I:(g1.push<|seqObj "list" (ps.map XM).toArray 0).get? g1.objs.size=some (seqObj "list" (ps.map XM).toArray 0):=xT _ rfl;have keep:∀b o,s.heap.get? b=some o->(g1.push<|seqObj "list" (ps.map XM).toArray 0).get? b=some o:=λb o q=>vb _<|gk b o q;refine Aa<|Bj<|wpAny_call_entry_kw slot_list_sort {_,I,rfl} entry_list_sort ?body<|ksk_l1 _ _
 case body=>
  obtain⟨D,eD⟩:∃D,D=g1.objs.size:={_,rfl};rw[<-eD] at I ⊢;rw[ksk_t1];obtain⟨g2,p⟩:∃g2,g2=g1.push (seqObj "list" (ps.map XM).toArray 0):={_,rfl};rw[<-p] at I keep ⊢;have s1:=yp g2 D<|Obj.mapSeq λ_=>(#[]:WQ);obtain⟨e1,r⟩:∃e1,(g2.update D<|Obj.mapSeq λ_=>(#[]:WQ)).get? D=some (seqObj "list" #[] e1):={_,get?_update_seq I λ_=>#[]};have nD:∀b o,s.heap.get? b=some o->b≠D:=λb o q z=>by have J:=wh q;rw[z,eD,T] at J;exact Nat.not_succ_lt_self J
  refine Aa<|listItems_at (s:={s with heap:=g2}) I rfl ?_;refine Aa (listUpdate_at (s:={s with heap:=g2}) I rfl ?_ (by rw[Ar];exact fV)<|A5 _);refine Aa<|seqEpoch_at r rfl ?_;refine Aa<|wpAny_newTuple ?_ (by lia);refine Aa<|wpAny_newList ?_<|A5 _;refine Bj ?_;obtain⟨g3,U⟩:∃g3,g3=(g2.update D<|Obj.mapSeq λ_=>(#[]:WQ)).push (seqObj "tuple" (ps.map XM).toArray 0):={_,rfl};have k3:∀b o,s.heap.get? b=some o->g3.get? b=some o:=λb o q=>by rw[U];exact vb _<|(s1.2 b<|nD b o q).trans<|keep b o q
  have d3:g3.get? D=some (seqObj "list" #[] e1):=by rw[U];exact vb _ r
  rw[<-U];have a1:(g3.push<|seqObj "list" #[] 0).get? g3.objs.size=some (seqObj "list" #[] 0):=xT _ rfl;refine TK (s:={s with heap:=g3.push (seqObj "list" #[] 0)}) (g:=s.heap) (kS:=g3.objs.size) (a:=D) (rk:=rk) (B:=B) K S j (Heap.get?_none_of_le ?_) (λb o q=>vb _<|k3 b o q) a1 (vb _ d3) ?_ hz hp hB nd λh' tk qs c kp hD pm pw=>?_
  .have l1:g3.objs.size=g1.objs.size+2:=by rw[U,size_push',Heap.size_update,p,size_push']
   rw[l1,T];exact AS (CU _)<|Bb _ 2
  .exact(A3<|wh d3).symm
  .refine{_,rfl,Aj {_,rfl,h h' tk qs D c (by rw[eD,T];exact CU _) (λb o q=>?_) hD pm pw}};exact kp b o (A3<|wh<|k3 b o q) (nD b o q)<|vb _<|k3 b o q
end
end
def tF{i j:Int}{t u:Tok}{c:W0}(l:WP)(h:TriplesOk l):TriplesOk (l++[.int i t,.int j u,c]):=by
 fun_induction TriplesOk l with
 |case1=>trivial
 |case2 _ _ _ _ _ rest I=>exact I h
 |case3=>exact h.elim
def xR{i j:Int}{t u:Tok}{c I:W0}(l:WP)(h:TriplesOk l)(e:codeAmong pos (l++[.int i t,.int j u,c])=some I):codeAmong pos l=some I\/I=c:=by
 fun_induction TriplesOk l with
 |case1=>
  right;have e:(if i==pos.line&&j==pos.col then some c else none)=some I:=e;split at e
  .cases e;rfl
  .cases e
 |case2 a _ b _ d rest J=>
  have e:(if a==pos.line&&b==pos.col then some d else codeAmong pos (rest++[.int i t,.int j u,c]))=some I:=e;show(if a==pos.line&&b==pos.col then some d else codeAmong pos rest)=some I\/I=c;split at e
  .rename_i z;rw[AC z];exact .inl e
  .rename_i z;rw[AB z];exact J h e
 |case3=>exact h.elim
structure Fl(K:Af)(eW:W0)(P:Addr):Prop where
 ex:∃c oc,eW=.ref c/\K.lookup c=some oc/\∀h:W4,h.get? c=some oc->PySem.W.CodeHd h c P
 bm:∃bm ob,PySem.W.nsIn K mainGlobals "__builtins__"=some (some<|.ref bm)/\bm≠builtinsNs/\bm≠mainGlobals/\K.lookup bm=some ob/\ob.cls=.type "module" /\ ob.dict=some builtinsNs/\ob.data=.plain
theorem tS:∀{l:WR} {us:WP},zk (l.map λi:Nat=>V.int<|0+(i:Int)) us->∃ps:List (Nat×Tok),us=ps.map XM/\ps.map (·.1)=l
 |[],_,.nil=>{[],rfl,rfl}
 |i::r,_,.cons (b:=u) h t=>by obtain⟨ps,I,J⟩:=tS (l:=r) t;obtain⟨tk,U⟩:=(show ∃tk,u=Value.int (0+(i:Int)) tk from h);refine{(i,tk)::ps,?_,by rw[AA,J]};rw[AA,I,U];show _=Value.int (i:Int) tk::_;rw[Cy]
theorem uL:∀ps:List (Nat×Tok),zk (ps.map λx=>V.int ((x.1:Nat):Int))<|ps.map XM
 |[]=>.nil
 |x::r=>.cons {(x.2),rfl}<|uL r
def TL(P:Addr)(q:Str)(J:Nat)(te:TE):TE:=λσ H Q=>te σ H λv H1=>∃l I,∃n:Nat,∃rks:WV,v=.ref l/\H1 l=some (.lst ((List.range n).map λi:Nat=>V.int<|0+(i:Int)))/\σ[J]?=some (some<|.ref I)/\H1 I=some (.lst<|rks.map V.int)/\rks.length=n/\n<=127/\uS H1 P q/\
 ∀H2 D (qs:WR),(∀b u,b≠P->H1 b=some u->H2 b=some u)->uS H2 P q->H1 D=none->D≠P->H2 D=some (.lst (qs.map λi:Nat=>V.int (i:Int)))->qs.Perm (List.range n)->(qs.Pairwise λi j=>rks.getD i 0*1000000+(i:Int)<=rks.getD j 0*1000000+(j:Int))->Q (.ref D) H2
def TM{l kk cell:Addr}{J:Arguments}{g:W0}{Q:VK}(I:qx X pins σ H s)(S:XB fx kx px)(hr:X.A.depth+3<recursionLimit)
 (hf:s.heap.get? f=some (PySem.W.kla_obj name eK J (Os kx px p1 p2 p3 p4 p5 x1) fx [(kx,cell)] pm c' g)) (a1:s.heap.CodeRec (.ref c') eK) (p:s.heap.IsCell cell<|some<|.ref kk)
 (hb:∀v:W0,bindArgs (PySem.W.kla_fn name eK J (Os kx px p1 p2 p3 p4 p5 x1) fx [(kx,cell)] pm (.ref c') g) ⟨[v],[]⟩=pure [(px,v)])
 (hl:H l=some (.lst ((List.range n).map λi:Nat=>V.int<|0+(i:Int)))) (hk:H kk=some (.lst<|rks.map V.int)) (hn:rks.length=n) (hz:n<=127)
 (q:∀D (qs:WR),H D=none->qs.Perm (List.range n)->(qs.Pairwise λi j=>rks.getD i 0*1000000+(i:Int)<=rks.getD j 0*1000000+(j:Int))->Q (.ref D) (upd H D<|.lst (qs.map λi:Nat=>V.int (i:Int)))):
 _w X (call (.builtin "sorted") [.ref l] [(Str.ofString "key",.ref f)]) (EP X pins σ Q) X.xe s:=by
 obtain⟨a4,rv,pl,_⟩:=I.list<|FE hl;obtain⟨C,rk,pk,_⟩:=I.list<|FE hk;obtain⟨ps,rfl,U⟩:=tS rv;have lp:ps.length=n:=by have:=Br List.length U;rwa[Ac,Cu] at this
 have big:(100000:Nat)<=sizeLine:=by decide
 refine ja I.tk<|Yq (rk:=λi=>rks.getD i 0) (B:=1000000) (kvs:=C) {{(name),eK,J,p1,p2,p3,p4,p5,x1,pm,g,c',cell,kk,hf,a1,p,pk.isList,hb},I.nolimit} S ?_ pl.isList (by lia) (λx hx=>?_) (λx hx=>?_) ?_ λh' tk qs D c hD keep hg T pw ht=>?_
 .show X.A.depth<recursionLimit;lia
 .have r:x.1∈List.range n:=by rw[<-U];exact C8 hx
  have a2:=AX.mp r;refine{by lia,?_};have e1:(rks.map V.int)[x.1]?=some (V.int<|rks.getD x.1 0):=by rw[Al,Ag (by lia),Bm,Ag (by lia)];rfl
  obtain⟨u,e2,r2⟩:=Paired.Zq rk e1;obtain⟨t,rfl⟩:=(show ∃t,u=Value.int (rks.getD x.1 0) t from r2);exact{(t),e2}
 .have r:x.1∈List.range n:=by rw[<-U];exact C8 hx
  have a2:=AX.mp r;omega
 .rw[U];exact Co
 .have a3:=I.GT.fresh hD;refine{.ref D,_,I.laid (t':=tk) (o:=.lst ((qs.map (·.1)).map λi:Nat=>V.int (i:Int))) keep hD ?_,rfl,q D (qs.map (·.1)) a3 ?_ ?_}
  .refine{?_,qs.map XM,c,?_,hg}
   .rw[Ac,Ac,T.length_eq];lia
   .rw[BC];exact uL qs
  .rw[<-U];exact T.map _
  .exact BP.mpr pw
def qx.Zv{P:Addr}{ps more:WQ}{oc fo:Obj}{tk:Nat}(I:qx X pins σ H s)(C:H P=some (.XN ps))(hx:Heap.ExtBut P s.heap h')(U:h'.get? P=some (PySem.W.tabObj<|ps++more))
 (hc:s.heap.objs.size<=c') (g:h'.get? c'=some oc) (ht:0<tk):qx X pins σ (upd (upd H P<|.XN<|ps++more) c'<|.Xs oc<|.own 0) {s with heap:=h'.push fo,toks:=tk}:=by
 have nc:=I.GT.fresh hc;have p:∀b,H b=none->b≠P:=λb e z=>by rw[z,C] at e;cases e
 have j:∀b u,H b=some u->b≠c':=λb u e z=>by rw[z,nc] at e;cases e
 have l:∀b o,s.heap.get? b=some o->b≠c':=λb o e=>A3<|AL (wh e) hc;have t:∀b o,b≠P->s.heap.get? b=some o->(h'.push fo).get? b=some o:=λb o n e=>vb _<|hx b o n e;have J:∀b u,H b=some u->(∀ps,u≠.XN ps)->b≠P:=λb u e d z=>by rw[z,C] at e;cases e;exact d _ rfl
 refine I.step (ch:=[]) (g':=s.gens) (d':=s.drawn) (t':=tk) (λ_ z=>nomatch z) (λb o _ _ _ e n=>t b o (p b n) e) (λb o _ _ _ e n=>{o.slots,t b o (p b n) e}) (λb o _ e n=>?_) (λb o _ e=>?_) (λb xs e=>?_) (λb o u e=>?_) (λb qs e=>?_) (λm hm=>?_) (λb u e=>?_) I.bare ht
 .rw[qp<|l b o e,qp<|p b n];exact n
 .by_cases c:b=P
  .subst c;exact{_,vb _ U}
  .exact{o,t b o c e}
 .rw[qp<|j b _ e,qp (J b _ e λ_ z=>by cases z)];exact e
 .rw[qp<|j b _ e,qp (J b _ e λ_ z=>by cases z)];exact e
 .rw[qp<|j b _ e];by_cases c:b=P
  .subst c;rw[C] at e;cases e;exact{(more),zu}
  .rw[qp c];exact{#[],by rw[e];simp}
 .exact(hm.extBut hx<|p _ I.free).push _
 .by_cases c:b=c'
  .subst c;rw[zu] at e;cases e;exact{vb _ g,_,vb _ g}
  .rw[qp c] at e;by_cases d:b=P
   .subst d;rw[zu] at e;cases e;exact vb _ U
   .rw[qp d] at e;refine(I.GT b u e).Xx (λa v T r=>t a v ?_ r) (λa r=>?_) (λa xs r=>?_)
    .rcases T with rfl|T
     .exact d
     .exact J a _ T λ_ z=>by cases z
    .rw[qp<|j a _ r,qp (J a _ r λ_ z=>by cases z)];exact r
    .rw[qp<|j a _ r,qp (J a _ r λ_ z=>by cases z)];exact r
def TN{te:TE}{J:Arguments}{U:Pos}{ik:Nat}{P:Addr}(hg:Gl X "sorted")(hm:X.mg "sorted"=none)(he:PE X e te)(S:XB fx kx px)(C:Fl X.K X.env.code P)(hr:X.A.depth+3<recursionLimit)
 (hq:X.env.qual ++ "<lambda>" = q) (br:X.N[ik]?=some kx) (ba:X.env.scope.names.lookup kx=some .cell) (bb:∃cell,X.env.cells.lookup kx=some cell/\closureFor fx X.env=pure [(kx,cell)])
 (bc:defaultsOf J X.env=([],[])) (hb:∀(name eK:Str) (cl:List<|Str×Addr) (pm cd ct v:W0),bindArgs (PySem.W.kla_fn name eK J (Os kx px p1 p2 p3 p4 p5 x1) fx cl pm cd ct) ⟨[v],[]⟩=pure [(px,v)])
 (h1:starEach [e] X.env=(false,eval e X.env)::starEach [] X.env:=by rfl) (h2:(backTo pos<|starEach [e] X.env).any (·.1)=false:=by rfl)
 (h3:backTo pos (starEach [e] X.env)=(false,eval e X.env)::backTo pos (starEach [] X.env):=by rfl):
 PE X (.Call (.Name "sorted" p) [e] [{some "key",.Lambda J (Os kx px p1 p2 p3 p4 p5 x1) fx U,sL}] pos) (TL P q ik te):=by
 intro a1 s σ H Q I h;refine wpAny_Call_Name_kw<|eG I hg hm (by decide +kernel:bootBuiltins "sorted"=some (.builtin "sorted")) ?_ (by decide) (by decide);refine PyProof.Rows.callWith_kw ?_ h3 h2;rw[h3];refine At<|aM (he a1 s σ H _ I h) λv s1 ψ=>?_;obtain⟨x,H1,g,rx,l,kk,n,rks,ev,hl,hs,hk,hn,hz,T,qq⟩:=ψ;refine Ev ?_;subst ev;cases (show v=Value.ref l from rx);show wpAny _ _ (evalAll ((do let v <-eval (.Lambda J (Os kx px p1 p2 p3 p4 p5 x1) fx U) X.env;standAt pos;pure v)::[])) _ _ s1;refine wpAny_evalAll_cons<|Aa ?_;obtain⟨cell,a3,al⟩:=bb;obtain⟨c,c1,bd,lc,hC⟩:=C.ex;obtain⟨bm,ob,b1,b2,b3,b4,b5,b6,b7⟩:=C.bm;obtain⟨aL,tP,tok,a4⟩:=T;have bf:=g.ok.mod.glob.keeps g.bk;have bg:=g.GT P _ tP;have bh:=hC _<|g.SL c c1 lc;have a2:∀b o,X.base.get? b=some o->b≠P:=λb o e z=>by have:=(g.bs b o e).2;rw[z,tP] at this;cases this
 have ay:=g.ok.mod.Zl bm ob b4;have hB:s1.heap.BuiltinsAt X.mg P:={bm,ob,Bw g.ok.mod.Zl g.ok.mod.glob b1,b2,b3,a2 _ _ ay,(g.bs _ _ ay).1,b5,b6,b7};have c3:mainGlobals≠P:=by obtain⟨o,es,ep,e,hd,_⟩:=g.ok.mod.glob;exact a2 _ _ e
 have a5:s1.heap.IsCell cell (some<|.ref kk):=by
  obtain⟨m,_,c4⟩:=g.loc;obtain⟨u,ru,lk⟩:=c4 ik kx _ br hs<|.inr<|.inl ba;cases (show u=Value.ref kk from ru);rcases lk with⟨k1,_⟩|⟨_,c2,e2,c5⟩
  .have k1:X.env.scope.names.lookup kx=some .local:=k1;rw[ba] at k1;cases k1
  .rw[a3] at e2;cases e2;exact c5
 refine PySem.W.kla_eval bc ?_;rw[hq];have vd:∀(s2:W1) (H2:Hp) (f r:Addr) (j pm:W0),qx X a1 σ H2 s2->s2.heap.get? f=some (PySem.W.kla_obj "<lambda>" q J (Os kx px p1 p2 p3 p4 p5 x1) fx [(kx,cell)] pm r j)->s2.heap.CodeRec (.ref r) q->s2.heap.IsCell cell (some<|.ref kk)->
  (∀b u,b≠P->H1 b=some u->H2 b=some u)->uS H2 P q->(∀b,H2 b=none->H1 b=none)->
  _w X (do standAt pos;pure (Value.ref f)) (λv s'=>_w X (evalAll []) (λvs c6=>_w X (call (.builtin "sorted") [.ref l]<|[Str.ofString "key"].zip<|v::vs) (EP X a1 σ Q) X.xe c6) X.xe s') X.xe s2:=by
  intro s2 H2 f r j pm I2 g1 g2 g3 g4 g5 g6;refine Aa<|wpAny_standAt<|Aj<|wpAny_evalAll_nil ?_;have lP:l≠P:=λz=>by rw[z,tP] at hl;cases hl
  have kP:kk≠P:=λz=>by rw[z,tP] at hk;cases hk
  refine TM (n:=n) (rks:=rks) I2 S hr g1 g2 g3 (λv=>hb _ _ _ _ _ _ v) (g4 _ _ lP hl) (g4 _ _ kP hk) hn hz λD qs hD cc pw=>?_;have bi:D≠P:=λz=>by obtain⟨cy,e2,_⟩:=g5;rw[z,e2] at hD;cases hD
  refine qq _ D qs (λb u n e=>?_) ?_ (g6 D hD) bi zu cc pw
  .rw[qp<|j6 (g4 b u n e) hD];exact g4 b u n e
  .exact g5.keep (qp<|AG bi) λb o u e=>by rw[qp<|j6 e hD];exact e
 cases hf:codeAmong U aL.toList with
 |some cv=>
  obtain⟨r,oc,vs,t,ck,f1,f2,f3⟩:=a4 U cv hf;subst ck;refine ja g.tk<|PySem.W.kla_makeFunctionHit (mg:=X.mg) al g.ok.glob bf bd bh bg tok hf hB λj h' tk bj cI ht=>?_;have I2:qx X a1 σ H1 {s1 with heap:=h'.push {cls:=.type "function",data:=.func (PySem.W.kla_fn "<lambda>" q J (Os kx px p1 p2 p3 p4 p5 x1) fx [(kx,cell)] ((X.mg "__name__").getD .none) (.ref r) j)},toks:=tk}:=g.kept (t':=tk) λb o e=>vb _<|bj b o e;obtain⟨ac,_⟩:=I2.GT r _ f1;refine vd _ H1 _ r j _ I2 (xT _ rfl) {(r),oc,vs,t,rfl,ac,f2,f3} ?_ (λb u _ e=>e) {(aL),tP,tok,a4} λb e=>e;obtain⟨o,e1,e2⟩:=a5;exact{o,vb _<|bj _ _ e1,e2}
 |none=>
  refine ja g.tk<|PySem.W.kla_makeFunction (mg:=X.mg) al g.ok.glob bf bd bh bg tok hf c3 hB λr j h' tk hx bn d0 bp cm ht=>?_;obtain⟨c2,oc,vs,t,e2,ac,f2,f3⟩:=bp;cases e2;have I2:=g.Zv (fo:=PySem.W.kla_obj "<lambda>" q J (Os kx px p1 p2 p3 p4 p5 x1) fx [(kx,cell)] ((X.mg "__name__").getD .none) r j) tP hx cm bn ac ht;have nc:=g.GT.fresh bn;have cP:r≠P:=λz=>by rw[z,tP] at nc;cases nc
  refine vd _ _ _ r j _ I2 (xT _ rfl) {r,oc,vs,t,rfl,vb _ ac,f2,f3} ?_ (λb u n e=>?_) ?_ λb e=>?_
  .obtain⟨o,e1,e2⟩:=a5;have nP:cell≠P:=λz=>by have:=g.On kx cell a3;rw[z,tP] at this;cases this
   exact{o,vb _<|hx _ _ nP e1,e2}
  .rw[qp<|j6 e nc,qp n];exact e
  .refine{aL++#[rawInt U.line,rawInt U.col,.ref r],by rw[qp<|AG cP,zu],?_,λbq cv z=>?_}
   .rw[Ba];exact tF _ tok
   .rw[Ba] at z;rcases xR _ tok z with z|z
    .obtain⟨d',od,cn,t',k1,k2,k3⟩:=a4 bq cv z;have nP:d'≠P:=λz=>by rw[z,tP] at k2;cases k2
     exact{d',od,cn,t',k1,by rw[qp<|j6 k2 nc,qp nP];exact k2,k3}
    .exact{(r),oc,vs,t,z,zu,f2,f3}
  .by_cases d:b=r
   .subst d;exact nc
   .rw[qp d] at e;by_cases d2:b=P
    .subst d2;rw[zu] at e;cases e
    .rw[qp d2] at e;exact e
def J5(Pt:Addr)(q:Str)(J:Nat)(te:xw)(τ:ji)(L:qm)(Q:YK):Prop:=te τ L λy L1=>match y with
 |.ref l=>cM L1 l λys=>∃(n:Nat) (rks:WV) (I:Addr),ys=cD 0 n/\xN τ J=some (.ref I)/\L1 I=some (.lst<|rks.map Y.int)/\rks.length=n/\n<=127/\L1 Pt=some (.tb q)/\
  ∀(D:Addr) (qs:WR),L1 D=none->qs.Perm (List.range n)->(qs.Pairwise λi j=>rks.getD i 0*1000000+(i:Int)<=rks.getD j 0*1000000+(j:Int))->Q (.ref D) (qj L1 D<|.lst (qs.map λi:Nat=>Y.int (i:Int)))
 |_=>False
theorem qI{G:G3}{H:Hp}:∀{l:WR} {xs:W6},va G H (l.map λi:Nat=>Y.int<|0+(i:Int)) xs->xs=l.map λi:Nat=>V.int<|0+(i:Int)
 |[],_,h=>h
 |_::_,_,ψ=>by obtain⟨x,I,e,r,s⟩:=ψ;subst e;cases r;rw[qI s];rfl
theorem iG{G:G3}{H:Hp}:∀{l:WV} {xs:W6},va G H (l.map Y.int) xs->xs=l.map V.int
 |[],_,h=>h
 |_::_,_,ψ=>by obtain⟨x,I,e,r,s⟩:=ψ;subst e;cases r;rw[iG s];rfl
theorem ut{G:G3}{H:Hp}:∀qs:WR,va G H (qs.map λi:Nat=>Y.int (i:Int)) (qs.map λi:Nat=>V.int (i:Int))
 |[]=>rfl
 |_::r=>{_,_,rfl,rfl,ut r}
def TQ{I:Arguments}{U:Pos}{r:Nat}(hg:Gl X "sorted")(hm:X.mg "sorted"=none)(he:QE X e te)(S:XB fx kx px)(C:Fl X.K X.env.code Pt)(hr:X.A.depth+3<recursionLimit)
 (hq:X.env.qual ++ "<lambda>" = q) (t:X.N[r]?=some kx) (a1:X.env.scope.names.lookup kx=some .cell) (g:∃cell,X.env.cells.lookup kx=some cell/\closureFor fx X.env=pure [(kx,cell)])
 (j:defaultsOf I X.env=([],[])) (hb:∀(name eK:Str) (cl:List<|Str×Addr) (pm cd ct v:W0),bindArgs (PySem.W.kla_fn name eK I (Os kx px p1 p2 p3 p4 p5 x1) fx cl pm cd ct) ⟨[v],[]⟩=pure [(px,v)])
 (h1:starEach [e] X.env=(false,eval e X.env)::starEach [] X.env:=by rfl) (h2:(backTo pos<|starEach [e] X.env).any (·.1)=false:=by rfl)
 (h3:backTo pos (starEach [e] X.env)=(false,eval e X.env)::backTo pos (starEach [] X.env):=by rfl):
 QE X (.Call (.Name "sorted" p) [e] [{some "key",.Lambda I (Os kx px p1 p2 p3 p4 p5 x1) fx U,sL}] pos) (J5 Pt q r te):=
 EY (TN hg hm he S C hr hq t a1 g j hb h1 h2 h3) λσ H Q τ L Q3 rs rl z k=>by
  refine{τ,L,_,rs,rl,z,λv H1 y L1 t1 J rv z=>?_};cases y with
  |ref l=>
   obtain⟨ys,e1,n,a2,kk,rfl,e2,e3,hn,hz,eP,qq⟩:=xa z;cases rv;obtain⟨xs,h1,r1⟩:=J l _ e1;obtain⟨xk,h2,r2⟩:=J kk _ e3;have T:=J Pt _ eP;cases qI r1;cases iG r2;obtain⟨v,hv,rv⟩:=rs.get r _<|rq _ _ e2;cases rv;refine{l,kk,n,a2,rfl,h1,hv,h2,hn,hz,T,λH2 D qs kp T2 hD a4 a3 pm pw=>?_};have tb:∃o,H1 Pt=some (.XN o):=let ⟨o,e,_⟩:=T;⟨o,e⟩;have t2:j7 H1 H2:=λa u i h=>kp a u (λc=>by obtain⟨o,e⟩:=tb;rw[c,e] at h;cases h;cases i) h
   refine k _ _ _ _ (t1.trans t2) (λa u e=>?_) (by rfl)<|qq D qs (J.none hD) pm pw;by_cases c:a=D
   .subst c;rw[q9] at e;cases e;exact{_,a3,ut qs}
   .rw[qf c] at e;by_cases d:a=Pt
    .subst d;rw[eP] at e;cases e;exact T2
    .obtain⟨x,hx⟩:=(J a u e).ex;exact(J a u e).keep t2 (by rw[hx];exact kp a x d hx)
  |_=>exact z.elim
structure HG(K:Af)(x eK:Str)(st:Stmt)(f:Addr)(fd:FuncData)(Pt:Addr):Prop where
 ex:∃(oc:W0) (od:Option Addr) (kV hQ pm:W0) (an:Option Addr) (eW ct:W0) (pR:Array<|WW),
  fd=PySem.W.fnOf x eK (w4 st) (x8 st) (qy st) .none kV hQ pm an eW ct/\K.lookup f=some ⟨oc,od,.func fd,pR⟩/\PySem.W.codeIn K eW eK=true/\Fl K eW Pt
 kp:PySem.W.keepIn K (.ref f)=true
def TR{P:W2}{w:W3}{K:Af}{N:WS}{k:Nat}{sp:vt}(F:HG K x eK st f fd Pt)(S:aX N ps<|qy st)(len:∀ys L Q,sp ys L Q->ys.length=ps.length)
 (I:∀(eW:W0) (A:Around) (outer:List Env) (s:W1) (H:Hp) (E:XK),Fl K eW Pt->aR k (A.deeper<|PyProof.Rows.envOfC eK (qy st) s.heap.objs.size f eW)->
  ∃t,uD (fN Yr P w K mg base N eK (qy st) f eW A outer s H E).Y4 (x8 st) t/\∀ys L Q,sp ys L Q->t {nx:=λ_ L'=>a6 Q .GM L',rt:=a6 Q} (ft N ys) L):Zg P w K mg base (k+1) f fd ps sp:=by
 obtain⟨oc,od,kV,a1,pm,an,eW,ct,a2,rfl,lk,U,C⟩:=F.ex;refine GR lk U S (λvs H Q E ψ=>by obtain⟨ys,L,g,j,rl,z,_⟩:=ψ;rw[<-j.length];exact len ys L g z) λA outer s H vs Q E hr ψ=>?_;obtain⟨ys,L,g,j,rl,z,k⟩:=ψ;obtain⟨t,ht,q⟩:=I eW A outer s H E C hr;refine{_,jA.Y4 ht,ft N ys,L,_,jV j,rl,q ys L g z,?_};exact{λσ l τ L' o a3 J ψ=>(by obtain⟨L2,p,r⟩:=ψ;exact k .GM l .GM L2 o (J.sub p) (by rfl) r),λv l y L' o J T ψ=>(by obtain⟨L2,p,r⟩:=ψ;exact k v l y L2 o (J.sub p) T r),λ_ _ _ _ _ _ _ z=>z.elim,λ_ _ _ _ _ _ _ z=>z.elim}
inductive mX(Pt:Addr)(q:Str)(ys:_x)(L:qm)(Q:YK):Prop
 |mk:∀ns:WV,(ys=[.sq<|ns.map Y.int])->(ns.length<=63)->(L=qj (λ_=>none) Pt (.tb q))->(∀L',Q (.bl true) L')->mX Pt q ys L Q
def XQ(q:Str)(K:Af)(Pt:Addr):Sp:=λvs H Q _=>∃(a:Addr) (ns:WV),vs=[.ref a]/\Zh K H a (ns.map V.int)/\ns.length<=63/\H Pt=some (.XN #[])/\∀H',Q (.bl true) H'
def TU{vs:W6}{Q:VK}{E:XK}(h:XQ q G.K Pt vs H Q E):dn G (mX Pt q) vs H Q E:=by
 obtain⟨a,I,rfl,J,U,g,z⟩:=h;refine{[.sq<|I.map Y.int],qj (λ_=>none) Pt<|.tb q,λy _=>y=.bl true,va.one {a,_,rfl,J,uH I},(λb u e=>?_),{I,rfl,U,rfl,λ_=>rfl},?_}
 .by_cases c:b=Pt
  .subst c;rw[q9] at e;cases e;exact{#[],g,trivial,λpos o z=>by cases z}
  .rw[qf c] at e;cases e
 .rintro v j y p _ _ l rfl;cases l;exact z j
def GE(Pt:Addr):Af->Af
 |[]=>[]
 |(a,o)::r=>if a==Pt then GE Pt r else(a,o)::GE Pt r
theorem xp{Pt a:Addr}(h:a≠Pt):∀K:Af,(GE Pt K).lookup a=K.lookup a
 |[]=>rfl
 |(b,o)::r=>by
  unfold GE;by_cases c:(b==Pt)=true
  .rw[AC c,xp h r,BH];have:(a==b)=false:=by have I:=eq_of_beq c;subst I;exact EL h
   rw[this]
  .rw[AB c,BH,BH,xp h r]
theorem kj{Pt:Addr}:∀K:Af,(GE Pt K).lookup Pt=none
 |[]=>rfl
 |(b,o)::r=>by
  unfold GE;by_cases c:(b==Pt)=true
  .rw[AC c];exact kj r
  .rw[AB c,BH];have:(Pt==b)=false:=by cases d:Pt==b with|false=>rfl|true=>exact absurd (beq_iff_eq.mpr (eq_of_beq d).symm) c
   rw[this];exact kj r
def oN{a:Addr}{K:Af}{o:Obj}(e:(GE Pt K).lookup a=some o):a≠Pt/\K.lookup a=some o:=by
 by_cases c:a=Pt
 .subst c;rw[kj] at e;cases e
 .rw[xp c] at e;exact{(c),e}
def YG{K:Af}(X:K.In h):(GE Pt K).In h:=λa o e=>X a o (oN e).2
structure J6(K:Af)(Pt:Addr):Prop where
 tab:K.lookup Pt=some (PySem.W.tabObj #[])
 hd:∃c,∀h:W4,K.In h->PySem.W.CodeHd h c Pt
 st:Pt≠cStatics
section
variable {K:Af}(T:K.lookup Pt=some (PySem.W.tabObj #[]))
include T
def Pv{a:Addr}{r:Option<|WW}(e:PySem.W.nsIn K a x=r):PySem.W.nsIn (GE Pt K) a x=r:=by
 rw[<-e];unfold PySem.W.nsIn;by_cases c:a=Pt
 .subst c;rw[kj,T]
 .rw[xp c]
def XJ{a:Addr}{o:Obj}(e:K.lookup a=some o)(n:o.cls≠.none):(GE Pt K).lookup a=some o:=by
 rw[xp ?_]
 .exact e
 .rintro rfl;rw[T] at e;cases e;exact n rfl
def Ye(e:PySem.W.codeIn K cd q=true):PySem.W.codeIn (GE Pt K) cd q=true:=by
 unfold PySem.W.codeIn at e ⊢;split at e
 .rename_i c;by_cases d:c=Pt
  .subst d;rw[T] at e;simp at e
  .rw[xp d];exact e
 .cases e
def TX{v:W0}:PySem.W.ownIn (GE Pt K) x v=PySem.W.ownIn K x v:=by
 unfold PySem.W.ownIn;split
 .rfl
 .rename_i a;by_cases d:a=Pt
  .subst d;rw[kj,T]
  .rw[xp d];split
   .exact Pv T rfl
   .rfl
 .rfl
theorem u4{x:Str}:∀l:WP,PySem.W.alongIn (GE Pt K) x l=PySem.W.alongIn K x l
 |[]=>rfl
 |c::r=>by unfold PySem.W.alongIn;rw[TX T,u4 r]
def i0{v:W0}:PySem.W.findIn (GE Pt K) v x=PySem.W.findIn K v x:=by
 unfold PySem.W.findIn;split
 .rfl
 .rename_i a;by_cases d:a=Pt
  .subst d;rw[kj,T]
  .rw[xp d];split
   .exact u4 T _
   .rfl
 .rfl
def xC{a:Addr}(n:a≠Pt):PySem.W.specialIn (GE Pt K) (.ref a) x=PySem.W.specialIn K (.ref a) x:=by unfold PySem.W.specialIn PySem.W.typeIn;dsimp only;rw[xp n];congr 1;funext t;exact i0 T
def Yc{f:W0}(e:PySem.W.keepIn K f=true):PySem.W.keepIn (GE Pt K) f=true:=by
 unfold PySem.W.keepIn at e ⊢;split at e
 .rename_i a;by_cases d:a=Pt
  .subst d;rw[T] at e;simp at e
  .rw[xp d,xC T d];exact e
 .cases e
end
def TY{P:W2}{w:W3}{K:Af}{mb:WM}{CX:yY}{k:Nat}{a:Addr}{I:W1}{ns:WV}
 (KX:K.In I.heap) (TI:J6 K Pt) (T:I.heap.Ns mainGlobals mg) (hb:I.heap.Ns builtinsNs mb) (al:∀x:Str,x ≠ "__name__" -> mb x=bootBuiltins x) (a1:I.heap.NoLimit) (hg:I.gens=#[]) (ay:0<I.toks)
 (p:I.heap.get? a=some {cls:=.type "list",data:=.seq vs.toArray}) (hi:IntsAre vs ns) (hl:ns.length<=sizeLine) (hr:aR k callerA)
 (F:∀base:W4,(GE Pt K).In base->base.Ns mainGlobals mg->bV P w (GE Pt K) mg base CX k fa fd [x] sp) (l:∀(s:W1) (u:W0),BindsTo s fd ⟨[u],[]⟩ [(x,u)])
 (aL:∀H:Hp,H Pt=some (.XN #[])->(H a=none\/∃o xs,H a=some (.Xs o<|.lst xs))->aY (GE Pt K) H a (ns.map V.int)->sp [.ref a] H (λv _=>v=.bl true) λ_ _ _=>False)
 (ba:∀H e s',CX [] H I (λ_ _ _=>False) e s'->False):
 codeAny (model P w) callerA (.call (.ref fa) ⟨[.ref a],[]⟩) (λr s'=>r=.ok (.ret<|.bool true)/\OldK I.heap s'.heap/\s'.os=I.os/\AllBare s'.gens) I:=by
 have rv:=qY hi;have a2:=hi.length;have hP:=KX Pt _ TI.tab;have U:a≠Pt:=λz=>by rw[z,hP] at p;cases p
 have core:∀H:Hp,H Pt=some (.XN #[])->(∀b,b≠a->b≠Pt->H b=none)->(H a=none\/∃o xs,H a=some (.Xs o<|.lst xs))->aY (GE Pt K) H a (ns.map V.int)->(∀u,H a=some u->xu P w H I.heap a u)->(H a≠none->K.lookup a=none)->
  codeAny (model P w) callerA (.call (.ref fa) ⟨[.ref a],[]⟩) (λr s'=>r=.ok (.ret<|.bool true)/\OldK I.heap s'.heap/\s'.os=I.os/\AllBare s'.gens) I:=by
  intro H HP Hn HO HS a3 bb;have a4:fF P w H I.heap:=λb u e=>by
   by_cases c:b=a
   .subst c;exact a3 u e
   .by_cases d:b=Pt
    .subst d;rw[HP] at e;cases e;exact hP
    .rw[Hn b c d] at e;cases e
  have J:∀{b:Addr} {o:Obj},I.heap.get? b=some o->H b=none->(rm I.heap H).get? b=some o:=λe n=>Na e n;have bc:∀{b:Addr} {o:Obj} {t:Array DictEntry} {C:Nat},I.heap.get? b=some o->o.data=.dict t C->H b=none:=λ{b o t C} e d=>by
   refine Hn b (λz=>?_) λz=>?_
   .subst z;rw[p] at e;cases e;have d':Data.seq vs.toArray _=Data.dict t C:=d;cases d'
   .subst z;rw[hP] at e;cases e;have d':Data.fields _=Data.dict t C:=d;cases d'
  have g:∀{b:Addr} {m:WM},I.heap.Ns b m->(rm I.heap H).Ns b m:=λ{b m} ψ=>(by obtain⟨o,t,C,e,d,r⟩:=ψ;exact {o,t,C,J e<|bc e d,d,r});have a5:(GE Pt K).In (rm I.heap H):=λb o e=>by
   obtain⟨n,e⟩:=oN e;refine J (KX b o e) ?_;by_cases c:b=a
   .subst c;cases q:H b with|none=>rfl|some u=>rw[bb (by rw[q];simp)] at e;cases e
   .exact Hn b c n
  have hM:Mod (GE Pt K) mg (rm I.heap H):={a5,g T,{mb,g hb,al},let ⟨mc,h1,h2⟩:=a1;⟨mc,g h1,h2⟩};have e0:F4 P w (GE Pt K) mg (rm I.heap H) callerA [] I H:={rfl,hM,λb o e=>Nb e,Nat.le_of_eq<|M9 _ _,trivial,λb hb=>absurd (show b∈([]:List Addr) from hb) (by simp),a4,.of_eq hg,ay};refine codeAny_mono ((F _ a5<|g T).run callerA [] I H {[.ref a],[]} [.ref a] [.ref a] _ _ hr e0 (l I<|.ref a) (.cons rfl .nil)<|aL H HP HO HS) λr s' h=>?_;cases r with
  |error e=>exact(ba H e s' h).elim
  |ok fl=>
   cases fl with
   |next=>exact False.elim h
   |brk=>exact False.elim h
   |cont=>exact False.elim h
   |ret u=>
    obtain⟨v,H',os,bare,un,j,r',q,_⟩:=h;have q':=q;subst q';obtain rfl:u=Value.bool true:=r';obtain⟨more,em⟩:=un.Xv Pt _ HP;have gP:s'.heap.get? Pt=some (PySem.W.tabObj<|#[]++more):=j Pt _ em;have kp:∀b o,b≠Pt->I.heap.get? b=some o->s'.heap.get? b=some o:=λb o n e=>by
     have ac:=λz=>un.keep b o e z (by intro z;exact absurd (show b∈([]:List Addr) from z) (by simp)) (by simp);by_cases c:b=a
     .subst c;rcases HO with z|⟨ob,xs,z⟩
      .exact ac z
      .have z2:=un.Xp _ _ _ z;obtain⟨e1,_⟩:=a4 _ _ z;obtain⟨e2,_⟩:=j _ _ z2;rw[e] at e1;cases e1;exact e2
     .exact ac<|Hn b c n
    obtain⟨c,hc⟩:=TI.hd;refine{rfl,{λb o e=>?_,λb o e=>?_},os,bare}
    .by_cases n:b=Pt
     .subst n;rw[hP] at e;cases e;exact .inr<|.inl {((hc _ KX).tab hP).isCodeTable,rfl,#[],more,rfl,gP}
     .exact .inl<|kp b o n e
    .by_cases n:b=Pt
     .subst n;exact{_,gP}
     .exact{o,kp b o n e}
 cases hk:K.lookup a with
 |some o=>
  have e:=KX a o hk;rw[p] at e;cases e;refine core (λb=>if b=Pt then some (.XN #[]) else none) (AC rfl) (λb _ n=>AB n) (.inl<|AB U) (.inr {_,vs.toArray,_,(xp U K).trans hk,rfl,rfl,rfl,by rw[Ar,a2];exact hl,by simpa using rv}) (λu z=>by have z':=(AB U).symm.trans z;cases z') λz=>absurd (AB U) z
 |none=>
  refine core (λb=>if b=a then some (.Xs {cls:=.type "list",data:=.seq vs.toArray}<|.lst<|ns.map V.int) else if b=Pt then some (.XN #[]) else none) ((AB<|AG U).trans<|AC rfl) (λb n1 n2=>(AB n1).trans<|AB n2) (.inr {_,_,AC rfl}) (.inl<|.inr {_,AC rfl}) (λu z=>?_) λ_=>hk;have z':=(AC rfl).symm.trans z;cases z';exact{p,by rw[Ac];exact hl,vs,_,rv,p}
def Yt{l:PySem.W.OpenLaw}{k:Nat}{q:W2}{loose:WS}{XP:(WM)->W4->Prop}{Y5:List Addr}{N t:Nat}{d:DefRec}{K:Params->Af}{CX:yY}{sp:Af->Addr->Sp}
 (hn:l.most=some n) (p:n<=sizeLine) (r:d.params.defaults=[]) (hr:aR k callerA) (ek:∀P,Y5=(K P).map (·.1)) (C:0<t)
 (F:∀(w:W3) (mg:WM) (fa:Addr) (h:W4),(K w.params).In h->h.Ns mainGlobals mg->mg d.name=some (.ref fa)->
  ∃Pt:Addr,J6 (K w.params) Pt/\∃fd:FuncData,(∀(s:W1) (u:W0),BindsTo s fd ⟨[u],[]⟩ [(x,u)])/\
   ∀base:W4,(GE Pt<|K w.params).In base->base.Ns mainGlobals mg->bV l.prog w (GE Pt<|K w.params) mg base CX k fa fd [x] (sp (GE Pt<|K w.params) Pt))
 (a1:∀(K:Af) (Pt:Addr) (H:Hp) (a:Addr) (ns:WV),ns.length<=n->H Pt=some (.XN #[])->(H a=none\/∃o xs,H a=some (.Xs o<|.lst xs))->aY K H a (ns.map V.int)->sp K Pt [.ref a] H (λv _=>v=.bl true) λ_ _ _=>False)
 (a2:∀(H:Hp) (s:W1) (e:W0) (s':W1),CX [] H s (λ_ _ _=>False) e s'->False):
 PySem.W.WalkX q loose XP (PySem.W.X.obsZ Y5) (PySem.W.X.valZ K N t) l.row.toRowW d [] (λf vs=>PySem.call f vs):=by
 refine XO hn r ek C λw a4 U mg mb fa o pm cd a5 a vs ns G KX tk ho hd ac a3 j J I hg=>?_;obtain⟨Pt,TI,fd,hb,hF⟩:=F w mg fa _ KX G.T.g a3;exact TY KX TI G.T.g G.T.b G.T.builtins G.T.nolimit hg tk j J (AS I p) hr hF hb (λH hP hO hS=>a1 _ Pt H a ns I hP hO hS) λH e s'=>a2 H U e s'
def X8 :∀(K:Af) (Pt:Addr) (H:Hp) (a:Addr) (ns:WV),ns.length<=63->H Pt=some (.XN #[])->(H a=none\/∃o xs,H a=some (.Xs o<|.lst xs))->aY K H a (ns.map V.int)->XQ q K Pt [.ref a] H (λv _=>v=.bl true) λ_ _ _=>False:=by
 intro K Pt H a ns I J U g;refine{a,ns,rfl,?_,I,J,λ_=>rfl};rcases g with(h|⟨o,h⟩)|h
 .rcases U with z|⟨o,xs,z⟩<;>rw[h] at z<;>cases z
 .exact .inl {(o),h}
 .exact .inr h
structure Xn(K:Af)(x:Str)(st:Stmt)(Pt:Addr):Prop where
 ex:∃(f:Addr) (kV hQ pm:W0) (an:Option Addr) (eW ct:W0),PySem.W.nsIn K mainGlobals x=some (some<|.ref f)/\HG K x x st f (PySem.W.fnOf x x (w4 st) (x8 st) (qy st) .none kV hQ pm an eW ct) Pt
def Xn.use{K:Af}(D:Xn K x st Pt)(X:K.In h)(G:h.Ns mainGlobals mg)
 (I:∀(kV hQ pm:W0) (an:Option Addr) (eW ct:W0) (us:WP),us.length=ps.length->bindArgs (PySem.W.fnOf x x (w4 st) (x8 st) (qy st) .none kV hQ pm an eW ct) ⟨us,[]⟩=pure (ps.zip us)):
 ∃f fd,HG K x x st f fd Pt/\eU K fd ps []/\mg x=some (.ref f):=by
 obtain⟨f,kV,hQ,pm,an,eW,ct,a,F⟩:=D.ex;exact{f,_,F,.all<|I kV hQ pm an eW ct,Bw X G a}
section
variable {hE:St}
def qx.Zw(M:WS)(I:qx X pins σ H s)(J:M.length=X.N.length)(hs:hE.length=σ.length)(h:∀(j:Nat) v,hE[j]?=some (some v)->σ[j]?=some (some v)/\X.N[j]?=M[j]?):qx {X with N:=M} pins hE H s:=by obtain⟨m,U,l⟩:=I.loc;have o:=I.ok;exact {ok:={(o.mod),o.kind,o.glob,o.blt,o.above,o.inj,o.has,o.YW,o.hd,o.frames,o.Y3,o.Y9,o.bs,o.YA,o.XE,o.XF,o.Xm,o.YL},os:=I.os,bare:=I.bare,base:=I.base,cell:=I.cell,free:=I.free,On:=I.On,pin:=I.pin,GT:=I.GT,tk:=I.tk,len:=(by rw[hs,I.len];exact J.symm),loc:={m,U,λi x v g p r=>by obtain⟨a,b⟩:=h i v p;exact l i x v (b.trans g) a r}}
def uX(h:(σ.set i none)[j]?=some (some v)):j≠i/\σ[j]?=some (some v):=by
 by_cases c:i=j
 .subst c;rw[List.getElem?_set_self'] at h;cases e:σ[i]? with|none=>rw[e] at h;cases h|some o=>rw[e] at h;cases h
 .rw[AY c] at h;exact{AG c,h}
def TZ(i:Nat)(t:TS):TS:=λD σ H=>t {nx:=λhE H'=>D.nx (hE.set i none) H',rt:=D.rt,bk:=λhE H'=>D.bk (hE.set i none) H',ct:=λhE H'=>D.ct (hE.set i none) H'} (σ.set i none) H
def T3{t:TS}(h:PS {X with N:=X.N.set i x} st t):PS X st (TZ i t):=by
 intro g s p H D I z;have C:qx {X with N:=X.N.set i x} g (p.set i none) H s:=I.Zw _ (by rw[Bq]) (by rw[Bq]) λj v e=>by obtain⟨a,b⟩:=uX e;exact{b,by rw[AY<|AG a]}
 refine aM (h g s _ H _ C z) λf o q=>?_;have back:∀{U:St} {l:Hp},qx {X with N:=X.N.set i x} g U l o->qx X g (U.set i none) l o:=λ{U l} J=>
  qx.Zw (X:={X with N:=X.N.set i x}) X.N J (by rw[Bq]) (by rw[Bq]) λj v e=>by obtain⟨a,b⟩:=uX e;exact{b,by rw[AY<|AG a]}
 cases f with
 |next=>obtain⟨U,l,J,q⟩:=q;exact{_,l,back J,q}
 |brk=>obtain⟨U,l,J,q⟩:=q;exact{_,l,back J,q}
 |cont=>obtain⟨U,l,J,q⟩:=q;exact{_,l,back J,q}
 |ret u=>obtain⟨v,U,l,J,r,q⟩:=q;exact{v,_,l,back J,r,q}
def T4(i j k:Nat)(ta:TA):TS:=λD σ H=>ta σ H λvs H1=>∃u v w,vs=[u,v,w]/\D.nx (((σ.set i<|some u).set j<|some v).set k<|some w) H1
def T5{k:Nat}{y z:Str}{a b:Expr}{ta:TA}{px C pt:Pos}{kt k2 U}(hc:X.calm=true)(hN:X.N.Nodup)(hi:X.N[i]?=some x)(hj:X.N[j]?=some y)(hk:X.N[k]?=some z)(T:i≠j)(a1:i≠k)(a2:j≠k)
 (hx:X.env.scope.names.lookup x=some .local) (hy:X.env.scope.names.lookup y=some .local) (hz:X.env.scope.names.lookup z=some .local) (ha:PA X [a,b,c] ta)
 (hw:swappedStores [.Tuple [.Name x px,.Name y py,.Name z C] kt pt] (.Tuple [a,b,c] k2 U) X.env=pure (some [x,y,z]))
 (hs:swapsWithSole [.Tuple [.Name x px,.Name y py,.Name z C] kt pt] (.Tuple [a,b,c] k2 U) pos.line X.env=pure false:=by rfl):
 PS X (.Assign [.Tuple [.Name x px,.Name y py,.Name z C] kt pt] (.Tuple [a,b,c] k2 U) pos) (T4 i j k ta):=by
 intro J s σ H D I h;rw[exec_Assign_arm];refine Aa<|wpAny_standAt ?_;rw[hs];refine Aa<|Aj ?_;rw[AB (by decide)];refine Aa<|Tuple_<|aM (ha _ J s σ H _ I h) λus g ψ=>?_;obtain⟨vs,H1,I1,r1,q1⟩:=ψ;obtain⟨v,w,v3,e1,q1⟩:=q1;subst e1;obtain⟨l,r,t,rfl,rv,a3,r3⟩:∃l r t,us=[l,r,t]/\zr v l/\zr w r/\zr v3 t:=by
  cases r1 with
  |cons p q=>
   cases q with
   |cons p' q'=>
    cases q' with
    |cons a4 a5=>
     cases a5;exact{_,_,_,rfl,p,p',a4}
 refine Bt ?_ (by show 3<=sizeLine;decide);have I2:qx X J σ H1 {g with heap:=g.heap.push {cls:=.type "tuple",data:=.seq [l,r,t].toArray}}:=I1.kept (t':=g.toks) λb o e=>vb _ e;rw[hw];refine Aa<|Aj ?_;show _w X (do rule "assign.swapped-stores";let items <-unpackItems (.ref g.heap.objs.size) 3 none;assignInOrder [λv=>bindName X.env z v,λv=>bindName X.env y v,λv=>bindName X.env x v] items.reverse;pure Flow.next) _ _ _;refine Aa<|BD<|Aa<|unpackItems_tuple (items:=#[l,r,t]) (I.ok.hd hc) (IsTup.new g.heap _) λh' ac=>?_;have I3:=I2.kept (h':=h') (t':=g.toks) λb o e=>ac b o (A3<|wh e) e;refine Aa<|assignInOrder_cons<|wpAny_bindName<|bB I3 hN hk (.inl hz) r3 (λs2 I4=>?_)<|.inr hz;refine assignInOrder_cons<|wpAny_bindName<|bB I4 hN hj (.inl hy) a3 (λs3 I5=>?_)<|.inr hy;refine assignInOrder_cons<|wpAny_bindName<|bB I5 hN hi (.inl hx) rv (λs4 I6=>assignInOrder_nil<|Aj ?_)<|.inr hx;rw[Ej _ _<|AG T,Ej _ _<|AG a1,Ej _ _<|AG a2] at I6;exact{_,H1,I6,q1}
end
def i6:ji->Nat->ji
 |[],_=>[]
 |_::r,0=>none::r
 |o::r,i+1=>o::i6 r i
theorem uo:∀(τ:ji) (i:Nat),i6 τ i=τ.set i none
 |[],_=>rfl
 |_::_,0=>rfl
 |o::r,i+1=>by unfold i6;rw[uo r i];rfl
def vR(i:Nat)(t:bD)(D:xb)(τ:ji)(L:qm):Prop:=t {nx:=λI L'=>D.nx (i6 I i) L',rt:=D.rt,bk:=λI L'=>D.bk (i6 I i) L',ct:=λI L'=>D.ct (i6 I i) L'} (i6 τ i) L
def xr.forget(h:xr G H σ τ)(i:Nat):xr G H (σ.set i none) (i6 τ i):=by
 rw[uo];refine{by rw[Bq,Bq];exact h.len,λj y e=>?_};by_cases c:i=j
 .subst c;rw[List.getElem?_set_self'] at e;cases I:τ[i]? with|none=>rw[I] at e;cases e|some o=>rw[I] at e;cases e
 .rw[AY c] at e ⊢;exact h.get j y e
def nE(x:Str){t:bD}(h:QS {X with N:=X.N.set i x} st t):QS X st (vR i t):=
 E4 (T3 h) λD T H p L D3 r C z k=>{i6 p i,L,_,r.forget i,C,z,
  ⟨λU g j l o I J q=>k.nx _ g _ l o (I.forget i) J q,k.rt,λU g j l o I J q=>k.bk _ g _ l o (I.forget i) J q,λU g j l o I J q=>k.ct _ g _ l o (I.forget i) J q⟩}
def T6(i j k:Nat)(ta:fH)(D:xb)(τ:ji)(L:qm):Prop:=ta τ L λys L'=>match ys with
 |[u,v,w]=>D.nx (bK (bK (bK τ i u) j v) k w) L'
 |_=>False
def T7{k:Nat}{y z:Str}{a b:Expr}{tr:fH}{px J pt:Pos}{k2:Nat}{I:Pos}(hc:X.calm=true)(hN:X.N.Nodup)(hi:X.N[i]?=some x)(hj:X.N[j]?=some y)(hk:X.N[k]?=some z)(U:i≠j)(g:i≠k)(l:j≠k)
 (lx:X.env.scope.names.lookup x=some .local) (ly:X.env.scope.names.lookup y=some .local) (lz:X.env.scope.names.lookup z=some .local) (h:QA X [a,b,c] tr)
 (h1:swappedStores [.Tuple [.Name x px,.Name y py,.Name z J] kt pt] (.Tuple [a,b,c] k2 I) X.env=pure (some [x,y,z])) (h2:swapsWithSole [.Tuple [.Name x px,.Name y py,.Name z J] kt pt] (.Tuple [a,b,c] k2 I) pos.line X.env=pure false:=by rfl):
 QS X (.Assign [.Tuple [.Name x px,.Name y py,.Name z J] kt pt] (.Tuple [a,b,c] k2 I) pos) (T6 i j k tr):=E4 (T5 hc hN hi hj hk U g l lx ly lz h h1 h2) λD σ H C L D3 T rl z kk=>
 ⟨C,L,_,T,rl,z,λvs H1 ys L1 t1 o p r=>by
  split at r
  .rename_i u v w;obtain⟨x1,a1,rfl,r1,x2,a2,rfl,r2,x3,t,rfl,r3,e3⟩:=p;cases (show t=[] from e3);exact{x1,x2,x3,rfl,kk.nx _ H1 _ L1 t1 (show xr _ _ _ (bK (bK (bK C i u) j v) k w) by rw[wv,wv,wv];exact(((T.ts t1).set r1).set r2).set r3) o r}
  .exact r.elim⟩
def sE:bootBuiltins "min"=some (.builtin "min"):=by decide +kernel
def HH(x:Y)(lo hi:WX)(L:qm)(Q:YK):Prop:=match x with
 |.tup ys=>¬(HT ys.length 0 lo=0/\HT ys.length ys.length hi=ys.length)/\Q (.tup<|iy ys lo hi) L
 |_=>False
def J7(K:Af)(P:W2)(w:W3)(U:X.K=K:=by rfl)(g:X.prog=P:=by rfl)(hw:X.w=w:=by rfl):tM X (Gc ⟨K,P,w⟩ HH):=by
 subst U g hw;refine tM.imp OV λx lo J H Q ψ=>?_;obtain⟨y,L,Q3,j,l,z,k⟩:=ψ;cases y with
 |tup o=>
  obtain⟨a,t,e,sq,r⟩:=j;obtain⟨C,T⟩:=z;exact{a,t,e,sq,by rw[<-r.length];exact C,λp I=>k _ _ (.tup<|iy o lo J) L (EX I) (l.skip I) {p,_,rfl,.inl<|.inl zu,(sS r lo J).ts<|EX I} T}
 |_=>exact z.elim
def xB{a:Addr}{keep:qm->Prop}(h:∀H L,j7 H₀ H->zv G H L->keep L->∃xs,dZ G.K H a xs/\va G H ys xs):hZ G H₀ (GK G.K a) ys keep where
 go:=λi H L t I J U=>by
  obtain⟨xs,sq,r⟩:=h H L t I J;have:i<xs.length:=by rw[<-r.length];exact U
  exact{xs,xs[i],sq,Ag this}
 Yu:=λi H L x o y t I J g ψ=>by obtain⟨e,f⟩:=ψ;subst e;obtain⟨xs,sq,r⟩:=h _ L t I J;obtain⟨p,j,l⟩:=r.get g;have:=f xs sq;rw[j] at this;cases this;exact{EW _,I,l}
 stop:=λH L t I J=>by obtain⟨xs,sq,r⟩:=h H L t I J;exact{xs,sq,by rw[r.length];exact Am _}
def T9(h:QE X e te):QI X tg e (Qn te):=PI.Xk (NX h) λσ H R j L R3 l o z k=>by
 refine{j,L,_,l,o,z,λv p y C T I J U=>?_};cases y with
 |tup ys=>
  obtain⟨a,g,e,sq,r⟩:=J;exact{a,e,{(g),sq},k _ p ys (λ_=>True) C T I (xB λH L t _ _=>{g,dZ.ts sq t,r.ts t}) U}
 |_=>exact U.elim
def Ua{k:Nat}(I:aR k A):A.depth+3<recursionLimit:=by have:=I.dp;omega
abbrev XD:Str:="_law_order.<locals>.<lambda>"
def ss(Pt:Addr)(I:vt):bD:=(j8 (jt (au zn)<|qo 2)
 (j8 (u7 (xE<|qc 0) (cW 2<|jb (qo 3)<|jb (qo 4) bL) (j8 (jt (zx ai (jq I<|qh (qc 1)<|cH (qc 3)<|v9 39373)<|v9 40)<|qo 5)
 (gh (ww (fE (yB<|iB true<|qc 4)<|gH (gA 4)<|v9 3) (jt (zx ku (zx ku (qc 5)<|v9 1)<|mJ Ez<|qh (zx aK (qc 2)<|eh 4 1)<|qh (zx aK (qc 2)<|eh 4 2) zn)<|qo 5) cT)
 (vv<|iC x9 (qc 2)<|bH<|qc 5))))
 (cL<|J5 Pt XD 2<|ue<|gA 0)))
def pI(ks:List<|Xd):Prop:=∀(p:Nat) (e:Bool) (i j:Nat),ks[p]?=some (some<|.nd e i j)->i<p/\j<p
def Zz(ks:List<|Xd)(rks:WV):Prop:=∀(p:Nat) (e:Bool) (i j:Nat),p<rks.length->ks[p]?=some (some<|.nd e i j)->rks.getD i 0<rks.getD p 0/\rks.getD j 0<rks.getD p 0
def oC{r:Int}(h:i<rks.length):(rks++[r]).getD i 0=rks.getD i 0:=by rw[Bm,Bm,Az h]
def Ub{r:Int}:(rks++[r]).getD rks.length 0=r:=by rw[Bm,AF<|Am _,Ds];rfl
def Zz.snoc{ks:List<|Xd}{r:Int}{k:Xd}(ok:pI ks)(h:Zz ks rks)(U:ks[rks.length]?=some k)(g:∀e i j,k=some (.nd e i j)->rks.getD i 0<r/\rks.getD j 0<r):Zz ks (rks++[r]):=by
 intro p e i j I J;obtain⟨l,o⟩:=ok p e i j J;rw[Ad] at I;have I:p<rks.length+1:=I;rw[oC (show i<rks.length by lia),oC (show j<rks.length by lia)];by_cases c:p<rks.length
 .rw[oC c];exact h p e i j c J
 .have:p=rks.length:=by lia
  subst this;rw[Ub];exact g e i j<|A2<|U.symm.trans J
def gi(ks:List<|Xd)(qs:WR):Prop:=qs.Pairwise λx y=>∀e i j,ks[x]?=some (some<|.nd e i j)->y≠i/\y≠j
def Uc{ks:List<|Xd}(ok:pI ks)(h:Zz ks rks)(I:rks.length=ks.length)(hw:qs.Pairwise λi j=>rks.getD i 0*1000000+(i:Int)<=rks.getD j 0*1000000+(j:Int)):gi ks qs:=by refine hw.imp λ{x y} z e i j ex=>?_;obtain⟨J,U⟩:=ok x e i j ex;obtain⟨g,l⟩:=h x e i j (by rw[I];exact zf ex) ex;exact{λc=>by subst c;lia,λc=>by subst c;lia}
inductive iP(Pt:Addr)(ys:_x)(L:qm)(Q:YK):Prop
 |mk:∀a,∀ks:List (Xd),∀s:Int,(ys=[.ref a,.int s])->(L a=some (.lst<|jz ks))->(pI ks)->(ks.length<=127)->(L Pt=some (.tb XD))->(∀D qs,L D=none->qs.Perm (List.range ks.length)->gi ks qs->Q (.ref D) (qj L D<|.lst<|nY qs))->iP Pt ys L Q
def uB(h:i<rks.length):(rks.map Y.int)[i]?=some (.int<|rks.getD i 0):=by rw[Al,Bm,Ag h];rfl
def Ud :_f (iP Pt) (ss Pt cr) 6:=by
 rintro ys L Q ⟨a,ks,s,rfl,ha,ok,hz,hP,q⟩;have big:=a_;intro J I;have s0:qi L (qj L J<|.lst []):=By I;have C:=w9 ha I;refine xg (s0 _ _ ha) λkeep kp=>aV {λi τ U=>∃rks:WV,∃c3 c4 c5,τ=[some<|Y.ref a,some<|.int s,some<|Y.ref J,c3,c4,c5]/\U=qj L J (.lst<|rks.map Y.int)/\rks.length=i/\Zz ks rks,{[],_,_,_,rfl,rfl,rfl,λp _ _ _ T=>by cases T},?_,?_,?_}
 .rintro i τ U ⟨rks,c3,c4,c5,rfl,rfl,_⟩;exact kp _ (by rw[qf C,qf C])
 .rintro i y τ U hy ⟨rks,c3,c4,c5,rfl,rfl,g,l⟩;obtain⟨z,ez,rfl⟩:=iJ hy;rw[Al] at ez;obtain⟨k,ek,rfl⟩:=Aq.mp ez;have hi:=zf ek;refine{s,i,39373,rfl,by exact AQ _,by omega,by decide,by decide,λv h0 h1=>?_};have m0:(0:Int)<=v % 40:=DJ _ (by decide);have a3:(rks.map Y.int).length=i:=by rw[Ac];exact g
  refine{show(0:Int)<40 by decide,λa4 U=>∃r:Int,a4=[some<|Y.ref a,some<|.int s,some<|Y.ref J,some<|.int (i:Nat),some<|jF k,some<|.int r]/\U=qj L J (.lst<|rks.map Y.int)/\∀e i j,k=some (.nd e i j)->rks.getD i 0<r/\rks.getD j 0<r,?_,?_}
  .cases k with
   |none=>exact{v % 40,rfl,rfl,λe i j z=>by cases z}
   |some k=>
    cases k with
    |lf t n=>exact{v % 40,rfl,rfl,λe i j z=>by cases z}
    |nd e p1 p2=>
     obtain⟨l1,l2⟩:=ok _ _ _ _ ek;have g1:=xi<|uB (rks:=rks) (i:=p1) (by lia);have g2:=xi<|uB (rks:=rks) (i:=p2) (by lia);refine qa q9<|qg g1 ?_;refine qa q9<|qg g2 ?_;refine{v % 40+1+max (rks.getD p1 0) (rks.getD p2 0),rfl,rfl,λe' i' j' z=>?_};cases z;have a1:rks.getD p1 0<=max (rks.getD p1 0) (rks.getD p2 0):=Int.le_max_left ..;have a2:rks.getD p2 0<=max (rks.getD p1 0) (rks.getD p2 0):=Int.le_max_right ..;constructor<;>lia
  .rintro a4 U ⟨r,rfl,rfl,hr⟩;refine qa q9 (qk q9 {by rw[a3];exact big _ (by lia),?_});refine{_,EV _,rks++[r],_,_,_,rfl,?_,by rw[Ad,g];rfl,Zz.snoc ok l (by rw[g];exact ek) hr};rw[kc,Av];rfl
 .rintro τ U ⟨rks,c3,c4,c5,rfl,rfl,g,l⟩;rw[gC,Ac] at g;have s1:qi L (qj L J<|.lst<|rks.map Y.int):=By I;refine qa (s1 _ _ ha) ?_;have lo:(jz ks).length=ks.length:=Ac ..;refine{{AQ _,by rw[lo];lia},λp T=>qk q9 ?_};have a5:=w9 q9 T;have ac:=w9 (s1 _ _ hP) T;have al:=w9 hP I;refine{ks.length,rks,J,by rw[BL,lo],rfl,(qf a5).trans q9,g,hz,(qf ac).trans<|(qf al).trans hP,λD qs hD pm pw=>?_};have ay:=vm hD;have aL:=vm ay;refine{qj L D<|.lst<|nY qs,λb o e=>?_,q D qs aL pm<|Uc ok l g pw};by_cases c:b=D
  .subst c;rw[q9] at e ⊢;exact e
  .rw[qf c] at e ⊢;rw[qf (λz=>by subst z;rw[vm T] at e;cases e),qf (λz=>by subst z;rw[I] at e;cases e)];exact e
def vE:RD "_law_name" kZ 0 ["_law_seed","_law_which","_law_letters","_law_size","_law_place","_law_base","_law_sign"] (λ_=>True):={_,λV B c _ _ _ _ _ _ _ J hN I=>(qb (aj (i:=2) hN rfl (Or.inr rfl) jd)<|qb (S_ 3 hN<|ql jf qd<|ql zw (qv 0) qd)<|qb (S_ 4 hN<|ql zw (ql kh (qv 0) qd)<|qv 3)<|qb (S_ 5 hN<|Rm jd<|jm<|fB ["_law_k"] (EZ (by rfl)) rfl (ky rfl B.bh<|jm qd) (o7 7) (λ_ _ _ _=>eQ) λ_ _ _ _=>(I_ (qv 2)<|ql zw (ql jf (ql kh (qv 0) qd)<|ql vY qd<|qv 7) qd))<|qb (zo (E_ I (ql zw (ql kh (qv 0) qd) qd) qd) (qe<|qu<|bu (vN _ _ _) (qv 5) gN<|cO<|ql jf qd<|ql zw (ql jf (qv 1)<|qv 0) qd) zg)<|qb (S_ 6 hN<|I_ (qv 2)<|ql zw (ql jf (ql jf (ql kh (qv 0) qd)<|ql vY qd<|qv 4)<|qv 1) qd)<|qe<|qu<|ql jf (ql jf (bu (vN _ _ _) (qv 5) gN<|cO<|qv 4)<|qv 6)<|bu (vN _ _ _) (qv 5) (cO<|ql jf (qv 4) qd)<|cO<|qv 3)}
def fW(i:Int):Nat:=97+(i % 26).toNat
def zB(i:Int):fG ("abcdefghijklmnopqrstuvwxyz" : Str).cps.toList (i % 26)=some (fW i):=by
 obtain⟨n,I⟩:∃n:Nat,i % 26=n:={(i % 26).toNat,by lia};have h:n<26:=by lia
 unfold fW;rw[I];have key:∀n,n<26->("abcdefghijklmnopqrstuvwxyz" : Str).cps.toList[n]?=some (97+n):=by decide +kernel
 exact xi<|key n h
def J8(i:Int):97<=fW i/\fW i<=122:=by unfold fW;lia
def eS(s:Int):WR:=(List.range 8).map λk:Nat=>fW<|s / 64+3*(k:Int)
def oI(s:Int):(eS s).length=8:=by unfold eS;simp
def nJ(s:Int):∀c∈eS s,97<=c/\c<=122:=λc I=>by obtain⟨k,_,rfl⟩:=A7.mp I;exact J8 _
def rO(s:Int):Nat:=(s / 8 % (1+s % 8)).toNat
def Y7(s:Int):Nat:=(1+s % 8).toNat
def J9(s:Int):rO s<Y7 s/\Y7 s<=8/\s / 8 % (1+s % 8)=(rO s:Int)/\1+s % 8=(Y7 s:Int):=by
 have h0:0<1+s % 8:=by lia
 have h1:0<=s / 8 % (1+s % 8):=DJ _ (by lia);have h2:s / 8 % (1+s % 8)<1+s % 8:=DY _ h0;unfold rO Y7;lia
def ax(s w:Int):WR:=
 if s / 64 % 3=1 then(eS s).take (1+(w+s) % 3).toNat
 else((eS s).take (rO s)++[fW<|s / 64+3*(rO s:Int)+w])++((eS s).drop<|rO s+1).take (Y7 s-(rO s+1))
def uw(s w:Int):fQ (o_<|ax s w):=by
 have I:(o_<|ax s w).length=(ax s w).length:=by rw[<-len_list];show(ax s w).toArray.toList.length=_;simp
 have J:(o_<|ax s w).cps.toList=ax s w:=by show(ax s w).toArray.toList=_;simp
 have U:=oI s;obtain⟨g,j,_,_⟩:=J9 s;refine{?_,?_,?_}
 .rw[I];unfold ax;split
  .rw[AV];omega
  .rw[Ad,Ad];simp;simp +arith only
 .rw[I];unfold ax;split
  .rw[AV];omega
  .rw[Ad,Ad,AV,AV,BV];simp;lia
 .rw[J];intro c h;unfold ax at h;split at h
  .exact nJ s c<|BB h
  .rcases Ak.mp h with h|h
   .rcases Ak.mp h with h|h
    .exact nJ s c<|BB h
    .rw[Ap.mp h];exact J8 _
   .exact nJ s c<|CW<|BB h
inductive iX(ys:_x)(L:qm)(Q:YK):Prop
 |mk:∀s w:Int,(ys=[.int s,.int w])->(Q (.str<|o_<|ax s w) L)->iX ys L Q
def Ue{m:Nat}(h:m<=n)(h2:n<=x.length):(Txt.slice x (some (m:Int))<|some (n:Int)).cps.toList=(x.cps.toList.drop m).take (n-m):=by have e:=qR x (some (m:Int))<|some (n:Int);rw[XA,XA,B3 h2,B3<|AS h h2] at e;exact e
def rA(h:n<=x.length):(Txt.slice x none<|some (n:Int)).cps.toList=x.cps.toList.take n:=by have e:=qR x none<|some (n:Int);rw[XA,X0,DR,Nat.sub_zero,B3 h] at e;exact e
def Uf:_f iX vE.1 7:=by
 rintro ys L Q ⟨s,w,rfl,q⟩;have j:0<1+s % 8:=by lia
 refine{(by decide:(0:Int)<8),{by decide,by decide},j,{by decide,by decide},?_};refine hU (m:=8) (λi zs=>zs=((List.range i).map λk:Nat=>Y.str {#[fW<|s / 64+3*(k:Int)]})) (by decide) rfl ?_ ?_
 .rintro i _ hi rfl;have I:=zB<|s / 64+3*(0+(i:Int));refine{{by decide,by decide},.inl {by decide,by decide},(by decide:(0:Int)<26),by decide +kernel,?_};walk_at "w";rw[I];refine{_,EV _,rfl,?_};rw[EM,Av,show(0:Int)+(i:Int)=(i:Int) by simp +arith only];rfl
 .rintro _ rfl p t;have e0:((List.range 8).map λk:Nat=>Y.str {#[fW<|s / 64+3*(k:Int)]})=((eS s).map λc=>({#[c]}:Str)).map Y.str:=by unfold eS;rw[BC,BC];rfl
  rw[e0];refine qk q9 {(eS s).map λc=>({#[c]}:Str),rfl,?_,?_}
  .have J:∀U:WR,((U.map λc=>({#[c]}:Str)).map (·.length)).sum=U.length:=λU=>by induction U with|nil=>rfl|cons c r ih=>rw[AA,AA,DC,ih,AK];exact Nat.add_comm _ _
   rw[J,oI];show 8+_*0<=_;rw[Nat.mul_zero];decide
  .have g:=Tf<|eS s;have l:(Txt.join ""<|(eS s).map λc=>({#[c]}:Str)).length=8:=by rw[<-len_list,g,oI]
   generalize Txt.join "" ((eS s).map λc=>({#[c]}:Str))=base at l g;obtain⟨p1,p2,o,C⟩:=J9 s;refine{{by decide,by decide},(by decide:(0:Int)<3),?_};refine zm (λc=>?_) λc=>?_
   .have e:1+(w+s) % 3=((1+(w+s) % 3).toNat:Int):=by lia
    refine{(by decide:(0:Int)<3),cZ (by lia),dX (By t) ?_};have es:=rA (x:=base) (n:=(1+(w+s) % 3).toNat) (by lia);have eq:Txt.slice base none (some<|1+(w+s) % 3)=o_ (ax s w):=by rw[e];refine(zY _).symm.trans ?_;rw[es,g];unfold ax;rw[AC c]
    rw[<-eq] at q;exact q
   .have I:=zB<|s / 64+3*(s / 8 % (1+s % 8))+w;refine{{by decide,by decide},.inl {by decide,by decide},(by decide:(0:Int)<26),by decide +kernel,?_};walk_at "w";rw[I];have T:=rA (x:=base) (n:=rO s) (by lia);have s2:=Ue (x:=base) (m:=rO s+1) (n:=Y7 s) (by assumption) (by lia);have l1:(Txt.slice base none<|some (rO s:Int)).length=rO s:=by rw[<-len_list,T,AV,len_list];lia
    have l2:(Txt.slice base (some ((rO s+1:Nat):Int))<|some (Y7 s:Int)).length<=8:=by rw[<-len_list,s2,AV];lia
    refine{cZ (by lia),?_};refine{cZ (by rw[o,l1];show rO s+1<=1000;lia),?_};refine{cZ (by lia),?_};have J:((rO s:Int)+1)=((rO s+1:Nat):Int):=by rfl
    have l3:(Txt.slice base none (some (rO s:Int))++(⟨#[fW<|s / 64+3*(s / 8 % (1+s % 8))+w]⟩:Str)).length=rO s+1:=by rw[PySem.Str.length_append,l1];rfl
    refine{cZ ?_,dX (By t) ?_}
    .rw[o] at l3 ⊢;rw[l3,J,C];lia
    .have eq:(Txt.slice base none (some (rO s:Int))++(⟨#[fW<|s / 64+3*(rO s:Int)+w]⟩:Str))++Txt.slice base (some ((rO s+1:Nat):Int)) (some (Y7 s:Int))=o_ (ax s w):=by
      refine(zY _).symm.trans ?_;have ca:∀a b:Str,(a++b).cps.toList=a.cps.toList++b.cps.toList:=λa b=>by show(a.cps++b.cps).toList=_;simp
      rw[ca,ca,T,s2,g];unfold ax;rw[AB c]
     rw[o,J,C,eq];exact q
def J'(t t':Bool)(n I:Str):Da.eq (oM<|.leaf t n) (oM<|.leaf t' I)=(decide (t=t')&&decide (n=I)):=by
 by_cases h:n=I
 .subst h;cases t<;>cases t'<;>simp[oM,Da.eq,Da.eqs,iD,kL]<;>decide +kernel
 .cases t<;>cases t'<;>simp[oM,Da.eq,Da.eqs,iD,kL,h]<;>decide +kernel
theorem kA{α β:Type}(f:α->β):∀(l:List α) (n:Nat),(l.map f).eraseIdx n=(l.eraseIdx n).map f
 |[],n=>by simp
 |_::_,0=>rfl
 |x::r,n+1=>by rw[AA,CF,CF,AA,kA f r n]
def aa(a:jn)(b:Y)(r:List<|jn×Y)(k:jn):bA ((a,b)::r) k=if a=k then some b else bA r k:=by
 unfold bA;rw[BR];by_cases h:a=k
 .rw[AC h,show decide ((a,b).1=k)=true from AD h];rfl
 .rw[AB h,show decide ((a,b).1=k)=false from Aw h]
theorem uO(k I:jn)(y:Y):∀kvs:List (jn×Y),bA (kvs.map λJ=>if J.1=k then(J.1,y) else J) I=if I=k then(bA kvs I).map (λ_=>y) else bA kvs I
 |[]=>by rw[Do];split<;>rfl
 |(a,b)::r=>by
  have U:=uO k I y r;rw[AA,aa];by_cases h:a=k
  .rw[AC<|show(a,b).1=k from h,aa,U];by_cases h2:I=k
   .rw[AC h2,AC h2,AC<|h.trans h2.symm,AC<|h.trans h2.symm];rfl
   .rw[AB h2,AB h2,AB λz=>h2<|z.symm.trans h,AB λz=>h2<|z.symm.trans h]
  .rw[AB<|show ¬(a,b).1=k from h,aa,U];by_cases h2:I=k
   .rw[AC h2,AC h2,AB λz=>h<|z.trans h2,AB λz=>h<|z.trans h2]
   .rw[AB h2,AB h2]
theorem vW(k I:jn)(y:Y):∀kvs:List (jn×Y),bA (kvs++[(k,y)]) I=(bA kvs I).or (if k=I then some y else none)
 |[]=>by rw[Di,aa];have:bA [] I=none:=rfl;rw[this];split<;>rfl
 |(a,b)::r=>by rw[List.cons_append,aa,aa,vW k I y r];split<;>rfl
theorem vC(k:jn):∀kvs:List (jn×Y),(kvs.any λI=>decide<|I.1=k)=(bA kvs k).isSome
 |[]=>rfl
 |(a,b)::r=>by
  rw[Cz,aa,vC k r];by_cases h:a=k
  .rw[AC h,show decide ((a,b).1=k)=true from AD h];rfl
  .rw[AB h,show decide ((a,b).1=k)=false from Aw h];rfl
def Ug(kvs:List<|jn×Y)(k I:jn)(y:Y):bA (pY kvs k y) I=if I=k then some y else bA kvs I:=by
 unfold pY;rw[vC];cases e:bA kvs k with
 |some v=>
  rw[AC<|show(some v).isSome=true from rfl,uO];by_cases h:I=k
  .rw[AC h,AC h,h,e];rfl
  .rw[AB h,AB h]
 |none=>
  rw[AB (by simp),vW];by_cases h:I=k
  .rw[AC h,h,e,AC rfl];rfl
  .rw[AB h,AB λz=>h z.symm];cases bA kvs I<;>rfl
def Uh(kvs:List<|jn×Y)(k:jn)(y:Y):(pY kvs k y).length<=kvs.length+1:=by
 unfold pY;split
 .rw[Ac];omega
 .rw[Ad];simp
def pQ(I:vt)(p1:vt):bD:=(j8 (jt JQ<|qo 5)
 (j8 (jt (au zn)<|qo 6)
 (j8 (u7 (dz<|jq I<|cH (qc 0)<|qc 3) (qo 7) (gh (ww (fE (yB<|qc 4)<|gH (zx ai (jq p1<|qh (qc 3)<|cH (qc 7)<|v9 40692)<|v9 3)<|v9 0) (vv<|iC x9 (qc 6)<|bH<|yC .GM) cT)
 (j8 (JR (qc 5) (qc 7)<|gA 6)
 (j8 (jt (zx aK (qc 0)<|qc 7)<|qo 8)
 (gh (ww (fE (yB<|iB true<|qc 8)<|gH (gA 8)<|v9 3) (jt (ju<|qh (eh 8 0)<|qh (jI (qc 5)<|eh 8 1)<|qh (jI (qc 5)<|eh 8 2) zn)<|qo 8) cT)
 (vv<|iC x9 (qc 6)<|bH<|qc 8))))))
 (j8 (vR 7<|jt (mJ aI<|qh (c_ 2 (dz<|qc 1) (cW 2<|jb (qo 9)<|jb (qo 10) bL) F7<|ju<|qh (mJ FK<|qh (jI (qc 5)<|qc 9)<|qh (jI (qc 5)<|qc 10) zn)<|qh (mJ Ez<|qh (jI (qc 5)<|qc 9)<|qh (jI (qc 5)<|qc 10) zn) zn) zn)<|qo 1)
 (j8 (vR 7<|jt (mJ aI<|qh (c_ 2 (dz<|qc 2) (cW 2<|jb (qo 9)<|jb (qo 10) bL) F7<|ju<|qh (jI (qc 5)<|qc 9)<|qh (jI (qc 5)<|qc 10) zn) zn)<|qo 2)
 (cL<|ju<|qh (zx ku (qc 6)<|c_ 1 (fM<|qh (mJ Hy<|bH<|qc 4) zn) (qo 9) F7<|yC .GM)<|cH (qc 1)<|qc 2))))))
def nQ(f:WY):Xd->Xd
 |some (.nd e i j)=>some<|.nd e (f i)<|f j
 |k=>k
theorem yT{f g:WY}:∀{k:Xd},(∀e i j,k=some (.nd e i j)->f i=g i/\f j=g j)->nQ f k=nQ g k
 |none,_=>rfl
 |some (.lf _ _),_=>rfl
 |some (.nd e i j),h=>by obtain⟨a,b⟩:=h e i j rfl;show some (Kn.nd e (f i)<|f j)=some (Kn.nd e (g i)<|g j);rw[a,b]
structure tL(ks:List<|Xd)(ps:WR)(f:WY)(wd:List<|Xd):Prop where
 at_:∀p∈ps,∀k,ks[p]?=some k->wd[f p]?=some (nQ f k)
 inj:∀p∈ps,∀q∈ps,f p=f q->p=q
 only:∀x k,wd[x]?=some (some k)->∃p∈ps,x=f p
 ok:pI wd
def tL.nil(ks:List<|Xd)(f:WY):tL ks [] f []:={λp I=>(Bc I).elim,λp I=>(Bc I).elim,λx k h=>(by simp at h),λp e i j h=>(by simp at h)}
def pI.gap(h:pI wd):pI (wd++[none]):=by
 intro p e i j I;by_cases c:p<wd.length
 .rw[Az c] at I;exact h p e i j I
 .rw[AF<|Fx] at I;cases J:p-wd.length with|zero=>rw[J] at I;cases I|succ m=>rw[J] at I;cases I
theorem tL.gap{ks:List<|Xd}{ps:WR}{f:WY}(h:tL ks ps f wd):tL ks ps f (wd++[none]):=by
 refine{λp U k g=>jU<|h.at_ p U k g,h.inj,λx k I=>?_,h.ok.gap};by_cases c:x<wd.length
 .rw[Az c] at I;exact h.only x k I
 .rw[AF (by lia)] at I;cases J:x-wd.length with|zero=>rw[J] at I;cases I|succ m=>rw[J] at I;cases I
def tL.lt{ks:List<|Xd}{ps:WR}{f:WY}(h:tL ks ps f wd){p:Nat}(I:p∈ps)(J:p<ks.length):f p<wd.length:=zf<|h.at_ p I _<|Ag J
def tL.step{ks:List<|Xd}{ps:WR}{f:WY}(h:tL ks ps f wd)(r:∀p∈ps,p<ks.length){p:Nat}{k:Xd}(C:p∉ps)(T:ks[p]?=some k)(o:∀x∈ps,∀e i j,ks[x]?=some (some<|.nd e i j)->i∈ps/\j∈ps)(J:∀e i j,k=some (.nd e i j)->i∈ps/\j∈ps):
 tL ks (ps++[p]) (λx=>if x=p then wd.length else f x) (wd++[nQ f k]):=by
 have old:∀x∈ps,(if x=p then wd.length else f x)=f x:=λx I=>AB λ(c:x=p)=>C<|c▸I;have Zw:∀l,(∀e i j,l=some (.nd e i j)->i∈ps/\j∈ps)->nQ (λx=>if x=p then wd.length else f x) l=nQ f l:=λl U=>yT λe i j z=>by obtain⟨a,b⟩:=U e i j z;exact{old i a,old j b}
 refine{λx I l U=>?_,λx I y g e=>?_,λx l I=>?_,λx e i j I=>?_}
 .rcases Ak.mp I with I|I
  .show(wd++[nQ f k])[if x=p then wd.length else f x]?=_;rw[old x I,Zw l λe i j z=>o x I e i j (by rw[U,z])];exact jU<|h.at_ x I l U
  .have I:=Ap.mp I;subst I;rw[T] at U;cases U;rw[AC rfl,Zw k J];exact dq wd _ []
 .have e:=e;rcases Ak.mp I with I|I<;>rcases Ak.mp g with g|g
  .rw[old x I,old y g] at e;exact h.inj x I y g e
  .cases Ap.mp g;rw[old x I,AC rfl] at e;have:=h.lt I<|r x I;lia
  .cases Ap.mp I;rw[old y g,AC rfl] at e;have:=h.lt g<|r y g;lia
  .rw[Ap.mp I,Ap.mp g]
 .by_cases c:x<wd.length
  .rw[Az c] at I;obtain⟨q,t,e⟩:=h.only x l I;exact{q,An _ t,by rw[e];exact(old q t).symm}
  .refine{p,Ah _<|Ap.mpr rfl,?_};have:=zf I;rw[Ad] at this;have:x<wd.length+1:=this;rw[AC rfl];lia
 .by_cases c:x<wd.length
  .rw[Az c] at I;exact h.ok x e i j I
  .have:=zf I;rw[Ad] at this;have:x<wd.length+1:=this;have:x=wd.length:=by lia
   subst this;rw[AF<|Am _,Ds] at I;have I:=A2 I;cases k with
   |none=>cases I
   |some k=>
    cases k with
    |lf=>cases I
    |nd e' i' j'=>
     obtain⟨a,b⟩:=J e' i' j' rfl;cases I;exact{h.lt a<|r _ a,h.lt b<|r _ b}
def pF{ks:List<|Xd}(ok:pI ks)(pm:qs.Perm<|List.range ks.length)(o:gi ks qs){p:Nat}(J:qs[n]?=some p){e:Bool}(h:ks[p]?=some (some<|.nd e i j)):i∈qs.take n/\j∈qs.take n:=by
 obtain⟨T,l2⟩:=ok p e i j h;have hl:=zf h;have r:=zf J;have ind:∀x,x<ks.length->x≠p->(∀y∈qs.drop (n+1),y≠x)->x∈qs.take n:=λx C ne g=>by
  have I:=pm.mem_iff.mpr<|AX.mpr C;have l:qs=qs.take n++p::qs.drop (n+1):=by rw[Ag r] at J;rw[<-A2 J,Dt,A9]
  rw[l] at I;rcases Ak.mp I with I|I
  .exact I
  .rcases As.mp I with I|I
   .exact absurd I ne
   .exact absurd rfl<|g x I
 have t:∀y∈qs.drop (n+1),y≠i/\y≠j:=λy U=>by
  have l:qs=qs.take n++p::qs.drop (n+1):=by rw[Ag r] at J;rw[<-A2 J,Dt,A9]
  rw[l] at o;have:=(AU.mp o).2.1;exact(List.pairwise_cons.mp this).1 y U e i j h
 exact{ind i (rS) (are) λy U=>(t y U).1,ind j (rS) (are) λy U=>(t y U).2}
def Ka:RD "_law_join" lI 0 ["_law_knots","_law_forest","_law_one","_law_two","_law_first","_law_second","_law_left","_law_right","_law_ends"] (λ_=>True):={_,λV B c _ _ _ _ _ _ _ I hN J=>(qb (S_ 4 hN<|dC (qv 1)<|jm<|ql zw (qv 3)<|L_ B.ba<|qv 1)<|qb (S_ 5 hN<|dC (qv 1)<|jm<|ql zw (qv 2)<|L_ B.ba<|qv 1)<|qb (aj (i:=6) hN rfl (Or.inr rfl)<|I_ (J_ 4)<|ql zw (ql kh (qv 3) qd)<|L_ B.ba<|J_ 4)<|qb (aj (i:=7) hN rfl (Or.inr rfl)<|I_ (J_ 5)<|ql zw (ql kh (qv 2) qd)<|L_ B.ba<|J_ 5)<|qb (qz<|ze (qv 0)<|jm<|qr<|aA jd (qv 6)<|qv 7)<|qb (aT ["_law_p"] (i:=8) hN rfl (Or.inl rfl) (EZ (by rfl)) rfl (xx<|ql jf (J_ 4)<|J_ 5) (o7 9) (λ_ _ _ _=>bJ<|js (sC _ _ _) (qv 9) (qr<|vj (qv 6)<|qv 7) (by with_unfolding_all rfl)) λ_ _ _ _=>(qv 9))<|qe<|qz<|ze (qv 1)<|jm<|zj<|vj (qr<|jr jd<|aA (ql aB (L_ B.ba<|qv 0) qd) (J_ 4)<|J_ 5)<|ql jf (qv 8)<|zj<|jm<|ql aB (L_ B.ba<|qv 0) qd)}
def Kb:RD "_law_fold" lK 0 ["_law_knots","_law_tree_here","_law_one","_law_two","_law_left","_law_right"] (λ_=>True):={_,λV B c _ _ _ _ _ _ _ I hN J=>(qb (zo (js jQ (L_ B.ba<|J_ 1) qd<|jv _) (qe y0) zg)<|qb (S_ 4 hN<|dC (J_ 1)<|jm<|ql zw (qv 3)<|L_ B.ba<|J_ 1)<|qb (S_ 5 hN<|dC (J_ 1)<|jm<|ql zw (qv 2)<|L_ B.ba<|J_ 1)<|qb (qz<|ze (qv 0)<|jm<|qr<|aA jd (qv 4)<|qv 5)<|qb (am (qv 1) qd<|qr<|aA jd (ql aB (L_ B.ba<|qv 0) qd)<|J_ 1)<|qe<|qz<|ze (J_ 1)<|jm<|ql aB (L_ B.ba<|qv 0) qd)}
theorem dQ{ks:Xc}:∀{w v:Wd} {p:Nat},fD ks p w->fD ks p v->w=v
 |.leaf t n,.leaf g C,p,h,k=>by
  have h:=h;have k:(kg ks)[p]?=some (.tup [.str<|kL g,.str C]):=k;rw[h] at k;injection k with k;injection k with k;injection k with J I;injection I with I _
  injection J with J;injection I with I
  have:t=g:=by cases t<;>cases g<;>first|rfl|(exfalso;revert J;decide +kernel)
  rw[this,I]
 |.leaf t n,.node e l r,p,h,k=>by obtain⟨i,j,k,_⟩:=k;have h:=h;rw[h] at k;injection k with k;injection k with k;injection k with _ k;injection k with _ k;cases k
 |.node e l r,.leaf t n,p,h,k=>by obtain⟨i,j,h,_⟩:=h;have k:(kg ks)[p]?=some (.tup [.str<|kL t,.str n]):=k;rw[h] at k;injection k with k;injection k with k;injection k with _ k;injection k with _ k;cases k
 |.node e l r,.node o l' r',p,ψ,χ=>by
  obtain⟨i,j,h,T,hr⟩:=ψ;obtain⟨i',j',k,kl,kr⟩:=χ
  rw[h] at k;injection k with k;injection k with k;injection k with J I;injection I with I U;injection U with U _
  injection J with J;injection I with I;injection U with U
  have e1:i=i':=by lia
  have e2:j=j':=by lia
  subst e1 e2;have:e=o:=by cases e<;>cases o<;>first|rfl|(exfalso;revert J;decide +kernel)
  rw[this,dQ (ks:=ks) T kl,dQ (ks:=ks) hr kr]
theorem oS{ks:Xc}(I:av ks):∀(m p:Nat),p<m->p<ks.length->∃w,fD ks p w/\w.depth<=p+1/\w.ok
 |0,p,h,_=>absurd h (by lia)
 |m+1,p,h,g=>by
  obtain⟨k,J⟩:∃k,ks[p]?=some k:={_,Ag g};have U:=I p k J;cases k with
  |lf t n=>exact{.leaf t n,fD.leaf J,by exact BA _,U}
  |nd e i j=>
   have U:=U;obtain⟨l,o,T,C⟩:=oS I m i (by lia) (by omega);obtain⟨r,b1,b2,b3⟩:=oS I m j (by lia) (by lia);exact{.node e l r,FF J o b1,by show max l.depth r.depth+1<=p+1;lia,C,b3}
def TV(v:Str->Bool):Wd->Bool
 |.leaf t n=>if t=true then !v n else v n
 |.node e l r=>if e=true then TV v l||TV v r else TV v l&&TV v r
theorem mY(v:Str->Bool):∀w:Wd,TV v w.turn=!TV v w
 |.leaf t n=>by cases t<;>simp[Wd.turn,TV]
 |.node e l r=>by cases e<;>simp[Wd.turn,TV,mY v l,mY v r]
theorem SR.lt{E:WR}(h:SR ks R E):∀x∈z9 R,x<ks.length:=by
 have lt:∀{p:Nat} {k:Kn},ks[p]?=some k->p<ks.length:=λh=>(AN.mp h).1
 induction h with
 |link _ h2 h3 _ _=>intro x I;simp[z9] at I;rcases I with rfl|rfl;exact lt h2;exact lt h3
 |ei h1 _ _ _ _ _ _ g=>intro x I;rcases As.mp I with rfl|I;exact lt h1;exact g x I
 |bo h1 _ _ _ _ _ _ J U=>
  intro x I;rcases As.mp I with rfl|I
  .exact lt h1
  .rcases Ak.mp I with I|I
   .exact J x I
   .exact U x I
 |cu _ _ _ _ _ _ _ _ J U=>
  intro x I;rcases Ak.mp I with I|I
  .exact J x I
  .exact U x I
theorem SR.tv(hk:av ks)(v:Str->Bool){E:WR}(h:SR ks R E):∃x∈E,∃w,fD ks x w/\TV v w=true:=by
 have ex:∀{R':Ru} {E':WR},SR ks R' E'->∀x∈E',∃w,fD ks x w:=λs x U=>by obtain⟨w,hw,_⟩:=oS hk (x+1) x (BI _)<|s.lt x<|s.sub x U;exact{(w),hw}
 induction h with
 |@link p q t n E _ h2 h3 h4 _=>
  cases ht:TV v (.leaf t n) with
  |true=>exact{p,(h4 p).mpr<|.inl rfl,_,fD.leaf h2,ht}
  |false=>
   refine{q,(h4 q).mpr<|.inr rfl,_,fD.leaf h3,?_};have:=mY v<|.leaf t n;rw[ht] at this;exact this
 |@ei r i j A EA E h1 hA hi hj _ g _ ih=>
  obtain⟨x,U,w,hw,tv⟩:=ih;obtain⟨wi,l⟩:=ex hA i hi;obtain⟨wj,o⟩:=ex hA j hj;by_cases I:x=i
  .subst I;rw[dQ hw l] at tv;exact{r,(g r).mpr<|.inr rfl,_,FF h1 l o,by simp[TV,tv]}
  .by_cases J:x=j
   .subst J;rw[dQ hw o] at tv;exact{r,(g r).mpr<|.inr rfl,_,FF h1 l o,by simp[TV,tv]}
   .exact{x,(g x).mpr<|.inl {(U),I,J},w,hw,tv}
 |@bo r i j A B EA EB E h1 hA hB hi hj g _ C T=>
  obtain⟨x,U,w,hw,tv⟩:=C;obtain⟨y,hy,u,hu,tu⟩:=T;by_cases I:x=i
  .by_cases J:y=j
   .subst I J;exact{r,(g r).mpr<|.inr<|.inr rfl,_,FF h1 hw hu,by simp[TV,tv,tu]}
   .exact{y,(g y).mpr<|.inr<|.inl {(hy),J},u,hu,tu}
  .exact{x,(g x).mpr<|.inl {(U),I},w,hw,tv}
 |@cu p q A B EA EB E w0 hA hB hp hq a1 a2 h7 _ C T=>
  obtain⟨x,U,w,hw,tv⟩:=C;obtain⟨y,hy,u,hu,tu⟩:=T;by_cases I:x=p
  .by_cases J:y=q
   .subst I J;rw[dQ hw a1] at tv;rw[dQ hu a2,mY,tv] at tu;cases tu
   .exact{y,(h7 y).mpr<|.inr {(hy),J},u,hu,tu}
  .exact{x,(h7 x).mpr<|.inl {(U),I},w,hw,tv}
def SR.ends(I:av ks){E:WR}(h:SR ks R E):0<E.length:=by obtain⟨x,J,_⟩:=h.tv I λ_=>true;exact List.length_pos_of_mem J
structure Tr where
 a:Addr
 b:Addr
 R:Ru
 E:WR
abbrev Xe:=List Tr
abbrev jg(E:WR):_x:=E.map λn:Nat=>Y.int (n:Int)
def Tr.Xl(t:Tr):List Addr:=[t.a,t.b]
structure cX(L0 L:qm)(ka fa:Addr)(ks:Xc)(fo:Xe):Prop where
 hk:L ka=some (.lst<|kg ks)
 ht:∀t∈fo,L t.a=some (.lst [jp t.R,.ref t.b])/\L t.b=some (.lst<|jg t.E)
 sr:∀t∈fo,SR ks t.R t.E
 nd:(fo.flatMap λt=>z9 t.R).Nodup
 tm:∀x,x∈(fo.flatMap λt=>z9 t.R)↔x<ks.length
 ad:(ka::fa::fo.flatMap Tr.Xl).Nodup
 ok:av ks
 sub:qi L0 L
 fr:∀x∈ka::fa::fo.flatMap Tr.Xl,L0 x=none
def zy(fo:Xe):_x:=fo.map λt=>Y.ref t.a
structure qA(L0 L:qm)(ka fa:Addr)(ks:Xc)(fo:Xe):Prop where
 b:cX L0 L ka fa ks fo
 hf:L fa=some (.lst<|zy fo)
def Fm:Ru->Prop
 |.link _ _=>True
 |.ei _ A=>Fm A
 |.bo _ A B=>Fm A/\Fm B
 |.cu _ _ _ _=>False
def Kc(ks:Xc)(fo:Xe)(I:Xc)(fo':Xe):Prop:=(∃ms:Xc,I=ks++ms/\∀k∈ms,∃e i j,k=.nd e i j)/\((∀t∈fo,Fm t.R)->∀t∈fo',Fm t.R)
def cX.perm{fo fo':Xe}(h:cX L0 L ka fa ks fo)(p:fo.Perm fo'):cX L0 L ka fa ks fo':=by have J:(fo.flatMap λt=>z9 t.R).Perm (fo'.flatMap λt=>z9 t.R):=p.flatMap_right _;have U:(fo.flatMap Tr.Xl).Perm (fo'.flatMap Tr.Xl):=p.flatMap_right _;refine{h.hk,λt I=>h.ht t<|p.mem_iff.mpr I,λt I=>h.sr t<|p.mem_iff.mpr I,J.nodup_iff.mp h.nd,λx=>by rw[<-J.mem_iff];exact h.tm x,((U.cons _).cons _).nodup_iff.mp h.ad,h.ok,h.sub,λx g=>h.fr x<|((U.cons _).cons _).mem_iff.mpr g}
variable {fo rest:List Tr}
theorem vh{α:Type}:∀{l:List α} {j:Nat} {x:α},l[j]?=some x->l.Perm (x::l.eraseIdx j)
 |[],_,_,h=>by simp at h
 |y::r,0,x,h=>by
  have:y=x:=by simpa using h
  subst this;exact .refl _
 |y::r,j+1,x,h=>by have I:=vh (l:=r) (j:=j) (x:=x) (by simpa using h);rw[CF];exact(I.cons y).trans (.swap _ _ _)
def o8(fo:Xe)(j:Nat):(zy fo).eraseIdx j=zy (fo.eraseIdx j):=kA _ fo j
theorem qi.none(s:qi L L'){p:Addr}(h:L' p=none):L p=none:=by cases z:L p with|none=>rfl|some o=>rw[s _ _ z] at h;cases h
def cX.YB(h:cX L0 L ka fa ks fo):ka≠fa:=by have ad:=h.ad;rw[AE] at ad;exactλe=>ad.1<|e▸Ao ..
def cX.nk(h:cX L0 L ka fa ks fo):∀t∈fo,t.a≠fa/\t.b≠fa/\t.a≠ka/\t.b≠ka:=λt I=>by have ad:=h.ad;rw[AE,AE] at ad;have J:t.a∈fo.flatMap Tr.Xl:=Bh.mpr {t,I,by simp[Tr.Xl]};have U:t.b∈fo.flatMap Tr.Xl:=Bh.mpr {t,I,by simp[Tr.Xl]};exact{λe=>ad.2.1<|e▸J,λe=>ad.2.1<|e▸U,λe=>ad.1<|Ai _<|e▸J,λe=>ad.1<|Ai _<|e▸U}
def cX.X5(h:cX L0 L ka fa ks fo)(o:LO):cX L0 (qj L fa o) ka fa ks fo:=by
 refine{by rw[qf h.YB];exact h.hk,λt I=>?_,h.sr,h.nd,h.tm,h.ad,h.ok,λb u e=>?_,h.fr}
 .obtain⟨J,U,_,_⟩:=h.nk t I;rw[qf J,qf U];exact h.ht t I
 .have:b≠fa:=λz=>by rw[z,h.fr fa (by simp)] at e;cases e
  rw[qf this];exact h.sub _ _ e
def cX.mono(h:cX L0 L ka fa ks fo)(s:qi L L'):cX L0 L' ka fa ks fo:=
 ⟨s _ _ h.hk,λt I=>{s _ _ (h.ht t I).1,s _ _ (h.ht t I).2},h.sr,h.nd,h.tm,h.ad,h.ok,h.sub.trans s,h.fr⟩
def cX._h(h:cX L0 L ka fa ks fo):∀z∈fo.flatMap Tr.Xl,∃o,L z=some o:=λz I=>by
 obtain⟨t,J,I⟩:=Bh.mp I;obtain⟨h1,h2⟩:=h.ht t J;have I:z=t.a\/z=t.b:=by simpa[Tr.Xl] using I
 rcases I with rfl|rfl
 .exact{_,h1}
 .exact{_,h2}
def Ui{l:List Addr}(nd:l.Nodup)(ex:∀z∈l,∃o,L z=some o)(U:L pa=none)(g:L pb=none)(ne:pa≠pb):(l++[pa,pb]).Nodup:=by
 rw[Au];refine{nd,by simp[ne],λu j v J e=>?_};subst e;obtain⟨o,I⟩:=ex u j;simp at J;rcases J with rfl|rfl
 .rw[U] at I;cases I
 .rw[g] at I;cases I
def cX.step{old:Xe}{t':Tr}(h:cX L0 L ka fa ks<|old++rest)(l:L' ka=some (.lst<|kg<|ks++ms))(o:L' t'.a=some (.lst [jp t'.R,.ref t'.b])/\L' t'.b=some (.lst<|jg t'.E))
 (keep:∀t∈rest,L' t.a=L t.a/\L' t.b=L t.b) (sub:qi L0 L') (ad:(ka::fa::(rest++[t']).flatMap Tr.Xl).Nodup) (p:∀x∈t'.Xl,L0 x=none) (ok:av<|ks++ms) (r:SR (ks++ms) t'.R t'.E)
 (tp:(z9 t'.R).Perm<|List.range' ks.length ms.length++old.flatMap λt=>z9 t.R):cX L0 L' ka fa (ks++ms) (rest++[t']):=by
 have XH:=h.nd;have U:=h.tm;rw[AO] at XH;have j:((rest++[t']).flatMap λt=>z9 t.R)=(rest.flatMap λt=>z9 t.R)++z9 t'.R:=by rw[AO];simp
 have mem:∀x,x∈z9 t'.R↔(ks.length<=x/\x<ks.length+ms.length)\/x∈(old.flatMap λt=>z9 t.R):=λx=>by rw[tp.mem_iff,Ak,Du]
 refine{l,λt J=>?_,λt J=>?_,?_,λx=>?_,ad,ok,sub,λx I=>?_}
 .rcases Ak.mp J with J|J
  .obtain⟨C,T⟩:=keep t J;rw[C,T];exact h.ht t<|Ah _ J
  .rw[Ap.mp J];exact o
 .rcases Ak.mp J with J|J
  .exact(h.sr t<|Ah _ J).more _
  .rw[Ap.mp J];exact r
 .rw[j,Au];rw[Au] at XH;refine{XH.2.1,tp.nodup_iff.mpr ?_,λx I y g e=>?_}
  .rw[Au];refine{Ei,XH.1,λx I y g e=>?_};have I:=Du.mp I;have g:=(U y).mp (by rw[AO];exact An _ g);lia
  .subst e;rcases (mem x).mp g with g|g
   .have:=(U x).mp (by rw[AO];exact Ah _ I);lia
   .exact XH.2.2 x g x I rfl
 .rw[j,Ak,mem,Ad];have h1:=U x;rw[AO,Ak] at h1;constructor
  .rintro(h2|h2|h2)
   .have:=h1.mp<|.inr h2;exact GY
   .lia
   .have:=h1.mp<|.inl h2;lia
  .intro h2;by_cases c:x<ks.length
   .rcases h1.mpr c with h3|h3
    .exact .inr<|.inr h3
    .exact .inl h3
   .exact .inr<|.inl (by lia)
 .rcases As.mp I with rfl|I
  .exact h.fr _<|Ao ..
  .rcases As.mp I with rfl|I
   .exact h.fr _<|Ai _<|Ao ..
   .rw[AO] at I;rcases Ak.mp I with I|I
    .exact h.fr _ (Ai _ (Ai _ (by rw[AO];exact Ah _ I)))
    .exact p x (by simpa using I)
def cX.put{M:qm}{old:Xe}{E:WR}{fs:LO}(h:cX L0 L ka fa ks<|old++rest)(U:∀z o,z≠ka->L z=some o->M z=some o)(g:M ka=some (.lst<|kg<|ks++ms))(l:M fa=some fs)(na:M pa=none)(nb:M pb=none)(ne:pa≠pb)(s:qi M L')(p:L' pa=some (.lst [jp R,.ref pb]))(r:L' pb=some (.lst<|jg E))
 (ok:av<|ks++ms) (C:SR (ks++ms) R E) (tp:(z9 R).Perm<|List.range' ks.length ms.length++old.flatMap λt=>z9 t.R):cX L0 L' ka fa (ks++ms) (rest++[{(pa),pb,R,E}]):=by
 have J:∀z o,L0 z=some o->M z=some o:=λz o e=>U _ _ (λw=>by rw[w,h.fr ka (by simp)] at e;cases e)<|h.sub _ _ e;have two:∀z,z∈(⟨pa,pb,R,E⟩:Tr).Xl->M z=none:=λz I=>by
  have I:z=pa\/z=pb:=by simpa[Tr.Xl] using I
  rcases I with rfl|rfl<;>assumption
 refine cX.step (old:=old) (t':={(pa),pb,R,E}) h (s _ _ g) {(p),r} (λt j=>?_) (λz o e=>s _ _<|J z o e) ?_ (λz I=>?_) ok C tp
 .obtain⟨_,_,T,n4⟩:=h.nk t<|Ah _ j;obtain⟨h1,h2⟩:=h.ht t<|Ah _ j;rw[h1,h2];exact{s _ _<|U _ _ T h1,s _ _<|U _ _ n4 h2}
 .have ad:=h.ad;rw[AO] at ad;have:=Ui (L:=M) ((((List.sublist_append_right ..).cons_cons _).cons_cons _).nodup ad) (λz I=>?_) na nb ne
  .rw[AO];simpa[Tr.Xl] using this
  .rcases As.mp I with rfl|I
   .exact{_,g}
   rcases As.mp I with rfl|I
   .exact{_,l}
   obtain⟨o,e⟩:=h._h z (by rw[AO];exact Ah _ I);exact{o,U _ _ (λw=>(AE.mp ad).1 (by rw[<-w];exact Ai _<|Ah _ I)) e}
 .cases e:L0 z with|none=>rfl|some o=>have w:=J z o e;rw[two z I] at w;cases w
inductive nG(ys:_x)(L:qm)(Q:YK):Prop
 |mk:∀L0 ka fa ks fo,∀one two:Int,(ys=[.ref ka,.ref fa,.int one,.int two])->(qA L0 L ka fa ks fo)->(2<=fo.length)->(fo.length<=200)->(ks.length<=200)->(∀L' ks' fo',qA L0 L' ka fa ks' fo'->ks'.length=ks.length+1->fo'.length+1=fo.length->Kc ks fo ks' fo'->Q .GM L')->nG ys L Q
def bz{l:List α}(h:0<l.length)(k:Int):∃(j:Nat) (x:α),k % (l.length:Int)=(j:Int)/\j<l.length/\l[j]?=some x:=by have h0:0<=k % (l.length:Int):=DJ _ (by lia);have h1:k % (l.length:Int)<(l.length:Int):=DY _ (by omega);refine{(k % (l.length:Int)).toNat,l[(k % (l.length:Int)).toNat]'(by lia),by lia,by lia,Ag (by lia)}
theorem cQ:∀(n:Nat) (l:WR),l.Nodup->(∀x∈l,x<n)->l.length<=n
 |0,l,_,h=>by cases l with|nil=>exact Am _|cons x r=>exact absurd (h x<|Ao ..) (by lia)
 |n+1,l,nd,h=>by
  by_cases c:n∈l
  .have p:=List.perm_cons_erase c;have J:=cQ n (l.erase n) (nd.erase n) λx I=>by have:=(List.Nodup.mem_erase_iff nd).mp I;have:=h x this.2;lia
   rw[p.length_eq,AK];exact D_
  .exact B7 (cQ n l nd λx I=>by have:=h x I;have:x≠n:=λe=>c<|e▸I;lia)
def bY(h:cX L0 L ka fa ks fo){t:Tr}(I:t∈fo):0<t.E.length/\t.E.length<=ks.length:=by have s:=h.sr t I;exact{s.ends h.ok,cQ _ _ s.YT λx J=>s.lt x<|s.sub x J}
def Uj(x l r:Nat):tN (eX<|.int (x:Int)) (([.int (l:Int),.int (r:Int)]:_x).map eX)=decide (x=l\/x=r):=by
 show(iD (.int (l:Int)) (.int (x:Int))||(iD (.int (r:Int)) (.int (x:Int))||false))=_;have e:∀a b:Nat,iD (.int (a:Int)) (.int (b:Int))=decide (b=a):=λa b=>by
  show decide ((a:Int)=(b:Int))=decide (b=a);by_cases c:b=a
  .subst c;simp
  .rw[Aw c];apply Aw;lia
 rw[e,e];by_cases h1:x=l<;>by_cases h2:x=r<;>simp[h1,h2]
def jC{E:WR}(h:0<E.length)(k:Int):∃x,x∈E/\fG (jg E) (k % ((jg E).length:Int))=some (.int ((x:Nat):Int)):=by obtain⟨j,x,I,J,ex⟩:=bz h k;refine{x,Ax ex,?_};rw[Ac,I];exact xi (by rw[Al,ex];rfl)
def wu(E1 E2:WR)(l r:Nat):WR:=(E1++E2).filter λx=>!decide (x=l\/x=r)
def Kd{U:Addr}{E:WR}{l r k:Nat}{Q:YK}(C:L U=some (.lst<|jg E))(I:E.length<=1000)
 (T:∀y (g:Bool->qm->Prop),wP true y (.tup [.int (l:Int),.int (r:Int)]) L (λx L'=>match x with|.bl c=>g c L'|_=>False)->tc (bK (τ++List.replicate 1 none) k y) L g)
 (hv:∀y,xN (bK (τ++List.replicate 1 none) k y) k=some y)
 (hq:∀p,L p=none->Q (.ref p) (qj L p<|.lst<|jg<|E.filter λx=>!decide (x=l\/x=r))):
 uW L U λys keep L2=>yr ys keep 1 (qo k) tc (qc k) τ L2 Q:=by
 refine xg C λkeep kp=>bx (λj zs=>zs=jg ((E.take j).filter λx=>!decide (x=l\/x=r))) (by rw[Ac];exact qJ I) (kp L rfl) rfl ?_ ?_
 .rintro j y _ o rfl;obtain⟨x,ex,rfl⟩:∃x:Nat,E[j]?=some x/\y=Y.int (x:Int):=by rw[Al] at o;obtain⟨x,e1,e2⟩:=Aq.mp o;exact{(x),e1,e2.symm}
  refine T _ _ {rfl,rfl,?_};rw[Uj];show aC (!decide (x=l\/x=r)) _ _;have t:(E.take<|j+1).filter (λx=>!decide (x=l\/x=r))=(E.take j).filter (λx=>!decide (x=l\/x=r))++[x].filter (λx=>!decide (x=l\/x=r)):=by rw[Bi,ex,Cq];rfl
  by_cases c:x=l\/x=r
  .refine bF (by rw[AD c];rfl) ?_;refine IS {rfl,?_};rw[t,List.filter_cons_of_neg (by simp[c]),Dj,AI]
  .refine dg (by rw[Aw c];rfl) ?_;unfold qc;rw[hv];refine IS {rfl,?_};rw[t,List.filter_cons_of_pos (by simp[c]),Dj];unfold jg;rw[Av];rfl
 .rintro _ rfl p J;rw[Ac,Bg];exact hq p J
def wK{k:Int}(U:L fa=some (.lst<|zy fo))(h:0<fo.length):∃(j:Nat) (t:Tr),fo[j]?=some t/\0<=k % ((zy fo).length:Int)/\k % ((zy fo).length:Int)<((zy fo).length:Int)/\
 (zy fo)[(k % ((zy fo).length:Int)).toNat]?=some (.ref t.a)/\qj L fa (.lst<|(zy fo).eraseIdx (k % ((zy fo).length:Int)).toNat) fa=some (.lst<|zy<|fo.eraseIdx j):=by
 obtain⟨j,t,J,g,I⟩:=bz h k;have e:(zy fo).length=fo.length:=Ac ..;rw[e,J];refine{j,t,I,AQ _,by lia,?_,?_}
 .show(zy fo)[j]?=_;unfold zy;rw[Al,I];rfl
 .rw[q9];show some (LO.lst<|(zy fo).eraseIdx j)=_;rw[o8]
def cX.two{t1 t2:Tr}(h:cX L0 L ka fa ks<|t1::t2::rest):∀x,x∈z9 t1.R->x∈z9 t2.R->False:=by intro x h1 h2;have nd:=h.nd;rw[Be,Be,Au] at nd;exact nd.2.2 x h1 x (An _ h2) rfl
def y9{E1 E2:WR}{l r:Nat}(I:l∉E2)(J:r∉E1)(x:Nat):x∈wu E1 E2 l r↔(x∈E1/\x≠l)\/(x∈E2/\x≠r):=by
 unfold wu;rw[AR,Ak];constructor
 .rintro⟨h,c⟩;have c:¬(x=l\/x=r):=by simpa using c
  rcases h with h|h
  .exact .inl {h,λe=>c<|.inl e}
  .exact .inr {h,λe=>c<|.inr e}
 .rintro(⟨h,c⟩|⟨h,c⟩)
  .refine{.inl h,?_};have:x≠r:=λe=>J<|e▸h;simp[c,this]
  .refine{.inr h,?_};have:x≠l:=λe=>I<|e▸h;simp[c,this]
def yw{E1 E2:WR}{l r:Nat}(h1:E1.Nodup)(h2:E2.Nodup)(d:∀x,x∈E1->x∈E2->False):(wu E1 E2 l r).Nodup:=by
 have h:(E1++E2).Nodup:=by rw[Au];exact{h1,h2,λx I y J e=>d x I<|e▸J}
 exact List.Pairwise.filter _ h
def kH(a b:WR):jg (a++b)=jg a++jg b:=Av
def hX(a:Xe)(t:Tr):zy (a++[t])=zy a++[.ref t.a]:=Av
theorem Uk:_f nG Ka.1 9:=by
 rintro ys L Q ⟨L0,ka,fa,g,fo,one,two,rfl,F,h2,c3,bi,q⟩;have big:=a_;have p:∀fo:Xe,(zy fo).length=fo.length:=λfo=>Ac ..;have U:∀E:WR,(jg E).length=E.length:=λE=>Ac ..;obtain⟨j1,I,bj,a1,a2,a3,j⟩:=wK (k:=two) F.hf<|jL;have p1:=vh bj;refine qa F.hf (qa F.hf {(by rw[p];lia),qk F.hf {a1,a2,qg a3 ?_}});have B:=(F.b.perm p1).X5<|.lst<|(zy fo).eraseIdx (two % ((zy fo).length:Int)).toNat;generalize qj L fa _=L1 at j B ⊢;have l1:=p1.length_eq;generalize fo.eraseIdx j1=a5 at l1 j B p1 ⊢;rw[AK] at l1;obtain⟨j2,J,bn,b1,b2,b3,ac⟩:=wK (k:=one) j (by lia);have p2:=vh bn;refine qa j (qa j {(by rw[p];lia),qk j {b1,b2,qg b3 ?_}});replace B:=(B.perm<|p2.cons _).X5<|.lst<|(zy a5).eraseIdx (one % ((zy a5).length:Int)).toNat;generalize qj L1 fa _=L2 at ac B ⊢;have l2:=p2.length_eq;have bf:=p1.trans<|p2.cons _;generalize a5.eraseIdx j2=rest at l2 ac B bf ⊢;rw[AK] at l2;have m1:I∈I::J::rest:=by simp
 have m2:J∈I::J::rest:=by simp
 obtain⟨C,al⟩:=B.ht I m1;obtain⟨T,ay⟩:=B.ht J m2;obtain⟨_,_,n1,n2⟩:=B.nk I m1;obtain⟨_,_,n3,n4⟩:=B.nk J m2;have bp:=bY B m1;have bq:=bY B m2;obtain⟨x,hx,ex⟩:=jC bp.1<|two / 64;obtain⟨y,hy,ey⟩:=jC bq.1<|one / 64;refine qa C {{by decide,by decide},qa C (qa al {(by rw[U];omega),qa al<|qg ex ?_})};refine qa T {{by decide,by decide},qa T (qa ay {(by rw[U];omega),qa ay<|qg ey ?_})};refine qa B.hk (qk B.hk {big _ (by rw[Ac];exact fV),?_});have ek:kg g++[.tup [.str "both",.int ((x:Nat):Int),.int ((y:Nat):Int)]]=kg (g++[.nd false x y]):=by unfold kg;rw[Av];rfl
 rw[ek];have k3:∀z o,z≠ka->L2 z=some o->qj L2 ka (.lst<|kg<|g++[.nd false x y]) z=some o:=λz o n e=>(qf n).trans e;have bg:qj L2 ka (.lst<|kg<|g++[.nd false x y]) ka=some (.lst<|kg<|g++[.nd false x y]):=q9;generalize qj L2 ka _=L3 at bg k3 ⊢;refine qa (k3 _ _ n1 C) (qa (k3 _ _ n3 T) {_,_,k3 _ _ n2 al,k3 _ _ n4 ay,cZ (by rw[U,U];lia),λpp br=>?_});rw[<-kH];refine Kd (E:=I.E++J.E) (l:=x) (r:=y) (k:=9) q9 (by rw[Ad];lia) (λy' Q' h=>h) (λ_=>rfl) λpe c1=>?_;generalize hL:qj (qj L3 pp _) pe _=L4;have s4:qi L3 L4:=by rw[<-hL];exact(By br).trans (By c1)
 have c2:L4 pe=some (.lst<|jg<|wu I.E J.E x y):=by rw[<-hL];exact q9
 have k4:∀z o,z≠ka->L2 z=some o->L4 z=some o:=λz o n e=>s4 _ _<|k3 z o n e;have aL:=s4 _ _ bg;have ba:=k4 _ _ (AG B.YB) ac;have nn:(((kg<|g++[.nd false x y]).length:Nat):Int)-1=((g.length:Nat):Int):=by rw[Ac,Ad];simp
 have lb:(wu I.E J.E x y).length<=(I.E++J.E).length:=Dz ..;rw[Ad] at lb;refine qa ba<|qa aL<|qa (k4 _ _ n1 C)<|qa (k4 _ _ n3 T)<|qa aL λpn a4=>?_;refine{_,_,By a4 _ _ c2,q9,cZ (by rw[U];show _+1<=1000;lia),λpb bb pa bc=>?_};have bh:=w9 q9 bc;have nb:=(By a4).none bb;have na:=((By a4).trans<|By bb).none bc;generalize hL:qj (qj (qj L4 pn _) pb _) pa _=L7;have s7:qi L4 L7:=by rw[<-hL];exact((By a4).trans<|By bb).trans (By bc)
 have ea:L7 pa=some (.lst [jp<|.bo g.length I.R J.R,.ref pb]):=by rw[<-hL,q9];dsimp only;rw[nn];rfl
 have eb:L7 pb=some (.lst<|jg<|wu I.E J.E x y++[g.length]):=by rw[<-hL,qf bh,q9];dsimp only;rw[nn,kH];rfl
 refine qk (s7 _ _ ba) {big _ (by rw[p];lia),?_};have s1:=B.sr I m1;have s2:=B.sr J m2;have bd:∀z,z∈I.E->z∈J.E->False:=λz h1 h2=>B.two z (s1.sub z h1)<|s2.sub z h2;have bm:=y9 (E1:=I.E) (E2:=J.E) (λh=>bd x hx h) λh=>bd y h hy;refine vd (q _ (g++[.nd false x y]) (rest++[{pa,pb,.bo g.length I.R J.R,wu I.E J.E x y++[g.length]}]) {(cX.put (old:=[I,J]) B k4 aL ba na nb (AG bh) s7 ea eb (B.ok.snoc {s1.lt x<|s1.sub x hx,s2.lt y<|s2.sub y hy}) (.bo (dq _ _ _) (s1.more _) (s2.more _) hx hy (λz=>?_) ?_) ?_).X5 _,by rw[q9,hX]} (by rw[Ad];rfl) (by rw[Ad];simp;lia) {{_,rfl,λk hk=>{_,_,_,Ap.mp hk}},λh t ht=>?_})
 .rw[Ak,bm,Ap,or_assoc]
 .rw[Au];refine{yw s1.YT s2.YT bd,by simp,λu hu v hv e=>?_};rw[Ap.mp hv] at e;rcases (bm u).mp hu with⟨h,_⟩|⟨h,_⟩
  .have:=s1.lt u<|s1.sub u h;lia
  .have:=s2.lt u<|s2.sub u h;lia
 .show(g.length::(z9 I.R++z9 J.R)).Perm (List.range' g.length 1++([I,J].flatMap λt=>z9 t.R));simp[Ey]
 .have h':∀u∈I::J::rest,Fm u.R:=λu hu=>h u<|bf.mem_iff.mpr hu;rcases Ak.mp ht with ht|ht
  .exact h' t<|Ai _<|Ai _ ht
  .rw[Ap.mp ht];exact{h' I m1,h' J m2}
def tf{E:WR}{k:Int}(h:0<E.length):∃(j x:Nat),E[j]?=some x/\0<=k % ((jg E).length:Int)/\k % ((jg E).length:Int)<((jg E).length:Int)/\
 (jg E)[(k % ((jg E).length:Int)).toNat]?=some (.int ((x:Nat):Int))/\(jg E).eraseIdx (k % ((jg E).length:Int)).toNat=jg (E.eraseIdx j):=by
 obtain⟨j,x,J,U,I⟩:=bz h k;have e:(jg E).length=E.length:=Ac ..;rw[e,J];refine{j,x,I,AQ _,by lia,?_,?_}
 .show(jg E)[j]?=_;rw[Al,I];rfl
 .exact kA _ E j
def HI{a:Addr}{o:LO}:∀z u,z≠a->L z=some u->qj L a o z=some u:=λz u n e=>(qf n).trans e
inductive ip(ys:_x)(L:qm)(Q:YK):Prop
 |mk:∀L0 ka fa ks,∀pre post:Xe,∀t:Tr,∀one two:Int,(ys=[.ref ka,.ref t.a,.int one,.int two])->(qA L0 L ka fa ks<|pre++t::post)->(ks.length<=200)->(∀L' ks' fo',qA L0 L' ka fa ks' fo'->ks'.length<=ks.length+1->fo'.length=(pre++t::post).length->Kc ks (pre++t::post) ks' fo'->Q .GM L')->ip ys L Q
theorem Ul:_f ip Kb.1 6:=by
 rintro ys L Q ⟨L0,C,fa,I,pre,post,t,one,two,rfl,F,bf,q⟩;have big:=a_;have mt:t∈pre++t::post:=by simp
 have B:=F.b;obtain⟨ta,tb⟩:=B.ht t mt;have le:=bY B mt;have s:=B.sr t mt;have U:∀E:WR,(jg E).length=E.length:=λE=>Ac ..;refine qa ta<|qa tb ?_;refine zm (λc=>?_) λc=>?_
 .exact vd<|q L I _ F (CU _) rfl {{[],(AI _).symm,λk hk=>by cases hk},λh=>h}
 have c:=c;rw[U] at c;have ad:=B.ad;have YB:=B.YB;have nk:=B.nk;have r:t.a≠t.b:=by rw[AE,AE,AO,Be,Au,Au] at ad;have:=ad.2.2.2.1.1;simpa[Tr.Xl] using this
 obtain⟨j1,x,e1,a1,a2,a3,a4⟩:=tf (k:=two) le.1;refine qa ta (qa tb (qa ta (qa tb {(by rw[U];omega),qk tb {a1,a2,qg a3 ?_}})));rw[a4];have bi:(t.E.eraseIdx j1).length+1=t.E.length:=by have:=(vh e1).length_eq;rw[AK] at this;lia
 have a5:qj L t.b (.lst<|jg<|t.E.eraseIdx j1) t.a=some (.lst [jp t.R,.ref t.b]):=by rw[qf r];exact ta
 obtain⟨j2,y,e2,b1,b2,b3,b4⟩:=tf (E:=t.E.eraseIdx j1) (k:=one) (by lia);refine qa a5 (qa q9 (qa a5 (qa q9 {(by rw[U];omega),qk q9 {b1,b2,qg b3 ?_}})));rw[b4,kc];have bg:((t.E.eraseIdx j1).eraseIdx j2).length+1=(t.E.eraseIdx j1).length:=by have:=(vh e2).length_eq;rw[AK] at this;lia
 have pE:=(vh e1).trans<|(vh e2).cons _;generalize (t.E.eraseIdx j1).eraseIdx j2=j at bg pE;have nt:=nk t mt;have k1:=HI (L:=L) (a:=t.b) (o:=.lst<|jg j);have ac:qj L t.b (.lst<|jg j) t.b=some (.lst<|jg j):=q9;generalize qj L t.b _=L1 at k1 ac ⊢;have al:=k1 _ _ (AG nt.2.2.2) B.hk;refine qa al (qk al {big _ (by rw[Ac];exact fV),?_});have ek:kg I++[.tup [.str "either",.int ((x:Nat):Int),.int ((y:Nat):Int)]]=kg (I++[.nd true x y]):=by unfold kg;rw[Av];rfl
 rw[ek];have nn:(((kg<|I++[.nd true x y]).length:Nat):Int)-1=((I.length:Nat):Int):=by rw[Ac,Ad];simp
 have k2:=HI (L:=L1) (a:=C) (o:=.lst<|kg<|I++[.nd true x y]);have T:qj L1 C (.lst<|kg<|I++[.nd true x y]) C=some (.lst<|kg<|I++[.nd true x y]):=q9;generalize qj L1 C _=L2 at k2 T ⊢;have ay:=k2 _ _ nt.2.2.1<|k1 _ _ r ta;refine qa T<|qa ay<|qk ay<|qg (v:=0) rfl ?_;generalize hL:qj L2 t.a _=L3;have aL:L3 t.a=some (.lst [jp<|.ei I.length t.R,.ref t.b]):=by rw[<-hL,q9];dsimp only;rw[nn];rfl
 have k3:∀z o,z≠t.a->L2 z=some o->L3 z=some o:=by rw[<-hL];exact HI
 have ba:=k3 _ _ (AG nt.2.2.1) T;have bb:=k3 _ _ (AG r)<|k2 _ _ nt.2.2.2 ac;have g:∀b u,b≠t.a->b≠t.b->b≠C->L b=some u->L3 b=some u:=λb u n1 n2 n3 e=>k3 _ _ n1<|k2 _ _ n3<|k1 _ _ n2 e;refine qa aL (qa bb (qa ba (qk bb {big _ (by rw[U];lia),?_})));have en:jg j++[.int<|(((kg<|I++[.nd true x y]).length:Nat):Int)-1]=jg (j++[I.length]):=by rw[nn];unfold jg;rw[Av];rfl
 have l:=pE.nodup_iff.mp s.YT;rw[AE,AE] at l;have hx:x∈t.E:=pE.mem_iff.mpr (by simp);have hy:y∈t.E:=pE.mem_iff.mpr (by simp);have bh:∀u∈pre++post,u.a≠t.a/\u.a≠t.b/\u.b≠t.a/\u.b≠t.b:=λu J=>by have p:(pre++t::post).Perm (t::(pre++post)):=Cn;have bc:=(p.flatMap_right Tr.Xl).nodup_iff.mp (by rw[AE,AE] at ad;exact ad.2.2);rw[Be,Au] at bc;have k:=bc.2.2;have ma:u.a∈(pre++post).flatMap Tr.Xl:=Bh.mpr {u,J,by simp[Tr.Xl]};have mb:u.b∈(pre++post).flatMap Tr.Xl:=Bh.mpr {u,J,by simp[Tr.Xl]};exact{λe=>k t.a (by simp[Tr.Xl]) u.a ma e.symm,λe=>k t.b (by simp[Tr.Xl]) u.a ma e.symm,λe=>k t.a (by simp[Tr.Xl]) u.b mb e.symm,λe=>k t.b (by simp[Tr.Xl]) u.b mb e.symm}
 refine vd (q _ (I++[.nd true x y]) (pre++⟨t.a,t.b,.ei I.length t.R,j++[I.length]⟩::post) {?_,?_} (by rw[Ad];exact Am _) (by simp) {{_,rfl,λk hk=>{_,_,_,Ap.mp hk}},λh u J=>?_})
 rotate_right
 .rcases Ak.mp J with J|J
  .exact h u<|An _ J
  .rcases As.mp J with rfl|J
   .exact h t mt
   .exact h u<|Ah _<|Ai _ J
 .have B':=B.perm (fo':=[t]++(pre++post)) Cn;have st:=cX.step (old:=[t]) (rest:=pre++post) (t':={t.a,t.b,.ei I.length t.R,j++[I.length]}) (ms:=[.nd true x y]) (L':=qj L3 t.b<|.lst<|jg j++[.int<|(((kg<|I++[.nd true x y]).length:Nat):Int)-1]) B' ?_ {?_,?_} (λu J=>?_) (λb o e=>?_) ?_ (λz hz=>?_) ?_ ?_ ?_
  .exact st.perm (by have p1:((pre++post)++[({t.a,t.b,.ei I.length t.R,j++[I.length]}:Tr)]).Perm ((⟨t.a,t.b,.ei I.length t.R,j++[I.length]⟩:Tr)::(pre++post)):=Cr _ _;exact p1.trans Cn.symm)
  .rw[qf<|AG (nk t mt).2.2.2];exact ba
  .rw[qf r];exact aL
  .rw[q9,en]
  .have bd:u∈pre++t::post:=by rcases Ak.mp J with h|h;exact An _ h;exact Ah _ (Ai _ h)
   obtain⟨n1,n2,n3,n4⟩:=bh u J;obtain⟨k1,k2,k3,k4⟩:=nk u bd;obtain⟨h1,h2⟩:=B.ht u bd;rw[h1,h2,qf n2,qf n4];exact{g _ _ n1 n2 k3 h1,g _ _ n3 n4 k4 h2}
  .have fr:=B.fr;have n0:∀z,L0 z=none->b≠z:=λz hz w=>by rw[w,hz] at e;cases e
   have n1:=n0 C<|fr C (by simp);have n2:=n0 t.a<|fr t.a (by simp[Tr.Xl]);have n3:=n0 t.b<|fr t.b (by simp[Tr.Xl]);rw[qf n3];exact g _ _ n2 n3 n1<|B.sub _ _ e
  .have p:(pre++t::post).Perm ((pre++post)++[t]):=Cn.trans (Cr _ _).symm;have e:((pre++post)++[({t.a,t.b,.ei I.length t.R,j++[I.length]}:Tr)]).flatMap Tr.Xl=((pre++post)++[t]).flatMap Tr.Xl:=by simp[AO,Tr.Xl]
   rw[e];exact(((p.flatMap_right Tr.Xl).cons _).cons _).nodup_iff.mp ad
  .have hz:z=t.a\/z=t.b:=by simpa[Tr.Xl] using hz
   rcases hz with rfl|rfl
   .exact B.fr _ (by simp[Tr.Xl])
   .exact B.fr _ (by simp[Tr.Xl])
  .exact B.ok.snoc {s.lt x<|s.sub x hx,s.lt y<|s.sub y hy}
  .refine .ei (dq _ _ _) (s.more _) hx hy (λe=>l.1 (by rw[e];exact Ao ..)) (λz=>?_) ?_
   .rw[Ak,Ap];have hm:=pE.mem_iff (a:=z);rw[As,As] at hm;have h1:z∈j->z≠x/\z≠y:=λh=>{λe=>l.1 (by rw[<-e];exact Ai _ h),λe=>l.2.1<|e▸h};constructor
    .rintro(h|h)
     .exact .inl {hm.mpr<|.inr<|.inr h,h1 h}
     .exact .inr h
    .rintro(⟨h,c1,c2⟩|h)
     .rcases hm.mp h with e|e|e
      .exact absurd e c1
      .exact absurd e c2
      .exact .inl e
     .exact .inr h
   .rw[Au];refine{l.2.2,by simp,λu J v hv e=>?_};rw[Ap.mp hv] at e;have:=pE.mem_iff.mpr<|Ai _<|Ai _ J;have:=s.lt u<|s.sub u this;lia
  .show(I.length::z9 t.R).Perm (List.range' I.length 1++([t].flatMap λt=>z9 t.R));simp[Ey]
 .have nf:=nk t mt;rw[qf<|AG nf.2.1];have:=g fa _ (AG nf.1) (AG nf.2.1) (AG YB) F.hf;rw[this];unfold zy;rw[Av,Av];rfl
def Um(I:vt)(p1:vt)(p2:vt)(p3:vt):bD:=(j8 (jt (iC rh (qc 1)<|qh (zx ai (qc 3)<|gA 1) zn)<|qo 4)
 (j8 (jt (zx aK (eh 4 1)<|zx ai (zx ym (qc 3)<|v9 64)<|mJ ph<|bH<|eh 4 1)<|qo 5)
 (j8 (jt (jq I<|cH (qc 0)<|qc 5)<|qo 6)
 (j8 (jt (Fj (yC .GM)<|yC .GM)<|cW 2<|jb (qo 7)<|jb (qo 8) bL)
 (j8 (u7 (fM<|bH<|gA 1) (qo 9)<|u7 (dz<|zx aK (zx aK (qc 1)<|qc 9)<|v9 1) (qo 10)<|ww (fE (yB<|iB false<|qc 7)<|gH (jq I<|cH (qc 0)<|qc 10)<|jq p1<|bH<|qc 6) (jt (ju<|qh (zx aK (qc 1)<|qc 9)<|bH<|qc 10)<|cW 2<|jb (qo 7)<|jb (qo 8) bL) cT)
 (j8 (ww (fE (yB<|iB false<|qc 7)<|yB<|zx Je (jq p2<|bH<|qc 6)<|v9 5) (j8 (vv<|iC x9 (qc 1)<|bH<|qc 4)
 IQ) cT)
 (gh (ww (yB<|iB false<|qc 7) (j8 (jt (jq p3<|cH (qc 0)<|qc 6)<|JS 3<|jb (qo 11)<|jb (qo 8)<|jb (qo 12) bL)
 (jt (au<|qh (qc 11)<|qh (au<|cH (qc 8)<|qc 12) zn)<|qo 7))<|vv<|iC mM (qc 1)<|bH<|qc 7)
 (j8 (jt (c_ 1 (dz<|zx ku (eh 4 1)<|eh 7 1) (qo 14) (yB<|zx (wP true) (qc 14)<|Fj (qc 5)<|qc 8)<|qc 14)<|qo 13)
 (ww (gH (zx ai (qc 2)<|v9 2)<|v9 0) (vv<|iC x9 (qc 1)<|qh (au<|qh (ju<|qh (rN "cut")<|qh (qc 5)<|qh (qc 8)<|cH (eh 4 0)<|eh 7 0)<|bH<|qc 13) zn)<|vv<|iC x9 (qc 1)<|qh (au<|qh (ju<|qh (rN "cut")<|qh (qc 8)<|qh (qc 5)<|cH (eh 7 0)<|eh 4 0)<|bH<|qc 13) zn)))))))))
theorem sP:∀a b:List Da,Da.eqs a b=true->a.length=b.length
 |[],[],_=>rfl
 |[],_::_,h=>by cases h
 |_::_,[],h=>by cases h
 |x::r,y::q,h=>by have h:(Da.eq x y&&Da.eqs r q)=true:=h;rw[AM] at h;rw[AK,AK,sP r q h.2]
def Ke(u:Wd):∀v:Wd,Da.eq (oM u) (oM v)=true->u=v:=by
 induction u with
 |leaf t n=>
  intro v h;cases v with
  |leaf o p=>
   rw[J',AM] at h;rw[of_decide_eq_true h.1,of_decide_eq_true h.2]
  |node e l r=>exact absurd (sP _ _ h) (by intro z;cases z)
 |node e l r g j=>
  intro v h;cases v with
  |leaf t n=>exact absurd (sP _ _ h) (by intro z;cases z)
  |node I J U=>
   have h:(iD (.str<|kN e) (.str<|kN I)&&(Da.eq (oM l) (oM J)&&(Da.eq (oM r) (oM U)&&true)))=true:=h;rw[AM,AM,AM] at h;obtain⟨h1,h2,h3,_⟩:=h;have:e=I:=by cases e<;>cases I<;>first|rfl|(exfalso;revert h1;decide +kernel)
   rw[this,g J h2,j U h3]
def a7:Ru->Nat
 |.link _ _=>1
 |.ei _ A=>a7 A+1
 |.bo _ A B=>max (a7 A) (a7 B)+1
 |.cu _ _ A B=>max (a7 A) (a7 B)+1
theorem ae:∀R:Ru,a7 R+1<=(z9 R).length
 |.link _ _=>Am _
 |.ei _ A=>by have:=ae A;simp[a7,z9];lia
 |.bo _ A B=>by have:=ae A;have:=ae B;simp[a7,z9];lia
 |.cu _ _ A B=>by have:=ae A;have:=ae B;simp[a7,z9];lia
def dF:Ru->Da
 |.link p q=>.tup [.s<|.str "link",.s<|.int (p:Int),.s<|.int (q:Int)]
 |.ei r A=>.tup [.s<|.str "either",.s<|.int (r:Int),dF A]
 |.bo r A B=>.tup [.s<|.str "both",.s<|.int (r:Int),dF A,dF B]
 |.cu p q A B=>.tup [.s<|.str "cut",.s<|.int (p:Int),.s<|.int (q:Int),dF A,dF B]
theorem dw{L:qm}:∀{R:Ru} {n:Nat},a7 R<=n->jj L n (jp R) (dF R)
 |.link p q,n+1,_=>wo<|.cons (FB _)<|.cons (E5 _)<|.cons (E5 _) .nil
 |.ei r A,n+1,h=>wo (.cons (FB _) (.cons (E5 _) (.cons (dw (by simp[a7] at h;lia)) .nil)))
 |.bo r A B,n+1,h=>wo (.cons (FB _) (.cons (E5 _) (.cons (dw (by simp[a7] at h;lia)) (.cons (dw (by simp[a7] at h;lia)) .nil))))
 |.cu p q A B,n+1,h=>wo (.cons (FB _) (.cons (E5 _) (.cons (E5 _) (.cons (dw (by simp[a7] at h;lia)) (.cons (dw (by simp[a7] at h;lia)) .nil)))))
 |.link _ _,0,h=>by simp[a7] at h
 |.ei _ _,0,h=>by simp[a7] at h
 |.bo _ _ _,0,h=>by simp[a7] at h
 |.cu _ _ _ _,0,h=>by simp[a7] at h
theorem bS:∀R:Ru,Da.eq (dF R) (dF R)=true
 |.link p q=>by simp[dF,Da.eq,Da.eqs,iD]
 |.ei r A=>by simp[dF,Da.eq,Da.eqs,iD,bS A]
 |.bo r A B=>by simp[dF,Da.eq,Da.eqs,iD,bS A,bS B]
 |.cu p q A B=>by simp[dF,Da.eq,Da.eqs,iD,bS A,bS B]
def gy(E:WR):List Da:=E.map λn:Nat=>Da.s<|.int (n:Int)
theorem sO{L:qm}{n:Nat}:∀E:WR,Paired (jj L n) (jg E)<|gy E
 |[]=>.nil
 |_::r=>.cons (E5 _)<|sO r
theorem iL:∀E I:WR,Da.eqs (gy E) (gy I)=true↔E=I
 |[],[]=>by simp[gy,Da.eqs]
 |[],_::_=>by simp[gy,Da.eqs]
 |_::_,[]=>by simp[gy,Da.eqs]
 |x::r,y::J=>by
  have U:=iL r J;show(Da.eq (.s<|.int (x:Int)) (.s<|.int (y:Int))&&Da.eqs (gy r) (gy J))=true↔_;rw[AM,U];have:Da.eq (.s<|.int (x:Int)) (.s<|.int (y:Int))=true↔x=y:=by show decide ((x:Int)=(y:Int))=true↔_;rw[DZ];lia
  rw[this];constructor
  .rintro⟨rfl,rfl⟩;rfl
  .intro e;injection e with g j;exact{(g),j}
def gY(t:Tr):Da:=.lst [dF t.R,.lst<|gy t.E]
def tI{t:Tr}(I:L t.a=some (.lst [jp t.R,.ref t.b]))(J:L t.b=some (.lst<|jg t.E))(h:a7 t.R<=n+1):jj L (n+2) (.ref t.a) (gY t):=
 wy I (.cons (dw h)<|.cons (wy J<|sO _) .nil)
def Uo{t u:Tr}:Da.eq (gY t) (gY u)=true->t.E=u.E:=by intro h;have h:(Da.eq (dF t.R) (dF u.R)&&(Da.eqs (gy t.E) (gy u.E)&&true))=true:=h;rw[AM,AM] at h;exact(iL _ _).mp h.2.1
def Uq(t:Tr):Da.eq (gY t) (gY t)=true:=by show(Da.eq (dF t.R) (dF t.R)&&(Da.eqs (gy t.E) (gy t.E)&&true))=true;rw[bS,(iL _ _).mpr rfl];rfl
def cX.rd(h:cX L0 L ka fa ks fo){t:Tr}(I:t∈fo):a7 t.R<=ks.length:=by
 have h1:=ae t.R;have nd:(z9 t.R).Nodup:=by obtain⟨a,b,rfl⟩:=CN I;have:=h.nd;rw[AO,Be,Au,Au] at this;exact this.2.1.1
 have:=cQ _ _ nd λx J=>(h.sr t I).lt x J;exact IA
def cX.one(h:cX L0 L ka fa ks fo){t u:Tr}(hi:fo[i]?=some t)(I:fo[j]?=some u)(e:t.E=u.E):i=j:=by
 by_cases c:i=j
 .exact c
 .exfalso;have s:=h.sr t<|Ax hi;have l:=s.ends h.ok;obtain⟨x,J⟩:∃x,x∈t.E:=by cases g:t.E with|nil=>rw[g] at l;simp at l|cons x r=>exact{x,Ao ..}
  have o:=h.sr u<|Ax I;have p:=vh hi;have U:u∈fo.eraseIdx i:=by rw[List.mem_eraseIdx_iff_getElem?];exact{j,λz=>c z.symm,I}
  obtain⟨a,b,C⟩:=CN U;have nd:=(p.flatMap_right λt:Tr=>z9 t.R).nodup_iff.mp h.nd;rw[Be,Au] at nd;exact nd.2.2 x (s.sub x J) x (Bh.mpr {u,U,o.sub x<|e▸J}) rfl
theorem fu:∀w:Wd,w.turn.turn=w
 |.leaf t n=>by simp[Wd.turn]
 |.node e l r=>by simp[Wd.turn,fu l,fu r]
theorem gv:∀w:Wd,w.turn.depth=w.depth
 |.leaf t n=>rfl
 |.node e l r=>by simp[Wd.turn,Wd.depth,gv l,gv r]
def Fd(ks:Xc)(w:Wd)(rest:Xe)(I J:Y):Prop:=(I=.GM/\J=.GM)\/∃(j:Nat) (u:Tr) (q:Nat),rest[j]?=some u/\q∈u.E/\fD ks q w.turn/\I=.ref u.a/\J=.int (q:Int)
def Ur{g j:qm}{t1 u:Tr}{x q:Nat}{w:Wd}(B:cX L0 g ka fa ks<|t1::u::rest){fs:LO}(hf:g fa=some fs)(hx:x∈t1.E)(hq:q∈u.E)(o:fD ks x w)(p:fD ks q w.turn){U:Addr}(s:qi g j)(a1:g U=none)
 (he:j U=some (.lst<|jg<|wu t1.E u.E x q)) (I:j pa=none) (hR:R=.cu x q t1.R u.R\/R=.cu q x u.R t1.R):cX L0 (qj j pa<|.lst [jp R,.ref U]) ka fa ks (rest++[{pa,U,R,wu t1.E u.E x q}]):=by
 have t:=w9 he I;have C:=B.sr t1 (by simp);have T:=B.sr u (by simp);have J:=λz h1 h2=>B.two z (C.sub z h1)<|T.sub z h2;have bm:=y9 (E1:=t1.E) (E2:=u.E) (λh=>J x hx h) λh=>J q h hq;have YT:=yw (l:=x) (r:=q) C.YT T.YT J;have st:=cX.put (M:=g) (L':=qj j pa<|.lst [jp R,.ref U]) (old:=[t1,u]) (ms:=[]) (R:=R) (E:=wu t1.E u.E x q) (pa:=pa) (pb:=U) B (λ_ _ _ e=>e) (by rw[AI];exact B.hk) hf (s.none I) a1 (AG t) (s.trans<|By I) q9 (by rw[qf t];exact he) (by rw[AI];exact B.ok) ?_ ?_
 .rw[AI] at st;exact st
 .rw[AI];rcases hR with rfl|rfl
  .exact .cu C T hx hq o p bm YT
  .exact .cu (w:=w.turn) T C hq hx p (by rw[fu];exact o) (λz=>by rw[bm];exact Or.comm) YT
 .rcases hR with rfl|rfl
  .show(z9 t1.R++z9 u.R).Perm _;simp
  .show(z9 u.R++z9 t1.R).Perm _;simpa using Bo
def CJ(L0:qm)(ka fa:Addr)(ks:Xc)(one two:Int)(t1:Tr)(x:Nat)(w:Wd)(n:Nat)(τ:ji)(L:qm):Prop:=∃ms u q rest c9 c10 c11 c12,τ=[some<|.ref ka,some<|.ref fa,some<|.int one,some<|.int two,some<|.ref t1.a,some<|.int (x:Int),some<|cJ w,some<|.ref u.a,some<|.int ((q:Nat):Int),c9,c10,c11,c12,none]/\
 cX L0 L ka fa (ks++ms) (t1::u::rest)/\L fa=some (.lst<|zy rest)/\q∈u.E/\fD (ks++ms) q w.turn/\ms.length<=10/\rest.length<=n
inductive m7(ys:_x)(L:qm)(Q:YK):Prop
 |mk:∀L0 ka fa ks fo,∀one two:Int,(ys=[.ref ka,.ref fa,.int one,.int two])->(qA L0 L ka fa ks fo)->(1<=fo.length)->(fo.length<=110)->(ks.length<=110)->(∀L' ks' fo',qA L0 L' ka fa ks' fo'->ks'.length<=ks.length+10->1<=fo'.length->fo'.length<=fo.length->Q .GM L')->m7 ys L Q
theorem Us{FS MS:vt}(hF:∀ys L Q,fh 120 ys L Q->FS ys L Q)(hM:∀ys L Q,af 5 ys L Q->MS ys L Q):_f m7 (Um (x4 120) FS (bT 120) MS) 14:=by
 rintro ys L Q ⟨L0,ka,fa,ks,fo,one,two,rfl,F,h1,c5,br,q⟩;have big:=a_;have C:∀fo:Xe,(zy fo).length=fo.length:=λfo=>Ac ..;obtain⟨j1,I,bf,a1,a2,a3,g⟩:=wK (k:=two) F.hf (by assumption);have l1:(fo.eraseIdx j1).length+1=fo.length:=by have:=(vh bf).length_eq;rw[AK] at this;lia
 refine qa F.hf (qa F.hf {(by show(0:Int)<((zy fo).length:Int);rw[C];lia),qk F.hf {a1,a2,qg a3 ?_}});have B:=(F.b.perm<|vh bf).X5<|.lst<|(zy fo).eraseIdx (two % ((zy fo).length:Int)).toNat;generalize qj L fa _=L1 at g B ⊢;generalize fo.eraseIdx j1=rest at l1 g B;clear a1 a2 a3;have m1:I∈I::rest:=by simp
 obtain⟨a4,ac⟩:=B.ht I m1;have al:=bY B m1;have s1:=B.sr I m1;obtain⟨x,hx,ex⟩:=jC al.1<|two / 64;refine qa a4 {{by decide,by decide},qa a4 (qa ac {(by show(0:Int)<((jg I.E).length:Int);rw[Ac];omega),qa ac<|qg ex ?_})};obtain⟨w,hw,cc,bg⟩:=oS B.ok (x+1) x (by exact BI _)<|s1.lt x<|s1.sub x hx;have ck:=s1.lt x<|s1.sub x hx;refine{ka,kg ks,x,w,rfl,B.hk,hw,by lia,?_};have cm:=gv w;refine qa g {{by show _<=(((zy rest).length:Nat):Int);exact AQ _,by show(((zy rest).length:Nat):Int)<_;rw[C];omega},?_};refine sk (λi τ L'=>∃v7 v8 c9 T,τ=[some<|.ref ka,some<|.ref fa,some<|.int one,some<|.int two,some<|.ref I.a,some<|.int (x:Int),some<|cJ w,some v7,some v8,c9,T,none,none,none]/\L'=L1/\Fd ks w rest v7 v8) {_,_,_,_,rfl,rfl,.inl {(rfl),rfl}} ?_ ?_
 .rintro i τ L' hi ⟨v7,v8,c9,T,rfl,rfl,fd⟩;have hi:i<rest.length:=by have:=hi;rw[C] at this;assumption
  obtain⟨u,hu⟩:∃u,rest[i]?=some u:={_,Ag hi};have mu:u∈I::rest:=Ai _<|Ax hu;obtain⟨ua,ub⟩:=B.ht u mu;have ei:(zy rest)[i]?=some (.ref u.a):=by unfold zy;rw[Al,hu];rfl
  have e0:(0:Int)+(i:Int)=((i:Nat):Int):=by simp +arith only
  rw[e0];have bh:=xi ei;have le:=bY B mu;have su:=B.sr u mu;refine qa g<|qg bh<|qa ua ?_;refine yu (ys:=jg u.E) (aO ub) (λk τ ay=>∃v7 v8 T,τ=[some<|.ref ka,some<|.ref fa,some<|.int one,some<|.int two,some<|.ref I.a,some<|.int (x:Int),some<|cJ w,some v7,some v8,some<|.int ((i:Nat):Int),T,none,none,none]/\ay=L'/\Fd ks w rest v7 v8) {_,_,_,rfl,rfl,fd} ?_ ?_ ?_
  .rintro k τ _ ⟨_,_,_,_,rfl,_⟩;rfl
  .rintro k y τ ay ey ⟨v7,v8,T,rfl,rfl,fd⟩;obtain⟨z,ez,rfl⟩:∃z:Nat,u.E[k]?=some z/\y=Y.int (z:Int):=by rw[Al] at ey;obtain⟨z,e1,e2⟩:=Aq.mp ey;exact{(z),e1,e2.symm}
   have hz:=Ax ez;rcases fd with⟨rfl,rfl⟩|⟨j,t,q0,h1,h2,h3,rfl,rfl⟩
   .have c1:=su.lt z<|su.sub z hz;obtain⟨v,hv,cn,c6⟩:=oS B.ok (z+1) z (by exact BI _) c1;refine{ka,kg ks,z,v,rfl,B.hk,hv,by lia,hF _ _ _ {w,rfl,by lia,?_}};refine iI (u:=v) (v:=w.turn) (by lia) ?_;show aC (Da.eq (oM v)<|oM w.turn) _ _;refine Qg (λc=>?_) λc=>?_
    .have hh:=Ke _ _ c;refine qa g<|qg bh ?_;refine{_,EV _,?_};exact{_,_,_,rfl,rfl,.inr {i,u,z,hu,hz,hh▸hv,rfl,rfl}}
    .refine{_,EV _,?_};exact{_,_,_,rfl,rfl,.inl {(rfl),rfl}}
   .refine{_,EV _,?_};exact{_,_,_,rfl,rfl,.inr {(j),t,q0,h1,h2,h3,rfl,rfl}}
  .rintro τ ay ⟨v7,v8,T,rfl,rfl,fd⟩;refine{_,EV _,?_};exact{_,_,_,_,rfl,rfl,fd}
 .rintro τ L' ⟨v7,v8,c9,T,rfl,rfl,fd⟩;rcases fd with⟨rfl,rfl⟩|⟨j,u,q0,hj,aL,ba,rfl,rfl⟩
  case' inl=>
   refine{w,rfl,by lia,?_};show aC (decide<|(w.size:Int) > 5) _ _;refine zm (λc=>?_) λc=>?_
   case' refine_1=>
    refine qa g (qk g {big _ (by rw[C];lia),?_});rw[<-hX];exact vd (q _ ks (rest++[I]) {(B.perm (Cr _ _).symm).X5 _,q9} (by exact Bb _ _) (by simp) (by rw[Ad];simp;exact tz))
   case' refine_2=>
    refine{CJ L0 ka fa ks one two I x w rest.length,?_,?_}
    .refine hM _ _ _ {ka,ks,w,rfl,B.hk,(by have h1:=w.XC;have h2:=w.size_eq;lia),(by decide),bg,B.ok,by lia,λms R tp sp p hp a5=>?_};refine qk q9 ?_;intro pb bb pa J;have bc:qj L' ka (.lst<|kg<|ks++ms) p=none:=by rw[qf<|AG<|w9 B.hk hp];exact hp
     have bi:=w9 q9 J;have nb:=(By bc).none bb;have na:=((By bc).trans<|By bb).none J;have bj:qj L' ka (.lst<|kg<|ks++ms) fa=some (.lst<|zy rest):=by rw[qf<|AG B.YB];exact g
     generalize hL:qj (qj (qj _ p _) pb _) pa _=LF;have sA:qi (qj L' ka<|.lst<|kg<|ks++ms) LF:=by rw[<-hL];exact((By bc).trans<|By bb).trans (By J)
     have ea:LF pa=some (.lst [jp R,.ref pb]):=by rw[<-hL];exact q9
     have eb:LF pb=some (.lst<|jg [tp,sp]):=by rw[<-hL,qf bi];exact q9
     clear hL;refine{ms,{pa,pb,R,[tp,sp]},tp,rest,_,_,_,_,rfl,?_,sA _ _ bj,Ao ..,a5.wt,by have:=a5.len;lia,Am _};have st:=cX.put (old:=[]) B (λz o n e=>(qf n).trans e) q9 bj na nb (AG bi) sA ea eb a5.ok a5.sr (by rw[C5,AI];exact(Bf a5.nd Ei).mpr λz=>by rw[a5.tm,Du]);exact st.perm<|(Cr _ _).trans<|List.Perm.swap _ _ _
  case' inr=>
   refine{CJ L0 ka fa ks one two I x w rest.length,?_,?_}
   .refine qa g<|qk g {rest.map gY,gY u,120,120,j,by decide,?_,?_,?_,{gY u,?_,Uq u},λk d hk ek=>?_,?_}
    .have dd:∀l:Xe,(∀t∈l,t∈I::rest)->Paired (jj L' 120) (zy l) (l.map gY):=λl=>by
      induction l with
      |nil=>intro _;exact .nil
      |cons t r ih=>
       intro h;have mt:=h t<|Ao ..;obtain⟨h1,h2⟩:=B.ht t mt;have:=B.rd mt;exact .cons (tI (n:=118) h1 h2 (by lia))<|ih λt ht=>h t<|Ai _ ht
     exact dd rest λt ht=>Ai _ ht
    .have mt:u∈I::rest:=Ai _<|Ax hj;obtain⟨h1,h2⟩:=B.ht u mt;have:=B.rd mt;exact tI (n:=118) h1 h2 (by omega)
    .rw[Ac];exact(AN.mp hj).1
    .rw[Al,hj];rfl
    .rw[Al] at ek;obtain⟨v,ev,rfl⟩:=Aq.mp ek;cases c:Da.eq (gY v) (gY u) with
     |false=>rfl
     |true=>
      have:=B.one (i:=k+1) (j:=j+1) (by simpa using ev) (by simpa using hj)<|Uo c;lia
    .rw[o8];have B2:=(B.perm<|(vh hj).cons _).X5<|.lst<|zy<|rest.eraseIdx j;exact{[],u,q0,rest.eraseIdx j,_,_,_,_,rfl,(AI ks).symm▸B2,q9,aL,(AI ks).symm▸ba,A5 _,Dm ..}
  all_goals
   rintro cv L' ⟨ms,u,q0,U,c9,T,cy,cI,rfl,B',hf,aL,ba,cP,d0⟩;have m1:I∈I::u::U:=by simp
   have m2:u∈I::u::U:=by simp
   obtain⟨a4,ac⟩:=B'.ht I m1;obtain⟨bd,c2⟩:=B'.ht u m2;have al:=bY B' m1;have c3:=bY B' m2;rw[Ad] at al c3;refine qa a4 (qa bd {_,_,ac,c2,cZ (by rw[Ac,Ac];omega),λpp bn=>?_});rw[<-kH];refine Kd (E:=I.E++u.E) (l:=x) (r:=q0) (k:=14) q9 (by rw[Ad];omega) (λy' Q' h=>h) (λ_=>rfl) λpe bp=>?_;have bq:=(By bn).none bp;generalize hL:qj (qj L' pp _) pe _=L4;have s4:qi L' L4:=by rw[<-hL];exact(By bn).trans (By bp)
   have c4:L4 pe=some (.lst<|jg<|wu I.E u.E x q0):=by rw[<-hL];exact q9
   have done:∀(R:Ru) pa,L4 pa=none->(R=.cu x q0 I.R u.R\/R=.cu q0 x u.R I.R)->Q .GM (qj (qj L4 pa<|.lst [jp R,.ref pe]) fa<|.lst<|zy U++[.ref pa]):=λR pa J hR=>by rw[<-hX U ⟨pa,pe,R,wu I.E u.E x q0⟩];exact q _ (ks++ms) (U++[{pa,pe,R,wu I.E u.E x q0}]) {(Ur B' hf hx aL (hw.more ms) ba s4 bq c4 J hR).X5 _,q9} (by rw[Ad];omega) (by simp) (by rw[Ad];simp;omega)
   refine{(by show(0:Int)<2;decide),?_};show aC (decide<|one % 2=0) _ _;refine zm (λc=>?_) λc=>?_
   .refine qa (s4 _ _ hf)<|qa (s4 _ _ a4)<|qa (s4 _ _ bd) λpa J=>?_;refine qk (By J _ _<|s4 _ _ hf) {big _ (by rw[C];omega),?_};exact vd<|done _ pa J<|.inl rfl
   .refine qa (s4 _ _ hf)<|qa (s4 _ _ bd)<|qa (s4 _ _ a4) λpa J=>?_;refine qk (By J _ _<|s4 _ _ hf) {big _ (by rw[C];omega),?_};exact vd<|done _ pa J<|.inr rfl
def Kf(g:vt)(I:vt)(J:vt)(U:vt)(l:vt):RD "_law_tree" lv 128 ["_law_cells","_law_seed","_law_room","_law_knots","_law_forest","_law_k","_law_cell","_law_one","_law_two","_law_deed","_law_at"] (λV=>Ho V g/\Jv V I/\Jz V J/\Jy V U/\asg V l):={_,λV B c _ _ _ _ _ _ _ o hN p=>(qb (S_ 3 hN<|zj xn)<|qb (S_ 4 hN<|zj xn)<|qb (aU ya rfl (m5 rfl B.bq<|qv 0) (kz (n:=2) rfl<|qw (G_ 5 hN)<|qw (G_ 6 hN) v5)<|qb (Ja (i:=7) (j:=8) rfl hN rfl rfl (by decide) rfl rfl (vj (C_ c.1 o<|aA (qv 6) (qv 5) qd)<|C_ c.1 o<|aA (qv 6) (qv 5) qd) rfl)<|qb (zo (js FR (ql jf (ql jf (L_ B.ba<|qv 3)<|L_ B.ba<|qv 4) qd) (qv 2)<|jv _) (qe uU) zg)<|qb (S_ 9 hN<|ql zw (qv 7) qd)<|qb (S_ 7 hN<|ql kh (qv 7) qd)<|qe<|zo (xo<|fJ (js jQ (qv 9) qd<|jv _)<|bX<|E_ p (qv 4)<|zj xn) (qb (qz<|ze (qv 3)<|jm<|qr<|vj jd<|C_ c.2.1 o<|vj (qv 1)<|ql zw (qv 8) qd)<|qb (qz<|ze (qv 3)<|jm<|qr<|vj jd<|C_ c.2.1 o<|vj (qv 1)<|ql zw (qv 8) qd)<|vk (zo (E_ p (ql zw (qv 7) qd) qd) (qe<|qz<|ze (qv 3)<|jm<|dC (qv 3)<|jm<|ql aB (L_ B.ba<|qv 3) qd) zg)<|qb (S_ 10 hN<|ql aB (L_ B.ba<|qv 3) qd)<|qe<|qz<|ze (qv 4)<|jm<|zj<|vj (qr<|aA jd (qv 10)<|ql jf (qv 10) qd)<|zj<|vj (qv 10)<|ql jf (qv 10) qd)<|qe<|zo (js jQ (qv 9) qd<|jv _) (qe<|qz<|C_ c.2.2.1 o<|jr (qv 3)<|aA (I_ (qv 4)<|ql zw (qv 8)<|L_ B.ba<|qv 4) (qv 7)<|ql kh (qv 8) qd)<|qe<|zo (xo<|vf (js jQ (qv 9) qd<|jv _)<|jx<|js FR (L_ B.ba<|qv 4) qd<|jv _) (qe<|qz<|C_ c.2.2.2.1 o<|jr (qv 3)<|aA (qv 4) (qv 7)<|qv 8)<|qe<|qz<|C_ c.2.2.2.2 o<|jr (qv 3)<|aA (qv 4) (qv 7)<|qv 8)<|vk (zo (E_ p (qv 4)<|zj xn) (qb (qz<|ze (qv 3)<|jm<|qr<|vj jd<|C_ c.2.1 o<|vj (qv 1) qd)<|qb (qz<|ze (qv 3)<|jm<|qr<|vj jd<|C_ c.2.1 o<|vj (qv 1) qd)<|qe<|qz<|ze (qv 4)<|jm<|zj<|vj (qr<|aA jd qd qd)<|zj<|vj qd qd) zg)<|qb (oK ya (js FR (L_ B.ba<|qv 4) qd<|jv _)<|qe<|qz<|C_ c.2.2.2.1 o<|jr (qv 3)<|aA (qv 4) (ql jf (ql kh (qv 1) qd)<|L_ B.ba<|qv 4)<|ql kh (qv 1) qd)<|qe<|qu<|qr<|vj (qv 3)<|I_ (J_ 4) qd)}
theorem qA.mono(h:qA L0 L ka fa ks fo)(s:qi L L'):qA L0 L' ka fa ks fo:={h.b.mono s,s _ _ h.hf}
def cX.plus{I:qm}{t':Tr}{fs:LO}(B:cX L0 L ka fa ks rest)(j:L fa=some fs)(sA:qi (qj L ka<|.lst<|kg<|ks++ms) I)(ea:I t'.a=some (.lst [jp t'.R,.ref t'.b]))(eb:I t'.b=some (.lst<|jg t'.E))
 (J:qj L ka (.lst<|kg<|ks++ms) t'.a=none) (U:qj L ka (.lst<|kg<|ks++ms) t'.b=none) (g:t'.a≠t'.b) (ok:av<|ks++ms) (l:SR (ks++ms) t'.R t'.E) (p:∀x,x∈z9 t'.R↔ks.length<=x/\x<ks.length+ms.length) (nd:(z9 t'.R).Nodup):
 cX L0 I ka fa (ks++ms) (rest++[t']):=by
 exact cX.put (old:=[]) B (λz o n e=>(qf n).trans e) q9 (by rw[qf<|AG B.YB];exact j) J U g sA ea eb ok l (by rw[C5,AI];exact(Bf nd Ei).mpr λz=>by rw[p,Du])
theorem qA.link(F:qA L0 L ka fa ks fo){nm:Str}(j:fQ nm)(b:Bool)(J:qj L ka (.lst<|kg<|ks++[.lf b nm,.lf (!b) nm]) pb=none)
 (U:qj (qj L ka<|.lst<|kg<|ks++[.lf b nm,.lf (!b) nm]) pb (.lst<|jg [ks.length,ks.length+1]) pa=none) {fs:_x} (g:fs=zy fo++[.ref pa]):
 qA L0 (qj (qj (qj (qj L ka<|.lst<|kg<|ks++[.lf b nm,.lf (!b) nm]) pb<|.lst<|jg [ks.length,ks.length+1]) pa<|.lst [jp<|.link ks.length<|ks.length+1,.ref pb]) fa<|.lst fs) ka fa (ks++[.lf b nm,.lf (!b) nm]) (fo++[{pa,pb,.link ks.length<|ks.length+1,[ks.length,ks.length+1]}]):=by
 have I:=w9 q9 U;have M:=wD F.b.ok (t:=!b) j;rw[Bool.not_not] at M;refine{(cX.plus F.b F.hf ((By J).trans<|By U) q9 (by rw[qf I];exact q9) ((By J).none U) J (AG I) M.ok M.sr M.tm M.nd).X5 _,?_};rw[q9,g];unfold zy;rw[Av];rfl
def cX.ZJ(h:cX L0 L ka fa ks fo)(g:ks.length<=120):Paired (jj L 124) (zy fo) (fo.map gY):=by
 have J:∀l:Xe,(∀t∈l,t∈fo)->Paired (jj L 124) (zy l) (l.map gY):=λl=>by
  induction l with
  |nil=>intro _;exact .nil
  |cons t r U=>
   intro k;have mt:=k t<|Ao ..;obtain⟨h1,h2⟩:=h.ht t mt;have:=h.rd mt;exact .cons (tI (n:=122) h1 h2 (by lia))<|U λt I=>k t<|Ai _ I
 exact J fo λt I=>I
def zJ(fo:Xe):Da.eqs (fo.map gY) []=decide (fo=[]):=by cases fo<;>rfl
inductive jB(ys:_x)(L:qm)(Q:YK):Prop
 |mk:∀cy,∀ns:WV,∀s:Int,∀room:Nat,(ys=[cy,.int s,.int (room:Int)])->(cy=.sq (ns.map Y.int))->(ns.length<=1000)->(room<=120)->(∀ka ks R E,L ka=none->av ks->SR ks R E->(z9 R).Perm (List.range ks.length)->ks.length<=max room 2->Q (.tup [.ref ka,jp R]) (qj L ka<|.lst<|kg ks))->jB ys L Q
def TW(L0:qm)(ka fa:Addr)(s:Int)(room:Nat)(τ:ji)(L:qm):Prop:=∃c0 I J c7 c8 c9 c10 ks fo,τ=[c0,some<|.int s,some<|.int (room:Int),some<|.ref ka,some<|.ref fa,I,J,c7,c8,c9,c10]/\qA L0 L ka fa ks fo/\ks.length+fo.length<=room
def TW.of{s:Int}{room:Nat}{I J:Xb}(F:qA L0 L ka fa ks fo)(h:ks.length+fo.length<=room):TW L0 ka fa s room [c0,some<|.int s,some<|.int (room:Int),some<|.ref ka,some<|.ref fa,I,J,c7,c8,c9,c10] L:={_,_,_,_,_,_,_,ks,fo,rfl,F,h}
def Ut:_f jB (Kf cr iX ip nG m7).1 11:=by
 rintro ys L Q ⟨cy,ns,s,room,rfl,bc,bg,bd,q⟩;have big:=a_;have J:∀fo:Xe,(zy fo).length=fo.length:=λfo=>Ac ..;have C:∀I:Xc,(kg I).length=I.length:=λI=>Ac ..;intro U al g ay;have YB:=w9 q9 ay;have ba:=(By al).none ay;have F0:qA L (qj (qj L U<|.lst []) g<|.lst []) U g [] []:=by
  refine{{by rw[qf YB];exact q9,λt ht=>by simp at ht,λt ht=>by simp at ht,by simp,by simp,by simp[YB],λp k e=>by simp at e,(By al).trans<|By ay,λx hx=>?_},q9};rcases As.mp hx with rfl|hx
  .exact al
  .rw[Ap.mp hx];exact ba
 generalize qj (qj L U<|.lst []) g (.lst [])=L1 at F0;subst bc
 all_goals
  refine aV {λ_ τ L'=>TW L U g s room τ L',?_,?_,?_,?_}
  .exact TW.of F0<|A5 _
  .rintro i τ L' ⟨T,c5,c6,c7,c8,c9,l,I,fo,rfl,F,hb⟩;exact True.intro
  .rintro i y τ L' ey ⟨T,c5,c6,c7,c8,c9,l,I,fo,rfl,F,hb⟩;obtain⟨z,ez,rfl⟩:=iJ ey;obtain⟨cell,ec,rfl⟩:∃cell:Int,ns[i]?=some cell/\z=Y.int cell:=by rw[Al] at ez;obtain⟨z,e1,e2⟩:=Aq.mp ez;exact{(z),e1,e2.symm}
   have hi:=(AN.mp ec).1;refine{cell,((i:Nat):Int),48271,rfl,by exact AQ _,by omega,by decide,by decide,λone h1 bh=>{cell,((i:Nat):Int),69621,rfl,by exact AQ _,by omega,by decide,by decide,λtwo h2 bi=>?_}};refine qa F.b.hk<|qa F.hf ?_;refine zm (λc=>?_) λc=>?_
   .exact{_,EV _,TW.of F hb}
   have c:¬((((kg I).length:Nat):Int)+(((zy fo).length:Nat):Int)+12 > (room:Int)):=c;rw[C,J] at c;refine{(by decide:(0:Int)<9),{by decide,by decide},?_};refine zm (λc3=>?_) λc3=>?_
   case' refine_1=>
    obtain⟨L2,bb⟩:∃L2,L2=L':={_,rfl};rw[<-bb];have F':qA L L2 U g I fo:=by rw[bb];exact F
   case' refine_2=>
    intro p hp;refine kq (by decide) (By hp _ _ F.hf) q9 ((F.b.mono<|By hp).ZJ (by lia)) (.nil:Paired (jj _ 0) _ []) ?_;show aC (Da.eqs (fo.map gY) []) _ _;rw[zJ];have F':qA L (qj L' p<|.lst []) U g I fo:=F.mono<|By hp;generalize qj L' p (.lst [])=L2 at F';refine zm (λT=>?_) λT=>?_
   case' refine_2.refine_2=>
    have bf:0<fo.length:=by cases fo with|nil=>exact absurd rfl T|cons _ _=>simp
    have F:=F';refine zm (λc6=>?_) λc6=>?_
    .obtain⟨j,t,ej,lj,et⟩:=bz bf two;refine qa F.hf {(by show(0:Int)<((zy fo).length:Int);rw[J];lia),qa F.hf (qg (v:=.ref t.a) (by show fG (zy fo) (two % ((zy fo).length:Int))=_;rw[J,ej];exact xi (by unfold zy;rw[Al,et];rfl)) ?_)};obtain⟨pre,post,ep⟩:=CN<|Ax et;rw[ep] at F hb;refine{{by decide,by decide},L,U,g,I,pre,post,t,one / 9,two / 64,rfl,F,by lia,λL3 a1 a2 F3 h1 h2 _=>?_};refine{_,EV _,?_};exact TW.of F3 (by rw[ep] at c;lia)
    refine zm (λc8=>?_) λc8=>?_
    .refine qa F.hf ?_;refine zm (λc1=>?_) λc1=>?_
     .have c1:(((zy fo).length:Nat):Int) > 1:=c1;rw[J] at c1;refine{L,U,g,I,fo,one / 9,two,rfl,F,by lia,by lia,by lia,λL3 a1 a2 F3 h1 h2 _=>?_};refine{_,EV _,?_};exact TW.of F3 (by lia)
     .refine{L,U,g,I,fo,one / 9,two,rfl,F,by assumption,by lia,by lia,λL3 a1 a2 F3 h1 h2 h3=>?_};refine{_,EV _,?_};exact TW.of F3 (by lia)
    .refine{L,U,g,I,fo,one / 9,two,rfl,F,by lia,by lia,by lia,λL3 a1 a2 F3 h1 h2 h3=>?_};refine{_,EV _,?_};exact TW.of F3 (by lia)
   all_goals
    obtain⟨nm,a3⟩:∃nm,nm=o_ (ax s<|two % 3):={_,rfl};have aL:fQ nm:=by rw[a3];exact uw _ _
    refine qa F'.b.hk {(by decide:(0:Int)<3),s,two % 3,rfl,qk F'.b.hk {big _ (by rw[C];omega),?_}};refine qa q9 {(by decide:(0:Int)<3),s,two % 3,rfl,qk q9 {big _ (by rw[Ad,C];simp;omega),?_}};rw[<-a3,kc];have e1:(kg I++[.tup [.str "plain",.str nm]])++[.tup [.str "turned",.str nm]]=kg (I++[.lf false nm,.lf true nm]):=by unfold kg;rw[Av,Ay];rfl
    rw[e1];refine{λτ L3=>∃(b:Bool) (d0 ZE:Xb),τ=[d0,some<|.int s,some<|.int (room:Int),some<|.ref U,some<|.ref g,some<|.int ((i:Nat):Int),some<|.int cell,some<|.int<|one / 9,some<|.int two,some<|.int<|one % 9,ZE]/\L3=qj L2 U (.lst<|kg<|I++[.lf b nm,.lf (!b) nm]),?_,?_}
    .refine{(by decide:(0:Int)<2),?_};show aC (decide<|one / 9 % 2=1) _ _;refine zm (λc2=>?_) λc2=>?_
     .have l2:(kg<|I++[Kn.lf false nm,.lf true nm]).length=I.length+2:=by rw[C,Ad];rfl
      have t2:((((kg<|I++[Kn.lf false nm,.lf true nm]).length:Nat):Int)-2).toNat=I.length:=by rw[l2];omega
      refine qa q9<|qa q9<|qa q9<|qk q9 {?_,?_,qg (v:=qC<|.lf false nm) ?_ ?_}
      .show(0:Int)<=(((kg<|I++[Kn.lf false nm,.lf true nm]).length:Nat):Int)-2;rw[l2];omega
      .show(((kg<|I++[Kn.lf false nm,.lf true nm]).length:Nat):Int)-2<_;omega
      .show(kg<|I++[Kn.lf false nm,.lf true nm])[((((kg<|I++[Kn.lf false nm,.lf true nm]).length:Nat):Int)-2).toNat]?=_;rw[t2];unfold kg;rw[Al,dq];rfl
      .rw[kc];refine qk q9 {big _ ?_,?_}
       .refine AS (Dm ..) ?_;show(kg<|I++[Kn.lf false nm,.lf true nm]).length<=20000;rw[l2];omega
       .refine{true,_,_,rfl,?_};rw[kc];have e3:(kg<|I++[Kn.lf false nm,.lf true nm]).eraseIdx ((((kg<|I++[Kn.lf false nm,.lf true nm]).length:Nat):Int)-2).toNat++[qC<|.lf false nm]=kg (I++[.lf true nm,.lf false nm]):=by rw[t2];unfold kg;rw[Av,List.eraseIdx_append_of_length_le (by simp),Ac,Ds,Av,Ay];rfl
        rw[e3];rfl
     .exact{false,_,_,rfl,rfl}
    .rintro bj L3 ⟨b,d0,ZE,rfl,rfl⟩;have l2:(kg<|I++[Kn.lf b nm,.lf (!b) nm]).length=I.length+2:=by rw[C,Ad];rfl
     have nn:(((kg<|I++[Kn.lf b nm,.lf (!b) nm]).length:Nat):Int)-2=((I.length:Nat):Int):=by rw[l2];omega
     have a4:qj L2 U (.lst<|kg<|I++[.lf b nm,.lf (!b) nm]) g=some (.lst<|zy fo):=by rw[qf<|AG YB];exact F'.hf
     have en:∀z:Int,z=((I.length:Nat):Int)->jg [I.length,I.length+1]=[.int z,.int<|z+1]:=λz e=>by rw[e];rfl
     have er:∀z:Int,z=((I.length:Nat):Int)->jp (.link I.length<|I.length+1)=.tup [.str "link",.int z,.int<|z+1]:=λz e=>by rw[e];rfl
     have en:=en _ nn;have er:=er _ nn;refine qa q9<|qa a4 λpb a5 pa ac=>?_;have H:=F'.link aL b (pb:=pb) (pa:=pa) a5 (by rw[en];exact ac) rfl;refine qk (((By a5).trans<|By ac) _ _ a4) {big _ (by rw[J];omega),?_};rw[en,er] at H;refine{_,EV _,?_};exact TW.of H (by rw[Ad,Ad];simp;omega)
  .rintro τ L' ⟨T,c5,c6,c7,c8,c9,l,I,fo,rfl,F,hb⟩;refine{λτ L3=>∃T c5 c6 c7 c8 c9 l I fo,τ=[T,some<|.int s,some<|.int (room:Int),some<|.ref U,some<|.ref g,c5,c6,c7,c8,c9,l]/\qA L L3 U g I fo/\1<=fo.length/\I.length+fo.length<=max room 3,?_,?_}
   .intro p hp;refine kq (by decide) (By hp _ _ F.hf) q9 ((F.b.mono<|By hp).ZJ (by lia)) (.nil:Paired (jj _ 0) _ []) ?_;show aC (Da.eqs (fo.map gY) []) _ _;rw[zJ];have F':qA L (qj L' p<|.lst []) U g I fo:=F.mono<|By hp;generalize qj L' p (.lst [])=L2 at F';refine zm (λT=>?_) λT=>?_
    .subst T;have k0:I=[]:=by cases I with|nil=>rfl|cons k r=>exact absurd ((F.b.tm 0).mpr (by simp)) (by simp)
     subst k0;obtain⟨nm,a3⟩:∃nm,nm=o_ (ax s 0):={_,rfl};have aL:fQ nm:=by rw[a3];exact uw _ _
     refine qa F'.b.hk {s,0,rfl,qk F'.b.hk {big _ (by decide),?_}};refine qa q9 {s,0,rfl,qk q9 {big _ (by show 1<=20000;decide),?_}};rw[<-a3,kc];have a4:∀o,qj L2 U o g=some (.lst<|zy []):=λo=>by rw[qf<|AG YB];exact F'.hf
     refine qa (a4 _) λpb a5 pa ac=>?_;have H:=F'.link aL true (pb:=pb) (pa:=pa) a5 ac rfl;refine qk (((By a5).trans<|By ac) _ _<|a4 _) {big _ (by show 0<=20000;decide),?_};exact{_,_,_,_,_,_,_,_,_,rfl,H,by simp,by simp;lia}
    .exact{_,_,_,_,_,_,_,I,fo,rfl,F',(by cases fo with|nil=>exact absurd rfl T|cons _ _=>simp),by lia}
   .rintro τ L' ⟨T,c5,c6,c7,c8,c9,l,I,fo,rfl,F,h1,hb⟩;refine{λm τ L3=>∃T c5 c6 c7 c8 c9 l I fo,τ=[T,some<|.int s,some<|.int (room:Int),some<|.ref U,some<|.ref g,c5,c6,c7,c8,c9,l]/\qA L L3 U g I fo/\1<=fo.length/\fo.length=m/\I.length+fo.length<=max room 3,{_,_,_,_,_,_,_,_,_,_,rfl,F,h1,rfl,hb},?_};rintro m τ L' ⟨T,c5,c6,c7,c8,c9,l,I,fo,rfl,F,h1,hm,hb⟩;refine qa F.hf ?_;refine zm (λc1=>?_) λc1=>?_
    .have c1:(((zy fo).length:Nat):Int) > 1:=c1;rw[J] at c1;refine{λτ L3=>∃T c5 c6 c7 c8 c9 l I fo,τ=[T,some<|.int s,some<|.int (room:Int),some<|.ref U,some<|.ref g,c5,c6,c7,c8,c9,l]/\qA L L3 U g I fo/\1<=fo.length/\fo.length+1=m/\I.length+fo.length<=max room 3,?_,?_}
     .rintro τ L3 ⟨d0,d5,d6,d7,d8,d9,ZE,a1,a2,rfl,F3,g1,g2,g3⟩;exact{m-1,by lia,_,_,_,_,_,_,_,_,_,rfl,F3,g1,by lia,g3}
     .refine{{by decide,by decide},qa F.hf {{by decide,by decide},L,U,g,I,fo,_,_,rfl,F,by lia,by lia,by lia,λL3 a1 a2 F3 g1 g2 _=>?_}};exact{_,EV _,_,_,_,_,_,_,_,a1,a2,rfl,F3,by lia,by lia,by lia}
    .have c1:¬((((zy fo).length:Nat):Int) > 1):=c1;rw[J] at c1;obtain⟨t,rfl⟩:∃t,fo=[t]:=by
      match fo,h1,c1 with
      |[t],_,_=>exact{(t),rfl}
      |t::u::r,_,c=>exact absurd (show(((t::u::r).length:Nat):Int) > 1 by simp;lia) c
     have ta:=(F.b.ht t<|Ao ..).1;refine qa F.hf<|qa ta ?_;refine dX (qi.put F.b.sub F.b.hk)<|q U I t.R t.E al F.b.ok (F.b.sr t<|Ao ..) ?_ ?_
     .have nd:=F.b.nd;have tm:=F.b.tm;simp at nd tm;exact(Bf nd Co).mpr λx=>by rw[tm,AX]
     .simp at hb;lia
def ar(p q:WZ):Prop:=p.1<q.1\/(p.1=q.1/\p.2<=q.2)
def x6(p:WZ):Int×Int:=((p.1:Int),(p.2:Int))
def gE{p q:WZ}(h:x6 p=x6 q):p=q:=by obtain⟨a,b⟩:=p;obtain⟨c,d⟩:=q;have h1:(a:Int)=c:=Br Prod.fst h;have h2:(b:Int)=d:=Br Prod.snd h;rw[Bp.mp h1,Bp.mp h2]
def vz(ps:WN):qt ps=(ps.map x6).map rW:=by rw[BC];rfl
def lT{a:Addr}{ps:WN}{Q:YK}(U:L a=some (.lst<|qt ps))(g:∀p∈ps,p.2<1000000)(nd:ps.Nodup)(j:ps.length<=127)
 (q:∀D qs,L D=none->qs.Perm ps->qs.Pairwise ar->Q (.ref D) (qj L D<|.lst<|qt qs)):aI [.ref a] L Q:=by
 refine qk U {ps.map x6,vz ps,λp l=>?_,?_,by rw[Ac];exact j,λD qs o pm t=>?_}
 .obtain⟨r,C,rfl⟩:=A7.mp l;have:=g r C;exact{AQ _,by show((r.2:Nat):Int)<1000000;omega}
 .exact fj (λx _ y _ e=>gE e) nd
 .obtain⟨T,pT,rfl⟩:=jW x6 pm rfl;rw[<-vz];refine q D T o pT<|(BP.mp t).imp λ{x y} z=>?_;unfold ar;rcases z with z|⟨I,J⟩
  .left;have z:((x.1:Nat):Int)<y.1:=z;lia
  .right;have I:((x.1:Nat):Int)=y.1:=I;have J:((x.2:Nat):Int)<=y.2:=J;exact{by lia,by lia}
def ud{m:WZ->WZ}{keep:qm->Prop}{Q:YK}(hz:lk.length<=127)(l:keep L)
 (turn:∀(i:Nat) (I:WZ) (R:_x->qm->Prop) zs,lk[i]?=some I->R (zs++[gd<|m I]) L->g (gd I) (τ++List.replicate 2 none) L λJ L2=>tc J L2 λb L3=>aC b (te J L3 λz o=>R (zs++[z]) o)<|R zs L3)
 (r:∀p,L p=none->Q (.ref p) (qj L p<|.lst<|qt<|lk.map m)):yr (qt lk) keep 2 g tc te τ L Q:=by
 refine bx (λi zs=>zs=qt ((lk.take i).map m)) (by rw[Ac];exact Bs hz (by decide)) l rfl ?_ ?_
 .rintro i y zs U rfl;rw[Al] at U;obtain⟨I,j,rfl⟩:=Aq.mp U;refine turn i I _ _ j {L,EV _,rfl,?_};rw[Bi,j,Av];show _=(_++_:WN).map gd;rw[Av];rfl
 .rintro zs rfl p t;rw[Ac,Bg];exact r p t
structure yM(L0:qm)(ks:List<|Xd)(qs:WR)(d w D:Addr)(i ex:Nat)(f:WY)(wd:List<|Xd)(kvs:List<|jn×Y)(L:qm):Prop where
 sub:qi L0 L
 hd:L d=some (.XI kvs)
 hw:L w=some (.lst<|jz wd)
 hD:L D=some (.lst<|nY qs)
 len:kvs.length<=i
 val:∀p:Nat,bA kvs (.inl (p:Int))=if p∈qs.take i then some (.int (f p:Int)) else none
 gap:tL ks (qs.take i) f wd
 YU:wd.length<=2*i+ex
def Y8(f:WY)(p:WZ):WZ:=(min (f p.1)<|f p.2,max (f p.1)<|f p.2)
def Zd(f:WY)(p:WZ):WZ:=(f p.1,f p.2)
structure Yg(f:WY)(ks wd:List<|Xd):Prop where
 gap:tL ks (List.range ks.length) f wd
 len:wd.length<=2*ks.length+1
inductive dS(Pt:Addr)(ys:_x)(L:qm)(Q:YK):Prop
 |mk:∀a l c,∀ks:List (Xd),∀lk ct:WO,∀s:Int,∀b:Bool,(ys=[.ref a,.ref l,.ref c,.int s,.bl b])->(L a=some (.lst<|jz ks))->(L l=some (.lst<|qt lk))->(L c=some (.lst<|qt ct))->(pI ks)->(ks.length<=127)->(L Pt=some (.tb XD))->(lk.Nodup)->((∀p∈lk,p.1<p.2/\p.2<ks.length))->(lk.length<=127)->(ct.Nodup)->((∀p∈ct,p.1<ks.length/\p.2<ks.length))->(ct.length<=127)->(∀f wd lk' ct' wa la ca L',Yg f ks wd->lk'.Perm (lk.map<|Y8 f)->lk'.Pairwise ar->ct'.Perm (ct.map<|Zd f)->ct'.Pairwise ar->qi L L'->L wa=none->L la=none->L ca=none->wa≠la->wa≠ca->la≠ca->L' wa=some (.lst<|jz wd)->L' la=some (.lst<|qt lk')->L' ca=some (.lst<|qt ct')->Q (eI wa la ca) L')->dS Pt ys L Q
def iN(wd:List<|Xd)(k:Xd):jz wd++[jF k]=jz (wd++[k]):=by unfold jz;rw[Av];rfl
def jo(wd:List<|Xd):(jz wd).length=wd.length:=Ac ..
def yM.wide{ks:List<|Xd}{d w D:Addr}{ex ex':Nat}{f:WY}{wd':List<|Xd}{kvs:List<|jn×Y}(G:yM L0 ks qs d w D i ex f wd kvs L)(h0:L0 w=none)(I:d≠w)(J:w≠D)(g:tL ks (qs.take i) f wd')(h:wd'.length<=2*i+ex'):
 yM L0 ks qs d w D i ex' f wd' kvs (qj L w<|.lst<|jz wd'):=
 ⟨G.sub.upd h0,(qf I).trans G.hd,q9,(qf<|AG J).trans G.hD,G.len,G.val,g,h⟩
theorem tL.ZK{ks:List<|Xd}{ps:WR}{f:WY}(h:tL ks ps f wd):∀n,tL ks ps f<|wd++List.replicate n none
 |0=>by rw[List.replicate_zero,AI];exact h
 |n+1=>by rw[List.replicate_succ',<-Ay];exact(h.ZK n).gap
def Uu{a b c:Nat}(h1:min a b=min c d)(h2:max a b=max c d):(a=c/\b=d)\/(a=d/\b=c):=by lia
theorem Uv :_f (dS Pt) (pQ (iP Pt) cr) 9:=by
 rintro ys L Q ⟨a,l,c,T,lk,ct,s,b,rfl,ha,hl,hc,ok,hz,hP,ck,a4,cm,cn,a5,cv,q⟩;have big:=a_;intro d hd w hw;have bf:=vm hw;have a2:=w9 q9 hw;have s0:qi L (qj (qj L d<|.XI []) w<|.lst []):=(By hd).trans<|By hw;refine{a,T,s,rfl,s0 _ _ ha,ok,by exact fV,s0 _ _ hP,λD I hD pm pf=>?_};have dV:=vm<|vm hD;have bb:=w9 q9 hD;have bg:=w9 ((qf a2).trans q9) hD;have lq:I.length=T.length:=by rw[pm.length_eq,Cu]
 have cy:=pm.nodup_iff.mpr Co;have mq:∀p∈I,p<T.length:=λp j=>AX.mp<|pm.mem_iff.mp j;have G0:yM L T I d w D 0 0 (λ_=>0) [] [] (qj (qj (qj L d<|.XI []) w<|.lst []) D<|.lst<|nY I):=
  ⟨s0.trans<|By hD,(qf bg).trans<|(qf a2).trans q9,(qf bb).trans q9,q9,Am _,λp=>rfl,tL.nil _ _,Am _⟩
 refine xg q9 λkeep kp=>aV {λi τ L'=>∃f C J c7 c8,τ=[some<|Y.ref a,some<|Y.ref l,some<|Y.ref c,some<|.int s,some<|.bl b,some<|Y.ref d,some<|Y.ref w,c7,c8]/\yM L T I d w D i 0 f C J L',{_,_,_,_,_,rfl,G0},?_,?_,?_}
 .rintro i τ L' ⟨f,C,J,c7,c8,rfl,G⟩;exact kp L' (by rw[G.hD,q9])
 .rintro i y τ L' hy ⟨f,C,J,c7,c8,rfl,G⟩;obtain⟨p,ep,rfl⟩:=TC hy;have hi:=zf ep;have j:=mq p<|Ax ep;obtain⟨k,hk⟩:∃k,T[p]?=some k:={_,Ag j};have pn:p∉I.take i:=λhm=>by
   have e2:I=I.take i++p::I.drop (i+1):=by rw[Ag hi] at ep;rw[<-A2 ep,Dt,A9]
   have nd:=cy;rw[e2] at nd;exact(Au.mp nd).2.2 p hm p (Ao ..) rfl
  have et:I.take (i+1)=I.take i++[p]:=by rw[Bi,ep];rfl
  refine{λa3 L1=>∃wd',a3=[some<|Y.ref a,some<|Y.ref l,some<|Y.ref c,some<|.int s,some<|.bl b,some<|Y.ref d,some<|Y.ref w,some<|.int (p:Nat),c8]/\yM L T I d w D i 1 f wd' J L1,?_,?_}
  .have plain:yM L T I d w D i 1 f C J L':={G.sub,G.hd,G.hw,G.hD,G.len,G.val,G.gap,by have:=G.YU;exact Iy};cases b with
   |false=>exact{(C),rfl,plain}
   |true=>
    refine{s,(p:Nat),40692,rfl,by exact AQ _,by omega,by decide,by decide,λv h0 h1=>?_};refine{show(0:Int)<3 by decide,?_};refine zm (λg=>?_) λg=>{(C),rfl,plain};refine qa G.hw (qk G.hw {by rw[jo];have:=G.YU;exact big _ (by lia),?_});refine{C++[none],rfl,?_};have:=G.wide (wd':=C++[none]) (ex':=1) bf a2 bb G.gap.gap (by rw[Ad];have:=G.YU;show C.length+1<=_;exact D_);rw[<-iN] at this;exact this
  .rintro a3 L1 ⟨wd',rfl,G1⟩;have aL:∀e i' j',k=some (.nd e i' j')->i'∈I.take i/\j'∈I.take i:=λe i' j' z=>pF ok pm pf ep (by rw[hk,z]);have bc:∀x∈I.take i,∀e i' j',T[x]?=some (some<|.nd e i' j')->i'∈I.take i/\j'∈I.take i:=λx hx e i' j' z=>by
    obtain⟨n,hn⟩:=DF hx;have cI:=zf hn;rw[AV] at cI;rw[Ek (by lia)] at hn;obtain⟨h1,h2⟩:=pF ok pm pf hn z;have sb:∀y,y∈I.take n->y∈I.take i:=λy hy=>by
     have:I.take n=(I.take i).take n:=by rw[List.take_take,B3 (by lia)]
     rw[this] at hy;exact BB hy
    exact{sb _ h1,sb _ h2}
   have vp:∀y:Nat,bA (pY J (.inl (p:Int))<|.int ((wd'.length:Nat):Int)) (.inl (y:Int))=if y∈I.take i++[p] then some (.int (((if y=p then wd'.length else f y):Nat):Int)) else none:=λy=>by
    rw[Ug];by_cases e:y=p
    .subst e;rw[AC rfl,AC rfl,AC<|Ah _<|Ap.mpr rfl]
    .rw[AB λz=>e<|Bp.mp<|Sum.inl.inj z,AB e,G1.val];by_cases h:y∈I.take i
     .rw[AC h,AC<|An _ h]
     .rw[AB h,AB λz=>(Ak.mp z).elim h λz=>e<|Ap.mp z]
   have wl:=G1.YU;have kl:=G1.len;refine qa G1.hw ?_;rw[jo];refine aG G1.hd {big _ (by lia),?_};have cP:=w9 ha hd;refine qa ((qf cP).trans<|G1.sub _ _ ha)<|qg (jw hk) ?_;have e0:∀{o},qj L1 d o d=some o:=q9;refine{λa3 L2=>a3=[some<|Y.ref a,some<|Y.ref l,some<|Y.ref c,some<|.int s,some<|.bl b,some<|Y.ref d,some<|Y.ref w,some<|.int (p:Nat),some<|jF<|nQ f k]/\L2=qj L1 d (.XI<|pY J (.inl (p:Int))<|.int ((wd'.length:Nat):Int)),?_,?_}
   .cases k with
    |none=>exact{(rfl),rfl}
    |some k=>
     cases k with
     |lf t n=>exact{(rfl),rfl}
     |nd e p1 p2=>
      obtain⟨m1,m2⟩:=aL e p1 p2 rfl;have v1:=vp p1;have v2:=vp p2;rw[AC<|An _ m1,AB λ(z:p1=p)=>pn<|z▸m1] at v1;rw[AC<|An _ m2,AB λ(z:p2=p)=>pn<|z▸m2] at v2;refine aG q9<|qg v1 ?_;refine aG q9<|qg v2 ?_;exact{(rfl),rfl}
   .rintro a3 L2 ⟨rfl,rfl⟩;have bh:qj L1 d (.XI<|pY J (.inl (p:Int))<|.int ((wd'.length:Nat):Int)) w=some (.lst<|jz wd'):=(qf<|AG a2).trans G1.hw;refine qa bh (qk bh {by rw[jo];exact big _ (by lia),?_});rw[iN];have hb:∀x∈I.take i,x<T.length:=λx hx=>mq x<|BB hx;refine{_,EV _,λx=>if x=p then wd'.length else f x,wd'++[nQ f k],_,_,_,rfl,(G1.sub.upd hd).upd bf,(qf a2).trans q9,q9,(qf<|AG bb).trans<|(qf<|AG bg).trans G1.hD,?_,λy=>?_,?_,?_}
    .have:=Uh J (.inl (p:Int))<|.int ((wd'.length:Nat):Int);lia
    .rw[et];exact vp y
    .rw[et];exact G1.gap.step hb pn hk bc aL
    .rw[Ad];show wd'.length+1<=_;exact D_
 .rintro τ L' ⟨f,C,J,c7,c8,rfl,G⟩;have eq:(nY I).length=I.length:=Ac ..;rw[eq] at G;have et:I.take I.length=I:=Bg;have val:∀p,p<T.length->bA J (.inl (p:Int))=some (.int (f p:Int)):=λp j=>by rw[G.val,et,AC<|pm.mem_iff.mpr<|AX.mpr j]
  have gap:tL T (List.range T.length) f C:=by have g:=G.gap;rw[et] at g;exact{λp j=>g.at_ p<|pm.mem_iff.mpr j,λp j r hr=>g.inj p (pm.mem_iff.mpr j) r<|pm.mem_iff.mpr hr,λx k hx=>let ⟨r,hr,e⟩:=g.only x k hx;⟨r,pm.mem_iff.mp hr,e⟩,g.ok}
  have YJ:∀p,p<T.length->f p<C.length:=λp j=>gap.lt (AX.mpr j) j;have inj:=λp r j hr e=>gap.inj p (AX.mpr j) r (AX.mpr hr) e;have wl:C.length<=2*T.length:=by have:=G.YU;rw[lq] at this;lia
  refine xg (G.sub _ _ hl) λkeep kp=>ud (m:=Y8 f) cm (kp _ rfl) (λi U R zs bd hR=>?_) λp1 bi=>?_
  .obtain⟨l1,l2⟩:=a4 U<|Ax bd;have v1:=val U.1 (by exact rS);have v2:=val U.2 l2;refine aG G.hd<|qg v1 ?_;refine aG G.hd<|qg v2 ?_;refine aG G.hd<|qg v1 ?_;refine aG G.hd<|qg v2 ?_;have e1:min ((f U.1:Nat):Int) ((f U.2:Nat):Int)=((min (f U.1) (f U.2):Nat):Int):=TF _ _;have e2:max ((f U.1:Nat):Int) ((f U.2:Nat):Int)=((max (f U.1) (f U.2):Nat):Int):=TH _ _;have d0:R (zs++[.tup [.int<|min ((f U.1:Nat):Int) ((f U.2:Nat):Int),.int<|max ((f U.1:Nat):Int) ((f U.2:Nat):Int)]]) L':=by rw[e1,e2];exact hR
   exact d0
  have b1:∀p∈lk.map (Y8 f),p.2<1000000:=λp j=>by obtain⟨r,hr,rfl⟩:=A7.mp j;obtain⟨h1,h2⟩:=a4 r hr;have:=YJ r.1 (by lia);have:=YJ r.2 h2;exact Nat.max_lt.mpr {by lia,by lia}
  have n1:(lk.map<|Y8 f).Nodup:=fj (λx hx y hy e=>by
   obtain⟨x1,x2⟩:=a4 x hx;obtain⟨y1,y2⟩:=a4 y hy;have m1:min (f x.1) (f x.2)=min (f y.1) (f y.2):=Br Prod.fst e;have m2:max (f x.1) (f x.2)=max (f y.1) (f y.2):=Br Prod.snd e;have a1:x.1=y.1/\x.2=y.2:=by
    rcases Uu m1 m2 with⟨c1,c2⟩|⟨c1,c2⟩
    .exact{inj x.1 y.1 (C1 x1 x2) (C1 y1 y2) c1,inj x.2 y.2 x2 y2 c2}
    .have e3:=inj x.1 y.2 (C1 x1 x2) y2 c1;have e4:=inj x.2 y.1 x2 (C1 y1 y2) c2;rw[e3,e4] at x1;exact absurd x1 (Nat.lt_asymm y1)
   exact Eu a1.1 a1.2) ck
  dsimp only[zn];refine lT (ps:=lk.map<|Y8 f) q9 b1 n1 (by rw[Ac];exact fV) λD1 bj bn dc de=>?_;have du:=G.sub.none bi;have bp:=vm bn;have bq:=G.sub.none bp;have S1:qi L' (qj (qj L' p1<|.lst<|qt<|lk.map<|Y8 f) D1<|.lst<|qt bj):=(By bi).trans<|By bn;refine xg (S1 _ _<|G.sub _ _ hc) λkeep kp=>ud (m:=Zd f) cv (kp _ rfl) (λi U R zs bd hR=>?_) λp2 ac=>?_
  .obtain⟨l1,l2⟩:=a5 U<|Ax bd;refine aG (S1 _ _ G.hd)<|qg (val U.1 l1) ?_;refine aG (S1 _ _ G.hd)<|qg (val U.2 l2) ?_;exact hR
  have b2:∀p∈ct.map (Zd f),p.2<1000000:=λp j=>by obtain⟨r,hr,rfl⟩:=A7.mp j;obtain⟨h1,h2⟩:=a5 r hr;have:=YJ r.2 h2;show f r.2<1000000;lia
  have n2:(ct.map<|Zd f).Nodup:=fj (λx hx y hy e=>by obtain⟨x1,x2⟩:=a5 x hx;obtain⟨y1,y2⟩:=a5 y hy;exact Eu (inj _ _ x1 y1<|Br Prod.fst e)<|inj _ _ x2 y2<|Br Prod.snd e) cn
  dsimp only[zn];refine lT (ps:=ct.map<|Zd f) q9 b2 n2 (by rw[Ac];exact fV) λD2 br c3 di dj=>?_;have ba:=vm c3;have S2:=S1.trans<|(By ac).trans<|By (o:=.lst<|qt br) c3;have c4:=G.sub.none<|S1.none ba;have al:=w9 q9 ba;obtain⟨m,hm,e5⟩:∃m:Nat,(if b=true then(1:Int) else 0)=(m:Int)/\m<=1:=by cases b;exact{0,rfl,by exact A5 _};exact{1,rfl,by exact BI _}
  walk_at "w";rw[hm];refine{{by exact AQ _,by omega},?_};rw[BL];refine hU (λi zs=>zs=jz (List.replicate i none)) (big _ (by exact fV)) rfl ?_ ?_
  .rintro i zs hi rfl;refine{_,EV _,rfl,?_};rw[List.replicate_succ'];exact iN _ none
  rintro zs rfl p3 ay;have S3:=S2.trans<|By (o:=.lst<|jz<|List.replicate m none) ay;refine{_,_,S3 _ _ G.hw,q9,?_,λp4 c5=>?_}
  .rw[jo,jo,BQ];exact Bk<|big _ (by lia)
  have h4:=vm c5;have dp:=G.sub.none<|S2.none h4;have c6:=w9 q9 h4;have cc:=w9 ((qf al).trans<|(qf<|w9 q9 ac).trans q9) h4;have dv:=vm ay;have dr:=w9 ((qf al).trans<|(qf<|w9 q9 ac).trans q9) ay;have dt:=w9 q9 ay;have eo:jz C++jz (List.replicate m none)=jz (C++List.replicate m none):=by unfold jz;rw[Av]
  rw[eo];refine vd<|q f (C++List.replicate m none) bj br p4 D1 D2 _ {gap.ZK m,?_} dc de di dj ((G.sub.trans S3).trans<|By c5) dp bq c4 (AG cc) (AG c6) al q9 ?_ ?_
  .rw[Ad,BQ];exact Pw
  .rw[qf cc,qf dr,qf al,qf<|w9 q9 ac,q9]
  .rw[qf c6,qf dt,q9]
def lS:RD "_law_told" lB 0 ["_law_rule","_law_links","_law_cuts","_law_todo","_law_here"] (λ_=>True):={_,λV B c _ _ _ _ _ _ _ J hN I=>(qb (T7 (i:=1) (j:=2) (k:=3) rfl hN rfl rfl rfl (by decide) (by decide) (by decide) rfl rfl rfl (aA (zj xn) (zj xn)<|zj<|jm<|qv 0) rfl)<|qb (oK ya (N_ I (qv 3)<|zj xn)<|qb (S_ 4 hN<|Jc<|qv 3)<|vk (zo (E_ I (J_ 4) jd) (qe<|qz<|ze (qv 1)<|jm<|qr<|vj (J_ 4)<|J_ 4) zg)<|vk (zo (E_ I (J_ 4) jd) (qe<|qz<|ze (qv 2)<|jm<|qr<|vj (J_ 4)<|J_ 4) zg)<|qe<|qz<|bR (qv 3)<|jm<|fB ["_law_arm"] (EZ (by rfl)) rfl (T9<|bu (J7 _ _ _) (qv 4) (cO qd) gN) (o7 5) (λ_ _ _ _=>bJ<|km<|wz .tuple rfl B.bf rfl B.b_tuple iY<|qv 5) λ_ _ _ _=>(qv 5))<|qe<|qu<|qr<|vj (j5 ak rfl B.bg k8<|jm<|qv 1)<|j5 ak rfl B.bg k8<|jm<|qv 2)}
def zp:Ru->WO
 |.link p q=>[(p,q)]
 |.ei _ A=>zp A
 |.bo _ A B=>zp A++zp B
 |.cu _ _ A B=>zp A++zp B
def zq:Ru->WO
 |.link _ _=>[]
 |.ei _ A=>zq A
 |.bo _ A B=>zq A++zq B
 |.cu p q A B=>(p,q)::(zq A++zq B)
def nF:Ru->Nat
 |.link _ _=>1
 |.ei _ A=>nF A+1
 |.bo _ A B=>nF A+nF B+1
 |.cu _ _ A B=>nF A+nF B+1
def bC:Ru->List Ru
 |.link _ _=>[]
 |.ei _ A=>[A]
 |.bo _ A B=>[A,B]
 |.cu _ _ A B=>[A,B]
def pP:Ru->WO
 |.link p q=>[(p,q)]
 |_=>[]
def sW:Ru->WO
 |.cu p q _ _=>[(p,q)]
 |_=>[]
def yS(A:Ru):zp A=pP A++(bC A).flatMap zp:=by cases A<;>simp[zp,pP,bC]
def Uw(A:Ru):zq A=sW A++(bC A).flatMap zq:=by cases A<;>simp[zq,sW,bC]
def um(A:Ru):((bC A).map nF).sum+1=nF A:=by cases A<;>simp[nF,bC]
def Ux(A:Ru):0<nF A:=by cases A<;>simp[nF]
def Uy{A B:Ru}(h:B∈bC A):a7 B<a7 A:=by cases A<;>simp[bC] at h<;>(try rcases h with rfl|rfl)<;>(try subst h)<;>simp[a7]<;>omega
def oo:Ru->_x
 |.link _ q=>[.int ((q:Nat):Int)]
 |.ei _ A=>[jp A]
 |.bo _ A B=>[jp A,jp B]
 |.cu _ q A B=>[.int ((q:Nat):Int),jp A,jp B]
def Gr:Y->Xb
 |.tup ys=>some<|.tup ys
 |_=>none
def yj(A:Ru):Gr (jp A)=some (jp A):=by cases A<;>rfl
def zR(i:Int):Gr (.int i)=none:=rfl
def Uz(A:Ru):(oo A).filterMap Gr=(bC A).map jp:=by cases A<;>simp[oo,bC,CC,yj,zR]
def UA{A:Ru}(h:y∈oo A):(∃q:Nat,y=.int (q:Int))\/∃B,y=jp B:=by
 cases A<;>simp[oo] at h
 .exact .inl {_,h}
 .exact .inr {_,h}
 .rcases h with h|h<;>exact .inr {_,h}
 .rcases h with h|h|h
  .exact .inl {_,h}
  .exact .inr {_,h}
  .exact .inr {_,h}
structure li(R:Ru)(lk ct:WN)(st:List Ru):Prop where
 pl:(lk++st.flatMap zp).Perm (zp R)
 pc:(ct++st.flatMap zq).Perm (zq R)
 sz:(st.map nF).sum<=nF R
 dp:∀A∈st,a7 A<=a7 R
def li.start(R:Ru):li R [] [] [R]:={by simp,by simp,by simp,λA I=>by simp at I;subst I;exact Am _}
def li.step{A:Ru}{st:List Ru}(h:li R lk ct<|st++[A]):li R (lk++pP A) (ct++sW A) (st++bC A):=by
 have pm:∀{X U V W:WN},(X++U++(V++W)).Perm (X++(V++(U++W))):=λ{X U V W}=>by rw[Ay];refine DA X ?_;rw[<-Ay,<-Ay];exact Dv W Bo
 refine{?_,?_,?_,λB I=>?_}
 .refine List.Perm.trans ?_ h.pl;rw[AO,AO];have:[A].flatMap zp=pP A++(bC A).flatMap zp:=by rw[<-yS];simp
  rw[this];exact pm
 .refine List.Perm.trans ?_ h.pc;rw[AO,AO];have:[A].flatMap zq=sW A++(bC A).flatMap zq:=by rw[<-Uw];simp
  rw[this];exact pm
 .have:=h.sz;have:=um A;simp at *;lia
 .rcases Ak.mp I with I|I
  .exact h.dp B<|An _ I
  .have:=Uy I;have:=h.dp A<|Ah _<|Ap.mpr rfl;exact IA
inductive iH(ys:_x)(L:qm)(Q:YK):Prop
 |mk:∀R:Ru,(ys=[jp R])->(a7 R<=120)->(nF R<=1000)->((zp R).Nodup)->((zq R).Nodup)->((∀p∈zp R,p.2<1000000))->((∀p∈zq R,p.2<1000000))->((zp R).length<=127)->((zq R).length<=127)->(∀la ca lk ct,L la=none->L ca=none->la≠ca->lk.Perm (zp R)->lk.Pairwise ar->ct.Perm (zq R)->ct.Pairwise ar->Q (.tup [.ref la,.ref ca]) (qj (qj L la<|.lst<|qt lk) ca<|.lst<|qt ct))->iH ys L Q
def jX(l:WN)(p:WZ):qt l++[gd p]=qt (l++[p]):=by unfold qt;rw[Av];rfl
def UB(st:List Ru):Da.eqs (st.map dF) []=decide (st=[]):=by cases st<;>rfl
theorem oX{L:qm}{n:Nat}:∀{st:List Ru},(∀A∈st,a7 A<=n)->Paired (jj L n) (st.map jp) (st.map dF)
 |[],_=>.nil
 |A::r,h=>.cons (dw<|h A<|Ao ..)<|oX λB I=>h B<|Ai _ I
def UC:_f iH lS.1 5:=by
 rintro ys L Q ⟨R,rfl,hd,hz,bf,bg,b1,b2,z1,z2,q⟩;have big:=a_;intro t al C ac J a1;have a2:=w9 q9 ac;have a3:=w9 q9 a1;have a4:=w9 ((qf a2).trans q9) a1;have ay:=vm ac;have a5:=vm<|vm a1;have S0:qi L (qj (qj (qj L t<|.lst []) C<|.lst []) J<|.lst [jp R]):=((By al).trans<|By ac).trans<|By a1;refine{λm τ U=>∃lk g st c4,τ=[some<|jp R,some<|Y.ref t,some<|Y.ref C,some<|Y.ref J,c4]/\qi L U/\U t=some (.lst<|qt lk)/\U C=some (.lst<|qt g)/\U J=some (.lst<|st.map jp)/\li R lk g st/\m=(st.map nF).sum,{_,[],[],[R],_,rfl,S0,(qf a4).trans<|(qf a2).trans q9,(qf a3).trans q9,q9,li.start R,rfl},?_};rintro m τ U ⟨lk,g,st,c4,rfl,s,h1,h2,h3,T,rfl⟩;intro p hp;refine kq (n:=120) (m:=0) (by decide) (By hp _ _ h3) q9 (oX λA hA=>AS (T.dp A hA) hd) (.nil:Paired (jj _ 0) _ []) ?_;have bh:=w9 h1 hp;have bi:=w9 h2 hp;have bj:=w9 h3 hp;have s2:qi L (qj U p<|.lst []):=s.trans<|By hp;replace h1:=(qf (o:=.lst []) bh).trans h1;replace h2:=(qf (o:=.lst []) bi).trans h2;replace h3:=(qf (o:=.lst []) bj).trans h3;generalize qj U p (.lst [])=L2 at s2 h1 h2 h3 ⊢;show aC (!(Da.eqs (st.map dF) [])) _ _;rw[UB];rcases List.eq_nil_or_concat st with rfl|⟨iF,A,rfl⟩
 .refine bF rfl ?_;have pl:lk.Perm (zp R):=by have:=T.pl;simpa using this
  have pc:g.Perm (zq R):=by have:=T.pc;simpa using this
  dsimp only[cL,ju,mJ,qh,bH,cH,Fj,qc,xN,zn];refine lT h1 (λx hx=>b1 x<|pl.mem_iff.mp hx) (pl.nodup_iff.mpr bf) (by rw[pl.length_eq];exact fV) λD1 bn aL bp bq=>?_;have n1:=w9 h2 aL;refine lT ((qf n1).trans h2) (λx hx=>b2 x<|pc.mem_iff.mp hx) (pc.nodup_iff.mpr bg) (by rw[pc.length_eq];exact fV) λD2 br ba c3 c5=>?_;have c6:=w9 q9 ba;have bb:=s2.none aL;have bc:=s2.none<|vm ba;refine{_,λz o e=>?_,q D1 D2 bn br bb bc c6 (bp.trans pl) bq (c3.trans pc) c5};by_cases c1:z=D2
  .subst c1;rw[q9] at e ⊢;exact e
  .rw[qf c1] at e ⊢;by_cases c2:z=D1
   .subst c2;rw[q9] at e ⊢;exact e
   .rw[qf c2] at e ⊢;exact s2 _ _ e
 .rw[List.concat_eq_append] at *;have T1:=T.step;have ne:iF++[A]≠[]:=by simp
  rw[Aw ne];refine dg rfl {λI U=>∃m',m'<((iF++[A]).map nF).sum/\∃lk g st c4,I=[some<|jp R,some<|Y.ref t,some<|Y.ref C,some<|Y.ref J,c4]/\qi L U/\U t=some (.lst<|qt lk)/\U C=some (.lst<|qt g)/\U J=some (.lst<|st.map jp)/\li R lk g st/\m'=(st.map nF).sum,λI U h=>h,?_};rw[Av] at h3;refine Jh h3 ?_;refine{λI L3=>I=[some<|jp R,some<|Y.ref t,some<|Y.ref C,some<|Y.ref J,some<|jp A]/\qi L L3/\L3 t=some (.lst<|qt<|lk++pP A)/\L3 C=some (.lst<|qt g)/\L3 J=some (.lst<|iF.map jp),?_,?_}
  .have j:qi L (qj L2 J<|.lst<|iF.map jp):=s2.upd a5;have g1:qj L2 J (.lst<|iF.map jp) t=some (.lst<|qt lk):=(qf a4).trans h1;have g2:qj L2 J (.lst<|iF.map jp) C=some (.lst<|qt g):=(qf a3).trans h2;have g3:qj L2 J (.lst<|iF.map jp) J=some (.lst<|iF.map jp):=q9;generalize qj L2 J (.lst<|iF.map jp)=L3 at j g1 g2 g3 ⊢;cases A with
   |link p0 q0=>
    refine qa g1<|qk g1 {?_,?_}
    .have:=T.pl.length_eq;rw[Ad] at this;rw[Ac];exact big _ (by lia)
    .exact{rfl,j.upd al,by rw[q9];exact Br (λl=>some<|LO.lst l)<|jX lk (p0,q0),(qf<|AG a2).trans g2,(qf<|AG a4).trans g3}
   |ei r0 A0=>exact{rfl,j,by rw[g1];simp[pP],g2,g3}
   |bo r0 A0 B0=>exact{rfl,j,by rw[g1];simp[pP],g2,g3}
   |cu p0 q0 A0 B0=>exact{rfl,j,by rw[g1];simp[pP],g2,g3}
  .rintro I L3 ⟨rfl,j,g1,g2,g3⟩;refine{λI L3=>I=[some<|jp R,some<|Y.ref t,some<|Y.ref C,some<|Y.ref J,some<|jp A]/\qi L L3/\L3 t=some (.lst<|qt<|lk++pP A)/\L3 C=some (.lst<|qt<|g++sW A)/\L3 J=some (.lst<|iF.map jp),?_,?_}
   .cases A with
    |cu p0 q0 A0 B0=>
     refine qa g2<|qk g2 {?_,?_}
     .have:=T.pc.length_eq;rw[Ad] at this;rw[Ac];exact big _ (by lia)
     .exact{rfl,j.upd ay,(qf a2).trans g1,by rw[q9];exact Br (λl=>some<|LO.lst l)<|jX g (p0,q0),(qf<|AG a3).trans g3}
    |ei r0 A0=>exact{rfl,j,g1,by rw[g2];simp[sW],g3}
    |bo r0 A0 B0=>exact{rfl,j,g1,by rw[g2];simp[sW],g3}
    |link p0 q0=>exact{rfl,j,g1,by rw[g2];simp[sW],g3}
   .rintro I L3 ⟨rfl,j,g1,g2,g3⟩;obtain⟨ys,e,cc⟩:∃ys,jp A=.tup ys/\iy ys (some 2) none=oo A:=by cases A<;>exact{_,rfl,rfl}
    rw[e];have key:∀(zs:_x) (keep:qm->Prop) (Q':YK),zs=oo A->keep L3->(∀p,L3 p=none->Q' (.ref p) (qj L3 p<|.lst<|(bC A).map jp))->yr zs keep 1 (qo 5) (yB<|IL lH.tuple<|qc 5) (qc 5) [some<|jp R,some<|Y.ref t,some<|Y.ref C,some<|Y.ref J,some<|.tup ys] L3 Q':=by
     rintro zs keep Q' rfl hk hq;refine QY Gr ?_ hk (λi y W us ey hW=>?_) (by rw[Uz];exact hq)
     .cases A<;>exact big _ (by simp[oo])
     .rcases UA (Ax ey) with⟨n,rfl⟩|⟨B,rfl⟩
      .rw[zR] at hW;refine{_,EV _,?_};simpa using hW
      .rw[yj] at hW;cases B<;>exact{_,EV _,hW}
    refine qa g3 ?_;walk_at "w";refine{by cases A<;>(cases e;first|exactλh=>absurd (show HT 3 0 (some 2)=0 from h.1) (by decide)|exactλh=>absurd (show HT 4 0 (some 2)=0 from h.1) (by decide)|exactλh=>absurd (show HT 5 0 (some 2)=0 from h.1) (by decide)),?_};walk_at "w";refine key (iy ys (some 2) none) (λ_=>True) _ cc trivial λp hp=>?_;have ck:=w9 g3 hp;have cm:=w9 g1 hp;have cn:=w9 g2 hp;have cv:=T.sz;have cy:=um A;have cI:=T1.sz;have bd:∀l:List Ru,l.length<=(l.map nF).sum:=λl=>by induction l with|nil=>exact Am _|cons B r ih=>have:=Ux B;simp;lia
    have l1:=bd<|iF++bC A;refine qk ((qf ck).trans g3)<|qk q9 {?_,?_}
    .rw[Ac,Ac];rw[Ad] at l1;exact Bk<|big _ (by lia)
    refine{_,EV _,((iF++bC A).map nF).sum,?_,lk++pP A,g++sW A,iF++bC A,_,rfl,(j.trans<|By hp).upd a5,(qf a4).trans<|(qf cm).trans g1,(qf a3).trans<|(qf cn).trans g2,?_,T1,rfl}
    .simp;exact tz
    .rw[q9,Av]
def oB(ks:Xc):Nat->Nat->Nat
 |0,_=>1
 |n+1,p=>match ks[p]? with
  |some (.nd _ i j)=>1+oB ks n i+oB ks n j
  |_=>1
def cG(ks:Xc)(p:Nat):Nat:=oB ks (p+1) p
theorem UD(ks:Xc):∀n p,1<=oB ks n p
 |0,_=>Am _
 |n+1,p=>by
  unfold oB;split
  .simp +arith only
  .exact Am _
theorem jE{ks:Xc}(ok:av ks):∀(n m p:Nat),p<n->p<m->oB ks n p=oB ks m p
 |0,_,_,h,_=>absurd h<|CQ _
 |_+1,0,_,_,h=>absurd h<|CQ _
 |n+1,m+1,p,h1,h2=>by
  show(match ks[p]? with|some (.nd _ i j)=>1+oB ks n i+oB ks n j|_=>1)=match ks[p]? with|some (.nd _ i j)=>1+oB ks m i+oB ks m j|_=>1
  cases e:ks[p]? with
  |none=>rfl
  |some k=>
   cases k with
   |lf t n=>rfl
   |nd b i j=>
    have:=ok p _ e;show 1+oB ks n i+oB ks n j=1+oB ks m i+oB ks m j;rw[jE ok n m i (by lia) (by lia),jE ok n m j (by lia) (by lia)]
def UE(ks:Xc)(p:Nat):1<=cG ks p:=UD ks _ _
def yO{p:Nat}{n:Str}(e:ks[p]?=some (.lf t n)):cG ks p=1:=by show(match ks[p]? with|some (.nd _ i j)=>1+oB ks p i+oB ks p j|_=>1)=1;rw[e]
def wS(ok:av ks){p:Nat}{b:Bool}(e:ks[p]?=some (.nd b i j)):cG ks p=1+cG ks i+cG ks j:=by have h:=ok p _ e;show(match ks[p]? with|some (.nd _ i j)=>1+oB ks p i+oB ks p j|_=>1)=_;rw[e];show 1+oB ks p i+oB ks p j=1+oB ks (i+1) i+oB ks (j+1) j;rw[jE ok p (i+1) i (by omega)<|BI _,jE ok p (j+1) j (by omega)<|BI _]
def w5(f:WY)(l:WR):Nat:=(l.map f).sum
def wx(f:WY)(x:Nat)(l:WR):w5 f (x::l)=f x+w5 f l:=by unfold w5;rw[AA,DC]
def wb(f:WY)(l m:WR):w5 f (l++m)=w5 f l+w5 f m:=by unfold w5;rw[Av,EN]
def aN{f:WY}{l:WR}{x:Nat}(h:x∈l):w5 f l=f x+w5 f (l.erase x):=by have:=((List.perm_cons_erase h).map f).sum_nat;unfold w5;rw[this,AA,DC]
theorem fq{f:WY}:∀{E U:WR},E.Nodup->(∀x∈E,x∈U)->w5 f E<=w5 f U
 |[],_,_,_=>A5 _
 |x::E,U,nd,h=>by obtain⟨J,g⟩:=AE.mp nd;rw[wx,aN<|h x<|Ao ..];have:=fq (f:=f) (E:=E) (U:=U.erase x) g λy I=>(BN λ(z:y=x)=>J<|z▸I).mpr<|h y<|Ai _ I;lia
def cx(f:WY)(l:WN):Nat:=(l.map λc=>f c.1+f c.2).sum
def l9(f:WY)(l m:WN):cx f (l++m)=cx f l+cx f m:=by unfold cx;rw[Av,EN]
def SR.weight(ok:av ks){E:WR}(h:SR ks R E):w5 (cG ks) E+cx (cG ks) (zq R)<=(z9 R).length:=by
 induction h with
 |@link p q t n E h1 h2 h3 I g=>
  have:=fq (f:=cG ks) (U:=[p,q]) g λx J=>by rcases (I x).mp J with rfl|rfl<;>simp
  have e:w5 (cG ks) [p,q]=2:=by unfold w5;simp[yO h2,yO h3]
  show w5 (cG ks) E+0<=2;lia
 |@ei r i j A l E h1 h2 h3 I g T o ih=>
  have hj:=(BN<|AG g).mpr I;have C:=fq (f:=cG ks) (U:=(l.erase i).erase j++[r]) o λx J=>by
   rcases (T x).mp J with⟨a,b,c⟩|rfl
   .exact An _<|(BN c).mpr<|(BN b).mpr a
   .simp
  have s2:=aN (f:=cG ks) h3;have s3:=aN (f:=cG ks) hj;have s4:=wS ok h1;rw[wb,wx] at C;have e0:w5 (cG ks) []=0:=rfl;show _+cx _ (zq A)<=(r::z9 A).length;rw[AK];lia
 |@bo r i j A B l EB E h1 h2 h3 I g T o a1 a2=>
  have C:=fq (f:=cG ks) (U:=l.erase i++(EB.erase j++[r])) o λx J=>by
   rcases (T x).mp J with⟨a,b⟩|⟨a,b⟩|rfl
   .exact An _<|(BN b).mpr a
   .exact Ah _<|An _<|(BN b).mpr a
   .simp
  have s2:=aN (f:=cG ks) I;have s3:=aN (f:=cG ks) g;have s4:=wS ok h1;rw[wb,wb,wx] at C;have e0:w5 (cG ks) []=0:=rfl;show _+cx _ (zq A++zq B)<=(r::(z9 A++z9 B)).length;rw[AK,Ad,l9];lia
 |@cu p q A B l EB E w h1 h2 h3 I g T o h8 a1 a2=>
  have C:=fq (f:=cG ks) (U:=l.erase p++EB.erase q) h8 λx J=>by
   rcases (o x).mp J with⟨a,b⟩|⟨a,b⟩
   .exact An _<|(BN b).mpr a
   .exact Ah _<|(BN b).mpr a
  have s2:=aN (f:=cG ks) h3;have s3:=aN (f:=cG ks) I;rw[wb] at C;have e1:cx (cG ks) (zq<|.cu p q A B)=cG ks p+cG ks q+(cx (cG ks) (zq A)+cx (cG ks) (zq B)):=by show cx _ ((p,q)::(zq A++zq B))=_;rw[<-l9];unfold cx;rw[AA,DC]
  show _<=(z9 A++z9 B).length;rw[Ad,e1];lia
def UF(a b:Nat):decide ((a:Int)=(b:Int))=decide (a=b):=by
 by_cases c:a=b
 .rw[AD c];exact AD (by lia)
 .rw[Aw c];exact Aw (by lia)
open Classical in
def UG{b:Bool}{A B:Prop}(h1:A)(h2:B):aC b A B:=by cases b<;>assumption
def eM{b:Bool}{A B:Prop}(h1:b=true->A)(h2:b=false->B):aC b A B:=by cases b with|true=>exact h1 rfl|false=>exact h2 rfl
def zh(lk:WN):WR:=lk.flatMap λx=>[x.1,x.2]
def jy(a b:WN):zh (a++b)=zh a++zh b:=by unfold zh;rw[AO]
def aF(x:WZ):zh [x]=[x.1,x.2]:=by simp[zh]
def vq(lk:WN):(zh lk).length=2*lk.length:=by
 induction lk with
 |nil=>rfl
 |cons x r I=>
  have:=jy [x] r;rw[Dy] at this;rw[this,Ad,I,aF,AK];simp;exact Nat.add_comm _ _
inductive im(ys:_x)(L:qm)(Q:YK):Prop
 |mk:∀a,∀lk:WO,(ys=[.ref a])->(L a=some (.lst<|qt lk))->(lk.length<=1000)->(∀p,L p=none->Q (.ref p) (qj L p<|.lst<|nY<|zh lk))->im ys L Q
def UH:_f im lL.1 4:=by
 rintro ys L Q ⟨a,lk,rfl,l,T,q⟩;intro p o;have I:=w9 l o;refine yu (ys:=qt lk) (aO<|(qf I).trans l) (λi J U=>∃g j,J=[some<|.ref a,some<|.ref p,g,j]/\U=qj L p (.lst<|nY<|zh<|lk.take i)) {_,_,rfl,rfl} ?_ ?_ ?_
 .rintro i J U ⟨g,j,rfl,rfl⟩;rw[qf I,qf I]
 .rintro i y J U r ⟨g,j,rfl,rfl⟩;rw[Al] at r;obtain⟨x,ex,rfl⟩:=Aq.mp r;have t:lk.take (i+1)=lk.take i++[x]:=by rw[Bi,ex];rfl
  have C:(nY<|zh<|lk.take i).length<=2000:=by rw[fv,vq,AV];lia
  refine qa q9<|qk q9 {Bs C (by decide),?_};refine qa q9 (qk q9 {Bs (by rw[Ad,B6];exact D_:_<=2001) (by decide),_,EV _,_,_,rfl,?_});rw[kc,kc,t,jy,aF,cg,Ay];rfl
 .rintro J U ⟨g,j,rfl,rfl⟩;rw[Ac,Bg];exact vd<|q p o
def Kg:Kn->Da
 |.lf t n=>.tup [.s<|.str<|kL t,.s<|.str n]
 |.nd e i j=>.tup [.s<|.str<|kN e,.s<|.int ((i:Nat):Int),.s<|.int ((j:Nat):Int)]
def UI(k:Kn):jj L 1 (qC k) (Kg k):=by cases k with|lf t n=>exact wo (.cons {(rfl),rfl}<|.cons {(rfl),rfl} .nil)|nd e i j=>exact wo<|.cons {(rfl),rfl}<|.cons {(rfl),rfl}<|.cons {(rfl),rfl} .nil
def UJ{f:Xd->Bool}{ks:List<|Xd}{p:Nat}{k:Xd}(h:ks[p]?=some k)(I:f k=true)(hi:p<i):p∈wG f ks i:=by refine AR.mpr {AX.mpr hi,?_};simp only[h];exact I
def ie(m:Nat)(l:WR):tN (eX<|.int (m:Int)) ((nY l).map eX)=decide (m∈l):=by
 induction l with
 |nil=>rfl
 |cons n r I=>
  have e:tN (eX<|.int (m:Int)) ((nY<|n::r).map eX)=(iD (eX<|.int (n:Int)) (eX<|.int (m:Int))||tN (eX<|.int (m:Int)) ((nY r).map eX)):=rfl;rw[e,I];have J:iD (eX<|.int (n:Int)) (eX<|.int (m:Int))=decide (n=m):=UF n m;rw[J];by_cases c:n=m
  .subst c;simp
  .by_cases d:m∈r
   .simp[d]
   .simp[c,d,AG c]
def iK(l:WR):(nY l).all e9=true:=by rw[Cm];intro y I;obtain⟨n,_,rfl⟩:=A7.mp I;rfl
def fK:RD "_law_beneath" fS 0 ["_law_knots","_law_cuts","_law_todo","_law_p","_law_q","_law_beneath_here"] (λ_=>True):={_,λV B c _ _ _ _ _ _ _ J hN I=>(qb (S_ 2 hN<|zj xn)<|qb (aU ya rfl (xx<|qv 1) (kz (n:=2) rfl<|qw (G_ 3 hN)<|qw (G_ 4 hN) v5)<|qe<|qz<|bR (qv 2)<|jm<|zj<|vj (qv 3)<|qv 4)<|qb (S_ 5 hN<|zj xn)<|qb (oK ya (N_ I (qv 2)<|zj xn)<|qb (S_ 3 hN<|Jc<|qv 2)<|qb (qz<|ze (qv 5)<|jm<|qv 3)<|qe<|zo (E_ I (L_ B.ba<|I_ (qv 0)<|qv 3) qd) (qe<|qz<|bR (qv 2)<|jm<|zj<|vj (I_ (I_ (qv 0)<|qv 3) qd)<|I_ (I_ (qv 0)<|qv 3) qd) zg)<|qe<|qu<|qv 5)}
structure oz(ks:Xc)(ct:WN)(qs st:WR):Prop where
 cut:∀c∈ct,(c.1∈qs\/c.1∈st)/\(c.2∈qs\/c.2∈st)
 part:∀p∈qs,∀e i j,ks[p]?=some (.nd e i j)->(i∈qs\/i∈st)/\(j∈qs\/j∈st)
 lt:∀p∈st,p<ks.length
 sz:qs.length+w5 (cG ks) st<=1000
theorem jJ(ks:Xc):∀l:WR,l.length<=w5 (cG ks) l
 |[]=>Am _
 |x::r=>by have:=jJ ks r;have:=UE ks x;rw[wx,AK];lia
theorem bQ(f:WY):∀l:WO,w5 f (zh l)=cx f l
 |[]=>rfl
 |c::r=>by
  have e:zh (c::r)=[c.1,c.2]++zh r:=by rw[<-aF,<-jy];rfl
  rw[e,wb,bQ f r,wx,wx];show f c.1+(f c.2+w5 f [])+cx f r=_;have I:w5 f []=0:=rfl;unfold cx;rw[I,AA,DC];rfl
def ke{c:WZ}(h:c∈ct):c.1∈zh ct/\c.2∈zh ct:=by
 induction ct with
 |nil=>cases h
 |cons d r I=>
  have e:zh (d::r)=[d.1,d.2]++zh r:=by rw[<-aF,<-jy];rfl
  rw[e];rcases As.mp h with rfl|h
  .simp
  .obtain⟨a,b⟩:=I h;exact{Ah _ a,Ah _ b}
def vG{x:Nat}(h:x∈zh ct):∃c∈ct,x=c.1\/x=c.2:=by
 induction ct with
 |nil=>cases h
 |cons d r I=>
  have e:zh (d::r)=[d.1,d.2]++zh r:=by rw[<-aF,<-jy];rfl
  rw[e] at h;rcases Ak.mp h with h|h
  .exact{d,Ao ..,by simpa using h}
  .obtain⟨c,h1,h2⟩:=I h;exact{c,Ai _ h1,h2}
def mH(ks:Xc)(p:Nat):WR:=match ks[p]? with
 |some (.nd _ i j)=>[i,j]
 |_=>[]
def oz.step(ok:av ks){st:WR}{p:Nat}(h:oz ks ct qs<|st++[p]):oz ks ct (qs++[p]) (st++mH ks p)/\w5 (cG ks) (st++mH ks p)<w5 (cG ks) (st++[p]):=by
 have J:∀x,(x∈qs\/x∈st++[p])->(x∈qs++[p]\/x∈st++mH ks p):=λx I=>by
  rcases I with I|I
  .exact .inl<|An _ I
  .rcases Ak.mp I with I|I
   .exact .inr<|An _ I
   .exact .inl<|Ah _ I
 have o:=h.sz;have r:w5 (cG ks) (st++[p])=w5 (cG ks) st+cG ks p:=by rw[wb,wx];rfl
 have C:w5 (cG ks) (st++mH ks p)+1=w5 (cG ks) st+cG ks p:=by
  rw[wb];unfold mH;cases e:ks[p]? with
  |none=>
   have:=h.lt p<|Ah _<|Ap.mpr rfl;rw[Ag this] at e;cases e
  |some k=>
   cases k with
   |lf t n=>
    have:=yO e;show w5 _ st+0+1=_;lia
   |nd b i j=>
    have:=wS ok e;show w5 (cG ks) st+w5 (cG ks) [i,j]+1=_;rw[wx,wx];have T:w5 (cG ks) []=0:=rfl;lia
 refine{{λc g=>{J _ (h.cut c g).1,J _ (h.cut c g).2},λx I e i j U=>?_,λx I=>?_,?_},by lia}
 .rcases Ak.mp I with I|I
  .exact{J _ (h.part x I e i j U).1,J _ (h.part x I e i j U).2}
  .have I:=Ap.mp I;subst I;have:mH ks x=[i,j]:=by unfold mH;rw[U]
   rw[this];simp
 .rcases Ak.mp I with I|I
  .exact h.lt x<|An _ I
  .unfold mH at I;split at I
   .rename_i b i j e;have:=zf e;have l:i<p/\j<p:=ok p _ e;have:x=i\/x=j:=by simpa using I
    lia
   .cases I
 .rw[Ad,B6];lia
inductive dh(ys:_x)(L:qm)(Q:YK):Prop
 |mk:∀a c,∀ks:Xc,∀ct:WO,(ys=[.ref a,.ref c])->(L a=some (.lst<|kg ks))->(L c=some (.lst<|qt ct))->(av ks)->((∀x∈ct,x.1<ks.length/\x.2<ks.length))->(cx (cG ks) ct<=1000)->(ks.length<=1000)->(∀D qs,L D=none->oz ks ct qs []->Q (.ref D) (qj L D<|.lst<|nY qs))->dh ys L Q
def UK(l:WR):Da.eqs (gy l) []=decide (l=[]):=by cases l<;>rfl
theorem xO:_f dh fK.1 6:=by
 rintro ys L Q ⟨a,c,l,r,rfl,ha,hc,ok,hb,hz,hn,q⟩;have big:=a_;have lp:=AS (jJ l _) (by rw[bQ];exact hz);intro U C;have s0:qi L (qj L U<|.lst []):=By C;refine xg (s0 _ _ hc) λkeep kp=>aV {λi τ J=>∃T c4 c5,τ=[some<|Y.ref a,some<|Y.ref c,some<|Y.ref U,T,c4,c5]/\qi L J/\J U=some (.lst<|nY<|zh<|r.take i),{_,_,_,rfl,s0,q9},?_,?_,?_}
 .rintro i τ J ⟨T,c4,c5,rfl,s,h⟩;exact kp J (by rw[s _ _ hc,s0 _ _ hc])
 .rintro i y τ J hy ⟨T,c4,c5,rfl,s,h⟩;rw[Al] at hy;obtain⟨pr,ep,rfl⟩:=Aq.mp hy;have et:r.take (i+1)=r.take i++[pr]:=by rw[Bi,ep];rfl
  refine qa h ?_;intro p hp;have al:=w9 h hp;have ll:(zh<|r.take i).length<=(zh r).length:=by rw[vq,vq,AV];lia
  refine qk ((qf al).trans h)<|qk q9 {?_,?_}
  .rw[fv];exact Bk (big _ (by simp;lia))
  .refine{_,EV _,_,_,_,rfl,(s.trans<|By hp).upd C,?_};rw[q9,et,jy,aF,cg];rfl
 .rintro τ J ⟨T,c4,c5,rfl,s,h⟩;rw[Ac,Bg] at h;intro g a4;have a1:=w9 h a4;have a3:=s.none a4;have B0:oz l r [] (zh r):={λx hx=>{.inr (ke hx).1,.inr (ke hx).2},λx hx=>(Bc hx).elim,λx hx=>by obtain⟨d,hd,e⟩:=vG hx;have:=hb d hd;lia,by rw[bQ];show 0+_<=1000;lia}
  refine{λm τ J=>∃I st T c4,τ=[some<|Y.ref a,some<|Y.ref c,some<|Y.ref U,T,c4,some<|Y.ref g]/\qi L J/\J U=some (.lst<|nY st)/\J g=some (.lst<|nY I)/\oz l r I st/\m=w5 (cG l) st,{_,[],zh r,_,_,rfl,s.trans<|By a4,(qf a1).trans h,q9,B0,rfl},?_};rintro m τ L1 ⟨I,st,T,c4,rfl,s1,h1,h2,B,rfl⟩;intro p hp;refine kq (n:=0) (m:=0) (by decide) (By hp _ _ h1) q9 (sO st) (.nil:Paired (jj _ 0) _ []) ?_;have ay:=w9 h1 hp;have aL:=w9 h2 hp;have s2:qi L (qj L1 p<|.lst []):=s1.trans<|By hp;replace h1:=(qf (o:=.lst []) ay).trans h1;replace h2:=(qf (o:=.lst []) aL).trans h2;generalize qj L1 p (.lst [])=L2 at s2 h1 h2 ⊢;show aC (!(Da.eqs (gy st) [])) _ _;rw[UK];rcases List.eq_nil_or_concat st with rfl|⟨iF,x,rfl⟩
  .refine bF rfl ?_;refine{qj L g<|.lst<|nY I,λb o e=>?_,q g I a3 B};by_cases cc:b=g
   .subst cc;rw[q9] at e;rw[<-e];exact h2
   .rw[qf cc] at e;exact s2 _ _ e
  .rw[List.concat_eq_append] at *;obtain⟨B1,a2⟩:=B.step ok;have ne:iF++[x]≠[]:=by simp
   rw[Aw ne];refine dg rfl {λac J=>∃m',m'<w5 (cG l) (iF++[x])/\∃I st T c4,ac=[some<|Y.ref a,some<|Y.ref c,some<|Y.ref U,T,c4,some<|Y.ref g]/\qi L J/\J U=some (.lst<|nY st)/\J g=some (.lst<|nY I)/\oz l r I st/\m'=w5 (cG l) st,λac J h=>h,?_};rw[cg] at h1;refine Jh h1 ?_;have g1:qj L2 U (.lst<|nY iF) U=some (.lst<|nY iF):=q9;have g2:qj L2 U (.lst<|nY iF) g=some (.lst<|nY I):=(qf<|AG a1).trans h2;have s3:qi L (qj L2 U<|.lst<|nY iF):=s2.upd C;generalize qj L2 U (.lst<|nY iF)=L3 at g1 g2 s3 ⊢;have ba:=B.sz;refine qa g2 (qk g2 {by rw[fv];exact big _ (by lia),?_});have k1:qj L3 g (.lst<|nY I++[.int ((x:Nat):Int)]) U=some (.lst<|nY iF):=(qf a1).trans g1;have k2:qj L3 g (.lst<|nY I++[.int ((x:Nat):Int)]) g=some (.lst<|nY<|I++[x]):=by rw[q9,cg];rfl
   have s4:qi L (qj L3 g<|.lst<|nY I++[.int ((x:Nat):Int)]):=s3.upd a3;generalize qj L3 g (.lst<|nY I++[.int ((x:Nat):Int)])=L4 at k1 k2 s4 ⊢;have hx:=B.lt x<|Ah _<|Ap.mpr rfl;obtain⟨k,ek⟩:∃k,l[x]?=some k:={_,Ag hx};have ga:=s4 _ _ ha;refine qa ga<|qg (jw ek) ?_;cases k with
   |lf t n=>
    have e0:mH l x=[]:=by unfold mH;rw[ek]
    rw[e0,AI] at B1 a2;exact{_,EV _,_,a2,I++[x],iF,_,_,rfl,s4,k1,k2,B1,rfl}
   |nd b i j=>
    have e0:mH l x=[i,j]:=by unfold mH;rw[ek]
    rw[e0] at B1 a2;refine qa k1 ?_;refine qa ga<|qg (jw ek) ?_;refine qa ga<|qg (jw ek) ?_;intro p2 a5;have n1:=w9 k1 a5;have n2:=w9 k2 a5;have l1:=jJ l<|iF++[i,j];have z1:=B1.sz;refine qk ((qf n1).trans k1)<|qk q9 {?_,?_}
    .rw[fv];rw[Ad] at l1;exact Bk (big _ (by simp at l1 ⊢;lia))
    .refine{_,EV _,_,a2,I++[x],iF++[i,j],_,_,rfl,(s4.trans<|By a5).upd C,?_,(qf<|AG a1).trans<|(qf n2).trans k2,B1,rfl};rw[q9,cg];rfl
def pO(I:vt)(p1:vt):bD:=(j8 (jt (jq I<|cH (qc 0)<|qc 1)<|qo 4)
 (j8 (jt (au zn)<|qo 5)
 (j8 (u7 (dz<|qc 0) (qo 6)<|ww (gH (gA 6)<|v9 3) (vv<|iC mZ (qc 5)<|qh (au<|cH (eh 6 1)<|eh 6 2) zn) cT)
 (j8 (vR 6<|jt (mJ ph<|qh (c_ 1 (dz<|qc 0) (qo 11) (gH (eh 11 0)<|rN "either")<|qc 11) zn)<|qo 7)
 (j8 (jt (au zn)<|qo 8)
 (j8 (u7 (xE<|qc 0) (cW 2<|jb (qo 9)<|jb (qo 6) bL) (j8 (jt (zx ai (jq p1<|qh (qc 2)<|cH (qc 9)<|v9 30269)<|v9 8)<|qo 10)
 (ww (ED (gH (gA 6)<|v9 2)<|yB<|zx (wP false) (qc 9)<|qc 4) (vv<|iC x9 (qc 8)<|bH<|qc 6) (ww (gH (zx ai (zx ym (qc 2)<|v9 3)<|v9 2)<|v9 1) (vv<|iC x9 (qc 8)<|qh (F6 (fE (gH (zx ai (qc 10)<|v9 2)<|v9 0)<|yB<|zx (wP true) (qc 9)<|qc 5) (yC .GM)<|qc 6) zn) (ww (fE (yB<|zx Gd (qc 10)<|v9 3)<|gH (eh 6 0)<|rN "either") (j8 (vv<|iC x9 (qc 8)<|qh (ju<|qh (rN "both")<|cH (eh 6 1)<|eh 6 2) zn)
 (jt (zx cf (qc 7)<|v9 1)<|qo 7)) (ww (fE (yB<|zx Gd (qc 10)<|v9 3)<|yB<|zx Gd (qc 7)<|qc 3) (j8 (vv<|iC x9 (qc 8)<|qh (ju<|qh (rN "either")<|cH (eh 6 1)<|eh 6 2) zn)
 (jt (zx ku (qc 7)<|v9 1)<|qo 7))<|vv<|iC x9 (qc 8)<|bH<|qc 6))))))
 (cL<|qc 8)))))))
def z_:Kn->WR
 |.nd _ i j=>[i,j]
 |.lf _ _=>[]
def az(ks:Xc):WR:=ks.flatMap z_
def ui{r:Nat}{e:Bool}(h:ks[r]?=some (.nd e i j)):i∈az ks/\j∈az ks:=
 ⟨Bh.mpr ⟨_,Ax h,by simp[z_]⟩,Bh.mpr ⟨_,Ax h,by simp[z_]⟩⟩
def UL(ks:Xc):(az ks).length<=2*ks.length:=by
 induction ks with
 |nil=>exact Am _
 |cons k r I=>
  have e:az (k::r)=z_ k++az r:=Be ..;have:(z_ k).length<=2:=by cases k<;>simp[z_]
  rw[e,Ad,AK];lia
def qO(ks:Xc)(k:Kn):az (ks++[k])=az ks++z_ k:=by unfold az;rw[AO,Be,C5,AI]
structure cz(ks:Xc)(kept:WR)(n:Nat)(eA:List<|Xd):Prop where
 len:eA.length=n
 lf:∀p t m,p<n->ks[p]?=some (.lf t m)->eA[p]?=some (some<|.lf t m)
 kp:∀p∈kept,p<n->∀k,ks[p]?=some k->eA[p]?=some (some k)
 nd:∀p e i j,p<n->ks[p]?=some (.nd e i j)->(eA[p]?=some none/\p∉az ks)\/∃e',eA[p]?=some (some<|.nd e' i j)
def cz.nil(ks:Xc)(kept:WR):cz ks kept 0 []:={rfl,λ_ _ _ h=>absurd h<|CQ _,λ_ _ h=>absurd h<|CQ _,λ_ _ _ _ h=>absurd h<|CQ _}
def cz.snoc{kept:WR}(T:cz ks kept n eA){k:Kn}{o:Xd}(h:ks[n]?=some k)(U:∀t m,k=.lf t m->o=some k)(g:n∈kept->o=some k)
 (l:∀e i j,k=.nd e i j->(o=none/\n∉az ks)\/∃J,o=some (.nd J i j)):cz ks kept (n+1) (eA++[o]):=by
 have old:∀p,p<n->(eA++[o])[p]?=eA[p]?:=λp I=>Az (by rw[T.len];exact I);have new:(eA++[o])[n]?=some o:=by rw[<-T.len];exact dq eA o []
 refine{by rw[Ad,T.len];rfl,λp t m I e=>?_,λp I r C e=>?_,λp b i j I e=>?_}
 .by_cases c:p<n
  .rw[old p c];exact T.lf p t m c e
  .have:p=n:=by lia
   subst this;rw[h] at e;cases e;rw[new,U t m rfl]
 .by_cases c:p<n
  .rw[old p c];exact T.kp p I c C e
  .have:p=n:=by lia
   subst this;rw[h] at e;cases e;rw[new,g I]
 .by_cases c:p<n
  .rw[old p c];exact T.nd p b i j c e
  .have:p=n:=by lia
   subst this;rw[h] at e;cases e;rw[new];rcases l b i j rfl with⟨a1,a2⟩|⟨J,a⟩
   .exact .inl {by rw[a1],a2}
   .exact .inr {J,by rw[a]}
def bE(o:Xd):Nat:=if TB true o=true then 1 else 0
def cE(l:List<|Xd):Nat:=(l.map bE).sum
def cK(l:Xc):Nat:=cE<|l.map some
def yf(l:List<|Xd)(o:Xd):cE (l++[o])=cE l+bE o:=by unfold cE;rw[Av,EN];simp
structure Ze(ks:Xc)(eA:List<|Xd)(i:Nat)(mn m:Int):Prop where
 a:(cE eA:Int)+((cK (ks.drop i):Nat):Int)<=mn
 b:mn<=max (cK ks:Int) m
def Ze.step{U m I:Int}{k:Kn}{o:Xd}(M:Ze ks eA i U m)(J:ks[i]?=some k)(h:(bE o:Int)+U<=I+((bE (some k):Nat):Int))(j:I<=max (cK ks:Int) m):Ze ks (eA++[o]) (i+1) I m:=by
 have g:=zf J;have e:cK (ks.drop i)=bE (some k)+cK (ks.drop<|i+1):=by rw[B4 g];rw[Ag g] at J;rw[A2 J];rfl
 have:=M.a;rw[e] at this;exact{by rw[yf];omega,j}
inductive dE(ys:_x)(L:qm)(Q:YK):Prop
 |mk:∀a c,∀ks:Xc,∀ct:WO,∀s m:Int,(ys=[.ref a,.ref c,.int s,.int m])->(L a=some (.lst<|kg ks))->(L c=some (.lst<|qt ct))->(av ks)->((∀x∈ct,x.1<ks.length/\x.2<ks.length))->(cx (cG ks) ct<=1000)->(ks.length<=1000)->(∀D qs eA,L D=none->oz ks ct qs []->cz ks qs ks.length eA->(cE eA:Int)<=max (cK ks:Int) m->Q (.ref D) (qj L D<|.lst<|jz eA))->dE ys L Q
theorem UM:_f dE (pO dh cr) 11:=by
 rintro ys L Q ⟨a,c,U,ct,s,m,rfl,ha,hc,ok,hb,hz,hn,q⟩;have big:=a_;refine{a,c,U,ct,rfl,ha,hc,ok,hb,hz,hn,λD l hD B=>?_};have s1:qi L (qj L D<|.lst<|nY l):=By hD;have a3:qj L D (.lst<|nY l) D=some (.lst<|nY l):=q9;generalize qj L D (.lst<|nY l)=L1 at s1 a3 ⊢;intro pa a4;have s2:qi L (qj L1 pa<|.lst []):=s1.trans<|By a4;have al:=s1.none a4;have ay:=w9 a3 a4;refine xg (s2 _ _ ha) λkeep kp=>aV {λi τ J=>∃c6 c7 c8 c9 g,τ=[some<|Y.ref a,some<|Y.ref c,some<|.int s,some<|.int m,some<|Y.ref D,some<|Y.ref pa,c6,c7,c8,c9,g]/\qi L J/\J D=some (.lst<|nY l)/\J pa=some (.lst<|nY<|az<|U.take i),{_,_,_,_,_,rfl,s2,(qf ay).trans a3,q9},?_,?_,?_}
 .rintro i τ J ⟨c6,c7,c8,c9,g,rfl,r,_⟩;exact kp J (by rw[r _ _ ha,s2 _ _ ha])
 .rintro i y τ J hy ⟨c6,c7,c8,c9,g,rfl,r,g1,g2⟩;rw[Al] at hy;obtain⟨k,C,rfl⟩:=Aq.mp hy;have et:U.take (i+1)=U.take i++[k]:=by rw[Bi,C];rfl
  have pl:=UL<|U.take i;rw[AV] at pl;cases k with
  |lf t n=>exact{_,EV _,_,_,_,_,_,rfl,r,g1,by rw[et,qO];show _=some (LO.lst<|nY<|az (U.take i)++[]);rw[AI];exact g2}
  |nd e p1 p2=>
   refine qa g2 ?_;intro p hp;have n1:=w9 g2 hp;have n2:=w9 g1 hp;refine qk ((qf n1).trans g2)<|qk q9 {?_,?_}
   .rw[fv];exact Bk (big _ (by simp;lia))
   .refine{_,EV _,_,_,_,_,_,rfl,(r.trans<|By hp).upd al,(qf ay).trans<|(qf n2).trans g1,?_};rw[q9,et,qO,cg];rfl
 .rintro τ J ⟨c6,c7,c8,c9,g,rfl,r,g1,g2⟩;rw[Ac,Bg] at g2;refine xg (r _ _ ha) λkeep kp=>bx (λi zs=>zs.length=cK (U.take i)) (by rw[Ac];exact big _ (by exact fV)) (kp _ rfl) rfl ?_ ?_
  .rintro i y zs ey hl;rw[Al] at ey;obtain⟨k,C,rfl⟩:=Aq.mp ey;have et:cK (U.take<|i+1)=cK (U.take i)+bE (some k):=by rw[Bi,C];show cE (((U.take i)++[k]).map some)=_;rw[Av];exact yf _ _
   have no:bE (some k)=0->gW (λzs a5=>a5=J/\zs.length=cK (U.take<|i+1)) zs J:=λh=>{_,EV _,rfl,by rw[et,h];exact hl};have yes:∀z,bE (some k)=1->gW (λzs a5=>a5=J/\zs.length=cK (U.take<|i+1)) (zs++[z]) J:=λz h=>{_,EV _,rfl,by rw[Ad,B6,et,h,hl]};cases k with
   |lf t n=>cases t<;>exact no rfl
   |nd e p1 p2=>
    cases e with|true=>exact yes _ rfl|false=>exact no rfl
  rintro zs aL p hp;rw[Ac,Bg] at aL;refine qk q9 ?_;rw[aL];have s3:qi L (qj J p<|.lst zs):=r.trans<|By hp;have k1:qj J p (.lst zs) D=some (.lst<|nY l):=(qf<|w9 g1 hp).trans g1;have k2:qj J p (.lst zs) pa=some (.lst<|nY<|az U):=(qf<|w9 g2 hp).trans g2;generalize qj J p (.lst zs)=L2 at s3 k1 k2 ⊢;intro mk a1;have a2:=s3.none a1;have s4:qi L (qj L2 mk<|.lst []):=s3.trans<|By a1;have ba:=w9 k1 a1;have bb:=w9 k2 a1;refine xg (s4 _ _ ha) λkeep kp=>aV {λi τ J=>∃c6,∃j:Int,∃c9 g I,τ=[some<|Y.ref a,some<|Y.ref c,some<|.int s,some<|.int m,some<|Y.ref D,some<|Y.ref pa,c6,some<|.int j,some<|Y.ref mk,c9,g]/\qi L J/\J D=some (.lst<|nY l)/\J pa=some (.lst<|nY<|az U)/\J mk=some (.lst<|jz I)/\cz U l i I/\Ze U I i j m,{_,_,_,_,[],rfl,s4,(qf ba).trans k1,(qf bb).trans k2,q9,cz.nil _ _,{by show((0:Nat):Int)+(cK U:Int)<=_;omega,by omega}},?_,?_,?_}
  .rintro i τ J ⟨c6,j,c9,g,I,rfl,r,_⟩;exact kp J (by rw[r _ _ ha,s4 _ _ ha])
  .rintro i y τ J hy ⟨c6,j,c9,g,I,rfl,r,g1,g2,g3,T,M⟩;obtain⟨z,ez,rfl⟩:=iJ hy;rw[Al] at ez;obtain⟨k,C,rfl⟩:=Aq.mp ez;have hi:=zf C;have ol:=T.len;refine{s,i,30269,rfl,by exact AQ _,by omega,by decide,by decide,λv h0 h1=>?_};refine{show(0:Int)<8 by decide,?_};have add:∀(o:Xd) (y:Y) (ac:Int),jF o=y->cz U l (i+1) (I++[o])->Ze U (I++[o]) (i+1) ac m->gW (λ(τ:ji) (J:qm)=>∃c6,∃j:Int,∃c9 g I,τ=[some<|Y.ref a,some<|Y.ref c,some<|.int s,some<|.int m,some<|Y.ref D,some<|Y.ref pa,c6,some<|.int j,some<|Y.ref mk,c9,g]/\qi L J/\J D=some (.lst<|nY l)/\J pa=some (.lst<|nY<|az U)/\J mk=some (.lst<|jz I)/\cz U l (i+1) I/\Ze U I (i+1) j m) [some<|Y.ref a,some<|Y.ref c,some<|.int s,some<|.int m,some<|Y.ref D,some<|Y.ref pa,some<|qC k,some<|.int ac,some<|Y.ref mk,some<|.int ((i:Nat):Int),some<|.int<|v % 8] (qj J mk<|.lst<|jz I++[y]):=λo y ac ey T' M'=>
    ⟨_,EV _,_,_,_,_,I++[o],rfl,r.upd a2,(qf ba).trans g1,(qf bb).trans g2,by rw[q9,<-ey,iN],T',M'⟩
   have len:(jz I).length<sizeLine:=by rw[jo,ol];exact big _ (by lia)
   have M0:Ze U (I++[some k]) (i+1) j m:=M.step C (by omega) M.b;cases k with
   |lf t n=>
    have T':=T.snoc C (λ_ _ h=>by rw[h]) (λ_=>rfl) (λ_ _ _ h=>by cases h);exact qa g3<|qk g3 {len,add _ _ j rfl T' M0}
   |nd e p1 p2=>
    refine qa g1 {rfl,iK _,?_};rw[ie];by_cases ck:i∈l
    .have T':=T.snoc C (λ_ _ h=>by cases h) (λ_=>rfl) (λ_ _ _ h=>.inr {e,by cases h;rfl});refine dg (by rw[AD ck];rfl) ?_;exact qa g3<|qk g3 {len,add _ _ j rfl T' M0}
    refine bF (by rw[Aw ck];rfl) ?_;have T':=λe'=>T.snoc C (λ_ _ h=>by cases h) (λh=>absurd h ck) (λ_ _ _ h=>.inr {e',by cases h;rfl});refine{{by decide,by decide},show(0:Int)<2 by decide,?_};refine zm (λh=>?_) λh=>?_
    .refine qa g3 ?_;refine{show(0:Int)<2 by decide,?_};refine zm (λh2=>?_) λh2=>?_
     .refine qa g2 {rfl,iK _,?_};rw[ie];by_cases cp:i∈az U
      .refine bF (by rw[AD cp];rfl) ?_;exact qk g3 {len,add _ _ j rfl (T' e) M0}
      .refine dg (by rw[Aw cp];rfl) ?_;have T2:=T.snoc C (λ_ _ h=>by cases h) (λh=>absurd h ck) λ_ _ _ h=>.inl {(rfl),cp};exact qk g3 {len,add _ _ j rfl T2 (M.step C (by have:bE (none:Xd)=0:=rfl;omega) M.b)}
     .exact qk g3 {len,add _ _ j rfl (T' e) M0}
    .have same:=add (some<|.nd e p1 p2) _ j rfl (T' e) M0;refine zm (λh2=>?_) λh2=>?_
     .cases e with
      |true=>exact qa g3 (qk g3 {len,add (some<|.nd false p1 p2) _ (j-1) rfl (T' false) (M.step C (by show((0:Nat):Int)+j<=j-1+((1:Nat):Int);omega) (by have:=M.b;omega))})
      |false=>
       refine zm (λh2=>?_) λh2=>?_
       .refine zm (λh3=>?_) λh3=>?_
        .exact qa g3 (qk g3 {len,add (some<|.nd true p1 p2) _ (j+1) rfl (T' true) (M.step C (by show((1:Nat):Int)+j<=j+1+((0:Nat):Int);omega) (by omega))})
        .exact qa g3<|qk g3 {(len),same}
       .exact qa g3<|qk g3 {(len),same}
     .refine zm (λh3=>absurd h3 h2) λh3=>?_;exact qa g3<|qk g3 {(len),same}
  .rintro τ J ⟨c6,j,c9,g,I,rfl,r,g1,g2,g3,T,M⟩;rw[gC,Ac] at T M;have mb:(cE I:Int)<=max (cK U:Int) m:=by have:=M.a;have:=M.b;omega
   refine{qj L mk<|.lst<|jz I,λb o e=>?_,q mk l I a2 B T mb};by_cases cc:b=mk
   .subst cc;rw[q9] at e;rw[<-e];exact g3
   .rw[qf cc] at e;exact r _ _ e
def ff:RD "_law_crossed" fw 0 ["_law_knots","_law_links","_law_one","_law_two","_law_first","_law_mates","_law_second","_law_a","_law_b","_law_c","_law_d","_law_rest"] (λ_=>True):={_,λV B c _ _ _ _ _ _ _ J hN I=>(qb (aj (i:=4) hN rfl (Or.inr rfl)<|I_ (qv 1)<|ql zw (qv 2)<|L_ B.ba<|qv 1)<|qb (aT ["_law_x"] (i:=5) hN rfl (Or.inl rfl) (EZ (by rfl)) rfl (xx<|qv 1) (o7 12) (λ_ _ _ _=>bJ<|xo<|vf (N_ I (qv 12)<|qv 4)<|jx<|E_ I (I_ (I_ (qv 0)<|J_ 12) qd)<|I_ (I_ (qv 0)<|J_ 4) qd) λ_ _ _ _=>(qv 12))<|qb (zo (E_ I (qv 5)<|zj xn) (qe<|qu<|qv 1) zg)<|qb (aj (i:=6) hN rfl (Or.inr rfl)<|I_ (qv 5)<|ql zw (qv 3)<|L_ B.ba<|qv 5)<|qb (a8 (fO (E_ I (I_ (I_ (qv 0)<|J_ 4) qd) jd) (qv 4)<|qr<|vj (J_ 4)<|J_ 4)<|kz (n:=2) rfl<|qw (G_ 7 hN)<|qw (G_ 8 hN) v5)<|qb (a8 (fO (E_ I (I_ (I_ (qv 0)<|J_ 6) qd) jd) (qv 6)<|qr<|vj (J_ 6)<|J_ 6)<|kz (n:=2) rfl<|qw (G_ 9 hN)<|qw (G_ 10 hN) v5)<|qb (aT ["_law_x"] (i:=11) hN rfl (Or.inl rfl) (EZ (by rfl)) rfl (xx<|qv 1) (o7 12) (λ_ _ _ _=>bJ<|xo<|vf (N_ I (qv 12)<|qv 4)<|jx<|N_ I (qv 12)<|qv 6) λ_ _ _ _=>(qv 12))<|qe<|qu<|j5 ak rfl B.bg k8<|jm<|ql jf (qv 11)<|zj<|vj (qr<|vj (j5 Gb rfl B.bp sE<|vj (qv 7)<|qv 10)<|j5 Ga rfl B.bj sK<|vj (qv 7)<|qv 10)<|qr<|vj (j5 Gb rfl B.bp sE<|vj (qv 9)<|qv 8)<|j5 Ga rfl B.bj sK<|vj (qv 9)<|qv 8)}
def fC(x:WZ):Da:=.tup [.s<|.int (x.1:Int),.s<|.int (x.2:Int)]
def i5(x y:WZ):Da.eq (fC x) (fC y)=decide (x=y):=by show(decide ((x.1:Int)=(y.1:Int))&&(decide ((x.2:Int)=(y.2:Int))&&true))=_;rw[Bool.and_true,<-Bool.decide_and];exact DB.mpr {λ ψ=>(by obtain⟨h1,h2⟩:=ψ;exact Eu (Bp.mp h1)<|Bp.mp h2),λh=>by subst h;exact{(rfl),rfl}}
def kQ(x:WZ):jj L 1 (gd x) (fC x):=wo<|.cons (E5 _)<|.cons (E5 _) .nil
theorem we{L:qm}:∀l:WO,Paired (jj L 1) (qt l)<|l.map fC
 |[]=>.nil
 |_::r=>.cons (wo<|.cons (E5 _)<|.cons (E5 _) .nil)<|we r
def UN(l:WN):Da.eqs (l.map fC) []=decide (l=[]):=by cases l<;>rfl
def zM{f:WZ->Bool}{keep:qm->Prop}{Q:YK}(hz:lk.length<=1000)(o:keep L)
 (turn:∀(i:Nat) (I:WZ) (R:_x->qm->Prop) zs,lk[i]?=some I->(f I=true->R (zs++[gd I]) L)->(f I=false->R zs L)->g (gd I) (τ++List.replicate 1 none) L λJ L2=>tc J L2 λb L3=>aC b (te J L3 λz r=>R (zs++[z]) r)<|R zs L3)
 (t:∀p,L p=none->Q (.ref p) (qj L p<|.lst<|qt<|lk.filter f)):yr (qt lk) keep 1 g tc te τ L Q:=by
 refine bx (λi zs=>zs=qt ((lk.take i).filter f)) (by rw[Ac];exact Bs hz (by decide)) o rfl ?_ ?_
 .rintro i y zs U rfl;rw[Al] at U;obtain⟨I,j,rfl⟩:=Aq.mp U;have l:lk.take (i+1)=lk.take i++[I]:=by rw[Bi,j];rfl
  refine turn i I _ _ j (λh=>{L,EV _,rfl,?_}) λh=>{L,EV _,rfl,?_}
  .rw[l,Cq,List.filter_cons_of_pos h,Dj,<-jX]
  .rw[l,Cq,List.filter_cons_of_neg (by rw[h];simp),Dj,AI]
 .rintro zs rfl p C;rw[Ac,Bg];exact t p C
structure YD(ks:Xc)(lk:WN):Prop where
 nd:(zh lk).Nodup
 lt:∀p∈lk,p.1<p.2
 at_:∀p∈lk,∃t n,ks[p.1]?=some (.lf t n)/\ks[p.2]?=some (.lf (!t) n)
def jc(c:WZ)(r:WN):zh (c::r)=c.1::c.2::zh r:=by
 have e:zh (c::r)=[c.1,c.2]++zh r:=by rw[<-aF,<-jy];rfl
 rw[e];rfl
def xc(h:l.Perm m):(zh l).Perm (zh m):=by
 induction h with
 |nil=>exact .nil
 |cons x _ I=>rw[jc,jc];exact(I.cons _).cons _
 |swap x y l=>
  rw[jc,jc,jc,jc];exact(Bo (l₁:=[y.1,y.2]) (l₂:=[x.1,x.2])).append_right (zh l)
 |trans _ _ h1 h2=>exact h1.trans h2
theorem xl:∀{l:WN},(zh l).Nodup->l.Nodup
 |[],_=>BY
 |c::r,h=>by rw[jc] at h;have h1:=AE.mp h;have h2:=AE.mp h1.2;exact AE.mpr {λI=>h1.1<|Ai _ (ke I).1,xl h2.2}
def yx(nd:l.Nodup){x y:WZ}(U:x∈l)(g:y∈l)(ne:x≠y):l.Perm (x::y::l.filter λz=>decide (z≠x)&&decide (z≠y)):=by
 refine(Bf nd ?_).mpr λz=>?_
 .refine AE.mpr {λh=>?_,AE.mpr {λh=>?_,nd.filter _}}
  .rcases As.mp h with h|h
   .exact ne h
   .simp at h
  .simp at h
 .by_cases I:z=x
  .subst I;simp[U]
  .by_cases J:z=y
   .subst J;simp[g]
   .simp[I,J]
def dy(a b:Nat):WZ:=(min a b,max a b)
def yX(a b:Nat)(r:WR):(min a b::max a b::r).Perm (a::b::r):=by
 by_cases c:a<=b
 .rw[B3 c,CH c]
 .rw[C3 (by lia),CP (by lia)];exact List.Perm.swap ..
def jk(t:Bool)(p:WZ):WZ:=if t=true then(p.2,p.1) else p
def kU(t:Bool)(p:WZ)(r:WR):((jk t p).1::(jk t p).2::r).Perm (p.1::p.2::r):=by cases t with|true=>exact List.Perm.swap ..|false=>exact .refl _
def YD.ZL(I:YD ks lk){x y:WZ}(C:x∈lk)(T:y∈lk)(ne:x≠y){u:Bool}{n:Str}(x1:ks[x.1]?=some (.lf t n))(g:ks[x.2]?=some (.lf (!t) n))(j:ks[y.1]?=some (.lf u n))(l:ks[y.2]?=some (.lf (!u) n)):
 (zh<|(lk.filter λz=>decide (z≠x)&&decide (z≠y))++[dy (jk t x).1 (jk u y).2,dy (jk u y).1 (jk t x).2]).Perm (zh lk)/\
 YD ks ((lk.filter λz=>decide (z≠x)&&decide (z≠y))++[dy (jk t x).1 (jk u y).2,dy (jk u y).1 (jk t x).2]):=by
 have pm:=xc<|yx (xl I.nd) C T ne;rw[jc,jc] at pm;generalize o:(lk.filter λz=>decide (z≠x)&&decide (z≠y))=rest at pm;have r:(zh<|rest++[dy (jk t x).1 (jk u y).2,dy (jk u y).1 (jk t x).2]).Perm (zh lk):=by rw[jy,jc,aF];refine Bo.trans<|List.Perm.trans ?_ pm.symm;refine(yX (jk t x).1 (jk u y).2 _).trans ?_;refine(((yX (jk u y).1 (jk t x).2<|zh rest).cons _).cons _).trans ?_;refine List.Perm.trans ?_<|kU t x _;refine List.Perm.cons _ ?_;refine List.Perm.trans ?_<|(kU u y _).cons _;refine(Bo (l₁:=[(jk u y).2,(jk u y).1]) (l₂:=[(jk t x).2])).append_right (zh rest) |>.trans ?_;exact(List.Perm.swap ..).cons _
 have J:ks[(jk t x).1]?=some (.lf false n)/\ks[(jk t x).2]?=some (.lf true n):=by cases t;exact{(x1),g};exact{(g),x1}
 have U:ks[(jk u y).1]?=some (.lf false n)/\ks[(jk u y).2]?=some (.lf true n):=by cases u;exact{(j),l};exact{(l),j}
 have two:∀a b,ks[a]?=some (.lf false n)->ks[b]?=some (.lf true n)->(dy a b).1<(dy a b).2/\∃t n,ks[(dy a b).1]?=some (.lf t n)/\ks[(dy a b).2]?=some (.lf (!t) n):=λa b ea eb=>by
  have a1:a≠b:=λh=>by subst h;rw[ea] at eb;cases eb
  unfold dy;by_cases c:a<b
  .rw[B3 (by exact jL),CH (by lia)];exact{(c),false,n,ea,eb}
  .rw[C3 (by exact Fx),CP (by lia)];exact{by show b<a;lia,true,n,eb,ea}
 refine{r,r.nodup_iff.mpr I.nd,λp h=>?_,λp h=>?_}
 .rcases Ak.mp h with h|h
  .rw[<-o] at h;exact I.lt p (AR.mp h).1
  .rcases As.mp h with rfl|h
   .exact(two _ _ J.1 U.2).1
   .rw[Ap.mp h];exact(two _ _ U.1 J.2).1
 .rcases Ak.mp h with h|h
  .rw[<-o] at h;exact I.at_ p (AR.mp h).1
  .rcases As.mp h with rfl|h
   .exact(two _ _ J.1 U.2).2
   .rw[Ap.mp h];exact(two _ _ U.1 J.2).2
def YD.perm(I:YD ks l)(p:m.Perm l):YD ks m:={(xc p).nodup_iff.mpr I.nd,λx J=>I.lt x<|p.mem_iff.mp J,λx J=>I.at_ x<|p.mem_iff.mp J}
inductive bW(ys:_x)(L:qm)(Q:YK):Prop
 |mk:∀a l,∀ks:Xc,∀lk:WO,∀one two:Int,(ys=[.ref a,.ref l,.int one,.int two])->(L a=some (.lst<|kg ks))->(L l=some (.lst<|qt lk))->(YD ks lk)->(lk≠[])->(lk.length<=125)->(ks.length<=1000)->(Q (.ref l) L)->(∀D lk',L D=none->YD ks lk'->lk'.length=lk.length->(zh lk').Perm (zh lk)->lk'.Pairwise ar->Q (.ref D) (qj L D<|.lst<|qt lk'))->bW ys L Q
def iV(ks:Xc)(p:Nat):Str:=match ks[p]? with
 |some (.lf _ n)=>n
 |_ => ""
def mP{p:Nat}{n:Str}(e:ks[p]?=some (.lf t n)):iV ks p=n:=by unfold iV;rw[e]
def fi{x:WZ}(h:l[i]?=some x):(qt l)[i]?=some (gd x):=by rw[Al,h];rfl
def UO:bD:=(j8 (jt (c_ 1 (dz<|qc 1) (qo 12) (fE (Fi (qc 12)<|qc 4)<|Fi (qc 12)<|qc 6)<|qc 12)<|qo 11)
 (cL<|mJ aI<|qh (zx ku (qc 11)<|au<|qh (ju<|qh (mJ FK<|cH (qc 7)<|qc 10)<|qh (mJ Ez<|cH (qc 7)<|qc 10) zn)<|qh (ju<|qh (mJ FK<|cH (qc 9)<|qc 8)<|qh (mJ Ez<|cH (qc 9)<|qc 8) zn) zn) zn))
def UP{I:WN}{A B C D:Nat}{p:Addr}{Q:YK}(h:L p=some (.lst<|qt I))(hz:I.length<=125)(nd:(I++[dy A D,dy C B]).Nodup)(r:∀p∈I++[dy A D,dy C B],p.2<1000000)
 (q:∀L' J qs,qi L L'->L' J=none->qs.Perm (I++[dy A D,dy C B])->qs.Pairwise ar->Q (.ref J) (qj L' J<|.lst<|qt qs)):
 ∀p2,L p2=none->ku (.ref p) (.ref p2) (qj L p2<|.lst [Y.tup [.int<|min (A:Int) (D:Int),.int<|max (A:Int) (D:Int)],Y.tup [.int<|min (C:Int) (B:Int),.int<|max (C:Int) (B:Int)]]) λy L'=>aI [y] L' Q:=by
 have big:=a_;intro p2 g;have l:∀a b:Nat,(Y.tup [.int<|min (a:Int) (b:Int),.int<|max (a:Int) (b:Int)])=gd (dy a b):=λa b=>by
  have t:min (a:Int) (b:Int)=((min a b:Nat):Int):=by omega
  have T:max (a:Int) (b:Int)=((max a b:Nat):Int):=by omega
  unfold gd dy;rw[t,T]
 rw[l,l];have j:=By (o:=.lst [gd<|dy A D,gd<|dy C B]) g;refine{_,_,j _ _ h,q9,?_,λp3 U=>?_}
 .rw[Ac];exact Bk (big _ (by show _+2<=_;lia))
 generalize qj L p2 (.lst [gd<|dy A D,gd<|dy C B])=L1 at j U ⊢;rw[show qt I++[gd<|dy A D,gd<|dy C B]=qt (I++[dy A D,dy C B]) by unfold qt;rw[Av];rfl];exact lT (ps:=I++[dy A D,dy C B]) q9 r nd (by rw[Ad];show I.length+2<=_;lia) λJ qs hD pm pw=>q _ J qs (j.trans<|By U) hD pm pw
def eF{J j o:Xb}{l:Addr}{x y:WZ}{A B C D:Nat}(r:L l=some (.lst<|qt lk))(hz:lk.length<=125)
 (nd:((lk.filter λz=>decide (z≠x)&&decide (z≠y))++[dy A D,dy C B]).Nodup) (t:∀p∈(lk.filter λz=>decide (z≠x)&&decide (z≠y))++[dy A D,dy C B],p.2<1000000)
 (q:∀L' U qs,qi L L'->L' U=none->qs.Perm ((lk.filter λz=>decide (z≠x)&&decide (z≠y))++[dy A D,dy C B])->qs.Pairwise ar->En.rt (.ref U) (qj L' U<|.lst<|qt qs)):
 UO En [c0,some<|.ref l,J,j,some<|gd x,o,some<|gd y,some<|.int (A:Int),some<|.int (B:Int),some<|.int (C:Int),some<|.int (D:Int),none] L:=by
 have big:=a_;refine xg r λkeep T=>zM (f:=λz=>decide (z≠x)&&decide (z≠y)) (by exact fV) (T _ rfl) (λi I R zs ep hy g=>?_) λp hp=>?_
 .refine{rfl,rfl,1,1,fC I,fC x,by decide,kQ I,kQ x,?_};rw[i5];by_cases c:I=x
  .refine bF (by rw[AD c];rfl) (g (by rw[Aw (by simpa using c)];rfl))
  .refine dg (by rw[Aw c];rfl) ?_;refine{rfl,rfl,1,1,fC I,fC y,by decide,kQ I,kQ y,?_};rw[i5];by_cases J:I=y
   .refine bF (by rw[AD J];rfl)<|g (by rw[Aw (by simpa using J:¬I≠y),BW])
   .refine dg (by rw[Aw J];rfl) (hy (by rw[AD c,AD J];rfl))
 exact UP q9 (AS (Dz ..) hz) nd t λL' U qs sl=>q L' U qs<|(By hp).trans sl
def yJ:_f bW ff.1 12:=by
 rintro ys L Q ⟨a,l,J,lk,one,two,rfl,ha,hl,I,ne,hz,hn,q0,q⟩;have big:=a_;have a2:=C9.mpr ne;obtain⟨j1,x,e1,h1,ex⟩:=bz a2 one;have pl:(qt lk).length=lk.length:=Ac ..;have mx:=Ax ex;obtain⟨t,n,x1,x2⟩:=I.at_ x mx;refine qa hl {by show(0:Int)<((qt lk).length:Int);rw[pl];lia,qa hl (qg (by rw[pl,e1];exact xi (fi ex):fG (qt lk) (one % ((qt lk).length:Int))=some (gd x)) ?_)};refine xg hl λkeep kp=>zM (f:=λz=>decide (z≠x)&&decide (iV J z.1=iV J x.1)) (by exact fV) (kp _ rfl) (λi pr R zs ep hy a3=>?_) λp hp=>?_
 .obtain⟨t2,n2,p1,p2⟩:=I.at_ pr<|Ax ep;refine{rfl,rfl,1,1,fC pr,fC x,by decide,kQ pr,kQ x,?_};rw[i5];by_cases c:pr=x
  .refine bF (by rw[AD c];rfl) (a3 (by rw[Aw (by simpa using c)];rfl))
  .refine dg (by rw[Aw c];rfl) ?_;refine qa ha<|qg (jw p1) ?_;refine qa ha<|qg (jw x1) ?_;have en:(decide<|iV J pr.1=iV J x.1)=decide (n2=n):=by rw[mP p1,mP x1]
   refine zm (λh=>hy ?_) λh=>a3 ?_
   .rw[en,AD h,AD c];rfl
   .rw[en,Aw h,BW]
 have np:=w9 hl hp;have s1:qi L (qj L p<|.lst<|qt<|lk.filter λz=>decide (z≠x)&&decide (iV J z.1=iV J x.1)):=By hp;have g1:qj L p (.lst<|qt<|lk.filter λz=>decide (z≠x)&&decide (iV J z.1=iV J x.1)) p=some (.lst<|qt<|lk.filter λz=>decide (z≠x)&&decide (iV J z.1=iV J x.1)):=q9;obtain⟨mt,C⟩:∃mt,mt=lk.filter λz=>decide (z≠x)&&decide (iV J z.1=iV J x.1):={_,rfl};rw[<-C] at s1 g1 ⊢;have lm:mt.length<=lk.length:=by rw[C];exact Dz ..
 generalize qj L p (.lst<|qt mt)=L1 at s1 g1 ⊢;intro p2 T;refine kq (n:=1) (m:=0) (by decide) (By T _ _ g1) q9 (we mt) (.nil:Paired (jj _ 0) _ []) ?_;have s2:qi L (qj L1 p2<|.lst []):=s1.trans<|By T;have g2:qj L1 p2 (.lst []) p=some (.lst<|qt mt):=By T _ _ g1;generalize qj L1 p2 (.lst [])=L2 at s2 g2 ⊢;show aC (Da.eqs (mt.map fC) []) _ _;rw[UN];by_cases cm:mt=[]
 .refine dg (by rw[AD cm]) ?_;exact{(L),s2,q0}
 refine bF (by rw[Aw cm]) ?_;obtain⟨j2,y,e2,h2,ey⟩:=bz (C9.mpr cm) two;have pm:(qt mt).length=mt.length:=Ac ..;have my:=Ax ey;rw[C] at my;obtain⟨my,cy⟩:=AR.mp my;rw[AM,DZ,DZ] at cy;obtain⟨u,n',y1,y2⟩:=I.at_ y my;have a4:n'=n:=by rw[<-mP y1,<-mP x1];exact cy.2
 subst a4;have U:=s2 _ _ hl;have a1:=s2 _ _ ha;refine qa g2 {by show(0:Int)<((qt mt).length:Int);rw[pm];have:=C9.mpr cm;lia,qa g2 (qg (by rw[pm,e2];exact xi (fi ey):fG (qt mt) (two % ((qt mt).length:Int))=some (gd y)) ?_)};obtain⟨cp,cI⟩:=I.ZL mx my (AG cy.1) x1 x2 y1 y2;have tail:∀L' r qs,qi L2 L'->L' r=none->qs.Perm ((lk.filter λz=>decide (z≠x)&&decide (z≠y))++[dy (jk t x).1 (jk u y).2,dy (jk u y).1 (jk t x).2])->qs.Pairwise ar->a6 Q (.ref r) (qj L' r<|.lst<|qt qs):=λL' r qs sl hD pq pw=>by
  have a5:L r=none:=s2.none<|sl.none hD;refine{qj L r<|.lst<|qt qs,λb o e=>?_,q r qs a5 (cI.perm pq) ?_ ((xc pq).trans cp) pw}
  .by_cases c:b=r
   .subst c;rw[q9] at e ⊢;exact e
   .rw[qf c] at e ⊢;exact sl _ _<|s2 _ _ e
  .have l1:=cp.length_eq;rw[vq,vq] at l1;rw[pq.length_eq];lia
 have g:=xl cI.nd;have j:∀p∈(lk.filter λz=>decide (z≠x)&&decide (z≠y))++[dy (jk t x).1 (jk u y).2,dy (jk u y).1 (jk t x).2],p.2<1000000:=λp hp=>by obtain⟨_,_,_,h⟩:=cI.at_ p hp;have:=zf h;lia
 refine qa a1<|qg (jw x1) ?_;cases t with
 |false=>
  refine qa a1<|qg (jw y1) ?_;cases u with|false=>exact eF U hz g j tail|true=>exact eF U hz g j tail
 |true=>
  refine qa a1<|qg (jw y1) ?_;cases u with|false=>exact eF U hz g j tail|true=>exact eF U hz g j tail
def hJ(l:vt)(g:vt)(j:vt)(I:vt)(J:vt)(U:vt):RD "_law_web" oh 129 ["_law_script","_law_seed","_law_room","_law_most","_law_bits","_law_gaps","_law_knots","_law_rule","_law_links","_law_cuts","_law_k"] (λV=>Ho V l/\JA V g/\JB V j/\JC V I/\JD V J/\JE V U):={_,λV B c _ _ _ _ _ _ _ o hN p=>(qb (S_ 4 hN<|C_ c.1 o<|aA (qv 1) qd qd)<|qb (S_ 5 hN<|aH (fU _ _ _ p) (ql zw (qv 4) qd) qd<|jv _)<|vk (zo (km<|qv 5) (qe<|S_ 2 hN<|j5 Gb rfl B.bp sE<|vj (qv 2) qd) zg)<|qb (a8 (C_ c.2.1 o<|aA (qv 0) (qv 1)<|qv 2)<|kz (n:=2) rfl<|qw (G_ 6 hN)<|qw (G_ 7 hN) v5)<|qb (a8 (C_ c.2.2.1 o<|jm<|qv 7)<|kz (n:=2) rfl<|qw (G_ 8 hN)<|qw (G_ 9 hN) v5)<|qb (aU ya rfl (ky rfl B.bh<|jm<|ql zw (ql kh (qv 4) qd) qd) (G_ 10 hN)<|qe<|S_ 8 hN<|C_ c.2.2.2.1 o<|jr (qv 6)<|aA (qv 8) (C_ c.1 o<|aA (qv 1) (ql jf qd<|qv 10) qd)<|C_ c.1 o<|aA (qv 1) (ql jf qd<|qv 10) qd)<|vk (zo (E_ p (ql zw (ql kh (qv 4) qd) qd) qd) (qe<|S_ 6 hN<|C_ c.2.2.2.2.1 o<|jr (qv 6)<|aA (qv 9) (qv 1)<|qv 3) zg)<|qe<|qu<|C_ c.2.2.2.2.2 o<|jr (qv 6)<|jr (qv 8)<|aA (qv 9) (qv 1)<|qv 5)}
theorem dH:∀R:Ru,nF R+1<=(z9 R).length
 |.link _ _=>Am _
 |.ei r A=>by have:=dH A;show nF A+1+1<=(r::z9 A).length;rw[AK];exact D_
 |.bo r A B=>by have:=dH A;have:=dH B;show nF A+nF B+1+1<=(r::(z9 A++z9 B)).length;rw[AK,Ad];lia
 |.cu _ _ A B=>by have:=dH A;have:=dH B;show nF A+nF B+1+1<=(z9 A++z9 B).length;rw[Ad];lia
theorem wf:∀R:Ru,∃rest,(zh (zp R)++rest).Perm<|z9 R
 |.link p q=>{[],.refl _}
 |.ei r A=>by obtain⟨u,h⟩:=wf A;exact{r::u,Cn.trans<|h.cons r}
 |.bo r A B=>by obtain⟨u,h⟩:=wf A;obtain⟨v,k⟩:=wf B;refine{r::(u++v),?_};show(zh (zp A++zp B)++r::(u++v)).Perm (r::(z9 A++z9 B));rw[jy];refine Cn.trans<|List.Perm.cons r ?_;refine List.Perm.trans ?_<|h.append k;rw[Ay,Ay];refine DA _ ?_;rw[<-Ay,<-Ay];exact Dv _ Bo
 |.cu p q A B=>by obtain⟨u,h⟩:=wf A;obtain⟨v,k⟩:=wf B;refine{u++v,?_};show(zh (zp A++zp B)++(u++v)).Perm (z9 A++z9 B);rw[jy];refine List.Perm.trans ?_<|h.append k;rw[Ay,Ay];refine DA _ ?_;rw[<-Ay,<-Ay];exact Dv _ Bo
def SR.links{E:WR}(h:SR ks R E):∀p∈zp R,p.1<p.2/\∃t n,ks[p.1]?=some (.lf t n)/\ks[p.2]?=some (.lf (!t) n):=by induction h with|@link p q t n E h1 h2 h3 j l=>intro x U;rw[Ap.mp U];exact{(h1),t,n,h2,h3}|ei _ _ _ _ _ _ _ g=>exact g|bo _ _ _ _ _ _ _ I J=>intro x U;exact(Ak.mp U).elim (I x) (J x)|cu _ _ _ _ _ _ _ _ I J=>intro x U;exact(Ak.mp U).elim (I x) (J x)
def SR._i{E:WR}(h:SR ks R E)(nd:(z9 R).Nodup):YD ks (zp R):=by obtain⟨u,J⟩:=wf R;exact{(Au.mp<|J.nodup_iff.mpr nd).1,λp I=>(h.links p I).1,λp I=>(h.links p I).2}
def SR.Yx{E:WR}(h:SR ks R E):(z9 R).Nodup->(zh<|zq R).Nodup/\(∀x∈zh (zq R),x∉E/\x∈z9 R):=by
 induction h with
 |link _ _ _ _ _=>exactλ_=>{BY,λx I=>by cases I}
 |@ei r i j A EA E h1 h2 h3 h4 h5 t h7 ih=>
  intro nd;obtain⟨n1,n2⟩:=AE.mp<|show(r::z9 A).Nodup from nd;obtain⟨a,b⟩:=ih n2;refine{a,λx I=>{λJ=>?_,Ai _ (b x I).2}};rcases (t x).mp J with⟨z,_⟩|rfl
  .exact(b x I).1 z
  .exact n1 (b x I).2
 |@bo r i j A B EA EB E h1 h2 h3 h4 h5 t h7 l o=>
  intro nd;obtain⟨n1,n2⟩:=AE.mp<|show(r::(z9 A++z9 B)).Nodup from nd;obtain⟨m1,m2,U⟩:=Au.mp n2;obtain⟨a1,b1⟩:=l m1;obtain⟨a2,b2⟩:=o m2;have sA:=h2.sub;have C:=h3.sub;show(zh<|zq A++zq B).Nodup/\∀x∈zh (zq A++zq B),x∉E/\x∈r::(z9 A++z9 B);rw[jy];refine{Au.mpr {a1,a2,λx I y hy=>U x (b1 x I).2 y (b2 y hy).2},λx I=>?_};rcases Ak.mp I with I|I
  .refine{λJ=>?_,Ai _<|An _ (b1 x I).2};rcases (t x).mp J with⟨z,_⟩|⟨z,_⟩|rfl
   .exact(b1 x I).1 z
   .exact U x (b1 x I).2 x (C x z) rfl
   .exact n1<|An _ (b1 _ I).2
  .refine{λJ=>?_,Ai _<|Ah _ (b2 x I).2};rcases (t x).mp J with⟨z,_⟩|⟨z,_⟩|rfl
   .exact U x (sA x z) x (b2 x I).2 rfl
   .exact(b2 x I).1 z
   .exact n1<|Ah _ (b2 _ I).2
 |@cu p q A B EA EB E w h1 h2 h3 h4 h5 t h7 h8 l o=>
  intro nd;obtain⟨m1,m2,U⟩:=Au.mp<|show(z9 A++z9 B).Nodup from nd;obtain⟨a1,b1⟩:=l m1;obtain⟨a2,b2⟩:=o m2;have sA:=h1.sub;have C:=h2.sub;show(zh<|(p,q)::(zq A++zq B)).Nodup/\∀x∈zh ((p,q)::(zq A++zq B)),x∉E/\x∈z9 A++z9 B;rw[jc,jy];have tp:=sA p h3;have tq:=C q h4;have a3:p≠q:=λe=>U p tp q tq e;have T:∀x,x∈zh (zq A)++zh (zq B)->x≠p/\x≠q:=λx I=>by
   rcases Ak.mp I with I|I
   .exact{λe=>(b1 x I).1<|e▸h3,λe=>U x (b1 x I).2 q tq e}
   .exact{λe=>U p tp x (b2 x I).2 e.symm,λe=>(b2 x I).1<|e▸h4}
  refine{AE.mpr {λh=>?_,AE.mpr {λh=>(T q h).2 rfl,Au.mpr {a1,a2,λx I y hy=>U x (b1 x I).2 y (b2 y hy).2}}},λx I=>?_}
  .rcases As.mp h with h|h
   .exact a3 h
   .exact(T p h).1 rfl
  .have g:=(h7 x).mp;rcases As.mp I with rfl|I
   .exact{λJ=>(g J).elim (λz=>z.2 rfl) λz=>U x tp x (C x z.1) rfl,An _ tp}
   .rcases As.mp I with rfl|I
    .exact{λJ=>(g J).elim (λz=>U x (sA x z.1) x tq rfl) λz=>z.2 rfl,Ah _ tq}
    .rcases Ak.mp I with I|I
     .exact{λJ=>(g J).elim (λz=>(b1 x I).1 z.1) λz=>U x (b1 x I).2 x (C x z.1) rfl,An _ (b1 x I).2}
     .exact{λJ=>(g J).elim (λz=>U x (sA x z.1) x (b2 x I).2 rfl) λz=>(b2 x I).1 z.1,Ah _ (b2 x I).2}
structure ZA(wd:List<|Xd)(lk' ct':WN):Prop where
 ex:∃(ks:Xc) (R:Ru) (E:WR) (lk ct:WN) (eA:List<|Xd) (f:WY),av ks/\SR ks R E/\(z9 R).Perm (List.range ks.length)/\ks.length<=120/\
  YD ks lk/\(zh lk).Perm (zh<|zp R)/\ct.Perm (zq R)/\(eA=ks.map some\/∃qs,oz ks ct qs []/\cz ks qs ks.length eA)/\Yg f eA wd/\lk'.Perm (lk.map<|Y8 f)/\lk'.Pairwise ar/\ct'.Perm (ct.map<|Zd f)/\ct'.Pairwise ar
def cz.YC(ok:av ks)(T:cz ks qs ks.length eA):pI eA:=by
 intro p e i j h;have J:p<ks.length:=by have:=zf h;rw[T.len] at this;exact this
 cases I:ks[p]? with
 |none=>rw[Ag J] at I;cases I
 |some k=>
  cases k with
  |lf t n=>
   have:=T.lf p t n J I;rw[h] at this;cases this
  |nd l U g=>
   have lt:U<p/\g<p:=ok p _ I;rcases T.nd p l U g J I with⟨z,_⟩|⟨o,z⟩
   .rw[h] at z;cases z
   .rw[h] at z;cases z;exact lt
def iO(ok:av ks):pI (ks.map some):=by intro p e i j h;rw[Al] at h;obtain⟨k,I,J⟩:=Aq.mp h;cases J;exact ok p _ I
def vX(ks:Xc):jz (ks.map some)=kg ks:=by show(ks.map some).map jF=ks.map qC;rw[BC];rfl
def uI(ks:Xc):∀l:WO,2*l.length<=cx (cG ks) l:=λl=>by have:=jJ ks<|zh l;rw[bQ,vq] at this;exact this
def UQ{f:WY}(h:l.Perm m):cx f l=cx f m:=by rw[<-bQ,<-bQ];exact((xc h).map f).sum_nat
inductive tE(Pt:Addr)(ys:_x)(L:qm)(Q:YK):Prop
 |mk:∀cy,∀ns:WV,∀s m:Int,∀room:Nat,(ys=[cy,.int s,.int (room:Int),.int m])->(cy=.sq (ns.map Y.int))->(ns.length<=1000)->(room<=120)->(L Pt=some (.tb XD))->(∀wa la ca wd lk ct L',ZA wd lk ct->qi L L'->L wa=none->L la=none->L ca=none->wa≠la->wa≠ca->la≠ca->L' wa=some (.lst<|jz wd)->L' la=some (.lst<|qt lk)->L' ca=some (.lst<|qt ct)->Q (eI wa la ca) L')->tE Pt ys L Q
structure UR(room:Nat)(m:Int)(wd:List<|Xd):Prop where
 ex:∃(ks:Xc) (R:Ru) (E:WR) (eA:List<|Xd) (f:WY),SR ks R E/\(z9 R).Perm (List.range ks.length)/\ks.length<=max room 2/\eA.length=ks.length/\(cE eA:Int)<=max (cK ks:Int) m/\Yg f eA wd
inductive zP(Pt:Addr)(ys:_x)(L:qm)(Q:YK):Prop
 |mk:∀cy,∀ns:WV,∀s m:Int,∀room:Nat,(ys=[cy,.int s,.int (room:Int),.int m])->(cy=.sq (ns.map Y.int))->(ns.length<=1000)->(room<=120)->(L Pt=some (.tb XD))->(∀wa la ca wd lk ct L',ZA wd lk ct->UR room m wd->qi L L'->L wa=none->L la=none->L ca=none->wa≠la->wa≠ca->la≠ca->L' wa=some (.lst<|jz wd)->L' la=some (.lst<|qt lk)->L' ca=some (.lst<|qt ct)->Q (eI wa la ca) L')->zP Pt ys L Q
def US :_f (zP Pt) (hJ cr jB iH bW dE<|dS Pt).1 11:=by
 rintro ys L Q ⟨cy,ns,s,m,room,rfl,bf,bg,a5,hP,q⟩;refine{s,5,16807,rfl,by decide,by decide,by decide,by decide,λv h0 h1=>?_};refine{show(0:Int)<4 by decide,?_};refine{λa1 g=>∃J:Nat,(J<=120/\J<=room)/\a1=[some cy,some<|.int s,some<|.int (J:Int),some<|.int m,some<|.int v,some<|.bl<|decide<|v % 4=1,none,none,none,none,none]/\g=L,?_,?_}
 .refine zm (λh=>?_) λh=>?_
  .refine{min room 57,{by lia,by lia},?_,rfl};have e:min (room:Int) 57=((min room 57:Nat):Int):=by lia
   rw[<-e,AD h];rfl
  .exact{room,{a5,Am _},by rw[Aw h];rfl,rfl}
 rintro a1 g ⟨J,⟨hr,cm⟩,rfl,rfl⟩;refine{cy,ns,s,J,rfl,bf,bg,hr,λj I R E bh ok o tp kl=>?_};have ac:I.length<=120:=by lia
 have tl:(z9 R).length=I.length:=by rw[tp.length_eq,Cu]
 have tn:=tp.nodup_iff.mpr Co;have al:∀x∈z9 R,x<I.length:=λx hx=>AX.mp<|tp.mem_iff.mp hx;have LI:=o._i tn;obtain⟨cn,ay⟩:=o.Yx tn;have cv:=o.weight ok;have cI:cx (cG I) (zq R)<=120:=by lia
 have cl:=uI I<|zq R;have aL:∀x∈zq R,x.1<I.length/\x.2<I.length:=λx hx=>{al _ (ay _ (ke hx).1).2,al _ (ay _ (ke hx).2).2};have ll:2*(zp R).length<=I.length:=by obtain⟨u,hu⟩:=wf R;have:=hu.length_eq;rw[Ad,vq] at this;lia
 have bi:∀x∈zp R,x.1<I.length/\x.2<I.length:=λx hx=>by obtain⟨_,t,n,a,b⟩:=o.links x hx;exact{zf a,zf b}
 have bj:zp R≠[]:=by
  have:∀R:Ru,1<=(zp R).length:=λR=>by induction R with|link p q=>exact Am _|ei r A ih=>exact ih|bo r A B ih _=>show 1<=(zp A++zp B).length;rw[Ad];exact GY|cu p q A B ih _=>show 1<=(zp A++zp B).length;rw[Ad];lia
  intro e;have:=this R;rw[e] at this;simp at this
 have s1:qi g (qj g j<|.lst<|kg I):=By bh;have rd:=ae R;have rz:=dH R;refine{R,rfl,by lia,by lia,xl LI.nd,xl cn,λp hp=>by have:=(bi p hp).2;lia,λp hp=>by have:=(aL p hp).2;lia,by lia,by lia,λla C lk ct ba bb bc pl cP pc d0=>?_};have bn:=w9 q9 ba;have bp:=w9 q9 bb;have bd:(qj (qj g j<|.lst<|kg I) la<|.lst<|qt lk) C=none:=(qf<|AG bc).trans bb;have s2:qi g (qj (qj (qj g j<|.lst<|kg I) la<|.lst<|qt lk) C<|.lst<|qt ct):=(s1.trans<|By ba).trans<|By bd;have g1:qj (qj (qj g j<|.lst<|kg I) la<|.lst<|qt lk) C (.lst<|qt ct) j=some (.lst<|kg I):=(qf bp).trans<|(qf bn).trans q9;have g2:qj (qj (qj g j<|.lst<|kg I) la<|.lst<|qt lk) C (.lst<|qt ct) la=some (.lst<|qt lk):=(qf bc).trans q9;have g3:qj (qj (qj g j<|.lst<|kg I) la<|.lst<|qt lk) C (.lst<|qt ct) C=some (.lst<|qt ct):=q9;generalize qj (qj (qj g j<|.lst<|kg I) la<|.lst<|qt lk) C (.lst<|qt ct)=L1 at s2 g1 g2 g3 ⊢;have Y1:∃r:Nat,v / 4 % 3=(r:Int)/\r<3:={(v / 4 % 3).toNat,by lia,by lia};obtain⟨r,er,dc⟩:=Y1;have a3:∀l2:WO,(zh l2).Perm (zh<|zp R)->l2.length=(zp R).length:=λl2 p=>by have:=p.length_eq;rw[vq,vq] at this;lia
 refine{{by decide,by decide},show(0:Int)<3 by decide,{by lia,by lia},?_};refine sk (λi τ L2=>∃l Yd a2,τ=[some cy,some<|.int s,some<|.int (J:Int),some<|.int m,some<|.int v,some<|.bl<|decide<|v % 4=1,some<|.ref j,some<|jp R,some<|.ref l,some<|.ref C,a2]/\qi g L2/\L2 j=some (.lst<|kg I)/\L2 l=some (.lst<|qt Yd)/\L2 C=some (.lst<|qt ct)/\YD I Yd/\(zh Yd).Perm (zh<|zp R)) {la,lk,_,rfl,s2,g1,g2,g3,LI.perm pl,xc pl} ?_ ?_
 .rintro i τ L2 hi ⟨l,Yd,a2,rfl,s3,k1,k2,k3,I2,p2⟩;have l2:=a3 Yd p2;refine{s,11+(0+(i:Int)),16807,rfl,AQ _,by omega,by decide,by decide,λv1 _ _=>?_};refine{s,17+(0+(i:Int)),40692,rfl,AQ _,by omega,by decide,by decide,λv2 _ _=>?_};refine{j,l,I,Yd,v1,v2,rfl,k1,k2,I2,λe=>?_,by lia,fV,?_,λD ZT hD I3 l3 p3 de=>?_}
  .rw[e] at l2;exact bj<|Bv l2.symm
  .exact{_,EV _,l,Yd,_,rfl,s3,k1,k2,k3,I2,p2}
  .have bq:=w9 k1 hD;have br:=w9 k3 hD;exact{_,EV _,D,ZT,_,rfl,s3.trans<|By hD,(qf bq).trans k1,q9,(qf br).trans k3,I3,p3.trans p2}
 rintro τ L2 ⟨l,Yd,a2,rfl,s3,k1,k2,k3,I2,p2⟩;have l2:=a3 Yd p2;have lc:=pc.length_eq;have a4:∀x∈ct,x.1<I.length/\x.2<I.length:=λx hx=>aL x<|pc.mem_iff.mp hx;refine{λa1 L3=>∃kb U,a1=[some cy,some<|.int s,some<|.int (J:Int),some<|.int m,some<|.int v,some<|.bl<|decide<|v % 4=1,some<|.ref kb,some<|jp R,some<|.ref l,some<|.ref C,a2]/\qi g L3/\L3 kb=some (.lst<|jz U)/\L3 l=some (.lst<|qt Yd)/\L3 C=some (.lst<|qt ct)/\(U=I.map some\/∃qs,oz I ct qs []/\cz I qs I.length U)/\(cE U:Int)<=max (cK I:Int) m,?_,?_}
 .refine{{by decide,by decide},show(0:Int)<2 by decide,?_};refine zm (λh=>?_) λh=>?_
  .refine{j,C,I,ct,s,m,rfl,k1,k3,ok,a4,by rw[UQ pc];exact fV,fV,λD qs U hD B T M=>?_};exact{D,U,rfl,s3.trans<|By hD,q9,(qf<|w9 k2 hD).trans k2,(qf<|w9 k3 hD).trans k3,.inr {(qs),B,T},M}
  .exact{j,I.map some,rfl,s3,by rw[vX];exact k1,k2,k3,.inl rfl,by show(cK I:Int)<=_;omega}
 rintro a1 L3 ⟨kb,U,rfl,s4,j1,j2,j3,ho,hM⟩;have YC:pI U:=by
  rcases ho with rfl|⟨qs,B,T⟩
  .exact iO ok
  .exact T.YC ok
 have lo:U.length=I.length:=by
  rcases ho with rfl|⟨qs,B,T⟩
  .exact Ac ..
  .exact T.len
 refine{kb,l,C,U,Yd,ct,s,_,rfl,j1,j2,j3,YC,by lia,s4 _ _ hP,xl I2.nd,λp hp=>{I2.lt p hp,?_},by lia,pc.nodup_iff.mpr<|xl cn,λp hp=>by rw[lo];exact a4 p hp,by lia,λf wd c1 c2 wa c3 c4 L4 rn c5 c6 cc ck sl nw nl nc n1 n2 n3 e1 e2 e3=>?_}
 .obtain⟨_,_,_,h⟩:=I2.at_ p hp;rw[lo];exact zf h
 .exact vd<|q wa c3 c4 wd c1 c2 L4 {(I),R,E,Yd,ct,U,f,ok,o,tp,ac,I2,p2,pc,ho,rn,c5,c6,cc,ck} {I,R,E,U,f,o,tp,by lia,lo,hM,rn} (s4.trans sl) (s4.none nw) (s4.none nl) (s4.none nc) n1 n2 n3 e1 e2 e3
def UT :_f (tE Pt) (hJ cr jB iH bW dE<|dS Pt).1 11:=by rintro ys L Q ⟨I,J,s,m,room,h1,h2,h3,U,g,q⟩;exact US ys L Q {I,J,s,m,room,h1,h2,h3,U,g,λj l o p lk r t W _=>q j l o p lk r t W}
def KW.lf{p:Nat}{n:Str}(h:wd[p]?=some (some<|.lf t n)):KW (jz wd) p (.leaf t n):=by show(jz wd)[p]?=_;rw[Al,h];rfl
def KW.nd{p:Nat}{e:Bool}{l r:Wd}(h:wd[p]?=some (some<|.nd e i j))(I:KW (jz wd) i l)(J:KW (jz wd) j r):KW (jz wd) p (.node e l r):=
 ⟨i,j,by rw[Al,h];rfl,I,J⟩
def UU{k:Kn}{n:Str}(h:qC k=.tup [.str<|kL t,.str n]):k=.lf t n:=by
 cases k with
 |lf u m=>
  have h1:kL u=kL t:=by injection h with h;injection h with h _;injection h
  have h2:m=n:=by injection h with h;injection h with _ h;injection h with h _;injection h
  subst h2;cases u<;>cases t<;>first|rfl|(exfalso;revert h1;decide)
 |nd e i j=>injection h with h;injection h with _ h;injection h with _ h;cases h
def UV{k:Kn}{e:Bool}(h:qC k=.tup [.str<|kN e,.int (i:Int),.int (j:Int)]):k=.nd e i j:=by
 cases k with
 |lf u m=>injection h with h;injection h with _ h;injection h with _ h;cases h
 |nd b I J=>
  have h1:kN b=kN e:=by injection h with h;injection h with h _;injection h
  have h2:((I:Nat):Int)=i:=by injection h with h;injection h with _ h;injection h with h _;injection h
  have h3:((J:Nat):Int)=j:=by injection h with h;injection h with _ h;injection h with _ h;injection h with h _;injection h
  have h2:=Bp.mp h2;have h3:=Bp.mp h3;subst h2 h3;cases b<;>cases e<;>first|rfl|(exfalso;revert h1;decide)
def Kh{p:Nat}(h:(jz wd)[p]?=some y):∃o,wd[p]?=some o/\jF o=y:=by rw[Al] at h;obtain⟨o,a,b⟩:=Aq.mp h;exact{(o),a,b}
def KW.SB{p:Nat}{n:Str}(h:KW (jz wd) p<|.leaf t n):wd[p]?=some (some<|.lf t n):=by
 obtain⟨o,a,b⟩:=Kh<|show(jz wd)[p]?=some (.tup [.str<|kL t,.str n]) from h;cases o with
 |none=>cases b
 |some k=>rw[a,UU b]
def KW.P3{p:Nat}{e:Bool}{l r:Wd}(h:KW (jz wd) p<|.node e l r):∃i j,wd[p]?=some (some<|.nd e i j)/\KW (jz wd) i l/\KW (jz wd) j r:=by
 obtain⟨i,j,h1,h2,h3⟩:=h;obtain⟨o,a,b⟩:=Kh h1;cases o with
 |none=>cases b
 |some k=>exact{i,j,by rw[a,UV b],h2,h3}
theorem KW.dep{wd:List<|Xd}(ok:pI wd):∀{w:Wd} {p:Nat},KW (jz wd) p w->w.depth<=p+1
 |.leaf t n,p,_=>by exact BA _
 |.node e l r,p,h=>by obtain⟨i,j,a,I,J⟩:=h.P3;have:=ok p e i j a;have:=KW.dep ok I;have:=KW.dep ok J;show max l.depth r.depth+1<=p+1;lia
def iq(wd:List<|Xd):Prop:=∀(p:Nat) (e:Bool) (i j:Nat),wd[p]?=some (some<|.nd e i j)->(∃k,wd[i]?=some (some k))/\∃k,wd[j]?=some (some k)
theorem sg{wd:List<|Xd}(ok:pI wd)(th:iq wd):∀(n p:Nat) (k:Kn),p<n->wd[p]?=some (some k)->∃w,KW (jz wd) p w
 |0,_,_,h,_=>absurd h<|CQ _
 |n+1,p,.lf t m,_,e=>{_,KW.lf e}
 |n+1,p,.nd b i j,h,e=>by have:=ok p b i j e;obtain⟨⟨I,J⟩,U,g⟩:=th p b i j e;obtain⟨l,o⟩:=sg ok th n i I (by lia) J;obtain⟨r,C⟩:=sg ok th n j U (by lia) g;exact{_,KW.nd e o C}
def yR(ok:av ks):iq (ks.map some):=by
 intro p e i j h;have lt:=iO ok p e i j h;have I:=zf h;rw[Ac] at I;have at_:∀x,x<ks.length->∃k,(ks.map some)[x]?=some (some k):=λx J=>{ks[x],by rw[Al,Ag J];rfl}
 exact{at_ i (by omega),at_ j (by lia)}
def cz.inv(T:cz ks qs ks.length eA){p:Nat}{e:Bool}(h:eA[p]?=some (some<|.nd e i j)):∃I,ks[p]?=some (.nd I i j):=by
 have U:p<ks.length:=by have:=zf h;rw[T.len] at this;exact this
 cases J:ks[p]? with
 |none=>rw[Ag U] at J;cases J
 |some k=>
  cases k with
  |lf t n=>
   have:=T.lf p t n U J;rw[h] at this;cases this
  |nd I g l=>
   rcases T.nd p I g l U J with⟨z,_⟩|⟨o,z⟩
   .rw[h] at z;cases z
   .rw[h] at z;cases z;exact{(I),rfl}
def cz.there(ok:av ks)(T:cz ks qs ks.length eA):iq eA:=by
 intro p e i j h;obtain⟨o,I⟩:=T.inv h;have lt:=ok p _ I;have r:=zf I;obtain⟨U,g⟩:=ui I;have at_:∀x,x<ks.length->x∈az ks->∃k,eA[x]?=some (some k):=λx J l=>by
  cases ex:ks[x]? with
  |none=>rw[Ag J] at ex;cases ex
  |some k=>
   cases k with
   |lf t n=>exact{_,T.lf x t n J ex}
   |nd b a c=>
    rcases T.nd x b a c J ex with⟨_,z⟩|⟨C,z⟩
    .exact absurd l z
    .exact{_,z}
 exact{at_ i (by lia) U,at_ j (by lia) g}
def Yg.inv{f:WY}(r:Yg f eA wd){x:Nat}{k:Kn}(h:wd[x]?=some (some k)):∃p,p<eA.length/\x=f p/\∃o,eA[p]?=some o/\nQ f o=some k:=by obtain⟨p,I,e⟩:=r.gap.only x k h;have I:=AX.mp I;have:=r.gap.at_ p (AX.mpr I) _<|Ag I;rw[<-e,h] at this;exact{p,I,e,_,Ag I,(A2 this).symm}
def Yg.there{f:WY}(r:Yg f eA wd)(th:iq eA):iq wd:=by
 intro x e i j h;obtain⟨p,hp,rfl,o,g,I⟩:=r.inv h;cases o with
 |none=>cases I
 |some k=>
  cases k with
  |lf t n=>cases I
  |nd b a c=>
   cases I;obtain⟨⟨l,C⟩,T,e2⟩:=th p e a c g;have J:∀y k,eA[y]?=some (some k)->∃k',wd[f y]?=some (some k'):=λy k U=>by have:=r.gap.at_ y (AX.mpr<|zf U) _ U;cases k with|lf t n=>exact{_,this}|nd b a c=>exact{_,this}
   exact{J a l C,J c T e2}
theorem Yg.word{f:WY}(r:Yg f eA wd):∀{w:Wd} {p:Nat},KW (jz eA) p w->KW (jz wd) (f p) w
 |.leaf t n,p,h=>by have e:=h.SB;exact KW.lf<|r.gap.at_ p (AX.mpr<|zf e) _ e
 |.node b l rr,p,h=>by obtain⟨i,j,e,I,J⟩:=h.P3;exact KW.nd (r.gap.at_ p (AX.mpr<|zf e) _ e) (r.word I)<|r.word J
def SR.ZY{E:WR}(h:SR ks R E):∀c∈zq R,∃w,fD ks c.1 w/\fD ks c.2 w.turn:=by
 induction h with
 |link _ _ _ _ _=>intro c g;cases g
 |ei _ _ _ _ _ _ _ j=>exact j
 |bo _ _ _ _ _ _ _ I J=>intro x U;exact(Ak.mp U).elim (I x) (J x)
 |@cu p q A B r t E w h1 h2 h3 C l o T h8 I J=>
  intro x U;rcases As.mp U with rfl|U
  .exact{(w),l,o}
  .exact(Ak.mp U).elim (I x) (J x)
theorem gG{ks:Xc}{ct:WN}{qs:WR}{eA:List<|Xd}(B:oz ks ct qs [])(T:cz ks qs ks.length eA):∀{w:Wd} {p:Nat},p∈qs->KW (jz<|ks.map some) p w->KW (jz eA) p w
 |.leaf t n,p,J,h=>by have e:=h.SB;rw[Al] at e;obtain⟨k,I,U⟩:=Aq.mp e;cases U;exact KW.lf<|T.kp p J (zf I) _ I
 |.node b l r,p,J,h=>by obtain⟨i,j,e,C,hr⟩:=h.P3;rw[Al] at e;obtain⟨k,I,U⟩:=Aq.mp e;cases U;obtain⟨g,o⟩:=B.part p J _ _ _ I;have g:=g.resolve_right<|Bc;have o:=o.resolve_right<|Bc;exact KW.nd (T.kp p J (zf I) _ I) (gG B T g C)<|gG B T o hr
structure UW(wd:List<|Xd)(ct:WN):Prop where
 ok:pI wd
 len:wd.length<=241
 there:iq wd
 word:∀x k,wd[x]?=some (some k)->∃w,KW (jz wd) x w/\w.depth<=120
 cut:∀c∈ct,∃w,KW (jz wd) c.1 w/\KW (jz wd) c.2 w.turn/\w.depth<=120
 Zx:ct.length<=60
theorem ZA.ZZ(W:ZA wd lk ct):UW wd ct/\lk.length<=60:=by
 obtain⟨U,R,E,a4,a5,J,f,ok,C,tp,hk,I,pl,pc,ho,g,a3,_,a1,_⟩:=W.ex;have YC:pI J:=by
  rcases ho with rfl|⟨qs,B,T⟩
  .exact iO ok
  .exact T.YC ok
 have lo:J.length=U.length:=by
  rcases ho with rfl|⟨qs,B,T⟩
  .exact Ac ..
  .exact T.len
 have th:iq J:=by
  rcases ho with rfl|⟨qs,B,T⟩
  .exact yR ok
  .exact T.there ok
 have tl:(z9 R).length=U.length:=by rw[tp.length_eq,Cu]
 have wg:=C.weight ok;have cl:=uI U<|zq R;have ll:2*(zp R).length<=U.length:=by obtain⟨u,hu⟩:=wf R;have:=hu.length_eq;rw[Ad,vq] at this;lia
 have l1:lk.length=(zp R).length:=by have h1:=a3.length_eq;have h2:=pl.length_eq;rw[Ac] at h1;rw[vq,vq] at h2;lia
 have l2:ct.length=(zq R).length:=by have h1:=a1.length_eq;rw[Ac,pc.length_eq] at h1;exact h1
 refine{{g.gap.ok,by have:=g.len;lia,g.there th,λx k e=>?_,λc hc=>?_,by lia},by lia}
 .obtain⟨p,hp,rfl,o,eo,ek⟩:=g.inv e;cases o with
  |none=>cases ek
  |some k0=>
   obtain⟨w,hw⟩:=sg YC th (p+1) p k0 (BI _) eo;have:=KW.dep YC hw;exact{w,g.word hw,by lia}
 .obtain⟨c0,a2,rfl⟩:=A7.mp<|a1.mem_iff.mp hc;obtain⟨w,w1,w2⟩:=C.ZY c0<|pc.mem_iff.mp a2;have q1:KW (jz J) c0.1 w/\KW (jz J) c0.2 w.turn:=by
   have e:∀{p w},fD U p w->KW (jz<|U.map some) p w:=λh=>by rw[vX];exact h
   rcases ho with rfl|⟨qs,B,T⟩
   .exact{e w1,e w2}
   .obtain⟨m1,m2⟩:=B.cut c0 a2;exact{gG B T (m1.resolve_right Bc)<|e w1,gG B T (m2.resolve_right Bc)<|e w2}
  have hp:c0.1<U.length:=by
   have:∀{w:Wd} {p:Nat},KW (jz J) p w->p<J.length:=λ{w p} h=>by cases w with|leaf t n=>exact zf h.SB|node e l r=>obtain⟨i,j,a,_⟩:=h.P3;exact zf a
   rw[<-lo];exact this q1.1
  have:=KW.dep YC q1.1;exact{w,g.word q1.1,g.word q1.2,by lia}
def nW(I:vt):RD "parts_in" nU 2 ["knots","parts","knot"] (λV=>Hk V I):={_,λV B c _ _ _ _ _ _ _ J hN U=>(qb (S_ 1 hN<|zj xn)<|qb (aU ya rfl (xx<|qv 0) (G_ 2 hN)<|qe<|qz<|bR (qv 1)<|jm<|C_ c J<|jm<|qv 2)<|qe<|qu<|qv 1)}
def lw:RD "_law_copy" lE 0 ["_law_web_here"] (λ_=>True):={_,λV B c _ _ _ _ _ _ _ I hN J=>(qe<|qu<|qr<|aA (iw oy rfl B.bi eE<|jm<|J_ 0) (iw oy rfl B.bi eE<|jm<|J_ 0)<|iw oy rfl B.bi eE<|jm<|J_ 0)}
def je(wd:List<|Xd):WR:=wd.flatMap xm
def yE(wd:List<|Xd)(k:Xd):je (wd++[k])=je wd++xm k:=by unfold je;rw[AO,Be,C5,AI]
def yF(k:Xd):(xm k).length<=2:=by cases k with|none=>exact A5 _|some k=>cases k with|lf t n=>exact A5 _|nd e i j=>exact Am _
def UX(wd:List<|Xd):(je wd).length<=2*wd.length:=by
 induction wd with
 |nil=>exact Am _
 |cons k r I=>
  have e:je (k::r)=xm k++je r:=Be ..;have:=yF k;rw[e,Ad,AK];lia
inductive eO(ys:_x)(L:qm)(Q:YK):Prop
 |mk:∀a l c,∀xs zs us:_x,(ys=[eI a l c])->(L a=some (.lst xs))->(L l=some (.lst zs))->(L c=some (.lst us))->(∀a' l' c' L',qi L L'->L a'=none->L l'=none->L c'=none->a'≠l'->a'≠c'->l'≠c'->L' a'=some (.lst xs)->L' l'=some (.lst zs)->L' c'=some (.lst us)->Q (eI a' l' c') L')->eO ys L Q
def UY:_f eO lw.1 1:=by rintro ys L Q ⟨a,l,c,p,r,us,rfl,t,C,T,q⟩;refine qa t λp1 h1=>?_;have g:=By (o:=.lst p) h1;refine qa (g _ _ C) λp2 h2=>?_;have j:=g.trans<|By (o:=.lst r) h2;refine qa (j _ _ T) λp3 h3=>?_;have I:=w9 q9 h2;have J:=w9 q9 h3;have U:=w9 ((qf I).trans q9) h3;exact vd<|q p1 p2 p3 _ (j.trans<|By h3) h1 (g.none h2) (j.none h3) I U J ((qf U).trans<|(qf I).trans q9) ((qf J).trans q9) q9
def mF(ks:Xc)(l:WR):WR:=l.flatMap λp=>xm ks[p]?
def ig(ks:Xc)(a b:WR):mF ks (a++b)=mF ks a++mF ks b:=by unfold mF;rw[AO]
def dM(ks:Xc)(x:Nat)(l:WR):mF ks (x::l)=xm ks[x]?++mF ks l:=Be ..
def dP{E:WR}(h:E.Nodup)(hi:i∈E):E.Perm ([i]++E.filter λx=>!decide (x=i)):=by
 refine(Bf h ?_).mpr λx=>?_
 .refine AE.mpr {λz=>?_,h.filter _};have:=(AR.mp z).2;simp at this
 .rw[Ak,Ap,AR];constructor
  .intro I;by_cases c:x=i
   .exact .inl c
   .exact .inr {I,by simp[c]}
  .rintro(rfl|I)
   .exact hi
   .exact I.1
def SR.part{E:WR}(h:SR ks R E):(z9 R).Nodup->(mF ks (z9 R)++(zh (zq R)++E)).Perm (z9 R):=by
 induction h with
 |@link p q t n U h1 h2 h3 l o=>
  intro _;have e:mF ks [p,q]=[]:=by rw[dM,dM,h2,h3];rfl
  show(mF ks [p,q]++([]++U)).Perm [p,q];rw[e,Di,Di];refine(Bf o (by simp;lia)).mpr λx=>?_;rw[l x];simp
 |@ei r i j A C U h1 T h3 l o h6 h7 ih=>
  intro nd;obtain⟨n1,n2⟩:=AE.mp nd;have ih:=ih n2;have g:=(Au.mp (Au.mp<|ih.nodup_iff.mpr n2).2.1).2.1;have p1:=dP g h3;have p2:(C.filter λx=>!decide (x=i)).Perm _:=dP (g.filter _) (i:=j) (AR.mpr {l,by simp;exact AG o});have p3:U.Perm ([r]++(C.filter λx=>!decide (x=i)).filter λx=>!decide (x=j)):=by
   refine(Bf h7<|AE.mpr {λz=>n1<|T.sub _ (AR.mp (AR.mp z).1).1,(g.filter _).filter _}).mpr λx=>?_;rw[h6 x,As,AR,AR];simp only[Dp,decide_eq_false_iff_not];constructor
   .rintro(⟨a,b,c⟩|rfl)
    .exact .inr {{(a),b},c}
    .exact .inl rfl
   .rintro(rfl|⟨⟨a,b⟩,c⟩)
    .exact .inr rfl
    .exact .inl {(a),b,c}
  show(mF ks (r::z9 A)++(zh (zq A)++U)).Perm ([r]++z9 A);rw[dM,h1];show((([i]++[j])++mF ks (z9 A))++(zh (zq A)++U)).Perm _;refine De.mpr λa=>?_;have c1:=p1.count_eq a;have c2:=p2.count_eq a;have c3:=p3.count_eq a;have c4:=ih.count_eq a;simp only[Dw] at c1 c2 c3 c4 ⊢;lia
 |@bo r i j A B C EB U h1 T hB l o h6 h7 I J=>
  intro nd;obtain⟨n1,n2⟩:=AE.mp nd;obtain⟨m1,m2,m3⟩:=Au.mp n2;have I:=I m1;have J:=J m2;have g:=(Au.mp (Au.mp<|I.nodup_iff.mpr m1).2.1).2.1;have nB:=(Au.mp (Au.mp<|J.nodup_iff.mpr m2).2.1).2.1;have p1:=dP g l;have p2:=dP nB o;have p3:U.Perm ([r]++((C.filter λx=>!decide (x=i))++EB.filter λx=>!decide (x=j))):=by
   refine(Bf h7<|AE.mpr {λz=>n1 ?_,Au.mpr {g.filter _,nB.filter _,λa ha b hb=>m3 a (T.sub _ (AR.mp ha).1) b<|hB.sub _ (AR.mp hb).1}}).mpr λx=>?_
   .rcases Ak.mp z with z|z
    .exact An _<|T.sub _ (AR.mp z).1
    .exact Ah _<|hB.sub _ (AR.mp z).1
   .rw[h6 x,As,Ak,AR,AR];simp only[Dp,decide_eq_false_iff_not];constructor
    .rintro(a|a|rfl)
     .exact .inr<|.inl a
     .exact .inr<|.inr a
     .exact .inl rfl
    .rintro(rfl|a|a)
     .exact .inr<|.inr rfl
     .exact .inl a
     .exact .inr<|.inl a
  show(mF ks (r::(z9 A++z9 B))++(zh (zq A++zq B)++U)).Perm ([r]++(z9 A++z9 B));rw[dM,h1,ig,jy];show((([i]++[j])++(mF ks (z9 A)++mF ks (z9 B)))++((zh (zq A)++zh (zq B))++U)).Perm _;refine De.mpr λa=>?_;have c1:=p1.count_eq a;have c2:=p2.count_eq a;have c3:=p3.count_eq a;have c4:=I.count_eq a;have c5:=J.count_eq a;simp only[Dw] at c1 c2 c3 c4 c5 ⊢;lia
 |@cu p q A B C EB U w T hB h3 l o h6 h7 h8 I J=>
  intro n2;obtain⟨m1,m2,m3⟩:=Au.mp<|show(z9 A++z9 B).Nodup from n2;have I:=I m1;have J:=J m2;have g:=(Au.mp (Au.mp<|I.nodup_iff.mpr m1).2.1).2.1;have nB:=(Au.mp (Au.mp<|J.nodup_iff.mpr m2).2.1).2.1;have p1:=dP g h3;have p2:=dP nB l;have p3:U.Perm ((C.filter λx=>!decide (x=p))++EB.filter λx=>!decide (x=q)):=by refine(Bf h8<|Au.mpr {g.filter _,nB.filter _,λa ha b hb=>m3 a (T.sub _ (AR.mp ha).1) b<|hB.sub _ (AR.mp hb).1}).mpr λx=>?_;rw[h7 x,Ak,AR,AR];simp only[Dp,decide_eq_false_iff_not]
  show(mF ks (z9 A++z9 B)++(zh ((p,q)::(zq A++zq B))++U)).Perm (z9 A++z9 B);rw[ig,jc,jy];show((mF ks (z9 A)++mF ks (z9 B))++(([p]++[q]++(zh (zq A)++zh (zq B)))++U)).Perm _;refine De.mpr λa=>?_;have c1:=p1.count_eq a;have c2:=p2.count_eq a;have c3:=p3.count_eq a;have c4:=I.count_eq a;have c5:=J.count_eq a;simp only[Dw] at c1 c2 c3 c4 c5 ⊢;lia
structure dG(wd:List<|Xd):Prop where
 ne:∀(p:Nat) (e:Bool) (i j:Nat),wd[p]?=some (some<|.nd e i j)->i≠j
 un:∀(p q:Nat) (k l:Kn) (x:Nat),wd[p]?=some (some k)->wd[q]?=some (some l)->x∈xm (some k)->x∈xm (some l)->p=q
def qS{x:Nat}(h:x∈je wd):∃(p:Nat) (k:Kn),wd[p]?=some (some k)/\x∈xm (some k):=by
 obtain⟨o,J,I⟩:=Bh.mp h;obtain⟨p,e⟩:=DF J;cases o with
 |none=>cases I
 |some k=>exact{(p),k,e,I}
theorem dG.nodup:∀{wd:List<|Xd},dG wd->(je wd).Nodup
 |[],_=>BY
 |k::r,U=>by
  have e:je (k::r)=xm k++je r:=Be ..;rw[e];refine Au.mpr {?_,dG.nodup {λp e i j h=>U.ne (p+1) e i j h,λp q k l x h1 h2 h3 J=>Nat.succ.inj<|U.un (p+1) (q+1) k l x h1 h2 h3 J},λa I b g z=>?_}
  .cases k with
   |none=>exact BY
   |some k=>
    cases k with
    |lf t n=>exact BY
    |nd b i j=>
     have:=U.ne 0 b i j rfl;show [i,j].Nodup;simp[this]
  .subst z;obtain⟨p,l,h1,h2⟩:=qS g;cases k with
   |none=>cases I
   |some k=>exact absurd (U.un 0 (p+1) k l a rfl h1 I h2) (Nat.succ_ne_zero p).symm
def UZ{l:WR}(h:(mF ks l).Nodup)(all:∀p,p<ks.length->p∈l):dG (ks.map some):=by
 have at_:∀{p:Nat} {k:Kn},(ks.map some)[p]?=some (some k)->ks[p]?=some k/\p∈l:=λ{p k} e=>by rw[Al] at e;obtain⟨k',U,g⟩:=Aq.mp e;cases g;exact{U,all p<|zf U}
 clear all;constructor
 .intro p e i j I;obtain⟨h1,h2⟩:=at_ I;obtain⟨a,b,rfl⟩:=CN h2;rw[ig,dM,h1] at h;have:=(Au.mp (Au.mp h).2.1).1;have:[i,j].Nodup:=this;simpa using this
 .intro p q k m x I o r t;obtain⟨h1,h2⟩:=at_ I;obtain⟨h3,C⟩:=at_ o;by_cases c:p=q
  .exact c
  .exfalso;obtain⟨a,b,rfl⟩:=CN h2;have T:q∈a++b:=by
    rcases Ak.mp C with z|z
    .exact An _ z
    .rcases As.mp z with z|z
     .exact absurd z.symm c
     .exact Ah _ z
   have pm:(mF ks<|a++p::b).Perm (xm (some k)++mF ks (a++b)):=by rw[ig,dM,h1,ig];refine De.mpr λz=>?_;simp only[Dw];lia
   have n:=pm.nodup_iff.mp h;have J:x∈mF ks (a++b):=Bh.mpr {q,T,by rw[h3];exact t};exact(Au.mp n).2.2 x r x J rfl
def dG.Z0(U:dG<|ks.map some)(T:cz ks qs ks.length eA):dG eA:=by
 have dn:∀{p:Nat} {k:Kn} {x:Nat},eA[p]?=some (some k)->x∈xm (some k)->∃I,(ks.map some)[p]?=some (some I)/\x∈xm (some I):=λ{p k x} h J=>by
  cases k with
  |lf t n=>cases J
  |nd e i j=>
   obtain⟨g,o⟩:=T.inv h;exact{.nd g i j,by rw[Al,o];rfl,J}
 constructor
 .intro p e i j h;obtain⟨g,o⟩:=T.inv h;exact U.ne p g i j (by rw[Al,o];rfl)
 .intro p q k l x h1 h2 J r;obtain⟨I,C,a2⟩:=dn h1 J;obtain⟨l',b1,b2⟩:=dn h2 r;exact U.un p q I l' x C b1 a2 b2
def Yg.part{f:WY}(r:Yg f eA wd){x y:Nat}{k:Kn}(h:wd[x]?=some (some k))(I:y∈xm (some k)):∃(p:Nat) (o:Kn) (a:Nat),x=f p/\eA[p]?=some (some o)/\y=f a/\a∈xm (some o):=by
 obtain⟨p,g,e,o,U,J⟩:=r.inv h;cases o with
 |none=>cases J
 |some o=>
  cases o with
  |lf t n=>cases J;cases I
  |nd b i j=>
   cases J;have I:y∈[f i,f j]:=I;rcases As.mp I with I|I
   .exact{p,_,i,e,U,I,Ao ..}
   .exact{p,_,j,e,U,Ap.mp I,Ai _<|Ao ..}
def o4(ok:pI eA){p a:Nat}{o:Kn}(h:eA[p]?=some (some o))(I:a∈xm (some o)):a<eA.length:=by
 cases o with
 |lf t n=>cases I
 |nd e i j=>
  have:=ok p e i j h;have:=zf h;have I:a∈[i,j]:=I;rcases As.mp I with rfl|I
  .lia
  .rw[Ap.mp I];lia
theorem Yg.inj{f:WY}(r:Yg f eA wd){a b:Nat}(I:a<eA.length)(J:b<eA.length)(e:f a=f b):a=b:=r.gap.inj a (AX.mpr I) b (AX.mpr J) e
def dG.Zw{f:WY}(U:dG eA)(ok:pI eA)(r:Yg f eA wd):dG wd:=by
 constructor
 .intro x e i j h;obtain⟨p,hp,rfl,o,J,I⟩:=r.inv h;cases o with
  |none=>cases I
  |some o=>
   cases o with
   |lf t n=>cases I
   |nd b a c=>
    cases I;have:=ok p e a c J;exactλz=>U.ne p e a c J<|r.inj (by lia) (by lia) z
 .intro x y k l z h1 h2 hz hw;obtain⟨p,o,a,rfl,g,rfl,C⟩:=r.part h1 hz;obtain⟨q,o',b,rfl,T,eb,hb⟩:=r.part h2 hw;cases r.inj (o4 ok g C) (o4 ok T hb) eb;rw[U.un p q o o' a g T C hb]
def yo:Xd->Bool
 |some (.lf _ _)=>true
 |_=>false
def SR.Pi{E:WR}(h:SR ks R E):(zh<|zp R).Perm ((z9 R).filter λp=>yo ks[p]?):=by
 induction h with
 |@link p q t n U h1 h2 h3 g l=>
  show(zh [(p,q)]).Perm ([p,q].filter λp=>yo ks[p]?);rw[aF,C4,C4,h2,h3];exact CI _
 |@ei r i j A o U h1 C h3 g l T h7 ih=>
  show(zh<|zp A).Perm ((r::z9 A).filter λp=>yo ks[p]?);rw[C4,h1];exact ih
 |@bo r i j A B o EB U h1 C hB g l T h7 I J=>
  show(zh<|zp A++zp B).Perm ((r::(z9 A++z9 B)).filter λp=>yo ks[p]?);rw[C4,h1,jy];show(zh (zp A)++zh (zp B)).Perm ((z9 A++z9 B).filter λp=>yo ks[p]?);rw[Cq];exact I.append J
 |@cu p q A B o EB U w C hB h3 g l T h7 h8 I J=>
  show(zh<|zp A++zp B).Perm ((z9 A++z9 B).filter λp=>yo ks[p]?);rw[jy,Cq];exact I.append J
theorem yb(f:WY):∀lk:WO,(zh<|lk.map<|Y8 f).Perm<|(zh lk).map f
 |[]=>CI _
 |c::r=>by
  have I:=yb f r;rw[AA,jc,jc,AA,AA];show(min (f c.1) (f c.2)::max (f c.1) (f c.2)::_).Perm _;by_cases h:f c.1<=f c.2
  .rw[B3 h,CH h];exact(I.cons _).cons _
  .rw[C3 (by lia),CP (by lia)];exact((I.cons _).cons _).trans (List.Perm.swap _ _ _)
theorem sd(f:WY):∀ct:WO,zh (ct.map<|Zd f)=(zh ct).map f
 |[]=>rfl
 |c::r=>by rw[AA,jc,jc,AA,AA,sd f r];rfl
theorem kO{f:WY}:∀{l:WR},l.Nodup->(∀a∈l,∀b∈l,f a=f b->a=b)->(l.map f).Nodup
 |[],_,_=>BY
 |a::r,h,g=>by obtain⟨h1,h2⟩:=AE.mp h;rw[AA,AE];refine{λz=>?_,kO h2 λx J y U=>g x (Ai _ J) y<|Ai _ U};obtain⟨b,I,e⟩:=A7.mp z;exact h1<|g b (Ai _ I) a (Ao ..) e▸I
structure U3(wd:List<|Xd)(ct:WN):Prop where
 ok:pI wd
 len:wd.length<=241
 there:iq wd
 word:∀x k,wd[x]?=some (some k)->∃w,KW (jz wd) x w/\w.depth<=120
 cut:∀c∈ct,∃w,KW (jz wd) c.1 w/\KW (jz wd) c.2 w.turn/\w.depth<=120
 Zx:ct.length<=61
structure qN(wd:List<|Xd)(lk ct:WN):Prop where
 Xz:U3 wd ct
 pu:dG wd
 ZQ:∀c∈lk,c.1<c.2/\∃t n,wd[c.1]?=some (some<|.lf t n)/\wd[c.2]?=some (some<|.lf (!t) n)
 _k:(zh lk).Nodup
 Z2:∀p,p∈zh lk↔∃t n,wd[p]?=some (some<|.lf t n)
 _j:lk.Pairwise ar
 Zc:∀x∈zh ct,x∉je wd
 ZM:(zh ct).Nodup
 Z8:ct.Pairwise ar
 ll:lk.length<=60
 nm:∀(p:Nat) (t:Bool) (n:Str),wd[p]?=some (some<|.lf t n)->n.length<=8
def ZA.snd(W:ZA wd lk ct):qN wd lk ct/\∃(x:Nat) (k:Kn),wd[x]?=some (some k)/\x∉je wd/\x∉zh ct:=by
 obtain⟨WI,ll⟩:=W.ZZ;obtain⟨U,R,E,a3,bb,J,f,ok,C,tp,hk,I,pl,pc,ho,rn,a4,bc,a5,bd⟩:=W.ex;have nd:=tp.nodup_iff.mpr Co;have lt:∀x∈z9 R,x<U.length:=λx hx=>AX.mp<|tp.mem_iff.mp hx;have N:=(C.part nd).nodup_iff.mpr nd;obtain⟨N1,N2,N3⟩:=Au.mp N;obtain⟨_,_,N4⟩:=Au.mp N2;have U0:=UZ N1 λp hp=>tp.mem_iff.mpr<|AX.mpr hp;have YC:pI J:=by
  rcases ho with rfl|⟨qs,B,T⟩
  .exact iO ok
  .exact T.YC ok
 have lo:J.length=U.length:=by
  rcases ho with rfl|⟨qs,B,T⟩
  .exact Ac ..
  .exact T.len
 have U1:dG J:=by
  rcases ho with rfl|⟨qs,B,T⟩
  .exact U0
  .exact U0.Z0 T
 have a1:∀(p:Nat) (t:Bool) (n:Str),U[p]?=some (.lf t n)->J[p]?=some (some<|.lf t n):=λp t n h=>by
  rcases ho with rfl|⟨qs,B,T⟩
  .rw[Al,h];rfl
  .exact T.lf p t n (zf h) h
 have dn:∀(p:Nat) (k:Kn),J[p]?=some (some k)->∃k',U[p]?=some k'/\xm (some k')=xm (some k)/\(∀t n,k=.lf t n->k'=.lf t n):=λp k h=>by
  have hp:p<U.length:=by have:=zf h;lia
  rcases ho with rfl|⟨qs,B,T⟩
  .rw[Al] at h;obtain⟨k',e1,e2⟩:=Aq.mp h;cases e2;exact{k,e1,rfl,λ_ _ e=>e}
  .cases k with
   |lf t n=>
    cases l:U[p]? with
    |none=>rw[Ag hp] at l;cases l
    |some k'=>
     cases k' with
     |lf t' n'=>
      have:=T.lf p t' n' hp l;rw[h] at this;cases this;exact{_,rfl,rfl,λ_ _ e=>e}
     |nd e i j=>
      rcases T.nd p e i j hp l with⟨z,_⟩|⟨e',z⟩
      .rw[h] at z;cases z
      .rw[h] at z;cases z
   |nd e i j=>
    obtain⟨e',l⟩:=T.inv h;exact{_,l,rfl,λ_ _ z=>by cases z}
 have up:∀{p:Nat} {o:Xd},J[p]?=some o->wd[f p]?=some (nQ f o):=λ{p o} h=>rn.gap.at_ p (AX.mpr<|zf h) _ h;have ac:∀x,x∈je wd->∃(a p:Nat) (k:Kn),x=f a/\a<U.length/\J[p]?=some (some k)/\a∈xm (some k)/\a∈mF U (z9 R):=λx hx=>by obtain⟨y,k,h1,h2⟩:=qS hx;obtain⟨p,o,a,_,h3,e,h4⟩:=rn.part h1 h2;have:=o4 YC h3 h4;obtain⟨k',e1,e2,_⟩:=dn p o h3;exact{a,p,o,e,by lia,h3,h4,Bh.mpr {p,tp.mem_iff.mpr<|AX.mpr<|zf e1,by rw[e1,e2];exact h4}}
 have inj:∀a b,a<U.length->b<U.length->f a=f b->a=b:=λa b ha hb=>rn.inj (by lia) (by lia);have al:∀x,x∈zh ct->∃y,y∈zh (zq R)/\x=f y:=λx hx=>by have:=(xc a5).mem_iff.mp hx;rw[sd] at this;obtain⟨y,r,e⟩:=A7.mp this;exact{y,(xc pc).mem_iff.mp r,e.symm}
 have a2:=λy r=>lt y<|(C.part nd).mem_iff.mp<|Ah _<|An _ r;have GB:∀y∈zh a3,y<U.length:=λy r=>by have:=C.Pi.mem_iff.mp<|pl.mem_iff.mp r;exact lt y (AR.mp this).1
 have ay:=(xc a4).trans<|yb f a3;have aL:∀p t n,wd[p]?=some (some<|.lf t n)->∃y,f y=p/\U[y]?=some (.lf t n):=λp t n h=>by
  obtain⟨y,r,rfl,o,eo,l⟩:=rn.inv h;cases o with
  |none=>cases l
  |some o=>
   cases o with
   |nd b i j=>cases l
   |lf t' n'=>
    cases l;obtain⟨k',e1,_,e3⟩:=dn y _ eo;rw[e3 _ _ rfl] at e1;exact{(y),rfl,e1}
 refine{{{WI.ok,WI.len,WI.there,WI.word,WI.cut,by have:=WI.Zx;lia},U1.Zw YC rn,λc hc=>?_,?_,λp=>?_,bc,λx hx z=>?_,?_,bd,ll,λp t n h=>let ⟨y,_,e⟩:=aL p t n h;(ok y _ e).2.1},?_}
 .obtain⟨c0,ba,rfl⟩:=A7.mp<|a4.mem_iff.mp hc;obtain⟨t,n,h1,h2⟩:=I.at_ c0 ba;have l0:=I.lt c0 ba;have w1:=up<|a1 _ _ _ h1;have w2:=up<|a1 _ _ _ h2;have ne:f c0.1≠f c0.2:=λz=>by have:=inj _ _ (zf h1) (zf h2) z;lia
  show min (f c0.1) (f c0.2)<max (f c0.1) (f c0.2)/\∃t n,wd[min (f c0.1)<|f c0.2]?=some (some<|.lf t n)/\wd[max (f c0.1)<|f c0.2]?=some (some<|.lf (!t) n);by_cases h:f c0.1<=f c0.2
  .rw[B3 h,CH h];exact{by lia,t,n,w1,w2}
  .rw[C3 (by lia),CP (by lia)];exact{by lia,!t,n,w2,by rw[Bool.not_not];exact w1}
 .exact ay.nodup_iff.mpr<|kO I.nd λa ha b hb=>inj a b (GB a ha)<|GB b hb
 .rw[ay.mem_iff,A7];constructor
  .rintro⟨y,r,rfl⟩;have:=(AR.mp<|C.Pi.mem_iff.mp<|pl.mem_iff.mp r).2;cases e:U[y]? with
   |none=>rw[e] at this;cases this
   |some k=>
    cases k with|lf t n=>exact{t,n,up<|a1 y t n e}|nd b i j=>rw[e] at this;cases this
  .rintro⟨t,n,h⟩;obtain⟨y,e,e1⟩:=aL p t n h;exact{y,pl.mem_iff.mpr (C.Pi.mem_iff.mpr (AR.mpr {tp.mem_iff.mpr<|AX.mpr<|zf e1,by rw[e1];rfl})),e}
 .obtain⟨y,r,rfl⟩:=al x hx;obtain⟨a,p,k,e,ha,_,_,hr⟩:=ac _ z;cases inj _ _ (a2 y r) ha e;exact N3 y hr y (An _ r) rfl
 .have e:(zh ct).Perm ((zh bb).map f):=by rw[<-sd];exact xc a5
  refine e.nodup_iff.mpr<|kO ((xc pc).nodup_iff.mpr (Au.mp N2).1) λa ha b hb=>inj a b (a2 a<|(xc pc).mem_iff.mp ha)<|a2 b<|(xc pc).mem_iff.mp hb
 .obtain⟨g,h0⟩:=List.exists_mem_of_length_pos<|C.ends ok;have t0:=C.sub g h0;have l0:=lt g t0;have nr:g∉mF U (z9 R):=λz=>N3 g z g (Ah _ h0) rfl;have nc:∀y,y∈zh (zq R)->y≠g:=λy r z=>N4 y r g h0 z;have free:∀(a:Nat) (k:Kn),J[a]?=some (some k)->(a∉mF U (z9 R)\/∀(p:Nat) (k:Kn),J[p]?=some (some k)->a∉xm (some k))->a∉zh (zq R)->∃(x:Nat) (k:Kn),wd[x]?=some (some k)/\x∉je wd/\x∉zh ct:=λa k h1 h2 h3=>by
   have la:a<U.length:=by have:=zf h1;lia
   obtain⟨k',bf⟩:∃k',wd[f a]?=some (some k'):=by have:=up h1;cases k<;>exact{_,this}
   refine{f a,k',bf,λz=>?_,λz=>?_}
   .obtain⟨b,p,k,e,hb,g1,g2,g3⟩:=ac _ z;cases inj _ _ la hb e;exact h2.elim (λh=>h g3) λh=>h p k g1 g2
   .obtain⟨y,r,e⟩:=al _ z;cases inj _ _ la (a2 y r) e;exact h3 r
  have e0:J[g]?=some J[g]:=Ag (by lia);cases eo:J[g] with
  |some k=>exact free g k (by rw[e0,eo]) (.inl nr) λz=>nc g z rfl
  |none=>
   rw[eo] at e0;rcases ho with rfl|⟨qs,B,T⟩
   .rw[Al] at e0;obtain⟨_,_,z⟩:=Aq.mp e0;cases z
   .cases l:U[g]? with
    |none=>rw[Ag l0] at l;cases l
    |some k=>
     cases k with
     |lf t n=>rw[a1 g t n l] at e0;cases e0
     |nd e i j=>
      have pi:=(ui l).1;have oi:=ok g _ l;have oi:i<g/\j<g:=oi;have ir:i∈mF U (z9 R):=Bh.mpr {g,t0,by rw[l];exact Ao ..};obtain⟨ki,hi⟩:∃ki,J[i]?=some (some ki):=by
       cases ei:U[i]? with
       |none=>rw[Ag (by lia)] at ei;cases ei
       |some m=>
        cases m with
        |lf t n=>exact{_,a1 i t n ei}
        |nd b a c=>
         rcases T.nd i b a c (by lia) ei with⟨_,z⟩|⟨e2,z⟩
         .exact absurd pi z
         .exact{_,z}
      refine free i ki hi (.inr λp k hp hm=>?_) λz=>N3 i ir i (An _ z) rfl;obtain⟨k',e1,e2,_⟩:=dn p k hp;have:=U0.un g p _ k' i (by rw[Al,l];rfl) (by rw[Al,e1];rfl) (Ao ..) (by rw[e2];exact hm);rw[<-this,e0] at hp;cases hp
section
open PySem.W
section
variable {w:W3}
def X9(v:W0):Prop:=∃i t,v=.int i t
noncomputable def Ys(x:Keyed):Int:=match x.1 with
 |.int i _=>i
 |_=>0
def Z':Ord prog w A s oneType' (λx=>X9 x.1) Ys:=by
 constructor;rintro x y ⟨i,t,I⟩ ⟨j,u,J⟩ E Q h;have h1:Ys x=i:=by unfold Ys;rw[I]
 have h2:Ys y=j:=by unfold Ys;rw[J]
 rw[h1,h2] at h;rw[I,J];exact kat_lt_int h
theorem vB:∀{vs:WP},(∀v∈vs,X9 v)->∃ns,IntsAre vs ns
 |[],_=>{[],.nil}
 |v::r,h=>by obtain⟨i,t,rfl⟩:=h v<|Ao ..;obtain⟨ns,k⟩:=vB (vs:=r) λu I=>h u<|Ai _ I;exact{_,.cons i t k}
def U4(h:∀v∈vs,X9 v)(h2:¬vs.length<2):keyKind' vs.toArray=pure oneType':=by
 obtain⟨I,k⟩:=vB h
 match vs,k,h2 with
 |[],_,h2=>exact absurd (Nat.zero_lt_succ 1) h2
 |[_],_,h2=>exact absurd (BI 1) h2
 |_::_::_,k,_=>exact keyKind_ints k
def Yo{l:Addr}(J:s.heap.IsList l vs.toArray)(hz:vs.length<=127)(I:∀v∈vs,X9 v)
 (h:∀h' tk (xs:Xg) D c,s.heap.objs.size<=D->(∀b o,s.heap.get? b=some o->h'.get? b=some o)->h'.get? D=some (seqObj "list" (List.toArray (xs.map (·.2))) c)->xs.Perm (vs.zip vs)->(xs.Pairwise λx y=>Ys x<=Ys y)->Q (.ref D) {s with heap:=h',toks:=tk}):
 wpAny (model prog w) A (call (.builtin "sorted") [.ref l]) Q E s:=by
 exact qT J hz (λA E g _=>{{λx y U j=>Z'.lt x y (I _ (KB U).1)<|I _ (KB j).1},λh2 Q q=>by rw[U4 I h2];exact Aj q}) h
end
end
theorem gj:∀{ns:WV} {vs:WP},zk (ns.map V.int) vs->IntsAre vs ns
 |[],_,.nil=>.nil
 |n::_,_,.cons ψ p=>by obtain⟨t,e⟩:=ψ;subst e;exact .cons n t<|gj p
theorem uu:∀{vs:WP} {ns:WV},IntsAre vs ns->(vs.zip vs).map Ys=ns
 |_,_,.nil=>rfl
 |_,_,.cons n t h=>by rw[DX,AA,uu h];rfl
def uZ:∀{vs:WP} {ns:WV},IntsAre vs ns->∀v∈vs,X9 v:=by
 intro vs ns h
 induction h with
 |nil=>intro v h;cases h
 |cons n t k I=>
  intro v h;rcases As.mp h with rfl|h
  .exact{(n),t,rfl}
  .exact I v h
theorem tW:∀{xs:List PyProof.Rows.Keyed},(∀x∈xs,X9 x.1/\x.1=x.2)->zk ((xs.map Ys).map V.int) (xs.map (·.2))
 |[],_=>.nil
 |x::r,h=>by obtain⟨⟨i,t,e⟩,I⟩:=h x<|Ao ..;refine .cons {t,?_}<|tW λy J=>h y<|Ai _ J;show x.2=Value.int (Ys x) t;rw[<-I,e];unfold Ys;rw[e]
def U5(X:Cx):W6->Hp->VK->Prop:=λxs H Q=>∃(l:Addr) (ns:WV),xs=[.ref l]/\aY X.K H l (ns.map V.int)/\ns.length<=127/\
 ∀(D:Addr) (ms:WV),H D=none->ms.Perm ns->ms.Pairwise (λa b:Int=>a<=b)->Q (.ref D) (upd H D<|.lst<|ms.map V.int)
theorem wW:jh X (.builtin "sorted") (U5 X):=by
 rintro p s σ H xs us Q I r⟨l,t,rfl,hl,J,q⟩;obtain⟨u,rfl,ru⟩:=r.one;cases (show u=Value.ref l from ru);obtain⟨g,C,pl,hz⟩:=I.list hl;have j:=gj C;have l1:t.length=g.length:=by have:=C.length;rw[Ac] at this;exact this
 refine ja I.tk (Yo pl.isList (by rw[<-l1];exact J) (uZ j) λh' tk U D c T hk hg pm pw ht=>?_);have mk:∀x∈U,X9 x.1/\x.1=x.2:=λx hx=>by obtain⟨m1,m2⟩:=KB<|pm.mem_iff.mp hx;exact{uZ j _ m1,m2}
 have pn:(U.map Ys).Perm t:=by rw[<-uu j];exact pm.map _
 refine{.ref D,_,I.laid (t':=tk) (o:=.lst<|(U.map Ys).map V.int) hk T {?_,U.map (·.2),c,tW mk,hg},rfl,q D _ (I.GT.fresh T) pn<|BP.mpr pw};rw[Ac,pn.length_eq,<-Ac (f:=V.int)];exact hz
def sT(ns:WV):Nat:=(firstMet (λi=>ns.getD i 0) ns.length).length
def U6(X:Cx)(te:TE):TE:=λσ H Q=>te σ H λx H1=>∃(a:Addr) (ns:WV),x=.ref a/\aY X.K H1 a (ns.map V.int)/\ns.length<=4000/\Q (.int (sT ns:Nat)) H1
def U7:bootBuiltins "set"=some (.type "set"):=by decide +kernel
def U8{te:TE}{ps:Pos}(hc:X.calm=true)(l:Gl X "len")(p:X.mg "len"=none)(r:Gl X "set")(C:X.mg "set"=none)(he:PE X e te)(h1:starEach [e] X.env=(false,eval e X.env)::starEach [] X.env:=by rfl):
 PE X (.Call (.Name "len" p1) [.Call (.Name "set" p2) [e] [] ps] [] pos) (U6 X te):=by
 intro J s σ H Q I h;refine wpAny_Call_Name_kw<|eG I l p II ?_;refine callWith_builtin1 ?_ rfl rfl;refine At ?_;refine wpAny_Call_Name_kw<|eG I r C U7 ?_;refine callWith_type1 ?_ h1 rfl;rw[h1];refine At<|aM (he J s σ H _ I h) λu s1 ψ=>?_;obtain⟨x,H1,g,r1,q1⟩:=ψ;obtain⟨a,ns,rfl,hq,hz,q⟩:=q1;cases (show u=Value.ref a from r1);obtain⟨U,T,pl,_⟩:=g.list hq;have ia:=gj T;have l1:ns.length=U.length:=by have:=T.length;rw[Ac] at this;exact this
 have sb:(4001:Nat)<scanBound:=by decide
 refine Ev ?_;refine ja g.tk (call_set_list (g.ok.hd hc) pl.isList (ns:=ns) (by simpa using ia) (by rw[Ar];lia) λh' tk hS hk ht=>?_);have sz:U.toArray.size=ns.length:=by rw[Ar,l1]
 rw[sz] at hS;obtain⟨o,ho,hex,es,ep,t,hd,_,_,j,hf⟩:=hS.objOf;have I2:=g.kept (λb o e=>hk b o (wh e) e) ht;have le:sT ns<=ns.length:=firstMet_length_le _ _;have j:es.size=sT ns:=j;refine Ev (call_len_set (s:={s1 with heap:=h',toks:=tk}) ho hex hd hf (by rw[j];lia) ?_);rw[j];exact{.int (sT ns:Nat),H1,I2.kept (λ_ _ e=>e)<|BA _,{_,rfl},q}
def Ki(xs:_x)(L:qm)(Q:YK):Prop:=match xs with
 |[.ref a]=>cM L a λys=>∃ns:WV,ys=ns.map Y.int/\ns.length<=127/\∀(D:Addr) (ms:WV),L D=none->ms.Perm ns->ms.Pairwise (λa b:Int=>a<=b)->Q (.ref D) (qj L D<|.lst<|ms.map Y.int)
 |_=>False
theorem rp{G:G3}{H:Hp}:∀{ns:WV} {xs:W6},va G H (ns.map Y.int) xs->xs=ns.map V.int
 |[],_,h=>h
 |n::r,_,ψ=>by obtain⟨x,I,e,J,s⟩:=ψ;subst e;cases (show x=V.int n from J);rw[rp s];rfl
theorem y7{G:G3}{H:Hp}:∀ns:WV,va G H (ns.map Y.int)<|ns.map V.int
 |[]=>rfl
 |n::r=>{_,_,rfl,rfl,y7 r}
theorem U9 :jh X (.builtin "sorted") (f_ X.g3 Ki):=FD wW λC H Q T L Q3 j J z k=>by
 unfold Ki at z;split at z
 .rename_i a;obtain⟨zs,e,l,rfl,I,z⟩:=xa z;obtain⟨vs,o,r⟩:=J a _ e;obtain⟨u,rfl,p⟩:=j.inv1;cases (show u=V.ref a from p);cases rp r;exact{a,l,rfl,FE o,I,λD g U pm t=>k _ _ _ _ (EX U) (J.XX U<|y7 g) (by rfl)<|z D g (J.none U) pm t}
 .exact z.elim
def U_(ta:xw)(τ:ji)(L:qm)(Q:YK):Prop:=ta τ L λx L1=>match x with
 |.ref a=>cM L1 a λys=>∃ns:WV,ys=ns.map Y.int/\ns.length<=4000/\Q (.int (sT ns:Nat)) L1
 |_=>False
def Va{ps:Pos}(hc:X.calm=true)(J:Gl X "len")(U:X.mg "len"=none)(g:Gl X "set")(j:X.mg "set"=none)(p:QE X e te)(h1:starEach [e] X.env=(false,eval e X.env)::starEach [] X.env:=by rfl):
 QE X (.Call (.Name "len" p1) [.Call (.Name "set" p2) [e] [] ps] [] pos) (U_ te):=EY (U8 hc J U g j p h1) λσ H Q t L Q3 C T z k=>
 ⟨t,L,_,C,T,z,λv H1 y L1 t1 I l o=>by
  cases y with
  |ref a=>
   obtain⟨zs,e,ns,rfl,hz,z⟩:=xa o;obtain⟨vs,e2,r⟩:=I a _ e;cases rp r;exact{a,ns,l,FE e2,hz,k _ H1 _ L1 t1 I (by rfl) z}
  |_=>exact o.elim⟩
def Vb{ns:WV}(h:ns.Nodup):sT ns=ns.length:=by
 have key:∀i,i<=ns.length->PyProof.Rows.firstMet (λi=>ns.getD i 0) i=ns.take i:=by
  intro i
  induction i with
  |zero=>intro _;rfl
  |succ i g=>
   intro J;rw[Eb,g<|Nat.le_of_succ_le J];have e:=Ag J;have l:ns.getD i 0=ns[i]:=by rw[Bm,e];rfl
   rw[l,Bi,e,Option.toList_some];unfold PyProof.Rows.step_dedup;rw[AB];intro I;have I:ns[i]∈ns.take i:=by simpa using I
   obtain⟨j,o,U⟩:=BK I;rw[AV] at o;rw[BF] at U;have:=(Es h).mp U;lia
 unfold sT;rw[key _<|Am _,Bg]
def iz(I:vt):RD "holds_leaf" iZ 1 ["knot"] (λV=>FU V I):={_,λV B c _ _ _ _ _ _ _ J hN U=>(qe<|qu<|wm (mW<|qv 0)<|bG<|C_ c J<|jm<|qv 0)}
def ln:RD "each_once" lD 0 ["places"] (λ_=>True):={_,λV B c _ _ _ _ _ _ _ J hN I=>(qe<|qu<|aH (fU _ _ _ I) (Va rfl rfl B.ba rfl B.b_set<|qv 0) (L_ B.ba<|qv 0)<|jv _)}
def lC(J:vt)(I:vt):RD "parts_fit" lW 2 ["knots","place","parts","fit"] (λV=>Hk V J/\Hm V I):={_,λV B c _ _ _ _ _ _ _ U hN g=>(qb (S_ 2 hN<|C_ c.1 U<|jm<|I_ (qv 0)<|qv 1)<|qb (S_ 3 hN<|j5 yg rfl B.b_all re<|jm<|fB ["part"] (EZ (by rfl)) rfl (xx<|qv 2) (o7 4) (λ_ _ _ _=>eQ) λ_ _ _ _=>(wm (vP qd<|uF Hb (qv 4)<|u6 jQ<|qv 1)<|bG<|mW<|I_ (qv 0)<|qv 4))<|qe<|qu<|wm (qv 3)<|bG<|C_ c.2 U<|jm<|qv 2)}
def lA(I:vt):RD "are_knots" kY 3 ["knots","fit"] (λV=>Jr V I):={_,λV B c _ _ _ _ _ _ _ J hN U=>(qb (S_ 1 hN<|j5 yg rfl B.b_all re<|jm<|fB ["place"] (EZ (by rfl)) rfl (ky rfl B.bh<|jm<|L_ B.ba<|qv 0) (o7 2) (λ_ _ _ _=>eQ) λ_ _ _ _=>(C_ c J<|vj (qv 0)<|qv 2))<|qe<|qu<|wm (qv 1)<|bG<|j5 R7 rfl B.b_any R8<|jm<|fB ["knot"] (EZ (by rfl)) rfl (xx<|qv 0) (o7 2) (λ_ _ _ _=>eQ) λ_ _ _ _=>(mW<|qv 2))}
def lu(U:vt)(I:vt)(J:vt):RD "are_links" lM 123 ["knots","links","fit","leaves"] (λV=>Js V U/\Hj V I/\Hl V J):={_,λV B c _ _ _ _ _ _ _ g hN j=>(qb (S_ 2 hN<|j5 yg rfl B.b_all re<|jm<|fB ["p","q" ] (EZ (by rfl)) rfl (xx<|qv 1) (Hr 4) (λ_ _ _ _=>eQ) λ_ _ _ _=>(C_ c.1 g<|aA (qv 0) (qv 4)<|qv 5))<|qb (aT ["place","knot" ] (i:=3) hN rfl (Or.inl rfl) (EZ (by rfl)) rfl (m5 rfl B.bq<|qv 0) (Hr 4) (λ_ _ _ _=>bJ<|km<|C_ c.2.1 g<|jm<|qv 5) λ_ _ _ _=>(qv 4))<|qe<|qu<|wm (qv 2)<|wm (aH (fU _ _ _ j) (j5 U9 rfl B.bg k8<|jm<|C_ c.2.2 g<|jm<|qv 1) (qv 3)<|jv _)<|bG<|aH (fU _ _ _ j) (qv 1) (j5 ak rfl B.bg k8<|jm<|qv 1)<|jv _)}
def i4(I:vt):RD "can_be_cut" iR 3 ["knots","place"] (λV=>Jq V I):={_,λV B c _ _ _ _ _ _ _ J hN U=>(qe<|qu<|wm (vP qd<|uF Hb (qv 1)<|u6 jQ<|L_ B.ba<|qv 0)<|wm (mW<|I_ (qv 0)<|qv 1)<|bG<|aH (sC _ _ _) (qv 1) (C_ c J<|jm<|qv 0) (by with_unfolding_all rfl))}
def uE(I:vt)(J:vt)(U:vt):RD "is_cut" wA 122 ["knots","p","q"] (λV=>Jt V I/\Jp V J/\Hi V U):={_,λV B c _ _ _ _ _ _ _ g hN j=>(qb (zo (gw<|xo<|vf (km<|C_ c.1 g<|vj (qv 0)<|qv 1)<|jx<|km<|C_ c.1 g<|vj (qv 0)<|qv 2) (qe<|qu cV) zg)<|qe<|qu<|aH (fU _ _ _ j) (C_ c.2.1 g<|vj (qv 0)<|qv 2) (C_ c.2.2 g<|jm<|C_ c.2.1 g<|vj (qv 0)<|qv 1)<|jv _)}
def nV(U:vt)(I:vt)(J:vt):RD "are_cuts" oO 123 ["knots","cuts","fit"] (λV=>Ju V U/\Hm V I/\Hl V J):={_,λV B c _ _ _ _ _ _ _ g hN j=>(qb (S_ 2 hN<|j5 yg rfl B.b_all re<|jm<|fB ["p","q" ] (EZ (by rfl)) rfl (xx<|qv 1) (Hr 3) (λ_ _ _ _=>eQ) λ_ _ _ _=>(C_ c.1 g<|aA (qv 0) (qv 3)<|qv 4))<|qe<|qu<|wm (qv 2)<|wm (C_ c.2.1 g<|jm<|C_ c.2.2 g<|jm<|qv 1)<|bG<|aH (fU _ _ _ j) (qv 1) (j5 ak rfl B.bg k8<|jm<|qv 1)<|jv _)}
def cU(l:WR):nY l=(l.map λn:Nat=>(n:Int)).map Y.int:=by unfold nY;rw[BC];rfl
def hG{l:WR}(h:l.Nodup):(l.map λn:Nat=>(n:Int)).Nodup:=fj (λ_ _ _ _ e=>Bp.mp e) h
inductive fP(ys:_x)(L:qm)(Q:YK):Prop
 |mk:∀k:Xd,(ys=[jF k])->(Q (.bl<|yo k) L)->fP ys L Q
def Vc:_f fP (iz aJ).1 1:=by
 rintro ys L Q ⟨k,rfl,q⟩;cases k with
 |none=>exact vd q
 |some k=>
  cases k with|lf t n=>exact{true,t,_,rfl,vd q}|nd e i j=>exact{false,e,_,rfl,vd q}
structure ZG(wd:List<|Xd):Prop where
 ok:pI wd
 there:iq wd
 pu:dG wd
def ZG.at_(S:ZG wd){p m:Nat}{k:Xd}(h:wd[p]?=some k)(I:m∈xm k):m<p/\∃J,wd[m]?=some (some J):=by
 cases k with
 |none=>cases I
 |some k=>
  cases k with
  |lf t n=>cases I
  |nd e i j=>
   obtain⟨a,b⟩:=S.ok p e i j h;obtain⟨c,d⟩:=S.there p e i j h;have I:=I;rcases As.mp I with rfl|I
   .exact{(a),c}
   .rw[Ap.mp I];exact{(b),d}
theorem ZG.nd(S:ZG wd){p:Nat}{k:Xd}(h:wd[p]?=some k):(xm k).Nodup:=by
 cases k with
 |none=>exact BY
 |some k=>
  cases k with
  |lf t n=>exact BY
  |nd e i j=>
   have:=S.pu.ne p e i j h;show [i,j].Nodup;simp[this]
theorem dO{L:qm}:∀xs:WV,Paired (jj L 0) (xs.map Y.int)<|xs.map λx=>Da.s<|.int x
 |[]=>.nil
 |_::r=>.cons {(rfl),rfl}<|dO r
theorem rU:∀l:WO,Da.eqs (l.map fC) (l.map fC)=true
 |[]=>rfl
 |x::r=>by rw[AA,Da.eqs,i5,rU r,AD rfl];rfl
def Vd(f:Xd->Bool)(wd:List<|Xd)(n:Nat):(wG f wd n).Pairwise λa b=>a<b:=by exact List.Pairwise.filter _ List.pairwise_lt_range
def KW.ex{p:Nat}{w:Wd}(h:KW (jz wd) p w):∃k,wd[p]?=some (some k):=by cases w with|leaf t n=>exact{_,h.SB}|node e l r=>obtain⟨i,j,a,_⟩:=h.P3;exact{_,a}
def HJ(to ti:xw)(v:Y)(τ:ji)(L:qm)(Q:ji->qm->Prop):Prop:=to τ L λx L2=>ti τ L2 λy L3=>match x,y with
 |.ref a,.int i=>cM L3 a λys=>wX L3 (λj L=>Q τ<|qj L a<|.lst<|ys.set j v)<|rg ys.length i
 |_,_=>False
theorem Kj{i:Expr}(ho:QE X o to)(hi:QE X i ti)
 (ha:∀v,assign (.Subscript o i fy) X.env v=(do
  let J <-holding [v] (eval o X.env)
  let g <-holding [v,J] (eval i X.env)
  standAt fy
  holding [v,J,g] (setItem J g v)
  release [v,J,g] []):=by intro _;rfl):QG X (.Subscript o i fy) (HJ to ti):=
 PG.imp (Ia ho hi vM ha) λv σ H Q z0=>by
 obtain⟨vy,τ,L,Q3,l,p,rl,z,k⟩:=z0;exact{τ,L,_,p,rl,z,λx H2 xy L2 U t C z2=>{τ,L2,_,p.ts U,t,z2,λw H3 y L3 T I a1 z3=>by
  split at z3
  .rename_i a ii;obtain⟨ys,e,z4⟩:=xa z3;obtain⟨j,ej,q⟩:=jH z4;obtain⟨xs,e2,r⟩:=I a _ e;cases (show x=V.ref a from C);cases (show w=V.int ii from a1);have tt:j7 H3 (upd H3 a<|.lst<|xs.set j v):=E7 e2;exact{a,xs,ii,j,rfl,rfl,e2,by rw[<-r.length];exact ej,k _ _ _ _ ((U.trans T).trans tt) (p.ts<|(U.trans T).trans tt) (I.X4 e2<|va.Zr (l.ts<|U.trans T) j r) q}
  .exact z3.elim}}
def Ve(x y:Y)(L:qm)(Q:YK):Prop:=(x=.GM/\(∃ys,y=.tup ys)/\Q (.bl false) L)\/b_ false x y L Q
def Vf(K:Af)(P:W2)(w:W3)(o:X.A.units+128<cLine)(C:X.K=K:=by rfl)(T:X.prog=P:=by rfl)(hw:X.w=w:=by rfl):w6 X (compareOp .Eq) (gS ⟨K,P,w⟩ Ve):=by
 subst C T hw;rintro J s U H x y v u Q I g j ⟨x3,y3,L,Q3,a,b,l,z,k⟩;rcases z with⟨rfl,⟨ys,rfl⟩,z⟩|z
 .cases a;obtain⟨p,xs,rfl,sq,r⟩:=b;cases g;cases j;obtain⟨a1,_,t,_⟩:=I.tuple sq;exact SeqAt.RcAt.none_tuple t (by lia) X.prog X.w X.xe (EP X J U Q) {.bl false,H,I,rfl,k _ H _ L (EW _) l (by rfl) z}
 .exact fU X.K X.prog X.w o rfl rfl rfl J s U H x y v u Q I g j {(x3),y3,L,Q3,a,b,l,z,k}
section
open PySem.W
section
variable {K:Af}(T:K.lookup Pt=some (PySem.W.tabObj #[]))
include T
def xM :clsIn (GE Pt K) C=clsIn K C:=by
 unfold clsIn;by_cases d:C=Pt
 .subst d;rw[kj,T]
 .rw[xp d]
def Kk{b:W0}:mroIn (GE Pt K) C b=mroIn K C b:=by unfold mroIn;rw[xM T]
def tJ{t b:W0}:subIn (GE Pt K) t b=subIn K t b:=by
 unfold subIn;split
 .rfl
 .exact Kk T
 .rfl
def xL{i:W5} :specialIn (GE Pt K) (.builtin i) x=specialIn K (.builtin i) x:=by unfold specialIn typeIn;congr 1;funext t;exact i0 T
def Vg{i:W5}:takesIn (GE Pt K) (.builtin i)=takesIn K (.builtin i):=by unfold takesIn;rw[xL T,xL T]
def qD{t c:W0}{b:Bool}(e:kitCls K t c=some b):kitCls (GE Pt K) t c=some b:=by
 unfold kitCls at e ⊢;split at e
 .rename_i C;have n:C≠Pt:=by rintro rfl;unfold clsIn at e;rw[T] at e;cases e
  have h:typeIn (GE Pt K) (.ref C)=typeIn K (.ref C):=by show(List.lookup C<|GE Pt K).map _=(List.lookup C K).map _;rw[xp n]
  rw[xM T,tJ T,h];exact e
 .rw[tJ T];exact e
 .cases e
def gB{t c:W0}{b:Bool}(e:kitOne K t c=some b):kitOne (GE Pt K) t c=some b:=by
 unfold kitOne at e ⊢;split at e
 .rename_i h;rw[AC h];exact e
 .rename_i h;rw[AB h];exact qD T e
theorem rD{t:W0}{b:Bool}:∀{l:WP},kitAny K t l=some b->kitAny (GE Pt K) t l=some b
 |[],e=>e
 |c::r,e=>by
  unfold kitAny at e ⊢;split at e
  .rename_i h;rw[gB T h];exact e
  .rename_i h;rw[gB T h];exact rD e
  .cases e
def Vh{t c:W0}{b:Bool}(e:exmOne K t c=some b):exmOne (GE Pt K) t c=some b:=by
 unfold exmOne at e ⊢;rw[tJ T];split at e
 .rename_i h;rw[AC h];exact qD T e
 .cases e
def Vi(x:x_ K C):x_ (GE Pt K) C:=by obtain⟨⟨ga,gt,cl,ge,tk,mo,be⟩,h⟩:=x;exact{{(i0 T).trans ga,(i0 T).trans gt,(i0 T).trans cl,(xL T).trans ge,(Vg T).trans tk,(Kk T).trans mo,(tJ T).trans be},by rw[xM T];exact h}
def Kl{N:Addr}:nsOkIn (GE Pt K) N=nsOkIn K N:=by
 unfold nsOkIn;by_cases d:N=Pt
 .subst d;rw[kj,T]
 .rw[xp d]
theorem yk{bm:WP}:∀l:WP,tailIn (GE Pt K) bm l=tailIn K bm l
 |[]=>rfl
 |v::r=>by
  unfold tailIn;congr 1;split
  .rename_i A;by_cases d:A=Pt
   .subst d;rw[kj,T]
   .rw[xp d];split
    .rw[Kl T,Pv T rfl,yk r]
    .rfl
  .rfl
def Zk{bm:WP}{i:W5}(e:excIn K C bm i=true):excIn (GE Pt K) C bm i=true:=by
 unfold excIn at e ⊢;by_cases d:C=Pt
 .subst d;rw[T] at e;cases e
 .rw[xp d];split at e
  .split at e
   .rw[yk T,Kl T,Pv T rfl];exact e
   .cases e
  .cases e
end
section
variable {K:Af}(T:K.lookup Pt=some (PySem.W.tabObj #[]))
include T
end
end
def Gs(neg:Bool)(x y:Y)(L:qm)(Q:YK):Prop:=match x,y with
 |.bl c,.bl d=>Q (.bl<|nb neg<|c==d) L
 |_,_=>False
def Vj :w6 X (compareOp .IsNot) (λx y H Q=>∃c d,x=.bl c/\y=.bl d/\Q (.bl<|!(c==d)) H):=by rintro J s j H x y v u Q I U g⟨c,d,rfl,rfl,q⟩;cases U;cases g;exact isnot_bool<|gm I q rfl
def Km :w6 X (compareOp .IsNot) (gS X.g3<|Gs true):=FI Vj λx y H Q g j L l I J U z k=>by
 unfold Gs at z;split at z
 .exact{_,_,I,J,k _ H _ L (EW _) U (by rfl) z}
 .exact z.elim
def wF(J:vt)(I:vt):RD "is_link" qE 122 ["knots","p","q"] (λV=>Hi V J/\Hj V I):={_,λV B c _ _ _ _ _ _ _ U hN g=>(qb (zo (gw<|R4 qd<|qQ Hb (qv 1)<|qQ jQ (qv 2)<|RZ jQ<|L_ B.ba<|qv 0) (qe<|qu cV) zg)<|qe<|qu<|wm (C_ c.2 U<|jm<|I_ (qv 0)<|qv 1)<|bG<|aH (Vf _ _ _ g) (I_ (qv 0)<|qv 2) (C_ c.1 U<|jm<|I_ (qv 0)<|qv 1)<|jv _)}
def oU(I:Addr)(E3:X3):bD:=(ww (FO<|yB<|qc 0) (Jo I E3<|bH<|qc 1) cT)
def vS(E3:X3)(I:mL)(p1:vt)(p2:vt)(p3:vt)(p4:vt)(p5:vt):bD:=(j8 (jt (eh 0 0)<|qo 1)
 (j8 (vv<|eB I E3<|qh (jq p1<|bH<|qc 1)<|bH<|rN "the knots are not sound, or all of them are gone")
 (j8 (vv<|eB I E3<|qh (jq p2<|qh (jq p3<|bH<|qc 1) zn)<|bH<|rN "a place is a part of two knots")
 (j8 (vv<|eB I E3<|qh (jq p4<|cH (qc 1)<|eh 0 1)<|bH<|rN "the links do not link each leaf once, in rising order")
 (j8 (vv<|eB I E3<|qh (jq p5<|cH (qc 1)<|eh 0 2)<|bH<|rN "the cuts are not of two free turned sides each, in rising order")
 (cL<|yC<|.bl true))))))
def FW(wd:List<|Xd)(c:WZ):Prop:=c.1<c.2/\∃t n,wd[c.1]?=some (some<|.lf t n)/\wd[c.2]?=some (some<|.lf (!t) n)
def u5(wd:List<|Xd)(c:Int×Int):Prop:=∃d,c=x6 d/\FW wd d
def u5.nat{p r:Nat}(h:u5 wd ((p:Int),(r:Int))):FW wd (p,r):=by obtain⟨d,e,h⟩:=h;rw[gE (p:=(p,r)) e];exact h
inductive gF(ys:_x)(L:qm)(Q:YK):Prop
 |mk:∀a,∀wd:List (Xd),∀c:Int×Int,(ys=[.ref a,.int c.1,.int c.2])->(L a=some (.lst<|jz wd))->(∀b:Bool,(b=true↔u5 wd c)->Q (.bl b) L)->gF ys L Q
def ah{A:Prop}(h:¬A):false=true↔A:={nofun,λx=>(h x).elim}
def Vk:_f gF (wF (a9 120) fP).1 3:=by
 rintro ys L Q ⟨a,I,⟨c1,J⟩,rfl,o,q⟩;cases c1 with
 |negSucc n=>exact vd (q false (ah λ ψ=>by obtain⟨d,e,_⟩:=ψ;have:Int.negSucc n=(d.1:Int):=Br Prod.fst e;lia))
 |ofNat p=>
  refine eM (b:=decide<|(p:Int)<J) (λh1=>?_) λh1=>vd<|q false<|ah λh0=>?_
  .have h1:=of_decide_eq_true h1;refine qa o<|eM (b:=!decide (J<((jz I).length:Int))) (λh2=>vd<|q false<|ah λh0=>?_) λh2=>?_
   .obtain⟨d,e,_,t,n,_,U⟩:=h0;have e:J=(d.2:Int):=Br Prod.snd e;have:=zf U;rw[jo,AD (by lia)] at h2;cases h2
   .have h2:J<((jz I).length:Int):=by
     rcases Decidable.em (J<((jz I).length:Int)) with h|h
     .exact h
     .rw[Aw h] at h2;cases h2
    rw[jo] at h2;obtain⟨r,rfl⟩:=Int.eq_ofNat_of_zero_le (a:=J) (by lia);have g:I[p]?=some I[p]:=Ag (by lia);have l:I[r]?=some I[r]:=Ag (by lia);generalize I[p]=k at g;generalize I[r]=C at l;refine qa o<|qg (jw g) {k,rfl,?_};have no:(∀t n,k=some (.lf t n)->C≠some (.lf (!t) n))->a6 Q (.bl false) L:=λh=>vd (q false (ah λz=>by obtain⟨_,t,n,T,U⟩:=u5.nat z;exact h t n (A2<|g.symm.trans T)<|A2<|l.symm.trans U))
    cases k with
    |none=>exact no nofun
    |some k=>
     cases k with
     |nd e i j=>exact no nofun
     |lf t n=>
      refine qa o<|qg (jw l)<|qa o<|qg (jw g) {.leaf t n,rfl,(show 1<=120 by decide),?_};cases C with
      |none=>exact .inl {rfl,{_,rfl},no nofun}
      |some C=>
       cases C with
       |nd e i j=>
        refine .inr {rfl,rfl,1,1,_,_,by decide,wo<|.cons (FB _)<|.cons (E5 _)<|.cons (E5 _) .nil,wo<|.cons (FB _)<|.cons (FB _) .nil,?_};show a6 Q (.bl<|_&&(_&&false)) L;rw[BW,BW];exact no nofun
       |lf u m=>
        refine .inr<|iI (u:=.leaf u m) (v:=.leaf (!t) n) (show 1<=128 by decide) ?_;show a6 Q (.bl<|Da.eq _ _) L;refine vd<|q _ ?_;rw[J',AM,decide_eq_true_eq,decide_eq_true_eq];constructor
        .rintro⟨rfl,rfl⟩;exact{(p,r),rfl,CO.mp h1,t,m,g,l}
        .intro z;obtain⟨_,t',n',T,U⟩:=u5.nat z;cases g.symm.trans T;cases l.symm.trans U;exact{(rfl),rfl}
  .obtain⟨d,e,z,_⟩:=h0;have T:(p:Int)=(d.1:Int):=Br Prod.fst e;have U:J=(d.2:Int):=Br Prod.snd e;exact of_decide_eq_false h1 (by lia)
def pJ(wd:List<|Xd)(cs:List<|Int×Int):Prop:=∃lk:WO,cs=lk.map x6/\(∀c∈lk,FW wd c)/\(zh lk).Perm (wG yo wd wd.length)/\lk.Pairwise ar
def pJ.all(h:pJ wd cs):∀c∈cs,u5 wd c:=by obtain⟨lk,rfl,h,_⟩:=h;intro c I;obtain⟨d,hd,rfl⟩:=A7.mp I;exact{d,rfl,h d hd}
theorem tV{wd:List<|Xd}:∀{cs:List<|Int×Int},(∀c∈cs,u5 wd c)->∃lk:WO,cs=lk.map x6/\∀c∈lk,FW wd c
 |[],_=>{[],rfl,nofun}
 |c::r,h=>by obtain⟨d,rfl,hd⟩:=h c (by simp);obtain⟨lk,rfl,J⟩:=tV (cs:=r) λx I=>h x<|Ai _ I;exact{d::lk,rfl,λx I=>by rcases As.mp I with rfl|I;exact hd;exact J x I}
def gM(h:l.map x6=m.map x6):l=m:=(Ec λ_ _=>gE).mp h
theorem oq:∀l m:WO,Da.eqs (l.map fC) (m.map fC)=decide (l=m)
 |[],[]=>rfl
 |[],_::_=>rfl
 |_::_,[]=>rfl
 |x::r,y::t=>by rw[AA,AA,Da.eqs,i5,oq r t,<-Bool.decide_and];exact DB.mpr<|List.cons.injEq ..▸Iff.rfl
def qV(h:l.Perm m)(I:l.Pairwise ar)(J:m.Pairwise ar):l=m:=
 Er (le:=ar) (λa b _ _ h1 h2=>by unfold ar at h1 h2;exact Eu (by lia) (by lia)) I J h
def Vl{l m:WR}(h:(l.map λn:Nat=>(n:Int))=m.map λn:Nat=>(n:Int)):l=m:=(Ec λ_ _=>Bp.mp).mp h
def Vm{l m:WR}{ms:WV}(pm:ms.Perm (l.map λn:Nat=>(n:Int)))(I:ms.Pairwise λa b:Int=>a<=b)(J:m.Pairwise λa b=>a<b)(h:l.Perm m):ms=m.map λn:Nat=>(n:Int):=
 Er (le:=λa b:Int=>a<=b) (λa b _ _ h1 h2=>Int.le_antisymm h1 h2) I (BP.mpr<|J.imp λh=>Int.ofNat_le.mpr<|Bk h) (pm.trans<|h.map _)
inductive aq(ys:_x)(L:qm)(Q:YK):Prop
 |mk:∀a l,∀wd:List (Xd),∀cs:List (Int×Int),(ys=[.ref a,.ref l])->(L a=some (.lst<|jz wd))->(L l=some (.lst<|cs.map rW))->(wd.length<=1000)->(cs.length<=63)->(∀b:Bool,(b=true↔pJ wd cs)->Q (.bl b) L)->aq ys L Q
def wC:_f aq (lu gF fP im).1 4:=by
 rintro ys L Q ⟨a,l,I,cs,rfl,ha,U,z1,z2,q⟩;have big:=a_;refine xg U λkeep C=>bx (λi p=>∃bs:List Bool,p=bs.map Y.bl/\(bs.all id=true↔∀c∈cs.take i,u5 I c)) (by rw[Ac];exact big _ (by lia)) (C _ rfl) {[],rfl,λ_=>nofun,λ_=>rfl} ?_ ?_
 .rintro i y p hy ⟨bs,rfl,g⟩;rw[Al] at hy;obtain⟨c,ec,rfl⟩:=Aq.mp hy;refine{a,I,c,rfl,ha,λb eb=>{_,EV _,rfl,bs++[b],by rw[Av];rfl,?_}};rw[List.all_append,AM,g,Bi,ec];constructor
  .rintro⟨h1,h2⟩ x J;rcases Ak.mp J with J|J
   .exact h1 x J
   .rw[Ap.mp J];rw[CA,AM] at h2;exact eb.mp h2.1
  .intro h;refine{λx J=>h x<|An _ J,?_};rw[CA,AM];exact{eb.mpr<|h c<|Ah _ Ao,rfl}
 rintro p ⟨bs,rfl,g⟩ p1 h1;rw[Ac,Bg] at g;have T:=By (o:=.lst<|bs.map Y.bl) h1;refine{rfl,qa q9<|qg (fk _) ?_};generalize qj L p1 (.lst<|bs.map Y.bl)=L1 at T ⊢;refine xg (T _ _ ha) λkeep C=>TD (f:=yo) (by lia) (C _ rfl) (λi k R p ek h1 h2=>{k,rfl,eM h1 h2}) λp2 h2=>?_;refine G7 h2 λL2 j g2=>?_;have j:=T.trans j;refine eM (b:=bs.all id) (λe=>?_) λe=>dX j (q false (ah λh=>by rw[g.mpr h.all] at e;cases e));obtain⟨lk,rfl,hA⟩:=tV<|g.mp e;rw[<-vz] at U;rw[Ac] at z2;have pl:=vq lk;refine{l,lk,rfl,j _ _ U,by lia,λp3 h3=>?_};have s3:=j.trans<|By (o:=.lst<|nY<|zh lk) h3;refine qk q9 {_,cU<|zh lk,by rw[Ac];lia,λD ms hD pm pw=>?_};obtain⟨ns,pn,rfl⟩:=jW (λn:Nat=>(n:Int)) pm rfl;have s4:=By (o:=.lst<|(ns.map λn:Nat=>(n:Int)).map Y.int) hD;have g4:=s4 _ _<|By (o:=.lst<|nY<|zh lk) h3 _ _ g2;have r:=s3.trans s4;rw[cU<|wG yo I I.length] at g4;refine{rfl,rfl,1,1,_,_,by decide,wy q9<|dO _,wy g4<|dO _,?_};have wn:(wG yo I I.length).Nodup:=by unfold wG;exact Co.filter _
 refine eM (λe=>?_) λe=>dX r<|q false<|ah λ⟨a1,e',_,h',_⟩=>?_
 .have e:Da.eqs _ _=true:=e;rw[BC,BC] at e;have e:=(iL _ _).mp e;subst e;have nd:=xl<|pn.nodup_iff.mp wn;show aI [.ref l] _ λy L'=>b_ false (.ref l) y L'<|a6 Q;refine lT (r _ _ U) (λc hc=>by obtain⟨_,t,n,_,e⟩:=hA c hc;have:=zf e;lia) nd (by lia) λD' qs a2 pq wq=>?_;have s6:=By (o:=.lst<|qt qs) a2;refine kq (n:=1) (m:=1) (by decide) (s6 _ _<|r _ _ U) q9 (we lk) (we qs) ?_;show a6 Q (.bl<|Da.eqs _ _) _;rw[oq];refine dX (r.trans s6)<|q _ ?_;rw[decide_eq_true_eq];constructor
  .rintro rfl;exact{(lk),rfl,hA,pn.symm,wq}
  .rintro⟨a1,e',_,_,w'⟩;cases gM e';exact qV pq.symm w' wq
 .cases gM e';have e:Da.eqs _ _=false:=e;rw[BC,BC] at e;exact AH<|e.symm.trans<|(iL _ _).mpr<|Vl<|Vm pm pw (Vd yo I I.length) h'
inductive aw(C:Addr)(ys:_x)(L:qm)(Q:YK)(E:Addr->qm->Prop):Prop
 |mk:∀b z,(ys=[.bl b,.str z])->((b=true->Q .GM L))->((b=false->E C L))->aw C ys L Q E
def tU :∀ys L Q E,aw C ys L Q E->xq (oU C<|ES E) 2 ys L Q:=by
 rintro ys L Q E ⟨b,z,rfl,h1,h2⟩;cases b with
 |true=>exact vd<|h1 rfl
 |false=>exact{Cs rfl,L,EV L,h2 rfl}
def qN.Z1(S:qN wd lk ct):pJ wd (lk.map x6):=by
 refine{lk,rfl,S.ZQ,?_,S._j};have J:(wG yo wd wd.length).Nodup:=by unfold wG;exact Co.filter _
 refine(Bf S._k J).mpr λx=>?_;rw[S.Z2 x];constructor
 .rintro⟨t,n,e⟩;exact UJ e rfl<|zf e
 .intro h;obtain⟨_,k,e,I⟩:=Tz h;cases k with
  |none=>cases I
  |some k=>
   cases k with|lf t n=>exact{(t),n,e}|nd b i j=>cases I
def Vn{k:Nat}(I:k<n)(J:1<n):∃j,rg n ((k:Int)-1)=some j/\j<n/\j≠k:=by
 unfold rg;by_cases h:k=0
 .subst h;exact{n-1,by rw[AB (by decide),AC (by lia)];exact Br some (by lia),by lia,by lia}
 .exact{k-1,by rw[AC (by lia),AC (by lia)];exact Br some (by lia),by lia,by lia}
def Vo{xs:List α}{i:Int}{x:α}(h:rg xs.length i=some j)(e:xs[j]?=some x):fG xs i=some x:=by unfold fG;rw[h];exact e
def pJ.nat(h:pJ wd<|lk.map x6):(∀c∈lk,FW wd c)/\(zh lk).Perm (wG yo wd wd.length)/\lk.Pairwise ar:=by obtain⟨I,e,h⟩:=h;cases gM e;exact h
def mO{a b r:Int}{Q:YK}(h:0<b)(e:a % b=r)(q:Q (.int r) L):ai (.int a) (.int b) L Q:=by subst e;exact{(h),q}
def Vp{k:Nat}{x y:WZ}(h:lk.Pairwise ar)(ex:lk[k]?=some x)(I:lk[j]?=some y)(ne:x≠y)(J:j≠k):¬((lk.set k y).set j x).Pairwise ar:=λz=>by
 have U:=B5.mp z;have h:=B5.mp h;obtain⟨g,ex⟩:=AN.mp ex;obtain⟨l,I⟩:=AN.mp I;have r:((lk.set k y).set j x).length=lk.length:=by rw[Bq,Bq]
 have o:((lk.set k y).set j x)[j]'(by lia)=x:=by rw[List.getElem_set_self]
 have p:((lk.set k y).set j x)[k]'(by lia)=y:=by rw[List.getElem_set_ne J,List.getElem_set_self]
 apply ne;rcases Nat.lt_or_gt_of_ne J with c|c
 .have a:=U j k (by lia) (by lia) c;have b:=h j k l g c;rw[o,p] at a;rw[ex,I] at b;unfold ar at a b;exact Eu (by lia) (by lia)
 .have a:=U k j (by lia) (by lia) c;have b:=h k j g l c;rw[o,p] at a;rw[ex,I] at b;unfold ar at a b;exact Eu (by lia) (by lia)
def Vq(lk:WN)(k:Nat)(c:Int×Int):(qt lk).set k (rW c)=((lk.map x6).set k c).map rW:=by rw[DM,<-vz]
def Vr(lk:WN)(k:Nat)(y:WZ):(qt lk).take k++gd y::(qt lk).drop k=qt (lk.take k++y::lk.drop k):=by unfold qt;rw[Av,AA,ET,List.map_drop]
def Vs(S:qN wd lk ct){x:WZ}(U:x∈lk){p:Nat}(j:p=x.1\/p=x.2){n:Str}(e:wd[p]?=some (some<|.lf t n)){k:Xd}(h:k≠some (.lf t n)):¬pJ (wd.set p k) (lk.map x6):=λz=>by
 obtain⟨lt,u,m,I,J⟩:=z.nat.1 x U;obtain⟨_,l,o,f1,f2⟩:=S.ZQ x U;have g:(wd.set p k)[p]?=some k:=Bl<|zf e;rcases j with rfl|rfl
 .rw[g] at I;rw[AY (by lia),f2] at J;rw[e] at f1;cases I;cases f1;have:t=u/\n=m:=by simpa using J
  exact h (by rw[this.1,this.2])
 .rw[g] at J;rw[AY (by lia),f1] at I;rw[e] at f2;cases I;cases f2;cases J;exact h rfl
def gr{xs:_x}(h:∀x∈xs,fA L n x x):Paired (fA L n) xs xs:=by induction xs with|nil=>exact .nil|cons x r I=>exact .cons (h x<|Ao ..)<|I λy J=>h y<|Ai _ J
def Vt(l:WN):Paired (fA L<|n+2) (qt l) (qt l):=gr λx I=>by obtain⟨m,_,rfl⟩:=A7.mp I;exact .inr<|.inl {_,_,rfl,rfl,.cons (.flat rfl)<|.cons (.flat rfl) .nil}
def gx{a b:Addr}{xs:_x}(I:L a=some (.lst xs))(J:L b=some (.lst xs))(p:Paired (fA L n) xs xs):fA L (n+1) (.ref a) (.ref b):=.inr<|.inr {(a),b,xs,xs,rfl,rfl,I,J,p}
structure XZ(K:Af)(C n1 n2 n3 n4 n5 n6 n7 n8 n9 o:Addr):Prop where
 hd:x_ K C
 em:PySem.W.exmOne K (.ref C) (.ref C)=some true
 ot:PySem.W.kitAny K (.ref C) [.ref n1,.ref n2,.ref n3,.ref n4,.ref n5,.ref n6,.ref n7,.ref n8,.ref n9]=some false
 on:PySem.W.kitOne K (.ref C) (.ref o)=some true
 ve:PySem.W.kitOne K (.ref C) (.type "ValueError")=some true
def XZ.dn{K:Af}{I J U g j l p r t o:Addr}(T:K.lookup Pt=some (PySem.W.tabObj #[]))(x:XZ K C I J U g j l p r t o):XZ (GE Pt K) C I J U g j l p r t o:={Vi T x.hd,Vh T x.em,rD T x.ot,gB T x.on,gB T x.ve}
def Vu(K:Af)(I:Addr)(Cl:Addr)(J:Addr)(U:Addr)(Ch:Addr)(g:Addr)(j:Addr)(l:Addr)(o:Addr)(p:Addr)(r:Addr)(t:mL):bD:=(j8 (jt (yC<|.bl false)<|qo 1)
 (j8 (JL K I 2 (λE3=>vv<|eB t E3<|bH<|qc 0) (j8 (jt (JM K [(.ref Cl),(.ref J),(.ref U),(.ref Ch),(.ref g),(.ref j),(.ref l),(.ref o),(.ref p)]<|qc 2)<|qo 3)
 (jt (G' (wL K (.ref r)<|qc 2)<|G' (wL K (.type "ValueError")<|qc 2)<|IM<|qc 3)<|qo 1)))
 (cL<|qc 1)))
def Vv(I:vt)(p1:vt)(p2:vt)(p3:vt)(p4:vt)(p5:mL)(p6:vt)(p7:vt):bD:=(j8 (jt (zx ai (jq I<|cH (qc 0)<|v9 0)<|zx Jd (v9 10)<|v9 9)<|qo 1)
 (j8 (jt (jq p1<|qh (qc 0)<|qh (qc 1)<|cH (v9 100)<|v9 100)<|qo 2)
 (j8 (u7 (fM<|bH<|v9 2) (qo 3) (j8 (jt (jq p2<|qh (zx ku (zx ai (jq I<|cH (qc 0)<|qc 3)<|zx Jd (v9 10)<|v9 9)<|qc 1)<|qh (zx ku (v9 31)<|qc 3)<|bH<|v9 40692)<|qo 4)
 (j8 (jt (jq p3<|qh (qc 2)<|qh (jq p2<|qh (qc 1)<|qh (zx ku (v9 23)<|qc 3)<|bH<|v9 16807)<|qh (jq p2<|qh (qc 1)<|qh (zx ku (v9 27)<|qc 3)<|bH<|v9 69621)<|bH<|qc 4)<|qo 5)
 (j8 (jt (jq p4<|bH<|qc 2)<|qo 6)
 (j8 (ww (ED (fE (gH (zx ai (zx ym (qc 4)<|v9 4)<|v9 2)<|v9 0)<|yB<|zx (Gs true) (eB p5 Hs<|bH<|qc 6)<|yC<|.bl true)<|Fi (qc 6)<|qc 2) (cL<|yC<|.bl false) cT)
 (j8 (jt (jq p4<|bH<|qc 5)<|qo 6)
 (j8 (ww (ED (FO<|yB<|jq p7<|bH<|qc 6)<|FO<|yB<|jq p6<|cH (qc 6)<|qc 5) (cL<|yC<|.bl false) cT)
 (ww (ED (yB<|zx (Gs true) (eB p5 Hs<|qh (jq p4<|bH<|qc 2) zn)<|yC<|.bl true)<|FO<|yB<|jq p7<|qh (jq p4<|bH<|qc 5) zn) (cL<|yC<|.bl false) cT))))))))
 (cL<|yC<|.bl true))))
def zI(d:Int)(n:Nat)(h:0<n):∃w:Nat,d % (n:Int)=(w:Int)/\w<n:=by have h1:=DJ d (show(n:Int)≠0 by lia);have h2:=DY d (show(0:Int)<n by lia);exact{(d % n).toNat,by lia,by lia}
theorem KW.leaf :∀{w:Wd} {p:Nat},KW (jz wd) p w->∃(q:Nat) (t:Bool) (n:Str),wd[q]?=some (some<|.lf t n)
 |.leaf t n,p,h=>{(p),t,n,h.SB}
 |.node e l r,p,h=>by obtain⟨i,j,_,I,_⟩:=h.P3;exact I.leaf
def qN.ne(S:qN wd lk ct){x:Nat}{k:Kn}(e:wd[x]?=some (some k)):lk≠[]:=λz=>by obtain⟨w,hw,_⟩:=S.Xz.word x k e;obtain⟨q,h⟩:=hw.leaf;have:=(S.Z2 q).mpr h;rw[z] at this;cases this
def Fo:Xd->Da
 |none=>.s<|eX .GM
 |some k=>Kg k
theorem sw{L:qm}:∀l:List (Xd),Paired (jj L 1) (jz l)<|l.map Fo
 |[]=>.nil
 |none::r=>.cons (.inl {(rfl),rfl})<|sw r
 |some k::r=>.cons (UI k)<|sw r
def Vw(k:Xd):Da.eq (Fo k) (Fo k)=true:=by
 cases k with
 |none=>rfl
 |some k=>
  cases k with
  |lf t n=>exact fg<|.leaf t n
  |nd e i j=>
   show(iD (.str<|kN e) (.str<|kN e)&&(iD (.int i) (.int i)&&(iD (.int j) (.int j)&&true)))=true;rw[cA rfl,cA rfl,cA rfl];rfl
theorem Ko:∀l:List (Xd),Da.eqs (l.map Fo) (l.map Fo)=true
 |[]=>rfl
 |x::r=>by rw[AA,Da.eqs,Vw,Ko r];rfl
def HK(wd:List<|Xd)(lk ct:WN):Da:=.tup [.lst<|wd.map Fo,.lst<|lk.map fC,.lst<|ct.map fC]
def Kp{a l c:Addr}(h1:L a=some (.lst<|jz wd))(h2:L l=some (.lst<|qt lk))(h3:L c=some (.lst<|qt ct)):jj L 3 (eI a l c) (HK wd lk ct):=wo<|.cons (wy h1<|sw wd)<|.cons (wy h2<|we lk)<|.cons (wy h3<|we ct) .nil
def Vx(wd:List<|Xd)(lk ct:WN):Da.eq (HK wd lk ct) (HK wd lk ct)=true:=by show(Da.eqs _ _&&(Da.eqs _ _&&(Da.eqs _ _&&true)))=true;rw[Ko,rU,rU];rfl
def Vy(l:List<|Int×Int):Paired (fA L<|n+2) (l.map rW) (l.map rW):=gr λx I=>by obtain⟨m,_,rfl⟩:=A7.mp I;exact .inr<|.inl {_,_,rfl,rfl,.cons (.flat rfl)<|.cons (.flat rfl) .nil}
def Vz{b:Bool}{A B:Prop}(h:B->A)(k:B):aC b A B:=UG (h k) k
theorem KW.uniq :∀{u v:Wd} {p:Nat},KW (jz wd) p u->KW (jz wd) p v->u=v
 |.leaf t n,.leaf o C,p,h,k=>by have a:=h.SB;rw[k.SB] at a;cases a;rfl
 |.leaf t n,.node e l r,p,h,k=>by have a:=h.SB;obtain⟨i,j,b,_⟩:=k.P3;rw[b] at a;cases a
 |.node e l r,.leaf t n,p,h,k=>by have a:=k.SB;obtain⟨i,j,b,_⟩:=h.P3;rw[b] at a;cases a
 |.node e l r,.node T l' r',p,h,k=>by obtain⟨i,j,a,I,J⟩:=h.P3;obtain⟨i',j',b,U,g⟩:=k.P3;rw[b] at a;cases a;rw[I.uniq U,J.uniq g]
def Gu(x y:Y)(L:qm)(Q:YK):Prop:=match x,y with
 |.tup xs,.tup ys=>xs≠[]/\xs.length+ys.length<=1000/\Q (.tup<|xs++ys) L
 |_,_=>False
def VA :w6 X (binaryOp .Add) (gS X.g3 Gu):=FI OX λx y H Q x3 y3 L Q3 C T g z k=>by
 unfold Gu at z;split at z
 .rename_i j ys;obtain⟨n,l,z⟩:=z;obtain⟨a,I,rfl,o,J⟩:=C;obtain⟨b,r,rfl,s2,t⟩:=T;have l1:=J.length;have l2:=t.length;refine{a,b,I,r,rfl,rfl,o,s2,λe=>n ?_,cZ (by lia),λe=>?_,λ_ p U=>?_}
  .subst e;exact Bv l1
  .subst e;have:=Bv l2;subst this;rw[AI] at z;exact k _ H _ L (EW _) g (show RV X.g3 H (.tup j) (.ref a) from{(a),I,rfl,o,J}) z
  .exact k _ _ _ L (EX U) (g.skip U) (show RV X.g3 (upd H p<|.tup<|I++r) (.tup<|j++ys) (.ref p) from{p,_,rfl,dZ.of zu,(J.app t).ts<|EX U}) z
 .exact z.elim
inductive Kz where
 |lf (t:Bool) (n:Str)|nd (e:Bool) (i j:Int)
abbrev Xf:=Option Kz
def HL:Xf->Y
 |none=>.GM
 |some (.lf t n)=>.tup [.str<|kL t,.str n]
 |some (.nd e i j)=>.tup [.str<|kN e,.int i,.int j]
abbrev tO(zs:List<|Xf):_x:=zs.map HL
def wr:Xf->WV
 |some (.nd _ i j)=>[i,j]
 |_=>[]
def gJ:Xd->Xf
 |none=>none
 |some (.lf t n)=>some<|.lf t n
 |some (.nd e i j)=>some<|.nd e (i:Int) (j:Int)
def VB(k:Xd):HL (gJ k)=jF k:=by cases k with|none=>rfl|some k=>cases k<;>rfl
def t_(wd:List<|Xd):jz wd=tO (wd.map gJ):=by unfold tO;rw[BC];exact List.map_congr_left λk _=>(VB k).symm
def qW(k:Xd):wr (gJ k)=(xm k).map λn:Nat=>(n:Int):=by cases k with|none=>rfl|some k=>cases k<;>rfl
def aP(zs:List<|Xf):WV:=zs.flatMap wr
def nM(zs:List<|Xf)(k:Xf):aP (zs++[k])=aP zs++wr k:=by unfold aP;rw[AO,Be,C5,AI]
def nX(wd:List<|Xd):aP (wd.map gJ)=(je wd).map λn:Nat=>(n:Int):=by
 induction wd with
 |nil=>rfl
 |cons k r I=>
  show wr (gJ k)++aP (r.map gJ)=_;rw[I,qW,<-Av];rfl
def hV(k:Xf):(wr k).length<=2:=by cases k with|none=>exact A5 _|some k=>cases k with|lf t n=>exact A5 _|nd e i j=>exact Am _
def qG(zs:List<|Xf):(aP zs).length<=2*zs.length:=by
 induction zs with
 |nil=>exact Am _
 |cons k r I=>
  have e:aP (k::r)=wr k++aP r:=Be ..;have:=hV k;rw[e,Ad,AK];lia
inductive dD(ys:_x)(L:qm)(Q:YK):Prop
 |mk:∀k:Xf,(ys=[HL k])->(∀p,L p=none->Q (.ref p) (qj L p<|.lst<|(wr k).map Y.int))->dD ys L Q
def VC:_f dD (oH aJ).1 1:=by
 rintro ys L Q ⟨k,rfl,q⟩;cases k with
 |none=>exactλp I=>vd<|q p I
 |some k=>
  cases k with|lf t n=>exact{true,t,_,rfl,λp I=>vd<|q p I}|nd e i j=>exact{false,e,_,rfl,λp I=>vd<|q p I}
theorem tQ{ns:WV}:∀i,i<=ns.length->(PyProof.Rows.firstMet (λi=>ns.getD i 0) i).length=i->PyProof.Rows.firstMet (λi=>ns.getD i 0) i=ns.take i/\(ns.take i).Nodup
 |0,_,_=>{(rfl),BY}
 |i+1,J,h=>by
  have e:=Ag J;have U:ns.getD i 0=ns[i]:=by rw[Bm,e];rfl
  have le:=PyProof.Rows.firstMet_length_le (λi=>ns.getD i 0) i;rw[Eb,U] at h ⊢;unfold PyProof.Rows.step_dedup at h ⊢;split at h
  .lia
  .rename_i c;rw[Ad] at h;obtain⟨a,b⟩:=tQ (ns:=ns) i (Nat.le_of_succ_le J)<|Nat.succ.inj h;rw[a] at c;have c:ns[i]∉ns.take i:=by simpa using c
   rw[AB (by rw[a];simpa using c),a,Bi,e];refine{rfl,Au.mpr {b,by simp,λx g y I z=>c ?_}};have I:y=ns[i]:=by simpa using I
   rw[<-I,<-z];exact g
def VD(ns:WV):decide ((sT ns:Int)=(ns.length:Int))=decide ns.Nodup:=by refine DB.mpr {λh=>?_,λh=>by rw[Vb h]};have:=(tQ ns.length (Am _)<|Bp.mp h).2;rwa[Bg] at this
inductive bZ(ys:_x)(L:qm)(Q:YK):Prop
 |mk:∀a,∀l:WV,(ys=[.ref a])->(L a=some (.lst<|l.map Y.int))->(l.length<=1000)->(Q (.bl<|decide l.Nodup) L)->bZ ys L Q
def VE:_f bZ ln.1 1:=by rintro ys L Q ⟨a,l,rfl,I,J,q⟩;refine qk I {_,rfl,by lia,qa I ?_};show a6 Q (.bl<|nb false<|decide<|(sT l:Int)=((l.map Y.int).length:Int)) L;rw[Ac,VD];exact vd q
def j_:Xf->Bool
 |none=>false
 |some _=>true
def yn(zs:List<|Xf)(p:Nat):Int->Bool
 |.ofNat m=>decide (m<p)&&j_ (zs[m]?.getD none)
 |.negSucc _=>false
def mI(zs:List<|Xf)(p:Nat):Bool:=((wr<|zs[p]?.getD none).map<|yn zs p).all id&&decide (wr<|zs[p]?.getD none).Nodup
inductive i3(ys:_x)(L:qm)(Q:YK):Prop
 |mk:∀a,∀zs:List (Xf),∀p:Nat,∀pi:Int,(ys=[.ref a,.int pi])->(pi=(p:Int))->(L a=some (.lst<|tO zs))->(p<zs.length)->(Q (.bl<|mI zs p) L)->i3 ys L Q
def VF:_f i3 (lC dD bZ).1 4:=by
 rintro ys L Q ⟨a,I,p,pi,rfl,rfl,r,hp,q⟩;have U:=Ag hp;have t:mI I p=(((wr I[p]).map<|yn I p).all id&&decide (wr I[p]).Nodup):=by unfold mI;rw[U];rfl
 rw[t] at q;clear t;generalize I[p]=k at U q;refine qa r<|qg (jw U) {k,rfl,λp1 h1=>?_};refine G7 h1 λC g g1=>?_;have pl:=hV k;refine xg g1 λkeep kp=>bx (λi J=>J=(((wr k).take i).map<|yn I p).map Y.bl) (by rw[Ac];exact Bs pl (by decide)) (kp _ rfl) rfl ?_ ?_
 .rintro i y J T rfl;rw[Al] at T;obtain⟨A,em,rfl⟩:=Aq.mp T;have z:∀b,b=yn I p A->gW (λJ L'=>L'=C/\J=(((wr k).take<|i+1).map<|yn I p).map Y.bl) ((((wr k).take i).map<|yn I p).map Y.bl++[.bl b]) C:=λb e=>{_,EV _,rfl,by rw[Bi,em,Av,Av,e];rfl};cases A with
  |negSucc n=>exact z false rfl
  |ofNat m=>
   refine eM (b:=decide<|(m:Int)<(p:Int)) (λh=>?_) λh=>?_
   .have h:=CO.mp<|of_decide_eq_true h;have h3:I[m]?=some I[m]:=Ag (by lia);refine qa (g _ _ r)<|qg (jw h3) ?_;have e:yn I p (.ofNat m)=j_ I[m]:=by show(decide (m<p)&&j_ (I[m]?.getD none))=_;rw[h3,AD h];rfl
    generalize I[m]=j at e ⊢;cases j with|none=>exact z _ e.symm|some j=>cases j<;>exact z _ e.symm
   .refine z false ?_;have:¬m<p:=λc=>of_decide_eq_false h<|CO.mpr c;show _=(decide (m<p)&&_);rw[Aw this];rfl
 rintro J rfl p2 h2;rw[Ac,Bg];have l:=By (o:=.lst<|((wr k).map<|yn I p).map Y.bl) h2;refine{rfl,qa q9<|qg (fk _) ?_};cases hb:((wr k).map<|yn I p).all id with
 |false=>
  rw[hb] at q;exact dX (g.trans l) q
 |true=>
  rw[hb] at q;exact{p1,wr k,rfl,l _ _ g1,by lia,dX (g.trans l) q}
def o9(zs:List<|Xf):Bool:=((List.range zs.length).map<|mI zs).all id&&(zs.map j_).any id
inductive i7(ys:_x)(L:qm)(Q:YK):Prop
 |mk:∀a,∀zs:List (Xf),(ys=[.ref a])->(L a=some (.lst<|tO zs))->(zs.length<=1000)->(Q (.bl<|o9 zs) L)->i7 ys L Q
def VG:_f i7 (lA i3).1 2:=by
 rintro ys L Q ⟨a,I,rfl,j,hz,q⟩;have big:=a_;have U:(tO I).length=I.length:=Ac ..;refine qa j {{AQ _,by rw[U];lia},?_};rw[U,BL];refine hU (λi J=>J=((List.range i).map<|mI I).map Y.bl) (big _ (by lia)) rfl ?_ ?_
 .rintro i J t rfl;exact{a,I,i,_,rfl,Cy _,j,t,_,EV _,rfl,by rw[EM,Av,Av];rfl}
 rintro J rfl C h1;have g:=By (o:=.lst<|((List.range I.length).map<|mI I).map Y.bl) h1;refine{rfl,qa q9<|qg (fk _) ?_};unfold o9 at q;generalize qj L C (.lst<|((List.range I.length).map<|mI I).map Y.bl)=l at g ⊢;cases p:((List.range I.length).map<|mI I).all id with
 |false=>
  rw[p] at q;exact dX g q
 |true=>
  rw[p,Bool.true_and] at q;refine xg (g _ _ j) λkeep T=>bx (λi J=>J=((I.take i).map j_).map Y.bl) (by rw[U];exact big _ (by lia)) (T _ rfl) rfl ?_ ?_
  .rintro i y J r rfl;rw[Al] at r;obtain⟨k,ek,rfl⟩:=Aq.mp r;have z:gW (λJ L'=>L'=l/\J=((I.take<|i+1).map j_).map Y.bl) (((I.take i).map j_).map Y.bl++[.bl<|j_ k]) l:={_,EV _,rfl,by rw[Bi,ek,Av,Av];rfl};cases k with
   |none=>exact z
   |some k=>cases k<;>exact z
  rintro J rfl p2 h2;rw[U,Bg];have s2:=By (o:=.lst<|(I.map j_).map Y.bl) h2;exact{rfl,qa q9<|qg (fk _)<|dX (g.trans s2) q}
inductive bw(ys:_x)(L:qm)(Q:YK):Prop
 |mk:∀a,∀zs:List (Xf),(ys=[.ref a])->(L a=some (.lst<|tO zs))->(zs.length<=1000)->(∀p,L p=none->Q (.ref p) (qj L p<|.lst<|(aP zs).map Y.int))->bw ys L Q
def VH:_f bw (nW dD).1 3:=by
 rintro ys L Q ⟨a,J,rfl,l,hz,q⟩;have big:=a_;intro p r;have t:qi L (qj L p<|.lst []):=By r;refine xg (t _ _ l) λkeep kp=>aV {λi U I=>∃j,U=[some<|Y.ref a,some<|Y.ref p,j]/\qi L I/\I p=some (.lst<|(aP<|J.take i).map Y.int),{_,rfl,t,q9},?_,?_,?_}
 .rintro i U I ⟨j,rfl,s,_⟩;exact kp I (by rw[s _ _ l,t _ _ l])
 .rintro i y U I C ⟨j,rfl,s,g⟩;rw[Al] at C;obtain⟨k,ek,rfl⟩:=Aq.mp C;have et:J.take (i+1)=J.take i++[k]:=by rw[Bi,ek];rfl
  have pl:=qG<|J.take i;have pk:=hV k;rw[AV] at pl;refine qa g {k,rfl,λd hd=>?_};have n1:=w9 g hd;refine qk ((qf n1).trans g)<|qk q9 {?_,?_}
  .rw[Ac,Ac];exact Bk<|big _ (by lia)
  .refine{_,EV _,_,rfl,(s.trans<|By hd).upd r,?_};rw[q9,et,nM,Av]
 .rintro U I ⟨j,rfl,s,g⟩;rw[Ac,Bg] at g;refine{qj L p<|.lst<|(aP J).map Y.int,λb o e=>?_,q p r};by_cases T:b=p
  .subst T;rw[q9] at e;rw[<-e];exact g
  .rw[qf T] at e;exact s _ _ e
variable {zs:List<|Option Kz}
def Cb(wd:List<|Xd)(P:Int):Prop:=∃p:Nat,P=(p:Int)/\(∃k,wd[p]?=some (some k))/\p∉je wd
inductive iS(ys:_x)(L:qm)(Q:YK):Prop
 |mk:∀a,∀wd:List (Xd),∀P:Int,(ys=[.ref a,.int P])->(L a=some (.lst<|jz wd))->(wd.length<=1000)->(∀b:Bool,(b=true↔Cb wd P)->Q (.bl b) L)->iS ys L Q
def VI:_f iS (i4 bw).1 2:=by
 rintro ys L Q ⟨a,I,P,rfl,j,o,q⟩;cases P with
 |negSucc n=>exact vd<|q false (ah λ ψ=>by obtain⟨p,e,_⟩:=ψ;cases e)
 |ofNat p=>
  refine qa j<|eM (b:=decide<|(p:Int)<((jz I).length:Int)) (λh=>?_) λh=>vd<|q false<|ah λ⟨r,e,⟨k,J⟩,_⟩=>?_
  .rw[jo] at h;have t:=CO.mp<|of_decide_eq_true h;have J:=Ag t;generalize I[p]=k at J;refine qa j<|qg (jw J) ?_;cases k with
   |none=>exact vd (q false (ah λ ψ=>by obtain⟨r,e,⟨k,U⟩,_⟩:=ψ;cases Bp.mp e;rw[J] at U;cases U))
   |some k=>
    have key:∀g,L g=none->a6 Q (.bl<|nb true<|tN (eX<|.int (p:Int))<|(nY<|je I).map eX) (qj L g<|.lst<|nY<|je I):=λg h1=>by
     refine dX (By h1)<|q _ ?_;rw[ie];refine{λh=>{p,rfl,{(k),J},λc=>?_},λ⟨r,e,_,h⟩=>?_}
     .rw[AD c] at h;cases h
     .cases Bp.mp e;rw[Aw h];rfl
    have e:(aP<|I.map gJ).map Y.int=nY (je I):=by rw[nX,<-cU]
    have C:bw [.ref a] L λy l=>gl l y λys=>e9 (.int (p:Int))=true/\ys.all e9=true/\a6 Q (.bl<|nb true<|tN (eX<|.int (p:Int))<|ys.map eX) l:=
     ⟨a,I.map gJ,rfl,by rw[<-t_];exact j,by rw[Ac];exact o,λg h1=>by rw[e];exact qa q9 {rfl,iK _,key g h1}⟩
    cases k<;>exact C
  .cases Bp.mp e;exact of_decide_eq_false h (by rw[jo];exact CO.mpr<|zf J)
def pV(wd:List<|Xd):Prop:=∀x k,wd[x]?=some (some k)->∃w,KW (jz wd) x w/\w.depth<=120
def HM(wd:List<|Xd)(c:WZ):Prop:=(∃w,KW (jz wd) c.1 w/\KW (jz wd) c.2 w.turn)/\c.1∉je wd/\c.2∉je wd
def aQ(wd:List<|Xd)(c:Int×Int):Prop:=∃d,c=x6 d/\HM wd d
def aQ.cb{c:Int×Int}(h:aQ wd c):Cb wd c.1/\Cb wd c.2:=by obtain⟨d,rfl,⟨w,h1,h2⟩,I,J⟩:=h;exact{{(d.1),rfl,h1.ex,I},{(d.2),rfl,h2.ex,J}}
inductive eL(ys:_x)(L:qm)(Q:YK):Prop
 |mk:∀a,∀wd:List (Xd),∀c:Int×Int,(ys=[.ref a,.int c.1,.int c.2])->(L a=some (.lst<|jz wd))->(wd.length<=1000)->(pV wd)->(∀b:Bool,(b=true↔aQ wd c)->Q (.bl b) L)->eL ys L Q
def wT:_f eL (uE iS (x4 120)<|a9 120).1 3:=by
 rintro ys L Q ⟨a,I,⟨t,C⟩,rfl,J,l,W,q⟩;refine{a,I,t,rfl,J,l,λb1 h1=>?_};cases b1 with
 |false=>exact vd (q false (ah λz=>by have:=h1.mpr z.cb.1;cases this))
 |true=>
  refine{a,I,C,rfl,J,l,λb2 h2=>?_};cases b2 with
  |false=>exact vd (q false (ah λz=>by have:=h2.mpr z.cb.2;cases this))
  |true=>
   obtain⟨p,rfl,⟨k,T⟩,n1⟩:=h1.mp rfl;obtain⟨r,rfl,⟨k',U⟩,n2⟩:=h2.mp rfl;obtain⟨u,g,o⟩:=W p k T;obtain⟨v,j,dv⟩:=W r k' U;refine{a,jz I,r,v,rfl,J,j,dv,?_};refine{a,jz I,p,u,rfl,J,g,o,{u,rfl,o,?_}};refine iI (u:=v) (v:=u.turn) (by lia) ?_;show a6 Q (.bl<|Da.eq _ _) L;refine vd (q _ {λe=>{(p,r),rfl,{u,g,by rw[<-Ke _ _ e];exact j},n1,n2},λ⟨d,e,⟨w,g1,g2⟩,_⟩=>?_});cases gE (p:=(p,r)) e;rw[j.uniq g2,g.uniq g1,fg]
theorem uM{P:WZ->Prop}:∀{cs:List<|Int×Int},(∀c∈cs,∃d,c=x6 d/\P d)->∃ct:WO,cs=ct.map x6/\∀c∈ct,P c
 |[],_=>{[],rfl,nofun}
 |c::r,h=>by obtain⟨d,rfl,hd⟩:=h c (by simp);obtain⟨lk,rfl,J⟩:=uM (cs:=r) λx I=>h x<|Ai _ I;exact{d::lk,rfl,λx I=>by rcases As.mp I with rfl|I;exact hd;exact J x I}
def aE(wd:List<|Xd)(cs:List<|Int×Int):Prop:=∃ct:WO,cs=ct.map x6/\(∀c∈ct,HM wd c)/\(zh ct).Nodup/\ct.Pairwise ar
def aE.all(h:aE wd cs):∀c∈cs,aQ wd c:=by obtain⟨J,rfl,h,_⟩:=h;intro c I;obtain⟨d,hd,rfl⟩:=A7.mp I;exact{d,rfl,h d hd}
def aE.nat(h:aE wd<|ct.map x6):(∀c∈ct,HM wd c)/\(zh ct).Nodup/\ct.Pairwise ar:=by obtain⟨I,e,h⟩:=h;cases gM e;exact h
inductive bv(ys:_x)(L:qm)(Q:YK):Prop
 |mk:∀a c,∀wd:List (Xd),∀cs:List (Int×Int),(ys=[.ref a,.ref c])->(L a=some (.lst<|jz wd))->(L c=some (.lst<|cs.map rW))->(wd.length<=1000)->(cs.length<=63)->(pV wd)->(∀b:Bool,(b=true↔aE wd cs)->Q (.bl b) L)->bv ys L Q
def xX:_f bv (nV eL bZ im).1 3:=by
 rintro ys L Q ⟨a,c,t,cs,rfl,ha,U,z1,z2,W,q⟩;have big:=a_;refine xg U λkeep kp=>bx (λi p=>∃bs:List Bool,p=bs.map Y.bl/\(bs.all id=true↔∀c∈cs.take i,aQ t c)) (by rw[Ac];exact big _ (by lia)) (kp _ rfl) {[],rfl,λ_=>nofun,λ_=>rfl} ?_ ?_
 .rintro i y p C ⟨bs,rfl,g⟩;rw[Al] at C;obtain⟨x,ex,rfl⟩:=Aq.mp C;refine{a,t,x,rfl,ha,z1,W,λb eb=>{_,EV _,rfl,bs++[b],by rw[Av];rfl,?_}};rw[List.all_append,AM,g,Bi,ex];constructor
  .rintro⟨h1,h2⟩ u I;rcases Ak.mp I with I|I
   .exact h1 u I
   .rw[Ap.mp I];rw[CA,AM] at h2;exact eb.mp h2.1
  .intro h;refine{λu I=>h u<|An _ I,?_};rw[CA,AM];exact{eb.mpr<|h x<|Ah _ Ao,rfl}
 rintro p ⟨bs,rfl,g⟩ p1 h1;rw[Ac,Bg] at g;have j:=By (o:=.lst<|bs.map Y.bl) h1;refine{rfl,qa q9<|qg (fk _) ?_};generalize qj L p1 (.lst<|bs.map Y.bl)=L1 at j ⊢;refine eM (b:=bs.all id) (λe=>?_) λe=>dX j (q false (ah λh=>by rw[g.mpr h.all] at e;cases e));obtain⟨J,rfl,T⟩:=uM<|g.mp e;rw[<-vz] at U;rw[Ac] at z2;have pl:=vq J;refine{c,J,rfl,j _ _ U,by lia,λp3 h3=>?_};have l:=j.trans<|By (o:=.lst<|nY<|zh J) h3;refine{p3,(zh J).map λn:Nat=>(n:Int),rfl,by rw[q9,cU],by rw[Ac];lia,?_};refine zm (λe=>?_) λe=>dX l<|q false<|ah λh=>e<|hG h.nat.2.1;have nd:(zh J).Nodup:=by have:=e;unfold List.Nodup at this ⊢;rw[BP] at this;exact this.imp λh c=>h<|Br _ c
 show aI [.ref c] _ λy L'=>b_ false (.ref c) y L'<|a6 Q;refine lT (l _ _ U) (λx hx=>by obtain⟨⟨w,_,h⟩,_⟩:=T x hx;obtain⟨k,e⟩:=h.ex;have:=zf e;lia) (xl nd) (by lia) λD' qs r pq wq=>?_;have s6:=By (o:=.lst<|qt qs) r;refine kq (n:=1) (m:=1) (by decide) (s6 _ _<|l _ _ U) q9 (we J) (we qs) ?_;show a6 Q (.bl<|Da.eqs _ _) _;rw[oq];refine dX (l.trans s6)<|q _ ?_;rw[decide_eq_true_eq];constructor
 .rintro rfl;exact{(J),rfl,T,nd,wq}
 .intro h;exact qV pq.symm h.nat.2.2 wq
def Zf(zs:List<|Xf)(lk:WN)(cs:List<|Int×Int):Prop:=o9 zs=true/\(aP zs).Nodup/\∃wd,zs=wd.map gJ/\pJ wd (lk.map x6)/\aE wd cs
def VJ{j k:Xd}(h:gJ j=gJ k):j=k:=by
 cases j with
 |none=>cases k with|none=>rfl|some k=>cases k<;>cases h
 |some j=>
  cases k with
  |none=>cases j<;>cases h
  |some k=>
   cases j with
   |lf t n=>cases k with
    |lf u m=>injection h with h;injection h with a b;rw[a,b]
    |nd e i j=>injection h with h;cases h
   |nd e i j=>cases k with
    |lf u m=>injection h with h;cases h
    |nd I J U=>injection h with h;injection h with a b c;rw[a,Bp.mp b,Bp.mp c]
def Zf.nat(h:Zf (wd.map gJ) lk cs):pJ wd (lk.map x6)/\aE wd cs:=by obtain⟨_,_,I,e,h⟩:=h;cases (Ec λ_ _=>VJ).mp e;exact h
def qN._l(S:qN wd lk ct){x:Nat}{k:Kn}(ex:wd[x]?=some (some k)):Zf (wd.map gJ) lk (ct.map x6):=by
 refine{?_,by rw[nX];exact hG S.pu.nodup,wd,rfl,S.Z1,ct,rfl,λc g=>?_,S.ZM,S.Z8}
 .unfold o9;rw[AM];refine{Cm.mpr λb I=>?_,List.any_eq_true.mpr {true,A7.mpr {_,A7.mpr {_,Ax ex,rfl},by cases k<;>rfl},rfl}};obtain⟨p,J,rfl⟩:=A7.mp I;have J:=AX.mp J;rw[Ac] at J;have U:=Ag J;generalize wd[p]=l at U;have e:(wd.map gJ)[p]?.getD none=gJ l:=by rw[Al,U];rfl
  have j:ZG wd:={(S.Xz.ok),S.Xz.there,S.pu};show mI (wd.map gJ) p=true;unfold mI;rw[e,qW,AD<|hG<|j.nd U,Bool.and_true];refine Cm.mpr λb I=>?_;rw[BC] at I;obtain⟨m,o,rfl⟩:=A7.mp I;obtain⟨h1,r,h2⟩:=j.at_ U o;show(decide (m<p)&&j_ ((wd.map gJ)[m]?.getD none))=true;rw[AD h1,Al,h2];cases r<;>rfl
 .obtain⟨w,h1,h2,_⟩:=S.Xz.cut c g;obtain⟨t,C⟩:=ke g;exact{{(w),h1,h2},S.Zc _ t,S.Zc _ C}
inductive dR(C:Addr)(ys:_x)(L:qm)(Q:YK)(E:Addr->qm->Prop):Prop
 |mk:∀a l c,∀zs:List (Xf),∀lk:WO,∀cs:List (Int×Int),(ys=[eI a l c])->(L a=some (.lst<|tO zs))->(L l=some (.lst<|qt lk))->(L c=some (.lst<|cs.map rW))->(zs.length<=450)->(lk.length<=63)->(cs.length<=63)->((o9 zs=true->(aP zs).Nodup->∃wd,zs=wd.map gJ/\pV wd))->((Zf zs lk cs->Q (.bl true) L))->((¬Zf zs lk cs->E C L))->dR C ys L Q E
def VL :∀ys L Q E,dR C ys L Q E->xq (vS (ES E) (aw C) i7 bZ bw aq bv) 2 ys L Q:=by rintro ys L Q E ⟨a,l,c,U,lk,cs,rfl,g,t,hc,z1,z2,z3,hw,yes,no⟩;have pl:=qG U;refine{a,U,rfl,g,by lia,{_,_,rfl,λe=>?_,λe=>{L,EV _,no λh=>by rw[h.1] at e;cases e}}};refine{a,U,rfl,g,by lia,λp1 h1=>?_};have I:=By (o:=.lst<|(aP U).map Y.int) h1;refine{p1,aP U,rfl,q9,by lia,{_,_,rfl,λp=>?_,λp=>{L,I,no λh=>of_decide_eq_false p h.2.1}}};obtain⟨r,rfl,W⟩:=hw e<|of_decide_eq_true p;rw[<-t_] at g;rw[vz] at t;rw[Ac] at z1;refine{a,l,r,_,rfl,I _ _ g,I _ _ t,by lia,by rw[Ac];exact z2,λb T=>{_,_,rfl,λeb=>?_,λeb=>{L,I,no λh=>by have:=T.mpr h.nat.1;rw[eb] at this;cases this}}};refine{a,c,r,cs,rfl,I _ _ g,I _ _ hc,by lia,z3,W,λb' j=>{_,_,rfl,λJ=>dX I<|yes {e,of_decide_eq_true p,r,rfl,T.mp eb,j.mp J},λJ=>{L,I,no λh=>by have:=j.mpr h.nat.2;rw[J] at this;cases this}}}
def jS(I:vt):bD:=(j8 (jt (jq I<|bH<|qc 0)<|cW 3<|jb (qo 4)<|jb (qo 5)<|jb (qo 6) bL)
 (j8 (vR 8<|jt (c_ 1 (fM<|bH<|gA 4) (qo 14) (fE (yB<|iB true<|zx aK (qc 4)<|qc 14)<|gH (mJ ph<|qh (zx aK (qc 4)<|qc 14) zn)<|v9 3)<|qc 14)<|qo 7)
 (j8 (ww (gH (qc 7)<|au zn) (cL<|ju<|qh (zx ku (qc 4)<|au<|qh (ju<|qh (rN "both")<|qh (zx aK (eh 5 0)<|v9 0)<|qh (zx aK (eh 5 0)<|v9 0) zn) zn)<|cH (qc 5)<|qc 6) cT)
 (j8 (jt (zx aK (qc 7)<|zx ai (qc 2)<|gA 7)<|qo 8)
 (j8 (jt (zx aK (qc 4)<|qc 8)<|cW 3<|jb (qo 9)<|jb (qo 10)<|jb (qo 11) bL)
 (j8 (jt (gA 4)<|qo 12)
 (j8 (jt (au<|qh (ju<|qh (qc 9)<|cH (qc 8)<|qc 11)<|qh (ju<|qh (qc 9)<|qh (zx cf (qc 10)<|qc 12)<|bH<|qc 11)<|qh (ju<|qh (qc 9)<|qh (qc 10)<|qh (zx ku (qc 12)<|qc 3) zn)<|qh (ju<|qh (qc 9)<|cH (qc 11)<|qc 11)<|qh (ju<|qh (qc 9)<|qh (qc 10)<|qh (zx cf (qc 11)<|qc 12) zn) zn)<|qo 13)
 (j8 (jt (zx ku (zx ku (qc 13)<|au<|qh (ju<|qh (qc 9)<|qh (zx cf (qc 12)<|v9 1)<|bH<|qc 11) zn)<|EF Gj (c_ 1 (fM<|bH<|qc 8) (qo 14) (yB<|iB false<|zx aK (qc 4)<|qc 14)<|ju<|qh (qc 9)<|cH (qc 10)<|qc 14) gQ<|qX<|v9 1)<|qo 13)
 (gh (ww (gH (qc 1)<|v9 7) (vv<|iC x9 (qc 4)<|qh (ju<|qh (rN "either")<|cH (qc 10)<|qc 8) zn)<|dU (qc 4) (qc 8)<|zx aK (qc 13)<|zx ai (qc 1)<|gA 13)
 (cL<|ju<|qh (qc 4)<|cH (qc 5)<|qc 6))))))))))
def VM:bD:=(j8 (jt (zx aK (qc 7)<|zx ai (qc 2)<|gA 7)<|qo 8)
 (j8 (jt (zx aK (qc 4)<|qc 8)<|cW 3<|jb (qo 9)<|jb (qo 10)<|jb (qo 11) bL)
 (j8 (jt (gA 4)<|qo 12)
 (j8 (jt (au<|qh (ju<|qh (qc 9)<|cH (qc 8)<|qc 11)<|qh (ju<|qh (qc 9)<|qh (zx cf (qc 10)<|qc 12)<|bH<|qc 11)<|qh (ju<|qh (qc 9)<|qh (qc 10)<|qh (zx ku (qc 12)<|qc 3) zn)<|qh (ju<|qh (qc 9)<|cH (qc 11)<|qc 11)<|qh (ju<|qh (qc 9)<|qh (qc 10)<|qh (zx cf (qc 11)<|qc 12) zn) zn)<|qo 13)
 (j8 (jt (zx ku (zx ku (qc 13)<|au<|qh (ju<|qh (qc 9)<|qh (zx cf (qc 12)<|v9 1)<|bH<|qc 11) zn)<|EF Gj (c_ 1 (fM<|bH<|qc 8) (qo 14) (yB<|iB false<|zx aK (qc 4)<|qc 14)<|ju<|qh (qc 9)<|cH (qc 10)<|qc 14) gQ<|qX<|v9 1)<|qo 13)
 (gh (ww (gH (qc 1)<|v9 7) (vv<|iC x9 (qc 4)<|qh (ju<|qh (rN "either")<|cH (qc 10)<|qc 8) zn)<|dU (qc 4) (qc 8)<|zx aK (qc 13)<|zx ai (qc 1)<|gA 13)
 (cL<|ju<|qh (qc 4)<|cH (qc 5)<|qc 6)))))))
def VN:bD:=(gh (ww (gH (qc 1)<|v9 7) (vv<|iC x9 (qc 4)<|qh (ju<|qh (rN "either")<|cH (qc 10)<|qc 8) zn)<|dU (qc 4) (qc 8)<|zx aK (qc 13)<|zx ai (qc 1)<|gA 13)
 (cL<|ju<|qh (qc 4)<|cH (qc 5)<|qc 6))
def dN(L:qm)(Q:YK):Prop:=∀a' l' c' zs lk cs L',qi L L'->L' a'=some (.lst<|tO zs)->L' l'=some (.lst<|qt lk)->L' c'=some (.lst<|cs.map rW)->zs.length<=450->lk.length<=63->cs.length<=63->(o9 zs=true->(aP zs).Nodup->∃wd,zs=wd.map gJ/\pV wd)->¬Zf zs lk cs->Q (eI a' l' c') L'
def zG{r:Nat}{A:Int}(h:A<0):yn zs r A=false:=by cases A with|ofNat m=>exact absurd h (by simp)|negSucc m=>rfl
def Kq{r:Nat}{A:Int}(h:(r:Int)<=A):yn zs r A=false:=by
 cases A with
 |ofNat m=>
  show(decide (m<r)&&_)=false;have h:(r:Int)<=(m:Int):=h;rw[Aw (by omega)];rfl
 |negSucc m=>rfl
def FX(wd:List<|Xd)(r:Nat)(A B:Int):Prop:=A<0\/(r:Int)<=A\/B<0\/(r:Int)<=B\/A=B\/∃x:Nat,B=(x:Int)/\x<r/\wd[x]?=some none
def zT{r:Nat}{e:Bool}{A B:Int}(hz:zs[r]?=some (some<|.nd e A B))(hw:∀x,x<r->zs[x]?=(wd.map gJ)[x]?)(h:FX wd r A B):o9 zs=false:=by
 have I:=zf hz;have f:mI zs r=false:=by
  unfold mI;rw[hz];show((yn zs r A&&(yn zs r B&&true))&&decide [A,B].Nodup)=false;rcases h with h|h|h|h|h|⟨x,rfl,h1,h2⟩
  .rw[zG h];rfl
  .rw[Kq h];rfl
  .rw[zG (A:=B) h,DN,BW];rfl
  .rw[Kq (A:=B) h,DN,BW];rfl
  .subst h;rw[Aw (by simp),BW]
  .have:yn zs r (x:Int)=false:=by show(decide (x<r)&&j_ (zs[x]?.getD none))=false;rw[hw x h1,Al,h2,Bool.and_eq_false_iff];exact .inr rfl
   rw[this,DN,BW];rfl
 unfold o9;rw[Bool.and_eq_false_iff];refine .inl<|List.all_eq_false.mpr {false,A7.mpr {r,AX.mpr I,f},by decide}
def dN.bad{Q:YK}(q:dN L Q)(s:qi L L')(h1:L' a'=some (.lst<|tO zs))(h2:L' l'=some (.lst<|qt lk))(h3:L' c'=some (.lst<|qt ct))(I:zs.length<=450)(J:lk.length<=63)(U:ct.length<=63)(h:o9 zs=true->¬(aP zs).Nodup):Q (eI a' l' c') L':=
 q a' l' c' zs lk (ct.map x6) L' s h1 h2 (by rw[<-vz];exact h3) I J (by rw[Ac];exact U) (λx y=>(h x y).elim) λz=>h z.1 z.2.1
def zX{m:Nat}{z:Int}(hz:z=(m:Int))(h:m<wd.length):(wd[m]?=some none/\fG (jz wd) z=some .GM)\/(∃t n,wd[m]?=some (some<|.lf t n)/\fG (jz wd) z=some (.tup [.str<|kL t,.str n]))\/∃e i j,wd[m]?=some (some<|.nd e i j)/\fG (jz wd) z=some (.tup [.str<|kN e,.int ((i:Nat):Int),.int ((j:Nat):Int)]):=by
 subst hz;have I:=Ag h;generalize wd[m]=k at I;have J:=jw (f:=jF) I;cases k with
 |none=>exact .inl {(I),J}
 |some k=>
  cases k with|lf t n=>exact .inr (.inl {(t),n,I,J})|nd e i j=>exact .inr<|.inr {(e),i,j,I,J}
def gn(e:Bool)(p:Int×Int):Y:=.tup [.str<|kN e,.int p.1,.int p.2]
def VO{p4:Addr}{J U:Xb}{w r:Nat}{e:Bool}{ps:List<|Int×Int}(S:qN wd lk ct)(g:wd[r]?=some (some<|.nd e i j))(s:qi L Lc)(na:L a'=none)(l:a'≠l')(o:a'≠c')(k1:Lc a'=some (.lst<|jz wd))(k2:Lc l'=some (.lst<|qt lk))(k3:Lc c'=some (.lst<|qt ct))
 (t:Lc p4=some (.lst<|ps.map<|gn e)) (ne:0<ps.length) (hb:∀p∈ps,FX wd r p.1 p.2) (q:dN L En.rt):
 VN En [c0,some<|.int (w:Int),J,U,some<|.ref a',some<|.ref l',some<|.ref c',c7,some<|.int (r:Int),some<|.str<|kN e,some<|.int (i:Int),c11,c12,some<|.ref p4] Lc:=by
 have big:=a_;have z1:=S.Xz.len;have z2:=S.ll;have z3:=S.Xz.Zx;have C:=zf g;refine{λI T=>I=[c0,some<|.int (w:Int),J,U,some<|.ref a',some<|.ref l',some<|.ref c',c7,some<|.int (r:Int),some<|.str<|kN e,some<|.int (i:Int),c11,c12,some<|.ref p4]/\En.rt (eI a' l' c') T,?_,?_}
 .refine zm (λ_=>?_) λ_=>?_
  .refine qk k1 (qk k1 {by rw[jo];exact big _ (by lia),rfl,?_});refine q.bad (zs:=wd.map gJ++[some<|.nd true (i:Int) (r:Int)]) (lk:=lk) (ct:=ct) (s.upd na) (by rw[q9,t_];simp only[tO,Av];rfl) ((qf<|AG l).trans k2) ((qf<|AG o).trans k3) (by rw[Ad,Ac];show _+1<=_;lia) (by lia) (by lia) λ_ z=>?_;rw[nM,nX] at z;exact(Au.mp z).2.2 (i:Int) (A7.mpr {i,Bh.mpr {_,Ax g,Ao},rfl}) (i:Int) Ao rfl
  .obtain⟨m,x,em,hm,ex⟩:=bz ne (w:Int);have pl:(ps.map<|gn e).length=ps.length:=Ac ..;refine qa t (mO (by rw[pl];omega) (by rw[pl];exact em)<|qa t<|qg (jw ex) ?_);refine qk k1 (qg (show rg (jz wd).length (r:Int)=some r by rw[jo];exact sQ C) {rfl,?_});have ez:(jz wd).set r (gn e x)=tO ((wd.map gJ).set r<|some<|.nd e x.1 x.2):=by rw[t_,tO,tO,DM];rfl
   refine q.bad (zs:=(wd.map gJ).set r<|some<|.nd e x.1 x.2) (lk:=lk) (ct:=ct) (s.upd na) (by rw[q9,ez]) ((qf<|AG l).trans k2) ((qf<|AG o).trans k3) (by rw[Bq,Ac];lia) (by lia) (by lia) λz=>?_;rw[zT (Bl (by rw[Ac];exact C)) (λy hy=>AY (by omega))<|hb x<|Ax ex] at z;cases z
 .rintro I T ⟨rfl,h⟩;exact h
def VP{p:Addr}{a2:Xb}{w r:Nat}{one two:Int}{e:Bool}{os:WR}(S:qN wd lk ct)(ht:0<=two)(hr:wd[r]?=some (some<|.nd e i j))(s:qi L Lc)(na:L a'=none)(n1:a'≠l')(n2:a'≠c')(k1:Lc a'=some (.lst<|jz wd))(k2:Lc l'=some (.lst<|qt lk))(k3:Lc c'=some (.lst<|qt ct))
 (g3:Lc p=some (.lst<|nY os)) (nz:0<os.length) (er:fG (nY os) (one % ((nY os).length:Int))=some (.int ((r:Nat):Int))) (q:dN L En.rt):
 VM En [c0,some<|.int (w:Int),some<|.int one,some<|.int two,some<|.ref a',some<|.ref l',some<|.ref c',some<|.ref p,c8,c9,c10,c11,c12,a2] Lc:=by
 have big:=a_;have z1:=S.Xz.len;obtain⟨r1,r2⟩:=S.Xz.ok r e i j hr;have hl:=zf hr;refine qa g3 {by rw[fv];exact CO.mpr nz,qa g3<|qg er ?_};refine qa k1<|qg (jw hr) ?_;refine qa k1 ?_;rw[jo];generalize U:[((r:Int),(j:Int)),((i:Int)-(wd.length:Int),(j:Int)),((i:Int),(wd.length:Int)+two),((j:Int),(j:Int)),((i:Int),(j:Int)-(wd.length:Int))]=ps;have b1:∀p∈ps,FX wd r p.1 p.2:=by
  subst U;intro p J;simp only[As,Bc,or_false] at J;unfold FX;rcases J with rfl|rfl|rfl|rfl|rfl
  .exact .inr<|.inl<|CV _
  .exact .inl (by show(i:Int)-_<0;omega)
  .exact .inr (.inr (.inr (.inl (by show _<=(wd.length:Int)+two;omega))))
  .exact .inr<|.inr<|.inr<|.inr<|.inl rfl
  .exact .inr (.inr (.inl (by show(j:Int)-_<0;omega)))
 have l5:ps.length=5:=by subst U;rfl
 intro p4 a3;have s4:=By (o:=.lst<|ps.map<|gn e) a3;have g4:qj Lc p4 (.lst<|ps.map<|gn e) p4=some (.lst<|ps.map<|gn e):=q9;rw[show [Y.tup [.str<|kN e,.int (r:Int),.int (j:Int)],.tup [.str<|kN e,.int<|(i:Int)-(wd.length:Int),.int (j:Int)],.tup [.str<|kN e,.int (i:Int),.int<|(wd.length:Int)+two],.tup [.str<|kN e,.int (j:Int),.int (j:Int)],.tup [.str<|kN e,.int (i:Int),.int<|(j:Int)-(wd.length:Int)]]=ps.map (gn e) by subst U;rfl];generalize qj Lc p4 (.lst<|ps.map<|gn e)=L4 at s4 g4 ⊢;intro p5 l;show ku (.ref p4) (.ref p5) (qj L4 p5<|.lst [gn e ((wd.length:Int)-1,(j:Int))]) _;have s5:=s4.trans<|By (o:=.lst [gn e ((wd.length:Int)-1,(j:Int))]) l;refine{_,_,By l _ _ g4,q9,by rw[Ac,l5];exact Bk (big _ (by show 6<=20000;decide)),λp6 C=>?_};generalize qj L4 p5 (.lst [gn e ((wd.length:Int)-1,(j:Int))])=L5 at s5 C ⊢;have s6:=s5.trans<|By (o:=.lst<|ps.map (gn e)++[gn e ((wd.length:Int)-1,(j:Int))]) C;have g6:qj L5 p6 (.lst<|ps.map (gn e)++[gn e ((wd.length:Int)-1,(j:Int))]) p6=some (.lst<|(ps++[((wd.length:Int)-1,(j:Int))]).map<|gn e):=by rw[q9,Av];rfl
 generalize qj L5 p6 (.lst<|ps.map (gn e)++[gn e ((wd.length:Int)-1,(j:Int))])=L6 at s6 g6 ⊢;have b2:∀p∈ps++[((wd.length:Int)-1,(j:Int))],FX wd r p.1 p.2:=λp J=>by
  rcases Ak.mp J with J|J
  .exact b1 p J
  .rw[Ap.mp J];exact .inr (.inl (by show(r:Int)<=(wd.length:Int)-1;omega))
 have l6:(ps++[((wd.length:Int)-1,(j:Int))]).length=6:=by rw[Ad,l5];rfl
 refine{{AQ _,by lia},?_};rw[BL];have h6:=s6 _ _ k1;refine hU (λm T=>∃I:WR,T=I.map (λx:Nat=>gn e ((i:Int),(x:Int)))/\∀x∈I,x<r/\wd[x]?=some none) (big _ (by lia)) {[],rfl,nofun} ?_ ?_
 .rintro m T hm ⟨I,rfl,hx⟩;have no:gW (λT L'=>L'=L6/\∃I:WR,T=I.map (λx:Nat=>gn e ((i:Int),(x:Int)))/\∀x∈I,x<r/\wd[x]?=some none) (I.map (λx:Nat=>gn e ((i:Int),(x:Int)))) L6:={_,EV _,rfl,I,rfl,hx};rcases zX (Cy (m:Int)) (C1 hm hl) with⟨hq,ay⟩|⟨t,n,_,ay⟩|⟨e',i',j',_,ay⟩
  .refine qa h6 (qg ay {_,EV _,rfl,I++[m],by rw[Av,Cy];rfl,λy hy=>?_});rcases Ak.mp hy with hy|hy
   .exact hx y hy
   .rw[Ap.mp hy];exact{(hm),hq}
  .exact qa h6<|qg ay no
  .exact qa h6<|qg ay no
 rintro T ⟨I,rfl,hx⟩ p7 a1;have s7:=s6.trans<|By (o:=.lst<|I.map (λx:Nat=>gn e ((i:Int),(x:Int)))) a1;have g7:=By (o:=.lst<|I.map (λx:Nat=>gn e ((i:Int),(x:Int)))) a1 _ _ g6;refine qk q9 λp8 g=>?_;show ku (.ref p6) (.ref p8) (qj (qj L6 p7<|.lst<|I.map (λx:Nat=>gn e ((i:Int),(x:Int)))) p8<|.lst<|iy (I.map (λx:Nat=>gn e ((i:Int),(x:Int)))) none<|some ((1:Nat):Int)) _;have ec:iy (I.map (λx:Nat=>gn e ((i:Int),(x:Int)))) none (some ((1:Nat):Int))=((I.take 1).map λx:Nat=>((i:Int),(x:Int))).map (gn e):=by rw[Ji,<-ET,BC];rfl
 rw[ec];generalize qj L6 p7 (.lst<|I.map (λx:Nat=>gn e ((i:Int),(x:Int))))=L7 at s7 g7 g ⊢;have xt:(I.take 1).length<=1:=by rw[AV];exact Nat.min_le_left ..
 have s8:=s7.trans<|By (o:=.lst<|((I.take 1).map λx:Nat=>((i:Int),(x:Int))).map<|gn e) g;refine{_,_,By g _ _ g7,q9,by rw[Ac,l6,Ac,Ac];exact Bk<|big _ (by omega),λp9 a4=>?_};have s9:=s8.trans<|By (o:=.lst<|(ps++[((wd.length:Int)-1,(j:Int))]).map (gn e)++((I.take 1).map λx:Nat=>((i:Int),(x:Int))).map (gn e)) a4;refine VO (ps:=(ps++[((wd.length:Int)-1,(j:Int))])++(I.take 1).map λx:Nat=>((i:Int),(x:Int))) S hr (s.trans s9) na n1 n2 (s9 _ _ k1) (s9 _ _ k2) (s9 _ _ k3) (by rw[q9,Av (l₂:=(I.take 1).map _)]) (by rw[Ad,l6];omega) (λp J=>?_) q;rcases Ak.mp J with J|J
 .exact b2 p J
 .obtain⟨x,mx,rfl⟩:=A7.mp J;obtain⟨x1,x2⟩:=hx x<|BB mx;exact .inr<|.inr<|.inr<|.inr<|.inr {(x),rfl,x1,x2}
inductive mR(ys:_x)(L:qm)(Q:YK):Prop
 |mk:∀a l c,∀wd:List (Xd),∀lk ct:WO,∀w:Nat,∀wi one two:Int,(ys=[eI a l c,.int wi,.int one,.int two])->(wi=(w:Int))->(0<=two)->(L a=some (.lst<|jz wd))->(L l=some (.lst<|qt lk))->(L c=some (.lst<|qt ct))->(qN wd lk ct)->(lk≠[])->(dN L Q)->mR ys L Q
def VQ:_f mR (jS eO) 14:=by
 rintro ys L Q ⟨a,l,c,U,lk,ct,w,wi,one,two,rfl,rfl,ht,ha,hl,hc,S,ne,q⟩;have big:=a_;have z1:=S.Xz.len;have z2:=S.ll;have z3:=S.Xz.Zx;have q':dN L (a6 Q):=λa' l' c' zs lk cs L' t1 t2 t3 t4 t5 t6 t7 t8 t9=>vd<|q a' l' c' zs lk cs L' t1 t2 t3 t4 t5 t6 t7 t8 t9;refine{a,l,c,_,_,_,rfl,ha,hl,hc,λa' l' c' L1 s1 na nl nc n1 n2 n3 h1 h2 h3=>?_};refine qa h1 {{AQ _,by rw[jo];lia},?_};rw[jo,BL];refine hU (λi g=>∃os:WR,g=nY os/\os.length<=i/\∀y∈os,∃e i j,U[y]?=some (some<|.nd e i j)) (big _ (by lia)) {[],rfl,Am _,nofun} ?_ ?_
 .rintro i g hi ⟨os,rfl,lo,ho⟩;have no:gW (λg L'=>L'=L1/\∃os:WR,g=nY os/\os.length<=i+1/\∀y∈os,∃e i j,U[y]?=some (some<|.nd e i j)) (nY os) L1:={_,EV _,rfl,os,rfl,B7 lo,ho};rcases zX (Cy (i:Int)) hi with⟨_,I⟩|⟨t,n,_,I⟩|⟨e,i',j',hq,I⟩
  .exact qa h1<|qg I no
  .exact qa h1<|qg I<|qa h1<|qg I no
  .refine qa h1 (qg I (qa h1 (qg I {_,EV _,rfl,os++[i],by rw[cg,Cy];rfl,by rw[Ad];exact C2 lo,λy J=>?_})));rcases Ak.mp J with J|J
   .exact ho y J
   .rw[Ap.mp J];exact{_,_,_,hq}
 rintro g ⟨os,rfl,lo,ho⟩ p hp;have s2:=By (o:=.lst<|nY os) hp;have g2:qj L1 p (.lst<|nY os) p=some (.lst<|(os.map λn:Nat=>(n:Int)).map Y.int):=by rw[q9,cU]
 generalize qj L1 p (.lst<|nY os)=L2 at s2 g2 ⊢;intro p2 C;have T:=s2.trans<|By (o:=.lst []) C;have g3:=By (o:=.lst []) C _ _ g2;refine kq (n:=0) (m:=0) (by decide) g3 q9 (dO _) .nil ?_;generalize qj L2 p2 (.lst [])=Lc at T g3 ⊢;have s:=s1.trans T;have k1:=T _ _ h1;have k2:=T _ _ h2;have k3:=T _ _ h3;cases os with
 |nil=>
  obtain⟨x,lr,rfl⟩:∃x lr,lk=x::lr:=by cases lk with|nil=>exact(ne rfl).elim|cons x lr=>exact{(x),lr,rfl}
  have a0:fG (qt<|x::lr) 0=some (gd x):=xi (j:=0) rfl;refine qa k2<|qg a0<|qa k2<|qg a0 λp3 a1=>?_;have s4:=By (o:=.lst [Y.tup [.str "both",.int (x.1:Int),.int (x.1:Int)]]) a1;refine{_,_,s4 _ _ k1,q9,by rw[jo];exact Bk (big _ (by show _+1<=_;lia)),λp4 a2=>?_};have s5:=s4.trans<|By (o:=.lst<|jz U++[Y.tup [.str "both",.int (x.1:Int),.int (x.1:Int)]]) a2;have ez:(U.map gJ++[some<|.nd false (x.1:Int) (x.1:Int)])[U.length]?=some (some<|.nd false (x.1:Int) (x.1:Int)):=by rw[AF (by rw[Ac];exact Am _),Ac,Ds];rfl
  refine q'.bad (zs:=U.map gJ++[some<|.nd false (x.1:Int) (x.1:Int)]) (ct:=ct) (s.trans s5) (by rw[q9,t_];simp only[tO,Av];rfl) (s5 _ _ k2) (s5 _ _ k3) (by rw[Ad,Ac];show _+1<=_;lia) (by lia) (by lia) λz=>?_;rw[zT ez (λy J=>Az (by rw[Ac];exact J))<|.inr<|.inr<|.inr<|.inr<|.inl rfl] at z;cases z
 |cons o os=>
  generalize eo:o::os=os at *;have nz:0<os.length:=by rw[<-eo];exact BA _
  have g3:Lc p=some (.lst<|nY os):=by rw[cU];exact g3
  obtain⟨r,mr,er⟩:∃r,r∈os/\fG (nY os) (one % ((nY os).length:Int))=some (.int ((r:Nat):Int)):=jC nz one;obtain⟨e,i,j,hr⟩:=ho r mr;subst eo;exact VP S ht hr s na n1 n2 k1 k2 k3 g3 nz er q'
def iu:RD "_law_parts" i9 0 ["_law_knots","_law_parts_here","_law_knot"] (λ_=>True):={_,λV B c _ _ _ _ _ _ _ J hN I=>(qb (S_ 1 hN<|zj xn)<|qb (aU ya rfl (xx<|qv 0) (G_ 2 hN)<|qe<|zo (xo<|vf (m8<|qv 2)<|jx<|E_ I (L_ B.ba<|qv 2) qd) (qe<|qz<|bR (qv 1)<|jm<|zj<|vj (J_ 2)<|J_ 2) zg)<|qe<|qu<|qv 1)}
def aE.no{c:Int×Int}(hc:c∈cs)(h:¬aQ wd c):¬aE wd cs:=λz=>h<|z.all c hc
def aQ.ZD{c:Int×Int}(h:¬Cb wd c.1):¬aQ wd c:=λz=>h z.cb.1
def aQ._m{c:Int×Int}(h:¬Cb wd c.2):¬aQ wd c:=λz=>h z.cb.2
abbrev FJ:=@aQ._m
def Cb.neg{P:Int}(h:P<0):¬Cb wd P:=λ ψ=>by obtain⟨p,e,_⟩:=ψ;omega
def Cb.big{P:Int}(h:(wd.length:Int)<=P):¬Cb wd P:=λ ψ=>by obtain⟨p,e,⟨k,I⟩,_⟩:=ψ;have:=zf I;omega
def Cb.part{p:Nat}(h:p∈je wd):¬Cb wd (p:Int):=λ ψ=>by obtain⟨r,e,_,n⟩:=ψ;cases Bp.mp e;exact n h
abbrev FH:=@Cb.part
def Cb.gone{p:Nat}(h:wd[p]?=some none):¬Cb wd (p:Int):=λ ψ=>by obtain⟨r,e,⟨k,I⟩,_⟩:=ψ;cases Bp.mp e;rw[h] at I;cases I
theorem sG:∀w:Wd,w.turn≠w
 |.leaf t n,h=>by
  injection h with h
  cases t<;>cases h
 |.node e l r,h=>by
  injection h with h
  cases e<;>cases h
def aQ.self{P:Int}:¬aQ wd (P,P):=λ ψ=>by obtain⟨d,e,⟨w,h1,h2⟩,_⟩:=ψ;have I:=Br Prod.fst e;have J:=Br Prod.snd e;have:=Bp.mp<|I.symm.trans J;rw[this] at h1;exact sG w<|h2.uniq h1
def aE.twice(h:¬(zh ct).Nodup):¬aE wd (ct.map x6):=λz=>h z.nat.2.1
theorem KW.set{wd:List<|Xd}{a:Nat}{k:Xd}(I:a∉je wd):∀{w:Wd} {p:Nat},p≠a->KW (jz wd) p w->KW (jz<|wd.set a k) p w
 |.leaf t n,p,J,h=>KW.lf (by rw[AY<|AG J];exact h.SB)
 |.node e l r,p,J,h=>by obtain⟨i,j,U,h1,h2⟩:=h.P3;have g:i∈je wd:=Bh.mpr {_,Ax U,Ao};have o:j∈je wd:=Bh.mpr {_,Ax U,Ai _ Ao};exact KW.nd (by rw[AY<|AG J];exact U) (KW.set I (λc=>I<|c▸g) h1)<|KW.set I (λc=>I<|c▸o) h2
theorem pV.set{a:Nat}{k:Kn}{w:Wd}(W:pV wd)(I:a∉je wd)(hw:KW (jz<|wd.set a<|some k) a w)(hd:w.depth<=120):pV (wd.set a<|some k):=λx J e=>by
 by_cases c:x=a
 .subst c;exact{(w),hw,hd}
 .rw[AY<|AG c] at e;obtain⟨u,h1,h2⟩:=W x J e;exact{u,h1.set I c,h2}
def aE.other(S:qN wd lk ct){x:WZ}(J:x∈ct){k:Kn}{u w:Wd}(h1:KW (jz wd) x.1 u)(h2:KW (jz wd) x.2 u.turn)(hw:KW (jz<|wd.set x.1<|some k) x.1 w)(ne:w≠u):¬aE (wd.set x.1<|some k) (ct.map x6):=λz=>by
 obtain⟨⟨v,g1,g2⟩,_⟩:=z.nat.1 x J;obtain⟨U,l⟩:=ke J;have I:x.2≠x.1:=λc=>by rw[c] at h2;exact sG u<|h2.uniq h1
 have g:=g1.uniq hw;have j:=g2.uniq<|h2.set (k:=some k) (S.Zc _ U) I;apply ne;rw[<-g,<-fu v,j,fu]
def dN.Yx{Q:YK}(q:dN L Q)(S:qN wd lk ct)(s:qi L L')(h1:L' a'=some (.lst<|jz wd))(h2:L' l'=some (.lst<|qt lk))(h3:L' c'=some (.lst<|cs.map rW))(z:cs.length<=63)(no:¬aE wd cs):Q (eI a' l' c') L':=
 q a' l' c' (wd.map gJ) lk cs L' s (by rw[<-t_];exact h1) h2 h3 (by rw[Ac];have:=S.Xz.len;lia) (by have:=S.ll;lia) z (λ_ _=>{(wd),rfl,S.Xz.word}) λh=>no h.nat.2
def VR(h:(jz wd)[i]?=some y):(wd[i]?=some none/\y=.GM)\/(∃t n,wd[i]?=some (some<|.lf t n)/\y=.tup [.str<|kL t,.str n])\/∃e a b,wd[i]?=some (some<|.nd e a b)/\y=.tup [.str<|kN e,.int ((a:Nat):Int),.int ((b:Nat):Int)]:=by
 rw[Al] at h;obtain⟨k,I,rfl⟩:=Aq.mp h;cases k with
 |none=>exact .inl {(I),rfl}
 |some k=>
  cases k with|lf t n=>exact .inr (.inl {(t),n,I,rfl})|nd e a b=>exact .inr<|.inr {(e),a,b,I,rfl}
inductive gK(ys:_x)(L:qm)(Q:YK):Prop
 |mk:∀a,∀wd:List (Xd),(ys=[.ref a])->(L a=some (.lst<|jz wd))->(wd.length<=1000)->(∀p L',qi L L'->L' p=some (.lst<|nY<|je wd)->Q (.ref p) L')->gK ys L Q
def VS:_f gK iu.1 3:=by
 rintro ys L Q ⟨a,J,rfl,l,hz,q⟩;have big:=a_;intro p r;have o:qi L (qj L p<|.lst []):=By r;refine xg (o _ _ l) λkeep T=>aV {λi U I=>∃j,U=[some<|Y.ref a,some<|Y.ref p,j]/\qi L I/\I p=some (.lst<|nY<|je<|J.take i),{_,rfl,o,q9},?_,?_,?_}
 .rintro i U I ⟨j,rfl,s,_⟩;exact T I (by rw[s _ _ l,o _ _ l])
 .rintro i y U I hy ⟨j,rfl,s,g⟩;have C:∀k,J[i]?=some k->je (J.take<|i+1)=je (J.take i)++xm k:=λk e=>by rw[Bi,e,Option.toList_some,yE]
  have pl:=UX<|J.take i;rw[AV] at pl;have no:∀k,J[i]?=some k->xm k=[]->∀c,gW (λU I=>∃j,U=[some<|Y.ref a,some<|Y.ref p,j]/\qi L I/\I p=some (.lst<|nY<|je<|J.take<|i+1)) [some<|Y.ref a,some<|Y.ref p,c] I:=λk e h c=>{_,EV _,_,rfl,s,by rw[C k e,h,AI];exact g};rcases VR hy with⟨e,rfl⟩|⟨t,n,e,rfl⟩|⟨b,i',j',e,rfl⟩
  .exact no _ e rfl _
  .exact no _ e rfl _
  .refine qk g λd hd=>?_;have n1:=w9 g hd;refine qk ((qf n1).trans g)<|qk q9 {?_,?_}
   .rw[fv];exact Bk (big _ (by show _+2<=_;lia))
   .refine{_,EV _,_,rfl,(s.trans<|By hd).upd r,?_};rw[q9,C _ e,cg];rfl
 .rintro U I ⟨j,rfl,s,g⟩;rw[Ac,Bg] at g;exact vd<|q p I s g
def cN(I:vt)(J:vt)(U:vt):RD "_law_bad_cut_at" cY 121 ["_law_web_here","_law_way","_law_at","_law_two","_law_knots","_law_links","_law_cuts","_law_gone","_law_a","_law_b"] (λV=>Hq V I/\Jw V J/\Jx V U):={_,λV B c _ _ _ _ _ _ _ j hN g=>(qb (a8 (C_ c.1 j<|jm<|qv 0)<|kz (n:=3) rfl<|qw (bP (i:=4) hN rfl<|Or.inr rfl)<|qw (G_ 5 hN)<|qw (G_ 6 hN) v5)<|qb (aT ["_law_x"] (i:=7) hN rfl (Or.inl rfl) (EZ (by rfl)) rfl (ky rfl B.bh<|jm<|L_ B.ba<|qv 4) (o7 10) (λ_ _ _ _=>bJ<|gp<|I_ (qv 4)<|qv 10) λ_ _ _ _=>(qv 10))<|qb (a8 (I_ (qv 6)<|qv 2)<|kz (n:=2) rfl<|qw (G_ 8 hN)<|qw (G_ 9 hN) v5)<|vk (zo (E_ g (qv 1) qd) (qe<|qz<|Sk (qv 6)<|vj (qv 2)<|qr<|vj (qv 8)<|qv 9)<|qe<|zo (E_ g (qv 1) qd) (qe<|am (qv 6) (qv 2)<|qr<|vj (ql aB (qv 8)<|L_ B.ba<|qv 4)<|qv 9)<|qe<|zo (E_ g (qv 1) qd) (qe<|am (qv 6) (qv 2)<|qr<|vj (qv 8)<|ql aB (qv 9)<|L_ B.ba<|qv 4)<|qe<|zo (xo<|fJ (E_ g (qv 1) qd)<|bX<|xo<|vf (E_ g (qv 1) qd)<|jx<|E_ g (L_ B.ba<|qv 6) qd) (qe<|am (qv 6) (qv 2)<|qr<|vj (qv 8)<|qv 8)<|qe<|zo (E_ g (qv 1) qd) (qe<|a8 (qr<|vj (I_ (qv 6)<|ql aB (qv 2) qd)<|I_ (qv 6)<|qv 2)<|kz (n:=2) rfl<|qw (Kj (qv 6)<|qv 2)<|qw (Kj (qv 6)<|ql aB (qv 2) qd) v5)<|qe<|zo (xo<|vf (E_ g (qv 1) qd)<|jx<|E_ g (L_ B.ba<|I_ (qv 4)<|qv 8) qd) (qe<|am (qv 6) (qv 2)<|qr<|vj (I_ (I_ (qv 4)<|qv 8)<|ql jf qd<|ql zw (qv 3) qd)<|qv 9)<|qe<|zo (xo<|vf (E_ g (qv 1) qd)<|vf (E_ g (L_ B.ba<|I_ (qv 4)<|qv 8) qd)<|jx<|N_ g (C_ c.2.1 j<|vj (qv 4)<|I_ (I_ (qv 4)<|qv 8) qd)<|C_ c.2.1 j<|vj (qv 4)<|I_ (I_ (qv 4)<|qv 8) qd) (qe<|am (qv 4) (qv 8)<|qr<|aA (I_ (I_ (qv 4)<|qv 8) qd) (I_ (I_ (qv 4)<|qv 8) qd)<|I_ (I_ (qv 4)<|qv 8) qd)<|qe<|zo (E_ g (qv 1) qd) (qe<|am (qv 6) (qv 2)<|qr<|vj (qv 8)<|ql jf (L_ B.ba<|qv 4)<|qv 3)<|qe<|zo (xo<|vf (E_ g (qv 1) qd)<|jx<|N_ g (qv 7)<|zj xn) (qe<|am (qv 6) (qv 2)<|qr<|vj (qv 8)<|I_ (qv 7)<|ql zw (qv 3)<|L_ B.ba<|qv 7)<|qe<|zo (xo<|vf (js FR (qv 1) qd<|jv _)<|jx<|E_ g (L_ B.ba<|I_ (qv 4)<|qv 8) qd) (qe<|S_ 6 hN<|j5 ak rfl B.bg k8<|jm<|ql jf (qv 6)<|zj<|jm<|qr<|vj (I_ (I_ (qv 4)<|qv 8)<|ql jf qd<|ql zw (qv 3) qd)<|I_ (I_ (qv 4)<|qv 9)<|ql jf qd<|ql zw (qv 3) qd)<|qe<|zo (js jQ (qv 1) qd<|jv _) (qe<|S_ 6 hN<|j5 ak rfl B.bg k8<|jm<|ql jf (qv 6)<|zj<|jm<|qr<|vj (qv 9)<|qv 8)<|qe<|am (qv 4) (qv 8)<|ql VA (qr<|jm<|I_ (C_ c.2.2 j<|jm<|qr<|vj (I_ (I_ (qv 4)<|qv 8) qd) jd) qd)<|bu (J7 _ _ _) (I_ (qv 4)<|qv 8) (cO qd) gN)<|qe<|qu<|qr<|aA (qv 4) (qv 5)<|qv 6)}
def VT(I:vt)(p1:vt):bD:=(gh (ww (gH (qc 1)<|v9 0) (vv<|iC mS (qc 6)<|qh (qc 2)<|qh (Fj (qc 8)<|qc 9) zn)<|ww (gH (qc 1)<|v9 1) (dU (qc 6) (qc 2)<|ju<|qh (zx cf (qc 8)<|gA 4)<|bH<|qc 9)<|ww (gH (qc 1)<|v9 2) (dU (qc 6) (qc 2)<|ju<|qh (qc 8)<|qh (zx cf (qc 9)<|gA 4) zn)<|ww (ED (gH (qc 1)<|v9 3)<|fE (gH (qc 1)<|v9 4)<|gH (gA 6)<|v9 1) (dU (qc 6) (qc 2)<|Fj (qc 8)<|qc 8)<|ww (gH (qc 1)<|v9 4) (jt (ju<|qh (zx aK (qc 6)<|zx cf (qc 2)<|v9 1)<|qh (zx aK (qc 6)<|qc 2) zn)<|cW 2<|jb (HJ (qc 6)<|qc 2)<|jb (HJ (qc 6)<|zx cf (qc 2)<|v9 1) bL)<|ww (fE (gH (qc 1)<|v9 5)<|gH (mJ ph<|qh (zx aK (qc 4)<|qc 8) zn)<|v9 3) (dU (qc 6) (qc 2)<|ju<|qh (zx aK (zx aK (qc 4)<|qc 8)<|zx ku (v9 1)<|zx ai (qc 3)<|v9 2)<|bH<|qc 9)<|ww (fE (gH (qc 1)<|v9 6)<|fE (gH (mJ ph<|qh (zx aK (qc 4)<|qc 8) zn)<|v9 3)<|Fi (jq I<|qh (qc 4)<|qh (zx aK (zx aK (qc 4)<|qc 8)<|v9 1) zn)<|jq I<|qh (qc 4)<|qh (zx aK (zx aK (qc 4)<|qc 8)<|v9 2) zn) (dU (qc 4) (qc 8)<|ju<|qh (zx aK (zx aK (qc 4)<|qc 8)<|v9 0)<|qh (zx aK (zx aK (qc 4)<|qc 8)<|v9 2)<|qh (zx aK (zx aK (qc 4)<|qc 8)<|v9 1) zn)<|ww (gH (qc 1)<|v9 8) (dU (qc 6) (qc 2)<|ju<|qh (qc 8)<|qh (zx ku (gA 4)<|qc 3) zn)<|ww (fE (gH (qc 1)<|v9 9)<|Fi (qc 7)<|au zn) (dU (qc 6) (qc 2)<|ju<|qh (qc 8)<|qh (zx aK (qc 7)<|zx ai (qc 3)<|gA 7) zn)<|ww (fE (yB<|zx Je (qc 1)<|v9 9)<|gH (mJ ph<|qh (zx aK (qc 4)<|qc 8) zn)<|v9 3) (jt (mJ aI<|qh (zx ku (qc 6)<|au<|qh (ju<|qh (zx aK (zx aK (qc 4)<|qc 8)<|zx ku (v9 1)<|zx ai (qc 3)<|v9 2)<|qh (zx aK (zx aK (qc 4)<|qc 9)<|zx ku (v9 1)<|zx ai (qc 3)<|v9 2) zn) zn) zn)<|qo 6)<|ww (yB<|zx Gd (qc 1)<|v9 7) (jt (mJ aI<|qh (zx ku (qc 6)<|au<|qh (Fj (qc 9)<|qc 8) zn) zn)<|qo 6)<|dU (qc 4) (qc 8)<|zx Gu (ju<|qh (zx aK (jq p1<|qh (ju<|qh (zx aK (zx aK (qc 4)<|qc 8)<|v9 0)<|bH<|rN "") zn)<|v9 0) zn)<|EF HH (zx aK (qc 4)<|qc 8) (qX<|v9 1) gQ)
 (cL<|ju<|qh (qc 4)<|cH (qc 5)<|qc 6))
def kw(n:Nat):vt:=λys L Q=>fh n ys L Q\/∃e:Bool,0<n/\ys=[.tup [.str<|kN e,.str ""]]/\Q (.tup [.str<|kN<|!e,.str ""]) L
def VU:∀ys L Q,¬kw 0 ys L Q:=λys L Q h=>by
 rcases h with h|⟨e,h,_⟩
 .exact Tj ys L Q h
 .cases h
def X7(n:Nat)(ys:_x)(L:qm)(Q:YK)(h:kw n ys L Q):ys.length=1:=by rcases h with⟨_,e,_⟩|⟨_,_,e,_⟩<;>rw[e]<;>rfl
def VW(n:Nat):_f (kw (n+1)) (zZ<|kw n).1 2:=by
 rintro ys L Q (⟨J,rfl,hd,q⟩|⟨e,_,rfl,q⟩) p I
 .cases J with
  |leaf t nm=>exact aG q9<|qg (xU t)<|dX (By I) q
  |node e l r=>
   have U:max l.depth r.depth+1<=n+1:=hd;exact aG q9<|qg (nZ e)<|.inl {l,rfl,by lia,.inl {r,rfl,by lia,dX (By I) q}}
 .exact aG q9<|qg (nZ e)<|dX (By I) q
def aE.one{qs:WN}{c:WZ}(pm:qs.Perm<|ct++[c])(h:¬aQ wd (x6 c)):¬aE wd (qs.map x6):=aE.no (A7.mpr {c,pm.mem_iff.mpr<|Ah _ Ao,rfl}) h
def aE.two{qs:WN}{c:WZ}(pm:qs.Perm<|ct++[c])(h:c.1∈zh ct):¬aE wd (qs.map x6):=aE.twice λz=>by have z:=(xc pm).nodup_iff.mp z;rw[jy,aF] at z;exact(Au.mp z).2.2 c.1 h c.1 Ao rfl
def m9{p:Nat}{e:Bool}(h:wd[p]?=some (some<|.nd e i j)):i∈je wd/\j∈je wd:={Bh.mpr {_,Ax h,Ao},Bh.mpr {_,Ax h,Ai _ Ao}}
def Kr{M:qm}{p1:Addr}{c:WZ}{Q:YK}(S:qN wd lk ct)(k3:M c'=some (.lst<|qt ct))(U:M p1=none)(g:c∉ct)(p:c.2<1000)(q:∀D qs L',qi M L'->L' D=some (.lst<|qt qs)->qs.Perm (ct++[c])->qs.length<=63->Q (.ref D) L'):ku (.ref c') (.ref p1) (qj M p1<|.lst [gd c]) λz L'=>aI [z] L' Q:=by
 have r:=S.Xz.len;have t:=S.Xz.Zx;have J:=By (o:=.lst [gd c]) U;refine{_,_,J _ _ k3,q9,by rw[Ac];exact Bk<|Bs (show _+1<=20000 by lia) (by decide),λC h2=>?_};have j:=J.trans<|By (o:=.lst<|qt ct++[gd c]) h2;refine lT (ps:=ct++[c]) (by rw[q9];unfold qt;rw[Av];rfl) (λd hd=>?_) (Au.mpr {xl S.ZM,by simp,λd hd T I z=>?_}) (by rw[Ad];show _+1<=_;lia) λD qs l pm _=>?_
 .rcases Ak.mp hd with hd|hd
  .obtain⟨_,_,h,_⟩:=S.Xz.cut d hd;obtain⟨_,h⟩:=h.ex;have:=zf h;lia
  .rw[Ap.mp hd];lia
 .rw[Ap.mp I] at z;exact g<|z▸hd
 .exact q D qs _ (j.trans<|By l) q9 pm (by rw[pm.length_eq,Ad];show _+1<=_;lia)
def VX{p7:Addr}{two:Int}{w k:Nat}{x:WZ}{gs:WR}(S:qN wd lk ct)(hw:w<12)(ht:0<=two)(ex:ct[k]?=some x)(s:qi L Lc)(na:L a'=none)(nc:L c'=none)(n1:a'≠l')(n2:a'≠c')(n3:l'≠c')(k1:Lc a'=some (.lst<|jz wd))(k2:Lc l'=some (.lst<|qt lk))(k3:Lc c'=some (.lst<|qt ct))
 (k7:Lc p7=some (.lst<|nY gs)) (hg:∀y∈gs,wd[y]?=some none) (q:dN L En.rt):
 VT (x4 120) (kw 120) En [c0,some<|.int (w:Int),some<|.int (k:Int),some<|.int two,some<|.ref a',some<|.ref l',some<|.ref c',some<|.ref p7,some<|.int (x.1:Int),some<|.int (x.2:Int)] Lc:=by
 have z1:=S.Xz.len;have z2:=S.ll;have z3:=S.Xz.Zx;have hk:=zf ex;have mx:=Ax ex;obtain⟨u,h1,h2,du⟩:=S.Xz.cut x mx;obtain⟨m1,m2⟩:=ke mx;have p:=S.Zc _ m1;have pl:(qt ct).length=ct.length:=Ac ..;obtain⟨kn,e1⟩:=h1.ex;obtain⟨bc,e2⟩:=h2.ex;have l1:=zf e1;have l2:=zf e2;have U:fG (jz wd) (x.1:Int)=some (jF<|some kn):=jw e1;have ix:rg (qt ct).length (k:Int)=some k:=by rw[pl];exact sQ hk
 have ac:rg (jz wd).length (x.1:Int)=some x.1:=by rw[jo];exact sQ l1
 generalize eT:(λD=>[c0,some<|.int (w:Int),some<|.int (k:Int),some<|.int two,some<|.ref a',some<|.ref l',some<|.ref D,some<|.ref p7,some<|.int (x.1:Int),some<|.int (x.2:Int)]:Addr->ji)=T;generalize eJ:(λay L'=>∃D,ay=T D/\En.rt (eI a' l' D) L':ji->qm->Prop)=J;have put:∀M,qi Lc M->∀cs:List (Int×Int),cs.length<=63->¬aE wd cs->∀ys,ys=cs.map rW->J (T c') (qj M c'<|.lst ys):=λM C cs hz no ys e=>by subst e;subst eJ;exact{c',rfl,q.Yx S ((s.trans C).upd nc) ((qf n2).trans<|C _ _ k1) ((qf n3).trans<|C _ _ k2) q9 hz no}
 have I:∀M,qi Lc M->∀c,¬aQ wd c->J (T c') (qj M c'<|.lst<|(qt ct).set k<|rW c):=λM C c h=>put M C _ (by rw[Bq,Ac];lia) (aE.no (List.mem_set (by rw[Ac];exact hk) c) h) _<|Vq ct k c;have a4:∀M,qi Lc M->∀a3 v,KW (jz<|wd.set x.1<|some a3) x.1 v->v.depth<=120->¬(pJ (wd.set x.1<|some a3) (lk.map x6)/\aE (wd.set x.1<|some a3) (ct.map x6))->J (T c') (qj M a'<|.lst<|(jz wd).set x.1<|jF<|some a3):=λM C a3 v hv dv no=>by subst eJ;exact{c',rfl,q a' l' c' ((wd.set x.1<|some a3).map gJ) lk (ct.map x6) _ ((s.trans C).upd na) (by rw[q9,<-t_];unfold jz;rw[DM]) ((qf<|AG n1).trans<|C _ _ k2) (by rw[<-vz];exact(qf<|AG n2).trans (C _ _ k3)) (by rw[Ac,Bq];lia) (by lia) (by rw[Ac];lia) (λ_ _=>{_,rfl,pV.set S.Xz.word p hv dv}) λz=>no z.nat}
 have e_:∀c:WZ,c∉ct->c.2<1000->(∀qs:WO,qs.Perm (ct++[c])->¬aE wd (qs.map x6))->∀p,Lc p=none->ku (.ref c') (.ref p) (qj Lc p<|.lst [gd c]) λz L'=>aI [z] L' λz' ba=>J (bK (T c') 6 z') ba:=λc nc lc no p hp=>Kr S k3 hp nc lc λD qs L' t1 t2 t3 t4=>by subst eJ;subst eT;exact{D,rfl,q.Yx S (s.trans t1) (t1 _ _ k1) (t1 _ _ k2) (by rw[<-vz];exact t2) (by rw[Ac];exact t4)<|no qs t3}
 have al:=e_ (x.2,x.1) (λz=>by
  have h:x≠(x.2,x.1):=λe=>by have:=Br Prod.fst e;rw[this] at h1;exact sG u (h2.uniq h1)
  have pm:=xc<|yx (xl S.ZM) mx z h;rw[jc,jc] at pm;have:=pm.nodup_iff.mp S.ZM;simp at this) (by lia) λqs pm=>aE.two pm m2
 have l:∀{e i j},wd[x.1]?=some (some<|.nd e i j)->∃v r,u=.node e v r/\KW (jz wd) i v/\KW (jz wd) j r:=λ{e i j} h=>by
  cases u with
  |leaf t n=>have:=h1.SB;rw[h] at this;cases this
  |node e v r=>
   obtain⟨i',j',h',hl,hr⟩:=h1.P3;rw[h] at h';cases h';exact{(v),r,rfl,hl,hr}
 have aL:∀M,qi Lc M->dU (qc 4) (qc 8) (zx Gu (ju<|qh (zx aK (jq (kw 120)<|qh (ju<|qh (zx aK (zx aK (qc 4)<|qc 8)<|yC<|.int 0)<|qh (yC<|.str "") zn) zn)<|yC<|.int 0) zn)<|EF HH (zx aK (qc 4)<|qc 8) (qX<|yC<|.int 1) gQ) {En with nx:=J} (T c') M:=λM C=>by
  have j1:=C _ _ k1;subst eT;cases kn with
  |lf t n=>
   have hm:(wd.set x.1<|some<|.lf (!t) n)[x.1]?=some (some<|.lf (!t) n):=Bl l1;obtain⟨y,my,hy⟩:=vG<|(S.Z2 x.1).mpr {(t),n,e1};refine qa j1 (qg U (.inl {.leaf t "",rfl,(show 1<=120 by decide),qa j1 (qg U {by show ¬(1=0/\_);simp,by simp,(show 2<=1000 by decide),qk j1<|qg ac ?_})}));exact a4 M C (.lf (!t) n) (.leaf (!t) n) (KW.lf hm) (show 1<=120 by decide) λz=>Vs S my hy e1 (by simp) z.1
  |nd e i j=>
   have hm:(wd.set x.1<|some<|.nd (!e) i j)[x.1]?=some (some<|.nd (!e) i j):=Bl l1;have pp:=m9 e1;obtain⟨v,r,rfl,hl,hr⟩:=l e1;have hw:=KW.nd hm (hl.set p λc=>p<|c▸pp.1)<|hr.set p λc=>p<|c▸pp.2;refine qa j1 (qg U (.inr {e,by decide,rfl,qa j1 (qg U {by show ¬(1=0/\_);simp,by simp,(show 3<=1000 by decide),qk j1<|qg ac ?_})}));refine a4 M C (.nd (!e) i j) _ hw du λz=>aE.other S mx h1 h2 hw (λz=>?_) z.2;injection z with z
   cases e<;>cases z
 have er:two % 2=0\/two % 2=1:=by lia
 refine{J,?_,?_}
 .have a5:=aL Lc<|EV _;have me:=EV Lc;subst eT;rcases (show w=0\/w=1\/w=2\/w=3\/w=4\/w=5\/w=6\/w=7\/w=8\/w=9\/w=10\/w=11 by lia) with rfl|rfl|rfl|rfl|rfl|rfl|rfl|rfl|rfl|rfl|rfl|rfl
  .have ll:(ct.take k++x::ct.drop k).length=ct.length+1:=by simp;lia
   refine qk k3 (qk k3 {{AQ _,by rw[pl];lia,by rw[pl];lia},put Lc me ((ct.take k++x::ct.drop k).map x6) (by rw[Ac,ll];lia) (aE.twice λz=>?_) _ (by rw[<-vz];exact Vr ct k x)});rw[jy,jc] at z;exact(AE.mp (Au.mp z).2.1).1 (Ai _ (ke (Ax (i:=0) (by rw[DW];exact ex))).1)
  .exact qa k1 (qk k3 (qg ix (I _ me (_,_) (aQ.ZD (Cb.neg (by rw[jo];lia))))))
  .exact qa k1 (qk k3 (qg ix (I _ me (_,_) (FJ (Cb.neg (by rw[jo];lia))))))
  .exact qk k3<|qg ix<|I _ me (_,_) aQ.self
  .refine qa k3<|zm (λh=>qk k3<|qg ix<|I _ me (_,_) aQ.self) λh=>?_;have h:=h;rw[pl] at h;obtain⟨j,ej,hj,nj⟩:=Vn hk (by lia);have ey:=Ag hj;have nx:x≠ct[j]:=λe=>by obtain⟨_,ex⟩:=AN.mp ex;exact nj ((Es<|xl S.ZM).mp<|e.symm.trans ex.symm)
   generalize ct[j]=y at ey nx;refine qa k3 (qg (Vo (by rw[pl];exact ej)<|fi ey)<|qa k3<|qg (xi<|fi ex) ?_);refine qk k3 (qg ix (qk q9 (qg (show rg ((qt ct).set k<|gd y).length ((k:Int)-1)=some j by rw[Bq,pl];exact ej) ?_)));rw[kc];exact put _ me (((ct.set k y).set j x).map x6) (by rw[Ac,Bq,Bq];lia) (λz=>Vp S.Z8 ex ey nx nj z.nat.2.2) _ (by rw[<-vz];unfold qt;rw[DM,DM])
  .cases kn with
   |lf t n=>exact qa k1<|qg U al
   |nd e i j=>
    have pp:=m9 e1;refine qa k1<|qg U<|qa k1<|qg U {show(0:Int)<2 by decide,?_};show ku (.int 1) (.int<|two % 2) Lc _;rcases er with er|er
    .rw[er];exact qk k3<|qg ix<|I _ me (_,_)<|aQ.ZD<|FH pp.1
    .rw[er];exact qk k3<|qg ix<|I _ me (_,_)<|aQ.ZD<|FH pp.2
  .cases kn with
   |lf t n=>exact qa k1<|qg U al
   |nd e i j=>
    have pp:=m9 e1;obtain⟨v,r,rfl,hl,hr⟩:=l e1;have bd:max v.depth r.depth+1<=120:=du;refine qa k1<|qg U<|qa k1<|qg U {a',jz wd,i,v,rfl,k1,hl,by lia,qa k1<|qg U {a',jz wd,j,r,rfl,k1,hr,by lia,?_}};refine iI (by lia)<|eM (λh=>?_) λh=>al;have hm:(wd.set x.1<|some<|.nd e j i)[x.1]?=some (some<|.nd e j i):=Bl l1;have hw:=KW.nd hm (hr.set p λc=>p<|c▸pp.2)<|hl.set p λc=>p<|c▸pp.1;refine qa k1<|qg U<|qa k1<|qg U<|qa k1<|qg U<|qk k1<|qg ac ?_;refine a4 _ me (.nd e j i) _ hw (show max r.depth v.depth+1<=120 by lia) λz=>aE.other S mx h1 h2 hw (λz=>?_) z.2;injection z with _ z
    rw[z,fg] at h;cases h
  .exact a5
  .exact qa k1 (qk k3 (qg ix (I _ me (_,_) (FJ (Cb.big (by rw[jo];lia))))))
  .intro p2 bb;have s9:=By (o:=.lst []) bb;refine kq (n:=0) (m:=0) (by decide) (s9 _ _ (by rw[<-cU];exact k7)) q9 (dO (gs.map λn:Nat=>(n:Int))) .nil ?_;have g9:=s9 _ _ k7;generalize qj Lc p2 (.lst [])=L9 at s9 g9 ⊢;cases gs with
   |nil=>exact aL L9 s9
   |cons g gs=>
    obtain⟨y,my,ey⟩:∃r,r∈g::gs/\fG (nY<|g::gs) (two % ((nY<|g::gs).length:Int))=some (.int ((r:Nat):Int)):=jC (E:=g::gs) (BA _) two;exact qa g9 {by rw[fv];exact CO.mpr<|BA _,qa g9<|qg ey<|qk (s9 _ _ k3)<|qg ix<|I L9 s9 (_,_)<|FJ<|Cb.gone<|hg y my}
  all_goals
   cases kn with
   |lf t n=>exact qa k1<|qg U a5
   |nd e i j=>
    have pp:=m9 e1;obtain⟨v,r,rfl,_,_⟩:=l e1;obtain⟨i',j',e2,_,_⟩:=h2.P3;obtain⟨r1,r2⟩:=S.Xz.ok _ _ _ _ e2;have a2:fG (jz wd) (x.2:Int)=some (jF<|some<|.nd (!e) i' j'):=jw e2;refine qa k1<|qg U<|qa k1<|qg U {show(0:Int)<2 by decide,?_};show ku (.int 1) (.int<|two % 2) Lc _;rcases er with er|er
    .rw[er];refine qa k1<|qg a2 {show(0:Int)<2 by decide,?_};show ku (.int 1) (.int<|two % 2) Lc _;rw[er];exact e_ (i,i') (λz=>S.Zc _ (ke z).1 pp.1) (by lia) λqs pm=>aE.one pm<|aQ.ZD<|FH pp.1
    .rw[er];refine qa k1<|qg a2 {show(0:Int)<2 by decide,?_};show ku (.int 1) (.int<|two % 2) Lc _;rw[er];exact e_ (j,j') (λz=>S.Zc _ (ke z).1 pp.2) (by lia) λqs pm=>aE.one pm<|aQ.ZD<|FH pp.2
 .subst eJ;subst eT;rintro ay L' ⟨D,rfl,h⟩;exact h
def eY(U:vt)(J:vt)(I:vt):RD "_law_bad_cuts" eV 122 ["_law_web_here","_law_way","_law_one","_law_two","_law_knots","_law_links","_law_cuts","_law_p","_law_parts_here","_law_fits","_law_fit","_law_gone","_law_far"] (λV=>Hq V U/\JG V J/\JH V I):={_,λV B c _ _ _ _ _ _ _ j hN g=>(qb (a8 (C_ c.1 j<|jm<|qv 0)<|kz (n:=3) rfl<|qw (bP (i:=4) hN rfl<|Or.inr rfl)<|qw (G_ 5 hN)<|qw (G_ 6 hN) v5)<|qb (S_ 7 hN<|I_ (I_ (qv 5)<|ql zw (qv 2)<|L_ B.ba<|qv 5)<|ql zw (qv 3) qd)<|qb (aj (i:=8) hN rfl (Or.inr rfl)<|C_ c.2.1 j<|jm<|qv 4)<|qb (aT ["_law_link"] (i:=9) hN rfl (Or.inl rfl) (EZ (by rfl)) rfl (xx<|qv 5) (o7 13) (λ_ _ _ _=>bJ<|xo<|fJ (js (yc _ _ _) (J_ 13) (qv 8) (by with_unfolding_all rfl))<|bX<|js (yc _ _ _) (J_ 13) (qv 8) (by with_unfolding_all rfl)) λ_ _ _ _=>(qv 13))<|qb (zo (xo<|vf (N_ g (qv 9)<|zj xn)<|jx<|xo<|fJ (E_ g (qv 1) qd)<|bX<|xo<|vf (E_ g (qv 6)<|zj xn)<|jx<|E_ g (ql zw (qv 1) qd) qd) (qb (S_ 10 hN<|I_ (qv 9)<|ql zw (qv 2)<|L_ B.ba<|qv 9)<|qe<|qu<|qr<|aA (qv 4) (qv 5)<|j5 ak rfl B.bg k8<|jm<|ql jf (qv 6)<|zj<|jm<|qr<|vj (I_ (qv 10)<|ql zw (qv 3) qd)<|I_ (qv 10)<|ql aB qd<|ql zw (qv 3) qd) zg)<|qb (zo (N_ g (qv 6)<|zj xn) (qe<|qu<|C_ c.2.2 j<|jr (qv 0)<|aA (qv 1) (ql zw (qv 2)<|L_ B.ba<|qv 6)<|qv 3) zg)<|qb (aT ["_law_x"] (i:=11) hN rfl (Or.inl rfl) (EZ (by rfl)) rfl (ky rfl B.bh<|jm<|L_ B.ba<|qv 4) (o7 13) (λ_ _ _ _=>bJ<|gp<|I_ (qv 4)<|qv 13) λ_ _ _ _=>(qv 13))<|qb (S_ 12 hN<|ql jf (zj<|aA (qv 7) (ql aB (I_ (J_ 5)<|ql zw (ql kh (qv 3) qd) qd)<|L_ B.ba<|qv 4)<|ql jf (L_ B.ba<|qv 4)<|qv 3)<|bu (vN _ _ _) (qv 11) gN<|cO qd)<|qe<|qu<|qr<|aA (qv 4) (qv 5)<|zj<|jm<|qr<|vj (qv 7)<|I_ (qv 12)<|ql zw (qv 1)<|L_ B.ba<|qv 12)}
def VY(I:vt):bD:=(j8 (ww (Fi (qc 6)<|au zn) (cL<|jq I<|qh (qc 0)<|qh (qc 1)<|qh (zx ai (qc 2)<|gA 6)<|bH<|qc 3) cT)
 (j8 (jt (c_ 1 (fM<|bH<|gA 4) (qo 13) (yB<|iB false<|zx aK (qc 4)<|qc 13)<|qc 13)<|qo 11)
 (j8 (jt (zx ku (au<|qh (qc 7)<|qh (zx cf (zx aK (eh 5 0)<|zx ai (zx ym (qc 3)<|v9 2)<|v9 2)<|gA 4)<|qh (zx ku (gA 4)<|qc 3) zn)<|EF Gj (qc 11) gQ<|qX<|v9 1)<|qo 12)
 (cL<|ju<|qh (qc 4)<|qh (qc 5)<|qh (au<|qh (ju<|qh (qc 7)<|qh (zx aK (qc 12)<|zx ai (qc 1)<|gA 12) zn) zn) zn))))
def VZ:bD:=(j8 (jt (zx aK (qc 9)<|zx ai (qc 2)<|gA 9)<|qo 10)
 (cL<|ju<|qh (qc 4)<|qh (qc 5)<|qh (mJ aI<|qh (zx ku (qc 6)<|au<|qh (ju<|qh (zx aK (qc 10)<|zx ai (qc 3)<|v9 2)<|qh (zx aK (qc 10)<|zx cf (v9 1)<|zx ai (qc 3)<|v9 2) zn) zn) zn) zn))
def lJ(wd:List<|Xd)(i:Nat)(us:_x):Prop:=∃gs:WR,us=nY gs/\gs.length<=i/\∀y∈gs,wd[y]?=some none
def lJ.no{us:_x}(h:lJ wd i us):gW (λus L'=>L'=L/\lJ wd (i+1) us) us L:=by obtain⟨I,e,l,h⟩:=h;exact{_,EV _,rfl,I,e,B7 l,h}
def lJ.yes{us:_x}(h:lJ wd i us)(e:wd[i]?=some none):gW (λus L'=>L'=L/\lJ wd (i+1) us) (us++[.int<|0+(i:Int)]) L:=by
 obtain⟨J,rfl,l,h⟩:=h;refine{_,EV _,rfl,J++[i],by rw[cg,Cy];rfl,by rw[Ad];exact C2 l,λy I=>?_};rcases Ak.mp I with I|I
 .exact h y I
 .rw[Ap.mp I];exact e
inductive nO(ys:_x)(L:qm)(Q:YK):Prop
 |mk:∀a l c,∀wd:List (Xd),∀lk ct:WO,∀w k:Nat,∀wi ki two:Int,(ys=[eI a l c,.int wi,.int ki,.int two])->(wi=(w:Int))->(ki=(k:Int))->(w<12)->(0<=two)->(L a=some (.lst<|jz wd))->(L l=some (.lst<|qt lk))->(L c=some (.lst<|qt ct))->(qN wd lk ct)->(k<ct.length)->(dN L Q)->nO ys L Q
def dN.X6{Q:YK}(q:dN L Q):dN L (a6 Q):=λI J U g lk j l o p r t C T t7 t8 t9=>vd<|q I J U g lk j l o p r t C T t7 t8 t9
def dN.sub{M:qm}{Q:YK}(q:dN L Q)(s:qi L M):dN M Q:=λI J U g lk j l o p r t C T t7 t8 t9=>q I J U g lk j l (s.trans o) p r t C T t7 t8 t9
def V0:_f nO (cN eO (x4 120)<|kw 120).1 10:=by
 rintro ys L Q ⟨a,l,c,g,lk,ct,w,k,wi,ki,two,rfl,rfl,rfl,hw,j,r,C,T,S,hk,q⟩;have z1:=S.Xz.len;refine{a,l,c,_,_,_,rfl,r,C,T,λa' l' c' L1 s1 na nl nc n1 n2 n3 h1 h2 h3=>?_};refine qa h1 {{AQ _,by rw[jo];lia},?_};rw[jo,BL];refine hU (lJ g) (Bs z1 (by decide)) {[],rfl,Am _,nofun} (λi us hi I=>?_) ?_
 .rcases zX (Cy (i:Int)) hi with⟨hq,J⟩|⟨t,n,_,J⟩|⟨e',i',j',_,J⟩
  .exact qa h1<|qg J<|I.yes hq
  .exact qa h1<|qg J I.no
  .exact qa h1<|qg J I.no
 rintro us ⟨gs,rfl,lo,hg⟩ p hp;have U:=By (o:=.lst<|nY gs) hp;have ex:=Ag hk;refine qa (U _ _ h3)<|qg (xi<|fi ex) ?_;exact VX S hw j ex (s1.trans U) na nc n1 n2 n3 (U _ _ h1) (U _ _ h2) (U _ _ h3) q9 hg q.X6
def zQ{x:WZ}{z:Int}{M:qm}{G:YK}(h:∀y:Nat,y=x.1\/y=x.2->G (.int (y:Int)) M):aK (gd x) (.int<|z % 2) M G:=by
 rcases (show z % 2=0\/z % 2=1 by lia) with e|e
 .rw[e];exact h _<|.inl rfl
 .rw[e];exact h _<|.inr rfl
def zN{M:qm}{a l c:Addr}{one two:Int}{w p:Nat}{x:WZ}(S:qN wd lk ct)(hw:w<12)(ht:0<=two)(e0:lk[0]?=some x)(ha:L a=some (.lst<|jz wd))(hl:L l=some (.lst<|qt lk))(hc:L c=some (.lst<|qt ct))(s:qi L M)(k1:M a'=some (.lst<|jz wd))(k2:M l'=some (.lst<|qt lk))(k3:M c'=some (.lst<|qt ct))(q:dN L En.rt):
 VY nO En [some<|eI a l c,some<|.int (w:Int),some<|.int one,some<|.int two,some<|.ref a',some<|.ref l',some<|.ref c',some<|.int (p:Int),c8,c9,c10,c11,c12] M:=by
 have big:=a_;have z1:=S.Xz.len;have z2:=S.ll;intro p2 a3;have C:=By (o:=.lst []) a3;refine kq (n:=1) (m:=0) (by decide) (C _ _ k3) q9 (we ct) .nil ?_;have g:=C _ _ k1;have j2:=C _ _ k2;have j3:=C _ _ k3;have r:=s.trans C;generalize qj M p2 (.lst [])=M' at r g j2 j3 ⊢;cases ct with
 |cons d ct=>
  obtain⟨k',_,ek,hk,_⟩:=bz (l:=d::ct) (BA _) one;have T:(qt<|d::ct).length=(d::ct).length:=Ac ..;exact qa j3 {by rw[T];exact CO.mpr<|BA _,a,l,c,wd,lk,_,w,k',_,_,two,rfl,rfl,by rw[T];exact ek,hw,ht,r _ _ ha,r _ _ hl,r _ _ hc,S,hk,q.sub r}
 |nil=>
  refine qa g {{AQ _,by rw[jo];lia},?_};rw[jo,BL];refine hU (lJ wd) (big _ (by lia)) {[],rfl,Am _,nofun} (λi us hi I=>?_) ?_
  .rcases zX (Cy (i:Int)) hi with⟨hq,ay⟩|⟨t,n,_,ay⟩|⟨e',i',j',_,ay⟩
   .exact qa g<|qg ay<|I.yes hq
   .exact qa g<|qg ay I.no
   .exact qa g<|qg ay I.no
  rintro us ⟨U,rfl,lo,hg⟩ p3 a1;have s3:=r.trans<|By (o:=.lst<|nY U) a1;have t3:=By (o:=.lst<|nY U) a1;have g3:qj M' p3 (.lst<|nY U) p3=some (.lst<|nY U):=q9;generalize qj M' p3 (.lst<|nY U)=M3 at s3 t3 g3 ⊢;obtain⟨lx,_,_,x1,x2⟩:=S.ZQ x<|Ax e0;have l2:=zf x2;refine qa (t3 _ _ j2)<|qg (xi (j:=0)<|fi e0) {{by decide,by decide},(show(0:Int)<2 by decide),?_};refine zQ λy hy=>?_;have hy:y<wd.length:=by lia
  have i1:=t3 _ _ g;refine qa i1<|qa i1 λp4 a4=>?_;rw[jo];obtain⟨fs,ef⟩:∃fs:WV,fs=[(p:Int),(y:Int)-(wd.length:Int),(wd.length:Int)+two]:={_,rfl};have e4:[Y.int (p:Int),.int<|(y:Int)-(wd.length:Int),.int<|(wd.length:Int)+two]=fs.map Y.int:=by rw[ef];rfl
  have s4:=By (o:=.lst<|fs.map Y.int) a4;have g4:qj M3 p4 (.lst<|fs.map Y.int) p4=some (.lst<|fs.map Y.int):=q9;show cM (qj M3 p4<|.lst [Y.int (p:Int),.int<|(y:Int)-(wd.length:Int),.int<|(wd.length:Int)+two]) p3 _;rw[e4];generalize qj M3 p4 (.lst<|fs.map Y.int)=M4 at s4 g4 ⊢;refine qk (s4 _ _ g3) λp5 a2=>?_;have ec:iy (nY U) none (some ((1:Nat):Int))=((U.take 1).map λn:Nat=>(n:Int)).map Y.int:=by rw[Ji,<-cU];unfold nY;rw[ET]
  show ku (.ref p4) (.ref p5) (qj M4 p5<|.lst<|iy (nY U) none<|some ((1:Nat):Int)) _;rw[ec];generalize eg:(U.take 1).map (λn:Nat=>(n:Int))=J;have lh:J.length<=1:=by rw[<-eg,Ac,AV];exact Nat.min_le_left ..
  have s5:=s4.trans<|By (o:=.lst<|J.map Y.int) a2;refine{_,_,By a2 _ _ g4,q9,by rw[Ac,Ac,ef];exact Bk (big _ (by show 3+_<=_;lia)),λp6 a5=>?_};have s6:=s5.trans<|By (o:=.lst<|fs.map Y.int++J.map Y.int) a5;have g6:qj (qj M4 p5<|.lst<|J.map Y.int) p6 (.lst<|fs.map Y.int++J.map Y.int) p6=some (.lst<|(fs++J).map Y.int):=by rw[q9,Av]
  generalize qj (qj M4 p5<|.lst<|J.map Y.int) p6 (.lst<|fs.map Y.int++J.map Y.int)=M6 at s6 g6 ⊢;obtain⟨m,f,em,hm,ez⟩:=bz (l:=fs++J) (by rw[ef,Ad];exact Nat.lt_add_right _ (show 0<3 by decide)) (w:Int);have T:((fs++J).map Y.int).length=(fs++J).length:=Ac ..;refine qa g6 (mO (by rw[T];lia) (by rw[T];exact em)<|qa g6<|qg (jw ez) λp7 ac=>?_);have s7:=(t3.trans s6).trans<|By (o:=.lst [rW ((p:Int),f)]) ac;refine q.Yx S (cs:=[((p:Int),f)]) (r.trans s7) (s7 _ _ g) (s7 _ _ j2) q9 (show 1<=63 by decide)<|aE.no Ao ?_;rcases Ak.mp (Ax ez) with h|h
  .rw[ef] at h;simp only[As,Bc,or_false] at h;rcases h with rfl|rfl|rfl
   .exact aQ.self
   .exact FJ (Cb.neg (by show(y:Int)-_<0;lia))
   .exact FJ (Cb.big (by show _<=(wd.length:Int)+two;lia))
  .rw[<-eg] at h;obtain⟨z,mz,rfl⟩:=A7.mp h;exact FJ<|Cb.gone<|hg z<|BB mz
def zW{M:qm}{fs:WN}{p9:Addr}{t:Xb}{one two:Int}(S:qN wd lk ct)(C:∀f∈fs,f∈lk/\(f.1∈je wd\/f.2∈je wd))(T:0<fs.length)(s:qi L M)(k1:M a'=some (.lst<|jz wd))(k2:M l'=some (.lst<|qt lk))(k3:M c'=some (.lst<|qt ct))(g:M p9=some (.lst<|qt fs))(q:dN L En.rt):
 VZ En [c0,t,some<|.int one,some<|.int two,some<|.ref a',some<|.ref l',some<|.ref c',c7,c8,some<|.ref p9,c10,c11,c12] M:=by
 have z1:=S.Xz.len;have j:(qt fs).length=fs.length:=Ac ..;obtain⟨k,f,ek,hk,l⟩:=bz T one;obtain⟨mf,o⟩:=C f<|Ax l;obtain⟨_,_,_,x1,x2⟩:=S.ZQ f mf;have l1:=zf x1;have l2:=zf x2;have fin2:∀c:WZ,(c.1∈je wd\/c.2∈je wd)->c.2<1000->∀p,M p=none->ku (.ref c') (.ref p) (qj M p<|.lst [gd c]) λz r=>aI [z] r λz' J=>En.rt (.tup [.ref a',.ref l',z']) J:=λc h lc p hp=>Kr S k3 hp (λz=>h.elim (S.Zc _ (ke z).1)<|S.Zc _ (ke z).2) lc λD qs r U t2 t3 t4=>q.Yx S (s.trans U) (U _ _ k1) (U _ _ k2) (by rw[<-vz];exact t2) (by rw[Ac];exact t4)<|aE.one t3<|h.elim (λh=>aQ.ZD<|FH h) λh=>FJ<|FH h;refine qa g (mO (by rw[j];lia) (by rw[j];exact ek)<|qa g<|qg (xi<|fi l) {show(0:Int)<2 by decide,?_});show aK (gd f) (.int<|two % 2) M _;rcases (show two % 2=0\/two % 2=1 by lia) with I|I
 .rw[I];refine{show(0:Int)<2 by decide,?_};show cf (.int 1) (.int<|two % 2) M _;rw[I];exact fin2 (f.1,f.2) o (by show f.2<_;lia)
 .rw[I];refine{show(0:Int)<2 by decide,?_};show cf (.int 1) (.int<|two % 2) M _;rw[I];exact fin2 (f.2,f.1) o.symm (by show f.1<_;lia)
inductive tG(ys:_x)(L:qm)(Q:YK):Prop
 |mk:∀a l c,∀wd:List (Xd),∀lk ct:WO,∀w:Nat,∀wi one two:Int,(ys=[eI a l c,.int wi,.int one,.int two])->(wi=(w:Int))->(w<12)->(0<=two)->(L a=some (.lst<|jz wd))->(L l=some (.lst<|qt lk))->(L c=some (.lst<|qt ct))->(qN wd lk ct)->(lk≠[])->(dN L Q)->tG ys L Q
def V1:_f tG (eY eO gK nO).1 13:=by
 rintro ys L Q ⟨a,l,c,U,lk,ct,w,wi,one,two,rfl,rfl,hw,ht,ha,hl,hc,S,ne,q⟩;have big:=a_;have z1:=S.Xz.len;have z2:=S.ll;refine{a,l,c,_,_,_,rfl,ha,hl,hc,λa' l' c' L1 s1 na nl nc n1 n2 n3 h1 h2 h3=>?_};obtain⟨k,x,ek,hk,ex⟩:=bz (C9.mpr ne) one;have pl:∀l:WO,(qt l).length=l.length:=λl=>Ac ..;refine qa h2 (mO (by rw[pl];lia) (by rw[pl];exact ek)<|qa h2<|qg (xi<|fi ex) {show(0:Int)<2 by decide,?_});refine zQ λp hp=>?_;refine{a',U,rfl,h1,by lia,λp8 L2 s2 g8=>?_};have t2:=s1.trans s2;refine xg (s2 _ _ h2) λkeep kp=>bx (λi C=>∃fs:WO,C=qt fs/\fs.length<=i/\∀f∈fs,f∈lk/\(f.1∈je U\/f.2∈je U)) (by rw[pl];exact big _ (by lia)) (kp _ rfl) {[],rfl,Am _,nofun} ?_ ?_
 .rintro i y C hy ⟨fs,rfl,lo,T⟩;rw[Al] at hy;obtain⟨f,ef,rfl⟩:=Aq.mp hy;have yes:f.1∈je U\/f.2∈je U->gW (λC L'=>L'=L2/\∃fs:WO,C=qt fs/\fs.length<=i+1/\∀f∈fs,f∈lk/\(f.1∈je U\/f.2∈je U)) (qt fs++[gd f]) L2:=λh=>{_,EV _,rfl,fs++[f],by unfold qt;rw[Av];rfl,by rw[Ad];exact C2 lo,λg hg=>by
   rcases Ak.mp hg with hg|hg
   .exact T g hg
   .rw[Ap.mp hg];exact{Ax ef,h}}
  refine qa g8 {rfl,iK _,?_};show aC (tN (eX<|.int (f.1:Int))<|(nY<|je U).map eX) _ _;rw[ie];refine zm (λh=>yes<|.inl h) λ_=>qa g8 {rfl,iK _,?_};show aC (tN (eX<|.int (f.2:Int))<|(nY<|je U).map eX) _ _;rw[ie];exact zm (λh=>yes<|.inr h) λ_=>{_,EV _,rfl,fs,rfl,B7 lo,T}
 rintro C ⟨fs,rfl,lo,T⟩ p9 a5;refine G7 a5 λLc t g9=>?_;have t:=s2.trans t;have e0:lk[0]?=some (lk[0]'(by lia)):=Ag _;have s4:=s1.trans t;have k1:=t _ _ h1;have k2:=t _ _ h2;have k3:=t _ _ h3;intro ac a1;have I:=By (o:=.lst []) a1;refine kq (n:=1) (m:=0) (by decide) (I _ _ g9) q9 (we fs) .nil ?_;have r:=I _ _ g9;generalize qj Lc ac (.lst [])=L4 at I r ⊢;cases fs with
 |nil=>exact zN S hw ht e0 ha hl hc (s4.trans I) (I _ _ k1) (I _ _ k2) (I _ _ k3) q.X6
 |cons f0 fs=>
  refine zm (λ_=>zW S T (BA _) (s4.trans I) (I _ _ k1) (I _ _ k2) (I _ _ k3) r q.X6) λ_=>?_;intro al a2;have a3:=By (o:=.lst []) a2;have J:=I.trans a3;refine kq (n:=1) (m:=0) (by decide) (J _ _ k3) q9 (we ct) .nil ?_;have a4:=a3 _ _ r;generalize qj L4 al (.lst [])=L5 at J a4 ⊢;have j:=λEn=>zN (En:=En) (one:=one) (p:=p) (c8:=some<|.ref p8) (c9:=some<|.ref p9) (c10:=none) (c11:=none) (c12:=none) S hw ht e0 ha hl hc (s4.trans J) (J _ _ k1) (J _ _ k2)<|J _ _ k3;cases ct with|cons d ct=>exact j _ q.X6|nil=>exact{show(0:Int)<3 by decide,zm (λ_=>zW S T (BA _) (s4.trans J) (J _ _ k1) (J _ _ k2) (J _ _ k3) a4 q.X6) λ_=>j _ q.X6}
def vD(I:vt)(J:vt):RD "_law_spoilt" gb 123 ["_law_web_here","_law_draw","_law_one","_law_two"] (λV=>JF V I/\JI V J):={_,λV B c _ _ _ _ _ _ _ U hN g=>(qb (zo (E_ g (ql zw (qv 1) qd) qd) (qe<|qu<|C_ c.1 U<|jr (qv 0)<|aA (ql zw (ql kh (qv 1) qd) qd) (qv 2)<|qv 3) zg)<|qe<|qu<|C_ c.2 U<|jr (qv 0)<|aA (ql zw (ql kh (qv 1) qd) qd) (qv 2)<|qv 3)}
inductive iM(ys:_x)(L:qm)(Q:YK):Prop
 |mk:∀a l c,∀wd:List (Xd),∀lk ct:WO,∀d one two:Int,(ys=[eI a l c,.int d,.int one,.int two])->(0<=two)->(L a=some (.lst<|jz wd))->(L l=some (.lst<|qt lk))->(L c=some (.lst<|qt ct))->(qN wd lk ct)->(lk≠[])->(dN L Q)->iM ys L Q
def V2:_f iM (vD mR tG).1 4:=by
 rintro ys L Q ⟨a,l,c,J,lk,U,d,one,two,rfl,g,j,o,p,S,ne,q⟩;refine{(show(0:Int)<2 by decide),zm (λ_=>?_) λ_=>?_}
 .obtain⟨w,I,_⟩:=zI (d / 2) 8 (by decide);exact{{by decide,by decide},(show(0:Int)<8 by decide),a,l,c,J,lk,U,w,_,one,two,rfl,I,g,j,o,p,S,ne,q.X6}
 .obtain⟨w,I,hw⟩:=zI (d / 2) 12 (by decide);exact{{by decide,by decide},(show(0:Int)<12 by decide),a,l,c,J,lk,U,w,_,one,two,rfl,I,hw,g,j,o,p,S,ne,q.X6}
inductive dk(ys:_x)(L:qm)(Q:YK):Prop
 |mk:∀a l c,∀zs:List (Xf),∀lk:WO,∀cs:List (Int×Int),(ys=[eI a l c])->(L a=some (.lst<|tO zs))->(L l=some (.lst<|qt lk))->(L c=some (.lst<|cs.map rW))->(zs.length<=450)->(lk.length<=63)->(cs.length<=63)->((o9 zs=true->(aP zs).Nodup->∃wd,zs=wd.map gJ/\pV wd))->(¬Zf zs lk cs)->(Q (.bl true) L)->dk ys L Q
def wR{K:Af}{J U g j p r t T n9 o:Addr}(xf:XZ K C J U g j p r t T n9 o):_f dk (Vu K C J U g j p r t T n9 o<|dR C) 4:=by rintro ys L Q ⟨a,l,c,zs,lk,cs,rfl,I,hl,hc,z1,z2,z3,W,no,q⟩;refine{a,l,c,zs,lk,cs,rfl,I,hl,hc,z1,z2,z3,W,λh=>(no h).elim,λ_=>{xf.em,λa I=>?_}};refine tD q9 {xf.hd,false,xf.ot,?_};refine tD q9 {xf.hd,true,xf.on,?_};refine tD q9 {xf.hd,true,xf.ve,?_};exact dX (By I) q
def V3(l:List<|Xf):Paired (fA L<|n+2) (tO l) (tO l):=gr λx I=>by
 obtain⟨m,_,rfl⟩:=A7.mp I;cases m with
 |none=>exact .flat rfl
 |some k=>
  cases k with|lf t n=>exact .inr (.inl {_,_,rfl,rfl,.cons (.flat rfl)<|.cons (.flat rfl) .nil})|nd e i j=>exact .inr<|.inl {_,_,rfl,rfl,.cons (.flat rfl)<|.cons (.flat rfl)<|.cons (.flat rfl) .nil}
def V4 :_f (mX Pt XD) (Vv dm (tE Pt) cr iM eO (dR C) (fz 124) dk) 7:=by
 rintro ys L Q ⟨r,rfl,a1,hL,q⟩;have hP:L Pt=some (.tb XD):=by rw[hL];exact q9
 refine{r,0,rfl,by decide,λv=>{{by decide,by decide,by decide},(show(0:Int)<10 ^ (9:Int).toNat by decide),_,r,_,100,100,rfl,rfl,by lia,by decide,hP,λt T ca J lk ct L1 W s1 nw nl nc n1 n2 n3 e1 e2 e3=>?_}};obtain⟨S,x0,k0,f0,_⟩:=W.snd;have ne:=S.ne f0;have z1:=S.Xz.len;have z2:=S.ll;have z3:=S.Xz.Zx;have O:=S._l f0;have hz:∀{a':Addr} {I:qm},I a'=some (.lst<|jz J)->I a'=some (.lst<|tO<|J.map gJ):=λh=>by rw[<-t_];exact h
 have hk:∀{l':Addr} {I:qm},I l'=some (.lst<|qt ct)->I l'=some (.lst<|(ct.map x6).map rW):=λh=>by rw[<-vz];exact h
 have za:(J.map gJ).length<=450:=by rw[Ac];lia
 have zb:lk.length<=63:=by lia
 have zc:(ct.map x6).length<=63:=by rw[Ac];lia
 have zd:o9 (J.map gJ)=true->(aP<|J.map gJ).Nodup->∃g,J.map gJ=g.map gJ/\pV g:=λ_ _=>{(J),rfl,S.Xz.word};refine{by decide,?_};refine sk (λi τ I=>∃j l c5 c6,τ=[some<|.sq<|r.map Y.int,some<|.int<|v % 10 ^ Int.toNat 9,some<|eI t T ca,j,l,c5,c6]/\qi L1 I) {_,_,_,_,rfl,EV _} ?_ ?_
 .rintro i τ I hi ⟨j,l,c5,c6,rfl,o⟩;refine{r,_,rfl,by lia,λv1=>{{by decide,by decide,by decide},(show(0:Int)<10 ^ (9:Int).toNat by decide),_,_,40692,rfl,by lia,by lia,by decide,by decide,λtwo ht _=>?_}};refine{_,_,16807,rfl,by lia,by lia,by decide,by decide,λd _ _=>{_,_,69621,rfl,by lia,by lia,by decide,by decide,λone _ _=>?_}};refine{t,T,ca,J,lk,ct,d,one,two,rfl,ht,o _ _ e1,o _ _ e2,o _ _ e3,S,ne,λab lb cb zs U cs L2 s3 b1 b2 b3 y1 y2 y3 K' no=>?_};have t3:=o.trans s3;refine{t,T,ca,_,_,_,rfl,t3 _ _ e1,t3 _ _ e2,t3 _ _ e3,λa' l' c' Lc s4 _ _ _ _ _ _ h1 h2 h3=>?_};have t4:=t3.trans s4;refine{{by decide,by decide},(show(0:Int)<2 by decide),?_};refine Vz (b:=decide _) (λh=>{a',l',c',_,lk,_,rfl,hz h1,h2,hk h3,za,zb,zc,zd,λ_=>h,λno=>(no O).elim}) ?_;refine{rfl,rfl,3,3,_,_,by decide,Kp h1 h2 h3,Kp (t4 _ _ e1) (t4 _ _ e2)<|t4 _ _ e3,bF (by rw[Vx];rfl) ?_};have b1:=s4 _ _ b1;have b2:=s4 _ _ b2;have b3:=s4 _ _ b3;refine{ab,lb,cb,_,_,_,rfl,b1,b2,b3,λa2 l2 c2 L4 p _ _ _ _ _ _ g1 g2 g3=>?_};refine{a2,l2,c2,zs,U,cs,rfl,g1,g2,g3,y1,y2,y3,K',no,?_};refine{_,_,rfl,.inr<|.inl {_,_,rfl,rfl,.cons (gx g1 (p _ _ b1)<|V3 (n:=120) zs)<|.cons (gx g2 (p _ _ b2)<|Vt (n:=120) U)<|.cons (gx g3 (p _ _ b3)<|Vy (n:=120) cs) .nil},?_};have t5:=t4.trans p;refine{t,T,ca,_,_,_,rfl,t5 _ _ e1,t5 _ _ e2,t5 _ _ e3,λa3 l3 j L5 s6 _ _ _ _ _ _ r1 r2 r3=>{a3,l3,j,_,lk,_,rfl,hz r1,r2,hk r3,za,zb,zc,zd,λ_=>?_,λno=>(no O).elim}};have t6:=p.trans s6;refine{ab,lb,cb,_,_,_,rfl,t6 _ _ b1,t6 _ _ b2,t6 _ _ b3,λa4 l4 l L6 s7 _ _ _ _ _ _ u1 u2 u3=>?_};exact{a4,l4,l,zs,U,cs,rfl,u1,u2,u3,y1,y2,y3,K',no,_,EV _,_,_,_,_,rfl,(t5.trans s6).trans s7}
 .rintro τ I ⟨j,l,c5,c6,rfl,o⟩;exact vd<|q _
end L2
end
set_option maxRecDepth 100000
set_option maxHeartbeats 8000000
namespace K17
open PySem L2
abbrev ng:Str:="_law_knots"
abbrev nh:Str:="_law_script"
abbrev ni:Str:="_law_p"
abbrev nq:Str:="_law_web_here"
abbrev nu:Str:="_law_seed"
abbrev nv:Str:="_law_knot"
theorem V5{us:WP}{n:Nat}(h:us.length=n+1):∃a r,us=a::r/\r.length=n:=by cases us with|nil=>cases h|cons a r=>exact{a,r,rfl,Nat.succ.inj h}
abbrev nk(K:PySem.W.Frag)(x:Str):=PySem.W.nsIn K mainGlobals x
structure DD(K:Af):Prop where
 D0:j9 K "is_leaf" qU
 D1:j9 K "turned" tZ
 D2:j9 K "word_at" rH
 D3:j9 K "holds_leaf" iZ
 D4:j9 K "parts_of" ny
 D5:j9 K "parts_in" nU
 D6:j9 K "places_in" mC
 D7:j9 K "each_once" lD
 D8:j9 K "parts_fit" lW
 D9:j9 K "are_knots" kY
 D10:j9 K "is_link" qE
 D11:j9 K "are_links" lM
 D12:j9 K "can_be_cut" iR
 D13:j9 K "is_cut" wA
 D14:j9 K "are_cuts" oO
 D15:j9 K "demand" Rw
 D16:j9 K "checked_web" qB
 D17:j9 K "_law_cell_at" fc
 D18:j9 K "_law_same" lF
 D19:j9 K "_law_mix" oG
 D20:j9 K "_law_name" kZ
 D21:j9 K "_law_word" mB
 D22:j9 K "_law_flip" lQ
 D23:j9 K "_law_weight" gZ
 D24:j9 K "_law_mirror" pG
 D25:j9 K "_law_join" lI
 D26:j9 K "_law_fold" lK
 D27:j9 K "_law_cut" xF
 D28:j9 K "_law_tree" lv
 D29:j9 K "_law_told" lB
 D30:j9 K "_law_crossed" fw
 D31:j9 K "_law_beneath" fS
 D32:j9 K "_law_recast" pS
 D34:j9 K "_law_gapped" pL
 D35:j9 K "_law_web" oh
 D36:j9 K "_law_copy" lE
 D37:j9 K "_law_bad_parts" kG
 D38:j9 K "_law_parts" i9
 D39:j9 K "_law_bad_cut_at" cY
 D40:j9 K "_law_bad_cuts" eV
 D41:j9 K "_law_spoilt" gb
 D42:j9 K "_law_refused" ou
 D43:j9 K "law" tR
structure B_(V:V_):Prop extends B0_ V,DD V.K where
 hp:∃h:W4,V.K.In h/\h.Ns mainGlobals V.mg
 D33:Xn V.K "_law_order" SC V.Pt
 md:V.mg "BadWeb"=some (.ref V.Ca)
 mj:V.mg "NoWord"=some (.ref V.Cl)
 _n:V.mg "BadText"=some (.ref V.Ce)
 mm:V.mg "BadTree"=some (.ref V.Ci)
 _o:V.mg "BadChoices"=some (.ref V.Ch)
 _p:V.mg "NoTree"=some (.ref V.Cf)
 _q:V.mg "NoCut"=some (.ref V.Cg)
 mh:V.mg "NoExchange"=some (.ref V.Cd)
 _r:V.mg "OtherWeb"=some (.ref V.Ck)
 mw:V.mg "TooMany"=some (.ref V.Cc)
 _s:V.mg "OnceError"=some (.ref V.Cj)
 x_BadWeb:Fy V.K V.Ca
 xf:L2.XZ V.K V.Ca V.Cl V.Ce V.Ci V.Ch V.Cf V.Cg V.Cd V.Ck V.Cc V.Cj
local macro_rules|`(tactic| walk_at "s")=>`(tactic| exact{rfl,rfl,rfl,by decide +kernel,rfl,by decide +kernel,by decide +kernel})
local macro_rules|`(tactic| walk_at "l")=>`(tactic| first|exact L2.X7 _|(rintro _ _ _ ⟨_,e,_⟩;rw[e];rfl)|(rintro _ _ _ ⟨_,_,e,_⟩;rw[e];rfl)|(rintro _ _ _ ⟨_,_,_,e,_⟩;rw[e];rfl)|(rintro _ _ _ ⟨_,_,_,_,e,_⟩;rw[e];rfl)|(rintro _ _ _ ⟨_,_,_,_,_,e,_⟩;rw[e];rfl)|(rintro _ _ _ ⟨_,_,_,_,_,_,e,_⟩;rw[e];rfl)|(rintro _ _ _ ⟨_,_,_,_,_,_,_,e,_⟩;rw[e];rfl)|(rintro _ _ _ ⟨_,_,_,_,_,_,_,_,e,_⟩;rw[e];rfl)|(rintro _ _ _ ⟨_,_,_,_,_,_,_,_,_,e,_⟩;rw[e];rfl)|(rintro _ _ _ ⟨_,_,_,_,_,_,_,_,_,_,e,_⟩;rw[e];rfl)|(rintro _ _ _ ⟨_,_,_,_,_,_,_,_,_,_,_,e,_⟩;rw[e];rfl))
local macro_rules|`(tactic| walk_at "x")=>`(tactic| (intro _;walk_at "l"))
local macro_rules|`(tactic| walk_at "b")=>`(tactic| (intro _ _ _ _ _ _ us hl;(repeat (obtain⟨_,_,e,h⟩:=V5 hl;clear hl;subst e;have hl:=h;clear h));cases List.eq_nil_of_length_eq_zero hl;rfl))
section
variable {f:Addr}{fd:FuncData}{x q:Str}{st:Stmt}{ps:WS}(V:V_)(k:Nat)(N:WS)
theorem W_{sp:vt}{t:bD}(F:Y0 V.K x q st f fd)(j:_f sp t N.length)(h:FV V k N q st f t)(U:aX N ps (qy st):=by walk_at "s")(len:∀ys L Q,sp ys L Q->ys.length=ps.length:=by walk_at "l"):Zg V.P V.w V.K V.mg V.base (k+1) f fd ps sp:=
 QN F U len λJ A I s H E g=>{t,h J A I s H E g U.nd<|G4 g,j}
theorem M_{sp:vt}{t:bD}(I:∃h:W4,V.K.In h/\h.Ns mainGlobals V.mg)(D:j9 V.K x st)(J:_f sp t N.length)(h:∀f,FV V k N x st f t)(U:aX N ps (qy st):=by walk_at "s")(len:∀ys L Q,sp ys L Q->ys.length=ps.length:=by walk_at "l")(g:Gk x st ps:=by walk_at "b"):Q_ V (k+1) x ps sp:=by obtain⟨_,X,G⟩:=I;obtain⟨f,fd,F,b,m⟩:=D.use X G g;exact Yz.of (W_ V k N F J (h f) U len) b F.kp m
theorem R_{sp:Nat->vt}{t:Nat->bD}(I:∃h:W4,V.K.In h/\h.Ns mainGlobals V.mg)(D:j9 V.K x st)(no:∀ys L Q,¬sp 0 ys L Q)(J:∀n ys L Q,sp (n+1) ys L Q->xq (t n) N.length ys L Q)(h:∀n f,Q_ V (n+k) x ps (sp n)->FV V (n+k) N x st f (t n))(n:Nat)(U:aX N ps (qy st):=by walk_at "s")(len:∀n ys L Q,sp n ys L Q->ys.length=ps.length:=by walk_at "x")(g:Gk x st ps:=by walk_at "b"):Q_ V (n+k) x ps (sp n):=by
 obtain⟨_,X,G⟩:=I;obtain⟨f,fd,F,b,m⟩:=D.use X G g
 induction n with|zero=>exact Yz.of (Zg.never no) b F.kp m|succ n j=>rw[Nat.add_right_comm];exact Yz.of (W_ V (n+k) N F (J n) (h n f j) U<|len _) b F.kp m
theorem X_{sp:mL}{t:X3->bD}(U:∃h:W4,V.K.In h/\h.Ns mainGlobals V.mg)(D:j9 V.K x st)(g:∀ys L Q E,sp ys L Q E->xq (t<|ES E) N.length ys L Q)(h:∀f,∀(eW:W0) (A:Around) (outer:List Env) (s:W1) (H:Hp) (E:XK) (E3:X3),aR k (A.deeper<|PyProof.Rows.envOfC x (qy st) s.heap.objs.size f eW)->cB (fN (h_ V.P V.w) V.P V.w V.K V.mg V.base N x (qy st) f eW A outer s H E) (ER ⟨V.K,V.P,V.w⟩ E3)->N.Nodup->(A.deeper<|PyProof.Rows.envOfC x (qy st) s.heap.objs.size f eW).units+128<cLine->uD (fN (h_ V.P V.w) V.P V.w V.K V.mg V.base N x (qy st) f eW A outer s H E) (x8 st) (t E3))(I:aX N ps (qy st):=by walk_at "s")(len:∀ys L Q E,sp ys L Q E->ys.length=ps.length:=by walk_at "x")(j:Gk x st ps:=by walk_at "b"):l8 V.P V.w V.K V.mg V.base (k+1) x ps sp:=by obtain⟨_,X,G⟩:=U;obtain⟨f,fd,F,b,m⟩:=D.use X G j;exact{_,_,Rv F I len (λeW A outer s H E E3 J l=>h f eW A outer s H E E3 J l I.nd<|G4 J) g,b,F.kp,m}
theorem T_{sp:vt}{t:bD}(U:∃h:W4,V.K.In h/\h.Ns mainGlobals V.mg)(D:Xn V.K x st V.Pt)(g:_f sp t N.length)(h:∀f,∀(eW:W0) (A:Around) (outer:List Env) (s:W1) (H:Hp) (E:XK),Fl V.K eW V.Pt->aR k (A.deeper<|PyProof.Rows.envOfC x (qy st) s.heap.objs.size f eW)->N.Nodup->(A.deeper<|PyProof.Rows.envOfC x (qy st) s.heap.objs.size f eW).units+128<cLine->uD (fN Yr V.P V.w V.K V.mg V.base N x (qy st) f eW A outer s H E).Y4 (x8 st) t)(I:aX N ps (qy st):=by walk_at "s")(len:∀ys L Q,sp ys L Q->ys.length=ps.length:=by walk_at "l")(j:Gk x st ps:=by walk_at "b"):Q_ V (k+1) x ps sp:=by obtain⟨_,X,G⟩:=U;obtain⟨f,fd,F,b,m⟩:=D.use X G j;exact Yz.of (TR F I len λeW A outer s H E C J=>{t,h f eW A outer s H E C J I.nd<|G4 J,g}) b F.kp m
end
section
variable {V:V_}(B:B_ V)
include B
theorem d1:FU V (aJ):=M_ V _ _ B.hp B.D0 xD<|(qP).2 V B.toB0_ ⟨⟩
theorem d2:Hi V (a9 120):=R_ V _ _ B.hp B.D1 Td Tc (λn=>(uT _ _).2 V B.toB0_ (d1 B) n) 120
theorem d3:Jp V (x4 120):=R_ V _ _ B.hp B.D2 oF xH (λn=>(qF _ _).2 V B.toB0_ (d1 B) n) 120
theorem d4:Hj V (fP):=M_ V _ _ B.hp B.D3 Vc<|(iz _).2 V B.toB0_<|d1 B
theorem d5:Hk V (dD):=M_ V _ _ B.hp B.D4 VC<|(oH _).2 V B.toB0_<|d1 B
theorem d6:Jq V (bw):=M_ V _ _ B.hp B.D5 VH<|(nW _).2 V B.toB0_<|d5 B
theorem d7:Hl V (im):=M_ V _ _ B.hp B.D6 UH<|(lL).2 V B.toB0_ ⟨⟩
theorem d8:Hm V (bZ):=M_ V _ _ B.hp B.D7 VE<|(ln).2 V B.toB0_ ⟨⟩
theorem d9:Jr V (i3):=M_ V _ _ B.hp B.D8 VF<|(lC _ _).2 V B.toB0_ {(d5 B),(d8 B)}
theorem ZE:Rx V (i7):=M_ V _ _ B.hp B.D9 VG<|(lA _).2 V B.toB0_<|d9 B
theorem V6:Js V (gF):=M_ V _ _ B.hp B.D10 Vk<|(wF _ _).2 V B.toB0_ {(d2 B),(d4 B)}
theorem V7:Ry V (aq):=M_ V _ _ B.hp B.D11 wC<|(lu _ _ _).2 V B.toB0_ {(V6 B),(d4 B),(d7 B)}
theorem V8:Jt V (iS):=M_ V _ _ B.hp B.D12 VI<|(i4 _).2 V B.toB0_<|d6 B
theorem V9:Ju V (eL):=M_ V _ _ B.hp B.D13 wT<|(uE _ _ _).2 V B.toB0_ {(V8 B),(d3 B),(d2 B)}
theorem V':Rz V (bv):=M_ V _ _ B.hp B.D14 xX<|(nV _ _ _).2 V B.toB0_ {(V9 B),(d8 B),(d7 B)}
theorem Gv:RA V (aw V.Ca):=X_ V 0 ["holds","words"] (t:=(λI=>oU V.Ca I)) B.hp B.D15 tU λ_ _ _ _ _ _ _ _ U J hN g=>(qe<|zo (gw<|km<|qv 0) (qe<|Rt B.x_BadWeb rfl B.md rfl J rfl<|jm<|qv 1) zg)
theorem HN:RB V (dR V.Ca):=X_ V 124 ["web","knots"] (t:=(λU=>vS U (aw V.Ca) (i7) (bZ) (bw) (aq)<|bv)) B.hp B.D16 VL λ_ _ _ _ _ _ _ _ I J hN g=>(qb (S_ 1 hN<|J_ 0)<|qb (qz<|qL ((Gv B).mono (by decide)) I rfl J rfl<|vj (C_ (ZE B) I<|jm<|qv 1) jd)<|qb (qz<|qL ((Gv B).mono (by decide)) I rfl J rfl<|vj (C_ (d8 B) I<|jm<|C_ (d6 B) I<|jm<|qv 1) jd)<|qb (qz<|qL ((Gv B).mono (by decide)) I rfl J rfl<|vj (C_ (V7 B) I<|vj (qv 1)<|J_ 0) jd)<|qb (qz<|qL ((Gv B).mono (by decide)) I rfl J rfl<|vj (C_ (V' B) I<|vj (qv 1)<|J_ 0) jd)<|qe<|qu cV)
theorem Ks:RC V (dm):=M_ V _ _ B.hp B.D17 wO<|(fY).2 V B.toB0_ ⟨⟩
theorem Wa:RE V (fz 124):=R_ V _ _ B.hp B.D18 sv Th (λn=>(lV _).2 V B.toB0_ ⟨⟩ n) 124
theorem u_:Ho V (cr):=M_ V _ _ B.hp B.D19 Te<|(oJ).2 V B.toB0_ ⟨⟩
theorem Wb:Jv V (iX):=M_ V _ _ B.hp B.D20 Uf<|(vE).2 V B.toB0_ ⟨⟩
theorem HQ:Jw V (x4 120):=R_ V _ _ B.hp B.D21 tH vT (λn=>(lU _).2 V B.toB0_ ⟨⟩ n) 120
theorem Gw:Jx V (kw 120):=R_ V _ _ B.hp B.D22 VU VW (λn=>(zZ _).2 V B.toB0_ ⟨⟩ n) 120
theorem Wc:RF V (bT 120):=R_ V _ _ B.hp B.D23 oZ Tg (λn=>(gc _).2 V B.toB0_ ⟨⟩ n) 120
theorem We:RG V (af 5):=R_ V 122 [ng,"_law_word_here","_law_left","_law_right","_law_turn","_law_same_here","_law_low","_law_high"] B.hp B.D24 Tw (Tx (FS:=kw 120) λ_ _ _=>Or.inl) (λ_ _ I _ _ _ _ _ _ J hN U=>(qb (zo (E_ U (L_ B.ba<|qv 1) qd) (qb (qz<|ze (qv 0)<|jm<|C_ (Gw B) J<|jm<|qv 1)<|qb (qz<|ze (qv 0)<|jm<|qv 1)<|qe<|qu<|zj<|aA (qr<|aA jd (ql aB (L_ B.ba<|qv 0) qd)<|ql aB (L_ B.ba<|qv 0) qd) (ql aB (L_ B.ba<|qv 0) qd)<|ql aB (L_ B.ba<|qv 0) qd) zg)<|qb (S_ 2 hN<|C_ I J<|vj (qv 0)<|J_ 1)<|qb (S_ 3 hN<|C_ I J<|vj (qv 0)<|J_ 1)<|qb (qz<|ze (qv 0)<|jm<|qr<|aA (I_ (C_ (Gw B) J<|jm<|qv 1) qd) (J_ 2)<|J_ 3)<|qb (qz<|ze (qv 0)<|jm<|qr<|aA (J_ 1) (J_ 2)<|J_ 3)<|qb (Ja (i:=4) (j:=5) rfl hN rfl rfl (by decide) rfl rfl (vj (ql aB (L_ B.ba<|qv 0) qd)<|ql aB (L_ B.ba<|qv 0) qd) rfl)<|qb (S_ 6 hN<|fO (E_ U (J_ 1) jd) (qv 4)<|qv 5)<|qb (S_ 7 hN<|fO (E_ U (J_ 1) jd) (qv 5)<|qv 4)<|qe<|qu<|zj<|aA (qr<|aA jd (qv 7)<|qr<|jr jd<|aA (qv 6) (J_ 2)<|J_ 3) (qv 4)<|qv 5)) 5
theorem Wf:Jy V (nG):=M_ V _ _ B.hp B.D25 Uk<|(Ka).2 V B.toB0_ ⟨⟩
theorem Wg:Jz V (ip):=M_ V _ _ B.hp B.D26 Ul<|(Kb).2 V B.toB0_ ⟨⟩
theorem Wh:asg V (m7):=M_ V 127 [ng,"_law_forest","_law_one","_law_two","_law_first",ni,"_law_word_here","_law_second","_law_q","_law_at","_law_end","_law_rule","_law_same_here","_law_ends"] B.hp B.D27 (Us (FS:=kw 120) (MS:=af 5) (λ_ _ _=>Or.inl) λ_ _ _ h=>h) λ_ _ _ _ _ _ _ I hN J=>(qb (S_ 4 hN<|dC (qv 1)<|jm<|ql zw (qv 3)<|L_ B.ba<|qv 1)<|qb (aj (i:=5) hN rfl (Or.inr rfl)<|I_ (J_ 4)<|ql zw (ql kh (qv 3) qd)<|L_ B.ba<|J_ 4)<|qb (S_ 6 hN<|C_ (HQ B) I<|vj (qv 0)<|qv 5)<|qb (a8 (qr<|vj og og)<|kz rfl<|qw (G_ 7 hN)<|qw (bP (i:=8) hN rfl<|Or.inr rfl) v5)<|qb (aU ya rfl (ky rfl B.bh<|jm<|L_ B.ba<|qv 1) (G_ 9 hN)<|qe<|aU ya rfl (xx<|I_ (I_ (qv 1)<|qv 9) qd) (G_ 10 hN)<|qe<|zo (xo<|vf (gp<|qv 7)<|jx<|E_ J (C_ (HQ B) I<|vj (qv 0)<|qv 10)<|C_ (Gw B) I<|jm<|qv 6) (qe<|a8 (qr<|vj (I_ (qv 1)<|qv 9)<|qv 10)<|kz rfl<|qw (G_ 7 hN)<|qw (bP (i:=8) hN rfl<|Or.inr rfl) v5) zg)<|qb (zo (xo<|vf (gp<|qv 7)<|jx<|js FR (C_ (Wc B) I<|jm<|qv 6) qd<|jv _) (qb (qz<|ze (qv 1)<|jm<|qv 4)<|qe y0) zg)<|vk (zo (gp<|qv 7) (qb (a8 (C_ (We B) I<|vj (qv 0)<|qv 6)<|Sv rfl<|qw (G_ 11 hN)<|qw (bP (i:=8) hN rfl<|Or.inr rfl)<|qw (G_ 12 hN) v5)<|qe<|S_ 7 hN<|zj<|vj (qv 11)<|zj<|vj (qv 8)<|qv 12)<|qe<|qz<|Sx J (qv 1)<|jm<|qv 7)<|qb (aT ["_law_x"] (i:=13) hN rfl (Or.inl rfl) (EZ (by rfl)) rfl (xx<|ql jf (J_ 4)<|J_ 7) (dW d_ (λ_ _ _ _=>Or.inl rfl) λ_ _ _ _=>rfl) (λ_ _ _ _=>bJ<|js (sC _ _ _) (qv 14) (qr<|vj (qv 5)<|qv 8) (by with_unfolding_all rfl)) λ_ _ _ _=>(qv 14))<|qe<|zo (E_ J (ql zw (qv 2) qd) qd) (qe<|qz<|ze (qv 1)<|jm<|zj<|vj (qr<|jr jd<|jr (qv 5)<|aA (qv 8) (J_ 4)<|J_ 7)<|qv 13)<|qe<|qz<|ze (qv 1)<|jm<|zj<|vj (qr<|jr jd<|jr (qv 8)<|aA (qv 5) (J_ 7)<|J_ 4)<|qv 13)
theorem Wi:JA V (jB):=M_ V _ _ B.hp B.D28 Ut<|(Kf _ _ _ _ _).2 V B.toB0_ {(u_ B),(Wb B),(Wg B),(Wf B),(Wh B)}
theorem Wj:JB V (iH):=M_ V _ _ B.hp B.D29 UC<|(lS).2 V B.toB0_ ⟨⟩
theorem Wk:JC V (bW):=M_ V _ _ B.hp B.D30 yJ<|(ff).2 V B.toB0_ ⟨⟩
theorem Wl:RH V (dh):=M_ V _ _ B.hp B.D31 xO<|(fK).2 V B.toB0_ ⟨⟩
theorem Wm:JD V (dE):=M_ V 1 [ng,"_law_cuts",nu,"_law_most","_law_kept","_law_parts_here",nv,"_law_many","_law_made",ni,"_law_bits"] B.hp B.D32 UM λ_ _ _ _ _ _ _ J hN I=>(qb (S_ 4 hN<|C_ (Wl B) J<|vj (qv 0)<|qv 1)<|qb (S_ 5 hN<|zj xn)<|qb (aU ya rfl (xx<|qv 0) (G_ 6 hN)<|qe<|zo (E_ I (L_ B.ba<|qv 6) qd) (qe<|qz<|bR (qv 5)<|jm<|zj<|vj (J_ 6)<|J_ 6) zg)<|qb (nE "_law_knot'"<|aj (i:=7) d_ rfl (Or.inl rfl)<|L_ B.ba<|fB [nv] (EZ (by rfl)) rfl (xx<|qv 0) (dW d_ (λ_ _ _ _=>Or.inl rfl) λ_ _ _ _=>rfl) (λ_ _ _ _=>bJ<|E_ I (J_ 11) jd) λ_ _ _ _=>(qv 11))<|qb (S_ 8 hN<|zj xn)<|qb (aU ya rfl (m5 rfl B.bq<|qv 0) (kz rfl<|qw (G_ 9 hN)<|qw (G_ 6 hN) v5)<|qb (S_ 10 hN<|ql zw (C_ (u_ B) J<|aA (qv 2) (qv 9) qd) qd)<|qe<|zo (xo<|fJ (E_ I (L_ B.ba<|qv 6) qd)<|bX<|js (yc _ _ _) (qv 9) (qv 4) (by with_unfolding_all rfl)) (qe<|qz<|ze (qv 8)<|jm<|qv 6)<|qe<|zo (E_ I (ql zw (ql kh (qv 2) qd) qd) qd) (qe<|qz<|ze (qv 8)<|jm<|fO (xo<|vf (E_ I (ql zw (qv 10) qd) qd)<|jx<|js (sC _ _ _) (qv 9) (qv 5) (by with_unfolding_all rfl)) og<|qv 6)<|qe<|zo (xo<|vf (js jQ (qv 10) qd<|jv _)<|jx<|E_ I (J_ 6) jd) (qb (qz<|ze (qv 8)<|jm<|qr<|aA jd (J_ 6)<|J_ 6)<|qe<|S_ 7 hN<|ql aB (qv 7) qd)<|qe<|zo (xo<|vf (js jQ (qv 10) qd<|jv _)<|jx<|js jQ (qv 7) (qv 3)<|jv _) (qb (qz<|ze (qv 8)<|jm<|qr<|aA jd (J_ 6)<|J_ 6)<|qe<|S_ 7 hN<|ql jf (qv 7) qd)<|qe<|qz<|ze (qv 8)<|jm<|qv 6)<|qe<|qu<|qv 8)
theorem Wn:aug V (iP V.Pt):=T_ V 1 [ng,nu,"_law_keys",ni,nv,"_law_rank"] B.hp B.D33 Ud λ_ _ _ _ _ _ _ C I hN J=>(qb (aj (i:=2) hN rfl (Or.inr rfl)<|zj xn)<|qb (aU ya rfl (m5 rfl B.bq<|qv 0) (kz rfl<|qw (G_ 3 hN)<|qw (G_ 4 hN) v5)<|qb (S_ 5 hN<|ql zw (C_ (u_ B) I<|aA (qv 1) (qv 3) qd) qd)<|vk (zo (xo<|vf (m8<|qv 4)<|jx<|E_ J (L_ B.ba<|qv 4) qd) (qe<|S_ 5 hN<|ql jf (ql jf (qv 5) qd)<|j5 Ga rfl B.bj sK<|vj (I_ (qv 2)<|J_ 4)<|I_ (qv 2)<|J_ 4) zg)<|qe<|qz<|ze (qv 2)<|jm<|qv 5)<|qe<|qu<|TQ rfl B.bg (wQ rfl rfl B.bi rfl B.bh<|L_ B.ba<|qv 0) {rfl,rfl,rfl,by decide +kernel,rfl,rfl,by decide,by decide,by decide} C (Ua I) rfl rfl rfl {_,rfl,rfl} rfl λ_ _ _ _ _ _ _=>rfl)
theorem Wo:JE V (dS V.Pt):=M_ V 2 [ng,"_law_links","_law_cuts",nu,"_law_gaps","_law_at","_law_wide",ni,nv] B.hp B.D34 Uv λ_ _ _ _ _ _ _ J hN I=>(qb (aj (i:=5) hN rfl (Or.inr rfl) Se)<|qb (S_ 6 hN<|zj xn)<|qb (aU ya rfl (xx<|C_ (Wn B) J<|vj (qv 0)<|qv 3) (G_ 7 hN)<|vk (zo (xo<|vf (km<|qv 4)<|jx<|E_ I (ql zw (C_ (u_ B) J<|aA (qv 3) (qv 7) qd) qd) qd) (qe<|qz<|ze (qv 6)<|jm og) zg)<|qb (Sf I (qv 5) (qv 7)<|L_ B.ba<|qv 6)<|qb (S_ 8 hN<|I_ (qv 0)<|qv 7)<|vk (zo (xo<|vf (m8<|qv 8)<|jx<|E_ I (L_ B.ba<|qv 8) qd) (qe<|S_ 8 hN<|qr<|aA (J_ 8) (cR I (qv 5) (J_ 8) λ_ _=>rfl)<|cR I (qv 5) (J_ 8) λ_ _=>rfl) zg)<|qe<|qz<|ze (qv 6)<|jm<|qv 8)<|qb (nE "_law_p'"<|aj (i:=1) d_ rfl (Or.inl rfl)<|j5 ak rfl B.bg k8<|jm<|fB [ni,"_law_q" ] (EZ (by rfl)) rfl (xx<|qv 1) (sh rfl d_ (λ_ _ _ _=>rfl) λ_ _ _ _=>rfl) (λ_ _ _ _=>eQ) λ_ _ _ _=>(qr<|vj (j5 Gb rfl B.bp sE<|vj (cR I (qv 5) (qv 9) λ_ _=>rfl)<|cR I (qv 5) (qv 10) λ_ _=>rfl)<|j5 Ga rfl B.bj sK<|vj (cR I (qv 5) (qv 9) λ_ _=>rfl)<|cR I (qv 5) (qv 10) λ_ _=>rfl))<|qb (nE "_law_p'"<|aj (i:=2) d_ rfl (Or.inl rfl)<|j5 ak rfl B.bg k8<|jm<|fB [ni,"_law_q" ] (EZ (by rfl)) rfl (xx<|qv 2) (sh rfl d_ (λ_ _ _ _=>rfl) λ_ _ _ _=>rfl) (λ_ _ _ _=>eQ) λ_ _ _ _=>(qr<|vj (cR I (qv 5) (qv 9) λ_ _=>rfl)<|cR I (qv 5) (qv 10) λ_ _=>rfl))<|qe<|qu<|qr<|aA (ql jf (qv 6)<|fB ["_law_k"] (EZ (by rfl)) rfl (ky rfl B.bh<|jm<|iw SI rfl B.br wY<|jm<|qv 4) (dW d_ (λ_ _ _ _=>Or.inl rfl) λ_ _ _ _=>rfl) (λ_ _ _ _=>eQ) λ_ _ _ _=>og) (qv 1)<|qv 2)
theorem Wp:RI V (tE V.Pt):=M_ V _ _ B.hp B.D35 UT<|(hJ _ _ _ _ _ _).2 V B.toB0_ {(u_ B),(Wi B),(Wj B),(Wk B),(Wm B),(Wo B)}
theorem A_:Hq V (eO):=M_ V _ _ B.hp B.D36 UY<|(lw).2 V B.toB0_ ⟨⟩
theorem Wq:JF V (mR):=M_ V 1 [nq,"_law_way","_law_one","_law_two",ng,"_law_links","_law_cuts","_law_large","_law_r","_law_kind","_law_i","_law_j","_law_many","_law_made"] B.hp B.D37 VQ λ_ _ _ _ _ _ _ J hN I=>(qb (a8 (C_ (A_ B) J<|jm<|qv 0)<|kz rfl<|qw (bP (i:=4) hN rfl<|Or.inr rfl)<|qw (G_ 5 hN)<|qw (G_ 6 hN) v5)<|qb (nE "_law_r'"<|aT ["_law_r"] (i:=7) d_ rfl (Or.inl rfl) (EZ (by rfl)) rfl (ky rfl B.bh<|jm<|L_ B.ba<|qv 4) (dW d_ (λ_ _ _ _=>Or.inl rfl) λ_ _ _ _=>rfl) (λ_ _ _ _=>bJ<|xo<|vf (m8<|I_ (qv 4)<|qv 14)<|jx<|E_ I (L_ B.ba<|I_ (qv 4)<|qv 14) qd) λ_ _ _ _=>(qv 14))<|qb (zo (E_ I (qv 7)<|zj xn) (qe<|qu<|qr<|aA (ql jf (qv 4)<|zj<|jm<|qr<|aA jd (I_ (J_ 5) qd)<|I_ (J_ 5) qd) (qv 5)<|qv 6) zg)<|qb (S_ 8 hN<|I_ (qv 7)<|ql zw (qv 2)<|L_ B.ba<|qv 7)<|qb (a8 (I_ (qv 4)<|qv 8)<|kz rfl<|qw (bP (i:=9) hN rfl<|Or.inr rfl)<|qw (bP (i:=10) hN rfl<|Or.inr rfl)<|qw (G_ 11 hN) v5)<|qb (S_ 12 hN<|L_ B.ba<|qv 4)<|qb (S_ 13 hN<|zj<|jr (qr<|aA (qv 9) (qv 8)<|qv 11)<|jr (qr<|aA (qv 9) (ql aB (qv 10)<|qv 12)<|qv 11)<|aA (qr<|aA (qv 9) (qv 10)<|ql jf (qv 12)<|qv 3) (qr<|aA (qv 9) (qv 11)<|qv 11)<|qr<|aA (qv 9) (qv 10)<|ql aB (qv 11)<|qv 12)<|qb (S_ 13 hN<|ql jf (ql jf (qv 13)<|zj<|jm<|qr<|aA (qv 9) (ql aB (qv 12) qd)<|qv 11)<|bu (vN _ _ _) (fB ["_law_x"] (EZ (by rfl)) rfl (ky rfl B.bh<|jm<|qv 8) (dW d_ (λ_ _ _ _=>Or.inl rfl) λ_ _ _ _=>rfl) (λ_ _ _ _=>bJ<|gp<|I_ (qv 4)<|qv 14) λ_ _ _ _=>(qr<|aA (qv 9) (qv 10)<|qv 14)) gN<|cO qd)<|vk (zo (E_ I (qv 1) qd) (qe<|qz<|ze (qv 4)<|jm<|qr<|aA jd (qv 10)<|qv 8)<|qe<|am (qv 4) (qv 8)<|I_ (qv 13)<|ql zw (qv 1)<|L_ B.ba<|qv 13)<|qe<|qu<|qr<|aA (qv 4) (qv 5)<|qv 6)
theorem Wr:JG V (gK):=M_ V _ _ B.hp B.D38 VS<|(iu).2 V B.toB0_ ⟨⟩
theorem Ws:JH V (nO):=M_ V _ _ B.hp B.D39 V0<|(cN _ _ _).2 V B.toB0_ {(A_ B),(HQ B),(Gw B)}
theorem Wt:JI V (tG):=M_ V _ _ B.hp B.D40 V1<|(eY _ _ _).2 V B.toB0_ {(A_ B),(Wr B),(Ws B)}
theorem Wu:RJ V (iM):=M_ V _ _ B.hp B.D41 V2<|(vD _ _).2 V B.toB0_ {(Wq B),(Wt B)}
theorem Kt:RK V (dk):=M_ V 125 [nq,"_law_good","e","_law_others"] B.hp B.D42 (wR B.xf) λ_ _ _ _ _ _ _ I hN J=>(qb (S_ 1 hN cV)<|qb (RN (i:=2) rfl rfl rfl hN rfl rfl rfl B.md (RM ((HN B).mono (by decide)) I rfl rfl λ_ _=>(jm<|qv 0)) λ_=>(qb (S_ 3 hN<|RQ rfl B.bf (qv 2) (aW (cw rfl B.mj)<|aW (cw rfl B._n)<|aW (cw rfl B.mm)<|aW (cw rfl B._o)<|aW (cw rfl B._p)<|aW (cw rfl B._q)<|aW (cw rfl B.mh)<|aW (cw rfl B._r)<|aW (cw rfl B.mw) RP) rfl<|Cs rfl)<|qe<|S_ 1 hN<|wm (uP rfl B.bf (qv 2) (cw rfl B._s) rfl)<|wm (uP rfl B.bf (qv 2) (zE rfl B.b_ValueError pK) rfl)<|bG<|QD<|qv 3))<|qe<|qu<|qv 1)
theorem dL{f:Addr}{fd:FuncData}(F:Y0 V.K "law" "law" tR f fd):Zg V.P V.w V.K V.mg V.base 131 f fd [nh] (mX V.Pt XD):=
 W_ V 130 [nh,nu,nq,"_law_k","_law_two","_law_bad","_law_handed"] F V4 λ_ _ _ _ _ _ I hN J=>(qb (S_ 1 hN<|ql zw (C_ (Ks B) I<|vj (qv 0) qd)<|ql IW qd qd)<|qb (S_ 2 hN<|C_ (Wp B) I<|jr (qv 0)<|aA (qv 1) qd qd)<|qb (aU ya rfl (ky rfl B.bh<|jm qd) (G_ 3 hN)<|qb (S_ 4 hN<|C_ (u_ B) I<|aA (ql jf (ql zw (C_ (Ks B) I<|vj (qv 0)<|qv 3)<|ql IW qd qd)<|qv 1) (ql jf qd<|qv 3) qd)<|qb (S_ 5 hN<|C_ (Wu B) I<|jr (qv 2)<|aA (C_ (u_ B) I<|aA (qv 1) (ql jf qd<|qv 3) qd) (C_ (u_ B) I<|aA (qv 1) (ql jf qd<|qv 3) qd)<|qv 4)<|qb (S_ 6 hN<|C_ (A_ B) I<|jm<|qv 2)<|qb (zo (xo<|fJ (xo<|vf (E_ J (ql zw (ql kh (qv 4) qd) qd) qd)<|jx<|js Km (qL ((HN B).mono (by decide)) I rfl JN rfl<|jm<|qv 6) cV<|jv _)<|bX<|N_ J (qv 6)<|qv 2) (qe<|qu cV) zg)<|qb (S_ 6 hN<|C_ (A_ B) I<|jm<|qv 5)<|qb (zo (xo<|fJ (gw<|km<|C_ (Kt B) I<|jm<|qv 6)<|bX<|gw<|km<|C_ (Wa B) I<|vj (qv 6)<|qv 5) (qe<|qu cV) zg)<|qe<|zo (xo<|fJ (js Km (qL ((HN B).mono (by decide)) I rfl JN rfl<|jm<|C_ (A_ B) I<|jm<|qv 2) cV<|jv _)<|bX<|gw<|km<|C_ (Kt B) I<|jm<|C_ (A_ B) I<|jm<|qv 5) (qe<|qu cV) zg)<|qe<|qu cV)
end
theorem all_mk{l:PySem.W.OpenLaw}{w:W3}{K:Af}{h:W4}{mg:WM}{fa:Addr}{J:Addr}{a3:Option Addr}{a4:Nat}{a5:Array<|WW}{a1 a2:Tok}{I:Addr}{T:Nat}{U g j o p r t C:Tok}{Ca:Addr}{Cl:Addr}{Ce:Addr}{Ci:Addr}{Ch:Addr}{Cf:Addr}{Cg:Addr}{Cd:Addr}{Ck:Addr}{Cc:Addr}{Cj:Addr}{Pt:Addr}(X:K.In h)(G:h.Ns mainGlobals mg)(ac:mg "law"=some (.ref fa))
 (D:DD K)
 (D33:Xn K "_law_order" SC Pt)
 (zA5:nk K "LEAF_KINDS"=some (some<|.ref J))
 (zA6:K.lookup J=some ⟨.type "tuple",a3,.seq #[.str "plain" a1,.str "turned" a2] a4,a5⟩)
 (zA1:nk K "TURNED_KINDS"=some (some<|.ref I))
 (zA2:K.lookup I=some ⟨.type "dict",none,.dict ((([("plain",U,"turned",p),("turned",g,"plain",r),("both",j,"either",t),("either",o,"both",C)]:List<|Str×Tok×Str×Tok).map<|yZ w).toArray) T,#[]⟩)
 (zA3:(I==sysModules)=false)
 (aCBadWeb:nk K "BadWeb"=some (some<|.ref Ca))
 (aCNoWord:nk K "NoWord"=some (some<|.ref Cl))
 (aCBadText:nk K "BadText"=some (some<|.ref Ce))
 (aCBadTree:nk K "BadTree"=some (some<|.ref Ci))
 (aCBadChoices:nk K "BadChoices"=some (some<|.ref Ch))
 (aCNoTree:nk K "NoTree"=some (some<|.ref Cf))
 (aCNoCut:nk K "NoCut"=some (some<|.ref Cg))
 (aCNoExchange:nk K "NoExchange"=some (some<|.ref Cd))
 (aCOtherWeb:nk K "OtherWeb"=some (some<|.ref Ck))
 (aCTooMany:nk K "TooMany"=some (some<|.ref Cc))
 (aCOnceError:nk K "OnceError"=some (some<|.ref Cj))
 (qCBadWeb:PySem.W.excIn K Ca [.type "ValueError",.type "Exception",.type "BaseException",.type "object"] "ValueError.__new__"=true)
 (xf:L2.XZ K Ca Cl Ce Ci Ch Cf Cg Cd Ck Cc Cj)
 (zlen:nk K "len"=some none)
 (zset:nk K "set"=some none)
 (zall:nk K "all"=some none)
 (zrange:nk K "range"=some none)
 (zany:nk K "any"=some none)
 (zenumerate:nk K "enumerate"=some none)
 (zsorted:nk K "sorted"=some none)
 (zisinstance:nk K "isinstance"=some none)
 (zbool:nk K "bool"=some none)
 (zlist:nk K "list"=some none)
 (ztuple:nk K "tuple"=some none)
 (zzip:nk K "zip"=some none)
 (zint:nk K "int"=some none)
 (zstr:nk K "str"=some none)
 (zmax:nk K "max"=some none)
 (zmin:nk K "min"=some none)
 (zValueError:nk K "ValueError"=some none):
 ∃fd:FuncData,(∀(s:W1) (v:W0),BindsTo s fd ⟨[v],[]⟩ [(nh,v)])/\∀base:W4,K.In base->base.Ns mainGlobals mg->bV l.prog w K mg base Yr 131 fa fd [nh] (XQ XD K Pt):=by
 obtain⟨fL,kV,al,pm,an,ay,ct,aL,FL⟩:=D.D43.ex;have e:=ac.symm.trans<|Bw X G aL;cases e;refine{PySem.W.fnOf "law" "law" (w4 tR) (x8 tR) (qy tR) .none kV al pm an ay ct,λs v=>.of_eq rfl,λbase _ _=>?_};have B:B_ ⟨l.prog,w,K,mg,base,Pt,Ca,Cl,Ce,Ci,Ch,Cf,Cg,Cd,Ck,Cc,Cj⟩:={{A6 X G zlen,A6 X G zset,A6 X G zall,A6 X G zrange,A6 X G zany,A6 X G zenumerate,A6 X G zsorted,A6 X G zisinstance,A6 X G zbool,A6 X G zlist,A6 X G ztuple,A6 X G zzip,A6 X G zint,A6 X G zstr,A6 X G zmax,A6 X G zmin,A6 X G zValueError,{J,Bw X G zA5,λH=>{J,[V.str "plain",V.str "turned"],rfl,.inr {_,_,_,zA6,rfl,rfl,by show 2<=sizeLine;decide,.cons {_,rfl}<|.cons {_,rfl}<|.nil},{_,_,rfl,rfl,{_,_,rfl,rfl,rfl}}}},{I,Bw X G zA1,λH=>{I,rfl,PU _ zA2 zA3 (by show 4<=1000;decide) (by show List.Nodup ([Sum.inr "plain",Sum.inr "turned",Sum.inr "both",Sum.inr "either"]:W8);decide +kernel)}}},D,{(h),X,G},D33,Bw X G aCBadWeb,Bw X G aCNoWord,Bw X G aCBadText,Bw X G aCBadTree,Bw X G aCBadChoices,Bw X G aCNoTree,Bw X G aCNoCut,Bw X G aCNoExchange,Bw X G aCOtherWeb,Bw X G aCTooMany,Bw X G aCOnceError,xA qCBadWeb,xf};exact bV.imp (dL B FL) λvs H Q E q=>TU q
theorem Y6{K:Af}{x:Str}{st:Stmt}{f Pt:Addr}{oc:W0}{od an:Option Addr}{pR:Array<|WW}{kV hQ pm eW ct:W0}(a:nk K x=some (some<|.ref f))
 (l:K.lookup f=some ⟨oc,od,.func<|PySem.W.fnOf x x (w4 st) (x8 st) (qy st) .none kV hQ pm an eW ct,pR⟩) (c:PySem.W.codeIn K eW x=true) (k:PySem.W.keepIn K (.ref f)=true) (C:Fl K eW Pt):Xn K x st Pt:=
 ⟨f,kV,hQ,pm,an,eW,ct,a,⟨⟨oc,od,kV,hQ,pm,an,eW,ct,pR,rfl,l,c,C⟩,k⟩⟩
end K17
namespace H17
noncomputable section
open PySem PySem.W PySem.W.X L2 PyProof.Rows
abbrev rr:=PySem.Challenge.rw_oncewise_k17_spoilt_knots_and_cuts
abbrev p:W2:=PySem.Challenge.pw_oncewise_k17_spoilt_knots_and_cuts
abbrev top:=L2.top
abbrev Ku(i k:Nat):Stmt:=(Sg<|top i).getD k<|.Pass {0,0,0,0}
abbrev s(x:W5):Str:=Str.ofString x
noncomputable abbrev S (x:W5) (t:Tok):W0:=.str (Str.ofString x) t
noncomputable abbrev I (i:Int) (t:Tok):W0:=.int i t
noncomputable abbrev R (a:Addr):W0:=.ref a
abbrev E(P:Params)(k:W5)(t:Tok)(v:W0):DictEntry:={PyData.keyHash P<|Str.ofString k,.str (Str.ofString k) t,v}
noncomputable abbrev O (c:W0) (d:Data):Obj:={c,none,d,#[]}
abbrev FN(n q:W5)(st:Stmt)(I kV hQ pm:W0)(an:Option Addr)(cd ct:W0):FuncData:=fnOf (Str.ofString n) (Str.ofString q) (w4 st) (x8 st) (qy st) I kV hQ pm an cd ct
abbrev FG(n q:W5)(st:Stmt):FuncData:={fnOf (Str.ofString n) (Str.ofString q) (w4 st) (x8 st) (qy st) .none .none .none .none none .none .none with globals:=0}
abbrev lt(l:List (Int×Nat)):Array Value:=(l.flatMap λx=>[I x.1 0,I 0 0,R x.2]).toArray
abbrev tu(l:WQ):Params->Obj:=λ_=>O (.type "tuple")<|.seq l 0
abbrev tn(k:Nat)(l:List String):Params->Obj:=tu ((l.zipIdx k).map λx=>S x.1 x.2).toArray
abbrev fo(f:FuncData):Params->Obj:=λ_=>O (.type "function")<|.func f
abbrev go(f:FuncData):Params->Obj:=λ_=>O .none<|.func f
abbrev co(n q:W5)(t l a b c fl v:Nat)(o:Bool)(m k:Nat)(x y z u:W0)(d:Nat):Params->Obj:=λ_=>O (.type "code")<|.fields #[S n t,S q<|t+1,S "/claim/cut.py"<|t+2,I l 0,I a 0,I b 0,I c 0,I fl 0,R v,.bool o,I m 0,R k,x,y,z,u,I d 0,I l 0,S "/claim/cut.py"<|d+1]
abbrev kF:W0:=S "law_oncewise_k17_spoilt_knots_and_cuts" 527
abbrev wZ:W0:=S "oncewise.webs" 410
abbrev Kv:W0:=S "oncewise.words" 377
abbrev fX(n:W5)(i:Nat)(m:W0)(r:Nat):Params->Obj:=fo<|FN n n (top i) .none .none .none m none (R r) .none
abbrev gX(n:W5)(i:Nat):Params->Obj:=go<|FG n n<|top i
abbrev cF(n:W5)(t l a v d:Nat):Params->Obj:=co n n t l a 0 0 3 v true 181 (v+1) .none (R<|v+2) (R<|v+3) (R<|v+4) d
abbrev cC(n:W5)(t l v d:Nat):Params->Obj:=co n n t l 0 0 0 0 v false 181 (v+1) .none .none .none .none d
abbrev cS(n:W5)(a ns k t v:Nat):Params->Obj:=λ_=>{.type "type",none,.cls<|ClassData.mk (s n) [R 24] [R a,R 24,.type "ValueError",.type "Exception",.type "BaseException",.type "object"] ns (s n) true [] [] false none false,#[some<|R k,none,some<|S n t,some<|S n v,some<|.builtin "ValueError.__new__",some<|.bool true]}
abbrev dA(P:Params)(a b:Nat)(l:Int)(c d r e:Nat):Obj:=O (.type "dict")<|.dict #[E P "__module__" a<|S "oncewise.errors" 187,E P "__firstlineno__" b<|I l c,E P "__static_attributes__" d<|R r,E P "__doc__" e .none] 2
abbrev dB(P:Params)(a q:Nat)(n:W5)(J b:Nat)(l:Int)(c d r:Nat):Obj:=O (.type "dict")<|.dict #[E P "__module__" a<|S "oncewise.errors" 187,E P "__qualname__" q<|S n J,E P "__firstlineno__" b<|I l c,E P "__static_attributes__" d<|R r] 4
abbrev fR(a b:Nat):Params->Obj:=λ_=>{.type "frame",none,.plain,#[some<|R a,some<|R 3,some<|R b,none,some<|S "oncewise.errors" 187,none,some<|R 0]}
abbrev bI(a:Nat):Params->Obj:=λ_=>O (.type "builtin_function_or_method")<|.fields #[.builtin "object.__init_subclass__",R a]
abbrev sU(a:Nat):Params->Obj:=λ_=>O (.type "super")<|.fields #[R a,R a,R a]
abbrev Ob:=Params->Obj
def ev{α:Type}:Bool->List α->List α
 |_,[]=>[]
 |true,x::r=>x::ev false r
 |false,_::r=>ev true r
def bt:Nat->List Obj->BT
 |0,_=>.nil
 |_,[]=>.nil
 |n+1,x::r=>.node x (bt n<|ev true r)<|bt n<|ev false r
def Yb:Env:={scope:=p.main.scope,locals:=mainNs,globals:=mainNs,cells:=[],code:=.ref 13,frame:=some 14}
abbrev cE:Code:=.body (behindTheImports p) Yb
abbrev q0:Pos:={0,0,0,0}
abbrev an:WW:=some<|.ref 6
abbrev Pc(n:Nat)(S I:W3->OsState->SharedT)(l:WU)(q J:Pos)(w:W3):Prop:=(λos=>segRunT treeTable p w 11 an 1 n (S w os)<|piecesOf l Yb cE q [topFrame q0])=λos=>some (Flow.next,I w os,cE,J)
abbrev b0:=PySem.W.boot_o_0
abbrev b1:=PySem.W.boot_o_1
abbrev b2:=PySem.W.boot_o_2
abbrev b3:=PySem.W.boot_o_3
abbrev b4:=PySem.W.boot_o_4
abbrev b5:=PySem.W.boot_o_5
abbrev b6:=PySem.W.boot_o_6
abbrev b7:=PySem.W.boot_o_7
abbrev b8:=PySem.W.boot_o_8
abbrev b9:=PySem.W.boot_o_9
abbrev Gx:=PySem.W.boot_o_10
def xz:=tu #[]
def aZ:Ob:=λ_=>O .none<|.fields #[]
def Gy:=cC "<module>" 182 1 11 185
def HR:Ob:=λ_=>{(.type "frame"),none,.plain,#[(some<|R 13),(some<|R 3),(some<|R 3),none,(some<|S "__main__" 164),none,(some<|R 0)]}
def Kw:Ob:=λP=>O (.type "dict")<|.dict #[(E P "__module__" 196<|S "oncewise.errors" 187),(E P "__firstlineno__" 200<|I 2 199),(E P "__static_attributes__" 201<|R 22),(E P "__weakref__" 203<|R 25),(E P "__doc__" 204 .none)] 3
def Kx:Ob:=λ_=>O (.type "getset_descriptor")<|.fields #[S "__weakref__" 202,R 24,(.builtin "ExceptionGroup.__weakref__"),.none]
def k_:Ob:=λ_=>O (.type "builtin_function_or_method")<|.fields #[(.builtin "type.__prepare__"),(.type "type")]
def Ky:=cS "NoWord" 37 36 28 207 215
def KA:Ob:=λP=>dA P 214 218 4 217 219 35 220
def m_:=tu #[R 24]
def KC:=cS "BadText" 49 48 40 223 231
def KE:Ob:=λP=>dA P 230 234 6 233 235 47 236
def KG:=cS "BadWeb" 61 60 52 239 247
def KH:Ob:=λP=>dA P 246 250 8 249 251 59 252
def KI:=cS "BadTree" 73 72 64 255 263
def KJ:Ob:=λP=>dA P 262 266 10 265 267 71 268
def KL:=cS "BadChoices" 85 84 76 271 279
def KN:Ob:=λP=>dA P 278 282 12 281 283 83 284
def KO:Ob:=λP=>O (.type "dict")<|.dict #[(E P "__module__" 294<|S "oncewise.errors" 187),(E P "__firstlineno__" 298<|I 14 297),(E P "__init__" 307<|R 101),(E P "__static_attributes__" 309<|R 102),(E P "__doc__" 310 .none)] 2
def KP:=fo<|FN "__init__" "NoTree.__init__" (Ku 7 0) .none .none .none (S "oncewise.errors" 187) none (R 100) .none
def KQ:=cS "NoTree" 104 103 88 287 295
def KR:=co "__init__" "NoTree.__init__" 299 16 3 0 0 3 95 true 181 96 .none (R 97) (R 98) (R 99) 305
def KS:Ob:=λP=>dA P 320 324 19 323 325 114 326
def KU:=cS "NoCut" 116 115 107 313 321
def KY:Ob:=λP=>dA P 336 340 21 339 341 126 342
def KZ:=cS "NoExchange" 128 127 119 329 337
def K1:Ob:=λP=>dA P 352 356 23 355 357 138 358
def K2:=cS "OtherWeb" 140 139 131 345 353
def K3:Ob:=λP=>dA P 368 372 25 371 373 150 374
def K4:=fX "is_leaf" 15 Kv 162
def K5:=tn 379 ["plain","turned"]
def K6:=cF "turned" 402 32 1 164 407
def K7:Ob:=λ_=>{(.type "type"),none,(.cls<|ClassData.mk (s "OnceError") [(.type "ValueError")] [R 24,(.type "ValueError"),(.type "Exception"),(.type "BaseException"),(.type "object")] 23 (s "OnceError") true [] [R 37,R 49,R 61,R 73,R 85,R 104,R 116,R 128,R 140,R 152] false none false),#[(some<|R 15),none,(some<|S "OnceError" 189),(some<|S "OnceError" 197),(some<|.builtin "ValueError.__new__"),(some<|.bool true)]}
def K8:=cS "TooMany" 152 151 143 361 369
def K9:Ob:=λP=>O (.type "dict")<|.dict #[(E P "plain" 382<|S "turned" 383),(E P "turned" 384<|S "plain" 385),(E P "both" 386<|S "either" 387),(E P "either" 388<|S "both" 389)] 4
def K_:=cF "is_leaf" 395 30 1 157 399
def La:=fX "turned" 16 Kv 169
def Lb:=fX "parts_of" 20 wZ 190
def Ld:=cF "holds_leaf" 421 43 1 178 425
def Le:=cF "is_cut" 496 79 3 242 502
def Lf:=cF "each_once" 454 60 1 206 458
def Lg:=fX "word_at" 18 wZ 176
def Lh:=fX "can_be_cut" 28 wZ 240
def Li:=co "are_links" "are_links" 482 73 2 0 0 3 230 true 181 231 .none .none .none (R 232) 485
def Lj:=fX "parts_fit" 24 wZ 216
def Lk:=cF "parts_in" 435 49 1 192 441
def Ll:=fX "is_link" 26 wZ 228
def Lm:=fX "places_in" 22 wZ 204
def Ln:=co "are_knots" "are_knots" 467 66 1 0 0 3 218 true 181 219 .none .none .none (R 220) 470
def Lo:=fX "are_cuts" 30 wZ 252
def Lp:=cF "word_at" 412 38 2 171 418
def Lq:=cF "can_be_cut" 488 77 2 235 493
def Lr:=co "parts_fit" "parts_fit" 461 62 2 0 0 3 213 true 181 214 .none .none .none (R 215) 464
def Ls:=fX "holds_leaf" 19 wZ 183
def Lu:=fX "is_cut" 29 wZ 247
def Lv:=cF "is_link" 473 69 3 223 479
def Lw:=fX "each_once" 23 wZ 211
def Lx:=cF "places_in" 444 54 1 199 451
def Ly:=co "are_cuts" "are_cuts" 505 83 2 0 0 3 249 true 181 250 .none .none .none (R 251) 508
def Lz:=fX "are_links" 27 wZ 233
def LA:=fX "parts_in" 21 wZ 197
def LB:=fX "are_knots" 25 wZ 221
def LC:=cF "parts_of" 428 45 1 185 432
def LD:=cF "_law_mix" 547 118 3 282 553
def LG:=cF "demand" 511 86 2 254 516
def LH:=fX "_law_flip" 39 kF 306
def LJ:=fX "checked_web" 32 wZ 266
def LK:=cF "_law_word" 562 129 2 294 568
def LL:=fX "_law_mirror" 41 kF 320
def LM:=cF "_law_cell_at" 529 97 2 268 534
def LN:=co "_law_cut" "_law_cut" 618 172 4 0 0 3 334 true 181 335 .none .none .none (R 336) 621
def LP:=fX "_law_same" 35 kF 280
def LQ:=cF "_law_weight" 579 139 1 308 583
def LR:=co "_law_join" "_law_join" 600 156 4 0 0 3 322 true 181 323 .none .none .none (R 324) 603
def LS:=fX "_law_name" 37 kF 292
def LU:=fX "_law_fold" 43 kF 332
def LV:=cF "_law_mirror" 586 143 2 315 597
def LW:=fX "_law_mix" 36 kF 287
def LX:=cF "_law_same" 537 101 2 275 544
def LY:=fX "demand" 31 wZ 259
def LZ:=co "_law_name" "_law_name" 556 120 2 0 0 3 289 true 181 290 .none .none .none (R 291) 559
def L8:=cF "_law_fold" 606 164 4 327 615
def Ma:=fX "_law_word" 38 kF 299
def Mb:=fX "_law_cell_at" 34 kF 273
def Mc:=fX "_law_cut" 44 kF 337
def Md:=cF "_law_flip" 571 134 1 301 576
def Me:=cF "checked_web" 519 89 1 261 524
def Mf:=fX "_law_weight" 40 kF 313
def Mg:=fX "_law_join" 42 kF 325
def Mh:=fX "_law_bad_cuts" 57 kF 414
def Mi:=fX "_law_recast" 49 kF 366
def Mj:=fX "_law_crossed" 47 kF 354
def Mk:=fX "_law_gapped" 51 kF 378
def Ml:=cF "_law_web" 689 299 4 380 703
def Mm:=fX "_law_copy" 53 kF 392
def Mn:=cF "_law_beneath" 653 243 2 356 662
def Mo:=co "_law_bad_cut_at" "_law_bad_cut_at" 728 334 4 0 0 3 406 true 181 407 .none .none .none (R 408) 731
def Mp:=fX "_law_tree" 45 kF 344
def Mq:=fX "_law_parts" 55 kF 404
def HU:=cF "_law_order" 671 277 2 368 680
def Mr:=co "_law_bad_parts" "_law_bad_parts" 713 313 4 0 0 3 394 true 181 395 .none .none .none (R 396) 716
def Ms:=co "_law_told" "_law_told" 641 223 1 0 0 3 346 true 181 347 .none .none .none (R 348) 644
def Mt:=cF "_law_copy" 706 311 1 387 710
def Mu:=cF "_law_tree" 624 194 3 339 638
def Mv:=cF "_law_parts" 719 328 1 399 725
def Mw:=fX "_law_web" 52 kF 385
def Mx:=co "_law_crossed" "_law_crossed" 647 233 4 0 0 3 351 true 181 352 .none .none .none (R 353) 650
def My:=fX "_law_beneath" 48 kF 361
def Mz:=fX "_law_bad_cut_at" 56 kF 409
def MA:=co "_law_gapped" "_law_gapped" 683 285 5 0 0 3 375 true 181 376 .none .none .none (R 377) 686
def MB:=fX "_law_order" 50 kF 373
def MC:=fX "_law_bad_parts" 54 kF 397
def MD:=co "_law_recast" "_law_recast" 665 254 4 0 0 3 363 true 181 364 .none .none .none (R 365) 668
def ME:=co "_law_bad_cuts" "_law_bad_cuts" 734 363 4 0 0 3 411 true 181 412 .none .none .none (R 413) 737
def MF:=fX "_law_told" 46 kF 349
def MG:Ob:=λP=>O (.type "dict")<|.dict #[(E P "__name__" 165<|S "law_oncewise_k17_spoilt_knots_and_cuts" 527),(E P "__doc__" 166 .none),(E P "__package__" 167 .none),(E P "__loader__" 168<|.builtin "__main__.__loader__#opaque"),(E P "__spec__" 169 .none),(E P "__annotations__" 170<|R 6),(E P "__builtins__" 171<|R 4),(E P "__file__" 173<|S "/claim/cut.py" 172),(E P "__cached__" 174 .none),(E P "OnceError" 206<|R 24),(E P "NoWord" 222<|R 37),(E P "BadText" 238<|R 49),(E P "BadWeb" 254<|R 61),(E P "BadTree" 270<|R 73),(E P "BadChoices" 286<|R 85),(E P "NoTree" 312<|R 104),(E P "NoCut" 328<|R 116),(E P "NoExchange" 344<|R 128),(E P "OtherWeb" 360<|R 140),(E P "TooMany" 376<|R 152),(E P "LEAF_KINDS" 381<|R 155),(E P "TURNED_KINDS" 394<|R 156),(E P "is_leaf" 401<|R 163),(E P "turned" 409<|R 170),(E P "word_at" 420<|R 177),(E P "holds_leaf" 427<|R 184),(E P "parts_of" 434<|R 191),(E P "parts_in" 443<|R 198),(E P "places_in" 453<|R 205),(E P "each_once" 460<|R 212),(E P "parts_fit" 466<|R 217),(E P "are_knots" 472<|R 222),(E P "is_link" 481<|R 229),(E P "are_links" 487<|R 234),(E P "can_be_cut" 495<|R 241),(E P "is_cut" 504<|R 248),(E P "are_cuts" 510<|R 253),(E P "demand" 518<|R 260),(E P "checked_web" 526<|R 267),(E P "_law_cell_at" 536<|R 274),(E P "_law_same" 546<|R 281),(E P "_law_mix" 555<|R 288),(E P "_law_name" 561<|R 293),(E P "_law_word" 570<|R 300),(E P "_law_flip" 578<|R 307),(E P "_law_weight" 585<|R 314),(E P "_law_mirror" 599<|R 321),(E P "_law_join" 605<|R 326),(E P "_law_fold" 617<|R 333),(E P "_law_cut" 623<|R 338),(E P "_law_tree" 640<|R 345),(E P "_law_told" 646<|R 350),(E P "_law_crossed" 652<|R 355),(E P "_law_beneath" 664<|R 362),(E P "_law_recast" 670<|R 367),(E P "_law_order" 682<|R 374),(E P "_law_gapped" 688<|R 379),(E P "_law_web" 705<|R 386),(E P "_law_copy" 712<|R 393),(E P "_law_bad_parts" 718<|R 398),(E P "_law_parts" 727<|R 405),(E P "_law_bad_cut_at" 733<|R 410),(E P "_law_bad_cuts" 739<|R 415),(E P "_law_spoilt" 749<|R 422),(E P "_law_refused" 759<|R 429),(E P "law" 772<|R 436)] 66
def MJ:=cF "law" 760 388 1 430 770
def MK:=cF "_law_spoilt" 740 376 4 416 747
def MN:=fX "_law_refused" 59 kF 428
def MO:=fX "law" 60 kF 435
def MQ:=cF "_law_refused" 750 380 1 423 757
def MT:=fX "_law_spoilt" 58 kF 421
def _a:List Ob:=[b0,b1,b2,b3,b4,b5,b6,b7,b8,b9,Gx,xz,aZ,Gy,HR]
def Z3:List Ob:=[b0,b1,b2,MG,b4,b5,b6,b7,b8,b9,Gx,xz,λ_=>O .none<|.fields<|lt [(2,20),(4,33),(6,45),(8,57),(10,69),(12,81),(14,93),(19,112),(21,124),(23,136),(25,148),(30,162),(32,169),(38,176),(43,183),(45,190),(49,197),(54,204),(60,211),(62,216),(66,221),(69,228),(73,233),(77,240),(79,247),(83,252),(86,259),(89,266),(97,273),(101,280),(118,287),(120,292),(129,299),(134,306),(139,313),(143,320),(156,325),(164,332),(172,337),(194,344),(223,349),(233,354),(243,361),(254,366),(277,373),(285,378),(299,385),(311,392),(313,397),(328,404),(334,409),(363,414),(376,421),(380,428),(388,435)],Gy,HR,tu #[(.type "ValueError")],k_,λP=>dB P 196 198 "OnceError" 197 200 2 199 201 22,xz,aZ,cC "OnceError" 191 2 18 194,fR 20 17,xz,Kw,K7,Kx,sU 24,bI 24,m_,k_,λP=>dB P 214 216 "NoWord" 215 218 4 217 219 35,xz,aZ,cC "NoWord" 209 4 31 212,fR 33 30,xz,KA,Ky,sU 37,bI 37,m_,k_,λP=>dB P 230 232 "BadText" 231 234 6 233 235 47,xz,aZ,cC "BadText" 225 6 43 228,fR 45 42,xz,KE,KC,sU 49,bI 49,m_,k_,λP=>dB P 246 248 "BadWeb" 247 250 8 249 251 59,xz,aZ,cC "BadWeb" 241 8 55 244,fR 57 54,xz,KH,KG,sU 61,bI 61,m_,k_,λP=>dB P 262 264 "BadTree" 263 266 10 265 267 71,xz,aZ,cC "BadTree" 257 10 67 260,fR 69 66,xz,KJ,KI,sU 73,bI 73,m_,k_,λP=>dB P 278 280 "BadChoices" 279 282 12 281 283 83,xz,aZ,cC "BadChoices" 273 12 79 276,fR 81 78,xz,KN,KL,sU 85,bI 85,m_,k_,λP=>O (.type "dict")<|.dict #[(E P "__module__" 294<|S "oncewise.errors" 187),(E P "__qualname__" 296<|S "NoTree" 295),(E P "__firstlineno__" 298<|I 14 297),(E P "__init__" 307<|R 101),(E P "__static_attributes__" 309<|R 102)] 5,xz,λ_=>O .none<|.fields #[I 16 0,I 4 0,R 100],cC "NoTree" 289 14 91 292,fR 93 90,xz,aZ,tn 302 ["self","words","choices"],xz,go<|FG "__init__" "NoTree.__init__"<|Ku 7 0,KR,KP,tn 308 ["choices"],KO,KQ,sU 104,bI 104,m_,k_,λP=>dB P 320 322 "NoCut" 321 324 19 323 325 114,xz,aZ,cC "NoCut" 315 19 110 318,fR 112 109,xz,KS,KU,sU 116,bI 116,m_,k_,λP=>dB P 336 338 "NoExchange" 337 340 21 339 341 126,xz,aZ,cC "NoExchange" 331 21 122 334,fR 124 121,xz,KY,KZ,sU 128,bI 128,m_,k_,λP=>dB P 352 354 "OtherWeb" 353 356 23 355 357 138,xz,aZ,cC "OtherWeb" 347 23 134 350,fR 136 133,xz,K1,K2,sU 140,bI 140,m_,k_,λP=>dB P 368 370 "TooMany" 369 372 25 371 373 150,xz,aZ,cC "TooMany" 363 25 146 366,fR 148 145,xz,K3,K8,sU 152,bI 152,K5,K9,xz,aZ,tn 398 ["word"],xz,gX "is_leaf" 15,K_,K4,xz,aZ,tn 405 ["word","kind"],xz,gX "turned" 16,K6,La,xz,aZ,tn 415 ["knots","place","knot"],xz,gX "word_at" 18,Lp,Lg,xz,aZ,tn 424 ["knot"],xz,gX "holds_leaf" 19,Ld,Ls,xz,aZ,tn 431 ["knot"],xz,gX "parts_of" 20,LC,Lb,xz,aZ,tn 438 ["knots","parts","knot"],xz,gX "parts_in" 21,Lk,LA,xz,aZ,tn 447 ["pairs","places","p","q"],xz,gX "places_in" 22,Lx,Lm,xz,aZ,tn 457 ["places"],xz,gX "each_once" 23,Lf,Lw,xz,aZ,gX "parts_fit" 24,Lr,Lj,xz,aZ,gX "are_knots" 25,Ln,LB,xz,aZ,tn 476 ["knots","p","q"],xz,gX "is_link" 26,Lv,Ll,xz,aZ,gX "are_links" 27,Li,Lz,xz,aZ,tn 491 ["knots","place"],xz,gX "can_be_cut" 28,Lq,Lh,xz,aZ,tn 499 ["knots","p","q"],xz,gX "is_cut" 29,Le,Lu,xz,aZ,gX "are_cuts" 30,Ly,Lo,xz,aZ,tn 514 ["holds","words"],xz,gX "demand" 31,LG,LY,xz,aZ,tn 522 ["web","knots"],xz,gX "checked_web" 32,Me,LJ,xz,aZ,tn 532 ["_law_script","_law_k"],xz,gX "_law_cell_at" 34,LM,Mb,xz,aZ,tn 540 ["_law_found","_law_due","_law_one","_law_other"],xz,gX "_law_same" 35,LX,LP,xz,aZ,tn 550 ["_law_cell","_law_k","_law_factor"],xz,gX "_law_mix" 36,LD,LW,xz,aZ,gX "_law_name" 37,LZ,LS,xz,aZ,tn 565 ["_law_knots","_law_p","_law_knot"],xz,gX "_law_word" 38,LK,Ma,xz,aZ,tn 574 ["_law_word_here","_law_sides"],xz,gX "_law_flip" 39,Md,LH,xz,aZ,tn 582 ["_law_word_here"],xz,gX "_law_weight" 40,LQ,Mf,xz,aZ,tn 589 ["_law_knots","_law_word_here","_law_left","_law_right","_law_turn","_law_same_here","_law_low","_law_high"],xz,gX "_law_mirror" 41,LV,LL,xz,aZ,gX "_law_join" 42,LR,Mg,xz,aZ,tn 609 ["_law_knots","_law_tree_here","_law_one","_law_two","_law_left","_law_right"],xz,gX "_law_fold" 43,L8,LU,xz,aZ,gX "_law_cut" 44,LN,Mc,xz,aZ,tn 627 ["_law_cells","_law_seed","_law_room","_law_knots","_law_forest","_law_k","_law_cell","_law_one","_law_two","_law_deed","_law_at"],xz,gX "_law_tree" 45,Mu,Mp,xz,aZ,gX "_law_told" 46,Ms,MF,xz,aZ,gX "_law_crossed" 47,Mx,Mj,xz,aZ,tn 656 ["_law_knots","_law_cuts","_law_todo","_law_p","_law_q","_law_beneath_here"],xz,gX "_law_beneath" 48,Mn,My,xz,aZ,gX "_law_recast" 49,MD,Mi,xz,aZ,tn 674 ["_law_knots","_law_seed","_law_p","_law_knot","_law_rank"],tn 679 ["_law_keys"],gX "_law_order" 50,HU,MB,xz,aZ,gX "_law_gapped" 51,MA,Mk,xz,aZ,tn 692 ["_law_script","_law_seed","_law_room","_law_most","_law_bits","_law_gaps","_law_knots","_law_rule","_law_links","_law_cuts","_law_k"],xz,gX "_law_web" 52,Ml,Mw,xz,aZ,tn 709 ["_law_web_here"],xz,gX "_law_copy" 53,Mt,Mm,xz,aZ,gX "_law_bad_parts" 54,Mr,MC,xz,aZ,tn 722 ["_law_knots","_law_parts_here","_law_knot"],xz,gX "_law_parts" 55,Mv,Mq,xz,aZ,gX "_law_bad_cut_at" 56,Mo,Mz,xz,aZ,gX "_law_bad_cuts" 57,ME,Mh,xz,aZ,tn 743 ["_law_web_here","_law_draw","_law_one","_law_two"],xz,gX "_law_spoilt" 58,MK,MT,xz,aZ,tn 753 ["_law_web_here","_law_good","e","_law_others"],xz,gX "_law_refused" 59,MQ,MN,xz,aZ,tn 763 ["_law_script","_law_seed","_law_web_here","_law_k","_law_two","_law_bad","_law_handed"],xz,gX "law" 60,MJ,MO]
def Z_:List Ob:=[b0,b1,b2,b3,b4,b5,b6,b7,b8,b9,Gx,xz,aZ,Gy,HR]
def _b:List Ob:=Z3
def Wv(P:Params):W4:={{_a.map (· P)},{}}
def Gz(P:Params):W4:={{Z3.map (· P)},{}}
def Ww(P:Params):BT:=bt 20 (Z_.map (· P))
def Wx(P:Params):BT:=bt 20 (_b.map (· P))
def sA(w:W3)(os:OsState):W1:={Wv w.params,#[],{},187,os}
def sZ(w:W3)(os:OsState):W1:={Gz w.params,#[],{},773,os}
def iF(w:W3)(os:OsState):SharedT:={Ww w.params,15,{},#[],{},187,os}
def GA(w:W3)(os:OsState):SharedT:={Wx w.params,437,{},#[],{},773,os}
def FY:WU:=((behindTheImports p).drop 0).take 61
theorem Wy(w:W3):(λos=>topGo treeTable p w 11 an 12 {boot_heap w.params,#[],boot_drawn,boot_toks,os}<|topStub p)=λos=>some (sA w os,{denote treeTable cE,cE,{0,0,0,0},[topFrame q0]}):=by kernel_rfl
theorem Wz(w:W3):(λos=>segRun treeTable p w 11 an 1 1 (sA w os)<|blockOf (behindTheImports p) Yb cE {0,0,0,0} [topFrame q0])=λos=>some (.next,(iF w os).abs,cE,{0,0,0,0}):=by kernel_rfl
theorem WA(w:W3):Pc 3796 iF GA FY ⟨0,0,0,0⟩ ⟨388,0,402,15⟩ (w.withFollow "special-get-raises" false):=by kernel_rfl
theorem WB(w:W3):Pc 3796 iF GA FY ⟨0,0,0,0⟩ ⟨388,0,402,15⟩ (w.withFollow "special-get-raises" true):=by kernel_rfl
theorem WC:∀w,Pc 3796 iF GA FY ⟨0,0,0,0⟩ ⟨388,0,402,15⟩ w:=byRow2 "special-get-raises" WA WB
theorem WD(w:W3):(λos=>topRun treeTable p w 11 an 2 (GA w os).abs {doneF .next,cE,{388,0,402,15},[topFrame q0]})=λos=>some (sZ w os):=by kernel_rfl
theorem WE:FY++([])=behindTheImports p:=by kernel_rfl
theorem WF(w:W3)(os:OsState):topRun treeTable p w 11 an (12+(1+(3796+(2)))) ⟨boot_heap w.params,#[],boot_drawn,boot_toks,os⟩ (topStub p)=some (sZ w os):=by have h:=(piece_app (l:=FY) (rest:=[]) (segRun_of<|EE (WC w) os)<|piece_nil (env:=Yb)<|EE (WD w) os);rw[WE] at h;exact go_top (EE (Wy w) os)<|piece_block (EE (Wz w) os) h
def Y5:WR:=[0,1,2,3,4,5,6,7,8,9,10,13,23,24,25,36,37,48,49,60,61,72,73,84,85,100,101,103,104,115,116,127,128,139,140,151,152,155,156,162,163,169,170,176,177,183,184,190,191,197,198,204,205,211,212,216,217,221,222,228,229,233,234,240,241,247,248,252,253,259,260,266,267,273,274,280,281,287,288,292,293,299,300,306,307,313,314,320,321,325,326,332,333,337,338,344,345,349,350,354,355,361,362,366,367,369,373,374,378,379,385,386,392,393,397,398,404,405,409,410,414,415,421,422,428,429,435,436]
def vw:W2:={p with main:={p.main with body:=[top 1,top 2,top 3,top 4,top 5,top 6,top 7,top 8,top 9,top 10,top 11,top 13,top 14,top 15,top 16,top 18,top 19,top 20,top 21,top 22,top 23,top 24,top 25,top 26,top 27,top 28,top 29,top 30,top 31,top 32,top 34,top 35,top 36,top 37,top 38,top 39,top 40,top 41,top 42,top 43,top 44,top 45,top 46,top 47,top 48,top 49,top 50,top 51,top 52,top 53,top 54,top 55,top 56,top 57,top 58,top 59,top 60]}}
local macro_rules|`(%[$a:num,$b|$p])=>`([(nat_lit $a,$b $p)])|`(%[$a:num,$b,$c,*|$p])=>`((nat_lit $a,$b $p)::%[$c,*|$p])
def K0:Params->Frag:=λP=>%[0,b0,1,b1,2,b2,3,MG,4,b4,5,b5,6,b6,7,b7,8,b8,9,b9,10,Gx,13,Gy,23,Kw,24,K7,25,Kx,36,KA,37,Ky,48,KE,49,KC,60,KH,61,KG,72,KJ,73,KI,84,KN,85,KL,100,KR,101,KP,103,KO,104,KQ,115,KS,116,KU,127,KY,128,KZ,139,K1,140,K2,151,K3,152,K8,155,K5,156,K9,162,K_,163,K4,169,K6,170,La,176,Lp,177,Lg,183,Ld,184,Ls,190,LC,191,Lb,197,Lk,198,LA,204,Lx,205,Lm,211,Lf,212,Lw,216,Lr,217,Lj,221,Ln,222,LB,228,Lv,229,Ll,233,Li,234,Lz,240,Lq,241,Lh,247,Le,248,Lu,252,Ly,253,Lo,259,LG,260,LY,266,Me,267,LJ,273,LM,274,Mb,280,LX,281,LP,287,LD,288,LW,292,LZ,293,LS,299,LK,300,Ma,306,Md,307,LH,313,LQ,314,Mf,320,LV,321,LL,325,LR,326,Mg,332,L8,333,LU,337,LN,338,Mc,344,Mu,345,Mp,349,Ms,350,MF,354,Mx,355,Mj,361,Mn,362,My,366,MD,367,Mi,369,aZ,373,HU,374,MB,378,MA,379,Mk,385,Ml,386,Mw,392,Mt,393,Mm,397,Mr,398,MC,404,Mv,405,Mq,409,Mo,410,Mz,414,ME,415,Mh,421,MK,422,MT,428,MQ,429,MN,435,MJ,436,MO|P]
abbrev YV:Nat:=373
abbrev Yy:Nat:=369
abbrev ZO:Ob:=HU
abbrev ls:WS:=[Str.ofString "TURNED_KINDS"]
abbrev Xt:W1->Bool:=λs=>xlAt vw [] s&&recOk (RowW.records rr.row.toRowW) s
theorem WG(w:W3):((boot_heap w.params).isNs mainGlobals&&(#[]:Array GenState).size==0,(boot_heap w.params).objs.size,(boot_heap w.params).nsMap mainGlobals "__annotations__")=(true,11,an):=by kernel_rfl
theorem WH:opening p=plainProg p.main.scope.names:=by kernel_rfl
theorem WJ(s:W1):fenceModules? p s=some s:=by kernel_rfl
theorem GB(w:W3):(λos=>(staticsOk (importedModules p.main.body) (boot_heap w.params) (Gz w.params)&&namesBound p (Gz w.params)&&gensDone (sZ w os)&&laidKept (boot_heap w.params) (Gz w.params)))=λ_=>true:=by kernel_rfl
theorem Yd(w:W3):(λos=>openSeen vw ls (importedModules p.main.body) Xt true<|sZ w os)=λ_=>openGood vw ls:=by kernel_rfl
theorem ZT(w:W3):(λos=>obsZ Y5<|sZ w os)=λ_=>valZ K0 437 773 w:=by kernel_rfl
theorem ZN:LeftO p vw ls Xt (obsZ Y5) (valZ K0 437 773) 7688:=LeftO.of_pieces (boot_open WH rfl WJ) WG WF rfl λw=>funext λos=>looks_pair (EE (GB w) os)<|looks_pair (EE (Yd w) os)<|EE (ZT w) os
end
end H17
open PySem PySem.W PyProof.Rows
set_option maxRecDepth 100000 in
set_option maxHeartbeats 0 in
theorem PySem.Challenge.cw_oncewise_k17_spoilt_knots_and_cuts_holds : PySem.Challenge.rw_oncewise_k17_spoilt_knots_and_cuts.Holds := by
 w_on;refine holds_law (by unfold OpenLaw.wellSaid OpenRow.wellSaid OpenRow.partSaid looksOpen;walk_at "y";walk_at "y";walk_at "y";walk_at "y";walk_at "y";walk_at "y";all_goals decide +kernel) λJ=>?_
 refine holds_openX (q:=H17.vw) (loose:=H17.ls) (Xt:=H17.Xt) (XP:=XL H17.vw []) (Yf:=PySem.W.X.obsZ H17.Y5) (Ya:=PySem.W.X.valZ H17.K0 437 773) (N:=7688) H17.ZN (λs e=>xl_of s (Bool.and_eq_true_iff.mp e).1)
  XL.keeps (by rfl) (by rfl) (by rfl) (λs e=>recFacts_of (Bool.and_eq_true_iff.mp e).2)
  (by rfl) (by decide +kernel) (by decide +kernel) ⟨rfl,rfl,rfl,rfl,rfl,by decide +kernel⟩ ?hw ?hc
 case hw=>w_witness2
 k_fill
 refine L2.Yt (l:=PySem.Challenge.rw_oncewise_k17_spoilt_knots_and_cuts) (n:=63) (k:=131) (x:="_law_script") (CX:=L2.Yr) (sp:=L2.XQ L2.XD) rfl (by decide) rfl {rfl,by decide,by decide} (λ_=>rfl) (by decide) ?F ?S ?C
 case F=>
  intro w r t h g G I;have T:(H17.K0 w.params).lookup H17.Yy=some (PySem.W.tabObj #[]):=by k_is
  have U:(H17.K0 w.params).lookup H17.YV=some (H17.ZO w.params):=by k_is
  have hd:∀h:W4,h.get? H17.YV=some (H17.ZO w.params)->PySem.W.CodeHd h H17.YV H17.Yy:=λh e=>{_,_,_,_,_,_,_,_,_,e,rfl,rfl,rfl,rfl,rfl,rfl,rfl,rfl,by decide};have j:(H17.K0 w.params).lookup 4=some (PySem.W.boot_o_4 w.params):=by k_is
  have o:L2.Xn (L2.GE H17.Yy<|H17.K0 w.params) "_law_order" L2.SC H17.Yy:=by
   refine' K17.Y6 (L2.Pv T ?a) (L2.XJ T ?l ?n) (L2.Ye T ?c) (L2.Yc T ?k) ?LC
   (case a=>k_is);(case l=>k_is);(case n=>(intro e;cases e));(case c=>k_is);(case k=>k_is)
   refine'{{H17.YV,_,rfl,L2.XJ T U ?m,hd},{4,_,L2.Pv T ?b,by decide,by decide,L2.XJ T j ?p,rfl,rfl,rfl}}
   (case m=>(intro e;cases e));(case b=>k_is);(case p=>(intro e;cases e))
  refine{H17.Yy,{T,{H17.YV,λh X=>hd h<|X _ _ U},by decide},?_};refine' K17.all_mk (K:=L2.GE H17.Yy<|H17.K0 w.params) (L2.YG g) G I ?D ?D33 ?zA5 ?zA6 ?zA1 ?zA2 ?zA3 ?aCBadWeb ?aCNoWord ?aCBadText ?aCBadTree ?aCBadChoices ?aCNoTree ?aCNoCut ?aCNoExchange ?aCOtherWeb ?aCTooMany ?aCOnceError ?qCBadWeb ?xf ?zlen ?zset ?zall ?zrange ?zany ?zenumerate ?zsorted ?zisinstance ?zbool ?zlist ?ztuple ?zzip ?zint ?zstr ?zmax ?zmin ?zValueError
  (case aCBadWeb=>(refine' L2.Pv T ?_;k_is))
  (case aCNoWord=>(refine' L2.Pv T ?_;k_is))
  (case aCBadText=>(refine' L2.Pv T ?_;k_is))
  (case aCBadTree=>(refine' L2.Pv T ?_;k_is))
  (case aCBadChoices=>(refine' L2.Pv T ?_;k_is))
  (case aCNoTree=>(refine' L2.Pv T ?_;k_is))
  (case aCNoCut=>(refine' L2.Pv T ?_;k_is))
  (case aCNoExchange=>(refine' L2.Pv T ?_;k_is))
  (case aCOtherWeb=>(refine' L2.Pv T ?_;k_is))
  (case aCTooMany=>(refine' L2.Pv T ?_;k_is))
  (case aCOnceError=>(refine' L2.Pv T ?_;k_is))
  (case D=>(constructor<;>(refine' L2.Zj (L2.Pv T ?a) (L2.XJ T ?l ?n) (L2.Ye T ?c)<|L2.Yc T ?k;(case a=>k_is);(case l=>k_is);(case n=>(intro e;cases e));(case c=>k_is);(case k=>k_is))))
  (case D33=>exact o)
  (case zA5=>(refine' L2.Pv T ?_;k_is))
  (case zA6=>(refine' L2.XJ T ?x ?n;(case x=>k_is);(case n=>(intro e;cases e))))
  (case zA1=>(refine' L2.Pv T ?_;k_is))
  (case zA2=>(refine' L2.XJ T ?x ?n;(case x=>k_is);(case n=>(intro e;cases e))))
  (case zA3=>rfl)
  (case qCBadWeb=>(refine' L2.Zk T ?_;k_exc))
  (case xf=>(refine' L2.XZ.dn T ?_;(refine' L2.XZ.mk ?hd ?em ?ot ?on ?ve;(case hd=>(refine' L2.Zi ?ga ?gt ?cl ?ge ?tk ?mo ?be ?h;(case ga=>k_is);(case gt=>k_is);(case cl=>k_is);(case ge=>k_is);(case tk=>k_is);(case mo=>k_is);(case be=>k_is);(case h=>k_is)));(case em=>(refine' L2.YX ?h0 ?h1 ?h2 ?h3;(case h0=>k_is);(case h1=>k_is);(case h2=>k_is);(case h3=>k_is)));(case ot=>(refine' L2.KM ?z ?_;(case z=>(refine' L2.Re ?a ?b ?c ?d;(case a=>rfl);(case b=>k_is);(case c=>k_is);(case d=>k_is)));refine' L2.KM ?z ?_;(case z=>(refine' L2.Re ?a ?b ?c ?d;(case a=>rfl);(case b=>k_is);(case c=>k_is);(case d=>k_is)));refine' L2.KM ?z ?_;(case z=>(refine' L2.Re ?a ?b ?c ?d;(case a=>rfl);(case b=>k_is);(case c=>k_is);(case d=>k_is)));refine' L2.KM ?z ?_;(case z=>(refine' L2.Re ?a ?b ?c ?d;(case a=>rfl);(case b=>k_is);(case c=>k_is);(case d=>k_is)));refine' L2.KM ?z ?_;(case z=>(refine' L2.Re ?a ?b ?c ?d;(case a=>rfl);(case b=>k_is);(case c=>k_is);(case d=>k_is)));refine' L2.KM ?z ?_;(case z=>(refine' L2.Re ?a ?b ?c ?d;(case a=>rfl);(case b=>k_is);(case c=>k_is);(case d=>k_is)));refine' L2.KM ?z ?_;(case z=>(refine' L2.Re ?a ?b ?c ?d;(case a=>rfl);(case b=>k_is);(case c=>k_is);(case d=>k_is)));refine' L2.KM ?z ?_;(case z=>(refine' L2.Re ?a ?b ?c ?d;(case a=>rfl);(case b=>k_is);(case c=>k_is);(case d=>k_is)));refine' L2.KM ?z ?_;(case z=>(refine' L2.Re ?a ?b ?c ?d;(case a=>rfl);(case b=>k_is);(case c=>k_is);(case d=>k_is)));exact rfl));(case on=>(refine' L2.Re ?a ?b ?c ?d;(case a=>rfl);(case b=>k_is);(case c=>k_is);(case d=>k_is)));(case ve=>(refine' L2.YY ?a ?b;(case a=>rfl);(case b=>k_is))))))
  (case zlen|zset|zall|zrange|zany|zenumerate|zsorted|zisinstance|zbool|zlist|ztuple|zzip|zint|zstr|zmax|zmin|zValueError=>(refine' L2.Pv T ?_;k_is))
 case S=>exact L2.X8
 case C=>exactλ_ _ _ _ z=>z
#print axioms PySem.Challenge.cw_oncewise_k17_spoilt_knots_and_cuts_holds
