import PyProof.Rows.All
import KE.KDictOf
import KE.KDictSum
import KE.KFromBytes
import KE.KLam
import KE.KRevSl
import KE.KSortTup
import KE.KTryMore
import KE.LcSums
import OpenK.ZHead
import OpenK.ZU4
import PySem.Challenge.RW_oncewise_k22_spoilt_trees
set_option genSizeOf false
set_option genInjectivity false
set_option bootstrap.genMatcherCode false
set_option compiler.extract_closed false
set_option hygiene false
local macro_rules|`(⇑$t)=>`(some (.lst $t))
local macro_rules|`(↥$t)=>`(($t).heap.objs.size)
local macro_rules|`(tactic| walk_at "t")=>`(tactic| (first|assumption|exact Nat.succ_pos _|exact za.tk (by assumption)|exact Nat.lt_of_lt_of_le (za.tk (by assumption)) (Nat.le_add_right _ _)|exact Nat.lt_of_lt_of_le (za.tk (by assumption)) (by assumption)))
def F_z:Lean.Name->Lean.Name|.str .anonymous x=>.str .anonymous x|.str p "l"=>.str p "length"|.str p "t"=>.str p "trans"|.str p "y"=>.str p "map"|.str p "q"=>.str p "size"|.str p "m"=>.str p "toArray"|.str p "z"=>.str p "toList"|.str p "e"=>.str p "lookup"|.str p "v"=>.str p "heap"|.str p "u"=>.str p "take"|.str p "o"=>.str p "env"|.str p "r"=>.str p "elim"|.str p "x"=>.str p "get?"|.str p "j"=>.str p "mp"|.str p "h"=>.str p "flatMap"|.str p "c"=>.str p "Nodup"|.str p "d"=>.str p "mpr"|.str p "f"=>.str p "length_eq"|.str p "i"=>.str p "prog"|.str p "n"=>.str p "eraseIdx"|.str p "p"=>.str p "stack"|.str p "B"=>.str p "toNat"|.str p "C"=>.str p "Perm"|.str p "D"=>.str p "toks"|.str p "G"=>.str p "drop"|.str p "H"=>.str p "Pairwise"|.str p "I"=>.str p "push"|.str p "J"=>.str p "depth"|.str p "L"=>.str p "symm"|.str p "M"=>.str p "locals"|.str p "O"=>.str p "set"|.str p "Q"=>.str p "kindOf"|.str p "S"=>.str p "filter"|.str p "U"=>.str p "free"|.str p "V"=>.str p "toB0_"|.str p "Y"=>.str p "base"|.str p "Z"=>.str p "isSome"|n=>n
def F_y(s:Lean.Syntax):Lean.MacroM Lean.Syntax:=let g(n:Lean.Name):Lean.MacroM Lean.Name:=if F_z n==n then Lean.Macro.throwUnsupported else return F_z n;if s.isIdent then return Lean.mkIdentFrom s (<-g s.getId) else if s.isOfKind `Lean.Parser.Term.proj then return s.setArg 2 (Lean.mkIdent ((<-g (`x++s[2].getId)).replacePrefix `x .anonymous)) else Lean.Macro.throwUnsupported
local macro_rules(kind:=ident)|s=>F_y s
local macro_rules(kind:=Lean.Parser.Term.proj)|s=>F_y s
local macro_rules(kind:=Lean.Parser.Term.app)|s=>return s.setArg 0 (<-F_y s[0])
local macro_rules|`(∅)=>`(by decide)
local macro_rules|`('l')=>`(by simp;lia)
local macro_rules|`('s')=>`(by lia)
local macro_rules|`('r')=>`(by simp)
local macro_rules|`('o')=>`(by rfl)
local macro_rules|`('m')=>`(by omega)
local macro_rules|`('z')=>`(by decide +kernel)
local macro_rules|`('p')=>`(by assumption)
local macro_rules|`('k')=>`(by with_unfolding_all rfl)
local macro_rules|`('v')=>`(za X pins σ H s)
local macro_rules|`('w')=>`(model prog w)
local macro_rules|`('x')=>`(X.comp scope T C fp s₀ H₀)
local macro_rules|`('y')=>`(SB kx px p1 p2 p3 p4 p5 x1)
local macro_rules|`('a')=>`(model X.i X.w)
local macro_rules|`('b')=>`(GE Pt K)
local macro_rules|`('c')=>`(arrOf st)
local macro_rules|`('d')=>`(EP X pins σ Q)
local macro_rules|`('e')=>`(z9 st)
local macro_rules|`(↑$x)=>`(some (.ref $x))
local macro_rules|`($x⁻¹)=>`((($x:term : Nat):Int))
local macro_rules|`([$[$x],*]≈$e)=>`(by rw[$[$x:term],*];exact $e)
local macro_rules|`(~~~$x)=>`(by simpa using $x)
set_option hygiene true
local macro_rules|`(tactic| walk_at "w")=>`(tactic| conv=>whnf)
local macro_rules|`(tactic| walk_at "y")=>`(tactic| ((refine PySem.W.look_both ?_ ?_);(refine PySem.W.look_both ?_ ?_);(refine PySem.W.look_both ?_ ?_);(refine PySem.W.look_both ?_ ?_);(refine PySem.W.look_both ?_ ?_);(refine PySem.W.look_both ?_ ?_)))
local macro_rules(kind:=«term{_}»)|s=>return Lean.Syntax.node .none `Lean.Parser.Term.anonymousCtor #[Lean.mkAtom "⟨",s[1],Lean.mkAtom "⟩"]
set_option Elab.async false
set_option linter.all false
set_option maxRecDepth 100000
abbrev Aa:=@PySem.wpAny_bind
abbrev Ab:=@List.length_append
abbrev Ac:=@List.length_map
abbrev Ad:=@PyProof.Rows.wpS_bind
abbrev Ae:=@List.mem_cons_of_mem
abbrev Af:=@PyProof.Rows.wpS_pure
abbrev Ag:=@List.mem_cons_self
abbrev Ah:=@List.getElem?_eq_getElem
abbrev Ai:=@List.mem_append_right
abbrev Aj:=@PySem.W.Frag
abbrev Ak:=@List.mem_singleton
abbrev Al:=@List.getElem?_map
abbrev Am:=@List.mem_append
abbrev An:=@List.mem_append_left
abbrev Ao:=@List.mem_cons
abbrev Ap:=@Nat.le_refl
abbrev Aq:=@PySem.wpAny_pure
abbrev Ar:=@Nat.le_of_ble_eq_true
abbrev Au:=@Option.map_eq_some_iff
abbrev Av:=@List.size_toArray
abbrev Aw:=@List.nodup_append
abbrev Ax:=@List.map_append
abbrev Ay:=@decide_eq_false
abbrev Az:=@if_neg
abbrev AA:=@List.nodup_cons
abbrev AB:=@List.append_assoc
abbrev AC:=@List.flatMap_append
abbrev AD:=@List.mem_of_getElem?
abbrev AE:=@List.append_nil
abbrev AF:=@if_pos
abbrev AG:=@List.getElem?_append_left
abbrev AH:=@List.getElem?_append_right
abbrev AI:=@Bool.false_ne_true
abbrev AJ:=@decide_eq_true
abbrev AK:=@List.length_cons
abbrev AL:=@Nat.lt_of_lt_of_le
abbrev AM:=@List.mem_map
abbrev AN:=@Ne.symm
abbrev AO:=@PyProof.Rows.wpS_forRange
abbrev AQ:=@Nat.le_trans
abbrev AR:=@List.map_cons
abbrev AS:=@Bool.and_eq_true
abbrev AU:=@List.perm_ext_iff_of_nodup
abbrev AV:=@Option.some.inj
abbrev AW:=@List.mem_filter
abbrev AX:=@List.getElem?_set_ne
abbrev AY:=@List.pairwise_append
abbrev AZ:=@PyProof.Rows.wpS_mono
abbrev A1:=@List.take_append_drop
abbrev A2:=@List.length_take
abbrev A3:=@List.getElem?_eq_some_iff
abbrev A4:=@List.take_of_length_le
abbrev A5:=@PySem.wpAny_mono
abbrev A6:=@Int.ofNat_inj
abbrev A7:=@Nat.zero_le
abbrev A8:=@congrArg
abbrev A9:=@List.cons_ne_nil
abbrev Ba:=@Array.length_toList
abbrev Bb:=@Int.natCast_nonneg
abbrev Bc:=@Array.toList_append
abbrev Bd:=@Nat.le_add_right
abbrev Be:=@Array.getElem?_toList
abbrev Bf:=@List.mem_flatMap
abbrev Bg:=@List.mem_range
abbrev Bh:=@List.take_succ
abbrev Bi:=@Nat.ne_of_lt
abbrev Bj:=@List.getElem?_set_self
abbrev Bk:=@PySem.W.mg_none_of
abbrev Bl:=@PySem.wpAny_field
abbrev Bm:=@List.length_range
abbrev Bo:=@List.flatMap_cons
abbrev Bp:=@List.take_length
abbrev Bq:=@List.length_set
abbrev Br:=@Nat.le_of_lt
abbrev Bs:=@List.getD_eq_getElem?_getD
abbrev Bt:=@List.perm_append_right_iff
abbrev Bu:=@Nat.add_sub_cancel_left
abbrev Bv:=@List.perm_append_left_iff
abbrev Bw:=@PySem.W.mg_of
abbrev Bx:=@Int.toNat_natCast
abbrev Bz:=@Nat.lt_of_le_of_lt
abbrev BA:=@PySem.wpAny_holding
abbrev BB:=@Array.size_push
abbrev BC:=@List.getElem?_eq_none
abbrev BD:=@PySem.W.kia_one
abbrev BE:=@PySem.wpAny_newObj_type
abbrev BF:=@List.lookup_cons
abbrev BG:=@List.getElem_take
abbrev BH:=@List.eq_nil_of_length_eq_zero
abbrev BI:=@List.map_map
abbrev BJ:=@PySem.wpAny_rule
abbrev BK:=@List.not_mem_nil
abbrev BL:=@PySem.mem_of_lookup
abbrev BM:=@List.getElem_of_mem
abbrev BN:=@PySem.wpAny_seqItems
abbrev BO:=@List.mem_of_mem_take
abbrev BP:=@List.find?_cons
abbrev BQ:=@List.length_drop
abbrev BR:=@List.all_eq_true
abbrev BS:=@Int.le_of_lt
abbrev BU:=@List.perm_append_comm
abbrev BV:=@Int.le_trans
abbrev BW:=@Int.zero_add
abbrev BX:=@PySem.W.hideAll_none
abbrev BY:=@List.getElem?_replicate
abbrev BZ:=@Nat.succ_pos
abbrev B3:=@Array.size_append
abbrev B4:=@List.perm_iff_count
abbrev B5:=@List.getElem?_zip_eq_some
abbrev B6:=@List.sublist_append_right
abbrev B7:=@List.length_replicate
abbrev B8:=@Nat.lt_succ_self
abbrev B9:=@List.filter_cons
abbrev Cm:=@List.append_of_mem
abbrev Cn:=@Nat.le_succ
abbrev Co:=@List.mem_iff_getElem
abbrev Cp:=@Nat.exists_eq_add_of_le
abbrev Cq:=@List.getElem?_range
abbrev Cr:=@PyProof.Rows.callWith_type1
abbrev Cs:=@Nat.lt_irrefl
abbrev Ct:=@List.nodup_range
abbrev Cu:=@List.filter_append
abbrev Cv:=@List.perm_append_singleton
abbrev Cw:=@List.drop_eq_getElem_cons
abbrev Cy:=@List.nil_append
abbrev Cz:=@PySem.W.look_both
abbrev CA:=@Nat.le_succ_of_le
abbrev CB:=@Nat.lt_or_ge
abbrev CC:=@Nat.lt_succ_of_lt
abbrev CD:=@List.count_append
abbrev CF:=@List.any_cons
abbrev CG:=@List.cons.inj
abbrev CH:=@PyProof.Rows.slot_tuple_getitem
abbrev CI:=@Or.resolve_right
abbrev CK:=@List.eraseIdx_cons_succ
abbrev CL:=@decide_eq_decide
abbrev CM:=@List.getElem_mem
abbrev CN:=@List.Perm.refl
abbrev CO:=@List.nodup_nil
abbrev CP:=@PySem.W.of_hideAll
abbrev CQ:=@PySem.W.funFrames_hide
abbrev CS:=@List.getElem_cons_drop
abbrev CT:=@List.Perm.cons_inv
abbrev CU:=@Nat.min_eq_left
abbrev CV:=@List.length_filter_le
abbrev CW:=@List.mem_of_mem_drop
abbrev CY:=@Array.toList_reverse
abbrev CZ:=@Nat.le_sub_one_of_lt
abbrev C0:=@List.exists_cons_of_ne_nil
abbrev C1:=@Nat.ne_of_gt
abbrev C2:=@List.perm_middle
abbrev C3:=@Nat.sub_self
abbrev C4:=@List.flatMap_nil
abbrev C5:=@List.pairwise_iff_getElem
abbrev C6:=@PySem.W.hideAll_get
abbrev C7:=@List.filterMap_cons
abbrev C8:=@List.length_reverse
abbrev C9:=@List.reverse_append
abbrev Dd:=@List.map_congr_left
abbrev De:=@List.getElem?_take_of_lt
abbrev Df:=@List.all_cons
abbrev Dg:=@List.sublist_append_left
abbrev Di:=@List.of_mem_zip
abbrev Dj:=@List.forIn_cons
abbrev Dk:=@List.range_succ
abbrev Dl:=@Bool.false_eq_true
abbrev Dm:=@Array.size_extract
abbrev Dn:=@List.getElem?_cons_succ
abbrev Do:=@List.length_eraseIdx_le
abbrev Dp:=@Int.le_refl
abbrev Dq:=@Nat.lt_add_of_pos_right
abbrev Dr:=@List.reverse_cons
abbrev Ds:=@Bool.not_eq_true'
abbrev Dt:=@Array.toList_push
abbrev Du:=@List.take_zero
abbrev Dv:=@List.length_take_of_le
abbrev Dw:=@List.ext_getElem?
abbrev Dx:=@List.pairwise_map
abbrev Dy:=@List.mem_range'_1
abbrev Dz:=@List.Sublist.refl
abbrev DA:=@List.flatMap_singleton
abbrev DB:=@List.map_set
abbrev DC:=@List.eraseIdxIfInBounds_toArray
abbrev DE:=@List.length_singleton
abbrev DF:=@List.singleton_append
abbrev DG:=@Nat.succ_le_succ
abbrev DH:=@Nat.max_eq_right
abbrev DI:=@Int.mul_le_mul_of_nonneg_right
abbrev DJ:=@List.take_append_of_le_length
abbrev DK:=@List.getElem?_of_mem
abbrev DL:=@Option.map_some
abbrev DM:=@Nat.max_eq_left
abbrev DN:=@List.filter_nil
abbrev DO:=@Int.emod_nonneg
abbrev DP:=@List.toList_toArray
abbrev DQ:=@List.mem_map_of_mem
abbrev DR:=@List.map_nil
abbrev DS:=@Nat.le_of_eq
abbrev DU:=@List.all_map
abbrev DV:=@Nat.zero_add
abbrev DW:=@Int.ofNat_lt
abbrev DX:=@List.mem_filterMap
abbrev DY:=@Option.isSome_some
abbrev DZ:=@Bool.and_false
abbrev Eb:=@PySem.F.excBase_ValueError
abbrev Ec:=@PyProof.Rows.LSm.kept_iter
abbrev Ed:=@Nat.lt_or_eq_of_le
abbrev Ee:=@List.getElem?_drop
abbrev Ef:=@Int.emod_lt_of_pos
abbrev Eg:=@PyProof.Rows.firstMet_succ
abbrev Eh:=@congrFun
abbrev Ei:=@PySem.F.slot_dict_getitem
abbrev Ej:=@PySem.W.kitx_list
abbrev Ek:=@List.take_sublist
abbrev El:=@List.getElem_drop
abbrev Em:=@List.reverse_perm
abbrev En:=@List.nodup_range'
abbrev Eo:=@PySem.F.args_tuple_add_2
abbrev Ep:=@List.getElem_append_left
abbrev Er:=@PySem.F.entry_tuple_add
abbrev Es:=@PySem.F.plainAttrs_list
abbrev Et:=@List.zipIdx_cons
abbrev Eu:=@List.range'_succ
abbrev Ew:=@List.getElem?_set_self'
abbrev Ex:=@PySem.W.cellsFrom_some
abbrev Ey:=@PySem.F.slot_tuple_add
abbrev Ez:=@List.drop_eq_nil_of_le
abbrev ED:=@Nat.add_zero
abbrev EE:=@List.length_pos_of_mem
abbrev EF:=@Bool.eq_iff_iff
abbrev EG:=@Bool.or_eq_true
abbrev EH:=@Nat.le_add_left
abbrev EI:=@List.Perm.of_eq
abbrev EJ:=@beq_false_of_ne
abbrev EK:=@List.length_zip
abbrev EL:=@Nat.not_lt_zero
abbrev EM:=@List.forIn_nil
abbrev EN:=@List.drop_zero
abbrev EO:=@Nat.add_assoc
abbrev ER:=@List.sum_cons
abbrev ES:=@Nat.not_lt
abbrev wh:=@PySem.Heap.get?_push_of_some
abbrev xT:=@PySem.Heap.lt_size
abbrev ya:=@PySem.Heap.get?_push_size
abbrev yp:=@PySem.PassesOwn.never
abbrev As:=@PySem.Heap.SameBut.update
abbrev At:=@PySem.Calls.spliced_cons
abbrev Db:=@PySem.F.slot_tuple_iterator_next
abbrev DT:=@PySem.MeetsSeq.plain_remove_loop
abbrev Ev:=@PySem.W.look_both
abbrev EQ:=@PySem.Calls.spliced_nil
abbrev Fa:=@PySem.Heap.size_push
abbrev Fg:=@PySem.Heap.get?_update_self
abbrev Fh:=@PySem.F.slot_zip_next
abbrev Fi:=@Sum.inl.inj
abbrev Fj:=@Sum.inr.inj
abbrev aaa:=PySem.Value->PySem.Shared->Prop
abbrev aab:=Unit->PySem.Shared->Prop
abbrev aac:=PySem.Str->Option PySem.Value
abbrev aad:=List<|Nat×Nat
abbrev aae:=List (Nat×Nat)
abbrev aaf:=List PySem.Value
abbrev aag:=Array PySem.Value
abbrev aah:=List Nat
abbrev aai:=List PySem.Str
abbrev aaj:=List PySem.Expr
abbrev aak:=List PySem.Stmt
abbrev aal:=List Int
abbrev aam:=Option PySem.Value
abbrev aan:=Option Int
abbrev aao:=Nat->Nat
abbrev aap:=Nat×Nat
abbrev aaq:=PySem.Value
abbrev aar:=PySem.Shared
abbrev aas:=PySem.Program
abbrev aat:=PySem.World
abbrev aau:=PySem.Heap
abbrev aav:=String
noncomputable section
namespace L2
open PySem PyProof.Rows
def lV{M:Model}{U:Ctx}{p:Pos}{t:Sem Fin}{fs:List Frame}{s s':aar}{e:End}(h:Runs M U p t fs s e s'):s.D<=s'.D:=by induction h with|fresh _ g=>exact AQ (Cn _) g|call _ _ I J=>exact AQ I J|resumeFresh _ _ _ _ I J=>exact AQ I J|resumeSuspended _ _ _ _ I J=>exact AQ I J|segRet _ _ I J=>exact AQ I J|segGen _ _ I J=>exact AQ I J|segSuspGen _ _ _ _ I J=>exact AQ I J|_=>first|exact Ap _|assumption
def zI{M:Model}{J:Ctx}{p:Pos}{g:Nat}{r:Resume}{s s':aar}{res:GenResult}(h:Wakes M J p g r s res s'):s.D<=s'.D:=by
 unfold Wakes at h;split at h
 .exact h.r
 .split at h
  .obtain⟨e,U,I,_,_,rfl⟩:=h;have q:=lV I;exact q
  .obtain⟨_,rfl⟩:=h;exact Ap _
  .obtain⟨_,rfl⟩:=h;exact Ap _
 .obtain⟨e,U,I,_,_,rfl⟩:=h;have q:=lV I;exact q
 .obtain⟨_,rfl⟩:=h;exact Ap _
 .obtain⟨_,rfl⟩:=h;exact Ap _
def PY{α:Type}{M:Model}{j:Ctx}(t:Sem α):∀{Q:α->Pos->aar->Prop} {E:aaq->Pos->aar->Prop} {p:Pos} {s:aar} (n:Nat),n<=s.D->Sem.wp M j t Q E p s->Sem.wp M j t (λa U s'=>Q a U s'/\n<=s'.D) (λe U s'=>E e U s'/\n<=s'.D) p s:=by induction t with|pure a=>intro Q E p s n I h;exact{(h),I}|raise e=>intro Q E p s n I h;exact{(h),I}|load a part k J=>intro Q E p s n I ⟨o,h1,h2⟩;exact{o,h1,J o n I h2}|update a part f k J=>intro Q E p s n I ⟨h1,h2⟩;exact{h1,J () n I h2}|fresh k J=>intro Q E p s n I h;exact J s.D n (AQ I<|Cn _) h|choose C m k J=>intro Q E p s n I ⟨h1,h2⟩;exact{h1,J _ n I h2}|call c hd g l k J=>intro Q E p s n I ⟨r,s',h1,h2⟩;exact{r,s',h1,J r n (AQ I<|lV h1) h2}|genState g k J=>intro Q E p s n I ⟨st,h1,h2⟩;exact{st,h1,J _ n I h2}|resume g r l k J=>intro Q E p s n I ⟨res,s',h1,h2⟩;exact{res,s',h1,J _ n (AQ I<|zI h1) h2}|rule tag k J=>intro Q E p s n I h;exact J () n I h|«at» pos k J=>intro Q E p s n I h;exact J () n I h|alloc o k J=>intro Q E p s n I h;exact J _ n I h|loadIfAlive a k J=>intro Q E p s n I h;exact J _ n I h|point l k J=>intro Q E p s n I h;exact J _ n I h|ask k J=>intro Q E p s n I h;exact J _ n I h|os q l k J=>intro Q E p s n I h;exact J _ n I h|handled own k J=>intro Q E p s n I h;exact J _ n I h|newGen c k J=>intro Q E p s n I h;exact J _ n I h|stack k J=>intro Q E p s n I h;exact J _ n I h|thread k J=>intro Q E p s n I h;exact J _ n I h|unsupported w=>intro Q E p s n I h;exact h.r|finish e=>intro Q E p s n I h;exact h.r|register a k J=>intro Q E p s n I h;exact h.r|yield v g l k J=>intro Q E p s n I h;exact h.r|fork c k J=>intro Q E p s n I h;exact h.r|await a f d l k J=>intro Q E p s n I h;exact h.r
def yd{α:Type}{M:Model}{A:Around}{t:Sem α}{Q:α->aar->Prop}{E:aaa}{s:aar}(h:wpAny M A t Q E s):wpAny M A t (λa s'=>Q a s'/\s.D<=s'.D) (λe s'=>E e s'/\s.D<=s'.D) s:=
 λJ p I=>PY t s.D (Ap _)<|h J p I
def jv{α:Type}{M:Model}{A:Around}{t:Sem α}{Q:α->aar->Prop}{E:aaa}{s:aar}(I:0<s.D)(h:wpAny M A t (λa s'=>0<s'.D->Q a s') (λe s'=>0<s'.D->E e s') s):wpAny M A t Q E s:=
 A5 (yd h) (λ_ _ z=>z.1<|AL I z.2) λ_ _ z=>z.1<|AL I z.2
variable {M:PySem.Model}{ep i j kt m n na p q t' x1:Nat}{t t1 t2:Bool}{s s':PySem.Shared}{c e pj o target tg value:PySem.Expr}{α β κ:Type}{A:PySem.Around}{E Q xe:PySem.Value->PySem.Shared->Prop}{eH us:List PySem.Value}{cd eS hQ oc pm u:PySem.Value}{base h h':PySem.Heap}{ch fp:List PySem.Addr}{C Pt dx f fa it ka l l1 l2 pa pb:PySem.Addr}{kx n' px eK x:PySem.Str}{pins:List<|PySem.Addr×PySem.Obj}{nq es ml values:List PySem.Expr}{apos eT sy lp np p1 p2 p3 p4 p5 fx tp:PySem.Pos}{body:List PySem.Stmt}{lo:Int}{mA mg:PySem.Str->Option PySem.Value}{fd:PySem.FuncData}{ps:List PySem.Str}{fm scope:PySem.Scope}{outer:List PySem.Env}{ct:aad}{an od:Option PySem.Addr}{pR:Array<|Option PySem.Value}{prog:PySem.Program}{env:PySem.Env}{keys:List<|Option PySem.Expr}{rks:aal}
open PySem.Spec
abbrev jk:=Sum Int Str
def oo:jk->aaq->Bool
 |.inl k,v=>Value.isInt k v
 |.inr x,v=>Value.isStrOf x v
def PZ(w:aat):jk->Int
 |.inl k=>hashInt k
 |.inr x=>hashStr w x
theorem ki:∀{k:jk} {v:aaq},oo k v=true->(∃i t,k=Sum.inl i/\v=Value.int i t)\/(∃x t,k=Sum.inr x/\v=Value.str x t)
 |.inl i,v,h=>by obtain⟨t,e⟩:=Value.isInt_shape (k:=i) (v:=v) h;exact .inl {(i),t,rfl,e}
 |.inr x,v,h=>by obtain⟨t,e⟩:=Value.isStrOf_shape (x:=x) (v:=v) h;exact .inr {(x),t,rfl,e}
def P0(i:Int)(t:Tok):oo (.inl i) (.int i t)=true:=by simp[oo,Value.isInt]
def dw(x:Str)(t:Tok):oo (.inr x) (.str x t)=true:=by simp[oo,Value.isStrOf]
def P5(a b:Int):decide ((Sum.inl a:jk)=Sum.inl b)=(a==b):=by
 by_cases e:a=b
 .subst e;simp
 .have h:¬(Sum.inl a:jk)=Sum.inl b:=λq=>e<|Fi q;rw[Ay h];exact(beq_eq_false_iff_ne.d e).L
def P6(a b:Str):decide ((Sum.inr a:jk)=Sum.inr b)=decide (a=b):=by
 by_cases e:a=b
 .subst e;simp
 .have h:¬(Sum.inr a:jk)=Sum.inr b:=λq=>e<|Fj q;rw[Ay h,Ay e]
def P7(a:Int)(b:Str):decide ((Sum.inl a:jk)=Sum.inr b)=false:=Ay λq=>nomatch q
def P8(a:Str)(b:Int):decide ((Sum.inr a:jk)=Sum.inl b)=false:=Ay λq=>nomatch q
def w9(prog:aas)(w:aat):PySem.KeyKind prog w jk where
 is:=oo
 hash:=PZ w
 inj:=λv a b g U=>by
  rcases ki g with⟨i,t,rfl,rfl⟩|⟨x,t,rfl,rfl⟩
  .rcases ki U with⟨j,u,rfl,e⟩|⟨y,u,rfl,e⟩
   .injection e with I _;rw[I]
   .exact nomatch e
  .rcases ki U with⟨j,u,rfl,e⟩|⟨y,u,rfl,e⟩
   .exact nomatch e
   .injection e with I _;rw[I]
 byValue:=λk v h=>by rcases ki h with⟨i,t,rfl,rfl⟩|⟨x,t,rfl,rfl⟩<;>rfl
 pyHash:=λJ h=>by
  rcases ki J with⟨i,t,rfl,rfl⟩|⟨x,t,rfl,rfl⟩
  .exact wpAny_pyHash_int h
  .exact wpAny_pyHash_str h
 eqBool:=λl J h=>by
  rcases ki l with⟨i,t,rfl,rfl⟩|⟨x,t,rfl,rfl⟩
  .rcases ki J with⟨j,u,rfl,rfl⟩|⟨y,u,rfl,rfl⟩
   .rw[P5] at h;exact wpAny_eqBool_int h
   .rw[P7] at h;exact SeqAt.EqAt.int_str i t y u _ _ _ _ h
  .rcases ki J with⟨j,u,rfl,rfl⟩|⟨y,u,rfl,rfl⟩
   .rw[P8] at h;exact SeqAt.EqAt.str_int x t j u _ _ _ _ h
   .rw[P6] at h;exact wpAny_eqBool_str h
 «strs» := λk x t v h=>by
  rcases ki h with⟨i,u,rfl,e⟩|⟨y,u,rfl,e⟩
  .exact nomatch e
  .injection e with I _
   subst I;cases v<;>rfl
def xN(prog:aas)(w:aat)(i:Int)(t:Tok):(w9 prog w).is (.inl i) (.int i t)=true:=P0 i t
def wI(prog:aas)(w:aat)(x:Str)(t:Tok):(w9 prog w).is (.inr x) (.str x t)=true:=dw x t
set_option genInjectivity true in
inductive V where
 |GM|bl (b:Bool)|int (i:Int)|str (x:Str)|byt (b:Array UInt8)|flt (b:UInt64)|ref (a:Addr)|ty (n:aav)
 deriving DecidableEq
abbrev aax:=Option V
abbrev HT:=List V
def j9:V->aaq->Prop
 |.GM,u=>u=Value.none
 |.bl b,u=>u=Value.bool b
 |.int i,u=>∃t,u=Value.int i t
 |.str x,u=>∃t,u=Value.str x t
 |.byt b,u=>∃t,u=Value.bytes b t
 |.flt b,u=>∃t,u=Value.float b t
 |.ref a,u=>u=Value.ref a
 |.ty n,u=>u=Value.type n
abbrev zw:HT->aaf->Prop:=Paired j9
theorem zw.length{xs:HT}(r:zw xs us):xs.l=us.l:=Paired.length r
theorem zw.get:∀{xs:HT} {us:aaf} {i:Nat} {x:V},zw xs us->xs[i]?=some x->∃u,us[i]?=some u/\j9 x u
 |_,_,_,_,.nil,e=>by simp at e
 |_,_,0,_,.cons r _,e=>by simp at e;subst e;exact{_,rfl,r}
 |_,_,i+1,x,.cons _ t,e=>by obtain⟨u,h1,h2⟩:=zw.get (i:=i) (x:=x) t (~~~e);exact{u,~~~h1,h2}
theorem zw.set{x:V}{u:aaq}(r:j9 x u):∀{xs:HT} {us:aaf} (i:Nat),zw xs us->zw (xs.O i x) (us.O i u)
 |_,_,_,.nil=>.nil
 |_,_,0,.cons _ t=>.cons r t
 |_,_,i+1,.cons q t=>.cons q<|zw.set r i t
def zw.append:∀{xs ys:HT} {us I:aaf},zw xs us->zw ys I->zw (xs++ys) (us++I):=by
 intro xs ys us I h s
 induction h with|nil=>exact s|cons r t J=>exact .cons r J
theorem zw.take:∀{xs:HT} {us:aaf} (n:Nat),zw xs us->zw (xs.u n) (us.u n)
 |_,_,0,_=>.nil
 |_,_,_+1,.nil=>.nil
 |_,_,n+1,.cons r t=>.cons r<|zw.take n t
theorem zw.drop:∀{xs:HT} {us:aaf} (n:Nat),zw xs us->zw (xs.G n) (us.G n)
 |_,_,0,r=>r
 |_,_,_+1,.nil=>.nil
 |_,_,n+1,.cons _ t=>zw.drop n t
def sE:aax->aam->Prop
 |some v,some u=>j9 v u
 |none,none=>True
 |_,_=>False
def KV :List (κ×V)->List (κ×aaq)->Prop:=Paired λ(p:κ×V) (q:κ×aaq)=>p.1=q.1/\j9 p.2 q.2
def kV:jk->V
 |.inl i=>.int i
 |.inr x=>.str x
inductive HO where
 |lst (xs:HT)
 |tup (xs:HT)
 |dK (kvs:List<|jk×V)
 |ins (C dx:Addr) (fs:List<|Str×V)
 |own (x:Addr)
 |rng (lo hi:Int)
 |_b (o:Obj) (u:HO)
 |_N (ps:aag)
abbrev Hp:=Addr->Option HO
def upd(H:Hp)(a:Addr)(o:HO):Hp:=λb=>if b=a then some o else H b
def zg{H:Hp}{a:Addr}{o:HO}:upd H a o a=some o:=by unfold upd;rw[AF rfl]
def qp{H:Hp}{a b:Addr}{o:HO}(h:b≠a):upd H a o b=H b:=by unfold upd;rw[Az h]
def P9{H:Hp}{a:Addr}{o u:HO}:upd (upd H a o) a u=upd H a u:=by funext b;unfold upd;split<;>rfl
def Gr{H:Hp}{a b:Addr}{o u:HO}(h:H a=some o)(h':H b=some u)(d:o≠u):a≠b:=by intro e;subst e;rw[h] at h';exact d<|AV h'
def jf{H:Hp}{a b:Addr}{o:HO}(h:H a=some o)(h':H b=none):a≠b:=by intro e;subst e;rw[h] at h';cases h'
section
variable (P:aas)(w:aat)
def vd(H:Hp)(h:aau)(a:Addr):HO->Prop
 |.lst xs=>xs.length<=sizeLine/\∃(eH:aaf) (n:Nat),zw xs eH/\h.x a=some {cls:=.type "list",data:=.seq eH.m n}
 |.tup xs=>xs.length<=sizeLine/\∃eH:aaf,zw xs eH/\IsTup h a eH.m
 |.dK kvs=>kvs.length<=sizeLine/\(a==sysModules)=false/\∃vs,KV kvs vs/\h.DictOf (w9 P w) a vs
 |.ins C dx fs=>H dx=some (.own a)/\fs.l<=1000/\dx≠a/\h.x a=some (PySem.W.instObj C dx)/\
  ∃mA,h.Ns1 dx mA/\(∀f,sE (fs.e f)<|mA f)/\PySem.Within mA (fs.y (·.1))
 |.own _=>∃o,h.x a=some o
 |.rng lo hi=>∃t u v,h.x a=some {cls:=.type "range",data:=.fields #[.int lo t,.int hi u,.int 1 v]}
 |._b o u=>h.get? a=some o/\vd H h a u
 |._N ps=>h.get? a=some {cls:=.none,data:=.fields ps}
def gB(H:Hp)(h:aau):Prop:=∀a o,H a=some o->vd P w H h a o
end
section
variable {P:aas}{w:aat}{H H':Hp}{a:Addr}{o:HO}
theorem vd.lt(x:vd P w H h a o):a<h.objs.q:=by
 cases o with
 |lst I=>obtain⟨_,_,_,_,e⟩:=x;exact xT e
 |tup I=>obtain⟨_,_,_,p⟩:=x;exact p.lt
 |dK J=>obtain⟨_,_,_,_,o,_,_,e,_⟩:=x;exact xT e
 |ins C U fs=>obtain⟨_,_,_,e,_⟩:=x;exact xT e
 |own y=>obtain⟨_,e⟩:=x;exact xT e
 |rng lo g=>obtain⟨_,_,_,e⟩:=x;exact xT e
 |_b ob u=>obtain⟨e,_⟩:=x;exact xT e
 |_N j=>exact xT<|show h.x a=some _ from x
def Paired.mapP{F G:α->β->Prop}:∀{l₁:List α} {l₂:List β},Paired F l₁ l₂->(∀a b,F a b->G a b)->Paired G l₁ l₂:=by
 intro l₁ l₂ h f
 induction h with|nil=>exact .nil|cons r t I=>exact .cons (f _ _ r) I
abbrev EX:=@Paired.mapP
def vd._e(x:vd P w H h a o)(k:∀b u,(b=a\/H b=some (.own a))->h.get? b=some u->h'.get? b=some u)
 (g:∀b,H b=some (.own a)->H' b=some (.own a)) (ht:∀b xs,H b=some (.tup xs)->H' b=some (.tup xs)):vd P w H' h' a o:=by
 induction o with
 |lst xs=>obtain⟨z,I,n,r,e⟩:=x;exact{z,I,n,r,k _ _ (.inl rfl) e}
 |tup xs=>obtain⟨z,I,r,ob,e,c⟩:=x;exact{z,I,r,ob,k _ _ (.inl rfl) e,c}
 |dK j=>obtain⟨z,y,l,r,ob,J,U,e,c⟩:=x;exact{z,y,l,r,ob,J,U,k _ _ (.inl rfl) e,c}
 |ins C dx fs=>
  obtain⟨d,z,ne,e,p,⟨T,J,U,e2,c⟩,r⟩:=x;exact{g _ d,z,ne,k _ _ (.inl rfl) e,p,{T,J,U,k _ _ (.inr d) e2,c},r}
 |own y=>obtain⟨ob,e⟩:=x;exact{ob,k _ _ (.inl rfl) e}
 |rng lo hi=>obtain⟨t,u,v,e⟩:=x;exact{t,u,v,k _ _ (.inl rfl) e}
 |_b ob u ih=>obtain⟨e,q⟩:=x;exact{k _ _ (.inl rfl) e,ih q}
 |_N ps=>
  have e:=x;exact k a _ (.inl rfl) e
theorem gB.lt(x:gB P w H h)(e:H a=some o):a<h.objs.q:=(x a o e).lt
def gB.fresh(x:gB P w H h)(e:h.objs.q<=a):H a=none:=by cases q:H a with|none=>rfl|some u=>exact absurd (AL (x.lt q) e)<|Cs _
def gB.kept(x:gB P w H h)(k:∀b u,h.x b=some u->h'.get? b=some u):gB P w H h':=λa o e=>
 (x a o e)._e (λb u _ q=>k b u q) (λ_ q=>q) λ_ _ q=>q
def gB.laid(x:gB P w H h)(k:∀b u,h.x b=some u->h'.get? b=some u)(U:h.objs.q<=a)(new:vd P w (upd H a o) h' a o):gB P w (upd H a o) h':=λb u e=>by
 have I:=x.fresh U;by_cases J:b=a
 .subst J;rw[zg] at e;cases e;exact new
 .rw[qp J] at e;exact(x b u e)._e (λc v _ q=>k c v q) (λc q=>by rw[qp<|jf q I];exact q) λc g q=>by rw[qp<|jf q I];exact q
end
def Rd(H:Hp)(a:Addr)(u:HO):Prop:=H a=some u\/∃o,H a=some (._b o u)
def Rd.ok{P:aas}{w:aat}{H:Hp}{a:Addr}{u:HO}(r:Rd H a u)(x:gB P w H h):vd P w H h a u:=by
 obtain r|⟨o,r⟩:=r
 .exact x a u r
 .obtain⟨_,q⟩:=x a _ r;exact q
def FX:Option HO->Prop
 |⇑_=>True
 |some (.dK _)=>True
 |some (.ins _ _ _)=>True
 |_=>False
section
variable {P:aas}{w:aat}{H:Hp}{x e:Addr}{o':HO}
def gB.write(ok:gB P w H h)(g:FX<|H x)(t:e=x\/H e=some (.own x))(k:∀b u,b≠e->h.get? b=some u->h'.get? b=some u)(p:∃u,h'.x e=some u)
 (new:vd P w (upd H x o') h' x o'):gB P w (upd H x o') h':=λb u q=>by
 have J:∀c y,H c=some (.own y)->c≠x:=λc y r z=>by subst z;rw[r] at g;exact g
 have U:∀c j,H c=some (.tup j)->c≠x:=λc j r z=>by subst z;rw[r] at g;exact g
 by_cases l:b=x
 .subst l;rw[zg] at q;cases q;exact new
 .rw[qp l] at q;by_cases I:b=e
  .have C:H b=some (.own x):=by
    obtain z|z:=t
    .exact absurd (I.t z) l
    .rw[I];exact z
   rw[q] at C;cases C;obtain⟨v,T⟩:=p;exact{v,by rw[I];exact T}
  .refine(ok b u q)._e (λc v o r=>k c v ?_ r) (λc r=>by rw[qp<|J c b r];exact r) λc j r=>by rw[qp<|U c j r];exact r
   obtain rfl|o:=o
   .exact I
   .rintro rfl;obtain z|z:=t
    .exact J c b o z
    .rw[o] at z;cases z;exact l rfl
end
structure Un(fs ex:List Addr)(H H':Hp)(h h':aau):Prop where
 keep:∀b o,h.x b=some o->H b=none->b∉fs->b∉ex->h'.get? b=some o
 slot:∀b o,h.x b=some o->H b=none->b∈fs->b∉ex->∃sl,h'.x b=some {o with slots:=sl}
 free:∀b o,h.x b=some o->H b=none->b∉ex->H' b=none
 there:∀b o,h.x b=some o->b∉ex->∃o',h'.x b=some o'
 _h:∀b xs,H b=some (.tup xs)->H' b=some (.tup xs)
 _i:∀b o u,H b=some (._b o u)->H' b=some (._b o u)
 _t:∀b ps,H b=some (._N ps)->∃more,H' b=some (._N<|ps++more)
section
variable {fs fs' ex ex':List Addr}{H H1 H2:Hp}{h1 h2:aau}{a x e:Addr}{o:HO}
def Un.any(u:Un fs ex H H1 h h1){b:Addr}{ob:Obj}(q:h.x b=some ob)(n:H b=none)(I:b∉ex):∃U,h1.x b=some {ob with slots:=U}:=by
 by_cases J:b∈fs
 .exact u.slot b ob q n J I
 .exact{ob.slots,u.keep b ob q n J I}
def Un.kept(k:∀b u,h.x b=some u->h'.get? b=some u):Un fs ex H H h h':=
 ⟨λb ob q _ _ _=>k b ob q,λb ob q _ _ _=>{ob.slots,k b ob q},λ_ _ _ n _=>n,λb ob q _=>{ob,k b ob q},λ_ _ q=>q,λ_ _ _ q=>q,λ_ I q=>{#[],by rw[q];simp}⟩
def Un.refl:Un fs ex H H h h:=Un.kept λ_ _ q=>q
def Un.laid(k:∀b u,h.x b=some u->h'.get? b=some u)(J:h.objs.q<=a)(I:H a=none):Un fs ex H (upd H a o) h h' where
 keep:=λb u q _ _ _=>k b u q
 slot:=λb u q _ _ _=>{u.slots,k b u q}
 free:=λb u q n _=>by rw[qp<|Bi<|AL (xT q) J];exact n
 there:=λb u q _=>{u,k b u q}
 _h:=λb U q=>by rw[qp<|jf q I];exact q
 _i:=λb u U q=>by rw[qp<|jf q I];exact q
 _t:=λb g q=>{#[],by rw[qp<|jf q I,q];simp}
def Un.write(J:FX<|H x)(p:e=x\/H e=some (.own x))(k:∀b u,b≠e->h.get? b=some u->h'.get? b=some u)(U:∃u,h'.x e=some u):Un fs ex H (upd H x o) h h':=by
 have j:∀b,H b=none->b≠x:=λb n z=>by subst z;rw[n] at J;exact J
 have l:∀b,H b=none->b≠e:=λb n z=>by
  subst z;obtain r|r:=p
  .exact j b n r
  .rw[n] at r;cases r
 have g:∀b u,H b=some u->¬FX (some u)->b≠x:=λb u q nm z=>by subst z;rw[q] at J;exact nm J
 refine{λb u q n _ _=>k b u (l b n) q,λb u q n _ _=>{u.slots,k b u (l b n) q},λb u q n _=>by rw[qp<|j b n];exact n,λb u q _=>?_,
  λb t q=>by rw[qp<|g b _ q λz=>z];exact q,λb u t q=>by rw[qp<|g b _ q λz=>z];exact q,λb C q=>{#[],by rw[qp<|g b _ q λz=>z,q];simp}}
 by_cases I:b=e
 .subst I;exact U
 .exact{u,k b u I q}
end
def Gs(h:aau)(H:Hp):List Addr:=(List.range h.objs.q).S λa=>(H a).Z
def u0(h:aau)(H:Hp):aau:=PySem.W.hideAll h<|Gs h H
def P_(h:aau)(H:Hp):(u0 h H).objs.size=h.objs.q:=PySem.W.hideAll_size _ _
def P'{H:Hp}{b:Addr}{o:Obj}(e:h.x b=some o)(n:H b=none):(u0 h H).x b=some o:=
 C6 _ e λI=>by have q:=(AW.j I).2;rw[n] at q;simp at q
def Qa{H:Hp}{b:Addr}{o:Obj}(e:(u0 h H).x b=some o):h.x b=some o/\H b=none:=by
 have I:=CP (Gs h H) e;refine{I,?_};cases q:H b with
 |none=>rfl
 |some x=>
  have J:b∈Gs h H:=AW.d {Bg.d<|xT I,by simp[q]};have z:(u0 h H).x b=none:=BX (Gs h H) J;rw[z] at e;cases e
variable {vs xs:List V}{H H' H₀:Hp}{v:V}
structure Mod(K:Aj)(mg:aac)(base:aau):Prop where
 kin:K.In base
 glob:base.Ns mainGlobals mg
 blt:∃mb,base.Ns builtinsNs mb/\∀x:Str,x ≠ "__name__" -> mb x=bootBuiltins x
 nolimit:base.NoLimit
structure Cx where
 prog:aas
 w:aat
 K:Aj
 mg:aac
 base:aau
 A:Around
 N:aai
 s₀:aar
 H₀:Hp
 env:Env
 outer:List Env
 stack:List Env
 ex:List Addr
 fn:Str->Bool
 calm:Bool
 pn:List (Addr×Obj)
 xe:aaa
abbrev _S(X:Cx){α:Type}:=@wpAny α 'a' X.A
def dk(l:List Env):List Addr:=l.filterMap (·.frame)
abbrev Cx.fs(X:Cx):List Addr:=dk X.outer
def Fv(I:Scope)(x:Str):Prop:=I.names.e x=some .local\/I.names.e x=some .cell\/I.names.e x=some .free
def Loc(I:Scope)(x:Str):Prop:=I.names.e x=some .local\/I.names.e x=some .cell
def Qb(env:Env)(h:aau)(m:aac)(x:Str)(u:aaq):Prop:=
 (env.Q x=some .local/\m x=some u)\/((env.Q x=some .cell\/env.Q x=some .free)/\∃c,env.cells.e x=some c/\h.IsCell c (some u))
structure Cx.Ok(X:Cx):Prop where
 mod:Mod X.K X.mg X.Y
 kind:X.env.scope.kind=.function
 glob:X.env.globals=mainGlobals
 blt:X.env.builtins=builtinsNs
 above:X.s₀.heap.objs.q<=X.env.M
 inj:∀x y c,X.env.cells.e x=some c->X.env.cells.lookup y=some c->x=y
 has:∀x,(X.env.Q x=some .cell\/X.env.Q x=some .free)->∃c,X.env.cells.e x=some c
 cab:∀x c,X.fn x=true->X.env.cells.lookup x=some c->X.s₀.heap.objs.size<=c
 hd:X.calm=true->X.A.handled=none
 frames:X.A.frames=some X.p
 stk:X.p=X.outer\/(X.p=X.o::X.outer/\X.env.frame=some X.env.M)
 exf:∀b∈X.ex,b≠X.env.M/\∀x c,X.env.cells.e x=some c->c≠b
 bs:∀b o,X.base.x b=some o->X.s₀.heap.get? b=some o/\X.H₀ b=none
 bsz:X.base.objs.q<=X.s₀.heap.objs.q
 _H:∀b o,X.base.x b=some o->b∉X.ex
 _I:∀b∈X.ex,b∉X.fs
 _o:X.s₀.heap.FunFrames X.Y X.outer
 frf:∀b∈X.fs,X.H₀ b=none
structure za(X:Cx)(pins:List<|Addr×Obj)(σ:List<|aax)(H:Hp)(s:aar):Prop where
 ok:X.Ok
 os:s.os=X.s₀.os
 bare:AllBare s.gens
 base:Un X.fs X.ex X.H₀ H X.s₀.v s.v
 loc:∃m,s.heap.Ns X.env.M m/\∀(i:Nat) (x:Str) (v:V),X.N[i]?=some x->σ[i]?=some (some v)->Fv X.env.scope x->∃u,j9 v u/\Qb X.o s.v m x u
 cell:∀x c,X.env.cells.e x=some c->∃v,s.heap.IsCell c v
 free:H X.env.M=none
 Pi:∀x c,X.env.cells.e x=some c->H c=none
 pin:∀p∈X.pn++pins,s.heap.x p.1=some p.2/\H p.1=none/\p.1≠X.env.M/\p.1∉X.fs/\∀v,p.2.data≠.cell v
 KB:gB X.i X.w H s.v
 len:σ.l=X.N.l
 tk:0<s.D
section
variable {X:Cx}{σ:List<|aax}
theorem Cx.Ok.nofr(ok:X.Ok){b:Addr}{o:Obj}(e:X.base.x b=some o):b∉X.fs:=λI=>by have:=(ok._o.mem I).1;rw[e] at this;cases this
theorem za.bs(I:'v'):∀b o,X.base.x b=some o->s.heap.get? b=some o/\H b=none:=λb o e=>
 ⟨I.base.keep b o (I.ok.bs b o e).1 (I.ok.bs b o e).2 (I.ok.nofr e)<|I.ok._H b o e,I.base.U b o (I.ok.bs b o e).1 (I.ok.bs b o e).2<|I.ok._H b o e⟩
def za.bk(I:'v'):∀b o,X.base.x b=some o->s.heap.get? b=some o:=λb o e=>(I.bs b o e).1
theorem za.mod(I:'v'):Mod X.K X.mg X.Y:=I.ok.mod
def za._A(I:'v'):X.K.In s.v:=I.ok.mod.kin.keeps I.bk
theorem za.nolimit(I:'v'):s.heap.NoLimit:=I.ok.mod.nolimit.keeps I.bk
theorem za.lt(I:'v'):X.env.M<↥s:=let ⟨_,J,_⟩:=I.loc;J.lt
def za.sz(I:'v'):X.s₀.heap.objs.q<=↥s:=AQ I.ok.above<|Br I.lt
def za.nofs(I:'v'){a:Addr}(h:↥s<=a):a∉X.fs:=λJ=>by obtain⟨_,o,U,_⟩:=I.ok._o.mem J;exact absurd (AL (xT U)<|AQ I.sz h)<|Cs _
def za.cne(I:'v'):∀x c,X.env.cells.e x=some c->c≠X.env.M:=λx c e z=>by obtain⟨v,o,g,hd⟩:=I.cell x c e;obtain⟨m,⟨j,l,p,J,U,_⟩,_⟩:=I.loc;rw[z,J] at g;cases g;rw[U] at hd;cases hd
theorem za._o(I:'v'):s.heap.FunFrames X.Y X.outer:=by
 have all:∀(l:List Env),(∀b∈dk l,b∈X.fs)->X.s₀.heap.FunFrames X.Y l->s.heap.FunFrames X.Y l:=by
  intro l
  induction l with
  |nil=>intro _ _;trivial
  |cons p r t=>
   rintro j⟨T,⟨L,o,J,hn,ho,hd⟩,hr⟩;have U:=j L (by unfold dk;rw[C7,J];exact Ag);obtain⟨sl,e⟩:=I.base.slot L o ho (I.ok.frf L U) U λz=>I.ok._I L z U;exact{T,{L,_,J,hn,e,hd},t (λb g=>j b (by unfold dk;rw[C7,J];exact Ae _ g)) hr}
 exact all X.outer (λ_ g=>g) I.ok._o
def za.stack(I:'v'):s.heap.FunFrames X.Y X.p:=by
 obtain e|⟨e,J⟩:=I.ok.stk
 .rw[e];exact I._o
 .rw[e];obtain⟨m,U,_⟩:=I.loc;refine .cons (by rw[I.ok.kind];decide) J U ?_ I._o;exact Heap.get?_none_of_le<|AQ I.ok.bsz I.ok.above
def za._s(I:'v'):∀b∈dk X.p,b∈X.env.M::X.fs:=λb J=>by
 obtain e|⟨e,U⟩:=I.ok.stk
 .rw[e] at J;exact Ae _ J
 .rw[e] at J;unfold dk at J;rw[C7,U] at J;exact J
def za.stkFree(I:'v'):∀b∈dk X.p,H b=none:=λb J=>by
 obtain e|J:=Ao.j (I._s b J)
 .rw[e];exact I.U
 .obtain⟨_,o,U,_⟩:=I.ok._o.mem J;exact I.base.U b o U (I.ok.frf b J) λz=>I.ok._I b z J
def za.step{g':Array GenState}{d':Drawn}(I:'v')
 (U:∀b∈ch,(b∈X.ex\/X.s₀.heap.objs.q<=b)/\b≠X.env.M/\(∀x c,X.env.cells.e x=some c->c≠b)/\∀p∈X.pn++pins,p.1≠b)
 (keep:∀b o,b≠X.env.M->b∉X.fs->b∉ch->s.heap.get? b=some o->H b=none->h'.get? b=some o)
 (slot:∀b o,b≠X.env.M->b∈X.fs->b∉ch->s.heap.get? b=some o->H b=none->∃sl,h'.x b=some {o with slots:=sl}) (free:∀b o,b∉ch->s.heap.get? b=some o->H b=none->H' b=none)
 (there:∀b o,b∉ch->s.heap.get? b=some o->∃o',h'.x b=some o')
 (_h:∀b xs,H b=some (.tup xs)->H' b=some (.tup xs)) (_i:∀b o u,H b=some (._b o u)->H' b=some (._b o u)) (_t:∀b ps,H b=some (._N ps)->∃more,H' b=some (._N<|ps++more))
 (ns:∀m,s.heap.Ns X.env.M m->h'.Ns X.env.M m) (KB:gB X.i X.w H' h') (hg:AllBare g') (ht:0<t':=by walk_at "t"):
 za X pins σ H' {s with heap:=h',gens:=g',drawn:=d',toks:=t'}:=by
 have ku:∀b o,X.s₀.heap.x b=some o->b≠X.env.M:=λb o e=>Bi<|AL (xT e) I.ok.above;have t:∀b o,X.s₀.heap.x b=some o->b∉X.ex->b∉ch:=λb o e J T=>by
  obtain z|z:=(U b T).1
  .exact J z
  .exact absurd (AL (xT e) z)<|Cs _
 have g:∀x c,X.env.cells.e x=some c->∀v,s.heap.IsCell c v->h'.IsCell c v:=λx c e v ⟨o,ho,hd⟩=>by
  have j:c∉ch:=λz=>(U c z).2.2.1 x c e rfl;by_cases hc:c∈X.fs
  .obtain⟨sl,q⟩:=slot c o (I.cne x c e) hc j ho<|I.Pi x c e;exact{_,q,hd}
  .exact{o,keep c o (I.cne x c e) hc j ho<|I.Pi x c e,hd}
 refine{I.ok,I.os,hg,{λb o e n T J=>?_,λb o e n T J=>?_,λb o e n J=>?_,λb o e J=>?_,λb xs e=>_h b xs<|I.base._h b xs e,λb o xs e=>_i b o xs<|I.base._i b o xs e,λb ps e=>?_},?_,λx c e=>?_,?_,λx c e=>?_,λp hp=>?_,KB,I.len,ht}
 .exact keep b o (ku b o e) T (t b o e J) (I.base.keep b o e n T J)<|I.base.free b o e n J
 .obtain⟨sl,C⟩:=I.base.slot b o e n T J;obtain⟨a1,e2⟩:=slot b _ (ku b o e) T (t b o e J) C<|I.base.free b o e n J;exact{(a1),e2}
 .obtain⟨o',C⟩:=I.base.there b o e J;exact free b o' (t b o e J) C<|I.base.free b o e n J
 .obtain⟨o',C⟩:=I.base.there b o e J;exact there b o' (t b o e J) C
 .obtain⟨m1,C⟩:=I.base._t b ps e;obtain⟨m2,e2⟩:=_t b _ C;exact{m1++m2,by rw[e2,Array.append_assoc]}
 .obtain⟨m,hn,hl⟩:=I.loc;refine{m,ns m hn,λi x v C e2 e3=>?_};obtain⟨u,r,l⟩:=hl i x v C e2 e3;refine{u,r,?_};obtain l|⟨k,c,e,z⟩:=l
  .exact .inl l
  .exact .inr {k,c,e,g x c e _ z}
 .obtain⟨v,z⟩:=I.cell x c e;exact{v,g x c e v z}
 .obtain⟨m,⟨o,_,_,ho,_⟩,_⟩:=I.loc;exact free _ o (λz=>(U _ z).2.1 rfl) ho I.U
 .obtain⟨v,o,ho,hd⟩:=I.cell x c e;exact free c o (λz=>(U c z).2.2.1 x c e rfl) ho<|I.Pi x c e
 .obtain⟨e,n,ne,nf,d⟩:=I.pin p hp;have j:p.1∉ch:=λz=>(U p.1 z).2.2.2 p hp rfl;exact{keep p.1 p.2 ne nf j e n,free p.1 p.2 j e n,ne,nf,d}
def za.un(I:'v')(u:Un X.fs [] H H' s.v h')(KB:gB X.i X.w H' h')(T:0<t':=by walk_at "t"):za X pins σ H' {s with heap:=h',toks:=t'}:=by obtain⟨m,⟨o,es,ep,l,r⟩,_⟩:=id I.loc;obtain⟨sl,p⟩:=u.any l I.U 'r';exact I.step (g':=s.gens) (d':=s.drawn) (ch:=[]) (λ_ z=>nomatch z) (λb o _ U _ e n=>u.keep b o e n U 'r') (λb o _ U _ e n=>u.slot b o e n U 'r') (λb o _ e n=>u.free b o e n 'r') (λb o _ e=>u.there b o e 'r') u._h u._i u._t (λm' t=>by obtain⟨o',g,j,J,C⟩:=t;rw[l] at J;cases J;exact{_,g,j,p,C}) KB I.bare
def za.call{g':Array GenState}{d':Drawn}(I:'v')(u:Un (dk X.p) ch H H' s.v h')(KB:gB X.i X.w H' h')(T:AllBare g')
 (U:∀b∈ch,(b∈X.ex\/X.s₀.heap.objs.q<=b)/\b≠X.env.M/\(∀x c,X.env.cells.e x=some c->c≠b)/\∀p∈X.pn++pins,p.1≠b) (ht:0<t':=by walk_at "t"):
 za X pins σ H' {s with heap:=h',gens:=g',drawn:=d',toks:=t'}:=by
 obtain⟨m,⟨o,es,ep,C,r⟩,_⟩:=id I.loc;obtain⟨sl,j⟩:=u.any C I.U λz=>(U _ z).2.1 rfl;exact I.step (ch:=ch) U (λb o j hb J e n=>u.keep b o e n (λz=>(Ao.j<|I._s b z).r j hb) J) (λb o _ _ J e n=>u.any e n J) (λb o J e n=>u.free b o e n J) (λb o J e=>u.there b o e J) u._h u._i u._t (λm' hm=>by obtain⟨o',l,t,g,r'⟩:=hm;rw[C] at g;cases g;exact{_,l,t,j,r'}) KB T
def za.turned(I:'v')(k:∀b o,b≠it->s.heap.get? b=some o->h'.get? b=some o)(j:H it=none)(g:it≠X.env.M)
 (h1:it∈X.ex\/X.s₀.heap.objs.q<=it) (h2:∀x c,X.env.cells.e x=some c->c≠it) (h3:∀p∈X.pn++pins,p.1≠it) (ht:0<t':=by walk_at "t"):za X pins σ H {s with heap:=h',toks:=t'}:=by
 have U:∀b u,H b=some u->b≠it:=λb u e z=>by rw[z,j] at e;cases e
 refine I.step (g':=s.gens) (d':=s.drawn) (ch:=[it]) (λb l=>?_) (λb o _ _ J e _=>k b o (λz=>J (by simp[z])) e) (λb o _ _ J e _=>{o.slots,k b o (λz=>J (by simp[z])) e}) (λ_ _ _ _ n=>n)
  (λb o J e=>{o,k b o (λz=>J (by simp[z])) e}) (λ_ _ e=>e) (λ_ _ _ e=>e) (λb ps e=>{#[],by rw[e];simp}) (λm t=>?_) (λb u e=>?_) I.bare
 .have e:b=it:=by simpa using l
  subst e;exact{(h1),g,h2,h3}
 .obtain⟨o,C,T,ho,r⟩:=t;exact{o,C,T,k _ o (AN g) ho,r}
 .refine(I.KB b u e)._e (λc v J q=>k c v ?_ q) (λ_ q=>q) λ_ _ q=>q;obtain z|z:=J
  .rw[z];exact U b u e
  .exact U c _ z
def za.tok(I:'v')(t:Nat)(J:0<t:=by walk_at "t"):za X pins σ H {s with toks:=t}:=I.un (h':=s.v) (t':=t) Un.refl I.KB
theorem za.kept(I:'v')(k:∀b u,s.heap.x b=some u->h'.get? b=some u)(J:0<t':=by walk_at "t"):za X pins σ H {s with heap:=h',toks:=t'}:=I.un (Un.kept k)<|I.KB.kept k
theorem za.laid{a:Addr}{o:HO}(I:'v')(k:∀b u,s.heap.x b=some u->h'.get? b=some u)(J:↥s<=a)(new:vd X.i X.w (upd H a o) h' a o)(U:0<t':=by walk_at "t"):
 za X pins σ (upd H a o) {s with heap:=h',toks:=t'}:=I.un (Un.laid k J<|I.KB.fresh J)<|I.KB.laid k J new
theorem za.write{x e:Addr}{o:HO}(I:'v')(U:FX<|H x)(g:e=x\/H e=some (.own x))(k:∀b u,b≠e->s.heap.get? b=some u->h'.get? b=some u)(J:∃u,h'.x e=some u)
 (new:vd X.i X.w (upd H x o) h' x o) (j:0<t':=by walk_at "t"):za X pins σ (upd H x o) {s with heap:=h',toks:=t'}:=I.un (Un.write U g k J)<|I.KB.write U g k J new
def za.weak{fy:List<|aax}(I:'v')(U:fy.l=σ.l)(w:∀(i:Nat) v,fy[i]?=some (some v)->σ[i]?=some (some v)):za X pins fy H s:=
 ⟨I.ok,I.os,I.bare,I.Y,let ⟨m,g,J⟩:=I.loc;⟨m,g,λi x v j l o=>J i x v j (w i v l) o⟩,I.cell,I.U,I.Pi,I.pin,I.KB,U.t I.len,I.tk⟩
def za.pins_of{J:List<|Addr×Obj}(I:'v')(h:∀p∈J,s.heap.x p.1=some p.2/\H p.1=none/\p.1≠X.env.M/\p.1∉X.fs/\∀v,p.2.data≠.cell v):za X J σ H s:=
 ⟨I.ok,I.os,I.bare,I.Y,I.loc,I.cell,I.U,I.Pi,λp U=>(Am.j U).r (λz=>I.pin p<|An _ z)<|h p,I.KB,I.len,I.tk⟩
def pq{N:aai}(hN:N.c)(a:N[i]?=some x)(b:N[j]?=some x):i=j:=by obtain⟨h1,I⟩:=A3.j a;obtain⟨h2,J⟩:=A3.j b;exact(List.getElem_inj hN).j (I.t J.L)
def tS{Q:aab}(I:'v')(hN:X.N.c)(hi:X.N[i]?=some x)(t:Loc X.env.scope x)(r:j9 v u)
 (h:∀s',za X pins (σ.O i<|some v) H s'->(∃a,Heap.SameBut a s.v s'.v/\(a=X.env.M\/X.env.cells.e x=some a))->(X.env.Q x=some .local->∃m',s'.heap.Ns X.env.M m'/\m' x=some u)->Q () s') (hf:X.fn x=true\/X.env.scope.names.e x=some .local:=by first|exact .inl rfl|exact .inr rfl|assumption):wpAny M A (storeName X.o x u) Q E s:=by
 obtain⟨m,hn,hl⟩:=id I.loc;have a3:(X.env.scope.kind==.class||(X.env.scope.kind==.module&&X.env.M != X.env.globals))=false:=by rw[I.ok.kind];rfl
 have a1:i<σ.l:=by rw[I.len];exact(A3.j hi).1
 have cne:=I.cne;have U:∀{a:Addr} {h':aau},(∃o,s.heap.x a=some o/\H a=none)->Heap.SameBut a s.v h'->gB X.i X.w H h':=λ{a h'} ha J b ob e=>by
  obtain⟨_,_,C⟩:=ha;refine(I.KB b ob e)._e (λc w' l q=>(J.2 c ?_).t q) (λ_ q=>q) λ_ _ q=>q;rintro rfl;obtain rfl|l:=l
  .rw[C] at e;cases e
  .rw[C] at l;cases l
 obtain T|T:=t
 .refine wpAny_storeName_local T hn (λh' a4 J=>?_) a3;obtain⟨oL,_,_,au,_⟩:=id hn;refine h _ {I.ok,I.os,I.bare,{λb o e n hb t=>?_,λb o e n hb t=>?_,I.base.U,λb o e t=>?_,I.base._h,I.base._i,I.base._t},{_,a4,λj y v' g e2 e3=>?_},λy c e=>?_,I.U,I.Pi,λp hp=>?_,U {(oL),au,I.U} J,~~~I.len,by first|exact I.tk|exact BZ _} {_,J,.inl rfl} λ_=>{_,a4,'r'}
  .exact(J.2 b<|Bi<|AL (xT e) I.ok.above).t (I.base.keep b o e n hb t)
  .obtain⟨sl,g⟩:=I.base.slot b o e n hb t;exact{sl,(J.2 b<|Bi<|AL (xT e) I.ok.above).t g}
  .obtain⟨o',g⟩:=I.base.there b o e t;exact{o',(J.2 b<|Bi<|AL (xT e) I.ok.above).t g}
  .by_cases hj:j=i
   .subst hj;rw[hi] at g;cases g;rw[Bj a1] at e2;cases e2;exact{u,r,.inl {T,'r'}}
   .rw[AX<|AN hj] at e2;obtain⟨u',r',q⟩:=hl j y v' g e2 e3;refine{u',r',?_};rcases q with⟨k,e⟩|⟨k,c,e,z⟩
    .refine .inl {k,?_};have:y≠x:=λe=>hj<|pq hN g<|e▸hi;simp[this,e]
    .exact .inr {k,c,e,z.sameBut J<|cne y c e}
  .obtain⟨w',z⟩:=I.cell y c e;exact{w',z.sameBut J<|cne y c e}
  .obtain⟨e,n,ne,nf,d⟩:=I.pin p hp;exact{(J.2 p.1 ne).t e,n,ne,nf,d}
 .have a2:X.fn x=true:=by
   obtain z|z:=hf
   .exact z
   .rw[z] at T;cases T
  obtain⟨c,l⟩:=I.ok.has x<|.inl T;obtain⟨w',z⟩:=I.cell x c l;refine wpAny_storeName_cell I.ok.kind T l z λh' a5 J=>?_;obtain⟨oc,ac,al⟩:=id z;refine h {s with heap:=h'} {I.ok,I.os,I.bare,{λb o e n hb t=>?_,λb o e n hb t=>?_,I.base.U,λb o e t=>?_,I.base._h,I.base._i,I.base._t},{m,hn.sameBut J<|AN<|cne x c l,λj y v' g e2 e3=>?_},λy c' e=>?_,I.U,I.Pi,λp hp=>?_,U {oc,ac,I.Pi x c l} J,~~~I.len,I.tk} {c,J,.inr l} (λz=>by have e:=(show X.env.Q x=some .cell from T).symm.trans z;cases e)
  .exact(J.2 b<|Bi<|AL (xT e)<|I.ok.cab x c a2 l).t (I.base.keep b o e n hb t)
  .obtain⟨sl,g⟩:=I.base.slot b o e n hb t;exact{sl,(J.2 b<|Bi<|AL (xT e)<|I.ok.cab x c a2 l).t g}
  .obtain⟨o',g⟩:=I.base.there b o e t;exact{o',(J.2 b<|Bi<|AL (xT e)<|I.ok.cab x c a2 l).t g}
  .by_cases hj:j=i
   .subst hj;rw[hi] at g;cases g;rw[Bj a1] at e2;cases e2;exact{u,r,.inr {.inl T,c,l,a5}}
   .rw[AX<|AN hj] at e2;obtain⟨u',r',q⟩:=hl j y v' g e2 e3;refine{u',r',?_};obtain q|⟨k,c',e,z'⟩:=q
    .exact .inl q
    .refine .inr {k,c',e,z'.sameBut J ?_};rintro rfl;exact hj<|pq hN g<|I.ok.inj _ _ _ e l▸hi
  .by_cases ar:c'=c
   .subst ar;exact{_,a5}
   .obtain⟨w2,z2⟩:=I.cell y c' e;exact{w2,z2.sameBut J ar}
  .obtain⟨e,n,ne,nf,d⟩:=I.pin p hp;refine{(J.2 p.1 ?_).t e,n,ne,nf,d};intro q;rw[q,ac] at e;have q':=AV e;exact d w' (by rw[<-q'];exact al)
def gW{Q:aab}(I:'v')(hN:X.N.c)(hi:X.N[i]?=some x)(J:Loc X.env.scope x)(r:j9 v u)
 (h:∀s',za X pins (σ.O i<|some v) H s'->Q () s') (U:X.fn x=true\/X.env.scope.names.e x=some .local:=by first|exact .inl rfl|exact .inr rfl|assumption):wpAny M A (storeName X.o x u) Q E s:=
 tS I hN hi J r (λs' g _ _=>h s' g) U
def za.call'(I:'v')(U:s'.os=s.os)(u:Un (dk X.p) ch H H' s.v s'.v)(KB:gB X.i X.w H' s'.v)(g:AllBare s'.gens)
 (J:∀b∈ch,(b∈X.ex\/X.s₀.heap.objs.q<=b)/\b≠X.env.M/\(∀x c,X.env.cells.e x=some c->c≠b)/\∀p∈X.pn++pins,p.1≠b) (j:0<s'.D:=by walk_at "t"):za X pins σ H' s':=by
 obtain⟨l,g',d',t',o⟩:=s';have e:=U;subst e;exact I.call (g':=g') (t':=t') (d':=d') u KB g J j
end
abbrev XK:=aaq->Option Addr->Hp->Prop
abbrev St:=List<|aax
abbrev VK:=V->Hp->Prop
abbrev TE:=St->Hp->VK->Prop
abbrev TT:=St->Hp->(Bool->Hp->Prop)->Prop
abbrev TA:=St->Hp->(HT->Hp->Prop)->Prop
structure pK where
 nx:St->Hp->Prop
 rt:VK
 bk:St->Hp->Prop:=λ_ _=>False
 ct:St->Hp->Prop:=λ_ _=>False
abbrev TS:=pK->St->Hp->Prop
def EP(X:Cx)(pins:List<|Addr×Obj)(σ:St)(Q:VK)(u:aaq)(s':aar):Prop:=∃v H',za X pins σ H' s'/\j9 v u/\Q v H'
def TP(X:Cx)(pins:List<|Addr×Obj)(σ:St)(Q:Bool->Hp->Prop)(b:Bool)(s':aar):Prop:=∃H',za X pins σ H' s'/\Q b H'
def AP(X:Cx)(pins:List<|Addr×Obj)(σ:St)(Q:HT->Hp->Prop)(us:aaf)(s':aar):Prop:=∃vs H',za X pins σ H' s'/\zw vs us/\Q vs H'
def SP(X:Cx)(pins:List<|Addr×Obj)(D:pK)(f:Flow)(s':aar):Prop:=
 match f with
 |.next=>∃fy H',za X pins fy H' s'/\D.nx fy H'
 |.brk=>∃fy H',za X pins fy H' s'/\D.bk fy H'
 |.cont=>∃fy H',za X pins fy H' s'/\D.ct fy H'
 |.ret u=>∃v fy H',za X pins fy H' s'/\j9 v u/\D.rt v H'
def PE(X:Cx)(e:Expr)(t:TE):Prop:=
 ∀(pins:List<|Addr×Obj) (s:aar) (σ:St) (H:Hp) (Q:VK),'v'->t σ H Q->_S X (eval e X.o) 'd' X.xe s
def PT(X:Cx)(e:Expr)(t:TT):Prop:=
 ∀(pins:List<|Addr×Obj) (s:aar) (σ:St) (H:Hp) (Q:Bool->Hp->Prop),'v'->t σ H Q->_S X (isTrue e X.o<|eval e X.o) (TP X pins σ Q) X.xe s
def PW(X:Cx)(e:Expr)(t:TT):Prop:=
 ∀(whole:Sem aaq) (pins:List<|Addr×Obj) (s:aar) (σ:St) (H:Hp) (Q:Bool->Hp->Prop),'v'->t σ H Q->_S X (isTrue e X.o whole) (TP X pins σ Q) X.xe s
def PW.pt{X:Cx}{t:TT}(h:PW X e t):PT X e t:=h _
def PA(X:Cx)(es:aaj)(t:TA):Prop:=
 ∀(pos:Pos) (pins:List<|Addr×Obj) (s:aar) (σ:St) (H:Hp) (Q:HT->Hp->Prop),'v'->t σ H Q->_S X (spliced<|backTo pos<|starEach es X.o) (AP X pins σ Q) X.xe s
def PS(X:Cx)(st:Stmt)(t:TS):Prop:=
 ∀(pins:List<|Addr×Obj) (s:aar) (σ:St) (H:Hp) (D:pK),'v'->t D σ H->_S X (exec st X.o) (SP X pins D) X.xe s
def i7(X:Cx)(st:aak)(t:TS):Prop:=
 ∀(pins:List<|Addr×Obj) (s:aar) (σ:St) (H:Hp) (D:pK),'v'->t D σ H->_S X (execs st X.o) (SP X pins D) X.xe s
def aY{t:Sem α}{Q I:α->aar->Prop}(h:wpAny M A t Q E s)(J:∀a s,Q a s->I a s):wpAny M A t I E s:=A5 h J λ_ _ x=>x
def bS{t:Sem aaq}{X:Cx}{σ:St}{Q:VK}{I:aaa}(h:wpAny M A t 'd' E s)(J:∀v s x H,'v'->j9 x v->Q x H->I v s):wpAny M A t I E s:=aY h λv s ⟨x,H,a,b,c⟩=>J v s x H a b c
def Fw{t:Sem<|aaf}{X:Cx}{σ:St}{Q:HT->Hp->Prop}{I:aaf->aar->Prop}(h:wpAny M A t (AP X pins σ Q) E s)(J:∀v s x H,'v'->zw x v->Q x H->I v s):wpAny M A t I E s:=aY h λv s ⟨x,H,a,b,c⟩=>J v s x H a b c
variable {r:V->aan->aan->Hp->VK->Prop}{X:Cx}{σ:St}{tc:TT}{td:TE}
section
def Gu(i:Nat):TE:=λσ H Q=>∃v,σ[i]?=some (some v)/\Q v H
def tC(v:V):TE:=λ_ H Q=>Q v H
abbrev Fe(x:Str):Prop:=(x==("__debug__":Str))=false
abbrev Ff(x:Str):Prop:=(x==("__classdict__":Str))=false
def Qc{pos:Pos}(hN:X.N[i]?=some x)(p:Fv X.env.scope x)(hd:Fe x:=by decide)(j:Ff x:=by decide):PE X (.Name x pos) (Gu i):=by
 rintro g s t H Q I⟨v,e,h⟩;obtain⟨m,C,T⟩:=I.loc;obtain⟨u,r,l⟩:=T i x v hN e p;have jj:EP X g t Q u s:={(v),H,I,r,h};rcases l with⟨U,hm⟩|⟨U,c,o,J⟩
 .exact wpAny_Name (wpAny_loadName_local I.ok.kind U C hm jj) hd
 .rcases U with U|U
  .exact wpAny_Name (wpAny_loadName_cell I.ok.kind U o J jj) hd
  .exact wpAny_Name (wpAny_loadName_free I.ok.kind U o J jj j) hd
def Qd{i j pos}:PE X (.Constant (.int i) j pos) (tC<|.int i):=λ_ _ _ H _ I h=>wpAny_Constant_int {.int i,H,I.tok _,{_,rfl},h}
def Qe{b j pos}:PE X (.Constant (.bool b) j pos) (tC<|.bl b):=λ_ _ _ H _ I h=>Constant_bool {.bl b,H,I,rfl,h}
def Qf{j pos}:PE X (.Constant .none j pos) (tC .GM):=λ_ _ _ H _ I h=>Constant_none {.GM,H,I,rfl,h}
def aC{x j pos}:PE X (.Constant (.str x) j pos) (tC<|.str x):=λ_ _ _ H _ I h=>Calls.Constant_str {.str x,H,I.tok _,{_,rfl},h}
def Gl(X:Cx)(x:Str):Prop:=X.env.Q x=some .globalImplicit
def jK{pos:Pos}(I:'v')(J:Gl X x)(U:X.mg x=some u)(h:Q u s)
 (hd:Fe x:=by decide):_S X (eval (.Name x pos) X.o) Q E s:=
 Calls.Name_function_global I.ok.kind J (Calls.loadGlobal_global ([I.ok.glob]≈I.mod.glob.keeps I.bk) U h) hd
def fS{pos:Pos}(I:'v')(J:Gl X x)(U:X.mg x=none)(g:bootBuiltins x=some u)(h:Q u s)
 (j:x ≠ "__name__" := by decide) (hd:Fe x:=by decide):_S X (eval (.Name x pos) X.o) Q E s:=by
 obtain⟨l,h1,h2⟩:=I.mod.blt;exact Calls.Name_function_global I.ok.kind J (Calls.loadGlobal_builtin ([I.ok.glob]≈I.mod.glob.keeps I.bk) U ([I.ok.blt]≈h1.keeps I.bk) ((h2 x j).t g) h) hd
def Jg{pos:Pos}(J:Gl X x)(U:X.mg x=some u)(r:j9 v u)(hd:Fe x:=by decide):PE X (.Name x pos) (tC v):=
 λ_ _ _ H _ I h=>jK I J U {(v),H,I,r,h} hd
def Qg{pos:Pos}(J:Gl X x)(U:X.mg x=none)(g:bootBuiltins x=some u)(r:j9 v u)(j:x ≠ "__name__" := by decide)(hd:Fe x:=by decide):PE X (.Name x pos) (tC v):=
 λ_ _ _ H _ I h=>fS I J U g {(v),H,I,r,h} j hd
variable {a b:Expr}{ta tb:TE}{pos:Pos}
def PC(X:Cx)(op:CmpOp)(a b:Expr)(t:TE):Prop:=
 ∀(pins:List<|Addr×Obj) (s:aar) (σ:St) (H:Hp) (Q:VK),'v'->t σ H Q->
  _S X (eval a X.o) (λv I=>_S X (eval b X.o) (λu J=>_S X (compareOp op v u) 'd' X.xe J) X.xe I) X.xe s
def vC(b:Expr){op:CmpOp}(h:op≠.In)(h2:op≠.NotIn):behindInMarks op b=false:=by
 have I:(op==CmpOp.In)=false:=by cases op<;>first|rfl|exact absurd rfl h
 have J:(op==CmpOp.NotIn)=false:=by cases op<;>first|rfl|exact absurd rfl h2
 cases b<;>simp[behindInMarks,I,J]
def Jh(ta:TE):TE:=λσ H Q=>ta σ H λx H1=>Q (.bl<|decide<|x=.GM) H1
def Ji(ta:TE):TE:=λσ H Q=>ta σ H λx H1=>Q (.bl<|!decide (x=.GM)) H1
def j9.none_iff{x:V}{v:aaq}(r:j9 x v):(v==Value.none)=decide (x=.GM):=by
 cases x with
 |GM=>cases r;rfl
 |bl _=>cases r;rfl
 |int _=>obtain⟨t,rfl⟩:=r;rfl
 |str _=>obtain⟨t,rfl⟩:=r;rfl
 |byt _=>obtain⟨t,rfl⟩:=r;rfl
 |flt _=>obtain⟨t,rfl⟩:=r;rfl
 |ref _=>cases r;rfl
 |ty _=>cases r;rfl
def Qh{j fx}(U:PE X a ta):PC X .Is a (.Constant .none j fx) (Jh ta):=by intro J s g H Q I h;refine bS (U J s g H _ I h) λv t x l o p r=>?_;exact Constant_none (is_none_gen {.bl _,l,o,by rw[p.none_iff];rfl,r})
def Jj{j fx}(U:PE X a ta):PC X .IsNot a (.Constant .none j fx) (Ji ta):=by intro J s g H Q I h;refine bS (U J s g H _ I h) λv t x l o p r=>?_;exact Constant_none (isnot_none_gen {.bl _,l,o,by rw[p.none_iff];rfl,r})
def tB(t:TE):TT:=λσ H Q=>t σ H λx H1=>∃c,x=.bl c/\Q c H1
def Qi{op:CmpOp}{t:TE}(h:PC X op a b t)(h1:behindInMarks op b=false:=by first|exact vC _ ∅ ∅|rfl):PE X (.Compare a [op] [b] pos) t:=λJ s U H Q I hw=>wpAny_Compare1 (h J s U H Q I hw) h1
def Jk{op:CmpOp}{t:TE}(h:PC X op a b t)(h1:behindInMarks op b=false:=by first|exact vC _ ∅ ∅|rfl):PT X (.Compare a [op] [b] pos) (tB t):=by intro J s U H Q I hw;refine wpAny_isTrue_Compare1 (aY (h J s U H _ I hw) λv p h1=>aY h1 λu r h2=>aY h2 λc C ⟨x,g,j,l,o⟩=>?_) h1;obtain⟨d,rfl,q⟩:=o;cases l;exact wpAny_truthy_bool {(g),j,q}
def Qj{t:TE}(h:PE X e t)(U:∀whole,isTrue e X.o whole=(do let v <-whole;standAt e.pos;holding [v] (truthy v)):=by intro _;rfl):PT X e (tB t):=by intro J s g H Q I hw;refine isTrue_plain (bS (h J s g H _ I hw) λv r x j l o p=>?_)<|U _;obtain⟨d,rfl,q⟩:=p;cases o;exact wpAny_truthy_bool {(j),l,q}
variable {tA vb:TT}{rest:aaj}
def Qk(t u:TT):TT:=λσ H Q=>t σ H λc H1=>if c=true then u σ H1 Q else Q false H1
def Ql(t u:TT):TT:=λσ H Q=>t σ H λc H1=>if c=true then Q true H1 else u σ H1 Q
def Qm(t:TT):TT:=λσ H Q=>t σ H λc H1=>Q (!c) H1
def Qn(U:PT X a tA):PW X (.BoolOp .And [a] pos) tA:=by intro j J s g H Q I h;refine isTrue_and<|aY (U J s g H Q I h) λc l e=>?_;cases c with|true=>exact isTrue_and_nil e|false=>exact e
def Qo(U:PT X a tA):PW X (.BoolOp .Or [a] pos) tA:=by intro j J s g H Q I h;refine isTrue_or<|aY (U J s g H Q I h) λc l e=>?_;cases c with|false=>exact isTrue_or_nil e|true=>exact e
def Qp(o:PT X a tA)(p:PW X (.BoolOp .And (b::rest) pos) vb):PW X (.BoolOp .And (a::b::rest) pos) (Qk tA vb):=by intro r J s U H Q I h;refine isTrue_and<|aY (o J s U H _ I h) λc t ⟨g,j,l⟩=>?_;cases c with|true=>exact p r J t U g Q j l|false=>exact{(g),j,l}
def Qq(o:PT X a tA)(p:PW X (.BoolOp .Or (b::rest) pos) vb):PW X (.BoolOp .Or (a::b::rest) pos) (Ql tA vb):=by intro r J s U H Q I h;refine isTrue_or<|aY (o J s U H _ I h) λc t ⟨g,j,l⟩=>?_;cases c with|true=>exact{(g),j,l}|false=>exact p r J t U g Q j l
def are(U:PT X a tA):PT X (.UnaryOp .Not a pos) (Qm tA):=by intro J s g H Q I h;exact isTrue_not<|U J s g H (λc j=>Q (!c) j) I h
def Qr(ta tb:TE):TE:=λσ H Q=>ta σ H λx H1=>∃c,x=.bl c/\if c=true then tb σ H1 Q else Q (.bl false) H1
def Qs(ta:TE):TE:=λσ H Q=>ta σ H λx H1=>∃c,x=.bl c/\Q (.bl<|!c) H1
def Qt{op}{t:TE}(h:PE X a t):PE X (.BoolOp op [a] pos) t:=λJ s U H Q I hw=>BoolOp_one<|h J s U H Q I hw
def Qu(o:PE X a ta)(p:PE X (.BoolOp .And (b::rest) pos) tb):PE X (.BoolOp .And (a::b::rest) pos) (Qr ta tb):=by
 intro J s g H Q I h;refine BoolOp_and<|bS (o J s g H _ I h) λv r x j l t U=>?_;obtain⟨c,rfl,U⟩:=U;cases t;refine wpAny_truthy_bool ?_;cases c with
 |true=>exact p J r g j Q l U
 |false=>exact{.bl false,j,l,rfl,U}
def Qv(g:PE X a ta):PE X (.UnaryOp .Not a pos) (Qs ta):=by intro J s j H Q I h;refine UnaryOp_<|bS (g J s j H _ I h) λv r x l o p U=>?_;obtain⟨c,rfl,U⟩:=U;cases p;exact not_of<|wpAny_truthy_bool {.bl<|!c,l,o,rfl,U}
def Qw(t:TT)(ta tb:TE):TE:=λσ H Q=>t σ H λc H1=>if c=true then ta σ H1 Q else tb σ H1 Q
def Qx(hc:PT X c tA)(p:PE X a ta)(r:PE X b tb):PE X (.IfExp c a b pos) (Qw tA ta tb):=by intro J s U H Q I h;refine wpAny_IfExp<|aY (hc J s U H _ I h) λd g ⟨j,l,o⟩=>?_;cases d with|true=>exact p J g U j Q l o|false=>exact r J g U j Q l o
end
def bQ(K:Aj)(H:Hp)(a:Addr)(xs:HT):Prop:=
 Rd H a (.lst xs)\/
  ∃(o:Obj) (eH:aag) (n:Nat),K.e a=some o/\o.cls=.type "list" /\ o.dict=none/\o.data=.seq eH n/\eH.q<=sizeLine/\zw xs eH.z
def dR(K:Aj)(H:Hp)(a:Addr)(xs:HT):Prop:=
 Rd H a (.tup xs)\/
  ∃(o:Obj) (eH:aag) (n:Nat),K.e a=some o/\o.cls=.type "tuple" /\ o.data=.seq eH n/\eH.q<=sizeLine/\zw xs eH.z
def Qy:aaq->aax
 |.none=>some .GM
 |.bool b=>some<|.bl b
 |.int i _=>some<|.int i
 |.str x _=>some<|.str x
 |.bytes b _=>some<|.byt b
 |.float b _=>some<|.flt b
 |.ref a=>↑a
 |.type n=>some<|.ty n
 |_=>none
def j9.abs{x:V}(r:j9 x u):Qy u=some x:=by
 cases x with
 |GM=>cases r;rfl
 |bl _=>cases r;rfl
 |int _=>obtain⟨t,rfl⟩:=r;rfl
 |str _=>obtain⟨t,rfl⟩:=r;rfl
 |byt _=>obtain⟨t,rfl⟩:=r;rfl
 |flt _=>obtain⟨t,rfl⟩:=r;rfl
 |ref _=>cases r;rfl
 |ty _=>cases r;rfl
def j9.inj{x y:V}(r:j9 x u)(q:j9 y u):x=y:=AV<|r.abs.symm.trans q.abs
theorem zw.inj:∀{xs ys:HT} {us:aaf},zw xs us->zw ys us->xs=ys:=by
 intro xs ys us h k
 induction h generalizing ys with
 |nil=>cases k;rfl
 |cons r t I=>
  cases k with|cons J U=>rw[r.inj J,I U]
section
variable {a:Addr}{ys:HT}
def bQ.of{K:Aj}(h:H a=⇑xs):bQ K H a xs:=.inl<|.inl h
abbrev FF:=@bQ.of
def dR.of{K:Aj}(h:H a=some (.tup xs)):dR K H a xs:=.inl<|.inl h
def za.list(I:'v')(h:bQ X.K H a xs):∃eH:aaf,zw xs eH/\PlainL s.v a eH.m/\xs.l<=sizeLine:=by
 obtain h|⟨o,eH,n,J,U,hd,g,j,r⟩:=h
 .obtain⟨z,eH,n,r,e⟩:=h.ok I.KB;exact{eH,r,{_,n,e,rfl,rfl,rfl},z}
 .refine{eH.z,r,{o,n,I._A a o J,U,hd,~~~g},?_};have e:=r.l;simp only[Ba] at e;lia
def za.tuple(I:'v')(h:dR X.K H a xs):∃eH:aaf,zw xs eH/\IsTup s.v a eH.m/\xs.l<=sizeLine:=by
 obtain h|⟨o,eH,n,J,U,g,j,r⟩:=h
 .obtain⟨z,eH,r,p⟩:=h.ok I.KB;exact{(eH),r,p,z}
 .refine{eH.z,r,{o,I._A a o J,U,n,~~~g},?_};have e:=r.l;simp only[Ba] at e;lia
def za._j(I:'v')(h:bQ X.K H a xs)(h':bQ X.K H a ys):xs=ys:=by
 obtain⟨U,r,⟨o,n,e,_,_,d⟩,_⟩:=I.list h;obtain⟨J,l,⟨p,t,g,_,_,j⟩,_⟩:=I.list h';rw[e] at g;cases g;rw[d] at j;injection j with d1 _
 have:U=J:=by simpa using A8 Array.toList d1
 subst this;exact r.inj l
def za._m(I:'v')(h:dR X.K H a xs)(h':dR X.K H a ys):xs=ys:=by
 obtain⟨U,r,⟨o,e,_,n,d⟩,_⟩:=I.tuple h;obtain⟨J,l,⟨p,g,_,t,j⟩,_⟩:=I.tuple h';rw[e] at g;cases g;rw[d] at j;injection j with d1 _
 have:U=J:=by simpa using A8 Array.toList d1
 subst this;exact r.inj l
end
abbrev Cx._J(X:Cx)(E:aaa):Cx:={X with xe:=E}
abbrev Cx.nox(X:Cx):Cx:=X._J λ_ _=>False
theorem Cx.Ok._J(ok:X.Ok)(E:aaa):(X._J E).Ok:=
 ⟨ok.mod,ok.kind,ok.glob,ok.blt,ok.above,ok.inj,ok.has,ok.cab,ok.hd,ok.frames,ok.stk,ok.exf,ok.bs,ok.bsz,ok._H,ok._I,ok._o,ok.frf⟩
theorem Cx.Ok._k(ok:(X._J E).Ok):X.Ok:=
 ⟨ok.mod,ok.kind,ok.glob,ok.blt,ok.above,ok.inj,ok.has,ok.cab,ok.hd,ok.frames,ok.stk,ok.exf,ok.bs,ok.bsz,ok._H,ok._I,ok._o,ok.frf⟩
theorem za._J(I:'v')(E:aaa):za (X._J E) pins σ H s:={I.ok._J E,I.os,I.bare,I.Y,I.loc,I.cell,I.U,I.Pi,I.pin,I.KB,I.len,I.tk}
theorem za._k(I:za (X._J E) pins σ H s):'v':={(I.ok._k),I.os,I.bare,I.Y,I.loc,I.cell,I.U,I.Pi,I.pin,I.KB,I.len,I.tk}
theorem SP._k{D:pK}{f:Flow}(h:SP (X._J E) pins D f s'):SP X pins D f s':=by
 cases f with
 |next=>obtain⟨J,U,I,q⟩:=h;exact{(J),U,I._k,q}
 |brk=>obtain⟨J,U,I,q⟩:=h;exact{(J),U,I._k,q}
 |cont=>obtain⟨J,U,I,q⟩:=h;exact{(J),U,I._k,q}
 |ret u=>obtain⟨v,J,U,I,r,q⟩:=h;exact{(v),J,U,I._k,r,q}
def i7.nox{st:aak}{t:TS}(h:i7 X.nox st t):i7 X st t:=λJ s U H D I hw=>
 A5 (h J s U H D (I._J _) hw) (λ_ _ q=>q._k) λ_ _ z=>False.elim z
section
variable {st:Stmt}{rest:aak}{t u:TS}{te:TE}{pos:Pos}
def Qz:TS:=λD σ H=>D.nx σ H
def QC(t u:TS):TS:=λD σ H=>t {D with nx:=u D} σ H
def QD:i7 X [] Qz:=λ_ _ J H _ I h=>wpAny_execs_nil {(J),H,I,h}
def xJ(h1:PS X st t)(h2:i7 X rest u):i7 X (st::rest) (QC t u):=by
 intro J s g H D I h;refine wpAny_execs_cons<|aY (h1 J s g H {D with nx:=u D} I h) λf j q=>?_;cases f with
 |next=>
  obtain⟨U,l,o,q⟩:=q;exact h2 J j U l D o q
 |ret v=>exact q
 |brk=>exact q
 |cont=>exact q
def Jl(h1:PS X st t):i7 X [st] t:=by intro J s U H D I h;refine wpAny_execs_cons<|aY (h1 J s U H D I h) λf g q=>?_;cases f with|next=>exact wpAny_execs_nil q|ret v=>exact q|brk=>exact q|cont=>exact q
def QH:TS:=λD σ H=>D.ct σ H
def xA:PS X (.Continue pos) QH:=λ_ _ J H _ I h=>wpAny_Continue {(J),H,I,h}
def za.quiet(I:'v'):interactive X.o=false:=by simp[interactive,I.ok.kind]
def QJ(te:TE):TS:=λD σ H=>te σ H λ_ H1=>D.nx σ H1
def Jm(g:PE X e te)(hs:swapsWith e none pos.line X.o=pure false:=by rfl):PS X (.Expr e pos) (QJ te):=by intro J s U H D I h;exact wpAny_Expr_any (bS (g J s U H _ I h) λv p x j l r o=>{(U),j,l,o}) I.quiet hs
def QK(te:TE):TS:=λD σ H=>te σ H D.rt
def QL(g:PE X e te):PS X (.Return (some e) pos) (QK te):=by intro J s U H D I h;exact wpAny_Return_some<|bS (g J s U H _ I h) λv r x j l o p=>{(x),U,j,l,o,p}
def QM:TS:=λD _ H=>D.rt .GM H
def QN:PS X (.Return none pos) QM:=λ_ _ J H _ I h=>wpAny_Return_none {.GM,J,H,I,rfl,h}
def Jn(c:TT)(t u:TS):TS:=λD σ H=>c σ H λb H1=>if b=true then t D σ H1 else u D σ H1
def QP{a b:aak}(hc:PT X c tc)(p:i7 X a t)(r:i7 X b u):PS X (.If c a b pos) (Jn tc t u):=by intro J s U H D I h;refine wpAny_If<|aY (hc J s U H _ I h) λd g ⟨j,l,o⟩=>?_;cases d with|true=>exact p J g U j D l o|false=>exact r J g U j D l o
end
abbrev TG:=V->St->Hp->(St->Hp->Prop)->Prop
abbrev l_:=HT->St->Hp->(St->Hp->Prop)->Prop
def PG(X:Cx)(target:Expr)(t:TG):Prop:=
 ∀(pins:List<|Addr×Obj) (s:aar) (σ:St) (H:Hp) (v:V) (u:aaq) (Q:St->Hp->Prop),'v'->j9 v u->t v σ H Q->
  _S X (assign target X.o u) (λ_ s'=>∃fy H',za X pins fy H' s'/\Q fy H') X.xe s
def PGs(X:Cx)(ts:aaj)(t:l_):Prop:=
 ∀(pins:List<|Addr×Obj) (s:aar) (σ:St) (H:Hp) (vs:HT) (us:aaf) (Q:St->Hp->Prop),'v'->zw vs us->t vs σ H Q->
  _S X (assignInOrder ((assignEach ts X.o).y (·.2)) us) (λ_ s'=>∃fy H',za X pins fy H' s'/\Q fy H') X.xe s
abbrev Hh:=V->V->V->Hp->(Hp->Prop)->Prop
def Jo(X:Cx)(t:Hh):Prop:=
 ∀(pins:List<|Addr×Obj) (s:aar) (σ:St) (H:Hp) (o i v:V) (I J u:aaq) (Q:Hp->Prop),'v'->j9 o I->j9 i J->j9 v u->t o i v H Q->
  _S X (setItem I J u) (λ_ s'=>∃H',za X pins σ H' s'/\Q H') X.xe s
section
variable {pos:Pos}
def gq(i:Nat):TG:=λv σ H Q=>Q (σ.O i<|some v) H
def oY(hN:X.N.c)(hi:X.N[i]?=some x)(U:Loc X.env.scope x)(g:X.fn x=true\/X.env.scope.names.e x=some .local:=by first|exact .inl rfl|exact .inr rfl|assumption):PG X (.Name x pos) (gq i):=by intro J s l H v u Q I r h;exact wpAny_assign_Name<|gW I hN hi U r (λo j=>{_,H,j,h}) g
def Hi:l_:=λvs σ H Q=>vs=[]/\Q σ H
def yR(t:TG)(u:l_):l_:=λvs σ H Q=>∃v r,vs=v::r/\t v σ H λfy H'=>u r fy H' Q
def Jp:PGs X [] Hi:=by rintro J s U H g j Q I r⟨e,h⟩;subst e;cases r;exact assignInOrder_nil {(U),H,I,h}
def o9{t:TG}{u:l_}(h1:PG X e t)(h2:PGs X es u)
 (hs:(assignEach (e::es) X.o).y (·.2)=assign e X.o::(assignEach es X.o).y (·.2):=by rfl):PGs X (e::es) (yR t u):=by
 rintro J s g H T us Q I r⟨v,vr,j,h⟩;subst j;cases r with
 |cons r rr=>
  rw[hs];refine assignInOrder_cons<|aY (h1 J s g H _ _ _ I r h) λ_ l ⟨U,o,p,C⟩=>?_;exact h2 J l U o _ _ Q p rr C
def Hj(K:Aj)(n:Nat)(t:l_):TG:=λv σ H Q=>∃a xs,v=.ref a/\dR K H a xs/\xs.l=n/\t xs σ H Q
def Jq{k:Nat}{t:l_}(hc:X.calm=true)(h:PGs X es t)
 (j:(assignEach es X.o).l=n:=by rfl) (U:(assignEach es X.o).findIdx? (·.1)=none:=by rfl):PG X (.Tuple es k pos) (Hj X.K n t):=by
 rintro J s l H v u Q I r⟨a,p,C,T,hl,hw⟩;subst C;cases r;obtain⟨a1,g,ht,hz⟩:=I.tuple T;refine assign_Tuple_tuple (I.ok.hd hc) ht (by simp[j,<-hl,g.l]) U λh' hx=>?_;have I1:=I.kept (t':=s.D) λb o e=>hx b o (Bi<|xT e) e;exact h J _ l H p _ Q I1 (~~~g) hw
def QQ(to ti:TE)(t:Hh):TG:=λv σ H Q=>to σ H λo H1=>ti σ H1 λi H2=>t o i v H2 λI=>Q σ I
def QR{i:Expr}{to ti:TE}{t:Hh}(l:PE X o to)(hi:PE X i ti)(hs:Jo X t)
 (p:∀v,assign (.Subscript o i pos) X.o v=(do
  let U <-holding [v] (eval o X.o)
  let g <-holding [v,U] (eval i X.o)
  standAt pos
  holding [v,U,g] (setItem U g v)
  release [v,U,g] []):=by intro _;rfl):PG X (.Subscript o i pos) (QQ to ti t):=by
 intro J s j H v u Q I r h;rw[p];refine Aa<|BA<|bS (l J s j H _ I h) λU C x T I1 r1 q1=>?_;refine Aa<|BA<|bS (hi J C j T _ I1 q1) λg s2 y H2 I2 r2 q2=>?_;refine Aa<|wpAny_standAt<|Aa<|BA<|aY (hs J s2 j H2 x y v U g u _ I2 r1 r2 r q2) λ_ s3 ⟨H3,I3,q3⟩=>?_;exact wpAny_release {(j),H3,I3,q3}
def Hk(te:TE)(g:TG):TS:=λD σ H=>te σ H λx H1=>g x σ H1 D.nx
def Jr{te:TE}{g:TG}(j:PE X e te)(l:PG X tg g)(hs:swapsWithSole [tg] e pos.line X.o=pure false:=by rfl)(hw:swappedStores [tg] e X.o=pure none:=by rfl)
 (h1:(assignEach [tg] X.o).y (·.2)=[assign tg X.o]:=by rfl):PS X (.Assign [tg] e pos) (Hk te g):=by
 intro J s U H D I h;refine wpAny_Assign_stores (bS (j J s U H _ I h) λv o x p r t C=>?_) hs hw;rw[h1];exact aY (l J o U p x v _ r t C) λ_ T q=>q
def QU{te:TE}(hN:X.N.c)(hi:X.N[i]?=some x)(U:Loc X.env.scope x)(g:PE X e te)(hs:swapsWith e (some<|.Name x fx) pos.line X.o=pure false:=by rfl)(j:X.fn x=true\/X.env.scope.names.e x=some .local:=by first|exact .inl rfl|exact .inr rfl|assumption):
 PS X (.Assign [.Name x fx] e pos) (Hk te<|gq i):=by
 intro J s l H D I h;refine wpAny_Assign_Name (bS (g J s l H _ I h) λv T y o p r t=>?_) hs;exact gW p hN hi U r (λs2 C=>{_,o,C,t}) j
def QV(i j:Nat)(ta:TA):TS:=λD σ H=>ta σ H λvs H1=>∃v w,vs=[v,w]/\D.nx ((σ.O i<|some v).O j<|some w) H1
def QX{y:Str}{a b:Expr}{ta:TA}{px py pt:Pos}{kt k2 U}(hc:X.calm=true)(hN:X.N.c)(hi:X.N[i]?=some x)(hj:X.N[j]?=some y)(t:i≠j)
 (hx:X.env.scope.names.e x=some .local) (hy:X.env.scope.names.e y=some .local) (ha:PA X [a,b] ta)
 (hw:swappedStores [.Tuple [.Name x px,.Name y py] kt pt] (.Tuple [a,b] k2 U) X.o=pure (some [x,y]))
 (hs:swapsWithSole [.Tuple [.Name x px,.Name y py] kt pt] (.Tuple [a,b] k2 U) pos.line X.o=pure false:=by rfl):
 PS X (.Assign [.Tuple [.Name x px,.Name y py] kt pt] (.Tuple [a,b] k2 U) pos) (QV i j ta):=by
 intro J s σ H D I h;rw[exec_Assign_arm];refine Aa<|wpAny_standAt ?_;rw[hs];refine Aa<|Aq ?_;rw[Az ∅];refine Aa<|Tuple_<|Fw (ha _ J s σ H _ I h) λus g vs H1 I1 r1 C=>?_;obtain⟨v,w,e1,C⟩:=C;subst e1;obtain⟨l,r,rfl,rv,T⟩:∃l r,us=[l,r]/\j9 v l/\j9 w r:=by
  cases r1 with
  |cons p q=>
   cases q with
   |cons p' q'=>
    cases q';exact{_,_,rfl,p,p'}
 refine BE ?_ (by show 2<=sizeLine;decide);have I2:za X J σ H1 {g with heap:=g.heap.I {cls:=.type "tuple",data:=.seq [l,r].m}}:=I1.kept (t':=g.D) λb o e=>wh _ e;rw[hw];refine Aa<|Aq ?_;show _S X (do rule "assign.swapped-stores";let items <-unpackItems (.ref ↥g) 2 none;assignInOrder [λv=>bindName X.o y v,λv=>bindName X.o x v] items.reverse;pure Flow.next) _ _ _;refine Aa<|BJ<|Aa<|unpackItems_tuple (items:=#[l,r]) (I.ok.hd hc) (IsTup.new g.v _) λh' a1=>?_;have I3:=I2.kept (h':=h') (t':=g.D) λb o e=>a1 b o (Bi<|xT e) e;refine Aa<|assignInOrder_cons<|wpAny_bindName<|gW I3 hN hj (.inl hy) T (λs2 I4=>?_)<|.inr hy;refine assignInOrder_cons<|wpAny_bindName<|gW I4 hN hi (.inl hx) rv (λs3 I5=>assignInOrder_nil<|Aq ?_)<|.inr hx;rw[List.set_comm _ _<|AN t] at I5;exact{_,H1,I5,C}
end
section
variable {pos:Pos}
def QY(c:TT)(tb:TS):TS:=λD σ H=>∃W:Nat->St->Hp->Prop,(∃m,W m σ H)/\∀m σ H,W m σ H->
 c σ H λb H1=>if b=true then ∃N:St->Hp->Prop,(∀fy H',N fy H'->∃m',m'<m/\W m' fy H')/\tb {D with nx:=N,ct:=N,bk:=D.nx} σ H1 else D.nx σ H1
def QZ{tb:TS}(hp:PassesOwn 'a' X.A X.o X.xe)(hc:PT X c tc)(hb:i7 X body tb):PS X (.While c body [] pos) (QY tc tb):=by
 rintro J s σ H D I⟨W,⟨m0,w0⟩,turn⟩;refine wpAny_While<|codeAny_whileLoop (λn s'=>∃j H',za X J j H' s'/\W n j H') ?_ m0 {(σ),H,I,w0};rintro n s1 ⟨g,H1,I1,w1⟩;refine wpAny_passesOwn hp<|aY (hc J s1 g H1 _ I1<|turn n g H1 w1) λb s2 ⟨H2,I2,o⟩=>?_;cases b with
 |true=>
  obtain⟨N,hN,o⟩:=o;rw[AF rfl];refine wpAny_passesOwn hp<|aY (hb J s2 g H2 _ I2 o) λf s3 p=>?_;cases f with
  |next=>
   obtain⟨U,l,r,t⟩:=p;obtain⟨C,T,w3⟩:=hN U l t;exact{(C),T,U,l,r,w3}
  |cont=>
   obtain⟨U,l,r,t⟩:=p;obtain⟨C,T,w3⟩:=hN U l t;exact{(C),T,U,l,r,w3}
  |brk=>exact p
  |ret v=>exact p
 |false=>
  rw[Az AI];exact wpAny_execs_nil {(g),H2,I2,o}
end
structure It where
 go:Nat->Hp->Prop
 yld:Nat->Hp->V->Hp->Prop
 stop:Nat->Hp->Prop
def rZ(X:Cx)(pins:List<|Addr×Obj)(H:Hp)(b:Addr):Prop:=
 H b=none/\b≠X.env.M/\b∉X.fs/\(b∈X.ex\/X.s₀.heap.objs.q<=b)/\(∀x c,X.env.cells.e x=some c->c≠b)/\∀p∈X.pn++pins,p.1≠b
def za.fpOk{b:Addr}(I:'v')(J:↥s<=b)(U:H' b=none):rZ X pins H' b:=by
 refine{U,C1<|AL I.lt J,I.nofs J,.inr<|AQ I.sz J,λx c e z=>?_,λp g z=>?_}
 .obtain⟨v,q⟩:=I.cell x c e;exact absurd (AL q.lt ([z]≈J))<|Cs _
 .exact absurd (AL (xT (I.pin p g).1) ([z]≈J))<|Cs _
structure y0(P:aas)(w:aat)(K:Aj)(tg:Expr)(J:It)(fp:List Addr)(it:Addr)(tn:Nat->aau->Prop):Prop where
 mem:it∈fp
 obj:∀i h,tn i h->∀b∈fp,∃o,h.x b=some o/\∀v,o.data≠.cell v
 keep:∀i h h',tn i h->(∀b∈fp,∀o,h.x b=some o->h'.get? b=some o)->tn i h'
 item:∀(X:Cx),X.i=P->X.w=w->X.K=K->X.calm=true->∀(i:Nat) (pins:List<|Addr×Obj) (s:aar) (σ:St) (H:Hp) (E:aaa),'v'->(∀b∈fp,rZ X pins H b)->tn i s.v->J.go i H->
  wpAny (model P w) X.A (pyNext<|.ref it) (λr s1=>∃u,r=some u/\
   wpAny (model P w) X.A (letOwnedTupleGo tg (.ref it) u) (λ_ s2=>∃x H',za X pins σ H' s2/\j9 x u/\J.yld i H x H'/\tn (i+1) s2.v/\∀b∈fp,H' b=none) E s1) E s
 done:∀(X:Cx),X.i=P->X.w=w->X.K=K->X.calm=true->∀(i:Nat) (pins:List<|Addr×Obj) (s:aar) (σ:St) (H:Hp) (E:aaa),'v'->(∀b∈fp,rZ X pins H b)->tn i s.v->J.stop i H->
  wpAny (model P w) X.A (pyNext<|.ref it) (λr s1=>r=none/\za X pins σ H s1) E s
 self:∀(A:Around) (i:Nat) (s:aar) (Q:aaa) (E:aaa),tn i s.v->Q (.ref it) s->wpAny (model P w) A (pyIter<|.ref it) Q E s
abbrev TI:=St->Hp->(It->Hp->Prop)->Prop
def Hl(X:Cx)(pins:List<|Addr×Obj)(σ:St)(tg:Expr)(R:It->Hp->Prop)(I:aaq)(U:aar):Prop:=
 ∃(it:Addr) (fp:List Addr) (g:Nat->aau->Prop) (J:It) (H':Hp),I=.ref it/\za X pins σ H' U/\y0 X.i X.w X.K tg J fp it g/\g 0 U.v/\(∀b∈fp,rZ X pins H' b)/\R J H'
def PI(X:Cx)(tg iter:Expr)(wi:TI):Prop:=
 ∀(pins:List<|Addr×Obj) (s:aar) (σ:St) (H:Hp) (R:It->Hp->Prop),'v'->wi σ H R->
  _S X (eval iter X.o) (λv I=>_S X (pyIter v) (Hl X pins σ tg R) X.xe I) X.xe s
def Hm{o:Obj}{n:aav}{vs:aag}{Q:aab}(J:s.heap.x it=some o)(hc:o.cls=.type n)(hd:o.data=.fields vs)
 (U:["enumerate","zip","dict_itemiterator","dict_reverseitemiterator","odict_iterator","itertools.zip_longest","itertools.pairwise"].contains n=false) (I:Q () s):wpAny M A (letOwnedTupleGo tg (.ref it) u) Q E s:=by
 cases tg<;>first
  |exact Aq I
  |(cases u<;>first
   |exact Aq I
   |(refine Aa (wpAny_load J ?_)
     rw[hc,hd];show wpAny M A (if (["enumerate","zip","dict_itemiterator","dict_reverseitemiterator","odict_iterator","itertools.zip_longest","itertools.pairwise"].contains n&&vs[0]?==some (rawInt _))=true then _ else _) Q E s;rw[Az (by intro h;rw[U,Bool.false_and] at h;cases h)];exact Aq I))
def Ho(K:Aj)(a:Addr):It:=
 ⟨λi H=>∃xs x,bQ K H a xs/\xs[i]?=some x,λi H x H'=>H'=H/\∀xs,bQ K H a xs->xs[i]?=some x,λi H=>∃xs,bQ K H a xs/\xs.l<=i⟩
def Hq(K:Aj)(a:Addr):It:=
 ⟨λi H=>∃xs x,dR K H a xs/\xs[i]?=some x,λi H x H'=>H'=H/\∀xs,dR K H a xs->xs[i]?=some x,λi H=>∃xs,dR K H a xs/\xs.l<=i⟩
def FY(lo:Int)(n:Nat):It:={λi _=>i<n,λi H x H'=>H'=H/\x=.int (lo+i),λi _=>n<=i}
def Q0{P:aas}{w:aat}{K:Aj}(a it:Addr):y0 P w K tg (Ho K a) [it] it (λi h=>h.IsListIter it a i) where
 mem:='r'
 obj:=λi h st b J=>by
  have e:b=it:=by simpa using J
  subst e;obtain⟨o,e,c,d⟩:=st;exact{o,e,λv z=>by rw[d] at z;cases z}
 keep:=λi h r st k=>st.at λo e=>k it 'r' o e
 item:=by intro X t hw C hc i U s σ H E I j st T;subst t hw C;obtain⟨xs,x,l,hx⟩:=T;obtain⟨a1,rv,p,hz⟩:=I.list l;obtain⟨u,hu,ru⟩:=rv.get hx;obtain⟨f0,f1,f2,f3,f4,f5⟩:=j it 'r';refine wpAny_pyNext_list_item st p.isList (x:=u) (~~~hu) λr g sb=>?_;have I1:=I.turned (t':=s.D) (λb o J e=>(sb.2 b J).t e) f0 f1 f3 f4 f5;obtain⟨o,e,c,d⟩:=id g;exact{u,rfl,Hm (s:={s with heap:=r}) e c d ∅ {x,H,I1,ru,{rfl,λys hy=>by rw[I._j hy l];exact hx},g,λb J=>(j b J).1}}
 done:=by intro X t hw C hc i U s σ H E I j st T;subst t hw C;obtain⟨xs,l,hx⟩:=T;obtain⟨a1,rv,p,hz⟩:=I.list l;obtain⟨f0,f1,f2,f3,f4,f5⟩:=j it 'r';have hl:=rv.l;exact wpAny_pyNext_list_end (I.ok.hd hc) st p.isList 'l' λr eb=>{rfl,I.turned (t':=s.D) (λb o J e=>eb b o J e) f0 f1 f3 f4 f5}
 self:=λ_ _ _ _ _ st h=>wpAny_pyIter_listiter st h
def yr{P:aas}{w:aat}{K:Aj}(a it:Addr):y0 P w K tg (Hq K a) [it] it (λi h=>h.IsTupleIter it a i) where
 mem:='r'
 obj:=λi h st b J=>by
  have e:b=it:=by simpa using J
  subst e;obtain⟨o,e,c,d⟩:=st;exact{o,e,λv z=>by rw[d] at z;cases z}
 keep:=λi h t st k=>st.at λo e=>k it 'r' o e
 item:=by intro X C hw T hc i g s σ H E I l st hg;subst C hw T;obtain⟨xs,x,r,hx⟩:=hg;obtain⟨U,rv,p,hz⟩:=I.tuple r;obtain⟨u,hu,ru⟩:=rv.get hx;obtain⟨f0,f1,f2,f3,f4,f5⟩:=l it 'r';refine wpAny_pyNext_tuple_item st (show s.heap.IsTuple a U.m from p) (x:=u) (~~~hu) λt j sb=>?_;have I1:=I.turned (t':=s.D) (λb o J e=>(sb.2 b J).t e) f0 f1 f3 f4 f5;obtain⟨o,e,c,d⟩:=id j;exact{u,rfl,Hm (s:={s with heap:=t}) e c d ∅ {x,H,I1,ru,{rfl,λys hy=>by rw[I._m hy r];exact hx},j,λb J=>(l b J).1}}
 done:=by intro X C hw T hc i g s σ H E I l st hg;subst C hw T;obtain⟨xs,r,hx⟩:=hg;obtain⟨U,rv,p,hz⟩:=I.tuple r;obtain⟨f0,f1,f2,f3,f4,f5⟩:=l it 'r';have hl:=rv.l;exact wpAny_pyNext_tuple_end (I.ok.hd hc) st (show s.heap.IsTuple a U.m from p) 'l' λt eb=>{rfl,I.turned (t':=s.D) (λb o J e=>eb b o J e) f0 f1 f3 f4 f5}
 self:=λ_ _ _ _ _ st h=>wpAny_pyIter_tupleiter st h
theorem yt{P:aas}{w:aat}{K:Aj}(it:Addr)(lo:Int)(n:Nat):y0 P w K tg (FY lo n) [it] it (λi h=>IsRangeIter h it (lo+(i:Nat)*1) ((n:Int)-(i:Nat)) 1) where
 mem:='r'
 obj:=λi h st b J=>by
  have e:b=it:=by simpa using J
  subst e;exact{_,st,λv z=>by have z':=z;cases z'}
 keep:=λi h l st k=>k it 'r' _ st
 item:=by intro X p hw r C i U s σ H E I j st T;subst p hw r;obtain⟨f0,f1,f2,f3,f4,f5⟩:=j it 'r';have W:=Walks.range (prog:=X.i) (w:=X.w) (I.ok.hd C) it lo 1 n;refine jv I.tk<|W.item i s _ _ T st λv l tk hv g kk ht=>?_;obtain⟨t,rfl⟩:=hv;have I1:=I.turned (λb o J e=>kk b o (~~~J) e) f0 f1 f3 f4 f5;refine{_,rfl,Hm (s:={s with heap:=l,toks:=tk}) (n:="range_iterator") g rfl rfl ∅ {.int<|lo+i,H,I1,{t,?_},{(rfl),rfl},g,λb J=>(j b J).1}};rw[Int.mul_one]
 done:=by intro X p hw r C i U s σ H E I j st T;subst p hw r;obtain⟨f0,f1,f2,f3,f4,f5⟩:=j it 'r';exact wpAny_pyNext_range_end (I.ok.hd C) st (by have:n<=i:=T;lia) λl eb=>{rfl,I.turned (t':=s.D) (λb o J e=>eb b o J e) f0 f1 f3 f4 f5}
 self:=λ_ _ _ _ _ st h=>wpAny_pyIter_rangeiter st h
variable {wi:TI}
def Q1(K:Aj)(tl:TE):TI:=λσ H R=>tl σ H λx H1=>∃a,x=.ref a/\(∃xs,bQ K H1 a xs)/\R (Ho K a) H1
def Q2(K:Aj)(tl:TE):TI:=λσ H R=>tl σ H λx H1=>∃a,x=.ref a/\(∃xs,dR K H1 a xs)/\R (Hq K a) H1
def Q4{l:Expr}{tl:TE}(j:PE X l tl):PI X tg l (Q1 X.K tl):=by
 intro J s r H R I h;refine bS (j J s r H _ I h) λv U x t g C T=>?_;obtain⟨a,e,⟨xs,hq⟩,q⟩:=T;subst e;cases C;obtain⟨a1,rv,p,hz⟩:=g.list hq;refine wpAny_pyIter_list p.isList ?_;refine{↥U,[↥U],_,_,t,rfl,g.kept (t':=U.D) λb o e=>wh _ e,Q0 a _,{_,ya _ rfl,rfl,rfl},λb hb=>?_,q};have e:b=↥U:=by simpa using hb
 subst e;exact g.fpOk (Ap _)<|g.KB.fresh<|Ap _
def Q5{l:Expr}{tl:TE}(r:PE X l tl):PI X tg l (Q2 X.K tl):=by
 intro J s t H R I h;refine bS (r J s t H _ I h) λv U x C g T q1=>?_;obtain⟨a,e,⟨xs,hq⟩,q⟩:=q1;subst e;cases T;obtain⟨j,rv,p,hz⟩:=g.tuple hq;refine wpAny_pyIter_tuple (show U.heap.IsTuple a j.m from p) ?_;refine{↥U,[↥U],_,_,C,rfl,g.kept (t':=U.D) λb o e=>wh _ e,yr a _,{_,ya _ rfl,rfl,rfl},λb hb=>?_,q};have e:b=↥U:=by simpa using hb
 subst e;exact g.fpOk (Ap _)<|g.KB.fresh<|Ap _
def Q6{R:It->Hp->Prop}{hi:Int}{t u v:Tok}{tk:Nat}(I:'v')(h1 : -(2 ^ 62)<=lo)(h2:lo<2 ^ 62)(h3 : -(2 ^ 62)<=hi)(U:hi<2 ^ 62)
 (q:R (FY lo (hi-lo).B) H) (p:0<tk:=by walk_at "t"):_S X (pyIter<|.ref ↥s) (Hl X pins σ tg R) E {s with heap:=s.heap.I {cls:=.type "range",data:=.fields #[.int lo t,.int hi u,.int 1 v]},toks:=tk}:=by
 refine wpAny_pyIter_range (IsRange.new ..) (small_one h1 h2 h3 U) ?_;have J:za X pins σ H {s with heap:=s.heap.I {cls:=.type "range",data:=.fields #[.int lo t,.int hi u,.int 1 v]},toks:=tk}:=I.kept λb o e=>wh _ e;refine{(s.heap.I {cls:=.type "range",data:=.fields #[.int lo t,.int hi u,.int 1 v]}).objs.size,[(s.heap.I {cls:=.type "range",data:=.fields #[.int lo t,.int hi u,.int 1 v]}).objs.size],_,_,H,rfl,
  J.kept (t':=tk) λb o e=>wh _ e,yt _ lo (hi-lo).B,?_,λb g=>?_,q}
 .have j:lo+(0)⁻¹*1=lo:='r'
  have l:((hi-lo).B)⁻¹-(0)⁻¹=Builtin.Range.rangeSize lo hi 1:=by rw[rangeSize_one];split<;>lia
  rw[j,l];exact ya _ rfl
 .have e:b=(s.heap.I {cls:=.type "range",data:=.fields #[.int lo t,.int hi u,.int 1 v]}).objs.size:=by simpa using g
  subst e;exact J.fpOk (Ap _)<|J.KB.fresh<|Ap _
def Q7(ta:TA):TI:=λσ H R=>ta σ H λvs H1=>∃j:Int,vs=[.int j] /\ -(2 ^ 62)<=j/\j<2 ^ 62/\R (FY 0 j.B) H1
def Q8{a:Expr}{ta:TA}{p pos:Pos}(g:Gl X "range")(l:X.mg "range"=none)(o:PA X [a] ta)(hs:starEach [a] X.o=[(false,eval a X.o)]:=by rfl):PI X tg (.Call (.Name "range" p) [a] [] pos) (Q7 ta):=by
 intro J s C H R I h;refine Call_<|fS I g l boot_range<|Cr (Fw (o pos J s C H _ I h) λus s1 vs H1 T r1 U=>?_) hs rfl;obtain⟨j,e,U,q2,q⟩:=U;subst e;cases r1 with
 |cons r rr=>
  cases rr;obtain⟨t,rfl⟩:=r;exact call_range_1<|Q6 T 's' 's' U q2 (~~~q)
def Q9(wi:TI)(g:TG)(tb:TS):TS:=λD σ H=>wi σ H λJ H1=>∃W:Nat->Nat->St->Hp->Prop,(∃m,W 0 m σ H1)/\∀i m σ H,W i m σ H->
 (J.stop i H/\D.nx σ H)\/(J.go i H/\∃N:St->Hp->Prop,(∀fy H',N fy H'->∃m',m'<m/\W (i+1) m' fy H')/\∀x H',J.yld i H x H'->g x σ H' λI H2=>tb {D with nx:=N,ct:=N,bk:=D.nx} I H2)
def qL(fp:List Addr)(h:aau):List (Addr×Obj):=fp.filterMap λb=>(h.x b).y λo=>(b,o)
def fI{b:Addr}{o:Obj}(I:b∈fp)(e:h.x b=some o):(b,o)∈qL fp h:=DX.d {b,I,by rw[e];rfl}
def Ra{p:Addr×Obj}(I:p∈qL fp h):p.1∈fp/\h.x p.1=some p.2:=by
 obtain⟨b,J,e⟩:=DX.j I;cases q:h.x b with
 |none=>rw[q] at e;cases e
 |some o=>
  rw[q] at e;have U:=AV e;subst U;exact{(J),q}
def za.pinned(I:'v')(g:∀b∈fp,rZ X pins H b)(j:∀b∈fp,∃o,s.heap.x b=some o/\∀v,o.data≠.cell v):za X (pins++qL fp s.v) σ H s:=
 I.pins_of λp l=>(Am.j l).r (λz=>I.pin p<|Ai _ z) λz=>by obtain⟨J,e⟩:=Ra z;obtain⟨r,f1,f2,_⟩:=g p.1 J;obtain⟨o,U,d⟩:=j p.1 J;rw[e] at U;cases U;exact{(e),r,f1,f2,d}
def za._l{pl:List<|Addr×Obj}(I:za X (pins++pl) σ H s):'v':=I.pins_of λp J=>I.pin p<|Ai _<|An _ J
def Rb{iter:Expr}{g:TG}{tb:TS}{pos:Pos}(hp:PassesOwn 'a' X.A X.o X.xe)(hc:X.calm=true)(hi:PI X tg iter wi)(hg:PG X tg g)(l:i7 X body tb)
 (hs:∀x,foldedSetIterable iter X.o x=pure x:=by intro _;rfl):PS X (.For tg iter body [] pos) (Q9 wi g tb):=by
 intro U s σ H D I h;refine wpAny_For (aY (hi U s σ H _ I h) λv s1 h1=>aY h1 λar s2 h2=>?_) hs;obtain⟨it,fp,tn,J,H2,e,I2,T,a4,f2,W,⟨m0,w0⟩,turn⟩:=h2;subst e;have p:∀{H':Hp},(∀b∈fp,H' b=none)->∀b∈fp,rZ X U H' b:=λhn b l=>{hn b l,(f2 b l).2};refine codeAny_forLoop_any (λn s'=>∃i t H',za X U t H' s'/\tn i s'.v/\(∀b∈fp,H' b=none)/\W i n t H') ?_ m0 {0,σ,H2,I2,a4,λb l=>(f2 b l).1,w0};rintro n s3 ⟨i,C,H3,I3,a2,a3,w3⟩;rcases turn i n C H3 w3 with⟨stop,qn⟩|⟨go,N,hN,step⟩
 .refine wpAny_passesOwn hp<|aY (T.done X rfl rfl rfl hc i U s3 C H3 X.xe I3 (p a3) a2 stop) λr s4 ⟨hr,I4⟩=>?_;subst hr;exact wpAny_execs_nil {(C),H3,I4,qn}
 .refine wpAny_passesOwn hp<|aY (T.item X rfl rfl rfl hc i U s3 C H3 X.xe I3 (p a3) a2 go) λr s4 ⟨u,hr,h4⟩=>?_;subst hr;refine wpAny_passesOwn hp<|aY h4 λ_ s5 ⟨x,H5,I5,r5,y5,a1,a5⟩=>?_;have ac:=I5.pinned (p a5)<|T.obj _ _ a1;refine wpAny_passesOwn hp<|aY (hg _ s5 C H5 x u _ ac r5<|step x H5 y5) λ_ s6 ⟨al,H6,I6,q6⟩=>?_;refine wpAny_passesOwn hp<|aY (l _ s6 al H6 _ I6 q6) λf s7 q7=>?_;have again:∀{j:St} {H7:Hp},za X (U++qL fp s5.v) j H7 s7->N j H7->∃m,m<n/\∃i t H',za X U t H' s7/\tn i s7.v/\(∀b∈fp,H' b=none)/\W i m t H':=λ{j H7} I7 n7=>by obtain⟨m',hm,w7⟩:=hN j H7 n7;refine{m',hm,i+1,j,H7,I7._l,T.keep _ _ _ a1 λb l o e=>(I7.pin (b,o)<|Ai _<|Ai _<|fI l e).1,λb l=>?_,w7};obtain⟨o,e,d⟩:=T.obj _ _ a1 b l;exact(I7.pin (b,o)<|Ai _<|Ai _<|fI l e).2.1
  cases f with
  |next=>obtain⟨j,H7,I7,n7⟩:=q7;exact again I7 n7
  |cont=>obtain⟨j,H7,I7,n7⟩:=q7;exact again I7 n7
  |brk=>obtain⟨j,H7,I7,q7⟩:=q7;exact{(j),H7,I7._l,q7}
  |ret v=>obtain⟨x7,j,H7,I7,r7,q7⟩:=q7;exact{(x7),j,H7,I7._l,r7,q7}
abbrev R2:=V->V->Hp->VK->Prop
def kz(X:Cx)(f:aaq->aaq->Sem aaq)(r:R2):Prop:=
 ∀(pins:List<|Addr×Obj) (s:aar) (σ:St) (H:Hp) (x y:V) (v u:aaq) (Q:VK),'v'->j9 x v->j9 y u->r x y H Q->
  _S X (f v u) 'd' X.xe s
def UnR(X:Cx)(f:aaq->Sem aaq)(r:V->Hp->VK->Prop):Prop:=
 ∀(pins:List<|Addr×Obj) (s:aar) (σ:St) (H:Hp) (x:V) (v:aaq) (Q:VK),'v'->j9 x v->r x H Q->
  _S X (f v) 'd' X.xe s
def jt(X:Cx)(f:aaq)(r:HT->Hp->VK->Prop):Prop:=
 ∀(pins:List<|Addr×Obj) (s:aar) (σ:St) (H:Hp) (xs:HT) (us:aaf) (Q:VK),'v'->zw xs us->r xs H Q->
  _S X (call f us) 'd' X.xe s
def FZ(r:R2)(ta tb:TE):TE:=λσ H Q=>ta σ H λx H1=>tb σ H1 λy H2=>r x y H2 Q
def Rc(r:V->Hp->VK->Prop)(ta:TE):TE:=λσ H Q=>ta σ H λx H1=>r x H1 Q
def rI(C:Int->Int->Prop)(g:Int->Int->V):R2:=λx y H Q=>∃i j,x=.int i/\y=.int j/\C i j/\Q (g i j) H
def z_(g:Int->Int->V):R2:=λx y H Q=>∃i j,x=.int i/\y=.int j/\Q (g i j) H
def rU(g:Int->V):V->Hp->VK->Prop:=λx H Q=>∃i,x=.int i/\Q (g i) H
section
variable {a b:Expr}{ta tb tc:TE}{pos:Pos}
def Hr(j:PE X a ta)(l:PE X b tb){R:V->V->Hp->Prop}(I:'v')
 (h:ta σ H λx H1=>tb σ H1 λy H2=>R x y H2) {f:aaq->aaq->Sem aaq}
 (o:∀v u g x y H2,za X pins σ H2 g->j9 x v->j9 y u->R x y H2->_S X (f v u) Q X.xe g):
 _S X (eval a X.o) (λv J=>_S X (eval b X.o) (λu U=>_S X (f v u) Q X.xe U) X.xe J) X.xe s:=by
 refine bS (j pins s σ H _ I h) λv p x H1 r t C=>?_;refine bS (l pins p σ H1 _ r C) λu g y H2 T r2 q2=>?_;exact o v u g x y H2 T t r2 q2
def Rf{op:Operator}{r:R2}(U:kz X (binaryOp op) r)(g:PE X a ta)(j:PE X b tb):PE X (.BinOp a op b pos) (FZ r ta tb):=by intro J s l H Q I h;exact wpAny_BinOp<|Hr g j I h λv u o x y p t C T q=>U J o l p x y v u Q t C T q
def Rg{op:UnaryOp}{r:V->Hp->VK->Prop}(g:UnR X (unaryOp op) r)(j:PE X a ta):PE X (.UnaryOp op a pos) (Rc r ta):=by intro J s U H Q I h;exact UnaryOp_<|bS (j J s U H _ I h) λv l x o p t C=>g J l U o x v Q p t C
def Gv{f:aaq->aaq->Sem aaq}{C:Int->Int->Prop}{g:Int->Int->Int}
 (rule:∀(i j:Int) (t u:Tok) (s:aar) (Q:aaa) (E:aaa),C i j->Q (.int (g i j) s.D) {s with toks:=s.D+1}->_S X (f (.int i t)<|.int j u) Q E s):
 kz X f (rI C λi j=>.int<|g i j):=by
 rintro J s r H x y v u Q I U l⟨i,j,rfl,rfl,o,q⟩;obtain⟨t,rfl⟩:=U;obtain⟨p,rfl⟩:=l;exact rule i j t p s _ _ o {.int<|g i j,H,I.tok _,{_,rfl},q}
def Js{f:aaq->aaq->Sem aaq}{g:Int->Int->Int}
 (rule:∀(i j:Int) (t u:Tok) (s:aar) (Q:aaa) (E:aaa),Q (.int (g i j) s.D) {s with toks:=s.D+1}->_S X (f (.int i t)<|.int j u) Q E s):
 kz X f (z_ λi j=>.int<|g i j):=by
 rintro J s p H x y v u Q I U l⟨i,j,rfl,rfl,q⟩;obtain⟨t,rfl⟩:=U;obtain⟨o,rfl⟩:=l;exact rule i j t o s _ _ {.int<|g i j,H,I.tok _,{_,rfl},q}
def Hs{f:aaq->aaq->Sem aaq}{g:Int->Int->Bool}
 (rule:∀(i j:Int) (t u:Tok) (s:aar) (Q:aaa) (E:aaa),Q (.bool<|g i j) s->_S X (f (.int i t)<|.int j u) Q E s):
 kz X f (z_ λi j=>.bl<|g i j):=by
 rintro J s p H x y v u Q I U l⟨i,j,rfl,rfl,q⟩;obtain⟨t,rfl⟩:=U;obtain⟨o,rfl⟩:=l;exact rule i j t o s _ _ {.bl<|g i j,H,I,rfl,q}
def Ht(i j:Int):Prop:=0<j/\j<1073741824
def Hu(i j:Int):Prop:=0<=j/\j<=1000000/\i.natAbs<2 ^ 64
def agl(i j:Int):Prop:=(-(2 ^ 64)<i/\i<2 ^ 64)\/(-(2 ^ 64)<j/\j<2 ^ 64)
def agl.ok{i j:Int}(h:agl i j):IntMulOk i j:=by
 rcases h with⟨h1,h2⟩|⟨h1,h2⟩
 .exact .of_left<|intBits_le_64 h1 h2
 .exact .of_right<|intBits_le_64 h1 h2
def Rh:kz X (binaryOp .Add) (z_ λi j=>.int<|i+j):=Js λ_ _ _ _ _ _ _ q=>add_int q
def Ri:kz X (binaryOp .Sub) (z_ λi j=>.int<|i-j):=Js λ_ _ _ _ _ _ _ q=>sub_int q
def Rj:kz X (binaryOp .Mult) (rI agl λi j=>.int<|i*j):=Gv λ_ _ _ _ _ _ _ I q=>mul_int q I.ok
def Rk:kz X (binaryOp .FloorDiv) (rI Ht λi j=>.int<|i / j):=Gv λi j _ _ _ _ _ I q=>by have h1:=I.1;have h2:=I.2;exact floordiv_int 's' ([Int.fdiv_eq_ediv_of_nonneg i 's']≈q)<|.inl<|PyProof.noPylong_small 's'
def Rl:kz X (binaryOp .Mod) (rI (λ_ j=>0<j) λi j=>.int<|i % j):=Gv λi j _ _ _ _ _ I q=>by exact mod_int' 's' ([Int.fmod_eq_emod_of_nonneg i 's']≈q)
def Rm:kz X (binaryOp .Pow) (rI Hu λi j=>.int<|i ^ j.B):=Gv λ_ _ _ _ _ _ _ I q=>pow_int_small I.1 I.2.1 I.2.2 q
def Rn{f:aaq->Sem aaq}{g:Int->Int}
 (rule:∀(i:Int) (t:Tok) (s:aar) (Q:aaa) (E:aaa),Q (.int (g i) s.D) {s with toks:=s.D+1}->_S X (f<|.int i t) Q E s):
 UnR X f (rU λi=>.int<|g i):=by
 rintro J s j H x v Q I U⟨i,rfl,q⟩;obtain⟨t,rfl⟩:=U;exact rule i t s _ _ {.int<|g i,H,I.tok _,{_,rfl},q}
def Ro:UnR X (unaryOp .USub) (rU λi=>.int<|-i):=Rn λ_ _ _ _ _ q=>neg_int q
end
def Jt:V->V->Bool
 |.int _,.int _=>true
 |.bl _,.bl _=>true
 |.str _,.str _=>true
 |_,_=>false
def Gw:Bool->CmpOp
 |true=>.NotEq
 |false=>.Eq
def F5(ne b:Bool):Bool:=match ne with
 |true=>!b
 |false=>b
def Rp(ne:Bool):R2:=λx y H Q=>Jt x y=true/\Q (.bl<|F5 ne<|decide<|x=y) H
def Ju{i j:Int}:decide (V.int i=V.int j)=(i==j):=by rw[EF];simp
def Jv{i j:Bool}:decide (V.bl i=V.bl j)=(i==j):=by rw[EF];simp
def Jw{i j:Str}:decide (V.str i=V.str j)=(i==j):=by rw[EF];simp
section
variable {a b:Expr}{ta tb tc:TE}{pos:Pos}
def gn{Q:VK}{k J:Bool}(I:'v')(q:Q (.bl k) H)(e:k=J):EP X pins σ Q (.bool J) s:=by subst e;exact{.bl k,H,I,rfl,q}
def Jx(ne:Bool):kz X (compareOp<|Gw ne) (Rp ne):=by
 rintro l s o H x y v u Q I U g⟨J,q⟩;cases x with
 |bl i=>
  cases y with|bl j=>cases U;cases g;cases ne;exact eq_bool<|gn I q Jv;exact ne_bool (gn I q<|A8 not Jv)|_=>exact(AI J).r
 |int i=>
  cases y with
  |int j=>obtain⟨_,rfl⟩:=U;obtain⟨_,rfl⟩:=g;cases ne;exact eq_int<|gn I q Ju;exact ne_int<|gn I q<|A8 not Ju
  |_=>exact(AI J).r
 |str i=>
  cases y with
  |str j=>obtain⟨_,rfl⟩:=U;obtain⟨_,rfl⟩:=g;cases ne;exact eq_str<|gn I q Jw;exact ne_str<|gn I q<|A8 not Jw
  |_=>exact(AI J).r
 |_=>cases y<;>exact(AI J).r
def Rq:kz X (compareOp .Lt) (z_ λi j=>.bl<|decide<|i<j):=Hs λ_ _ _ _ _ _ _ q=>lt_int q
def Rr:kz X (compareOp .LtE) (z_ λi j=>.bl<|decide<|i<=j):=Hs λ_ _ _ _ _ _ _ q=>le_int q
def Rs:kz X (compareOp .Gt) (z_ λi j=>.bl<|decide<|j<i):=Hs λ_ _ _ _ _ _ _ q=>gt_int q
def vz(b:Expr){op:CmpOp}(h:op≠.In:=by decide)(h2:op≠.NotIn:=by decide):behindInMarks op b=false:=by
 have I:(op==CmpOp.In)=false:=by cases op<;>first|rfl|exact absurd rfl h
 have J:(op==CmpOp.NotIn)=false:=by cases op<;>first|rfl|exact absurd rfl h2
 cases b<;>simp[behindInMarks,I,J]
def Rt{op:CmpOp}{r:R2}(U:kz X (compareOp op) r)(g:PE X a ta)(j:PE X b tb)(l:behindInMarks op b=false):PE X (.Compare a [op] [b] pos) (FZ r ta tb):=by intro J s o H Q I h;exact wpAny_Compare1 (Hr g j I h λv u p x y t C T ry q=>U J p o t x y v u Q C T ry q) l
def Hv(t:TE):TT:=λσ H Q=>t σ H λx H'=>∃k,x=.bl k/\Q k H'
def Rv{op:CmpOp}{r:R2}(g:kz X (compareOp op) r)(j:PE X a ta)(l:PE X b tb)(o:behindInMarks op b=false):PT X (.Compare a [op] [b] pos) (Hv<|FZ r ta tb):=by
 intro J s U H Q I h;refine wpAny_isTrue_Compare1 (bS (j J s U H _ I h) λv p x t C T q1=>bS (l J p U t _ C q1) λu s2 y H2 I2 r2 q2=>
  aY (g J s2 U H2 x y v u _ I2 T r2 q2) λc s3 ⟨z,H3,I3,r3,k,e,q3⟩=>?_) o
 subst e;cases r3;exact wpAny_truthy_bool {(H3),I3,q3}
def lS:(sizeLine:Nat)<2 ^ 63:=by rw[sizeLine_eq];decide
def zD:kz X (binaryOp .Add) (λx y H Q=>∃i j,x=.str i/\y=.str j/\i.l+j.l<=sizeLine/\Q (.str<|i++j) H):=by rintro J s p H x y v u Q I U g⟨i,j,rfl,rfl,l,q⟩;obtain⟨t,rfl⟩:=U;obtain⟨o,rfl⟩:=g;exact jv I.tk<|add_str (λo tk r=>{.str<|i++j,H,I.tok _,{_,rfl},q}) l
def jJ{x:V}(r:zw [x] us):∃u,us=[u]/\j9 x u:=by cases r with|cons I J=>cases J;exact{_,rfl,I}
def Jy{x y:V}(r:zw [x,y] us):∃u I,us=[u,I]/\j9 x u/\j9 y I:=by
 cases r with
 |cons J U=>
  cases U with|cons g j=>cases j;exact{_,_,rfl,J,g}
def Rw:jt X (.builtin "abs") (λxs H Q=>∃i,xs=[.int i]/\Q (.int<|if i<0 then -i else i) H):=by rintro J s U H xs g Q I r⟨i,rfl,q⟩;obtain⟨u,rfl,t,rfl⟩:=jJ r;exact jv I.tk<|call_abs_int λu tk j=>{.int<|if i<0 then -i else i,H,I.tok _,{_,rfl},q}
def Rx(hc:X.calm=true):jt X (.builtin "max") (λxs H Q=>∃i j,xs=[.int i,.int j]/\Q (.int<|if j > i then j else i) H):=by
 rintro U s g H xs l Q I r⟨i,j,rfl,q⟩;obtain⟨u,o,rfl,⟨t,rfl⟩,⟨p,rfl⟩⟩:=Jy r;refine jv I.tk<|max_two_ints (I.ok.hd hc) λC tk k T=>{_,H,I.kept k,?_,q};by_cases J:j > i
 .rw[AF J,AF J];exact{_,rfl}
 .rw[Az J,Az J];exact{_,rfl}
def Ry(hc:X.calm=true):jt X (.builtin "min") (λxs H Q=>∃i j,xs=[.int i,.int j]/\Q (.int<|if j<i then j else i) H):=by
 rintro U s g H xs l Q I r⟨i,j,rfl,q⟩;obtain⟨u,o,rfl,⟨t,rfl⟩,⟨p,rfl⟩⟩:=Jy r;refine jv I.tk<|min_two_ints (I.ok.hd hc) λC tk k T=>{_,H,I.kept k,?_,q};by_cases J:j<i
 .rw[AF J,AF J];exact{_,rfl}
 .rw[Az J,Az J];exact{_,rfl}
end
structure apm(h:aau)(x dx C:Addr)(mA:aac):Prop where
 obj:h.x x=some (PySem.W.instObj C dx)
 ns:h.Ns1 dx mA
 ne:dx≠x
def RA(n:h.Ns1 dx mA):∃od,h.x dx=some od/\∀name,PySem.W.lookIn name od=some (mA name):=by
 obtain⟨o,J,r,U,hd,g,_,j⟩:=n;refine{o,U,λname=>?_};have e:=j name;unfold nsFind findBy at e;rw[<-Array.find?_toList] at e;unfold PySem.W.lookIn;rw[hd];dsimp only;split
 .rename_i y q;rw[q] at e;exact A8 some e
 .rename_i q;rw[q] at e;have a:J.toList.any (·.refKey)=false:=by rw[List.any_eq_false];intro y l;obtain⟨z,t,I⟩:=g y<|Array.mem_toList_iff.mp l;simp[DictEntry.refKey,I]
  have p:¬J.toList.any (·.refKey)=true:=by rw[a];exact AI
  rw[Az p];exact A8 some e
def apm.look{x:Addr}(I:apm h x dx C mA):∃od,PySem.W.InstAt h x (PySem.W.instObj C dx) C (some od)/\∀name,PySem.W.lookIn name od=some (mA name):=
 let ⟨od,J,U⟩:=RA I.ns
 ⟨od,⟨I.obj,rfl,rfl,J⟩,U⟩
section
variable {w:aat}{K:Aj}{x:Addr}{name:Str}{v:aaq}
end
def sE.some_of{o:aam}(r:sE (some v) o):∃u,o=some u/\j9 v u:=by cases o with|none=>exact(show False from r).r|some u=>exact{(u),rfl,r}
section
variable {P:aas}{w:aat}{a:Addr}{fs fs':List<|Str×V}
def RB(KB:gB P w H h)(e:H a=some (.ins C dx fs)):∃mA,apm h a dx C mA/\(∀f,sE (fs.e f)<|mA f)/\PySem.Within mA (fs.y (·.1))/\fs.l<=1000/\H dx=some (.own a):=by obtain⟨d,z,ne,ob,mA,n,r,q⟩:=(show vd P w H h a (.ins C dx fs) from KB a _ e);exact{mA,{(ob),n,ne},r,q,z,d}
end
structure Cls(K:Aj)(C:Addr):Prop where
 pg:PySem.W.plainGet K C Str.empty=true
 hd:PySem.W.hasDictIn K C=true
 po:PySem.W.plainOver K C=true
 sa:PySem.W.findIn K (.ref C) "__setattr__"=some (some<|.builtin "object.__setattr__")
def Cls.get{K:Aj}(c:Cls K C)(f:Str):PySem.W.plainGet K C f=true:=c.pg
section
variable {a:Addr}{fs:List<|Str×V}{f:Str}
end
section
variable {f:Str}{pos tpos:Pos}{ta tv:TE}
end
section
variable {c:aaq}{b:Bool}
inductive qN(K:Aj)(H:Hp):V->aaq->Prop where
 |GM:qN K H .GM (.type "NoneType")
 |bl (x:Bool):qN K H (.bl x) (.type "bool")
 |int (i:Int):qN K H (.int i) (.type "int")
 |str (x:Str):qN K H (.str x) (.type "str")
 |flt (x:UInt64):qN K H (.flt x) (.type "float")
 |lst {a:Addr} {xs:HT} (e:H a=⇑xs):qN K H (.ref a) (.type "list")
 |_b {a:Addr} {o:Obj} {xs:HT} (e:H a=some (._b o<|.lst xs)):qN K H (.ref a) (.type "list")
 |tup {a:Addr} {xs:HT} (e:H a=some (.tup xs)):qN K H (.ref a) (.type "tuple")
 |dK {a:Addr} {kvs:List<|jk×V} (e:H a=some (.dK kvs)):qN K H (.ref a) (.type "dict")
 |ins {a C dx:Addr} {fs:List<|Str×V} (e:H a=some (.ins C dx fs)) (cl:Cls K C) (ha:PySem.W.findIn K (.ref C) "__class__"=some (some<|.builtin "object.__class__"))
  (hn:PySem.W.specialIn K (.builtin "object.__class__") "__get__"=some (some<|.builtin "getset_descriptor.__get__")) (htk:PySem.W.takesIn K (.builtin "object.__class__")=some true)
  (hm:PySem.W.mroIn K C (.type "object")=some true):qN K H (.ref a) (.ref C)
def cZ{x:V}{t:aaq}(I:'v')(U:j9 x u)(ty:qN X.K H x t)(e:PySem.W.kitOne X.K t c=some b)(h:∀tk,Q (.bool b) {s with toks:=tk}):
 wpAny 'a' A (call (.builtin "isinstance") [u,c]) Q E s:=by
 cases ty with
 |GM=>cases (show u=Value.none from U);exact BD PySem.W.kitx_none I._A True.intro e (λz=>nomatch z) h
 |bl y=>cases (show u=Value.bool y from U);exact BD PySem.W.kitx_bool I._A True.intro e (λz=>nomatch z) h
 |int i=>obtain⟨t,q⟩:=(show ∃t,u=Value.int i t from U);cases q;exact BD PySem.W.kitx_int I._A True.intro e (λz=>nomatch z) h
 |str y=>obtain⟨t,q⟩:=(show ∃t,u=Value.str y t from U);cases q;exact BD PySem.W.kitx_str I._A True.intro e (λz=>nomatch z) h
 |flt y=>obtain⟨t,q⟩:=(show ∃t,u=Value.float y t from U);cases q;exact BD PySem.W.kitx_float I._A True.intro e (λz=>nomatch z) h
 |@lst a g ea=>
  cases (show u=Value.ref a from U);obtain⟨_,_,n,_,h1⟩:=(show vd X.i X.w H s.v a (.lst g) from I.KB a _ ea);exact BD Ej I._A {_,h1,rfl} e (λz=>nomatch z) h
 |@_b a ob g ea=>
  cases (show u=Value.ref a from U);obtain⟨_,_,_,n,_,h1⟩:=(show vd X.i X.w H s.v a (._b ob<|.lst g) from I.KB a _ ea);exact BD Ej I._A {_,h1,rfl} e (λz=>nomatch z) h
 |@tup a g ea=>
  cases (show u=Value.ref a from U);obtain⟨_,_,_,p⟩:=(show vd X.i X.w H s.v a (.tup g) from I.KB a _ ea);obtain⟨o,h1,h2,_⟩:=p;exact BD PySem.W.kitx_tuple I._A {(o),h1,h2} e (λz=>nomatch z) h
 |@dK a j ea=>
  cases (show u=Value.ref a from U);obtain⟨_,_,vs,_,p⟩:=(show vd X.i X.w H s.v a (.dK j) from I.KB a _ ea);obtain⟨o,es,ep,h1,h2,_⟩:=p;exact BD PySem.W.kitx_dict I._A {(o),h1,h2.1} e (λz=>nomatch z) h
 |@ins a C dx fs ea cl r T l hm=>
  cases (show u=Value.ref a from U);obtain⟨mA,O,_⟩:=RB I.KB ea;obtain⟨od,J,_⟩:=O.look;exact BD (PySem.W.kitx_own (cl.get _) cl.hd r T l hm) I._A J e (λz=>nomatch z) h
end
structure aX(k:Nat)(A:Around):Prop where
 hd:A.handled=none
 dp:A.J+3*k+5<recursionLimit
 un:A.units+16*k+200<cLine
def aX.mono{k:Nat}(r:aX k A)(h:j<=k):aX j A:={r.hd,by have:=r.dp;lia,by have:=r.un;lia}
def aX.deeper{k:Nat}(r:aX (k+1) A)(env:Env):aX k (A.deeper env):=
 ⟨r.hd,by have:=r.dp;show A.J+1+3*k+5<_;lia,by have:=r.un;show A.units+3+16*k+200<_;lia⟩
def aX.depth{k:Nat}(r:aX k A):A.J<recursionLimit:=by have:=r.dp;lia
def RC:TA:=λ_ H Q=>Q [] H
def RE(ta:TE)(tr:TA):TA:=λσ H Q=>ta σ H λx H1=>tr σ H1 λxs H2=>Q (x::xs) H2
section
variable {te:TE}{t:TA}{pos:Pos}
def gH:PA X [] RC:=λ_ _ _ _ H Q I h=>EQ {[],H,I,.nil,h}
abbrev Fb(e:Expr)(es:aaj)(X:Cx):Prop:=starEach (e::es) X.o=(false,eval e X.o)::starEach es X.o
def af(g:PE X e te)(j:PA X es t)(hs:Fb e es X:=by rfl):PA X (e::es) (RE te t):=by intro pos J s U H Q I h;rw[hs];refine At<|bS (g J s U H _ I h) λu l x o p r C=>?_;exact Fw (j pos J l U o _ p C) λus s2 T H2 I2 r2 q2=>{x::T,H2,I2,.cons r r2,q2}
def RF(t:TA):TE:=λσ H Q=>t σ H λxs H1=>xs.length<=sizeLine/\∀p,H1 p=none->Q (.ref p) (upd H1 p<|.tup xs)
def RG(t:TA):TE:=λσ H Q=>t σ H λxs H1=>xs.length<=sizeLine/\∀p,H1 p=none->Q (.ref p) (upd H1 p<|.lst xs)
def Jz{x1}(h:PA X es t):PE X (.Tuple es x1 pos) (RF t):=by intro J s j H Q I l;refine wpAny_Tuple_spliced (aY (h pos J s j H _ I l) λo U ⟨p,C,g,r,z,q⟩=>{by rw[<-r.l];exact z,?_});have T:=g.KB.fresh<|Ap _;refine{.ref ↥U,upd C ↥U<|.tup p,g.laid (t':=U.D) (λb u e=>wh _ e) (Ap _) ?_,rfl,q _ T};exact{z,o,r,{_,ya _ rfl,rfl,_,rfl}}
def JA(h:PA X es t):PE X (.List es pos) (RG t):=by intro J s j H Q I l;refine wpAny_List_spliced (aY (h pos J s j H _ I l) λo U ⟨p,C,g,r,z,q⟩=>{by rw[<-r.l];exact z,?_});have T:=g.KB.fresh<|Ap _;refine{.ref ↥U,upd C ↥U<|.lst p,g.laid (t':=U.D) (λb u e=>wh _ e) (Ap _) ?_,rfl,q _ T};exact{z,o,0,r,ya _ rfl}
end
abbrev Sp:=HT->Hp->VK->XK->Prop
abbrev d_:=List Env->Hp->aar->XK->aaa
structure Gx(P:aas)(w:aat)(K:Aj)(mg:aac)(base:aau)(A:Around)(outer:List Env)(s:aar)(H:Hp):Prop where
 frames:A.frames=some outer
 mod:Mod K mg base
 bs:∀b o,base.x b=some o->s.heap.get? b=some o/\H b=none
 bsz:base.objs.q<=↥s
 _o:s.heap.FunFrames base outer
 frf:∀b∈dk outer,H b=none
 KB:gB P w H s.v
 bare:AllBare s.gens
 tk:0<s.D
def CE(outer:List Env)(P:aas)(w:aat)(H:Hp)(s:aar)(Q:VK)(u:aaq)(s':aar):Prop:=
 ∃v H',s'.os=s.os/\AllBare s'.gens/\Un (dk outer) [] H H' s.v s'.v/\gB P w H' s'.v/\j9 v u/\Q v H'/\0<s'.D
def CR(CX:d_)(outer:List Env)(P:aas)(w:aat)(H:Hp)(s:aar)(Q:VK)(E:XK)(r:Result)(s':aar):Prop:=
 match r with
 |.ok (.ret u)=>CE outer P w H s Q u s'
 |.ok _=>False
 |.error e=>CX outer H s E e s'
structure dI(P:aas)(w:aat)(K:Aj)(mg:aac)(base:aau)(CX:d_)(k:Nat)(f:Addr)(fd:FuncData)(ps:aai)(sp:Sp):Prop where
 len:∀vs H Q E,sp vs H Q E->vs.length=ps.l
 run:∀(A:Around) (outer:List Env) (s:aar) (H:Hp) (args:Args) (us:aaf) (vs:HT) (Q:VK) (E:XK),aX k A->Gx P w K mg base A outer s H->BindsTo s fd args (ps.zip us)->zw vs us->sp vs H Q E->
  codeAny (model P w) A (.call (.ref f) args) (CR CX outer P w H s Q E) s
theorem dI.mono{P:aas}{w:aat}{K:Aj}{CX:d_}{k:Nat}{sp:Sp}(F:dI P w K mg base CX j f fd ps sp)(h:j<=k):
 dI P w K mg base CX k f fd ps sp:={F.len,λA I s H args J U Q E g=>F.run A I s H args J U Q E<|g.mono h}
def dI.imp{P:aas}{w:aat}{K:Aj}{CX:d_}{k:Nat}{sp J:Sp}(F:dI P w K mg base CX k f fd ps sp)
 (h:∀vs H Q E,J vs H Q E->sp vs H Q E):dI P w K mg base CX k f fd ps J:=
 ⟨λvs H Q E q=>F.len vs H Q E<|h _ _ _ _ q,λA I s H args U vs Q E g j l o p=>F.run A I s H args U vs Q E g j l o<|h _ _ _ _ p⟩
def za.env0(I:'v'):Gx X.i X.w X.K X.mg X.Y X.A X.p s H:=
 ⟨I.ok.frames,I.ok.mod,I.bs,AQ I.ok.bsz I.sz,I.p,I.stkFree,I.KB,I.bare,I.tk⟩
def za.after{Q:VK}(I:'v')(h:CE X.p X.i X.w H s Q u s'):EP X pins σ Q u s':=by obtain⟨v,j,os,bare,un,J,r,q,o⟩:=h;obtain⟨l,g,d,t,U⟩:=s';obtain rfl:U=s.os:=os;exact{v,j,I.call (h':=l) (g':=g) (d':=d) (t':=t) (ch:=[]) un J bare λb z=>absurd z 'r',r,q}
def JB(sp:Sp)(r4:HT)(E:XK)(t:TA):TE:=λσ H Q=>t σ H λvs H1=>sp (vs++r4) H1 Q E
def ff(K:Aj)(fd:FuncData)(ps:aai)(ds:aaf):Prop:=
 ∀(s:aar) (us:aaf),K.In s.v->(us++ds).l=ps.l->BindsTo s fd ⟨us,[]⟩ (ps.zip<|us++ds)
def ff.all{K:Aj}(h:∀us:aaf,us.l=ps.l->bindArgs fd ⟨us,[]⟩=pure (ps.zip us)):ff K fd ps []:=λs us _ I=>by rw[AE] at I ⊢;exact .of_eq<|h us I
def zL(CX:d_)(X:Cx)(E:XK):Prop:=∀(pins:List<|Addr×Obj) (σ:St) (H:Hp) (s:aar) (e:aaq) (s':aar),'v'->CX X.p H s E e s'->X.xe e s'
section
variable {CX:d_}{k:Nat}{sp:Sp}{r4:HT}{ds:aaf}{E:XK}{m:Str}{p pos:Pos}{ta:TE}{t:TA}
def RH{Q:VK}(F:dI X.i X.w X.K X.mg X.Y CX k f fd ps sp)(g:aX k X.A)(j:ff X.K fd ps ds)(hd:zw r4 ds)(l:zL CX X E)
 (I:'v') (r:zw vs us) (h:sp (vs++r4) H Q E):_S X (call (.ref f) us) 'd' X.xe s:=by
 have U:=r.append hd;have o:(us++ds).l=ps.l:=by rw[<-U.l];exact F.len _ _ _ _ h
 refine wpAny_call<|codeAny_mono (F.run X.A X.p s H {us,[]} (us++ds) (vs++r4) Q E g I.env0 (j s us I._A o) U h) λr p J=>?_;cases r with
 |error e=>exact l pins σ H s e p I J
 |ok t=>
  cases t with|ret u=>exact I.after J|next=>exact False.r J|brk=>exact False.r J|cont=>exact False.r J
abbrev Fc(p:Pos)(es:aaj)(X:Cx):Prop:=(backTo p<|starEach es X.o).any (·.1)=false
def RI(F:dI X.i X.w X.K X.mg X.Y CX k f fd ps sp)(l:aX k X.A)(o:Gl X x)(C:X.mg x=↑f)(T:PySem.W.keepIn X.K (.ref f)=true)(hb:ff X.K fd ps ds)(hd:zw r4 ds)(hx:zL CX X E)
 (ha:PA X (e::es) t) (U:Fe x:=by decide) (he:Fb e es X:=by rfl) (g:Fc pos es X:=by rfl):
 PE X (.Call (.Name x p) (e::es) [] pos) (JB sp r4 E t):=by
 intro J s σ H Q I h;refine wpAny_Call_Name_kw<|jK I o C ?_ U;refine PySem.W.callWith_K (h₀:=X.Y) I.ok.mod.kin T (Fw (ha pos J s σ H _ I h) λus s1 vs H1 j r q=>{j._A,?_}) he g;exact RH F l hb hd hx j r q
end
section
variable {CX:d_}{k:Nat}{ks:aai}{sp:Sp}{E:XK}{m:Str}{p pos:Pos}{kws:List Keyword}{te ta:TE}{t tk:TA}{nm:Option Str}
variable {g:aaf->aaf->aaf}{gV:HT->HT->HT}
end
structure aT(N P:aai)(sc:Scope):Prop where
 kind:sc.kind=.function
 co:sc.isCoroutine=false
 gen:sc.isGenerator=false
 nd:N.c
 pre:N.u P.l=P
 par:∀x∈P,sc.names.e x=some .local\/sc.names.e x=some .cell
 nofree:∀y∈sc.names,y.2≠.free
theorem tN{kindOf:Str->Option NameKind}{x:Str}:∀{I:List<|Str×aaq} {m:aac},(∀v,(x,v)∉I)->bindL kindOf I m x=m x
 |[],_,_=>rfl
 |(n,v)::r,m,h=>by
  unfold bindL;rw[tN λw hw=>h w<|Ae _ hw];split
  .have:x≠n:=by rintro rfl;exact h v Ag
   simp[this]
  .rfl
theorem sM{kindOf:Str->Option NameKind}{x:Str}:∀{I:List<|Str×aaq} {m:aac},(∀v,(x,v)∉I)->bindC kindOf I m x=m x
 |[],_,_=>rfl
 |(n,v)::r,m,h=>by
  unfold bindC;rw[sM λw hw=>h w<|Ae _ hw];split
  .rfl
  .have:x≠n:=by rintro rfl;exact h v Ag
   simp[this]
theorem sI{kindOf:Str->Option NameKind}{x:Str}{v:aaq}:∀{P:aai} {vs:aaf} {i:Nat} {m:aac},P.c->P[i]?=some x->vs[i]?=some v->kindOf x=some .local->
 bindL kindOf (P.zip vs) m x=some v
 |[],_,_,_,_,h,_,_=>by simp at h
 |_::_,[],_,_,_,_,h,_=>by simp at h
 |p::P,w::vs,0,m,nd,h1,h2,I=>by simp at h1 h2;subst h1;subst h2;show bindL kindOf ((p,w)::P.zip vs) m p=_;unfold bindL;rw[tN λv J=>(AA.j nd).1 (Di J).1,AF I];simp
 |p::P,w::vs,i+1,m,nd,h1,h2,I=>by unfold bindL;exact sI (i:=i) (AA.j nd).2 (~~~h1) (~~~h2) I
theorem sP{kindOf:Str->Option NameKind}{x:Str}{v:aaq}:∀{P:aai} {vs:aaf} {i:Nat} {m:aac},P.c->P[i]?=some x->vs[i]?=some v->kindOf x≠some .local->
 bindC kindOf (P.zip vs) m x=some v
 |[],_,_,_,_,h,_,_=>by simp at h
 |_::_,[],_,_,_,_,h,_=>by simp at h
 |p::P,w::vs,0,m,nd,h1,h2,I=>by simp at h1 h2;subst h1;subst h2;show bindC kindOf ((p,w)::P.zip vs) m p=_;unfold bindC;rw[sM λv J=>(AA.j nd).1 (Di J).1,Az I];simp
 |p::P,w::vs,i+1,m,nd,h1,h2,I=>by unfold bindC;exact sP (i:=i) (AA.j nd).2 (~~~h1) (~~~h2) I
def start(N:aai)(vs:HT):St:=vs.y some++List.replicate (N.l-vs.l) none
def fU(CX:d_)(P:aas)(w:aat)(K:Aj)(mg:aac)(base:aau)(N:aai)(eK:Str)(scope:Scope)(f:Addr)(cd:aaq)(A:Around)(outer:List Env)(s:aar)(H:Hp)(E:XK):Cx where
 prog:=P
 w:=w
 K:=K
 mg:=mg
 base:=base
 A:=A.deeper<|envOfC eK scope ↥s f cd
 N:=N
 s₀:=s
 H₀:=H
 env:=envOfC eK scope ↥s f cd
 outer:=outer
 stack:=envOfC eK scope ↥s f cd::outer
 ex:=[]
 calm:=true
 fn:=λ_=>true
 pn:=[]
 xe:=λe s'=>wpAny (model P w) (A.deeper<|envOfC eK scope ↥s f cd) (leaving (envOfC eK scope ↥s f cd) e) (λ_ I=>CX outer H s E e I) (λJ I=>CX outer H s E J I) s'
def vK{I:Scope}(h:I.names.e x=some .cell):∃c,(cellsFrom n I.names []).e x=some c:=by have q:=Ex I.names n []<|.inl h;exact Option.isSome_iff_exists.mp q
def RJ{CX:d_}{P:aas}{w:aat}{K:Aj}{N:aai}{o:aar}{E:XK}
 (S:aT N ps scope) (hd:A.handled=none) (I:Gx P w K mg base A outer s H) (hl:vs.l=ps.l) (r:zw vs us)
 (x:InCallC s ↥s (bindL (envOfC eK scope ↥s f cd).Q (ps.zip us) λ_=>none) (cellsFrom (↥s+1) scope.names []) (bindC (envOfC eK scope ↥s f cd).Q (ps.zip us) λ_=>none) o) (T:0<o.D):
 za (fU CX P w K mg base N eK scope f cd A outer s H E) [] (start N vs) H o:=by
 have a1:ps.l<=N.l:=by have:=A8 List.length S.pre;rw[A2] at this;lia
 obtain⟨h1,tk,rfl,t⟩:=x.done;have J:∀b:Addr,b∉(fU CX P w K mg base N eK scope f cd A outer s H E).ex:=λb z=>absurd (show b∈([]:List Addr) from z) 'r';refine{{I.mod,S.kind,rfl,rfl,Ap _,λy z c h1 h2=>?_,λy U=>?_,λy c _ h=>?_,λ_=>hd,Around.frames_deeper I.frames,.inr {(rfl),rfl},λb z=>absurd z<|J b,I.bs,I.bsz,λb _ _=>J b,λb z=>absurd z<|J b,I._o,I.frf},
  rfl,I.bare,Un.kept t,{_,x.toInCall.ns,λi y v h1 h2 h3=>?_},λy c h=>{_,x.cell y c h},I.KB.fresh<|Ap _,λy c h=>?_,λp g=>absurd (show p∈([]:List<|Addr×Obj) from g) 'r',I.KB.kept t,?_,T}
 .exact name_of_addr x.apart (BL h1)<|BL h2
 .have U:=U;obtain U|U:=U
  .exact vK U
  .exact absurd rfl<|S.nofree _<|BL U
 .exact Br<|x.above y c<|BL h
 .have l:i<vs.l:=by
   unfold start at h2;by_cases l:i<vs.l
   .exact l
   .rw[AH (~~~l)] at h2;rw[BY] at h2;split at h2<;>cases h2
  have ha:vs[i]?=some v:=by unfold start at h2;rw[AG (~~~l),Al] at h2;cases e:vs[i]? with|none=>rw[e] at h2;cases h2|some a=>rw[e] at h2;cases h2;rfl
  obtain⟨u,C,rv⟩:=r.get ha;have g:ps[i]?=some y:=by rw[<-S.pre,De 's'];exact h1
  have j:ps.c:=by rw[<-S.pre];exact S.nd.sublist<|Ek _ _
  refine{u,rv,?_};obtain k|k:=S.par y (AD g)
  .exact .inl {k,sI j g C k}
  .obtain⟨c,e⟩:=vK (n:=↥s+1) k;refine .inr {.inl k,c,e,?_};have q:=x.cell y c e;rw[sP j g C (by show scope.names.e y≠_;rw[k];decide)] at q;exact q
 .exact I.KB.fresh<|Br<|x.above y c<|BL h
 .unfold start;show _=N.l;rw[Ab,Ac,B7];lia
theorem Hw{CX:d_}{P:aas}{w:aat}{K:Aj}{k:Nat}{name:Str}{U:Arguments}{dV kV ct:aaq}
 {N:aai} {sp:Sp} (lk:K.e f=some ⟨oc,od,.func<|PySem.W.fnOf name eK U body scope dV kV hQ pm an eS ct,pR⟩) (a1:PySem.W.codeIn K eS eK=true) (S:aT N ps scope)
 (len:∀vs H Q E,sp vs H Q E->vs.length=ps.l)
 (j:∀(A:Around) (outer:List Env) (s:aar) (H:Hp) (vs:HT) (Q:VK) (E:XK),aX k (A.deeper<|envOfC eK scope ↥s f eS)->sp vs H Q E->
  ∃t,i7 (fU CX P w K mg base N eK scope f eS A outer s H E) body t/\t {nx:=λ_ H'=>Q .GM H',rt:=Q} (start N vs) H):
 dI P w K mg base CX (k+1) f (PySem.W.fnOf name eK U body scope dV kV hQ pm an eS ct) ps sp:=by
 refine{len,λA outer s H args us vs Q E hr p hb r T=>?_};have hl:=len _ _ _ _ T;have KX:=p.mod.kin.keeps λb o e=>(p.bs b o e).1;have a2:=p.mod.nolimit.keeps λb o e=>(p.bs b o e).1;have l:∀y∈ps.zip us,scope.names.e y.1=some .local\/(scope.names.e y.1=some .cell/\((cellsFrom (↥s+1) scope.names []).e y.1).Z=true):=λ⟨n,v⟩ hy=>by
  obtain q|q:=S.par n (Di hy).1
  .exact .inl q
  .exact .inr {q,Ex _ _ _<|.inl q}
 refine codeAny_call_function hr.J (KX _ _ lk) rfl S.co S.gen rfl (PySem.W.codeRec_of KX a1)<|hb _ _ _ _ ?_;refine jv p.tk<|wpAny_newFunctionEnv_cells S.kind l λa4 he s1 x a3=>?_;subst he;refine{a2.keeps x.toInCall.keep,codeAny_func ?_};obtain⟨t,ht,hq⟩:=j A outer s H vs Q E (hr.deeper _) T;have I:za (fU CX P w K mg base N eK scope f eS A outer s H E) [] (start N vs) H s1:=RJ S hr.hd p hl r x a3;refine A5 (ht [] s1 (start N vs) H _ I hq) (λfl s' C=>?_) λe s' C=>C;have jj:∀{g:St} {H':Hp} {v:V} {u:aaq},za (fU CX P w K mg base N eK scope f eS A outer s H E) [] g H' s'->j9 v u->Q v H'->CE outer P w H s Q u s':=
  λ{g H' v u} J rv q=>{(v),H',J.os,J.bare,J.Y,J.KB,rv,q,J.tk}
 cases fl with
 |ret u=>
  obtain⟨v,g,H',J,rv,q⟩:=C;exact jj J rv q
 |next=>
  obtain⟨g,H',J,q⟩:=C;exact jj (v:=V.GM) (u:=Value.none) J rfl q
 |brk=>
  obtain⟨_,_,_,q⟩:=C;exact False.r q
 |cont=>
  obtain⟨_,_,_,q⟩:=C;exact False.r q
variable {sp:Sp}
section
variable {p pos:Pos}{t:TA}{id T:aav}{r:HT->Hp->VK->Prop}
def JC(r:HT->Hp->VK->Prop)(t:TA):TE:=λσ H Q=>t σ H λvs H1=>r vs H1 Q
def jT(hc:jt X (.builtin id) r)(l:Gl X x)(o:X.mg x=none)(C:bootBuiltins x=some (.builtin id))(T:PA X (e::es) t)(hn:x ≠ "__name__" := by decide)(U:Fe x:=by decide)
 (he:Fb e es X:=by rfl) (g:Fc pos es X:=by rfl):PE X (.Call (.Name x p) (e::es) [] pos) (JC r t):=by
 intro J s j H Q I h;refine wpAny_Call_Name_kw<|fS I l o C ?_ hn U;exact PyProof.Rows.callWith_builtin1 (Fw (T pos J s j H _ I h) λus s1 vs H1 I1 r1 q1=>hc J s1 j H1 vs us Q I1 r1 q1) he g
def l6(hc:jt X (.type T) r)(l:Gl X x)(o:X.mg x=none)(C:bootBuiltins x=some (.type T))(ha:PA X (e::es) t)(hn:x ≠ "__name__" := by decide)(U:Fe x:=by decide)
 (he:Fb e es X:=by rfl) (g:Fc pos es X:=by rfl):PE X (.Call (.Name x p) (e::es) [] pos) (JC r t):=by
 intro J s j H Q I h;refine wpAny_Call_Name_kw<|fS I l o C ?_ hn U;exact Cr (Fw (ha pos J s j H _ I h) λus s1 vs H1 I1 r1 q1=>hc J s1 j H1 vs us Q I1 r1 q1) he g
end
section
variable [DecidableEq κ]
def dQ(kvs:List<|κ×V)(k:κ):aax:=(kvs.find? λI=>decide<|I.1=k).y (·.2)
def lT(kvs:List<|κ×V)(k:κ)(v:V):List (κ×V):=
 if (kvs.any λI=>decide<|I.1=k)=true then kvs.y (λI=>if I.1=k then(I.1,v) else I) else kvs++[(k,v)]
def wU{p:κ×V}{r:List<|κ×V}{k:κ}(e:p.1=k):dQ (p::r) k=some p.2:=by simp[dQ,BP,e]
def yD{p:κ×V}{r:List<|κ×V}{k:κ}(e:¬p.1=k):dQ (p::r) k=dQ r k:=by simp[dQ,BP,e]
theorem RK(k:κ):∀kvs:List (κ×V),(kvs.any λI=>decide<|I.1=k)=(dQ kvs k).Z
 |[]=>rfl
 |p::r=>by
  rw[CF];by_cases e:p.1=k
  .simp only[wU e,AJ e,Bool.true_or,DY]
  .rw[yD e,Ay e,Bool.false_or];exact RK k r
def nM(kvs:List<|κ×V)(k:κ)(v:V):(lT kvs k v).l<=kvs.l+1:=by
 unfold lT;split
 .rw[Ac];lia
 .rw[Ab,AK,List.length_nil];lia
def sE._O{o:aax}{u:aam}(r:sE o u):o.Z=u.Z:=by
 cases o with
 |none=>cases u with|none=>rfl|some _=>exact(show False from r).r
 |some _=>cases u with|none=>exact(show False from r).r|some _=>rfl
def KV.val{kvs:List<|κ×V}{vs:List<|κ×aaq}(r:KV kvs vs)(k:κ):sE (dQ kvs k) (valueAt vs k):=by
 induction r with
 |nil=>exact True.intro
 |@cons p q g I h t U=>
  obtain⟨h1,h2⟩:=h;by_cases e:p.1=k
  .have J:=h1.symm.t e;have b:valueAt (q::I) k=some q.2:=by simp[valueAt,BP,J]
   rw[wU e,b];exact h2
  .have J:¬q.1=k:=λz=>e<|h1.trans z;have b:valueAt (q::I) k=valueAt I k:=by simp[valueAt,BP,J]
   rw[yD e,b];exact U
def KV.any{kvs:List<|κ×V}{vs:List<|κ×aaq}(r:KV kvs vs)(k:κ):(kvs.any λI=>decide<|I.1=k)=vs.any λI=>decide (I.1=k):=by induction r with|nil=>rfl|cons h t J=>rw[CF,CF,J,h.1]
def KV.repl{kvs:List<|κ×V}{vs:List<|κ×aaq}(r:KV kvs vs)(k:κ){y:V}(J:j9 y u):
 KV (kvs.y λI=>if I.1=k then(I.1,y) else I) (vs.y λI=>if I.1=k then(I.1,u) else I):=by
 induction r with
 |nil=>exact .nil
 |@cons p q g j h t U=>
  rw[AR,AR];refine .cons ?_ U;obtain⟨h1,h2⟩:=h;by_cases e:p.1=k
  .rw[AF e,AF<|h1.symm.trans e];exact{(h1),J}
  .rw[Az e,Az λz=>e<|h1.trans z];exact{(h1),h2}
def KV.put{kvs:List<|κ×V}{vs:List<|κ×aaq}(r:KV kvs vs)(k:κ){y:V}(I:j9 y u):KV (lT kvs k y) (stored vs k u):=by
 unfold lT stored;rw[r.any k];by_cases e:(vs.any λJ=>decide<|J.1=k)=true
 .rw[AF e,AF e];exact r.repl k I
 .rw[Az e,Az e];exact Paired.snoc r {(rfl),I}
theorem KV.length{kvs:List<|κ×V}{vs:List<|κ×aaq}(r:KV kvs vs):kvs.l=vs.l:=Paired.length r
end
def oq{P:aas}{w:aat}{k:jk}(r:j9 (kV k) u):(w9 P w).is k u=true:=by
 cases k with
 |inl i=>obtain⟨t,e⟩:=(show ∃t,u=Value.int i t from r);subst e;exact xN P w i t
 |inr x=>obtain⟨t,e⟩:=(show ∃t,u=Value.str x t from r);subst e;exact wI P w x t
section
variable {P:aas}{w:aat}{a:Addr}
def RL{u:HO}(ok:gB P w H h)(e:Rd H a u):vd P w H h a u:=e.ok ok
def rM{kvs:List<|jk×V}(ok:gB P w H h)(e:Rd H a<|.dK kvs):kvs.l<=sizeLine/\(a==sysModules)=false/\∃vs,KV kvs vs/\h.DictOf (w9 P w) a vs:=
 show vd P w H h a (.dK kvs) from RL ok e
def Hx{kvs:List<|jk×V}(ok:gB P w H h)(e:H a=some (.dK kvs)):kvs.l<=sizeLine/\(a==sysModules)=false/\∃vs,KV kvs vs/\h.DictOf (w9 P w) a vs:=rM ok<|.inl e
end
def u6(H:Hp)(a:Addr)(y:V)(r:aax):Prop:=
 (∃kvs k,Rd H a (.dK kvs)/\y=kV k/\r=dQ kvs k)\/False
def JD(H:Hp)(a:Addr)(y v:V)(H':Hp):Prop:=
 (∃kvs k,H a=some (.dK kvs)/\y=kV k/\kvs.l<sizeLine/\H'=upd H a (.dK<|lT kvs k v))\/False
theorem u6.k{a:Addr}{kvs:List<|jk×V}{k:jk}(e:H a=some (.dK kvs)):u6 H a (kV k) (dQ kvs k):=.inl {kvs,k,.inl e,rfl,rfl}
section
variable {a:Addr}{y:V}{r:aaq}{o:aax}
def za.big(I:'v'):sysModules<↥s:=by have h:=(I.mod.glob.keeps I.bk).lt;exact Nat.lt_trans ∅ h
def RM(T:A.units+1<cLine)(I:'v')(g:u6 H a y<|some v)(j:j9 y u)(h:∀J s',za X pins σ H s'->j9 v J->Q J s'):
 wpAny 'a' A (getItem (.ref a) u) Q E s:=by
 obtain⟨p,k,e,r,l⟩:=CI g id;subst r;obtain⟨z,hd,t,rel,C⟩:=rM I.KB e;obtain⟨J,hw,U⟩:=sE.some_of (v:=v) (o:=valueAt t k) ([l]≈rel.val k);exact wpAny_getItem_of (oq j) C.mapOf hw<|h J _ (I.tok _) U
def RN(r:A.units+1<cLine)(I:'v')(g:u6 H a y o)(J:j9 y u)(h:∀s',za X pins σ H s'->Q (.bool o.Z) s'):
 wpAny 'a' A (compareOp .In u<|.ref a) Q E s:=by
 obtain⟨U,k,e,j,l⟩:=CI g id;subst j;obtain⟨z,hd,t,rel,p⟩:=rM I.KB e;refine wpAny_in_of (oq J) hd p.mapOf ?_;rw[<-(rel.val k)._O,<-l];exact h _<|I.tok _
def RP(r:A.units+1<cLine)(I:'v')(g:u6 H a y o)(J:j9 y u)(h:∀s',za X pins σ H s'->Q (.bool<|!o.isSome) s'):
 wpAny 'a' A (compareOp .NotIn u<|.ref a) Q E s:=by
 obtain⟨U,k,e,j,l⟩:=CI g id;subst j;obtain⟨z,hd,t,rel,p⟩:=rM I.KB e;refine wpAny_notIn_of (oq J) hd p.mapOf ?_;rw[<-(rel.val k)._O,<-l];exact h _<|I.tok _
def JE{ob:HO}(I:'v')(J:FX<|H a)(hs:Heap.SameBut a s.v h')(U:∃q,h'.x a=some q)(new:vd X.i X.w (upd H a ob) h' a ob)(j:0<t':=by walk_at "t"):
 za X pins σ (upd H a ob) {s with heap:=h',toks:=t'}:=
 I.write (x:=a) (e:=a) J (.inl rfl) (λb q g z=>(hs.2 b g).t z) U new
def JF{P:aas}{w:aat}{kvs:List<|jk×V}{vs:List<|jk×aaq}(z:kvs.l<=sizeLine)(hd:(a==sysModules)=false)(rel:KV kvs vs)(dd:h'.DictOf (w9 P w) a vs):
 vd P w H' h' a (.dK kvs):={(z),hd,vs,rel,dd}
def RQ{Q:aab}(hu:A.units+1<cLine)(I:'v')(g:JD H a y v H')(j:j9 y u)(o:j9 v r)(h:∀s',za X pins σ H' s'->Q () s'):
 wpAny 'a' A (setItem (.ref a) u r) Q E s:=by
 obtain⟨J,k,e,p,l,t⟩:=CI g id;subst p t;obtain⟨z,hd,C,rel,T⟩:=Hx I.KB e;have hz:C.l<=sizeLine:=by rw[<-rel.l];exact z
 have hl:(lT J k v).l<=sizeLine:=by have:=nM J k v;lia
 refine wpAny_setItem_pairs (hsz:=hz) (oq j) T λh' U hs=>h _ ?_;have he:∃q,h'.x a=some q:=let ⟨q,_,_,hq,_⟩:=U;⟨q,hq⟩;exact JE I ([e]≈True.intro) hs he<|JF hl hd (rel.put k o) U
end
section
variable {a:Addr}{kvs:List<|jk×V}{k:jk}
def RS(I:'v')(e:Rd H a<|.dK kvs)(h:∀t s',za X pins σ H s'->Q (.int kvs.l t) s'):wpAny 'a' A (call (.builtin "len") [.ref a]) Q E s:=by obtain⟨z,hd,U,rel,J⟩:=rM I.KB e;refine call_len_dict hd J (by rw[<-rel.l];rw[sizeLine_eq] at z;lia) ?_;rw[<-rel.l];exact h _ _<|I.tok _
end
def Hy(i:Expr):Prop:=∀I J,subscripted i false I J=operate [I,J] (getItem I J)
def RT{w:aat}{slice:Expr}{pos:Pos}{T id:aav}
 (t:typeLookup (.type T) "__getitem__" = pure (some<|.builtin id)) (hs:Hy slice)
 (h:wpAny 'w' A (eval value env) (λo U=>wpAny 'w' A (eval slice env) (λi I=>I.TypeIs o T/\wpAny 'w' A (getItem o i) Q E I) E U) E s):
 wpAny 'w' A (eval (.Subscript value slice pos) env) Q E s:=by
 refine Subscript_<|A5 h (λo U j=>A5 j (λi I J=>?_) λ_ _ x=>x) λ_ _ x=>x;obtain⟨p,J⟩:=J;refine Aa ?_;rw[getitemInPython_of_ne p.not_modules];refine Aa<|wpAny_specialOf p t ?_;have jj:wpAny 'w' A (subscripted slice false o i) (λr g=>wpAny 'w' A (letTemporaryGo value o r >>= λ_=>pure r) Q E g) E I:=by rw[hs o i];exact wpAny_operating<|A5 J (λr g l=>Aa<|wpAny_letTemporaryGo<|Aq l) λ_ _ x=>x
 first
  |exact Aq<|Aa jj
  |exact Aa<|Aq<|Aa jj
  |exact Aa jj
def yQ{a:Addr}{y:V}{o:aax}(I:'v')(g:u6 H a y o):s.TypeIs (.ref a) "dict" := by obtain⟨J,k,e,_,_⟩:=CI g id;obtain⟨_,_,j,_,U⟩:=rM I.KB e;exact U.typeIs
def RU(td ty:TE):TE:=λσ H Q=>td σ H λx H1=>ty σ H1 λy H2=>∃a v,x=.ref a/\u6 H2 a y (some v)/\Q v H2
def RW(td ty tv:TE):TS:=λD σ H=>tv σ H λv H1=>td σ H1 λx H2=>ty σ H2 λy J=>∃a I,x=.ref a/\JD J a y v I/\D.nx σ I
section
variable {i:Expr}{pos tpos:Pos}{ty tv:TE}
def RX(p:X.A.units+1<cLine)(r:PE X o td)(hi:PE X i ty)(hs:Hy i):PE X (.Subscript o i pos) (RU td ty):=by intro J s j H Q I h;refine RT Ei.e hs<|bS (r J s j H _ I h) λu t x C T rx q1=>aY (hi J t j C _ T q1) λiv s2 ⟨y,H2,l,ry,a,v,ex,g,q2⟩=>?_;subst ex;obtain rfl:u=Value.ref a:=rx;exact{yQ l g,RM p l g ry λw' s3 I3 U=>{(v),H2,I3,U,q2}}
def RY(j:X.A.units+1<cLine)(l:PE X o td)(hi:PE X i ty)(p:PE X value tv)(hs:swapsWith value (some<|.Subscript o i fx) pos.line X.o=pure false):
 PS X (.Assign [.Subscript o i fx] value pos) (RW td ty tv):=by
 intro J s U H D I h;refine wpAny_Assign_Subscript (bS (p J s U H _ I h) λr t v C T rv q1=>bS (l J t U C _ T q1) λu s2 x H2 I2 rx q2=>aY (hi J s2 U H2 _ I2 q2) λiv s3 ⟨y,H3,I3,ry,a,H4,ex,g,q3⟩=>?_) hs;subst ex;obtain rfl:u=Value.ref a:=rx;exact RQ j I3 g ry rv λs4 I4=>{(U),H4,I4,q3}
end
def vP{P:aas}{w:aat}(h:aau)(I:sysModules<h.objs.q):vd P w H (h.I {cls:=.type "dict",data:=.dict #[]}) h.objs.q (.dK []):=
 ⟨A7 _,beq_eq_false_iff_ne.d<|AN<|Bi I,[],.nil,Heap.DictOf.new h⟩
def RZ:TE:=λ_ H Q=>∀p,H p=none->Q (.ref p) (upd H p<|.dK [])
section
variable {pos:Pos}
def R4:PE X (.Dict [] [] pos) RZ:=λJ s U H Q I h=>
 wpAny_Dict_empty ⟨.ref ↥s,_,I.laid (a:=↥s) (o:=.dK []) (t':=s.D) (λ_ _ q=>wh _ q) (Ap _)<|vP s.v I.big,rfl,h _<|I.KB.fresh<|Ap _⟩
end
def uq:List (TE×TE)->St->Hp->(List (V×V)->Hp->Prop)->Prop
 |[],_,H,Q=>Q [] H
 |(tk,tv)::r,σ,H,Q=>tk σ H λx H1=>tv σ H1 λy H2=>uq r σ H2 λps I=>Q ((x,y)::ps) I
abbrev VV:List (V×V)->List (aaq×aaq)->Prop:=Paired λp q=>j9 p.1 q.1/\j9 p.2 q.2
def Fx(X:Cx)(pos:Pos)(keys:List<|Option Expr)(values:aaj)(I:List<|TE×TE):Prop:=
 ∀(pins:List<|Addr×Obj) (s:aar) (σ:St) (H:Hp) (Q:List (V×V)->Hp->Prop),'v'->uq I σ H Q->
  _S X (evalPairs<|pairTrees keys values X.o pos) (λvs s'=>∃ps H',za X pins σ H' s'/\VV ps vs/\Q ps H') X.xe s
def u3{pos:Pos}:Fx X pos [] [] []:=λJ s U H Q I h=>pairTrees_nil_walk {[],H,I,.nil,h}
def bV{pos:Pos}{k v:Expr}{ks:List<|Option Expr}{vs:aaj}{tk tv:TE}{U:List<|TE×TE}(j:PE X k tk)(l:PE X v tv)(o:Fx X pos ks vs U):
 Fx X pos (some k::ks) (v::vs) ((tk,tv)::U):=λJ s g H Q I h=>
 pairTrees_cons_walk (bS (j J s g H _ I h) λu p x r t C T=>bS (l J p g r _ t T) λw2 s2 y H2 I2 ry q2=>
  aY (o J s2 g H2 _ I2 q2) λws s3 ⟨ps,H3,I3,rel,q3⟩=>{(x,y)::ps,H3,I3,.cons {(C),ry} rel,q3})
def iu(kvs more:List<|jk×V):List (jk×V):=more.foldl (λI J=>lT I J.1 J.2) kvs
def KV.merge:∀{more:List<|jk×V} {rs:List<|jk×aaq} {kvs:List<|jk×V} {vs:List<|jk×aaq},KV more rs->KV kvs vs->KV (iu kvs more) (merged vs rs):=by
 intro more rs kvs vs r
 induction r generalizing kvs vs with
 |nil=>intro q;exact q
 |@cons p q U g h t I=>
  intro J;have e:KV (lT kvs p.1 p.2) (stored vs q.1 q.2):=by have:=J.put p.1 h.2;rw[<-h.1];exact this
  exact I e
theorem i5:∀(more kvs:List<|jk×V),(iu kvs more).l<=kvs.l+more.l
 |[],kvs=>by show kvs.l<=kvs.l+0;lia
 |p::r,kvs=>by have h1:=i5 r<|lT kvs p.1 p.2;have h2:=nM kvs p.1 p.2;show(iu (lT kvs p.1 p.2) r).l<=_;rw[AK];lia
theorem o7{P:aas}{w:aat}:∀{kvs:List<|jk×V} {I:List<|aaq×aaq},VV (kvs.y λJ=>(kV J.1,J.2)) I->∃rs,Carries (w9 P w) I rs/\KV kvs rs
 |[],_,r=>by rw[DR] at r;cases r;exact{[],True.intro,.nil}
 |p::kvs,_,r=>by
  rw[AR] at r;cases r with
  |@cons a b as bs h t=>
   obtain⟨rs,c,q⟩:=o7 (P:=P) (w:=w) t;obtain⟨b1,b2⟩:=b;exact{(p.1,b2)::rs,{oq h.1,rfl,c},.cons {(rfl),h.2} q}
def R5(I:List<|TE×TE):TE:=λσ H Q=>∀p,H p=none->uq I σ (upd H p<|.dK []) λps H2=>H2 p=some (.dK [])/\∃kvs:List (jk×V),ps=kvs.y (λJ=>(kV J.1,J.2))/\kvs.l<=15/\Q (.ref p) (upd H2 p<|.dK<|iu [] kvs)
def R6{pos:Pos}{J:List<|TE×TE}(h:Fx X pos keys values J)(U:keys.all (·.Z)=true)(t:keys.l=values.l)(h0:keys≠[])
 (p:keys.l<=15):PE X (.Dict keys values pos) (R5 J):=by
 intro g s C H Q I q;have T:=I.KB.fresh<|Ap ↥s;have I1:=I.laid (a:=↥s) (o:=.dK []) (h':=s.heap.I {cls:=.type "dict",data:=.dict #[]}) (t':=s.D) (λ_ _ q=>wh _ q) (Ap _)<|vP s.v I.big;refine wpAny_Dict_walk (knd:=w9 X.i X.w) U t h0 p<|aY (h g _ C _ _ I1<|q _ T) λws s2 ⟨ps,H2,r,rel,e,j,ep,lk,q2⟩=>?_;subst ep;obtain⟨rs,c,rk⟩:=o7 (P:=X.i) (w:=X.w) rel;obtain⟨z,hd,a1,r0,dd⟩:=Hx r.KB e;cases r0;refine{rs,c,dd,λh' l hs=>{.ref ↥s,_,?_,rfl,q2}};have hz:(iu [] j).l<=sizeLine:=by have h1:=i5 j [];rw[List.length_nil] at h1;rw[sizeLine_eq];lia
 have he:∃q,h'.x ↥s=some q:=let ⟨q,_,_,hq,_⟩:=l;⟨q,hq⟩;exact JE r ([e]≈True.intro) hs he<|JF hz hd (rk.merge .nil) l
section
variable {a:Addr}{y d:V}{r:aaq}{o:aax}
end
section
variable {f:Expr}{ty tx:TE}
end
section
variable {a:Addr}{kvs:List<|jk×V}
end
section
variable {a:Addr}{y:V}
end
section
section
open PySem.SeqAt
open PySem.AutoSeq1 (wpAny_loadPart')
section
open PySem.MeetsSeq PySem.MeetsSeq2 PySem.MeetsSeq3
end
section
variable {w:aat}
def cat_tup{t b:Addr}{vs I:aaf}(ht:IsTup s.v t vs.m)(hb:IsTup s.v b I.m)(p:vs≠[])
 (h1:I=[]->Q (.ref t) s) (h2:I≠[]->Q (.ref ↥s) {s with heap:=s.heap.I {cls:=.type "tuple",data:=.seq (vs++I).m}})
 (hsz:vs.l+I.l<=sizeLine):wpAny 'w' A (binaryOp .Add (.ref t)<|.ref b) Q E s:=by
 obtain⟨⟨cls,r,data,C⟩,o,T,n,hd⟩:=id ht;obtain⟨⟨a1,U,data2,g⟩,J,j,n2,l⟩:=id hb;simp only at T hd j l;subst T hd j l;have e:vs.m++I.m=(vs++I).m:='r'
 by_cases hw:I=[]
 .exact concat_meets {_,o,rfl} {_,J,rfl} noFill_tuple_add seq_tuple_add Ey Er (Eo _ _)
   (tuple_addW1 t b vs.m I.m n n2 r U C g (~~~p) (by simp[hw])) ⟨o,J,h1 hw⟩
 .refine concat_meets {_,o,rfl} {_,J,rfl} noFill_tuple_add seq_tuple_add Ey Er (Eo _ _)
   (tuple_addW2 t b vs.m I.m n n2 r U C g (~~~p) (~~~hw) ([Av,Av]≈hsz)) ⟨o,J,?_⟩
  rw[e];exact h2 hw
def Os(n d:Nat):aan->Nat
 |none=>d
 |some v=>if v<0 then(v+(n:Int)).B else min v.B n
def sIx_none(n d:Nat):Os n d none=d:=rfl
def _P(n d k:Nat):Os n d (some (k:Int))=min k n:=by show(if (k:Int)<0 then((k:Int)+(n:Int)).B else min (k:Int).B n)=min k n;rw[Az 's',Bx]
def sIx_le(n d:Nat)(hd:d<=n)(o:aan):Os n d o<=n:=by
 cases o with
 |none=>exact hd
 |some v=>
  show(if v<0 then(v+(n:Int)).B else min v.B n)<=n;by_cases I:v<0
  .rw[AF I];lia
  .rw[Az I];exact Nat.min_le_right _ _
def JG(v:Int)(n d:Nat):(if v<0 then max (v+(n:Int)) 0 else min v (n:Int))=(Os n d (some v))⁻¹:=by
 show(if v<0 then max (v+(n:Int)) 0 else min v (n:Int))=((if v<0 then(v+(n:Int)).B else min v.B n))⁻¹;by_cases I:v<0
 .simp only[AF I];lia
 .simp only[Az I];lia
def yi(lo hi:aan)(n:Nat):Builtin.Slice.sliceAdjust lo hi 1 (n:Int)=((Os n 0 lo)⁻¹,(Os n n hi:Int)):=by
 have h1:¬((1:Int)<0):='s'
 unfold Builtin.Slice.sliceAdjust;simp only[h1,if_false];refine Prod.ext ?_ ?_
 .cases lo with|none=>rfl|some v=>exact JG v n 0
 .cases hi with|none=>rfl|some v=>exact JG v n n
def zW(i j:Nat):Builtin.Slice.slicePlaces (i:Int) (j:Int) 1=j-i:=by
 unfold Builtin.Slice.slicePlaces;have h1:(1:Int) > 0:='s'
 simp only[h1,if_true,Int.ediv_one];split<;>lia
def rN{v:aaq}{o:aan}{Q:aan->aar->Prop}(p:IsPart v o)(h:Q o s):wpAny 'w' A (Builtin.Slice.slicePartIndex v) Q E s:=by cases p with|none=>exact slicePart_none h|int i t=>exact slicePart_int h
def l9{j:Addr}{U g:aaq}{lo hi:aan}{Q:Int×Int×Nat->aar->Prop}(hs:s.heap.IsSliceOf j U g .none)(pl:IsPart U lo)(pu:IsPart g hi)
 (h:Q ((Os n 0 lo)⁻¹,1,Os n n hi-Os n 0 lo) s):wpAny 'w' A (Builtin.Slice.sliceApplied (.ref j)<|pure (n:Int)) Q E s:=by
 obtain⟨os,I,l,J⟩:=id hs;refine Aa<|Aa<|Bl I J (x:=U) rfl<|Aa<|Bl I J (x:=g) rfl<|Aa<|Bl I J (x:=.none) rfl<|Aq ?_;refine Aa<|slicePart_none ?_;rw[Az ∅];refine Aa<|rN pl<|Aa<|rN pu<|Aa<|Aq ?_;show wpAny _ _ (match Builtin.Slice.sliceAdjust lo hi 1 (n:Int) with|(lo,hi)=>pure (lo,(1:Int),Builtin.Slice.slicePlaces lo hi 1)) _ _ s;rw[yi lo hi n];show wpAny _ _ (pure ((Os n 0 lo)⁻¹,(1:Int),Builtin.Slice.slicePlaces (Os n 0 lo)⁻¹ (Os n n hi:Int) 1)) _ _ s;rw[zW];exact Aq h
def R7(xs:aag)(i k:Nat):((List.range k).filterMap λ(m:Nat)=>xs[((i:Int)+(m:Int)*1).B]?).m=((xs.toList.G i).u k).m:=by
 have e:(λ(m:Nat)=>xs[((i:Int)+(m:Int)*1).B]?)=λm=>xs[i+m]?:=by
  funext m;have:((i:Int)+(m:Int)*1).B=i+m:='s'
  rw[this]
 rw[e];have:=pick_run xs i k;rw[List.filterMap_map] at this;have I:((λx=>xs[x]?)∘λx=>i+x)=λm=>xs[i+m]?:=rfl;rw[I] at this;rw[this]
def _w{t U:Addr}{items:aag}{p r:aaq}{lo hi:aan}(J:IsTup s.v t items)(hs:s.heap.IsSliceOf U p r .none)(pl:IsPart p lo)(pu:IsPart r hi)
 (hw:¬(Os items.q 0 lo=0/\Os items.q items.q hi=items.q))
 (h:Q (.ref ↥s) {s with heap:=s.heap.I {cls:=.type "tuple",data:=.seq ((items.toList.G<|Os items.q 0 lo).u<|Os items.q items.q hi-Os items.q 0 lo).m}})
 (hsz:items.q<=sizeLine):wpAny 'w' A (getItem (.ref t)<|.ref U) Q E s:=by
 have I:sizeOk (.seq ((items.toList.G<|Os items.q 0 lo).u<|Os items.q items.q hi-Os items.q 0 lo).m):=by show((items.toList.G<|Os items.q 0 lo).u<|Os items.q items.q hi-Os items.q 0 lo).toArray.size<=sizeLine;rw[Av,A2,BQ,Ba];lia
 obtain⟨os,g,j,C⟩:=id hs;have l:s.TypeIs (.ref U) "slice" := {(os),g,j};unfold getItem
 try with_reducible refine BA ?_
 first|refine Aa (Aq ?_)|skip
 refine Aa<|wpAny_sequenceKey J.typeIs ∅ ?_;refine Aa (wpAny_callSpecial?_slot (name:=Str.ofString "__getitem__") J.typeIs CH
  (wpAny_call_entry CH J.typeIs entry_tuple_getitem ?_<|args_tuple_getitem _ _))
 show wpAny _ _ (Builtin.Tuple.tupleItemsOf (.ref t) >>= _) _ _ s;refine Aa<|tupleItemsOf_ J ?_;refine Aa<|wpAny_typeOf l ?_;rw[AF ∅];refine Aa<|l9 hs pl pu ?_;have o:¬(((Os items.q 0 lo)⁻¹==0&&(1:Int)==1&&(Os items.q items.q hi-Os items.q 0 lo)==items.q)=true):=by intro q;rw[AS,AS] at q;exact hw {'s','s'}
 show wpAny _ _ (if ((Os items.q 0 lo)⁻¹==0&&(1:Int)==1&&(Os items.q items.q hi-Os items.q 0 lo)==items.q)=true then _ else _) _ _ s;rw[Az o,R7]
 first
  |exact Aa (m:=Builtin.Tuple.tupleExact _)<|BE (Aq {_,rfl,Aq h}) I
  |exact Aa (m:=Builtin.Tuple.tupleExact _)<|BE (Aa<|Aq<|Aq {_,rfl,Aq h}) I
  |exact Aa<|Aa (m:=Builtin.Tuple.tupleExact _)<|BE (Aq<|Aq {_,rfl,Aq h}) I
  |exact Aa<|Aa (m:=Builtin.Tuple.tupleExact _)<|BE (Aq {_,rfl,Aq h}) I
end
end
end
abbrev TO:=St->Hp->(aan->Hp->Prop)->Prop
def PO(X:Cx)(e:Option Expr)(t:TO):Prop:=
 ∀(pins:List<|Addr×Obj) (s:aar) (σ:St) (H:Hp) (Q:aan->Hp->Prop),'v'->t σ H Q->
  _S X (evalPart e X.o) (λu s'=>∃o H',za X pins σ H' s'/\IsPart u o/\Q o H') X.xe s
def R8:TO:=λ_ H Q=>Q none H
def R9(t:TE):TO:=λσ H Q=>t σ H λx H1=>∃i,x=.int i/\Q (some i) H1
section
variable {te:TE}{lo hi:Option Expr}{tl th:TO}{pos:Pos}
def Sa:PO X none R8:=by intro J s U H Q I h;rw[evalPart_none];exact Aq {none,H,I,.none,h}
def Sb(h:PE X e te):PO X (some e) (R9 te):=by intro J s U H Q I hw;rw[evalPart_some];refine bS (h J s U H _ I hw) λu p x g j l o=>?_;obtain⟨i,rfl,q⟩:=o;obtain⟨t,rfl⟩:=l;exact{some i,g,j,.int i t,q}
def uw(X:Cx)(r:V->aan->aan->Hp->VK->Prop):Prop:=
 ∀(pins:List<|Addr×Obj) (s:aar) (σ:St) (H:Hp) (x:V) (v I J:aaq) (lo hi:aan) (U:Addr) (Q:VK),'v'->j9 x v->s.heap.IsSliceOf U I J .none->IsPart I lo->IsPart J hi->r x lo hi H Q->
  ∃T id,typeLookup (.type T) "__getitem__" = pure (some<|.builtin id)/\s.TypeIs v T/\_S X (getItem v<|.ref U) 'd' X.xe s
def uw.or{U:V->aan->aan->Hp->VK->Prop}(h:uw X r)(h':uw X U):uw X (λx lo hi H Q=>r x lo hi H Q\/U x lo hi H Q):=by
 intro J s g H x v j l lo hi o Q I p t pl pu q;obtain q|q:=q
 .exact h J s g H x v j l lo hi o Q I p t pl pu q
 .exact h' J s g H x v j l lo hi o Q I p t pl pu q
def Sc(r:V->aan->aan->Hp->VK->Prop)(te:TE)(tl th:TO):TE:=λσ H Q=>te σ H λx H1=>tl σ H1 λl H2=>th σ H2 λu I=>r x l u I Q
def Sd(t:uw X r)(C:PE X e te)(hl:PO X lo tl)(hu:PO X hi th):PE X (.Subscript e (.Slice lo hi none p2) pos) (Sc r te tl th):=by intro J s g H Q I h;refine Subscript_<|aY (C J s g H _ I h) λv s1 ⟨x,H1,I1,r1,q1⟩=>?_;refine wpAny_Slice<|aY (hl J s1 g H1 _ I1 q1) λj s2 ⟨l,H2,I2,pl,q2⟩=>aY (hu J s2 g H2 _ I2 q2) λo U ⟨u,p,I3,pu,q3⟩=>?_;rw[evalPart_none];refine Aq ?_;have I4:za X J g p {U with heap:=U.heap.I {cls:=.type "slice",data:=.fields #[j,o,.none]}}:=I3.kept (t':=U.D) λb ob q=>wh _ q;obtain⟨T,id,hT,ht,hg⟩:=t J {U with heap:=U.heap.I {cls:=.type "slice",data:=.fields #[j,o,.none]}} g p x v j o l u ↥U Q I4 r1 (Heap.IsSliceOf.new ..) pl pu q3;exact tail_any (ops:=[.ref ↥U,v]) ht hT hg 'k'
def yA(xs:HT)(lo hi:aan):HT:=(xs.G<|Os xs.l 0 lo).u<|Os xs.l xs.l hi-Os xs.l 0 lo
def nN(xs:HT)(lo hi:aan):(yA xs lo hi).l<=xs.l:=by unfold yA;rw[A2,BQ];lia
def Se(K:Aj):V->aan->aan->Hp->VK->Prop:=λx lo hi H Q=>∃a xs,x=.ref a/\dR K H a xs/\
 ¬(Os xs.l 0 lo=0/\Os xs.l xs.l hi=xs.l)/\∀p,H p=none->Q (.ref p) (upd H p<|.tup<|yA xs lo hi)
def Sf:uw X (Se X.K):=by
 rintro l s σ H x v vl vu lo g sl Q I C T pl pu⟨a,U,rfl,hx,hw,q⟩;cases C;obtain⟨j,r,p,t⟩:=I.tuple hx;have J:j.toArray.q=U.l:=by rw[Av];exact r.length.L
 refine{"tuple",_,CH.e,p.typeIs,?_};refine _w p T pl pu ([J]≈hw) ?_ ([J]≈t);rw[J];refine{.ref ↥s,_,I.laid (t':=s.D) (o:=.tup<|yA U lo g) (λb ob q=>wh _ q) (Ap _) ?_,rfl,q _<|I.KB.fresh<|Ap _};exact{AQ (nN U lo g) t,_,(r.G<|Os U.l 0 lo).u<|Os U.l U.l g-Os U.l 0 lo,IsTup.new _ _}
def Sg(K:Aj):R2:=λx y H Q=>∃a b xs ys,x=.ref a/\y=.ref b/\dR K H a xs/\dR K H b ys/\xs≠[]/\xs.l+ys.l<=sizeLine/\
 (ys=[]->Q (.ref a) H)/\(ys≠[]->∀p,H p=none->Q (.ref p) (upd H p<|.tup<|xs++ys))
def zw.nil_iff(r:zw xs us):us=[]↔xs=[]:=by cases r with|nil=>simp|cons _ _=>simp
def Sh:kz X (binaryOp .Add) (Sg X.K):=by rintro g s σ H x y v u Q I p r⟨a,b,t,C,rfl,rfl,T,hb,hx,j,q1,q2⟩;cases p;cases r;obtain⟨a1,U,p1,_⟩:=I.tuple T;obtain⟨l,J,p2,_⟩:=I.tuple hb;refine cat_tup p1 p2 (λz=>hx<|U.nil_iff.mp z) (λz=>{.ref a,H,I,rfl,q1<|J.nil_iff.mp z}) (λz=>?_) (by rw[<-U.l,<-J.l];exact j);refine{.ref ↥s,_,I.laid (t':=s.D) (o:=.tup<|t++C) (λb ob q=>wh _ q) (Ap _) ?_,rfl,q2 (λw=>z<|J.nil_iff.mpr w) _<|I.KB.fresh<|Ap _};exact{by rw[Ab];exact j,_,U.append J,IsTup.new _ _}
end
def vB(n:Nat)(i:Int):Option Nat:=if 0<=i then(if i<n then some i.B else none) else if -(n:Int)<=i then some (i+n).B else none
def bw(xs:List α)(i:Int):Option α:=(vB xs.l i).bind λj=>xs[j]?
def JH{i:Int}(h:vB n i=some j):seqIndex? i n=some j/\j<n /\ -(n:Int)<=i/\i<n:=by
 unfold vB at h;by_cases h0:0<=i
 .rw[AF h0] at h;by_cases h1:i<n
  .rw[AF h1] at h;have e:=AV h;exact{by rw[seqIndex_of h0 h1,e],'s','s',h1}
  .rw[Az h1] at h;cases h
 .rw[Az h0] at h;by_cases h1 : -(n:Int)<=i
  .rw[AF h1] at h;have e:=AV h;exact{by rw[seqIndex_neg 's' h1,e],'s',h1,'s'}
  .rw[Az h1] at h;cases h
def ui{xs:List α}{i:Int}{v:α}(h:bw xs i=some v):∃j,seqIndex? i xs.l=some j/\xs[j]?=some v/\j<xs.l /\ -(xs.l:Int)<=i/\i<xs.l:=by
 unfold bw at h;cases e:vB xs.l i with
 |none=>rw[e] at h;cases h
 |some j=>
  rw[e] at h;obtain⟨h1,h2,h3,I⟩:=JH e;exact{(j),h1,h,h2,h3,I}
def jh{xs:List α}{v:α}(h:xs[j]?=some v):bw xs (j:Int)=some v:=by
 have I:=(A3.j h).1;have e:vB xs.l (j:Int)=some j:=by unfold vB;rw[AF 's',AF 's'];simp
 unfold bw;rw[e];exact h
def iL(b:Expr):Prop:=∀o i,subscripted b false o i=operate [o,i] (getItem o i)
def IxR(X:Cx)(r:R2):Prop:=
 ∀(value slice:Expr) (pins:List<|Addr×Obj) (s:aar) (σ:St) (H:Hp) (x y:V) (v u:aaq) (Q:VK),'v'->j9 x v->j9 y u->r x y H Q->
  subscripted slice false v u=operate [v,u] (getItem v u)->_S X (subscriptTail value slice v u) 'd' X.xe s
def JI(X:Cx)(id:aav)(r:V->HT->Hp->VK->Prop):Prop:=
 ∀(pins:List<|Addr×Obj) (s:aar) (σ:St) (H:Hp) (x:V) (xs:HT) (v:aaq) (us:aaf) (Q:VK),'v'->j9 x v->zw xs us->r x xs H Q->
  _S X (call (.builtin id)<|v::us) 'd' X.xe s
section
variable {a b:Expr}{ta tb:TE}{pos:Pos}
def Gy{r:R2}(U:IxR X r)(g:PE X a ta)(j:PE X b tb)(hs:iL b):PE X (.Subscript a b pos) (FZ r ta tb):=by intro J s l H Q I h;exact Subscript_<|Hr g j I h λv u o x y p t C T q=>U a b J o l p x y v u Q t C T q<|hs _ _
def Si(K:Aj):R2:=λx y H Q=>∃p xs i v,x=.ref p/\y=.int i/\bQ K H p xs/\bw xs i=some v/\Q v H
def Sj(K:Aj):R2:=λx y H Q=>∃p xs i v,x=.ref p/\y=.int i/\dR K H p xs/\bw xs i=some v/\Q v H
def Sk:R2:=λx y H Q=>∃z i c,x=.str z/\y=.int i/\z.l<=sizeLine/\bw z.cps.z i=some c/\Q (.str ⟨#[c]⟩) H
def Sl:IxR X (Si X.K):=by
 intro value slice J s o H x y v u Q I rx ry h C;obtain⟨p,xs,i,z,rfl,rfl,hq,he,q⟩:=h;cases rx;obtain⟨t,rfl⟩:=ry;obtain⟨U,r,pl,hz⟩:=I.list hq;obtain⟨j,h1,h2,h3,h4,h5⟩:=ui he;obtain⟨w,T,g⟩:=r.get h2;have hl:=r.l;have hn:=lS;have jj:EP X J o Q w s:={(z),H,I,g,q};by_cases h0:0<=i
 .have l:i.B=j:=by rw[seqIndex_of h0 h5] at h1;exact AV h1
  exact item_listR pl.isList h0 's' (by rw[l];simpa using T) jj C
 .have l:(i+(U.toArray.q:Int)).B=j:=by rw[seqIndex_neg 's' h4] at h1;rw[Av,<-hl];exact AV h1
  exact subscriptTail_builtinR (x:=w) pl.isList.typeIs slot_list_getitem.e
   (wpAny_getItem_list_neg (Q:=λr s'=>r=w/\EP X J o Q r s') pl.isList 's' (by rw[Av]<;>lia) 's' (by rw[l];simpa using T) ⟨rfl,jj⟩) C
def Sm:IxR X (Sj X.K):=by
 intro value slice J s g H x y v u Q I l o h C;obtain⟨p,xs,i,z,rfl,rfl,T,he,q⟩:=h;cases l;obtain⟨t,rfl⟩:=o;obtain⟨a1,r,pl,hz⟩:=I.tuple T;obtain⟨j,h1,h2,h3,h4,h5⟩:=ui he;obtain⟨w,ew,U⟩:=r.get h2;have hl:=r.l;have hn:=lS;have jj:EP X J g Q w s:={(z),H,I,U,q};exact subscriptTail_builtinR (x:=w) pl.typeIs slot_tuple_getitem.e
  (getItem_tuple (j:=j) (Q:=λr s'=>r=w/\EP X J g Q r s') pl 's' 's' (by rw[Av,<-hl];exact h1) (~~~ew) ⟨rfl,jj⟩) C
def Sn:IxR X Sk:=by
 intro value slice J s σ H x y v u Q I U g h l;obtain⟨z,i,c,rfl,rfl,hz,o,q⟩:=h;obtain⟨t,rfl⟩:=U;obtain⟨t',rfl⟩:=g;obtain⟨j,h1,h2,h3,p,r⟩:=ui o;have C:z.cps.toList.l=z.l:=by simp[Str.length]
 rw[C] at h1 p r;have hn:=lS;exact tail_any (typeIs_str s z t) slot_str_getitem.e (getItem_str (c:=c) (by have T:decide (i < -(2 ^ 63:Int))=false:=Ay 's';have e2:decide (i>=2 ^ 63)=false:=Ay 's';rw[T,e2,Bool.or_false]) (by rw[h1];simpa using h2) {.str {#[c]},H,I.tok _,{_,rfl},q}) l
def zE(eH:aaf)(n j:Nat)(u:aaq):Obj.mapSeq (·.setIfInBounds j u) {cls:=.type "list",data:=.seq eH.m n}={cls:=.type "list",data:=.seq (eH.O j u).m n}:=by simp[Obj.mapSeq]
def za.lst{p:Addr}(I:'v')(h:H p=⇑xs):
 ∃(eH:aaf) (n:Nat),zw xs eH/\s.heap.x p=some {cls:=.type "list",data:=.seq eH.m n}/\xs.l<=sizeLine:=by
 obtain⟨z,eH,n,r,e⟩:=I.KB p _ h;exact{(eH),n,r,e,z}
def za.lstUpd{p:Addr}{ys:HT}{its':aaf}{n':Nat}{f:Obj->Obj}(I:'v')(h:H p=⇑xs)
 (U:s.heap.x p=some {cls:=.type "list",data:=.seq eH.m n}) (J:f {cls:=.type "list",data:=.seq eH.m n}={cls:=.type "list",data:=.seq its'.m n'}) (r:zw ys its') (hz:ys.l<=sizeLine) (t:Nat) (j:0<t:=by walk_at "t"):
 za X pins σ (upd H p<|.lst ys) {s with heap:=s.heap.update p f,toks:=t}:=by
 have e:(s.heap.update p f).x p=some {cls:=.type "list",data:=.seq its'.m n'}:=by rw[Fg f U (by rw[J]<;>rfl),J]
 refine I.write (x:=p) (e:=p) (by rw[h];trivial) (.inl rfl) (λb u g q=>(Heap.get?_update_other _ _<|AN g).t q) {_,e} ?_;exact{(hz),its',n',r,e}
def So:V->V->V->Hp->(Hp->Prop)->Prop:=λo i v H Q=>∃p xs k j,o=.ref p/\i=.int k/\H p=⇑xs/\vB xs.l k=some j/\Q (upd H p<|.lst<|xs.set j v)
def Sr:Jo X So:=by
 rintro J s σ H o i v ov iv u Q I ro ri rv⟨p,xs,k,j,rfl,rfl,T,hj,q⟩;cases ro;obtain⟨t,rfl⟩:=ri;obtain⟨U,n,r,g,hz⟩:=I.lst T;obtain⟨h1,h2,h3,h4⟩:=JH hj;have l:=r.l;have hn:=lS;have I':za X J σ (upd H p<|.lst<|xs.set j v) {s with heap:=s.heap.update p (Obj.mapSeq (·.setIfInBounds j u))}:=
  I.lstUpd T g (zE U n j u) (r.O rv j) ([Bq]≈hz) s.D
 by_cases h0:0<=k
 .have C:k.B=j:=by rw[seqIndex_of h0 h4] at h1;exact AV h1
  exact PySem.W.ki_setAt g h0 's' (by rw[Av,<-l];exact h4) ([C]≈{_,I',q})
 .have C:(k+(U.toArray.q:Int)).B=j:=by rw[seqIndex_neg 's' h3] at h1;rw[Av,<-l];exact AV h1
  exact PySem.W.ki_setBack g 's' (by rw[Av,<-l];exact h3) 's' ([C]≈{_,I',q})
def uj(lo hi:aan)(n:Nat):(sliceBounds lo hi none n).1=(Os n 0 lo)⁻¹/\(sliceBounds lo hi none n).2.1=(Os n n hi)⁻¹/\(sliceBounds lo hi none n).2.2=1:=by
 refine{?_,?_,rfl}
 .cases lo with
  |none=>simp[sliceBounds,Os]
  |some i=>
   simp only[sliceBounds,Os,Option.getD_none,show(1:Int) > 0 by decide,if_true];by_cases h:i<0
   .simp only[h,if_true]<;>lia
   .simp only[h,if_false]<;>lia
 .cases hi with
  |none=>simp[sliceBounds,Os]
  |some i=>
   simp only[sliceBounds,Os,Option.getD_none,show(1:Int) > 0 by decide,if_true];by_cases h:i<0
   .simp only[h,if_true]<;>lia
   .simp only[h,if_false]<;>lia
def rj(eH:aaf)(lo hi:aan):slicePick eH.m lo hi none=((eH.G<|Os eH.l 0 lo).u<|Os eH.l eH.l hi-Os eH.l 0 lo).m:=by obtain⟨h1,h2,h3⟩:=uj lo hi eH.toArray.q;unfold slicePick;rw[h1,h2,h3];simp only[sliceRange_one,pick_run,Av]<;>rfl
def Ss(K:Aj):V->aan->aan->Hp->VK->Prop:=λx lo hi H Q=>∃a xs,x=.ref a/\bQ K H a xs/\∀p,H p=none->Q (.ref p) (upd H p<|.lst<|yA xs lo hi)
def Su:uw X (Ss X.K):=by rintro j s σ H x v vl vu lo g sl Q I p t pl pu⟨a,J,rfl,C,q⟩;cases p;obtain⟨T,r,l,hz⟩:=I.list C;have U:=r.l;refine{"list",_,slot_list_getitem.e,l.isList.typeIs,?_};refine wpAny_getItem_list_slice l.isList t pl pu .none 'r' ?_ (by rw[Av]<;>lia);rw[rj,<-U];refine{.ref ↥s,_,I.laid (t':=s.D) (o:=.lst<|yA J lo g) (λb ob q=>wh _ q) (Ap _) ?_,rfl,q _<|I.KB.fresh<|Ap _};exact{AQ (nN J lo g) hz,_,0,(r.G<|Os J.l 0 lo).u<|Os J.l J.l g-Os J.l 0 lo,ya _ rfl}
def cA:V->Bool
 |.GM=>true
 |.bl _=>true
 |.int _=>true
 |.str _=>true
 |_=>false
def iz:V->V->Bool
 |.GM,.GM=>true
 |.bl a,.bl b=>a==b
 |.bl a,.int b=>(if a then 1 else 0)==b
 |.int a,.bl b=>a==(if b then 1 else 0)
 |.int a,.int b=>a==b
 |.str a,.str b=>a==b
 |_,_=>false
def qF{y x:V}{v:aaq}(U:j9 y u)(I:j9 x v)(j:cA y=true)(g:cA x=true):SeqAt.EqAt A s u v (iz y x):=by
 cases y with
 |GM=>
  cases U;cases x with
  |GM=>cases I;exact SeqAt.EqAt.same _
  |bl b=>cases I;exact SeqAt.EqAt.none_bool b
  |int b=>obtain⟨t,rfl⟩:=I;exact SeqAt.EqAt.none_int b t
  |str b=>obtain⟨t,rfl⟩:=I;exact SeqAt.EqAt.none_str b t
  |_=>exact absurd (show false=true from g) AI
 |bl a=>
  cases U;cases x with
  |GM=>cases I;exact SeqAt.EqAt.bool_none a
  |bl b=>cases I;exact SeqAt.EqAt.bool_bool a b
  |int b=>obtain⟨t,rfl⟩:=I;exact SeqAt.EqAt.bool_int a b t
  |str b=>obtain⟨t,rfl⟩:=I;exact SeqAt.EqAt.bool_str a b t
  |_=>exact absurd (show false=true from g) AI
 |int a=>
  obtain⟨J,rfl⟩:=U;cases x with
  |GM=>cases I;exact SeqAt.EqAt.int_none a J
  |bl b=>cases I;exact SeqAt.EqAt.int_bool a J b
  |int b=>obtain⟨t,rfl⟩:=I;exact SeqAt.EqAt.int_int a J b t
  |str b=>obtain⟨t,rfl⟩:=I;exact SeqAt.EqAt.int_str a J b t
  |_=>exact absurd (show false=true from g) AI
 |str a=>
  obtain⟨J,rfl⟩:=U;cases x with
  |GM=>cases I;exact SeqAt.EqAt.str_none a J
  |bl b=>cases I;exact SeqAt.EqAt.str_bool a J b
  |int b=>obtain⟨t,rfl⟩:=I;exact SeqAt.EqAt.str_int a J b t
  |str b=>obtain⟨t,rfl⟩:=I;exact SeqAt.EqAt.str_str a J b t
  |_=>exact absurd (show false=true from g) AI
 |_=>exact absurd (show false=true from j) AI
def ye(x:V)(u:aaq):Bool:=match u with
 |.none=>iz .GM x
 |.bool b=>iz (.bl b) x
 |.int i _=>iz (.int i) x
 |.str z _=>iz (.str z) x
 |_=>false
def JJ{x y:V}(r:j9 y u)(f:cA y=true):ye x u=iz y x:=by
 cases y with
 |GM=>cases r;rfl
 |bl b=>cases r;rfl
 |int i=>obtain⟨t,rfl⟩:=r;rfl
 |str z=>obtain⟨t,rfl⟩:=r;rfl
 |_=>exact absurd (show false=true from f) AI
theorem kB{x:V}:∀{xs:HT} {us:aaf},zw xs us->xs.all cA=true->us.any (ye x)=xs.any λy=>iz y x
 |_,_,.nil,_=>rfl
 |y::xs,u::us,.cons r t,f=>by rw[Df,AS] at f;rw[CF,CF,JJ r f.1,kB t f.2]
def jO{x:V}{v:aaq}(J:j9 x v)(U:cA x=true):∀{xs:HT} {us:aaf},zw xs us->xs.all cA=true->∀u∈us,SeqAt.EqAt A s u v (ye x u):=by
 intro xs us h
 induction h with
 |nil=>intro _ u I;cases I
 |cons r t g=>
  intro f j I;rw[Df,AS] at f;obtain rfl|I:=Ao.j I
  .rw[JJ r f.1];exact qF r J f.1 U
  .exact g f.2 j I
def rW(x:V)(xs:HT):Bool:=xs.any λy=>iz y x
def Hz(K:Aj)(neg:Bool):R2:=λx y H Q=>∃p xs,y=.ref p/\(bQ K H p xs\/dR K H p xs)/\cA x=true/\xs.all cA=true/\Q (.bl<|if neg then !rW x xs else rW x xs) H
def Sv:kz X (compareOp .In) (Hz X.K false):=by
 rintro g s C H x y v u Q I j o⟨p,T,rfl,U,l,fs,q⟩;cases o;obtain U|U:=U
 .obtain⟨J,r,pl,t⟩:=I.list U;refine SeqAt.in_listAt (ye x) pl.isList (λw hw=>jO j l r fs w (~~~hw)) {.bl _,H,I,rfl,?_};rw[show J.toArray.any (ye x)=J.any (ye x) by simp,kB r fs];exact q
 .obtain⟨J,r,pl,t⟩:=I.tuple U;refine SeqAt.in_tupleAt (ye x) pl (λw hw=>jO j l r fs w (~~~hw)) {.bl _,H,I,rfl,?_};rw[show J.toArray.any (ye x)=J.any (ye x) by simp,kB r fs];exact q
def uS:kz X (compareOp .NotIn) (Hz X.K true):=by
 rintro g s C H x y v u Q I j o⟨p,T,rfl,U,l,fs,q⟩;cases o;obtain U|U:=U
 .obtain⟨J,r,pl,t⟩:=I.list U;refine SeqAt.notIn_listAt (ye x) pl.isList (λw hw=>jO j l r fs w (~~~hw)) {.bl _,H,I,rfl,?_};rw[show J.toArray.any (ye x)=J.any (ye x) by simp,kB r fs];exact q
 .obtain⟨J,r,pl,t⟩:=I.tuple U;refine SeqAt.notIn_tupleAt (ye x) pl (λw hw=>jO j l r fs w (~~~hw)) {.bl _,H,I,rfl,?_};rw[show J.toArray.any (ye x)=J.any (ye x) by simp,kB r fs];exact q
def uY:jt X (.builtin "len") (λxs H Q=>∃p ys,xs=[.ref p]/\(bQ X.K H p ys\/dR X.K H p ys)/\Q (.int ys.l) H):=by
 rintro l s C H xs T Q I r⟨p,ys,rfl,U,q⟩;obtain⟨u,rfl,o⟩:=jJ r;cases o;have hn:=lS;obtain U|U:=U
 .obtain⟨g,j,pl,t⟩:=I.list U;have J:=j.l;exact Calls.call_len_list pl.isList (by simp only[Av]<;>lia) {.int ys.l,H,I.tok _,{s.D+1,by rw[Av,J]},q}
 .obtain⟨g,j,pl,t⟩:=I.tuple U;have J:=j.l;exact len_tuple pl (by simp only[Av]<;>lia) {.int ys.l,H,I.tok _,{s.D+1,by rw[Av,J]},q}
def uQ:jt X (.builtin "len") (λxs H Q=>∃z,xs=[.str z]/\z.l<=sizeLine/\Q (.int z.l) H):=by rintro J s U H xs g Q I r⟨z,rfl,j,q⟩;obtain⟨u,rfl,t,rfl⟩:=jJ r;have l:=lS;exact len_str 's' {.int z.l,H,I.tok _,{_,rfl},q}
def uZ:jt X (.type "list") (λxs H Q=>∃p ys,xs=[.ref p]/\(bQ X.K H p ys\/dR X.K H p ys)/\∀l,H l=none->Q (.ref l) (upd H l<|.lst ys)):=by
 rintro t s σ H xs us Q I r⟨p,ys,rfl,C,q⟩;obtain⟨u,rfl,rx⟩:=jJ r;cases rx;have jj:∀(J:aaf),zw ys J->ys.length<=sizeLine->∀(U:aau) (g:Nat),(∀b o',s.heap.x b=some o'->U.get? b=some o')->
  U.x ↥s=some {cls:=.type "list",dict:=none,data:=.seq J.m g,slots:=#[]}->EP X t σ Q (.ref ↥s) {s with heap:=U}:=λJ j T U g kp e=>
  ⟨.ref ↥s,_,I.laid (t':=s.D) kp (Ap _)<|show vd X.i X.w _ U _ (.lst ys) from{(T),J,g,j,e},rfl,q _<|I.KB.fresh<|Ap _⟩
 obtain C|C:=C
 .obtain⟨J,j,pl,T⟩:=I.list C;have a1:=j.l;obtain⟨o,ho,hc,n,hd⟩:=pl.isList;exact call_list_seq p (.inl rfl) ho hc hd (λU g kp e=>jj J j T U g kp e) (by simp only[Av]<;>lia)
 .obtain⟨J,j,pl,T⟩:=I.tuple C;have a1:=j.l;obtain⟨o,ho,hc,n,hd⟩:=pl;exact call_list_seq p (.inr rfl) ho hc hd (λU g kp e=>jj J j T U g kp e) (by simp only[Av]<;>lia)
def r9:jt X (.type "tuple") (λxs H Q=>∃p ys,xs=[.ref p]/\((bQ X.K H p ys/\∀l,H l=none->Q (.ref l) (upd H l<|.tup ys))\/(dR X.K H p ys/\Q (.ref p) H))):=by
 rintro U s σ H xs us Q I r⟨p,ys,rfl,h⟩;obtain⟨u,rfl,rx⟩:=jJ r;cases rx;rcases h with⟨g,q⟩|⟨g,q⟩
 .obtain⟨J,j,pl,C⟩:=I.list g;have T:=j.l;refine call_tuple_list pl.isList (λt kp=>?_) (by simp only[Av]<;>lia);have I1:=I.kept (t':=s.D) kp;have I2:za X U σ (upd H t.objs.q<|.tup ys) {s with heap:=t.I {cls:=.type "tuple",data:=.seq J.m}}:=
   I1.laid (t':=s.D) (λb o e=>wh _ e) (Ap _) (show vd X.i X.w _ _ _ (.tup ys) from{C,J,j,IsTup.new _ _})
  exact{.ref t.objs.q,_,I2,rfl,q _<|I1.KB.fresh<|Ap _}
 .obtain⟨J,j,pl,C⟩:=I.tuple g;exact call_tuple_same pl {.ref p,H,I,rfl,q}
def Gz(K:Aj)(T:aav)(x:V)(H:Hp):Prop:=match x with
 |.str _=>T = "str"
 |.int _=>T = "int"
 |.ref p=>(T = "list" /\ ∃xs,bQ K H p xs)\/False
 |_=>False
def JK{T:aav}{x:V}{v:aaq}(I:'v')(r:j9 x v)(ty:Gz X.K T x H):
 s.TypeIs v T/\∀a,v=.ref a->∃ob,s.heap.x a=some ob/\ob.dict=none:=by
 cases x with
 |str z=>
  obtain⟨t,rfl⟩:=r;cases (show T = "str" from ty);exact{typeIs_str s z t,λ_ e=>nomatch e}
 |int i=>
  obtain⟨t,rfl⟩:=r;cases (show T = "int" from ty);exact{typeIs_int s i t,λ_ e=>nomatch e}
 |ref p=>
  cases r;obtain⟨rfl,g,J⟩:=CI ty id;obtain⟨U,_,pl,_⟩:=I.list J;refine{pl.isList.typeIs,λa e=>?_};cases e;obtain⟨o,n,e,c,hd,_⟩:=pl;exact{(o),e,hd}
 |_=>exact False.r ty
def Sw(K:Aj)(T:aav)(r:V->HT->Hp->VK->Prop)(to:TE):TE:=λσ H Q=>to σ H λx H1=>Gz K T x H1/\r x [] H1 Q
def Sx(K:Aj)(T:aav)(r:V->HT->Hp->VK->Prop)(to:TE)(t:TA):TE:=λσ H Q=>to σ H λx H1=>Gz K T x H1/\t σ H1 λxs H2=>r x xs H2 Q
variable {to:TE}{t:TA}{name:Str}{T id:aav}{r:V->HT->Hp->VK->Prop}
def Sy(pa:PlainAttrs T)(slot:Slot T name id)(j:typeOf (.builtin id)=pure (.type "method_descriptor"))(C:JI X id r)(ho:PE X o to)
 (U:attributeBase o name X.o (eval o X.o)=eval o X.o:=by rfl) (g:(apos.endLine==eT.line)=true:=by rfl):PE X (.Call (.Attribute o name apos) [] [] eT) (Sw X.K T r to):=by
 intro J s l H Q I h;refine wpAny_Call_method0_late U g<|aY (ho J s l H _ I h) λv s1 ⟨x,H1,p,t,ty,q1⟩=>?_;obtain⟨h1,h2⟩:=JK p t ty;exact{T,id,pa,slot,j,h1,h2,Calls.callWith_builtin rfl<|PySem.evalArgs_none<|C J s1 l H1 x [] v [] Q p t .nil q1}
def JL(pa:PlainAttrs T)(slot:Slot T name id)(p:typeOf (.builtin id)=pure (.type "method_descriptor"))(hm:JI X id r)(ho:PE X o to)(ha:PA X (e::es) t)
 (g:attributeBase o name X.o (eval o X.o)=eval o X.o:=by rfl)
 (l:((backTo eT<|starEach (e::es) X.o).all (λx=>!x.1)&&(backToKw eT<|keywordEach [] X.o).all (λx=>x.1.Z)
  && decide ((e::es).l+([]:List Keyword).l+(if ([]:List Keyword).isEmpty then 0 else 1)<30))=true:=by rfl)
 (j:(apos.endLine==eT.line)=true:=by rfl) (hs:Fb e es X:=by rfl) (U:Fc eT es X:=by rfl):
 PE X (.Call (.Attribute o name apos) (e::es) [] eT) (Sx X.K T r to t):=by
 intro J s C H Q I h;refine wpAny_Call_method_late g l j rfl<|aY (ho J s C H _ I h) λv s1 ⟨x,H1,I1,r1,ty,q1⟩=>?_;obtain⟨h1,h2⟩:=JK I1 r1 ty;refine{T,id,pa,slot,p,h1,h2,?_};have hA:=ha eT J s1 C H1 _ I1 q1;rw[hs] at hA ⊢;refine Calls.callWith_builtin (by show(false||(backTo eT<|starEach es X.o).any (·.1))=false;rw[U]<;>rfl)<|Calls.evalArgs_plain ?_;exact aY hA λus s2 ⟨vs,H2,I2,r2,q2⟩=>hm J s2 C H2 x vs v us Q I2 r1 r2 q2
end
def iR(X:Cx)(id:aav)(r:V->HT->Hp->VK->Prop):Prop:=
 ∀(pins:List<|Addr×Obj) (s:aar) (σ:St) (H:Hp) (x:V) (xs:HT) (v:aaq) (us:aaf) (Q:VK),'v'->j9 x v->zw xs us->r x xs H Q->
  _S X (call (.builtin id)<|v::us) 'd' X.xe s
def zw.one{x:V}(h:zw [x] us):∃u,us=[u]/\j9 x u:=by cases h with|cons r t=>cases t;exact{_,rfl,r}
def zw.two{x y:V}(h:zw [x,y] us):∃u v,us=[u,v]/\j9 x u/\j9 y v:=by cases h with|cons r t=>cases t with|cons q t=>cases t;exact{_,_,rfl,r,q}
theorem zw.zero:∀{us:aaf},zw [] us->us=[]
 |_,.nil=>rfl
def zw.dropLast(h:zw xs us):zw xs.dropLast us.dropLast:=by
 induction h with
 |nil=>exact .nil
 |cons r t I=>
  cases t with|nil=>exact .nil|cons q J=>exact .cons r I
theorem zw.eraseIdx:∀{xs:HT} {us:aaf} (i:Nat),zw xs us->zw (xs.n i) (us.n i)
 |_,_,_,.nil=>.nil
 |_,_,0,.cons _ t=>t
 |_,_,i+1,.cons r t=>.cons r<|zw.eraseIdx i t
def zw.reverse(h:zw xs us):zw xs.reverse us.reverse:=by induction h with|nil=>exact .nil|cons r t I=>rw[Dr,Dr];exact zw.append I<|.cons r .nil
def zH(l:List α):l.n (l.l-1)=l.dropLast:=by
 induction l with
 |nil=>rfl
 |cons a r I=>
  cases r with
  |nil=>rfl
  |cons b r=>
   have e:(a::b::r).l-1=((b::r).l-1)+1:=by have h1:(a::b::r).l=r.l+2:=rfl;have h2:(b::r).l=r.l+1:=rfl;lia
   rw[e,CK,I]
   all_goals rfl
theorem tH{α:Type}:∀(l:List α) (i:Nat),(l.n i).l<=l.l
 |[],_=>Ap _
 |_::_,0=>Cn _
 |_::r,i+1=>DG<|tH r i
section
variable {b:Addr}{ys zs:HT}
def za.lset{its':aaf}{f:aag->aag}(I:'v')(J:H l=⇑xs)
 (e:s.heap.x l=some {cls:=.type "list",data:=.seq eH.m n}) (U:f eH.m=its'.m) (g:zw ys its') (hz:ys.l<=sizeLine) (p:0<t':=by walk_at "t"):
 za X pins σ (upd H l<|.lst ys) {s with heap:=s.heap.update l<|Obj.mapSeq f,toks:=t'}:=by
 have q:=PySem.IsL.update e f;rw[U] at q;refine I.write (x:=l) (e:=l) ([J]≈trivial) (.inl rfl) (λr u j o=>(Heap.get?_update_other s.v (Obj.mapSeq f)<|AN j).t o) {_,q} ?_;exact{hz,its',_,g,q}
def za.lnew(I:'v')(J:zw ys eH)(hz:ys.l<=sizeLine)(U:0<t':=by walk_at "t"):
 za X pins σ (upd H ↥s<|.lst ys) {s with heap:=s.heap.I {cls:=.type "list",data:=.seq eH.m},toks:=t'}:=
 I.laid (λ_ _ q=>wh _ q) (Ap _) ⟨hz,eH,0,J,ya _ rfl⟩
theorem za.fresh(I:'v'):H ↥s=none:=I.KB.fresh<|Ap _
def za._K(I:'v')(J:H l=⇑xs):xs.l<=sizeLine/\∃(eH:aaf) (n:Nat),zw xs eH/\xs.l=eH.l/\s.heap.x l=some {cls:=.type "list",data:=.seq eH.m n}:=by obtain⟨z,eH,n,r,e⟩:=I.KB l _ J;exact{(z),eH,n,r,r.l,e}
def Sz(h:n<=sizeLine):Builtin.List.listTooLong n=false:=by exact Ay 's'
end
def SA:V->HT->Hp->VK->Prop:=λx vs H Q=>∃l xs y,x=.ref l/\vs=[y]/\H l=⇑xs/\xs.l<sizeLine/\Q .GM (upd H l<|.lst<|xs++[y])
def SD:iR X "list.append" SA:=by rintro U s t H x C v T Q I j o⟨l,xs,y,rfl,rfl,g,hz,q⟩;cases j;obtain⟨u,rfl,p⟩:=o.one;obtain⟨z,J,n,r,hl,e⟩:=I._K g;refine call_meets F.slot_list_append {_,e,rfl} F.entry_list_append (F.args_list_append_2 _ _) (PySem.list_append l J.toArray n u (by rw[Av];lia)) {e,?_};refine{.GM,_,I.lset (its':=J++[u]) g e 'r' (r.append<|.cons p .nil) ?_,rfl,q};rw[Ab,DE];lia
def SE:V->HT->Hp->VK->Prop:=λx vs H Q=>∃l b xs zs,x=.ref l/\vs=[.ref b]/\H l=⇑xs/\H b=⇑zs/\xs.l+zs.l<=sizeLine/\Q .GM (upd H l<|.lst<|xs++zs)
def SF:iR X "list.extend" SE:=by
 rintro o s σ H x vs v us Q I t C⟨l,b,xs,zs,rfl,rfl,p,T,hz,q⟩;cases t;obtain⟨u,rfl,ru⟩:=C.one;cases ru;obtain⟨z,U,n,r,hl,e⟩:=I._K p;obtain⟨z2,J,n2,r2,a1,e2⟩:=I._K T;have j:U.toArray.q+J.toArray.q<=sizeLine:=by rw[Av,Av];lia
 have g:¬(!U.toArray.isEmpty&&Builtin.List.listTooLong (U.toArray.q+J.toArray.q))=true:=by rw[Sz j,DZ];exact AI
 refine call_meets F.slot_list_extend {_,e,rfl} F.entry_list_extend (F.args_list_extend_2 _ _)
  (AutoSeq1.list_extend_list_list_0 l U.m n b J.m n2 g (by rw[Av];lia) 's') ⟨e,e2,?_⟩
 refine{.GM,_,I.lset (its':=U++J) p e 'r' (r.append r2) ?_,rfl,q};rw[Ab];lia
def SG:V->HT->Hp->VK->Prop:=λx vs H Q=>∃l xs y,x=.ref l/\vs=[]/\H l=⇑xs/\xs[xs.l-1]?=some y/\Q y (upd H l<|.lst xs.dropLast)
def SH:iR X "list.pop" SG:=by
 rintro j s σ H x vs v us Q I p t⟨l,xs,y,rfl,rfl,o,C,q⟩;cases p;have U:=t.zero;subst U;obtain⟨z,J,n,r,T,e⟩:=I._K o;obtain⟨u,hu,ru⟩:=r.get C;have g:J.m[J.toArray.q-1]?=some u:=by show J.m[J.l-1]?=some u;rw[<-Be,<-T];exact hu
 refine call_meets F.slot_list_pop {_,e,rfl} F.entry_list_pop (F.args_list_pop_1 _) (MeetsSeq.list_pop_last l J.m n u g (by rw[Av];lia)) {e,?_};refine{y,_,I.lset (its':=J.dropLast) o e ?_ r.dropLast ?_,ru,q}
 .show J.toArray.eraseIdxIfInBounds (J.toArray.q-1)=J.dropLast.m;rw[Av,DC,zH]
 .rw[List.length_dropLast];lia
def SI:V->HT->Hp->VK->Prop:=λx vs H Q=>∃l xs i k y,x=.ref l/\vs=[.int i]/\H l=⇑xs /\ -(2 ^ 63)<=i/\i<2 ^ 63/\seqIndex? i xs.l=some k/\xs[k]?=some y/\Q y (upd H l<|.lst<|xs.eraseIdx k)
def SJ:iR X "list.pop" SI:=by
 rintro g s σ H x vs v us Q I o p⟨l,C,i,k,y,rfl,rfl,j,h1,h2,T,hy,q⟩;cases o;obtain⟨u,rfl,ru⟩:=p.one;obtain⟨t,rfl⟩:=ru;obtain⟨z,J,n,r,hl,e⟩:=I._K j;obtain⟨w,hw,U⟩:=r.get hy;refine call_meets F.slot_list_pop {_,e,rfl} F.entry_list_pop (F.args_list_pop_2 _ _)
  (MeetsSeq.list_pop_at l J.m n i t k w (fitsIndex_both h1 h2) (by rw[Av,<-hl];exact T) (by rw[<-Be];exact hw) (by rw[Av];lia)) ⟨e,?_⟩
 refine{y,_,I.lset (its':=J.n k) j e ?_ (r.n k) ?_,U,q}
 .show J.toArray.eraseIdxIfInBounds k=(J.n k).m;rw[DC]
 .have:=tH C k;lia
def SK:V->HT->Hp->VK->Prop:=λx vs H Q=>∃l xs,x=.ref l/\vs=[]/\H l=⇑xs/\Q .GM (upd H l<|.lst xs.reverse)
def zO:iR X "list.reverse" SK:=by rintro g s t H x C v T Q I o p⟨l,xs,rfl,rfl,j,q⟩;cases o;have U:=p.zero;subst U;obtain⟨z,J,n,r,hl,e⟩:=I._K j;refine call_meets F.slot_list_reverse {_,e,rfl} F.entry_list_reverse (F.args_list_reverse_1 _) (AutoSeq1.list_reverse_list_0 l J.m n (by rw[Av];lia)) {e,?_};refine{.GM,_,I.lset (its':=J.reverse) j e 'r' r.reverse ?_,rfl,q};rw[C8];lia
def SM:V->HT->Hp->VK->Prop:=λx vs H Q=>∃l xs,x=.ref l/\vs=[]/\H l=⇑xs/\Q .GM (upd H l<|.lst [])
def SN:iR X "list.clear" SM:=by rintro g s t H x C v T Q I o p⟨l,xs,rfl,rfl,j,q⟩;cases o;have J:=p.zero;subst J;obtain⟨z,U,n,r,hl,e⟩:=I._K j;refine call_meets F.slot_list_clear {_,e,rfl} F.entry_list_clear (F.args_list_clear_1 _) (AutoSeq1.list_clear_list_0 l U.m n (by rw[Av];lia)) {e,?_};exact{.GM,_,I.lset (its':=[]) (ys:=[]) j e rfl .nil<|A7 _,rfl,q}
def SO:R2:=λx y H Q=>∃l b xs zs,x=.ref l/\y=.ref b/\H l=⇑xs/\H b=⇑zs/\xs.l+zs.l<=sizeLine/\∀p,H p=none->Q (.ref p) (upd H p<|.lst<|xs++zs)
def SQ:kz X (binaryOp .Add) SO:=by
 rintro g s σ H x y v u Q I j o⟨l,b,xs,zs,rfl,rfl,p,t,hz,q⟩;cases j;cases o;obtain⟨z,U,n,r,hl,e⟩:=I._K p;obtain⟨z2,J,n2,C,T,e2⟩:=I._K t;refine PySem.P.add_list e e2 ?_ (by rw[Av,Av];lia);have ea:U.m++J.m=(U++J).m:='r'
 rw[ea];exact{.ref _,_,I.lnew (t':=s.D) (r.append C) (by rw[Ab];lia),rfl,q _ I.fresh}
section
variable {w:aat}
set_option maxRecDepth 100000 in
end
section
open PySem.W PySem.Calls
def nr{P:Params} :∀(ns:aal) (vs:aaf),WellAll P h vs (ns.y WData.int)->IntsAre vs ns:=by
 intro ns
 induction ns with
 |nil=>
  intro vs w;rw[DR] at w;cases w;exact .nil
 |cons n ns I=>
  intro vs w;rw[AR] at w;cases w with
  |cons a b=>
   cases a;exact .cons _ _<|I _ b
def SS{l:OpenLaw}(C:l.most=some n){P:Params}{args:List WData}{I:aaf}
 (J:l.row.toRowW.claim.pre args=true) (p:WellAll P h I args):
 ∃a vs ns,I=[Value.ref a]/\args=[WData.list<|ns.map WData.int]/\h.x a=some {cls:=.type "list",data:=.seq vs.m}/\IntsAre vs ns/\ns.l<=n:=by
 have t:=(pre_splitW J).1;have T:=(pre_splitW J).2;obtain⟨d,r,rfl,h1,h2⟩:=hasAllW_cons t;obtain rfl:=hasAllW_nil h2;obtain⟨xs,rfl,h3⟩:=hasW_list h1;obtain⟨ns,rfl⟩:=items_int h3;have U:ns.l<=n:=by
  have j:(WTm.not<|.lt (.lit<|.int (n:Int))<|.len<|.arg 0).holds [] {args:=[.list<|ns.map .int]}=true:=by have j:=(holds_andW T).1;rw[C] at j;exact j
  have o:=condW_of j<|w_not<|w_lt w_lit<|w_len_list<|w_arg rfl;rw[Ac] at o;refine Nat.le_of_not_lt λq=>?_;have q':(n:Int)<ns.l⁻¹:='s'
  first
   |(rw[AJ q'] at o;exact absurd o ∅)
   |(simp at o;lia)
 cases p with
 |cons w1 w2=>
  cases w2;cases w1 with|list ho g=>exact{_,_,ns,rfl,rfl,ho,nr ns _ g,U}
def SU(l:OpenLaw)(args:List WData):l.row.toRowW.claim.post args (.bool true) args=true:=
 postW_of (r:=l.row.toRowW) (X:=(true==true))
  (show WShape.has [] (.bool true) .bool=true by first|rfl|decide|simp[WShape.has,WShape.arms,WShape.armsAll])
  (show(WTm.eq .res<|.lit<|.bool true).value [] {args:=args,res:=some<|.bool true,after:=args}=some (.bool<|true==true) from w_eq_bool (w_res rfl) w_lit) rfl
theorem _Q{l:OpenLaw}{q:aas}{loose:aai}{XP:(aac)->aau->Prop}{as0:List Addr}{N t:Nat}{K:Params->Frag}{d:DefRec}
 (hn:l.most=some n) (p:d.params.defaults=[]) (ek:∀P,as0=(K P).y (·.1)) (C:0<t)
 (call:∀(w:aat) (s₀ I:aar) (mg T:aac) (fa:Addr) (o:Obj) (pm cd hQ:aaq) (a:Addr) (vs:aaf) (ns:aal),
  Ground q loose [] XP w s₀ mg T I.v->(K w.params).In I.v->0<I.D->
  I.heap.x fa=some o->o.data=.func (docDef d.name d.params d.body d.scope pm cd hQ)->I.heap.CodeRec cd d.name->mg d.name=↑fa->
  I.heap.x a=some {cls:=.type "list",data:=.seq vs.m}->IntsAre vs ns->ns.length<=n->I.gens=#[]->
  codeAny (model l.i w) callerA (.call (.ref fa) ⟨[.ref a],[]⟩) (λr s'=>r=.ok (.ret<|.bool true)/\OldK I.v s'.v/\s'.os=I.os/\AllBare s'.gens) I):
 WalkX q loose XP (PySem.W.X.obsZ as0) (PySem.W.X.valZ K N t) l.row.toRowW d [] (λf vs=>PySem.call f vs):=by
 intro w s₀ I mg T G Y fa o pm cd hQ dV kV ho hd a1 hD a2 hg args a5 as L U ac al a3 ar;obtain rfl:dV=.none:=Dflts.none hD p;obtain rfl:kV=.none:=Dflts.noKw hD;obtain⟨a,vs,ns,rfl,rfl,g,J,j⟩:=SS hn U a3;obtain⟨_,zi,_,zt⟩:=X.z_facts ek Y;have eP:∀ns:aal,ofPy (PyData.list<|ns.map PyData.int)=WData.list (ns.y WData.int):=λns=>by
  simp only[ofPy];congr 1
  induction ns with|nil=>simp[ofPys]|cons n r ih=>simp only[AR,ofPys,ofPy,ih]
 rw[<-eP] at L;have KX:=InK.keeps w s₀.v I.v zi L.keeps;have a4:=AL C<|X.script_toks L zt;refine enter_call<|codeAny_mono (call w s₀ I mg T fa o pm cd hQ a vs ns G KX a4 ho (fd_plain hd) a1 a2 g J j hg) λr s' hq=>?_;obtain⟨rfl,h2,h3,h4⟩:=hq;exact{.inl {.bool true,.bool true,[],rfl,λ_=>rfl,.bool true,SU l _,λ_=>{List.Pairwise.nil,λ_ hm=>(nomatch hm)}},h2,h3,h4}
section
variable {w:aat}{K:Frag}
end
end
theorem tZ:∀{vs:aaf} {ns:aal},IntsAre vs ns->zw (ns.y V.int) vs
 |_,_,.nil=>.nil
 |_,_,.cons n t h=>.cons {(t),rfl}<|tZ h
def ww(s:Stmt):Arguments:=match s with
 |.FunctionDef _ a _ _ _ _ _ _ _ _=>a
 |_=>{posonlyargs:=[],args:=[],vararg:=none,kwonlyargs:=[],kw_defaults:=[],kwarg:=none,defaults:=[]}
def xj(s:Stmt):aak:=match s with
 |.FunctionDef _ _ b _ _ _ _ _ _ _=>b
 |_=>[]
def z9(s:Stmt):Scope:=match s with
 |.FunctionDef _ _ _ _ _ _ I _ _ _=>I
 |_=>{kind:=.function,names:=[],isGenerator:=false,isCoroutine:=false}
abbrev CX0:d_:=λ_ _ _ _ _ _=>False
abbrev E0:XK:=λ_ _ _=>False
def SV :zL CX0 X E0:=λ_ _ _ _ _ _ _ h=>h.elim
structure Fun(K:Aj)(x eK:Str)(st:Stmt)(f:Addr)(fd:FuncData):Prop where
 ex:∃(oc:aaq) (od:Option Addr) (kV hQ pm:aaq) (an:Option Addr) (eS ct:aaq) (pR:Array<|aam),
  fd=PySem.W.fnOf x eK (ww st) (xj st) 'e' .none kV hQ pm an eS ct/\K.e f=some ⟨oc,od,.func fd,pR⟩/\PySem.W.codeIn K eS eK=true
 kp:PySem.W.keepIn K (.ref f)=true
section
variable {P:aas}{w:aat}{K:Aj}
def Fun.ok{st:Stmt}{N:aai}{k:Nat}(F:Fun K x eK st f fd)(S:aT N ps<|z9 st)(len:∀vs H Q E,sp vs H Q E->vs.length=ps.l)
 (I:∀(eS:aaq) (A:Around) (outer:List Env) (s:aar) (H:Hp) (vs:HT) (Q:VK) (E:XK),aX k (A.deeper<|envOfC eK 'e' ↥s f eS)->sp vs H Q E->
  ∃t,i7 (fU CX0 P w K mg base N eK 'e' f eS A outer s H E).nox (xj st) t/\t {nx:=λ_ H'=>Q .GM H',rt:=Q} (start N vs) H):dI P w K mg base CX0 (k+1) f fd ps sp:=by
 obtain⟨o,p,kV,g,pm,an,eS,r,j,rfl,lk,J⟩:=F.ex;refine Hw lk J S len λA outer s H vs Q E l U=>?_;obtain⟨t,h,q⟩:=I eS A outer s H vs Q E l U;exact{(t),h.nox,q}
def SW{st:Stmt}{kV ct:aaq}(l:K.e f=some ⟨oc,od,.func<|PySem.W.fnOf x eK (ww st) (xj st) 'e' .none kV hQ pm an eS ct,pR⟩)
 (c:PySem.W.codeIn K eS eK=true) (k:PySem.W.keepIn K (.ref f)=true):Fun K x eK st f (PySem.W.fnOf x eK (ww st) (xj st) 'e' .none kV hQ pm an eS ct):={{(oc),od,kV,hQ,pm,an,eS,ct,pR,rfl,l,c},k}
end
def tG(h:n<=1000):n<sizeLine:=Bz h ∅
def pv(i:Nat){pos:Pos}(hN:X.N[i]?=some x:=by rfl)(J:Fv X.env.scope x:=by first|exact Or.inl rfl|exact Or.inr (Or.inl rfl)|exact Or.inr<|Or.inr rfl)(hd:Fe x:=by decide)
 (I:Ff x:=by decide):PE X (.Name x pos) (Gu i):=Qc hN J hd I
section
variable [DecidableEq κ]
end
set_option maxHeartbeats 8000000
def F6{a b c:Nat}(h:a<b:=by assumption)(k:b<=c:=by assumption):a<c:=AL h k
def rS{a b c:Nat}(h:a<=b:=by assumption)(k:b<c:=by assumption):a<c:=Bz h k
def HA{a b c:Nat}(h:a<=b:=by assumption)(k:b<=c:=by assumption):a<=c:=AQ h k
def yP{a b c:Nat}(h:a<b:=by assumption)(k:b<c:=by assumption):a<c:=Nat.lt_trans h k
def GA{a b c:Nat}(h:a<=b:=by assumption)(k:b<=c:=by decide):a<=c:=AQ h k
def HB{a b:Nat}(h:a<=b:=by assumption):a<b+1:=Nat.lt_succ_of_le h
def SX{a b:Nat}(h:a<=b:=by assumption):a<=b+1:=CA h
def l5{a b:Nat}(h:a<b:=by assumption):a<=b:=Br h
def JM{a b:Nat}(h:a<b:=by assumption):a≠b:=Bi h
def JN{a b:Nat}(h:b<a:=by assumption):a≠b:=C1 h
def F7{a:Nat}(h:a≠0:=by assumption):0<a:=Nat.pos_of_ne_zero h
def JO{a b c:Nat}(h:a<b:=by assumption)(k:b<=c:=by assumption):a<=c:=AQ (Br h) k
def JP{a b c:Nat}(h:a<b:=by assumption):a<b+c:=AL h<|Bd _ _
def zR{a b:Nat}(h:a=b:=by assumption):a<=b:=DS h
def HE{a b:Nat}(h:¬a<b:=by assumption):b<=a:=Nat.le_of_not_lt h
def JQ{a b:Nat}(h:¬b<=a:=by assumption):a<b:=Nat.lt_of_not_le h
def JR{a b:Nat}(h:a<b+1:=by assumption):a<=b:=Nat.le_of_lt_succ h
def Fy{a b:Nat}(h:0<a:=by assumption)(k:0<b:=by decide):a-b<a:=Nat.sub_lt h k
def JS{a b c:Nat}(h:a<=c:=by assumption):a-b<=c:=AQ (Nat.sub_le _ _) h
def ud{a b c:Nat}(h:a<c:=by assumption):a-b<c:=Bz (Nat.sub_le _ _) h
def Fz{a b:Nat}(h:a<=b:=by assumption)(k:a≠b:=by assumption):a<b:=Nat.lt_of_le_of_ne h k
def SY:R2:=λx y H Q=>match x,y with
 |.int i,.int j=>Q (.int<|i+j) H
 |.str a,.str b=>a.length+b.l<=sizeLine/\Q (.str<|a++b) H
 |.ref l,.ref b=>∃xs zs,H l=⇑xs/\H b=⇑zs/\xs.l+zs.l<=sizeLine/\∀p,H p=none->Q (.ref p) (upd H p<|.lst<|xs++zs)
 |_,_=>False
def S1:kz X (binaryOp .Add) SY:=by
 intro J s U H x y v u Q I g j h;cases x<;>cases y<;>first
  |exact False.r h
  |exact Rh J s U H _ _ v u Q I g j {_,_,rfl,rfl,h}
  |exact zD J s U H _ _ v u Q I g j {_,_,rfl,rfl,h.1,h.2}
  |(obtain⟨l,o,h1,h2,h3,p⟩:=h;exact SQ J s U H _ _ v u Q I g j {_,_,l,o,rfl,rfl,h1,h2,h3,p})
def KD(K:Aj)(P:aas)(w:aat)(a:Addr)(kvs:List<|jk×V):Prop:=
 (a==sysModules)=false/\kvs.l<=sizeLine/\∀h:aau,K.In h->∃vs,KV kvs vs/\h.DictOf (w9 P w) a vs
def JT(K:Aj)(P:aas)(w:aat):R2:=λx y H Q=>match x,y with
 |.str z,.int i=>z.length<=sizeLine/\∃c,bw z.cps.z i=some c/\Q (.str ⟨#[c]⟩) H
 |.ref p,.int i=>∃xs v,(bQ K H p xs\/dR K H p xs)/\bw xs i=some v/\Q v H
 |.ref p,.str k=>∃kvs v,(Rd H p (.dK kvs)\/KD K P w p kvs)/\dQ kvs (Sum.inr k)=some v/\Q v H
 |_,_=>False
def JU{slice:Expr}{a:Addr}{vs:List<|jk×aaq}{k:jk}{J:aaq}{Q:VK}(I:'v')(dd:s.heap.DictOf (w9 X.i X.w) a vs)(U:oo k u=true)
 (hw:valueAt vs k=some J) (r:j9 v J) (q:Q v H) (hs:subscripted slice false (.ref a) u=operate [.ref a,u] (getItem (.ref a) u)):_S X (subscriptTail value slice (.ref a) u) 'd' X.xe s:=
 tail_any dd.typeIs Ei.e (wpAny_getItem_of U dd.mapOf hw ⟨v,H,I.tok _,r,q⟩) hs
def JV:IxR X (JT X.K X.i X.w):=by
 intro value slice J s T H x y v u Q I t C q g;cases x with
 |str z=>
  cases y with
  |int i=>
   obtain⟨h1,c,h2,h3⟩:=q;exact Sn value slice J s T H _ _ v u Q I t C {(z),i,c,rfl,rfl,h1,h2,h3} g
  |_=>exact q.r
 |ref p=>
  cases y with
  |int i=>
   obtain⟨xs,j,h1,h2,h3⟩:=q;obtain h1|h1:=h1
   .exact Sl value slice J s T H _ _ v u Q I t C {(p),xs,i,j,rfl,rfl,h1,h2,h3} g
   .exact Sm value slice J s T H _ _ v u Q I t C {(p),xs,i,j,rfl,rfl,h1,h2,h3} g
  |str k=>
   obtain⟨a1,j,h1,h2,h3⟩:=q;have l:j9 (kV<|Sum.inr k) u:=C;cases (show v=Value.ref p from t);obtain h1|h1:=h1
   .obtain⟨z,hd,vs,rel,r⟩:=rM I.KB h1;obtain⟨w2,hw,U⟩:=sE.some_of (v:=j) (o:=valueAt vs<|Sum.inr k) (by rw[<-h2];exact rel.val _);exact JU I r (oq (P:=X.i) (w:=X.w) l) hw U h3 g
   .obtain⟨hd,z,r⟩:=h1;obtain⟨vs,rel,r⟩:=r s.v I._A;obtain⟨w2,hw,U⟩:=sE.some_of (v:=j) (o:=valueAt vs<|Sum.inr k) (by rw[<-h2];exact rel.val _);exact JU I r (oq (P:=X.i) (w:=X.w) l) hw U h3 g
  |_=>exact q.r
 |_=>cases y<;>exact q.r
def S2(K:Aj):HT->Hp->VK->Prop:=λxs H Q=>match xs with
 |[.str z]=>z.length<=sizeLine/\Q (.int z.l) H
 |[.ref p]=>∃ys,(bQ K H p ys\/dR K H p ys)/\Q (.int ys.l) H
 |_=>False
def S3:jt X (.builtin "len") (S2 X.K):=by
 intro J s U H j g Q I r h;obtain _|⟨x,_|⟨y,t⟩⟩:=j
 .exact h.r
 .cases x with
  |str z=>exact uQ J s U H _ g Q I r {(z),rfl,h.1,h.2}
  |ref p=>
   obtain⟨l,h1,h2⟩:=h;exact uY J s U H _ g Q I r {(p),l,rfl,h1,h2}
  |_=>exact h.r
 .cases x<;>exact h.r
inductive Da where
 |s (v:V)
 |tup (xs:List Da)
 |lst (xs:List Da)
mutual
def Da.eq:Da->Da->Bool
 |.s v,.s w=>iz v w
 |.tup xs,.tup ys=>Da.eqs xs ys
 |.lst xs,.lst ys=>Da.eqs xs ys
 |_,_=>false
def Da.eqs:List Da->List Da->Bool
 |[],[]=>true
 |x::xs,y::ys=>Da.eq x y&&Da.eqs xs ys
 |_,_=>false
end
def bO(K:Aj)(H:Hp):Nat->V->Da->Prop
 |0,v,d=>d=.s v/\cA v=true
 |n+1,v,d=>(d=.s v/\cA v=true)\/(∃a xs ds,v=.ref a/\d=.tup ds/\dR K H a xs/\Paired (bO K H n) xs ds)\/(∃a xs ds,v=.ref a/\d=.lst ds/\bQ K H a xs/\Paired (bO K H n) xs ds)
theorem Da._y:∀(ds es:List Da),((List.range<|min ds.l es.l).all (λj=>Da.eq (ds.getD j<|.s .GM)<|es.getD j<|.s .GM)&&ds.l==es.l)=Da.eqs ds es
 |[],[]=>by simp[Da.eqs]
 |[],e::es=>by simp[Da.eqs]
 |d::ds,[]=>by simp[Da.eqs]
 |d::ds,e::es=>by
  have I:=Da._y ds es;rw[Da.eqs,<-I];have:min (d::ds).l (e::es).l=min ds.l es.l+1:=by simp only[AK];lia
  rw[this,List.range_succ_eq_map,Df,DU];have h2:((d::ds).l==(e::es).l)=(ds.l==es.l):='r'
  rw[h2,Bool.and_assoc];rfl
theorem Paired.at{F:α->β->Prop}:∀{xs:List α} {ys:List β} {j:Nat} {x:α} {y:β},Paired F xs ys->xs[j]?=some x->ys[j]?=some y->F x y:=by
 intro xs ys j x y h
 induction h generalizing j with
 |nil=>intro h _;simp at h
 |cons r t I=>
  intro h1 h2;cases j with|zero=>simp at h1 h2;subst h1 h2;exact r|succ j=>exact I (j:=j) (~~~h1) (~~~h2)
abbrev FA:=@Paired.at
theorem kG:∀{v:V},cA v=true->iz v v=true
 |.GM,_=>rfl
 |.bl _,_=>by simp[iz]
 |.int _,_=>by simp[iz]
 |.str _,_=>by simp[iz]
def xl{a:Addr}(h:cA (.ref a)=true):False:=by simp[cA] at h
def za.notBoth(I:'v'){a:Addr}{ys:HT}(h:dR X.K H a xs)(h':bQ X.K H a ys):False:=by
 obtain⟨j,_,⟨o,e,c,_⟩,_⟩:=I.tuple h;obtain⟨U,_,⟨l,p,g,J,_⟩,_⟩:=I.list h';rw[e] at g;cases g;rw[c] at J;injection J with J
 exact absurd J ∅
theorem uA(I:'v'):∀(n:Nat) {m:Nat} {x:V} {d e:Da},bO X.K H n x d->bO X.K H m x e->Da.eq d e=true
 |0,m,x,d,e,h1,h2=>by
  obtain⟨rfl,f⟩:=h1;cases m with
  |zero=>obtain⟨rfl,_⟩:=h2;exact kG f
  |succ m=>
   rcases h2 with⟨rfl,_⟩|⟨a,g,j,rfl,_⟩|⟨a,g,j,rfl,_⟩
   .exact kG f
   .exact(xl f).r
   .exact(xl f).r
 |n+1,m,x,d,e,h1,h2=>by
  have both:∀{g:HT} {j l:List Da} {m:Nat},Paired (bO X.K H n) g j->Paired (bO X.K H m) g l->Da.eqs j l=true:=by
   intro g j l m p
   induction p generalizing l with
   |nil=>intro q;cases q;rfl
   |cons r t ih=>
    intro q;cases q with|cons r' t'=>rw[Da.eqs,uA I n r r',ih t'];rfl
  rcases h1 with⟨rfl,f⟩|⟨a,g,j,rfl,rfl,C,T⟩|⟨a,g,j,rfl,rfl,C,T⟩
  .cases m with
   |zero=>obtain⟨rfl,_⟩:=h2;exact kG f
   |succ m=>
    rcases h2 with⟨rfl,_⟩|⟨a,g,j,rfl,_⟩|⟨a,g,j,rfl,_⟩
    .exact kG f
    .exact(xl f).r
    .exact(xl f).r
  .cases m with
   |zero=>exact(xl h2.2).r
   |succ m=>
    rcases h2 with⟨_,f⟩|⟨a',ys,l,o,rfl,J,U⟩|⟨a',ys,l,o,rfl,J,U⟩
    .exact(xl f).r
    .cases o;cases I._m C J;exact both T U
    .cases o;exact(I.notBoth C J).r
  .cases m with
   |zero=>exact(xl h2.2).r
   |succ m=>
    rcases h2 with⟨_,f⟩|⟨a',ys,l,o,rfl,J,U⟩|⟨a',ys,l,o,rfl,J,U⟩
    .exact(xl f).r
    .cases o;exact(I.notBoth J C).r
    .cases o;cases I._j C J;exact both T U
def x9{a:Addr}{eH:aag}(p:PlainL h a eH):h.IsList a eH:=let ⟨o,n,e,c,_,d⟩:=p;⟨o,e,c,n,d⟩
def vX{ys:HT}{ds es:List Da}{vs:aaf}(px:Paired (bO X.K H n) xs ds)(py:Paired (bO X.K H m) ys es)(I:zw xs us)(J:zw ys vs)
 (p:∀{x y:V} {d e:Da} {u v:aaq},bO X.K H n x d->bO X.K H m y e->j9 x u->j9 y v->SeqAt.EqAt A.in1 s u v (Da.eq d e)):
 ∀j (h1:j<us.toArray.q) (h2:j<vs.toArray.q),SeqAt.EqAt A.in1 s us.m[j] vs.m[j] (Da.eq (ds.getD j<|.s .GM)<|es.getD j<|.s .GM):=by
 intro j h1 h2;have C:=px.l;have T:=py.l;have l3:=I.l;have l4:=J.l;rw[Av] at h1 h2;have U:xs[j]?=some xs[j]:=Ah 's';have g:ys[j]?=some ys[j]:=Ah 's';have l:ds[j]?=some ds[j]:=Ah 's';have o:es[j]?=some es[j]:=Ah 's';have r:us[j]?=some us[j]:=Ah 's';have t:vs[j]?=some vs[j]:=Ah 's';rw[Bs,Bs,l,o];exact p (FA px U l) (FA py g o) (FA I U r)<|FA J g t
def HF(ne:Bool)(A:Around)(s:aar)(u v:aaq)(k:Bool):Prop:=match ne with
 |true=>SeqAt.RcNeAt A s u v<|!k
 |false=>SeqAt.RcAt A s u v k
def sK(ne:Bool){a b:Addr}{ys:HT}{ds es:List Da}(I:'v')(J:A.units<cLine)(l:dR X.K H a xs)(o:dR X.K H b ys)(px:Paired (bO X.K H n) xs ds)(py:Paired (bO X.K H m) ys es)
 (p:∀{x y:V} {d e:Da} {u v:aaq},bO X.K H n x d->bO X.K H m y e->j9 x u->j9 y v->SeqAt.EqAt A.in1 s u v (Da.eq d e)):HF ne A s (.ref a) (.ref b) (Da.eqs ds es):=by
 obtain⟨r,U,g,_⟩:=I.tuple l;obtain⟨t,j,ty,_⟩:=I.tuple o;have i:=vX px py U j p;cases ne
 case' false=>have q:=SeqAt.RcAt.tuples g ty J i
 case' true=>have q:=SeqAt.RcNeAt.tuples g ty J i
 all_goals
  rw[Av,Av,<-U.l,<-j.l,px.l,py.l,Da._y] at q;exact q
def wG(ne:Bool){a b:Addr}{ys:HT}{ds es:List Da}(I:'v')(g:A.units<cLine)(C:bQ X.K H a xs)(T:bQ X.K H b ys)(px:Paired (bO X.K H n) xs ds)(py:Paired (bO X.K H m) ys es)
 (ih:∀{x y:V} {d e:Da} {u v:aaq},bO X.K H n x d->bO X.K H m y e->j9 x u->j9 y v->SeqAt.EqAt A.in1 s u v (Da.eq d e)):HF ne A s (.ref a) (.ref b) (Da.eqs ds es):=by
 obtain⟨l,o,J,_⟩:=I.list C;obtain⟨p,r,ty,_⟩:=I.list T;have J:=x9 J;have ty:=x9 ty;have e:=Da._y ds es;have j:ds.l=l.toArray.q:=by rw[<-px.l,o.l,Av]
 have t:es.l=p.toArray.q:=by rw[<-py.l,r.l,Av]
 by_cases U:l.toArray.q=p.toArray.q
 .have i:=vX px py o r ih;rw[t,<-U,<-j,Nat.min_self,beq_self_eq_true,Bool.and_true] at e;cases ne
  case' false=>have q:=SeqAt.RcAt.lists J ty U g i
  case' true=>have q:=SeqAt.RcNeAt.lists J ty U g i
  all_goals
   rw[<-j,e] at q;exact q
 .rw[show(ds.l==es.l)=false by rw[j,t];simpa using U,DZ] at e;rw[<-e];cases ne
  .exact SeqAt.RcAt.lists_lengths J ty (~~~U) g
  .exact SeqAt.RcNeAt.lists_lengths J ty (~~~U) g
def y7(I:'v'):∀(n:Nat) {m:Nat} {A:Around} {x y:V} {d e:Da} {u v:aaq},A.units+n<cLine->bO X.K H n x d->bO X.K H m y e->j9 x u->j9 y v->SeqAt.EqAt A s u v (Da.eq d e):=by
 have J:∀{A:Around} {x:V} {u:aaq} {b:Addr} {p:HT},A.units<cLine->cA x=true->j9 x u->(dR X.K H b p\/bQ X.K H b p)->SeqAt.EqAt A s u (.ref b) false/\SeqAt.EqAt A s (.ref b) u false:=by
  intro A x u b p g f r h;have h':(∃C,s.heap.IsTuple b C)\/∃C,s.heap.IsList b C:=by
   obtain h|h:=h
   .obtain⟨C,_,t,_⟩:=I.tuple h;exact .inl {_,t}
   .obtain⟨C,_,t,_⟩:=I.list h;exact .inr {_,x9 t}
  cases x with
  |GM=>cases r;rcases h' with⟨_,t⟩|⟨_,t⟩;exact{.none_tuple t g,.tuple_none t g};exact{.none_list t g,.list_none t g}
  |bl k=>cases r;rcases h' with⟨_,t⟩|⟨_,t⟩;exact{.bool_tuple k t g,.tuple_bool k t g};exact{.bool_list k t g,.list_bool k t g}
  |int k=>obtain⟨tk,rfl⟩:=r;rcases h' with⟨_,t⟩|⟨_,t⟩;exact{.int_tuple k tk t g,.tuple_int k tk t g};exact{.int_list k tk t g,.list_int k tk t g}
  |str k=>obtain⟨tk,rfl⟩:=r;rcases h' with⟨_,t⟩|⟨_,t⟩;exact{.str_tuple k tk t g,.tuple_str k tk t g};exact{.str_list k tk t g,.list_str k tk t g}
  |_=>simp[cA] at f
 intro n
 induction n with
 |zero=>
  intro m A x y d e u v g h1 h2 T j;obtain⟨rfl,f⟩:=h1;cases m with
  |zero=>obtain⟨rfl,l⟩:=h2;exact qF T j f l
  |succ m=>
   rcases h2 with⟨rfl,l⟩|⟨b,p,es,rfl,rfl,U,py⟩|⟨b,p,es,rfl,rfl,U,py⟩
   .exact qF T j f l
   .cases j;exact(J 's' f T<|.inl U).1
   .cases j;exact(J 's' f T<|.inr U).1
 |succ n ih=>
  intro m A x y d e u v g h1 h2 T j;have a2:A.in1.units+n<cLine:='s'
  rcases h1 with⟨rfl,f⟩|⟨a,xs,ds,rfl,rfl,o,px⟩|⟨a,xs,ds,rfl,rfl,o,px⟩
  .cases m with
   |zero=>obtain⟨rfl,l⟩:=h2;exact qF T j f l
   |succ m=>
    rcases h2 with⟨rfl,l⟩|⟨b,p,es,rfl,rfl,U,py⟩|⟨b,p,es,rfl,rfl,U,py⟩
    .exact qF T j f l
    .cases j;exact(J 's' f T<|.inl U).1
    .cases j;exact(J 's' f T<|.inr U).1
  .cases T;cases m with
   |zero=>obtain⟨rfl,l⟩:=h2;exact(J 's' l j<|.inl o).2
   |succ m=>
    rcases h2 with⟨rfl,l⟩|⟨b,p,es,rfl,rfl,U,py⟩|⟨b,p,es,rfl,rfl,U,py⟩
    .exact(J 's' l j<|.inl o).2
    .cases j;by_cases a1:a=b
     .subst a1;cases I._m o U;have e:=uA I (n+1) (m:=m+1) (x:=.ref a) (.inr<|.inl {(a),xs,ds,rfl,rfl,o,px})<|.inr<|.inl {(a),xs,es,rfl,rfl,U,py};rw[e];exact .same _
     .exact .of_refs a1<|sK false I 's' o U px py λh1 h2 r1 r2=>ih a2 h1 h2 r1 r2
    .cases j;obtain⟨us,vx,tx,_⟩:=I.tuple o;obtain⟨vs,vy,ty,_⟩:=I.list U;exact .tuple_list tx (x9 ty) 's'
  .cases T;cases m with
   |zero=>obtain⟨rfl,l⟩:=h2;exact(J 's' l j<|.inr o).2
   |succ m=>
    rcases h2 with⟨rfl,l⟩|⟨b,p,es,rfl,rfl,U,py⟩|⟨b,p,es,rfl,rfl,U,py⟩
    .exact(J 's' l j<|.inr o).2
    .cases j;obtain⟨us,vx,tx,_⟩:=I.list o;obtain⟨vs,vy,ty,_⟩:=I.tuple U;exact .list_tuple (x9 tx) ty 's'
    .cases j;by_cases a1:a=b
     .subst a1;cases I._j o U;have e:=uA I (n+1) (m:=m+1) (x:=.ref a) (.inr<|.inr {(a),xs,ds,rfl,rfl,o,px})<|.inr<|.inr {(a),xs,es,rfl,rfl,U,py};rw[e];exact .same _
     .exact .of_refs a1<|wG false I 's' o U px py λh1 h2 r1 r2=>ih a2 h1 h2 r1 r2
def S4(K:Aj)(k:Nat)(ne:Bool):R2:=λx y H Q=>match x,y with
 |.ref a,.ref b=>∃n m d e,n<=k/\bO K H n (.ref a) d/\bO K H m (.ref b) e/\Q (.bl<|F5 ne<|Da.eq d e) H
 |x,y=>Jt x y=true/\Q (.bl<|F5 ne<|decide<|x=y) H
def S5(ne:Bool){k:Nat}(U:X.A.units+k<cLine):kz X (compareOp<|Gw ne) (S4 X.K k ne):=by
 intro J s t H x y v u Q I C T h;cases x with
 |ref a=>
  cases y with
  |ref b=>
   obtain⟨n,m,d,e,hn,h1,h2,q⟩:=h;cases C;cases T;have jj:HF ne X.A s (.ref a) (.ref b) (Da.eq d e)->_S X (compareOp (Gw ne) (.ref a)<|.ref b) (EP X J t Q) X.xe s:=λr=>by cases ne<;>exact r X.i X.w X.xe (EP X J t Q) {.bl _,H,I,rfl,q}
   cases n with
   |zero=>exact(xl h1.2).r
   |succ n=>
    cases m with
    |zero=>exact(xl h2.2).r
    |succ m=>
     have l:X.A.in1.units+n<cLine:='s'
     have U:X.A.units<cLine:='s'
     rcases h1 with⟨_,f⟩|⟨a',xs,ds,e1,rfl,o,px⟩|⟨a',xs,ds,e1,rfl,o,px⟩
     .exact(xl f).r
     .cases e1;rcases h2 with⟨_,f⟩|⟨b',ys,es,g,rfl,j,py⟩|⟨b',ys,es,g,rfl,j,py⟩
      .exact(xl f).r
      .cases g;exact jj<|sK ne I U o j px py λh1 h2 r1 r2=>y7 I n l h1 h2 r1 r2
      .cases g;obtain⟨us,vx,p,_⟩:=I.tuple o;obtain⟨vs,vy,ty,_⟩:=I.list j;exact jj (by cases ne;exact SeqAt.RcAt.tuple_list p (x9 ty) U;exact SeqAt.RcNeAt.tuple_list p (x9 ty) U)
     .cases e1;rcases h2 with⟨_,f⟩|⟨b',ys,es,g,rfl,j,py⟩|⟨b',ys,es,g,rfl,j,py⟩
      .exact(xl f).r
      .cases g;obtain⟨us,vx,p,_⟩:=I.list o;obtain⟨vs,vy,ty,_⟩:=I.tuple j;exact jj (by cases ne;exact SeqAt.RcAt.list_tuple (x9 p) ty U;exact SeqAt.RcNeAt.list_tuple (x9 p) ty U)
      .cases g;exact jj<|wG ne I U o j px py λh1 h2 r1 r2=>y7 I n l h1 h2 r1 r2
  |_=>exact Jx ne J s t H _ _ v u Q I C T h
 |_=>cases y<;>exact Jx ne J s t H _ _ v u Q I C T h
def JW{c:Addr}{pos:Pos}(I:Gl X x)(J:X.mg x=↑c)(hd:Fe x:=by decide):PE X (.Name x pos) (tC<|.ref c):=Jg I J (v:=.ref c) rfl hd
def JX{T:aav}{pos:Pos}(I:Gl X x)(J:X.mg x=none)(U:bootBuiltins x=some (.type T))(g:x ≠ "__name__" := by decide)(hd:Fe x:=by decide):PE X (.Name x pos) (tC<|.ty T):=Qg I J U (v:=.ty T) rfl g hd
structure Cal(P:aas)(w:aat)(K:Aj)(mg:aac)(base:aau)(k:Nat)(x:Str)(ps:aai)(sp:Sp):Prop where
 ex:∃f fd,dI P w K mg base CX0 k f fd ps sp/\ff K fd ps []/\PySem.W.keepIn K (.ref f)=true/\mg x=↑f
def S6{k:Nat}{t:TA}{p pos:Pos}(c:Cal X.i X.w X.K X.mg X.Y k x ps sp)(U:aX k X.A)(g:Gl X x)(j:PA X (e::es) t)(I:Fe x:=by decide)
 (l:Fb e es X:=by rfl) (J:Fc pos es X:=by rfl):PE X (.Call (.Name x p) (e::es) [] pos) (JB sp [] E0 t):=by
 obtain⟨f,fd,F,b,o,m⟩:=c.ex;exact RI F U g m o b .nil SV j I l J
theorem Cal.mono{P:aas}{w:aat}{K:Aj}{k:Nat}(c:Cal P w K mg base j x ps sp)(h:j<=k):Cal P w K mg base k x ps sp:=by obtain⟨f,fd,F,b,I,m⟩:=c.ex;exact{f,fd,F.mono h,b,I,m}
variable {ds:List Da}
def qI(env:Env):List (Str×NameKind)->List (Str×Addr)->List (Str×Addr)
 |[],cs=>cs
 |(n,k)::r,cs=>qI env r<|if k==.free then(n,(env.cells.e n).getD 0)::cs else cs
def ij(scope:Scope)(env:Env):List (Str×Addr):=qI env scope.names []
theorem wH{env:Env}:∀{names:List<|Str×NameKind} {cs:List<|Str×Addr} {p:Str×Addr},p∈qI env names cs->p∈cs\/((p.1,NameKind.U)∈names/\p.2=(env.cells.e p.1).getD 0)
 |[],_,_,h=>.inl h
 |(n,k)::r,cs,p,h=>by
  obtain q|⟨q,e⟩:=wH (names:=r) h
  .by_cases I:(k==NameKind.U)=true
   .rw[AF I] at q;obtain rfl|q:=Ao.j q
    .have:k=.free:=by simpa using I
     exact .inr {by rw[this];exact Ag,rfl}
    .exact .inl q
   .rw[Az I] at q;exact .inl q
  .exact .inr {Ae _ q,e}
theorem vU{env:Env}{x:Str}:∀{names:List<|Str×NameKind} {cs:List<|Str×Addr},((∃c,(x,c)∈cs)\/(x,NameKind.U)∈names)->∃c,(x,c)∈qI env names cs
 |[],_,.inl h=>h
 |[],_,.inr h=>by simp at h
 |(n,k)::r,cs,h=>by
  refine vU (names:=r) ?_;rcases h with⟨c,h⟩|h
  .left;by_cases I:(k==NameKind.U)=true
   .rw[AF I];exact{c,Ae _ h}
   .rw[Az I];exact{(c),h}
  .rcases Ao.j h with e|h
   .left;injection e with J U
    subst J;subst U;exact{_,Ag}
   .exact .inr h
theorem i4{x:Str}:∀{l:List<|Str×Addr} {c:Addr},(x,c)∈l->∃I,l.e x=some I
 |(n,d)::r,c,h=>by
  rw[BF];cases J:x==n with
  |true=>exact{(d),rfl}
  |false=>
   obtain e|h:=Ao.j h
   .injection e with U _;subst U;simp at J
   .exact i4 h
def nZ(h:∀n,(n,NameKind.U)∈scope.names->∃c,env.cells.e n=some c):closureFor scope env=pure (ij scope env):=by
 have key:∀(names:List<|Str×NameKind) (I:List<|Str×Addr),(∀n,(n,NameKind.U)∈names->∃c,env.cells.e n=some c)->
  (forIn names I λx (r:List<|Str×Addr)=>(match x with|(name,kind)=>if kind==NameKind.U then do let a <-cellOf env name;pure (ForInStep.yield<|(name,a)::r) else pure (ForInStep.yield r):Sem<|ForInStep<|List<|Str×Addr))=pure (qI env names I):=by
  intro names
  induction names with
  |nil=>intro I _;rfl
  |cons p r o=>
   intro I J;obtain⟨n,k⟩:=p;rw[Dj];cases U:k==NameKind.U with
   |true=>
    have g:k=.free:=by simpa using U
    subst g;obtain⟨c,t⟩:=J n Ag;have e:cellOf env n=pure c:=by unfold cellOf;rw[t]
    simp only[beq_self_eq_true,if_true,e];have j:qI env ((n,NameKind.U)::r) I=qI env r ((n,c)::I):=by show qI env r _=_;rw[t];rfl
    rw[j];exact o ((n,c)::I) λm l=>J m<|Ae _ l
   |false=>
    simp only[U,Dl,if_false];have j:qI env ((n,k)::r) I=qI env r I:=by show qI env r (if (k==NameKind.U)=true then _ else _)=_;rw[U];rfl
    rw[j];exact o I λm l=>J m<|Ae _ l
 exact(A8 (· >>= pure)<|key scope.names [] h)
theorem ai{env:Env}{x:Str}:∀{names:List<|Str×NameKind},
 (names.y λ(n,k)=>if (k==NameKind.U&&env.scope.kind==.function&&env.Q n==some .cell) then(n,NameKind.cell) else(n,k)).e x
  = (names.e x).y λk=>if (k==NameKind.U&&env.scope.kind==.function&&env.Q x==some .cell) then NameKind.cell else k
 |[]=>rfl
 |(n,k)::r=>by
  have g:=@ai env x r;show List.lookup x ((if (k==NameKind.U&&env.scope.kind==.function&&env.Q n==some .cell)=true then(n,NameKind.cell) else(n,k))::_)=_;cases J:x==n with
  |true=>
   have U:x=n:=by simpa using J
   subst U;by_cases I:(k==NameKind.U&&env.scope.kind==.function&&env.Q x==some .cell)=true
   .rw[AF I];simp only[BF,beq_self_eq_true,DL];rw[AF I]
   .rw[Az I];simp only[BF,beq_self_eq_true,DL];rw[Az I]
  |false=>
   by_cases I:(k==NameKind.U&&env.scope.kind==.function&&env.Q n==some .cell)=true
   .rw[AF I];simp only[BF,J];exact g
   .rw[Az I];simp only[BF,J];exact g
def Cx.comp(X:Cx)(scope:Scope)(T:aai)(C:Addr)(fp:List Addr)(s₀:aar)(H₀:Hp):Cx:=
 {X with N:=X.N++T,s₀:=s₀,H₀:=H₀,env:=compEnvC scope (ij scope X.o) C X.o,outer:=X.p,ex:=fp,fn:=λ_=>false,xe:=λ_ _=>False}
structure ji(X:Cx)(scope:Scope):Prop where
 kind:scope.kind=.function
 nocell:∀y∈scope.names,y.2≠.cell
 names:∀y∈scope.names,y.2=.local->scope.names.lookup y.1=some .local
 free:∀n,scope.names.e n=some .free->X.env.kindOf n=some .cell\/X.env.Q n=some .free
 freeM:∀n,(n,NameKind.U)∈scope.names->X.env.kindOf n=some .cell\/X.env.Q n=some .free
 apart:∀x∈X.N,scope.names.e x≠some .local
def ji.clo(S:ji X scope)(I:'v'):closureFor scope X.o=pure (ij scope X.o):=
 nZ λn h=>I.ok.has n<|S.freeM n h
def ji._u(S:ji X scope)(I:'v'){c:Addr}(h:(ij scope X.o).e x=some c):X.env.cells.e x=some c:=by
 obtain q|⟨q,e⟩:=wH (BL h)
 .simp at q
 .obtain⟨d,hd⟩:=I.ok.has x<|S.freeM x q;have J:c=(X.env.cells.e x).getD 0:=e;rw[hd] at J ⊢;rw[J];rfl
def ji.cl_has(_:ji X scope)(h:scope.names.e x=some .free):∃c,(ij scope X.o).e x=some c:=by obtain⟨c,I⟩:=vU (env:=X.o) (names:=scope.names) (cs:=[]) (x:=x)<|.inr<|BL h;exact i4 I
theorem ji.kindOf(S:ji X scope)(h:(compEnvC scope (ij scope X.o) C X.o).Q x=some .cell\/(compEnvC scope (ij scope X.o) C X.o).Q x=some .free):scope.names.e x=some .free:=by
 have e:(compEnvC scope (ij scope X.o) C X.o).Q x=(scope.names.e x).y λk=>if (k==NameKind.U&&X.env.scope.kind==.function&&X.env.Q x==some .cell) then NameKind.cell else k:=ai
 rw[e] at h;cases I:scope.names.e x with
 |none=>rw[I] at h;obtain h|h:=h<;>cases h
 |some k=>
  rw[I] at h;cases k with|free=>rfl|cell=>exact absurd rfl (S.nocell _<|BL I)|_=>obtain h|h:=h<;>cases h
def ji.vis(S:ji X scope)(U:x∈X.N)(h:Fv (compEnvC scope (ij scope X.o) C X.o).scope x):scope.names.e x=some .free:=by
 obtain h|h|h:=h
 .exfalso;have e:(compEnvC scope (ij scope X.o) C X.o).Q x=(scope.names.e x).y λk=>if (k==NameKind.U&&X.env.scope.kind==.function&&X.env.Q x==some .cell) then NameKind.cell else k:=ai
  have I:(compEnvC scope (ij scope X.o) C X.o).Q x=some .local:=h;rw[e] at I;cases J:scope.names.e x with
  |none=>rw[J] at I;cases I
  |some k=>
   rw[J] at I;have I:(if (k==NameKind.U&&X.env.scope.kind==.function&&X.env.Q x==some .cell)=true then NameKind.cell else k)=.local:=AV I;split at I
   .cases I
   .subst I;exact S.apart x U J
 .exact S.Q (C:=C)<|.inl h
 .exact S.Q (C:=C)<|.inr h
def ji.back(S:ji X scope)(h:scope.names.e x=some .free):(compEnvC scope (ij scope X.o) C X.o).Q x=some .cell\/(compEnvC scope (ij scope X.o) C X.o).Q x=some .free:=by
 have e:(compEnvC scope (ij scope X.o) C X.o).Q x=(scope.names.e x).y λk=>if (k==NameKind.U&&X.env.scope.kind==.function&&X.env.Q x==some .cell) then NameKind.cell else k:=ai
 rw[e,h];show some (if _ then _ else _)=_\/some (if _ then _ else _)=_;split
 .exact .inl rfl
 .exact .inr rfl
def PF(X:Cx)(ml:aaj)(t:TT):Prop:=
 ∀(pins:List<|Addr×Obj) (s:aar) (σ:St) (H:Hp) (Q:Bool->Hp->Prop),'v'->t σ H Q->
  _S X (forIn ml true λc r=>if r=true then do let ok <-isTrue c X.o (eval c X.o);pure (ForInStep.yield ok) else pure (ForInStep.yield r)) (TP X pins σ Q) X.xe s
def S7:TT:=λ_ H Q=>Q true H
def S8 :PF X [] S7:=λ_ _ _ H _ I h=>Aq {(H),I,h}
def S9{t:TT}(hc:PT X c t):PF X [c] t:=by intro J s U H Q I h;rw[Dj];simp only[if_true];refine Aa<|Aa<|aY (hc J s U H Q I h) λb g q=>Aq ?_;exact Aq q
def iX{w:aat}{R:Result->aar->Prop}{iter:Expr}{pos:Pos}{it C:aaq}(I:Nat->aar->Prop)
 (turn:∀n s,I n s->wpAny 'w' A (pyNext it) (λr J=>match r with
  |none=>R (.ok .next) J
  |some v=>wpAny 'w' A (letOwnedTupleGo target it v) (λ_ J=>wpAny 'w' A (assign target env v) (λ_ l=>
   wpAny 'w' A (forIn ml true λc r=>if r=true then do let ok <-isTrue c env (eval c env);pure (ForInStep.yield ok) else pure (ForInStep.yield r)) (λok g=>
    if ok=true then wpAny 'w' A (eval pj env) (λx o=>
     wpAny 'w' A (call (.builtin "list.append") [C,x]) (λ_ p=>∃m,m<n/\I m p) (λ_ _=>False) o) (λ_ _=>False) g
    else ∃m,m<n/\I m g) (λ_ _=>False) l) (λ_ _=>False) J) (λ_ _=>False) J) (λ_ _=>False) s)
 (n:Nat) (h:I n s):
 codeAny 'w' A (.compLoop (.ListComp pj [{target,iter,ml,0}] scope pos) 0 it C env) R s:=by
 refine codeAny_loop rfl I (λn s hI=>?_) n h;show wpAny _ A ((compTurn (.ListComp pj [{target,iter,ml,0}] scope pos) 0 it C env).onRaise (λx=>do noteFrame x env;theTreesLotGoes x)) _ _ s;refine wpAny_noted ?_;rw[compTurn_list];refine Aa<|wpAny_standAt<|Aa<|A5 (turn n s hI) (λr J U=>?_) λ_ _ j=>j.elim;cases r with
 |none=>exact Aq U
 |some v=>
  refine Aa<|A5 U (λ_ J U=>?_) λ_ _ j=>j.elim;refine Aa<|A5 U (λ_ l T=>Aa<|A5 T (λok g t=>?_) λ_ _ j=>j.elim) λ_ _ j=>j.elim;cases ok with
  |false=>exact Aq {(rfl),t}
  |true=>
   exact Aa<|Aa<|A5 t (λx o a1=>Aa<|A5 a1 (λ_ p a2=>Aq<|Aq {(rfl),a2}) λ_ _ j=>j.elim) λ_ _ j=>j.elim
def GB(n:Nat)(wi:TI)(g:TG)(tc:TT)(te:TE):TE:=λσ H Q=>wi σ H λJ H1=>∃W:Nat->Nat->HT->Hp->Prop,(∃m,W 0 m [] H1)/\∀i m ys H,W i m ys H->
 (J.stop i H/\ys.l<=sizeLine/\∀D,H D=none->Q (.ref D) (upd H D<|.lst ys))\/
 (J.go i H/\ys.l<sizeLine/\∀x H',J.yld i H x H'->g x (σ++List.replicate n none) H' λI H2=>tc I H2 λb U=>
  if b=true then te I U λy j=>∃m',m'<m/\W (i+1) m' (ys++[y]) j else ∃m',m'<m/\W (i+1) m' ys U)
def qA(g:TG)(n k:Nat):Prop:=∀(σ:St),σ.l=n->∀x H Q,g x (σ++List.replicate k none) H Q->
 g x (σ++List.replicate k none) H λI H2=>((I.l=n+k/\∀(i:Nat) v,(σ++List.replicate k none)[i]?=some (some v)->I[i]?=some (some v))/\Q I H2)
section
variable {T:aai}{iter:Expr}{g:TG}{te:TE}
def ltN{b:Addr}{o:Obj}(e:h.x b=some o):@LT.lt Nat instLTNat b h.objs.q:=xT e
def yX{a b:Addr}(h:@Ne Nat a b):a≠b:=h
def Fk{a b:Addr}(h:@LE.le Nat instLENat a b):a<=b:=h
def S'(eH:aaf)(n:Nat)(u:aaq):∃n',Obj.mapSeq (·.I u) {cls:=.type "list",data:=.seq eH.m n}=({cls:=.type "list",data:=.seq (eH++[u]).m n'}:Obj):=
 ⟨_,by simp[Obj.mapSeq];rfl⟩
def yw{w:aat}{D:Addr}(I:s.heap.x D=some {cls:=.type "list",data:=.seq eH.m n})
 (hz:eH.l<=sizeLine) (h:∀h' n',Heap.SameBut D s.v h'->h'.get? D=some {cls:=.type "list",data:=.seq (eH++[u]).m n'}->Q .none {s with heap:=h'}):
 wpAny 'w' A (call (.builtin "list.append") [.ref D,u]) Q E s:=by
 have U:s.heap.IsList D eH.m:={_,I,rfl,n,rfl};refine wpAny_call_entry slot_list_append U.typeIs entry_list_append ?_<|args_list_append _ _;show wpAny _ _ (updateSeq D (·.I u) >>= λ_=>ret .none) _ _ s;refine Aa ?_;obtain⟨n',J⟩:=S' eH n u;refine wpAny_updateSeq (f:=(·.I u)) I rfl (Aq {.none,rfl,h _ n' (As ..) ?_}) ([Av]≈hz) ([BB,Av]≈DG hz);rw[<-J];exact Fg _ I (by rw[J];rfl)
theorem ip{Q:VK}{pos:Pos}{c3:aaq}{I:aar}{RR:aaq->Addr->Result->aar->Prop}
 (S:ji X scope) (hc:X.calm=true)
 (hg:∀C fp s₀ H₀,PG 'x' target g) (dc:qA g X.N.l T.l) (hf:∀C fp s₀ H₀,PF 'x' ml tc) (he:∀C fp s₀ H₀,PE 'x' pj te)
 (h:Hl X pins σ target (λJ H1=>∃W:Nat->Nat->HT->Hp->Prop,(∃m,W 0 m [] H1)/\∀i m ys H,W i m ys H->
  (J.stop i H/\ys.l<=sizeLine/\∀D,H D=none->Q (.ref D) (upd H D<|.lst ys))\/
  (J.go i H/\ys.l<sizeLine/\∀x H',J.yld i H x H'->g x (σ++List.replicate T.l none) H' λc4 H2=>tc c4 H2 λb H3=>
   if b=true then te c4 H3 λy H4=>∃m',m'<m/\W (i+1) m' (ys++[y]) H4 else ∃m',m'<m/\W (i+1) m' ys H3)) c3 I)
 (de:∀D C s' H' m',za X pins σ H' s'->rZ X pins H' C->s'.heap.Ns C m'->Q (.ref D) H'->RR (.ref D) C (.ok .next) s'):
 _S X (newList []) (λc5 au=>_S X (newFunctionEnv scope X.env.globals (ij scope X.o) [] X.env.qual none .none<|some X.o) (λbg c6=>
  codeAny 'a' X.A (.compStart (.ListComp pj [{target,iter,ml,0}] scope pos) 0 c3 c5 {bg with scope:=relabel scope X.o}) (RR c5 bg.M) c6) E au) E I:=by
 obtain⟨it,fp,tn,J,H2,rfl,U,Tn,bi,f2,W,⟨m0,w0⟩,turn⟩:=h;refine BE (wpAny_newFunctionEnv S.nocell (by intro y hy;simp at hy) (λba al t=>?_) S.kind);dsimp only at al t ⊢;generalize bj:I.heap.I {cls:=.type "list",dict:=none,data:=.seq ([]:aaf).m}=G at al t ⊢;have hC:G.objs.q=↥I+1:=by rw[<-bj,Fa]
 obtain⟨D,eD⟩:∃D,↥I=D:={_,rfl};obtain⟨C,eC⟩:∃C,G.objs.q=C:={_,rfl};rw[eD] at hC ⊢;rw[eC] at hC al t ⊢;have bn:D≠C:='s'
 have old:∀b o,I.heap.x b=some o->ba.get? b=some o:=λb o e=>by have j:=ltN e;exact t.extBut b o (yX 's')<|wh _<|bj▸wh _ e
 have c7:ba.x D=some {cls:=.type "list",data:=.seq ([]:aaf).m 0}:=by refine t.extBut _ _ bn<|wh _ ?_;rw[<-bj,<-eD];exact ya _ rfl
 have bp:∀b∈fp,@LT.lt Nat instLTNat b ↥I:=λb j=>by obtain⟨o,e,_⟩:=Tn.obj _ _ bi b j;exact ltN e
 have c8:=U.lt;have ef:=U.sz;have HD:=U.KB.fresh<|Fk<|zR;have HC:H2 C=none:=U.KB.fresh<|Fk 's';have di:∀b:Addr,@LE.le Nat instLENat ↥I b->b∉dk X.p:=λb j z=>by
  have q:=U._s b z;obtain q|q:=Ao.j q
  .rw[<-q] at c8;exact absurd c8<|ES.mpr j
  .exact U.nofs j q
 have bb:∀x c,X.env.cells.e x=some c->@LT.lt Nat instLTNat c ↥I:=λx c e=>by obtain⟨v,q⟩:=U.cell x c e;exact q.lt
 let X':Cx:=X.comp scope T C fp I H2
 have bq:X'.Ok:={
  mod:=U.ok.mod,kind:=S.kind,glob:=U.ok.glob,blt:=U.ok.blt
  above:=Fk (by show @LE.le Nat instLENat ↥I C;lia)
  inj:=λx y c h1 h2=>U.ok.inj x y c (S._u U h1) (S._u U h2)
  has:=λx hx=>S.cl_has (S.Q hx)
  cab:=λx c hx=>absurd (show false=true from hx) 'r'
  hd:=U.ok.hd,frames:=U.ok.frames,stk:=.inl rfl
  exf:=λb j=>{yX (by have:=bp b j;show @Ne Nat b C;lia),λx c e=>(f2 b j).2.2.2.2.1 x c<|S._u U e}
  bs:=U.bs,bsz:=AQ U.ok.bsz U.sz
  _H:=λb o e j=>by
   obtain⟨e0,n0⟩:=U.ok.bs b o e;obtain q|q:=(f2 b j).2.2.2.1
   .exact U.ok._H b o e q
   .have q':=q;have:=ltN e0;lia
  _I:=λb j z=>by
   obtain q|q:=Ao.j (U._s b z)
   .exact(f2 b j).2.1 q
   .exact(f2 b j).2.2.1 q
  _o:=U.p,frf:=U.stkFree}
 have I4:∀tk,0<tk->za X' pins (σ++List.replicate T.l none) H2 {I with heap:=ba,toks:=tk}:=λtk dj=>{
  tk:=dj,ok:=bq,os:=rfl,bare:=U.bare,base:=Un.kept old
  loc:={_,al,λi x v e1 e2 e3=>by
   have hi:i<σ.l:=by
    by_cases hi:i<σ.l
    .exact hi
    .rw[AH<|HE,BY] at e2;split at e2<;>cases e2
   rw[AG hi] at e2;have dp:i<X.N.l:=by rw[<-U.len];exact hi
   have c9:X.N[i]?=some x:=by have:(X.N++T)[i]?=some x:=e1;rw[AG dp] at this;exact this
   have br:=S.vis (AD c9) e3;obtain⟨m,hn,hl⟩:=U.loc;have hk:=S.U x br;obtain⟨u,r,l⟩:=hl i x v c9 e2<|.inr hk;refine{u,r,.inr {S.back br,?_}};rcases l with⟨l,_⟩|⟨_,c,e,z⟩
   .rw[l] at hk;obtain q|q:=hk<;>cases q
   .obtain⟨c',e'⟩:=S.cl_has br;have cc:=S._u U e';rw[e] at cc;cases cc;exact{c,e',z.keeps old}}
  cell:=λx c e=>by obtain⟨v,z⟩:=U.cell x c<|S._u U e;exact{v,z.keeps old}
  free:=HC,Pi:=λx c e=>U.Pi x c (S._u U e)
  pin:=λp hp=>by
   obtain⟨a,b,c,d,e⟩:=U.pin p hp;have dr:=ltN a;refine{old _ _ a,b,yX (by show @Ne Nat p.1 C;lia),λz=>?_,e};obtain q|q:=Ao.j (U._s _ z)
   .exact c q
   .exact d q
  KB:=U.KB.kept old
  len:=by show(σ++_).l=(X.N++T).l;rw[Ab,Ab,B7,U.len]}
 have c0:∀(av:List<|Addr×Obj) (H':Hp),(∀p∈av,p∈pins\/p.1=D)->(∀b∈fp,H' b=none)->∀b∈fp,rZ X' av H' b:=λav H' hp hn b j=>by
  obtain⟨_,q1,q2,q3,q4,q5⟩:=f2 b j;have dr:=bp b j;refine{hn b j,yX (by show @Ne Nat b C;lia),bq._I b j,.inl j,(bq.exf b j).2,λp du=>?_};obtain z|z:=Am.j du
  .exact q5 p<|An _ z
  .rcases hp p z with z|z
   .exact q5 p<|Ai _ z
   .rw[z];exact yX 's'
 have _e:Tn.keep=Tn.keep:=rfl;have bh:∀au:aar,au={I with heap:=ba,toks:=I.D+([]:List<|Str×aaq).l}->
  codeAny 'a' X.A (.compLoop (.ListComp pj [{target,iter,ml,0}] scope pos) 0 (.ref it) (.ref D) X'.o) (RR (.ref D) C) au:=by
  rintro au rfl;refine iX (λn s'=>∃i c1 H' ys ar k,za X' pins c1 H' s'/\(c1.l=X.N.l+T.l/\∀(i:Nat) v,(σ++List.replicate T.l none)[i]?=some (some v)->c1[i]?=some (some v))/\
   s'.heap.x D=some {cls:=.type "list",data:=.seq (ar:aaf).m k}/\zw ys ar/\H' D=none/\tn i s'.v/\(∀b∈fp,H' b=none)/\W i n ys H') ?_ m0
   ⟨0,_,H2,[],[],0,I4 _ U.tk,⟨by rw[Ab,B7,U.len],λ_ _ e=>e⟩,c7,.nil,HD,Tn.keep _ _ _ bi λb _ o e=>old b o e,λb j=>(f2 b j).1,w0⟩
  rintro n s3 ⟨i,eg,H3,ys,ar,k,I3,⟨dv,dV⟩,e4,bd,bf,ck,cm,w3⟩;have ee:=bd.length.L;have cn:=di D<|zR;have cv:=bn;have cy:za X' (pins++[(D,{cls:=.type "list",data:=.seq ar.m k})]) (σ++List.replicate T.l none) H3 s3:=
   (I3.weak (by rw[dv,Ab,B7,U.len]) dV).pins_of λp hp=>by
    obtain z|z:=Am.j hp
    .exact I3.pin p<|Ai _ z
    .have e:=Ak.j z;subst e;exact{e4,bf,cv,cn,λv z=>by cases z}
  have aL:∀p∈pins++[(D,({cls:=.type "list",data:=.seq ar.m k}:Obj))],p∈pins\/p.1=D:=λp hp=>by
   obtain z|z:=Am.j hp
   .exact .inl z
   .exact .inr (by rw[Ak.j z])
  rcases turn i n ys H3 w3 with⟨stop,hz,qn⟩|⟨go,hz,step⟩
  .refine aY (Tn.done X' rfl rfl rfl hc i _ s3 _ H3 _ cy (c0 _ H3 aL cm) ck stop) λr s4 ⟨hr,ac⟩=>?_;subst hr;obtain⟨e5,ej,_⟩:=ac.pin (D,_)<|Ai _<|Ai _ Ag;obtain⟨m',e6,_⟩:=ac.loc;have un:Un (dk X.p) fp H2 (upd H3 D<|.lst ys) I.v s4.v:={
    keep:=ac.base.keep,slot:=ac.base.slot
    free:=λb o e n hx=>by have:=ltN e;rw[qp<|yX 's'];exact ac.base.U b o e n hx
    there:=ac.base.there
    _h:=λb xs e=>by rw[qp (λz=>by rw[z,HD] at e;cases e)];exact ac.base._h b xs e
    _i:=λb o u e=>by rw[qp (λz=>by rw[z,HD] at e;cases e)];exact ac.base._i b o u e
    _t:=λb ps e=>by rw[qp (λz=>by rw[z,HD] at e;cases e)];exact ac.base._t b ps e}
   have e7:gB X.i X.w (upd H3 D<|.lst ys) s4.v:=λb u e=>by
    by_cases j:b=D
    .subst j;rw[zg] at e;cases e;exact{(hz),ar,k,bd,e5}
    .rw[qp j] at e;refine(ac.KB b u e)._e (λ_ _ _ q=>q) (λc q=>?_) λc xs q=>?_
     .rw[qp<|jf q bf];exact q
     .rw[qp<|jf q bf];exact q
   have I5:=U.call' (ch:=fp) ac.os un e7 ac.bare λb j=>{(f2 b j).2.2.2.1,(f2 b j).2.1,(f2 b j).2.2.2.2.1,(f2 b j).2.2.2.2.2};refine de D C s4 _ m' I5 ?_ e6<|qn D bf;refine{by rw[qp<|AN bn];exact ac.U,?_,?_,.inr ?_,λx c e=>?_,λp hp=>?_}
   .exact yX 's'
   .exact U.nofs<|Fk 's'
   .exact Fk 's'
   .exact yX (by have:=bb x c e;lia)
   .exact yX (by have:=ltN (U.pin p hp).1;lia)
  .refine aY (Tn.item X' rfl rfl rfl hc i _ s3 _ H3 _ cy (c0 _ H3 aL cm) ck go) λr s4 ⟨u,hr,h4⟩=>?_;subst hr;refine aY h4 λ_ s5 ⟨x,H5,I5,r5,y5,c2,e8⟩=>?_;have ec:=I5.pinned (c0 _ H5 aL e8)<|Tn.obj _ _ c2;refine A5 ((hg C fp I H2) _ s5 _ H5 x u _ ec r5<|dc σ U.len x H5 _<|step x H5 y5) (λ_ s6 ⟨bc,H6,I6,⟨cB,cP⟩,q6⟩=>?_) λ_ _ z=>z;refine A5 ((hf C fp I H2) _ s6 bc H6 _ I6 q6) (λb s7 ⟨H7,I7,q7⟩=>?_) λ_ _ z=>z;have jj:∀{s8:aar} {H8:Hp} (I8:za X' ((pins++[(D,{cls:=.type "list",data:=.seq ar.m k})])++qL fp s5.v) bc H8 s8),tn (i+1) s8.v/\(∀b∈fp,H8 b=none)/\s8.heap.x D=some {cls:=.type "list",data:=.seq ar.m k}/\H8 D=none/\za X' pins bc H8 s8:=λ{s8 H8} I8=>by
    refine{Tn.keep _ _ _ c2 λb j o e=>(I8.pin (b,o)<|Ai _<|Ai _<|fI j e).1,λb j=>?_,?_,?_,I8._l._l}
    .obtain⟨o,e,d⟩:=Tn.obj _ _ c2 b j;exact(I8.pin (b,o)<|Ai _<|Ai _<|fI j e).2.1
    .exact(I8.pin (D,_)<|Ai _<|An _<|Ai _ Ag).1
    .exact(I8.pin (D,_)<|Ai _<|An _<|Ai _ Ag).2.1
   cases b with
   |false=>
    rw[Az AI] at q7 ⊢;obtain⟨m',hm,w7⟩:=q7;obtain⟨a1,a2,a3,a4,a5⟩:=jj I7;exact{m',hm,i+1,bc,H7,ys,ar,k,a5,{(cB),cP},a3,bd,a4,a1,a2,w7}
   |true=>
    rw[AF rfl] at q7 ⊢;refine A5 ((he C fp I H2) _ s7 bc H7 _ I7 q7) (λv s8 ⟨y,H8,I8,r8,m',hm,w8⟩=>?_) λ_ _ z=>z;obtain⟨a1,a2,a3,a4,a5⟩:=jj I8;refine yw a3 's' λh9 k9 d0 ed=>?_;have nD:∀b∈fp,b≠D:=λb j=>yX (by have:=bp b j;lia);refine{m',hm,i+1,bc,H8,ys++[y],ar++[v],k9,?_,{(cB),cP},ed,bd.append<|.cons r8 .nil,a4,Tn.keep _ _ _ a1 λb j o e=>(d0.2 b<|nD b j).t e,a2,w8};exact a5.turned (t':=s8.D) (it:=D) (λb o j e=>(d0.2 b j).t e) a4 cv (.inr<|Fk (by exact zR)) (λx c e=>yX (by have:=bb x c<|S._u U e;lia)) λp hp=>yX (by have:=ltN (U.pin p hp).1;lia)
 exact codeAny_compStart_list (bh _ rfl)<|Tn.self _ _ _ _ _ (Tn.keep _ _ _ bi λb _ o e=>old b o e)<|bh _ rfl
end
section
variable {T:aai}{iter:Expr}{g:TG}{te:TE}
def aug(T:aai){pos:Pos}(S:ji X scope)(hc:X.calm=true)(hi:PI X target iter wi)(t:∀C fp s₀ H₀,PG 'x' target g)(j:qA g X.N.l T.l)
 (hf:∀C fp s₀ H₀,PF 'x' ml tc) (he:∀C fp s₀ H₀,PE 'x' pj te)
 (hs:∀x,foldedSetIterable iter X.o x=pure x:=by intro _;rfl):PE X (.ListComp pj [{target,iter,ml,0}] scope pos) (GB T.l wi g tc te):=by
 intro J s r H Q I h;rw[eval_ListComp];refine wpAny_comprehension_free (use:=none) rfl hs (S.clo I) S.kind S.names<|aY (hi J s r H _ I h) λv s1 h1=>aY h1 λa1 s2 h2=>?_;refine ip (RR:=λl C=>compPost 'a' X.A X.xe none (EP X J r Q) l C) S hc t j hf he h2 ?_;intro D C s' H' m' I' U hn q;exact{m',hn,λh' p=>{.ref D,H',I'.turned (t':=s'.D) (it:=C) (λb o hb e=>(p.2 b hb).t e) U.1 (AN<|AN U.2.1) U.2.2.2.1 U.2.2.2.2.1 U.2.2.2.2.2,rfl,q}}
theorem Ta(T:aai){px pos:Pos}(hN:X.N.c)(j:X.N[i]?=some x)(hx:Loc X.env.scope x)(S:ji X scope)(hc:X.calm=true)(hi:PI X target iter wi)
 (hg:∀C fp s₀ H₀,PG 'x' target g) (l:qA g X.N.l T.l)
 (hf:∀C fp s₀ H₀,PF 'x' ml tc) (he:∀C fp s₀ H₀,PE 'x' pj te)
 (p:swapsWith (.ListComp pj [{target,iter,ml,0}] scope lp) (some<|.Name x px) pos.line X.o=pure true:=by rfl)
 (r:X.fn x=true\/X.env.scope.names.e x=some .local:=by first|exact .inl rfl|exact .inr rfl|assumption)
 (hs:∀x,foldedSetIterable iter X.o x=pure x:=by intro _;rfl):PS X (.Assign [.Name x px] (.ListComp pj [{target,iter,ml,0}] scope lp) pos) (Hk (GB T.l wi g tc te)<|gq i):=by
 intro pins s σ H D I h;rw[exec_Assign_Name_used _ _ _ _ p];refine Aa<|wpAny_standAt<|Aa ?_;refine Aa (A5 (wpAny_comprehension_free (use:=some<|assign (.Name x px) X.o) (Q:=λ_ U=>SP X pins D .next U) rfl hs (S.clo I) S.kind S.names
  (aY (hi pins s σ H _ I h) λv s1 h1=>aY h1 λa5 s2 h2=>?_)) (λ_ U hq=>Aq<|Aq hq) λ_ _ e=>e)
 refine ip (RR:=λt C=>compPost 'a' X.A X.xe (some<|assign (.Name x px) X.o) (λ_ U=>SP X pins D .next U) t C) (pins:=pins) (σ:=σ) (Q:=λx H1=>gq i x σ H1 D.nx) S hc hg l hf he h2 ?_;intro A C U H' m' I' J hn q;refine wpAny_assign_Name<|tS I' hN j hx (v:=.ref A) rfl (λa1 a2 ⟨a,hs,ha⟩ _=>?_) r;have a3:C≠a:=by
  obtain z|z:=ha
  .rw[z];exact J.2.1
  .exactλe=>J.2.2.2.2.1 x a z e.L
 exact{m',hn.sameBut hs a3,λh' a4=>{_,H',a2.turned (t':=a1.D) (it:=C) (λb o hb e=>(a4.2 b hb).t e) J.1 J.2.1 J.2.2.2.1 J.2.2.2.2.1 J.2.2.2.2.2,q}}
end
def kg(outer:Scope)(N:aai)(I:Scope):Bool:=
 decide (I.kind=.function)&&I.names.all (λp=>decide (p.2≠.cell)&&(decide (p.2≠.local)||decide (I.names.e p.1=some .local))&&(decide (p.2≠.free)||(decide (outer.names.e p.1=some .cell)||decide (outer.names.e p.1=some .free))))
  && N.all (λx=>decide<|I.names.lookup x≠some .local)
def kg.mk{I:Scope}(h:kg X.env.scope X.N I=true):ji X I:=by
 unfold kg at h;rw[AS,AS,BR,BR] at h;obtain⟨⟨h1,h2⟩,h3⟩:=h;have g:∀n,(n,NameKind.U)∈I.names->X.env.kindOf n=some .cell\/X.env.Q n=some .free:=λn J=>by
  have q:=h2 _ J;simp only[AS,EG,decide_eq_true_eq] at q;obtain z|z:=q.2
  .exact absurd rfl z
  .exact z
 refine{of_decide_eq_true h1,λy U=>?_,λy U e=>?_,λn J=>g n<|BL J,g,λx j=>of_decide_eq_true<|h3 x j}
 .have q:=h2 _ U;simp only[AS,EG,decide_eq_true_eq] at q;exact q.1.1
 .have q:=h2 _ U;simp only[AS,EG,decide_eq_true_eq] at q;obtain z|z:=q.1.2
  .exact absurd e z
  .exact z
abbrev E4:=@kg.mk
def y4(n:Nat):qA (gq n) n 1:=by
 intro U I x H Q h;refine{{by simp[I],λi v e=>?_},h};by_cases J:i=n
 .subst J;rw[AH<|zR] at e;simp[I] at e
 .rw[AX<|AN J];exact e
def dq:bootBuiltins "isinstance"=some (.builtin "isinstance"):='z'
def pC:bootBuiltins "tuple"=some (.type "tuple"):='z'
def Tb:bootBuiltins "int"=some (.type "int"):='z'
def fW:bootBuiltins "list"=some (.type "list"):='z'
def yq:bootBuiltins "len"=some (.builtin "len"):='z'
def GC{k:Nat}(I:aX k A):A.units+128<cLine:=by have:=I.un;lia
def small(h:n<=1000):n<=sizeLine:=Br<|tG h
def Cal.of{P:aas}{w:aat}{K:Aj}{k:Nat}(F:dI P w K mg base CX0 k f fd ps sp)(b:ff K fd ps [])(I:PySem.W.keepIn K (.ref f)=true)(m:mg x=↑f):
 Cal P w K mg base k x ps sp:={(f),fd,F,b,I,m}
def dI.never{P:aas}{w:aat}{K:Aj}{k:Nat}(no:∀vs H Q E,¬sp vs H Q E):dI P w K mg base CX0 k f fd ps sp:=
 ⟨λvs H Q E h=>absurd h<|no vs H Q E,λA I s H args J vs Q E _ _ _ _ h=>absurd h<|no vs H Q E⟩
section
variable (K:Aj)(P:aas)(w:aat)
end
structure j5(K:Aj)(x:Str)(st:Stmt):Prop where
 ex:∃(f:Addr) (kV hQ pm:aaq) (an:Option Addr) (eS ct:aaq),PySem.W.nsIn K mainGlobals x=some (↑f)/\Fun K x x st f (PySem.W.fnOf x x (ww st) (xj st) 'e' .none kV hQ pm an eS ct)
def def_in{K:Aj}{st:Stmt}{kV ct:aaq}(a:PySem.W.nsIn K mainGlobals x=some (↑f))
 (l:K.e f=some ⟨oc,od,.func<|PySem.W.fnOf x x (ww st) (xj st) 'e' .none kV hQ pm an eS ct,pR⟩) (c:PySem.W.codeIn K eS x=true) (k:PySem.W.keepIn K (.ref f)=true):j5 K x st:=
 ⟨f,kV,hQ,pm,an,eS,ct,a,SW (st:=st) l c k⟩
def j5.use{K:Aj}{st:Stmt}(D:j5 K x st)(X:K.In h)(G:h.Ns mainGlobals mg)
 (I:∀(kV hQ pm:aaq) (an:Option Addr) (eS ct:aaq) (us:aaf),us.l=ps.l->bindArgs (PySem.W.fnOf x x (ww st) (xj st) 'e' .none kV hQ pm an eS ct) ⟨us,[]⟩=pure (ps.zip us)):
 ∃f fd,Fun K x x st f fd/\ff K fd ps []/\mg x=↑f:=by
 obtain⟨f,kV,hQ,pm,an,eS,ct,a,F⟩:=D.ex;exact{f,_,F,ff.all<|I kV hQ pm an eS ct,Bw X G a}
def GD(w:aat)(r:Str×Tok×Str×Tok):DictEntry:={hashStr w r.1,.str r.1 r.2.1,.str r.2.2.1 r.2.2.2}
def Tc{K:Aj}{P:aas}{w:aat}{c:Addr}(rows:List<|Str×Tok×Str×Tok)(l:K.e c=some ⟨.type "dict",none,.dict (rows.y<|GD w).m ep,#[]⟩)(hs:(c==sysModules)=false)(hz:rows.l<=1000)(nd:(rows.y λr=>(Sum.inr r.1:jk)).c):
 KD K P w c (rows.y λr=>(Sum.inr r.1,.str r.2.2.1)):=by
 refine{hs,by rw[Ac];exact small hz,λh X=>{rows.y λr=>(Sum.inr r.1,.str r.2.2.1 r.2.2.2),?_,_,_,ep,X c _ l,{(rfl),rfl,rfl},rfl,?_,?_,?_}}
 .unfold KV;clear l hz nd
  induction rows with|nil=>exact .nil|cons r t I=>exact .cons {rfl,_,rfl} I
 .intro e U;have J:e∈rows.y (GD w):=by simpa using U
  obtain⟨r,_,rfl⟩:=AM.j J;exact{Sum.inr r.1,dw r.1 r.2.1,rfl}
 .show Pairs _ (rows.y<|GD w).toArray.toList _;rw[DP];clear l hz nd
  induction rows with|nil=>exact .nil|cons r t I=>exact .cons (dw r.1 r.2.1) rfl I
 .rw[BI];exact nd
inductive Wd where
 |leaf (t:Bool) (n:Str)
 |node (e:Bool) (l r:Wd)
def kL:Bool->Str
 |false => "plain"
 |true => "turned"
def kN:Bool->Str
 |false => "both"
 |true => "either"
def Wd.turn:Wd->Wd
 |.leaf t n=>.leaf (!t) n
 |.node e l r=>.node (!e) l.turn r.turn
def Wd.depth:Wd->Nat
 |.leaf _ _=>1
 |.node _ l r=>max l.J r.J+1
def Wd.SL:Wd->Nat
 |.leaf _ _=>1
 |.node _ l r=>l.SL+r.SL
theorem Wd._z:∀w:Wd,w.turn.turn=w
 |.leaf t n=>by simp[Wd.turn]
 |.node e l r=>by simp[Wd.turn,Wd._z l,Wd._z r]
abbrev E7:=@Wd._z
theorem Wd._E:∀w:Wd,1<=w.SL
 |.leaf _ _=>Ap _
 |.node _ l r=>by have:=Wd._E l;exact JP
abbrev E8:=@Wd._E
theorem Wd._F:∀w:Wd,w.J<=w.SL
 |.leaf _ _=>Ap _
 |.node _ l r=>by have:=Wd._F l;have:=Wd._F r;have:=E8 l;have:=E8 r;show max l.J r.J+1<=l.SL+r.SL;lia
def rh:Wd->Da
 |.leaf t n=>.tup [.s<|.str<|kL t,.s<|.str n]
 |.node e l r=>.tup [.s<|.str<|kN e,rh l,rh r]
theorem pH:∀w:Wd,Da.eq (rh w) (rh w)=true
 |.leaf t n=>by simp[rh,Da.eq,Da.eqs,iz]
 |.node e l r=>by simp[rh,Da.eq,Da.eqs,iz,pH l,pH r]
def fK(x:Str):Prop:=1<=x.l/\x.l<=8/\∀c∈x.cps.z,97<=c/\c<=122
def Wd.ok:Wd->Prop
 |.leaf _ n=>fK n
 |.node _ l r=>l.ok/\r.ok
def Paired.getP{F:α->β->Prop}:∀{xs:List α} {ys:List β} {i:Nat} {x:α},Paired F xs ys->xs[i]?=some x->∃y,ys[i]?=some y/\F x y:=by
 intro xs ys i x h
 induction h generalizing i with
 |nil=>intro h;simp at h
 |cons r t I=>
  intro h;cases i with
  |zero=>simp at h;subst h;exact{_,rfl,r}
  |succ i=>
   obtain⟨y,e,q⟩:=I (i:=i) (~~~h);exact{y,~~~e,q}
def JY:bootBuiltins "max"=some (.builtin "max"):='z'
def Wd.size:Wd->Nat
 |.leaf _ _=>1
 |.node _ l r=>1+l.q+r.q
theorem Wd.size_eq:∀w:Wd,w.q+1=2*w.SL
 |.leaf _ _=>rfl
 |.node _ l r=>by have:=Wd.size_eq l;have:=Wd.size_eq r;show 1+l.q+r.q+1=2*(l.SL+r.SL);lia
theorem vd.get{P:aas}{w:aat}{a:Addr}{o:HO}(x:vd P w H h a o):∃ob,h.x a=some ob:=by
 cases o with
 |lst I=>obtain⟨_,_,_,_,e⟩:=x;exact{_,e}
 |tup I=>obtain⟨_,_,_,_,e,_⟩:=x;exact{_,e}
 |dK J=>obtain⟨_,_,_,_,o,_,_,e,_⟩:=x;exact{_,e}
 |ins C U fs=>obtain⟨_,_,_,e,_⟩:=x;exact{_,e}
 |own y=>exact x
 |rng lo g=>obtain⟨_,_,_,e⟩:=x;exact{_,e}
 |_b ob u=>obtain⟨e,_⟩:=x;exact{_,e}
 |_N j=>exact{_,show h.x a=some _ from x}
def uO(h0 h:aau)(H:Hp)(a C:Addr)(tr:Option Addr):Prop:=
 h0.x a=none/\H a=none/\∃I vs a0,h.x a=some I/\I.cls=.ref C/\I.data=.fields vs/\vs[0]?=some a0/\
  match tr with
  |none=>vs[1]?=some .none
  |some T=>vs[1]?=↑T/\h0.x T=none/\H T=none/\T≠a/\∃J ts,h.x T=some J/\J.data=.fields ts/\ts[3]?=some .none
def cN(a:Addr)(tr:Option Addr)(fs:List Addr):List Addr:=a::(tr.z++fs)
section
variable {a:Addr}{tr:Option Addr}
def oF{l:List Env}{b:Addr}(h:env∈l)(e:env.frame=some b):b∈dk l:=DX.d {(env),h,e}
def oP(I:'v')(hs:X.p=X.o::X.outer)(hx:X.ex=[])(new:X.s₀.heap.x a=none)(free:H a=none)(j:∀T,tr=some T->X.s₀.heap.get? T=none/\H T=none){a0 fl:aaq}
 (k1:(PySem.W.hideAll s.v<|cN a tr<|dk X.p).StaysIn h') (k2:h'.FunFrames (PySem.W.hideAll s.v<|cN a tr<|dk X.p) X.p) (k3:h'.TracedAtW (PySem.W.hideAll s.v<|cN a tr<|dk X.p) a (.ref C) a0 fl)
 (k4:∀b o,s.heap.x b=some o->(∀vs,o.data≠.fields vs)->∃sl,h'.x b=some {o with slots:=sl}):
 Un X.fs [] X.H₀ H X.s₀.v h'/\gB X.i X.w H h'/\∃T,(∀b o,s.heap.x b=some o->(∀T0,tr=some T0->b≠T0)->b≠T)/\X.s₀.heap.x T=none/\H T=none/\T≠a/\∃oe vs oT ts,h'.x a=some oe/\oe.cls=.ref C/\vs[0]?=some a0/\oe.data=.fields vs/\vs[1]?=↑T/\h'.x T=some oT/\oT.data=.fields ts/\ts[3]?=some fl:=by
 have kp:=λb o e n=>k1 b o<|C6 _ e n;have sl:∀b o,s.heap.x b=some o->b∈dk X.p->∃sl,h'.x b=some {o with slots:=sl}:=λb o e J=>by obtain⟨_,l,e',nf⟩:=I.stack.mem J;rw[e] at e';cases e';exact k4 b o e nf
 have p:∀b,b∈cN a tr (dk X.p)->H b=none:=λb J=>by
  obtain e|J:=Ao.j J
  .rw[e];exact free
  .rcases Am.j J with q|q
   .exact(j b (~~~q)).2
   .exact I.stkFree b q
 have g:∀b o,X.s₀.heap.x b=some o->b∉X.fs->b∉cN a tr (dk X.p):=λb o e nb J=>by
  obtain q|J:=Ao.j J
  .rw[q,new] at e;cases e
  .rcases Am.j J with q|q
   .rw[(j b (~~~q)).1] at e;cases e
   .rcases Ao.j (I._s b q) with q|q
    .exact absurd (AL (xT e) I.ok.above) ([q]≈Cs _)
    .exact nb q
 have r:∀b,b∈X.fs->b∈dk X.p:=λb J=>by
  rw[hs];unfold dk;rw[C7];split
  .exact J
  .exact Ae _ J
 have U:∀b:Addr,b∉X.ex:=λb=>by rw[hx];simp
 have a3:gB X.i X.w H h':=λb u e=>(I.KB b u e)._e (λc w' hc q=>kp c w' q λhm=>by
  have n:=p c hm;obtain z|z:=hc
  .rw[z,e] at n;cases n
  .rw[z] at n;cases n) (λ_ q=>q) λ_ _ q=>q
 refine{{λb o e n J _=>?_,λb o e n J _=>?_,λb o e n _=>I.base.free b o e n<|U b,λb o e _=>?_,I.base._h,I.base._i,I.base._t},a3,?_}
 .exact kp b o (I.base.keep b o e n J<|U b)<|g b o e J
 .obtain⟨z,t⟩:=I.base.slot b o e n J<|U b;obtain⟨z',e2⟩:=sl b _ t<|r b J;exact{(z'),e2}
 .obtain⟨l,t⟩:=I.base.there b o e<|U b;by_cases J:b∈X.fs
  .obtain⟨z',e2⟩:=sl b _ t<|r b J;exact{_,e2}
  .exact{l,kp b l t<|g b o e J}
 .obtain⟨al,ar,T,oT,ts,au,⟨av,aL⟩,ba,bb,a4,a1,hT,a5,h3⟩:=k3;have a2:∀o,s.heap.x T=some o->T∈cN a tr (dk X.p):=λo e=>by
   by_cases q:T∈cN a tr (dk X.p)
   .exact q
   .rw[C6 _ e q] at a4;cases a4
  have ac:T∉dk X.p:=λJ=>by obtain⟨_,l,e',nf⟩:=k2.mem J;rw[hT] at e';cases e';exact nf ts a5
  refine{T,λb o e ne z=>?_,?_,?_,a1,al,ar,oT,ts,au,av,aL,ba,bb,hT,a5,h3}
  .subst z;obtain z|z:=Ao.j (a2 o e)
   .exact a1 z
   .rcases Am.j z with z|z
    .exact ne b (~~~z) rfl
    .exact ac z
  .cases q:X.s₀.heap.x T with
   |none=>rfl
   |some o=>
    obtain⟨l,t⟩:=I.base.there T o q<|U T;obtain z|z:=Ao.j (a2 l t)
    .exact absurd z a1
    .rcases Am.j z with z|z
     .rw[(j T (~~~z)).1] at q;cases q
     .exact absurd z ac
  .cases q:H T with
   |none=>rfl
   |some u=>
    obtain⟨l,t⟩:=(I.KB T u q).get;have:=p T<|a2 l t;rw[q] at this;cases this
def Td{Q:aab}(I:'v')(hs:X.p=X.o::X.outer)(hf:X.env.frame=some X.env.M)(hx:X.ex=[])(L:uO X.s₀.v s.v H a C tr)
 (h:∀h' T,Un X.fs [] X.H₀ H X.s₀.v h'->gB X.i X.w H h'->uO X.s₀.v h' H a C (some T)->Q () {s with heap:=h'}):wpAny M X.A (leaving X.o<|.ref a) Q E s:=by
 have L0:=L;obtain⟨new,free,oe,vs,b0,g,hc,hd,h0,J⟩:=L0;have j:s.heap.FunFrames (PySem.W.hideAll s.v<|cN a tr<|dk X.p) X.p:=CQ I.p λenv g b hb=>Ae _<|Ai _<|oF g hb;have st:(PySem.W.hideAll s.v<|cN a tr<|dk X.p).StaysIn s.v:=λb o e=>CP _ e;have l:(PySem.W.hideAll s.v<|cN a tr<|dk X.p).x a=none:=BX _ Ag;have U:X.A.frames=some (X.o::X.outer):=by rw[<-hs];exact I.ok.frames
 have go:∀h',Heap.LeftW (PySem.W.hideAll s.v<|cN a tr<|dk X.p) (X.o::X.outer) a (.ref C) b0 s.v h'->Q () {s with heap:=h'}:=λh' ⟨k1,k2,k3,k4⟩=>by obtain⟨u,p,T,_,n1,n2,ne,r,t,oT,ts,e1,e2,e3,e4,e5,e6,e7,e8⟩:=oP I hs hx new free (by intro T e;subst e;exact{(J.2.1),J.2.2.1}) k1 (by rw[hs];rw[hs] at k2;exact k2) k3.at k4;exact h h' T u p {(new),free,r,t,b0,e1,e2,e4,e3,e5,n1,n2,ne,oT,ts,e6,e7,e8}
 have nT:∀T,tr=some T->(PySem.W.hideAll s.v<|cN a tr<|dk X.p).x T=none:=λT e=>by subst e;exact BX _<|Ae _<|An _ 'r'
 generalize PySem.W.hideAll s.v (cN a tr<|dk X.p)=base at j st l go nT;rw[hs] at j;cases tr with
 |none=>exact wpAny_leaving_firstW U j hf g st l hd J h0 ([hc]≈go)
 |some T=>
  obtain⟨h1,_,_,a1,oT,ts,hT,a2,h3⟩:=J;exact wpAny_leaving_nextW U j hf {oe,vs,T,oT,ts,g,{(hc),h0},hd,h1,nT T rfl,a1,hT,a2,h3} st l go
end
def e_(P:aas)(w:aat):d_:=λouter H s E e s'=>∃a C T H',e=.ref a/\s'.os=s.os/\AllBare s'.gens/\Un (dk outer) [] H H' s.v s'.v/\gB P w H' s'.v/\uO s.v s'.v H' a C (some T)/\E (.ref C) none H'/\0<s'.D
def yS(X:Cx)(a:Addr):Prop:=a≠X.env.M/\(∀x c,X.env.cells.e x=some c->c≠a)/\∀p∈X.pn,p.1≠a
abbrev X1:=St->aaq->Hp->Prop
def cD(X:Cx)(E1:X1):Prop:=∀(pins:List<|Addr×Obj) (σ:St) (H:Hp) (s:aar) (a C:Addr) (tr:Option Addr),'v'->uO X.s₀.v s.v H a C tr->yS X a->(∀T,tr=some T->yS X T)->E1 σ (.ref C) H->X.xe (.ref a) s
section
variable {a b T:Addr}{tr:Option Addr}{E1:X1}
def za.apart(I:'v')(h:s.heap.x b=none):yS X b:=by
 refine{λe=>?_,λx c e z=>?_,λp U z=>?_}
 .obtain⟨m,⟨o,_,_,J,_⟩,_⟩:=I.loc;rw[<-e,h] at J;cases J
 .obtain⟨v,o,J,_⟩:=I.cell x c e;rw[z,h] at J;cases J
 .obtain⟨e,_⟩:=I.pin p<|An _ U;rw[z,h] at e;cases e
def za.news(I:'v')(J:X.ex=[])(h:s.heap.x b=none):X.s₀.heap.x b=none:=by
 cases q:X.s₀.heap.x b with
 |none=>rfl
 |some o=>
  obtain⟨U,e⟩:=I.base.there b o q (by rw[J];simp);rw[h] at e;cases e
def cD.pass(t:cD X E1)(U:X.ex=[]){e:aaq}(I:'v')(h:e_ X.i X.w X.p H s (λc _ H'=>E1 σ c H') e s'):X.xe e s':=by obtain⟨a,C,T,H',rfl,j,l,u,J,⟨new,free,o,p,r,he,hc,hd,h0,h1,g,fT,rest⟩,q,a1⟩:=h;have I':=I.call' (ch:=[]) j u J l λb z=>absurd z 'r';exact t pins σ H' s' a C (some T) I' {I.news U new,free,o,p,r,he,hc,hd,h0,h1,I.news U g,fT,rest} (I.apart new) (λT' e=>by cases e;exact I.apart g) q
def Te{k:Nat}{Q:VK}(F:dI X.i X.w X.K X.mg X.Y (e_ X.i X.w) k f fd ps sp)(U:aX k X.A)(g:ff X.K fd ps [])(j:cD X E1)(l:X.ex=[])
 (I:'v') (r:zw vs us) (h:sp vs H Q λc _ H'=>E1 σ c H'):_S X (call (.ref f) us) 'd' X.xe s:=by
 have o:(us++[]).l=ps.l:=by rw[AE,<-r.l];exact F.len _ _ _ _ h
 refine wpAny_call (codeAny_mono (F.run X.A X.p s H {us,[]} us vs Q _ U I.env0 (by have:=g s us I._A o;rw[AE] at this;exact this) r h) λr t J=>?_);cases r with
 |error e=>exact j.pass l I J
 |ok p=>
  cases p with|ret u=>exact I.after J|next=>exact False.r J|brk=>exact False.r J|cont=>exact False.r J
end
def Tf(sp:Sp)(E1:X1)(t:TA):TE:=λσ H Q=>t σ H λvs H1=>sp vs H1 Q λc _ H'=>E1 σ c H'
section
variable {k:Nat}{E1:X1}{p pos:Pos}{t:TA}
def wP(F:dI X.i X.w X.K X.mg X.Y (e_ X.i X.w) k f fd ps sp)(l:aX k X.A)(o:Gl X x)(C:X.mg x=↑f)(T:PySem.W.keepIn X.K (.ref f)=true)(hb:ff X.K fd ps [])(ht:cD X E1)(hx:X.ex=[])
 (ha:PA X (e::es) t) (U:Fe x:=by decide) (he:Fb e es X:=by rfl) (g:Fc pos es X:=by rfl):
 PE X (.Call (.Name x p) (e::es) [] pos) (Tf sp E1 t):=by
 intro J s σ H Q I h;refine wpAny_Call_Name_kw<|jK I o C ?_ U;refine PySem.W.callWith_K (h₀:=X.Y) I.ok.mod.kin T (aY (ha pos J s σ H _ I h) λus s1 ⟨vs,H1,j,r,q⟩=>{j._A,?_}) he g;exact Te F l hb ht hx j r q
end
def Tg{P:aas}{w:aat}{K:Aj}{N:aai}{E:XK}:
 cD (fU (e_ P w) P w K mg base N eK scope f cd A outer s H E) λ_ c H'=>E c none H':=by
 intro U j H' l a C tr I L _ _ q;refine Td (X:=fU (e_ P w) P w K mg base N eK scope f cd A outer s H E) I rfl rfl rfl L λo T u J g=>?_;exact{(a),C,T,H',rfl,I.os,I.bare,u,J,g,q,I.tk}
structure F8(K:Aj)(C:Addr):Prop where
 ex:∃(nm q:Str) (N:Addr) (bs bm:aaf) (hdct:Bool) (sn:aai) (sub:aaf) (ab:Bool) (col:Option Bool) (dd:Option Addr) (k0 k1 k2 k3 k5:aam) (B Bn newId nid initId inN:aav) (bmB bmN:aaf),
  ExcBaseFacts Bn newId inN bmN/\bmB.contains (.type Bn)=true/\ExcBaseFacts B nid initId bmB/\
  ∀h,K.In h->h.get? C=some (excClassObj nm q C N bs bm hdct sn sub ab col dd k0 k1 k2 k3 k5 newId)/\(∃mN,h.Ns N mN/\mN "__init__"=none)/\OwnTail h bmB bm
def Th{K:Aj}{U o:aaf}{B T J p I r:aav}(q:PySem.W.excIn K C U J=true)(Fn:ExcBaseFacts T J r o)(a1:U.contains (.type T)=true)(F:ExcBaseFacts B p I U):F8 K C:=by
 unfold PySem.W.excIn at q;split at q
 .rename_i dd cd sl ho;split at q
  .rename_i C' bm k0 k1 k2 k3 n k5 hm hs;simp only[AS,beq_iff_eq,Ds] at q;obtain⟨⟨⟨⟨⟨rfl,rfl⟩,g⟩,ht⟩,j⟩,t⟩:=q;obtain⟨nm,bs,a4,ns,qn,hd,sn,sub,ab,a2,del⟩:=cd;dsimp only at hm g j t;subst hm g;have a3:sl=#[k0,k1,k2,k3,some<|.builtin n,k5]:=by obtain⟨l⟩:=sl;simp only at hs;rw[hs]
   subst a3;exact{nm,qn,ns,bs,bm,hd,sn,sub,ab,a2,dd,k0,k1,k2,k3,k5,B,T,n,p,I,r,U,o,Fn,a1,F,λh X=>{X _ _ ho,{_,.of_isNs<|PySem.W.isNs_of_in X j,PySem.W.nsMap_none_of_in X j t},PySem.W.tail_of_in X ht}}
  .cases q
 .cases q
def Ti(C:Addr)(E1:X1)(t:TA):TS:=λ_ σ H=>t σ H λvs H1=>vs.length<=sizeLine/\E1 σ (.ref C) H1
def Tj{E1:X1}{pos:Pos}{t:TA}(c:F8 X.K C)(hg:Gl X x)(U:X.mg x=↑C)(hc:X.calm=true)(ht:cD X E1)(hx:X.ex=[])(ha:PA X (e::es) t)(p:Fe x:=by decide)
 (he:Fb e es X:=by rfl) (a1:Fc eT es X:=by rfl):
 PS X (.Raise (some<|.Call (.Name x np) (e::es) [] eT) none pos) (Ti C E1 t):=by
 intro J s σ H D I h;obtain⟨nm,q,N,bs,bm,hdct,sn,sub,ab,col,dd,k0,k1,k2,k3,k5,B,Bn,a2,a5,l,ac,al,ar,Fn,a3,F,all⟩:=c.ex;obtain⟨_,⟨mN,hn,a4⟩,ow⟩:=all X.Y I.ok.mod.kin;refine wpAny_Raise_call_subU (C:=C) (nm:=nm) (q:=q) (N:=N) (bs:=bs) (bm:=bm) (hdct:=hdct) (sn:=sn) (sub:=sub) (ab:=ab) (col:=col) (dd:=dd) (k0:=k0) (k1:=k1) (k2:=k2) (k3:=k3) (k5:=k5) Fn a3 F (mN:=mN) (ow.hasType F.hasBase) (I.ok.hd hc)
  (by rw[he];show(false||(backTo eT<|starEach es X.o).any (·.1))=false;rw[a1];rfl) a4 (jK I hg U ⟨rfl,?_⟩ p)
 rw[he];have j:=ha eT J s σ H _ I h;rw[he] at j;refine Calls.evalArgs_plain (aY j λus s2 ⟨vs,H1,g,r,hl,q1⟩=>{rfl,by rw[<-r.l];exact hl,(all _ g._A).1,hn.keeps g.bk,(all _ g._A).2.2,λh' a U=>?_});obtain⟨t0,e1,_,_⟩:=U.there;have I2:=g.kept (t':=s2.D) U.keeps;have fr:H1 a=none:=by
  cases z:H1 a with
  |none=>rfl
  |some u=>
   obtain⟨o,eo⟩:=(g.KB a u z).get;rw[U.new] at eo;cases eo
 exact ht J σ H1 _ a C none I2 {g.news hx U.new,fr,_,_,.ref t0,e1,rfl,rfl,rfl,rfl} (g.apart U.new) (λT z=>nomatch z) q1
section
variable {a T:Addr}{tr:Option Addr}
def mL(I:'v')(C:X.ex=[])(hf:X.p=X.o::X.outer)(un:Un X.fs [] X.H₀ H X.s₀.v h')(KB:gB X.i X.w H h')
 (k1:(PySem.W.hideAll s.v<|cN a tr<|dk X.p).StaysIn h') (l:∀b o,s.heap.x b=some o->(∀vs,o.data≠.fields vs)->∃J,h'.x b=some {o with slots:=J})
 (pa:∀p∈X.pn++pins,p.1≠a/\∀T,tr=some T->p.1≠T):za X pins σ H {s with heap:=h'}:=by
 have cl:∀{c:Addr} {v:aam},s.heap.IsCell c v->h'.IsCell c v:=λ{c v} ⟨o,U,hd⟩=>by
  obtain⟨J,e⟩:=l c o U λvs q=>by rw[hd] at q;cases q
  exact{_,e,hd}
 obtain⟨m,hn,hl⟩:=id I.loc;have g:h'.Ns X.env.M m:=by
  obtain⟨o,es,ep,U,hd,r⟩:=hn;obtain⟨J,e⟩:=l _ o U λvs q=>by rw[hd] at q;cases q
  exact{_,es,ep,e,hd,r}
 refine{I.ok,I.os,I.bare,by rw[C];exact un,{m,g,λi x v e1 e2 e3=>?_},λx c e=>?_,I.U,I.Pi,λp j=>?_,KB,I.len,I.tk}
 .obtain⟨u,ru,lk⟩:=hl i x v e1 e2 e3;refine{u,ru,?_};obtain lk|⟨k,c,e,z⟩:=lk
  .exact .inl lk
  .exact .inr {k,c,e,cl z}
 .obtain⟨v,z⟩:=I.cell x c e;exact{v,cl z}
 .obtain⟨e,n,ne,t,d⟩:=I.pin p j;refine{k1 _ _<|C6 _ e λhm=>?_,n,ne,t,d};obtain z|z:=Ao.j hm
  .exact(pa p j).1 z
  .rcases Am.j z with z|z
   .exact(pa p j).2 p.1 (~~~z) rfl
   .rcases Ao.j (I._s _ z) with z|z
    .exact ne z
    .exact t z
def Tk{Q:aab}(I:'v')(hs:X.p=X.o::X.outer)(hf:X.env.frame=some X.env.M)(hx:X.ex=[])(L:uO X.s₀.v s.v H a C tr)
 (pa:∀p∈X.pn++pins,p.1≠a/\∀T,tr=some T->p.1≠T)
 (h:∀h' T,za X pins σ H {s with heap:=h'}->uO X.s₀.v h' H a C (some T)->(∀p∈X.pn++pins,p.1≠T)->Q () {s with heap:=h'}):
 wpAny M X.A (noteFrame (.ref a) X.o) (λ_ j=>wpAny M X.A (setFlight (.ref a) none) Q E j) E s:=by
 obtain⟨new,free,oe,vs,b0,g,hc,hd,h0,J⟩:=id L;have r:∀T,tr=some T->X.s₀.heap.get? T=none/\H T=none:=by intro T e;subst e;exact{(J.2.1),J.2.2.1}
 have fr:s.heap.FunFrames (PySem.W.hideAll s.v<|cN a tr<|dk X.p) X.p:=CQ I.p λenv g b hb=>Ae _<|Ai _<|oF g hb;have st:(PySem.W.hideAll s.v<|cN a tr<|dk X.p).StaysIn s.v:=λb o e=>CP _ e;have na:(PySem.W.hideAll s.v<|cN a tr<|dk X.p).x a=none:=BX _ Ag;have t:X.A.frames=some (X.o::X.outer):=by rw[<-hs];exact I.ok.frames
 have nT:∀T,tr=some T->(PySem.W.hideAll s.v<|cN a tr<|dk X.p).x T=none:=λT e=>by subst e;exact BX _<|Ae _<|An _ 'r'
 have go:∀h',Heap.NotedW (PySem.W.hideAll s.v<|cN a tr<|dk X.p) (X.o::X.outer) a (.ref C) b0 (rawInt X.env.M) s.v h'->wpAny M X.A (setFlight (.ref a) none) Q E {s with heap:=h'}:=λh' ⟨k1,k2,k3,k4⟩=>by
  rw[<-hs] at k2;obtain⟨u,a5,T,ac,n1,n2,ne,al,ar,oT,ts,e1,e2,e3,e4,e5,e6,e7,e8⟩:=oP I hs hx new free r k1 k2 k3 k4;have I2:=mL I hx hs u a5 k1 k4 pa;have a1:∀p∈X.pn++pins,p.1≠T:=λp U=>by obtain⟨e,_⟩:=I.pin p U;exact ac p.1 _ e (pa p U).2
  have au:h'.FunFrames (PySem.W.hideAll h'<|cN a (some T)<|dk X.p) X.p:=CQ I2.p λenv g b hb=>Ae _<|Ai _<|oF g hb;refine wpAny_setFlight_noneW (s:={s with heap:=h'}) (base:=PySem.W.hideAll h'<|cN a (some T)<|dk X.p) (l:=X.p) (e:=a) (cls:=.ref C) (a0:=b0) (fl:=rawInt X.env.M) (λb o e=>CP _ e) au
   ⟨al,ar,T,oT,ts,e1,⟨e2,e3⟩,e4,e5,BX _<|Ae _<|An _ 'r',ne,e6,e7,e8⟩ λh3 j1 j2 j3 j4=>?_
  have a2:∀b o,h'.x b=some o->(∀vs,o.data≠.fields vs)->∃sl,h3.x b=some {o with slots:=sl}:=λb o e q=>{o.slots,j4 b o e q};obtain⟨u',a3,T',a4,av,aL,ba,bb,bc,bd,bf,f1,f2,f3,f4,f5,f6,f7,f8⟩:=oP (s:={s with heap:=h'}) (tr:=some T) I2 hs hx new free (λT0 e=>by cases e;exact{(n1),n2}) j1 j2 j3.at a2;have I3:=mL (s:={s with heap:=h'}) (h':=h3) (tr:=some T) I2 hx hs u' a3 j1 a2 λp U=>{(pa p U).1,λT0 e=>by cases e;exact a1 p U};refine h h3 T' I3 {(new),free,bb,bc,b0,f1,f2,f4,f3,f5,av,aL,ba,bd,bf,f6,f7,f8} λp U=>?_;obtain⟨e,_⟩:=I2.pin p U;exact a4 p.1 _ e λT0 z=>by cases z;exact a1 p U
 generalize PySem.W.hideAll s.v (cN a tr<|dk X.p)=base at fr st na go nT;rw[hs] at fr;cases tr with
 |none=>
  unfold noteFrame;simp only[hf];refine Aa<|Bl g hd J ?_;rw[Az ∅];exact wpAny_entryW t fr hf g st na hd (Array.getElem?_eq_some_iff.mp J).1 h0 ([hc]≈go)
 |some T=>
  obtain⟨h1,_,_,bg,oT,ts,hT,bh,h3⟩:=J;exact wpAny_noteFrame_onW t fr hf {oe,vs,T,oT,ts,g,{(hc),h0},hd,h1,nT T rfl,bg,hT,bh,h3} st na go
end
abbrev Cx.tr(X:Cx)(pn:List<|Addr×Obj)(xe:aaa):Cx:={X with pn:=pn,xe:=xe}
abbrev Cx.hnd(X:Cx)(a:Addr):Cx:={X with A:=X.A.mark<|↑a,calm:=false,xe:=λ_ _=>False}
theorem Cx.Ok.tr(ok:X.Ok)(pn:List<|Addr×Obj)(xe:aaa):(X.tr pn xe).Ok:=
 ⟨ok.mod,ok.kind,ok.glob,ok.blt,ok.above,ok.inj,ok.has,ok.cab,ok.hd,ok.frames,ok.stk,ok.exf,ok.bs,ok.bsz,ok._H,ok._I,ok._o,ok.frf⟩
theorem Cx.Ok.untr{pn:List<|Addr×Obj}(ok:(X.tr pn xe).Ok):X.Ok:=
 ⟨ok.mod,ok.kind,ok.glob,ok.blt,ok.above,ok.inj,ok.has,ok.cab,ok.hd,ok.frames,ok.stk,ok.exf,ok.bs,ok.bsz,ok._H,ok._I,ok._o,ok.frf⟩
theorem Cx.Ok.hnd(ok:X.Ok)(a:Addr):(X.hnd a).Ok:=
 ⟨ok.mod,ok.kind,ok.glob,ok.blt,ok.above,ok.inj,ok.has,ok.cab,(λz=>nomatch z),ok.frames,ok.stk,ok.exf,ok.bs,ok.bsz,ok._H,ok._I,ok._o,ok.frf⟩
section
variable {a T:Addr}
theorem za.tr(I:'v')(xe:aaa):za (X.tr (X.pn++pins) xe) [] σ H s:={I.ok.tr _ _,I.os,I.bare,I.Y,I.loc,I.cell,I.U,I.Pi,(λp J=>I.pin p (~~~J)),I.KB,I.len,I.tk}
theorem za.untr{J:List<|Addr×Obj}(I:za (X.tr (X.pn++pins) xe) J σ H s):'v':={I.ok.untr,I.os,I.bare,I.Y,I.loc,I.cell,I.U,I.Pi,(λp U=>I.pin p<|An _ U),I.KB,I.len,I.tk}
theorem za.hnd(I:'v')(a:Addr):za (X.hnd a) pins σ H s:={I.ok.hnd a,I.os,I.bare,I.Y,I.loc,I.cell,I.U,I.Pi,I.pin,I.KB,I.len,I.tk}
def za.unhnd(ok:X.Ok)(I:za (X.hnd a) pins σ H s):'v':={(ok),I.os,I.bare,I.Y,I.loc,I.cell,I.U,I.Pi,I.pin,I.KB,I.len,I.tk}
theorem SP.untr{D:pK}{f:Flow}(h:SP (X.tr (X.pn++pins) xe) [] D f s'):SP X pins D f s':=by
 cases f with
 |next=>obtain⟨I,U,J,q⟩:=h;exact{(I),U,J.untr,q}
 |brk=>obtain⟨I,U,J,q⟩:=h;exact{(I),U,J.untr,q}
 |cont=>obtain⟨I,U,J,q⟩:=h;exact{(I),U,J.untr,q}
 |ret u=>obtain⟨v,I,U,J,r,q⟩:=h;exact{(v),I,U,J.untr,r,q}
def iG{n:Str}{pos:Pos}{Q:aab}(I:'v')(hN:X.N.c)(hi:X.N[i]?=some n)(hk:X.env.scope.names.e n=some .local)
 (h:∀s',za X pins (σ.O i none) H s'->Q () s'):wpAny M A (do bindName X.o n .none;unbindBehindTheSuite X.o n pos) Q E s:=by
 obtain⟨m,hn,hl⟩:=id I.loc;have g:(X.env.scope.kind==.class||(X.env.scope.kind==.module&&X.env.M != X.env.globals))=false:=by rw[I.ok.kind];rfl
 refine wpAny_nameGoes_keeps hk hn g λh' v C J=>h _ ?_;obtain⟨oL,_,_,a1,_⟩:=id hn;have ku:∀b o,X.s₀.heap.x b=some o->b≠X.env.M:=λb o e=>Bi<|AL (xT e) I.ok.above;refine{I.ok,I.os,I.bare,{λb o e n T l=>?_,λb o e n T l=>?_,I.base.U,λb o e l=>?_,I.base._h,I.base._i,I.base._t},{_,C,λj y v' U t e3=>?_},λy c e=>?_,I.U,I.Pi,λp hp=>?_,λb ob e=>?_,~~~I.len,by first|exact I.tk|exact BZ _}
 .exact(J.2 b<|ku b o e).t (I.base.keep b o e n T l)
 .obtain⟨sl,U⟩:=I.base.slot b o e n T l;exact{sl,(J.2 b<|ku b o e).t U}
 .obtain⟨o',U⟩:=I.base.there b o e l;exact{o',(J.2 b<|ku b o e).t U}
 .by_cases hj:j=i
  .subst hj;have r:j<σ.l:=by rw[I.len];exact(A3.j hi).1
   rw[Bj r] at t;cases t
  .rw[AX<|AN hj] at t;obtain⟨u',r',q⟩:=hl j y v' U t e3;refine{u',r',?_};rcases q with⟨k,e⟩|⟨k,c,e,z⟩
   .refine .inl {k,?_};have:y≠n:=λe=>hj<|pq hN U<|e▸hi;simp[this,e]
   .exact .inr {k,c,e,z.sameBut J<|I.cne y c e}
 .obtain⟨w',z⟩:=I.cell y c e;exact{w',z.sameBut J<|I.cne y c e}
 .obtain⟨e,n,ne,nf,d⟩:=I.pin p hp;exact{(J.2 p.1 ne).t e,n,ne,nf,d}
 .refine(I.KB b ob e)._e (λc w' hc q=>(J.2 c ?_).t q) (λ_ q=>q) λ_ _ q=>q;rintro rfl;obtain z|z:=hc
  .rw[<-z,I.U] at e;cases e
  .rw[I.U] at z;cases z
def To{J:Obj}(I:'v')(C:X.ex=[])(new:X.s₀.heap.x a=none)(free:H a=none)(U:s.heap.x a=some J)(ap:yS X a)(pa:∀p∈X.pn++pins,p.1≠a):za X pins σ (upd H a<|._b J<|.own 0) s:=by
 refine{I.ok,I.os,I.bare,{I.base.keep,I.base.slot,λb o e n l=>?_,I.base.there,λb g e=>?_,λb o u e=>?_,λb r e=>?_},I.loc,I.cell,?_,λx c e=>?_,λp j=>?_,λb u e=>?_,I.len,I.tk}
 .rw[qp (λz=>by rw[z,new] at e;cases e)];exact I.base.U b o e n l
 .have:=I.base._h b g e;rw[qp (λz=>by rw[z,free] at this;cases this)];exact this
 .have:=I.base._i b o u e;rw[qp (λz=>by rw[z,free] at this;cases this)];exact this
 .obtain⟨more,this⟩:=I.base._t b r e;exact{more,by rw[qp (λz=>by rw[z,free] at this;cases this)];exact this}
 .rw[qp<|AN ap.1];exact I.U
 .rw[qp<|ap.2.1 x c e];exact I.Pi x c e
 .obtain⟨e,n,ne,t,d⟩:=I.pin p j;exact{e,by rw[qp<|pa p j];exact n,ne,t,d}
 .by_cases z:b=a
  .subst z;rw[zg] at e;cases e;exact{(U),J,U}
  .rw[qp z] at e;exact(I.KB b u e)._e (λ_ _ _ q=>q) (λc q=>by rw[qp (λz=>by rw[z,free] at q;cases q)];exact q) λc g q=>by rw[qp (λz=>by rw[z,free] at q;cases q)];exact q
def Tp{Q:aab}(I:'v')(hs:X.p=X.o::X.outer)(hx:X.ex=[])(L:uO X.s₀.v s.v H a C<|some T)
 (pa:∀p∈X.pn++pins,p.1≠a/\p.1≠T) (h:∀h' g,za X pins σ H {s with heap:=h'}->uO X.s₀.v h' H a C (some g)->Q () {s with heap:=h'}):wpAny M A (setFlight (.ref a) none) Q E s:=by
 obtain⟨new,free,oe,j,b0,r,hc,hd,h0,h1,n1,n2,ne,oT,ts,hT,t,h3⟩:=L;have a1:s.heap.FunFrames (PySem.W.hideAll s.v<|cN a (some T)<|dk X.p) X.p:=CQ I.p λenv r b hb=>Ae _<|Ai _<|oF r hb;refine wpAny_setFlight_noneW (base:=PySem.W.hideAll s.v<|cN a (some T)<|dk X.p) (l:=X.p) (e:=a) (cls:=.ref C) (a0:=b0) (fl:=.none) (λb o e=>CP _ e) a1
  ⟨oe,j,T,oT,ts,r,⟨hc,h0⟩,hd,h1,BX _<|Ae _<|An _ 'r',ne,hT,t,h3⟩ λh3 j1 j2 j3 j4=>?_
 have J:∀b o,s.heap.x b=some o->(∀j,o.data≠.fields j)->∃sl,h3.x b=some {o with slots:=sl}:=λb o e q=>{o.slots,j4 b o e q};obtain⟨u',U,g,au,a2,a3,a4,a5,ac,al,ar,f1,f2,f3,f4,f5,f6,f7,f8⟩:=oP (tr:=some T) I hs hx new free (λT0 e=>by cases e;exact{(n1),n2}) j1 j2 j3.at J;exact h h3 g (mL (tr:=some T) I hx hs u' U j1 J λp hp=>{(pa p hp).1,λT0 e=>by cases e;exact(pa p hp).2}) {(new),free,a5,ac,b0,f1,f2,f4,f3,f5,a2,a3,a4,al,ar,f6,f7,f8}
end
def Dh(i:Nat)(D:pK):pK where
 nx:=λσ H=>D.nx (σ.O i none) H
 rt:=D.rt
 bk:=λσ H=>D.bk (σ.O i none) H
 ct:=λσ H=>D.ct (σ.O i none) H
def HG(K:Aj)(J:Addr)(i:Nat)(th:TS)(D:pK):X1:=λσ c H=>∃C,c=.ref C/\PySem.W.exmOne K (.ref C) (.ref J)=some true/\∀a I,H a=none->I.cls=.ref C->th (Dh i D) (σ.O i<|↑a) (upd H a<|._b I<|.own 0)
def Tq(K:Aj)(I:Addr)(i:Nat)(tb:X1->TS)(th:TS):TS:=λD σ H=>tb (HG K I i th D) D σ H
def Ts{Dc:Addr}{n:Str}{a2 pos:Pos}{l:aak}{t:Stmt}{tb:X1->TS}{th:TS}(hs:X.p=X.o::X.outer)(hf:X.env.frame=some X.env.M)(hx:X.ex=[])(hN:X.N.c)(hi:X.N[i]?=some n)
 (hk:X.env.scope.names.e n=some .local) (hg:Gl X x) (hm:X.mg x=↑Dc) (hb:∀(pn:List<|Addr×Obj) (xe:aaa) (E1:X1),cD (X.tr pn xe) E1->i7 (X.tr pn xe) body (tb E1)) (hh:∀a,i7 (X.hnd a) (t::l) th)
 (a5:Fe x:=by decide):PS X (.Try body [.ExceptHandler (some<|.Name x np) (some n) (t::l) a2] [] [] pos) (Tq X.K Dc i tb th):=by
 intro U s σ H D I h;have tk:cD (X.tr (X.pn++U) λe s'=>∃g o H' a C tr,e=.ref a/\za X U o H' s'/\uO X.s₀.v s'.v H' a C tr/\yS (X.tr (X.pn++g) X.xe) a/\(∀p∈X.pn++U,p.1≠a)/\(∀T,tr=some T->∀p∈X.pn++U,p.1≠T)/\HG X.K Dc i th D o (.ref C) H')
  (HG X.K Dc i th D):=λg o H' s' a C tr I' L ap ac q=>{[],o,H',a,C,tr,rfl,I'.untr,L,{ap.1,ap.2.1,λp j=>ap.2.2 p (by have j:=j;rw[AE] at j;exact An _ j)},ap.2.2,λT e=>(ac T e).2.2,q}
 refine wpAny_Try_except<|A5 (hb _ _ _ tk [] s σ H D (I.tr _) h) (λf s1 h1=>?_) λe s1 h1=>?_
 .have h2:=SP.untr h1;cases f with|next=>exact wpAny_execs_nil h2|brk=>exact h2|cont=>exact h2|ret u=>exact h2
 .obtain⟨g,o,H',a,C,tr,rfl,I1,L,ap,pa,al,C',ec,em,q⟩:=h1;cases ec;refine Tk I1 hs hf hx L (λp j=>{pa p j,λT e=>al T e p j}) λh' T I2 L2 a4=>?_;refine wpAny_handleBy_cons (codeAny_handlers_test ?_) (by intro q;cases q);refine jK (X:=X.hnd a) (I2.hnd a) hg hm ?_ a5;obtain⟨_,_,oe,vs,a0,he,hc,_⟩:=id L2;have LT:PySem.W.Looks 'a' h' (typeOf<|.ref a) (.ref C):=hc▸(PySem.W.Looks.ld he).andThen .now;refine PySem.W.exm_one (K:=X.K) I2._A LT em _ _ _ _ (λ_ _ e=>e) ?_;refine codeAny_handlers_suite_as ?_;refine Tp I2 hs hx L2 (λp j=>{pa p j,a4 p j}) λh3 T' I3 L3=>?_;obtain⟨new,free,ar,aL,a3,au,av,_⟩:=L3;have I4:=To I3 hx new free au {ap.1,ap.2.1,λp j=>pa p<|An _ j} pa;refine gW (X:=X.hnd a) (I4.hnd a) hN hi (.inl hk) (v:=.ref a) (u:=.ref a) rfl (λs5 I5=>?_)<|.inr hk;refine A5 (hh a U s5 _ _ (Dh i D) I5<|q a ar free av) (λf s6 h6=>?_) λe s6 z=>z.elim;cases f with
  |next=>obtain⟨a1,H6,J,q6⟩:=h6;exact iG (J.unhnd I.ok) hN hi hk λs7 I7=>{_,H6,I7,q6}
  |brk=>obtain⟨a1,H6,J,q6⟩:=h6;exact iG (J.unhnd I.ok) hN hi hk λs7 I7=>{_,H6,I7,q6}
  |cont=>obtain⟨a1,H6,J,q6⟩:=h6;exact iG (J.unhnd I.ok) hN hi hk λs7 I7=>{_,H6,I7,q6}
  |ret u=>obtain⟨v,a1,H6,J,r,q6⟩:=h6;exact iG (J.unhnd I.ok) hN hi hk λs7 I7=>{v,_,H6,I7,r,q6}
section
open PySem.W
structure Fl(K:Frag)(C:Addr):Prop where
 ga:findIn K (.ref C) "__getattribute__"=some (some<|.builtin "BaseException.__getattribute__")
 gt:findIn K (.ref C) "__getattr__"=some none
 cl:findIn K (.ref C) "__class__"=some (some<|.builtin "object.__class__")
 ge:specialIn K (.builtin "object.__class__") "__get__"=some (some<|.builtin "getset_descriptor.__get__")
 tk:takesIn K (.builtin "object.__class__")=some true
 mo:mroIn K C (.type "object")=some true
 be:subIn K (.ref C) (.type "BaseException")=some true
def aww(self:aaq):bindSpecial (.builtin "BaseException.__getattribute__") self=pure (.builtin "BaseException.__getattribute__",[self]):=by
 have J:withoutEnding? "BaseException.__getattribute__" "#opaque"=none:='z'
 have I:withoutEnding? "BaseException.__getattribute__" "#data"=none:='z'
 have U:builtinKind "BaseException.__getattribute__"=some .slot:='z'
 simp only[bindSpecial,typeOf,builtinType,J,I,U];rfl
def ug(h:aau)(a C:Addr):Prop:=∃o,h.x a=some o/\o.cls=.ref C
def ug.type{a:Addr}(I:ug h a C):Looks M h (typeOf<|.ref a) (.ref C):=by obtain⟨o,h1,h2⟩:=I;exact h2▸(Looks.ld h1).andThen .now
open Builtin.ObjectAttr in
def Tt{K:Frag}{a:Addr}(c:Fl K C)(X:K.In h):Looks M h (find (.ref a) (.ref C) "__class__") (.bind (.builtin "getset_descriptor.__get__")<|.builtin "object.__class__"):=by have I:=looks_findIn (M:=M) X c.cl;have L2:=looks_specialIn (M:=M) X c.ge;have L3:=looks_takesIn (M:=M) X c.tk;refine I.andThen<|L2.andThen ?_;exact(show Looks M h (dataDescriptor? (some<|.builtin "object.__class__")<|some<|.builtin "getset_descriptor.__get__") (some (.builtin "getset_descriptor.__get__",.builtin "object.__class__")) from L3.andThen .now).andThen (Looks.tag .now)
section
variable {w:aat}{K:Frag}{a:Addr}
open Builtin Builtin.ObjectAttr Builtin.Getset_descriptor in
def Tu{R:Result->aar->Prop}{tp:aaq}(X:K.In s.v)(I:ug s.v a C)(J:mroIn K C (.type "object")=some true)
 (h:R (.ok<|.ret<|.ref C) s):codeAny 'w' A (.call (.builtin "getset_descriptor.__get__") ⟨[.builtin "object.__class__",.ref a,tp],[]⟩) R s:=by
 obtain⟨U,g,j,t,os⟩:=s;have l:=I.type (M:=model prog w);have o:=looks_mroIn (M:=model prog w) X J;refine codeAny_call_builtin KF.slot_gs.plain KF.entry_gs<|KF.slot_gs.check _ _ _ _ _ _ _ _ KF.type_class (KF.args_gs _ _ _) ?_;unfold Builtin.«getset_descriptor.__get__» descrGet;rw[dga_obj];refine Aa<|Aq ?_;unfold descrGetter descrCheckInstance descrNameAndClass isInstance;simp only[KF.owner_class]
 repeat lk
 refine{Code.quiet_builtin _ 'z',codeAny_builtin KF.entry_class ?_};unfold Builtin.«object.__class__» shownTypeOf
 repeat lk
 exact h
def Tv{tk:Tok}{Q:Fin->aar->Prop}(c:Fl K C)(X:K.In s.v)(I:ug s.v a C)(h:Q (.done<|.ret<|.ref C) s):
 wpAny 'w' A (Builtin.«object.__getattribute__» ⟨[.ref a,.str "__class__" tk],[]⟩) Q E s:=by
 obtain⟨J,g,d,t,os⟩:=s;have U:=I.type (M:=model prog w);have j:=Tt (M:=model prog w) (a:=a) c X
 repeat (first|with_reducible refine wpAny_call ?_|lk)
 refine Tu X I c.mo ?_
 repeat lk
 exact h
def Tw{Q:aab}{J:aaq}(c:Fl K C)(X:K.In s.v)(I:ug s.v a C)(j:Q () s):wpAny 'w' A (checkBuiltinCall "BaseException.__getattribute__" ⟨[.ref a,J],[]⟩) Q E s:=by
 obtain⟨o,g,d,t,os⟩:=s;have p:=I.type (M:=model prog w);have r:=looks_subIn (M:=model prog w) X c.be;have l:builtinKind "BaseException.__getattribute__"=some .slot:='z'
 have U:splitId "BaseException.__getattribute__"=some ("BaseException","__getattribute__"):='z'
 have T:=F.args_bexc_ga (.ref a) J;simp only[checkBuiltinCall,l,U];refine Aa ?_
 repeat lk
 exact j
def Tx{tk:Tok}(c:Fl K C)(X:K.In s.v)(I:ug s.v a C)(h:Q (.ref C) s):wpAny 'w' A (getAttrBy (.ref a) (.str "__class__" tk) false) Q E s:=by
 obtain⟨J,g,d,t,os⟩:=s;have U:=I.type (M:=model prog w);have j:=looks_findIn (M:=model prog w) X c.ga;have L2:=looks_findIn (M:=model prog w) X c.gt
 repeat (first|with_reducible refine wpAny_call ?_|with_reducible refine wpAny_attempt ?_|lk)
 refine codeAny_call_builtin 'z' F.entry_bexc_ga<|Tw c X I<|Tv c X I ?_;exact handed_on rfl h
def Tz{Q:aam->aar->Prop}(c:Fl K C)(X:K.In s.v)(I:ug s.v a C)(h:Q (↑C) {s with toks:=s.D+1}):wpAny 'w' A (getAttr? (.ref a) "__class__") Q E s:=by refine Aa<|wpAny_mkText<|Aa<|wpAny_attempt<|Tx (s:={s with toks:=s.D+1}) c X I ?_;exact Aq h
end
def xR{K:Frag}{a:Addr}(c:Fl K C)(J:(clsIn K C).Z=true):KitX K (.ref a) (.ref C) (λh=>ug h a C) where
 ty:=λ_ _ _ I=>I.type
 it:=λ_ _ X _=>by
  unfold clsIn at J;split at J
  .rename_i o p U g j;intro t T E' s' k q;exact Aa<|wpAny_loadPart (k _ _<|X _ _ j)<|Aq q
  .cases J
 ne:=λh tp dd r n sl X l=>by
  refine Bool.eq_false_iff.d λq=>?_;have e:=Value.ref.inj<|beq_iff_eq.mp q;subst e;unfold clsIn at J;split at J
  .rename_i o p U g j;have z:=(X _ _ j).symm.trans l;cases z
  .cases J
 ca:=λX I k=>Tz c X I k
def FH:V->aam
 |.ref D=>↑D
 |.ty T=>some<|.type T
 |_=>none
def wM{c:aaq}(h:FH v=some c)(r:j9 v u):u=c:=by cases v with|ref D=>cases h;exact r|ty T=>cases h;exact r|_=>cases h
theorem wF:∀{vs:HT} {us cs:aaf},vs.y FH=cs.y some->zw vs us->us=cs
 |[],_,[],_,.nil=>rfl
 |[],_,_::_,h,_=>by cases h
 |_::_,_,[],h,_=>by cases h
 |v::vs,_,c::cs,h,.cons r t=>by rw[AR,AR] at h;obtain⟨h1,h2⟩:=CG h;rw[wM h1 r,wF h2 t]
structure Fm(K:Aj)(C:Addr):Prop where
 at_:Fl K C
 cls:(PySem.W.clsIn K C).Z=true
def HH(K:Aj)(H:Hp)(a C:Addr):Prop:=∃I,H a=some (._b I<|.own 0)/\I.cls=.ref C
def TB(K:Aj):HT->Hp->VK->Prop:=λxs H Q=>∃a C v,xs=[.ref a,v]/\HH K H a C/\Fm K C/\
 ((∃u b,FH v=some u/\PySem.W.kitOne K (.ref C) u=some b/\Q (.bl b) H)\/(∃tp I us b,v=.ref tp/\dR K H tp I/\I.y FH=us.y some/\PySem.W.kitAny K (.ref C) us=some b/\Q (.bl b) H))
def o6 :jt X (.builtin "isinstance") (TB X.K):=by
 rintro U s σ H xs us Q I r⟨a,C,v,rfl,⟨g,l,p⟩,hd,h⟩;obtain⟨t,T,rfl,r1,j⟩:=zw.two r;cases (show t=Value.ref a from r1);obtain⟨he,_⟩:=(show vd X.i X.w H s.v a (._b g<|.own 0) from I.KB a _ l);have ex:ug s.v a C:={(g),he,p};rcases h with⟨c,b,e,k,q⟩|⟨tp,ws,cs,b,rfl,J,e,k,q⟩
 .cases wM e j;exact jv I.tk<|BD (xR hd.at_ hd.cls) I._A ex k (λz=>nomatch z) λtk J=>{.bl b,H,I.tok _,rfl,q}
 .cases (show T=Value.ref tp from j);obtain⟨a1,rv,⟨o,h1,h2,n,h3⟩,_⟩:=I.tuple J;cases wF e rv;obtain⟨oc,od,a2,a3⟩:=o;dsimp only at h2 h3;subst h2 h3;exact jv I.tk<|PySem.W.kia_tup (xR hd.at_ hd.cls) I._A ex h1 k (λz=>nomatch z) λtk J=>{.bl b,H,I.tok _,rfl,q}
def vG(H:Hp)(P:Addr)(q:Str):Prop:=∃ps,H P=some (._N ps)/\TriplesOk ps.z/\∀pos I,codeAmong pos ps.z=some I->∃J oc vs t,I=.ref J/\H J=some (._b oc<|.own 0)/\oc.data=.fields vs/\vs[1]?=some (.str q t)
def vG.keep{P:Addr}{q:Str}(h:vG H P q)(e:H' P=H P)(t:∀b o u,H b=some (._b o u)->H' b=some (._b o u)):vG H' P q:=by obtain⟨I,h1,h2,h3⟩:=h;refine{I,e.t h1,h2,λpos J z=>?_};obtain⟨U,g,j,l,p,r,C⟩:=h3 pos J z;exact{U,g,j,l,p,t _ _ _ r,C}
end
inductive Y where
 |GM|bl (b:Bool)|int (i:Int)|str (x:Str)|ref (a:Addr)|ty (n:aav)|cd (kvs:List<|Str×Str)|tup (ys:List Y)|sq (ys:List Y)
abbrev _T:=List Y
abbrev _C:=Option Y
inductive LO where
 |lst (ys:_T)|_c (kvs:List<|jk×Y)|ins (C:Addr) (fs:List<|Str×Y)|exc (C:Addr)|tb (q:Str)
abbrev qm:=Addr->Option LO
def qk(L:qm)(a:Addr)(o:LO):qm:=λb=>if b=a then some o else L b
def q9{L:qm}{a:Addr}{o:LO}:qk L a o a=some o:=by unfold qk;rw[AF rfl]
def qe{L:qm}{a b:Addr}{o:LO}(h:b≠a):qk L a o b=L b:=by unfold qk;rw[Az h]
def vn{L:qm}{a:Addr}{o u:LO}:qk (qk L a o) a u=qk L a u:=by funext b;unfold qk;split<;>rfl
def ku{L:qm}{a b:Addr}{o:LO}(h:L a=some o)(h':L b=none):a≠b:=by intro e;subst e;rw[h] at h';cases h'
structure G3 where
 K:Aj
 P:aas
 w:aat
abbrev Cx.g3(X:Cx):G3:={(X.K),X.i,X.w}
def SqF(K:Aj)(H:Hp)(a:Addr)(xs:HT):Prop:=(∃o,H a=some (._b o<|.lst xs))\/
 ∃(o:Obj) (eH:aag) (n:Nat),K.e a=some o/\o.cls=.type "list" /\ o.dict=none/\o.data=.seq eH n/\eH.q<=sizeLine/\zw xs eH.z
def SqF.sq{K:Aj}{a:Addr}(h:SqF K H a xs):bQ K H a xs:=by
 rcases h with⟨o,h⟩|h
 .exact .inl<|.inr {(o),h}
 .exact .inr h
mutual
def RV(G:G3)(H:Hp):Y->V->Prop
 |.GM,v=>v=.GM
 |.bl b,v=>v=.bl b
 |.int i,v=>v=.int i
 |.str x,v=>v=.str x
 |.ref a,v=>v=.ref a
 |.ty n,v=>v=.ty n
 |.cd kvs,v=>∃a,v=.ref a/\KD G.K G.P G.w a (kvs.y λp=>(Sum.inr p.1,V.str p.2))
 |.tup ys,v=>∃a xs,v=.ref a/\dR G.K H a xs/\xw G H ys xs
 |.sq ys,v=>∃a xs,v=.ref a/\SqF G.K H a xs/\xw G H ys xs
def xw(G:G3)(H:Hp):_T->HT->Prop
 |[],xs=>xs=[]
 |y::ys,xs=>∃x I,xs=x::I/\RV G H y x/\xw G H ys I
end
def TC:HO->Bool
 |.tup _=>true
 |._b _ _=>true
 |_=>false
def jc(H H':Hp):Prop:=∀a u,TC u=true->H a=some u->H' a=some u
def jc.refl(H:Hp):jc H H:=λ_ _ _ h=>h
abbrev EU:=@jc.refl
def jc.trans{H1 H2:Hp}(a:jc H H1)(b:jc H1 H2):jc H H2:=λc u i h=>b c u i<|a c u i h
def jc.new{p:Addr}{o:HO}(h:H p=none):jc H (upd H p o):=λ_ _ _ q=>by rw[qp<|jf q h];exact q
abbrev EV:=@jc.new
def jc.lst{p:Addr}{zs:HT}{o:HO}(h:H p=⇑zs):jc H (upd H p o):=λa u i q=>by rw[qp ?_];exact q;rintro rfl;rw[h] at q;cases q;cases i
abbrev E6:=@jc.lst
def dR.ts{K:Aj}{a:Addr}(h:dR K H a xs)(t:jc H H'):dR K H' a xs:=by
 rcases h with(h|⟨o,h⟩)|h
 .exact .inl<|.inl<|t _ _ rfl h
 .exact .inl<|.inr {o,t _ _ rfl h}
 .exact .inr h
def SqF.ts{K:Aj}{a:Addr}(h:SqF K H a xs)(t:jc H H'):SqF K H' a xs:=by
 rcases h with⟨o,h⟩|h
 .exact .inl {o,t _ _ rfl h}
 .exact .inr h
mutual
theorem RV.ts{G:G3}{H H':Hp}(t:jc H H'):∀{y:Y} {v:V},RV G H y v->RV G H' y v
 |.GM,_,h=>h
 |.bl _,_,h=>h
 |.int _,_,h=>h
 |.str _,_,h=>h
 |.ref _,_,h=>h
 |.ty _,_,h=>h
 |.cd _,_,h=>h
 |.tup _,_,⟨a,I,e,s,r⟩=>{a,I,e,dR.ts s t,xw.ts t r}
 |.sq _,_,⟨a,I,e,s,r⟩=>{a,I,e,s.ts t,xw.ts t r}
theorem xw.ts{G:G3}{H H':Hp}(t:jc H H'):∀{ys:_T} {xs:HT},xw G H ys xs->xw G H' ys xs
 |[],_,h=>h
 |_::_,_,⟨x,I,e,r,s⟩=>{x,I,e,RV.ts t r,xw.ts t s}
end
theorem xw.length{G:G3}{H:Hp}:∀{ys:_T} {xs:HT},xw G H ys xs->ys.length=xs.l
 |[],_,h=>by cases h;rfl
 |_::_,_,⟨x,I,e,_,s⟩=>by subst e;simp[xw.length s]
theorem xw.get{G:G3}{H:Hp}:∀{ys:_T} {xs:HT} {i:Nat} {y:Y},xw G H ys xs->ys[i]?=some y->∃x,xs[i]?=some x/\RV G H y x
 |[],_,_,_,_,h=>by simp at h
 |_::_,_,0,_,⟨x,I,e,r,_⟩,h=>by subst e;simp at h;subst h;exact{(x),rfl,r}
 |_::_,_,i+1,_,⟨x,I,e,_,s⟩,h=>by subst e;obtain⟨J,q,r⟩:=xw.get (i:=i) s (~~~h);exact{J,~~~q,r}
theorem xw.app{G:G3}{H:Hp}:∀{ys zs:_T} {xs us:HT},xw G H ys xs->xw G H zs us->xw G H (ys++zs) (xs++us)
 |[],_,_,_,h,q=>by cases h;exact q
 |_::_,_,_,_,⟨x,I,e,r,s⟩,q=>by subst e;exact{x,I++_,rfl,r,xw.app s q}
def xw.one{G:G3}{y:Y}{x:V}(r:RV G H y x):xw G H [y] [x]:={x,[],rfl,r,rfl}
theorem xw.take{G:G3}{H:Hp}:∀{ys:_T} {xs:HT} (n:Nat),xw G H ys xs->xw G H (ys.u n) (xs.u n)
 |[],_,n,h=>by cases h;simp[xw]
 |_::_,_,0,_=>by simp[xw]
 |_::_,_,n+1,⟨x,I,e,r,s⟩=>by subst e;exact{x,I.u n,rfl,r,xw.take n s}
theorem xw.drop{G:G3}{H:Hp}:∀{ys:_T} {xs:HT} (n:Nat),xw G H ys xs->xw G H (ys.G n) (xs.G n)
 |[],_,n,h=>by cases h;simp[xw]
 |_::_,_,0,h=>h
 |_::_,_,n+1,⟨x,I,e,r,s⟩=>by subst e;exact xw.drop n s
theorem xw.setY{G:G3}{H:Hp}{y:Y}{x:V}(r:RV G H y x):∀{ys:_T} {xs:HT} (i:Nat),xw G H ys xs->xw G H (ys.O i y) (xs.O i x)
 |[],_,_,h=>by cases h;simp[xw]
 |_::_,_,0,⟨J,I,e,_,s⟩=>by subst e;exact{(x),I,rfl,r,s}
 |_::_,_,i+1,⟨J,I,e,q,s⟩=>by subst e;exact{J,I.O i x,rfl,q,xw.setY r i s}
def xw.dropLast{G:G3}{ys:_T}(h:xw G H ys xs):xw G H ys.dropLast xs.dropLast:=by rw[List.dropLast_eq_take,List.dropLast_eq_take,h.l];exact h.u _
theorem xw.eraseIdx{G:G3}{H:Hp}:∀{ys:_T} {xs:HT} (n:Nat),xw G H ys xs->xw G H (ys.n n) (xs.n n)
 |[],_,n,h=>by cases h;simp[xw]
 |_::_,_,0,⟨x,I,e,r,s⟩=>by subst e;exact s
 |_::_,_,n+1,⟨x,I,e,r,s⟩=>by subst e;exact{x,I.n n,rfl,r,xw.eraseIdx n s}
def RO(G:G3)(H:Hp)(a:Addr):LO->Prop
 |.lst ys=>∃xs,H a=⇑xs/\xw G H ys xs
 |._c kvs=>∃xs,H a=some (.dK xs)/\Paired (λ(p:jk×Y) (q:jk×V)=>p.1=q.1/\RV G H p.2 q.2) kvs xs
 |.ins C fs=>∃dx xs,H a=some (.ins C dx xs)/\Paired (λ(p:Str×Y) (q:Str×V)=>p.1=q.1/\RV G H p.2 q.2) fs xs
 |.exc C=>HH G.K H a C
 |.tb q=>vG H a q
def j8(G:G3)(H:Hp)(L:qm):Prop:=∀a o,L a=some o->RO G H a o
theorem RO.ex{G:G3}{a:Addr}:∀{o:LO},RO G H a o->∃u,H a=some u
 |.lst _,⟨_,h,_⟩=>{_,h}
 |._c _,⟨_,h,_⟩=>{_,h}
 |.ins _ _,⟨_,_,h,_⟩=>{_,h}
 |.exc _,⟨_,h,_⟩=>{_,h}
 |.tb _,⟨_,h,_⟩=>{_,h}
theorem j8.none{G:G3}{L:qm}(h:j8 G H L){p:Addr}(I:H p=none):L p=none:=by cases e:L p with|none=>rfl|some o=>obtain⟨u,q⟩:=(h p o e).ex;rw[I] at q;cases q
theorem RO.keep{G:G3}(t:jc H H'){a:Addr}(e:H' a=H a):∀{o:LO},RO G H a o->RO G H' a o
 |.lst _,⟨I,h,r⟩=>{I,e.t h,r.ts t}
 |._c _,⟨I,h,r⟩=>{I,e.t h,EX r λ_ _ ⟨a,b⟩=>{a,b.ts t}}
 |.ins _ _,⟨J,I,h,r⟩=>{J,I,e.t h,EX r λ_ _ ⟨a,b⟩=>{a,b.ts t}}
 |.exc _,⟨o,h,c⟩=>{o,e.t h,c}
 |.tb _,h=>vG.keep h e λb o u z=>t b _ rfl z
def j8.skip{G:G3}{L:qm}(h:j8 G H L){p:Addr}{o:HO}(I:H p=.none):j8 G (upd H p o) L:=λa u e=>by obtain⟨x,q⟩:=(h a u e).ex;exact(h a u e).keep (EV I) (qp<|jf q I)
def j8.newL{G:G3}{L:qm}(h:j8 G H L){p:Addr}{ys:_T}(I:H p=.none)(r:xw G H ys xs):j8 G (upd H p<|.lst xs) (qk L p<|.lst ys):=λa u e=>by
 by_cases c:a=p
 .subst c;rw[q9] at e;cases e;exact{xs,zg,r.ts<|EV I}
 .rw[qe c] at e;exact(h a u e).keep (EV I) (qp c)
def j8.setL{G:G3}{L:qm}(h:j8 G H L){p:Addr}{ys:_T}{zs:HT}(I:H p=⇑zs)(r:xw G H ys xs):j8 G (upd H p<|.lst xs) (qk L p<|.lst ys):=λa u e=>by
 by_cases c:a=p
 .subst c;rw[q9] at e;cases e;exact{xs,zg,r.ts<|E6 I}
 .rw[qe c] at e;exact(h a u e).keep (E6 I) (qp c)
def qh(L L':qm):Prop:=∀a o,L a=some o->L' a=some o
def qh.refl(L:qm):qh L L:=λ_ _ h=>h
abbrev ET:=@qh.refl
def qh.trans{L L1 L2:qm}(a:qh L L1)(b:qh L1 L2):qh L L2:=λc o h=>b c o<|a c o h
def qh.new{L:qm}{p:Addr}{o:LO}(h:L p=none):qh L (qk L p o):=λa u e=>by rw[qe<|ku e h];exact e
abbrev By:=@qh.new
@[elab_as_elim] theorem wW {L:qm} {p:Addr} {o:LO} {motive:qm->Prop} (h:L p=none) (k:∀L',qh L L'->L' p=some o->motive L'):motive (qk L p o):=k _ (By h) q9
def j8.sub{G:G3}{L L':qm}(h:j8 G H L')(s:qh L L'):j8 G H L:=λa o e=>h a o<|s a o e
abbrev jm:=List<|_C
structure vf(G:G3)(H:Hp)(σ:St)(τ:jm):Prop where
 len:σ.l=τ.l
 get:∀(i:Nat) y,τ[i]?=some (some y)->∃v,σ[i]?=some (some v)/\RV G H y v
theorem vf.ts{G:G3}{τ:jm}(h:vf G H σ τ)(t:jc H H'):vf G H' σ τ:=
 ⟨h.len,λi y e=>let ⟨v,a,b⟩:=h.get i y e;⟨v,a,b.ts t⟩⟩
def vf.set{G:G3}{τ:jm}(h:vf G H σ τ){y:Y}(r:RV G H y v):vf G H (σ.O i<|some v) (τ.O i<|some y):=by
 refine{by simp[h.len],λj z e=>?_};by_cases c:i=j
 .subst c;have I:i<τ.l:=by
   by_cases q:i<τ.l
   .exact q
   .rw[BC (by simp;omega)] at e;cases e
  rw[Bj I] at e;cases e;exact{v,Bj ([h.len]≈I),r}
 .rw[AX c] at e ⊢;exact h.get j z e
def vf.more{G:G3}{τ:jm}(h:vf G H σ τ)(n:Nat):vf G H (σ++List.replicate n none) (τ++List.replicate n none):=by
 refine{by simp[h.len],λj z e=>?_};by_cases c:j<τ.l
 .rw[AG c] at e;rw[AG ([h.len]≈c)];exact h.get j z e
 .rw[AH 'm',BY] at e;split at e<;>cases e
def yc:jm->Nat->_C
 |[],_=>none
 |o::_,0=>o
 |_::r,i+1=>yc r i
theorem oM:∀(τ:jm) (i:Nat) {y:Y},yc τ i=some y->τ[i]?=some (some y)
 |[],_,_,h=>by cases h
 |o::_,0,_,h=>by simp[yc] at h;simp[h]
 |_::r,i+1,_,h=>by simp only[Dn];exact oM r i h
abbrev YK:=Y->qm->Prop
abbrev xq:=jm->qm->YK->Prop
abbrev jB:=jm->qm->(Bool->qm->Prop)->Prop
abbrev gJ:=jm->qm->(_T->qm->Prop)->Prop
structure v5 where
 nx:jm->qm->Prop
 rt:YK
 bk:jm->qm->Prop:=λ_ _=>False
 ct:jm->qm->Prop:=λ_ _=>False
abbrev aa:=v5->jm->qm->Prop
abbrev mZ:=Y->jm->qm->(jm->qm->Prop)->Prop
abbrev wV:=_T->jm->qm->(jm->qm->Prop)->Prop
abbrev A_:=jm->qm->(_T->(qm->Prop)->qm->Prop)->Prop
abbrev rX:=Y->Y->qm->YK->Prop
def tj(G:G3)(H:Hp)(I:YK)(Q:VK):Prop:=∀v H' y L',jc H H'->j8 G H' L'->RV G H' y v->I y L'->Q v H'
def aed(G:G3)(H:Hp)(I:Bool->qm->Prop)(Q:Bool->Hp->Prop):Prop:=∀b H' L',jc H H'->j8 G H' L'->I b L'->Q b H'
def JZ(G:G3)(H:Hp)(I:_T->qm->Prop)(Q:HT->Hp->Prop):Prop:=∀vs H' ys L',jc H H'->j8 G H' L'->xw G H' ys vs->I ys L'->Q vs H'
def rq(G:G3)(H:Hp)(I:jm->qm->Prop)(Q:St->Hp->Prop):Prop:=∀σ H' τ L',jc H H'->vf G H' σ τ->j8 G H' L'->I τ L'->Q σ H'
def tj.ts{G:G3}{I:YK}{Q:VK}(h:tj G H I Q)(t:jc H H'):tj G H' I Q:=λv J y U g=>h v J y U<|t.trans g
def aed.ts{G:G3}{I:Bool->qm->Prop}{Q:Bool->Hp->Prop}(h:aed G H I Q)(t:jc H H'):aed G H' I Q:=λv J U g=>h v J U<|t.trans g
def rq.ts{G:G3}{I:jm->qm->Prop}{Q:St->Hp->Prop}(h:rq G H I Q)(t:jc H H'):rq G H' I Q:=λv J y U g=>h v J y U<|t.trans g
structure zX(G:G3)(H:Hp)(D3:v5)(D:pK):Prop where
 nx:rq G H D3.nx D.nx
 rt:tj G H D3.rt D.rt
 bk:rq G H D3.bk D.bk
 ct:rq G H D3.ct D.ct
theorem zX.ts{G:G3}{I:v5}{D:pK}(h:zX G H I D)(t:jc H H'):zX G H' I D:={h.nx.ts t,h.rt.ts t,h.bk.ts t,h.ct.ts t}
def tV(G:G3)(t:xq):TE:=λσ H Q=>∃τ L I,vf G H σ τ/\j8 G H L/\t τ L I/\tj G H I Q
def m_(G:G3)(t:jB):TT:=λσ H Q=>∃τ L I,vf G H σ τ/\j8 G H L/\t τ L I/\aed G H I Q
def J0(G:G3)(t:gJ):TA:=λσ H Q=>∃τ L I,vf G H σ τ/\j8 G H L/\t τ L I/\JZ G H I Q
def F9(G:G3)(t:aa):TS:=λD σ H=>∃τ L I,vf G H σ τ/\j8 G H L/\t I τ L/\zX G H I D
def F_(G:G3)(g:mZ):TG:=λv σ H Q=>∃y τ L I,RV G H y v/\vf G H σ τ/\j8 G H L/\g y τ L I/\rq G H I Q
def TD(G:G3)(g:wV):l_:=λvs σ H Q=>∃ys τ L I,xw G H ys vs/\vf G H σ τ/\j8 G H L/\g ys τ L I/\rq G H I Q
structure iy(G:G3)(H₀:Hp)(J:It)(ys:_T)(keep:qm->Prop):Prop where
 go:∀i H L,jc H₀ H->j8 G H L->keep L->i<ys.l->J.go i H
 yld:∀i H L x H' y,jc H₀ H->j8 G H L->keep L->ys[i]?=some y->J.yld i H x H'->jc H H'/\j8 G H' L/\RV G H' y x
 stop:∀H L,jc H₀ H->j8 G H L->keep L->J.stop ys.l H
def HI(G:G3)(wi:A_):TI:=λσ H R=>∃τ L I,vf G H σ τ/\j8 G H L/\wi τ L I/\∀J H' ys keep L',jc H H'->j8 G H' L'->iy G H' J ys keep->I ys keep L'->R J H'
def fz(G:G3)(U:rX):R2:=λx y H Q=>∃x3 I L J,RV G H x3 x/\RV G H I y/\j8 G H L/\U x3 I L J/\tj G H J Q
def g_(G:G3)(J:_T->qm->YK->Prop):HT->Hp->VK->Prop:=λxs H Q=>∃ys L I,xw G H ys xs/\j8 G H L/\J ys L I/\tj G H I Q
def J1(G:G3)(J:Y->qm->YK->Prop):V->Hp->VK->Prop:=λx H Q=>∃y L I,RV G H y x/\j8 G H L/\J y L I/\tj G H I Q
def PE.imp{t u:TE}(h:PE X e t)(q:∀σ H Q,u σ H Q->t σ H Q):PE X e u:=λJ s σ H Q I z=>h J s σ H Q I<|q σ H Q z
abbrev E9:=@PE.imp
def PE._x{G:G3}{t:TE}{u:xq}(h:PE X e t)(q:∀σ H Q τ L I,vf G H σ τ->j8 G H L->u τ L I->tj G H I Q->t σ H Q):PE X e (tV G u):=E9 h λσ H Q ⟨τ,L,I,a,b,c,d⟩=>q σ H Q τ L I a b c d
abbrev EW:=@PE._x
def PT.imp{t u:TT}(h:PT X e t)(q:∀σ H Q,u σ H Q->t σ H Q):PT X e u:=λJ s σ H Q I z=>h J s σ H Q I<|q σ H Q z
def PT._x{G:G3}{t:TT}{u:jB}(h:PT X e t)(q:∀σ H Q τ L I,vf G H σ τ->j8 G H L->u τ L I->aed G H I Q->t σ H Q):PT X e (m_ G u):=PT.imp h λσ H Q ⟨τ,L,I,a,b,c,d⟩=>q σ H Q τ L I a b c d
def PW.imp{t u:TT}(h:PW X e t)(q:∀σ H Q,u σ H Q->t σ H Q):PW X e u:=λU J s σ H Q I z=>h U J s σ H Q I<|q σ H Q z
def PW._x{G:G3}{t:TT}{u:jB}(h:PW X e t)(q:∀σ H Q τ L I,vf G H σ τ->j8 G H L->u τ L I->aed G H I Q->t σ H Q):PW X e (m_ G u):=PW.imp h λσ H Q ⟨τ,L,I,a,b,c,d⟩=>q σ H Q τ L I a b c d
def PA.imp{e:aaj}{t u:TA}(h:PA X e t)(q:∀σ H Q,u σ H Q->t σ H Q):PA X e u:=λpos J s σ H Q I z=>h pos J s σ H Q I<|q σ H Q z
def PA._x{G:G3}{e:aaj}{t:TA}{u:gJ}(h:PA X e t)(q:∀σ H Q τ L I,vf G H σ τ->j8 G H L->u τ L I->JZ G H I Q->t σ H Q):PA X e (J0 G u):=PA.imp h λσ H Q ⟨τ,L,I,a,b,c,d⟩=>q σ H Q τ L I a b c d
def PS.imp{e:Stmt}{t u:TS}(h:PS X e t)(q:∀D σ H,u D σ H->t D σ H):PS X e u:=λJ s σ H Q I z=>h J s σ H Q I<|q _ σ H z
def PS._x{G:G3}{e:Stmt}{t:TS}{u:aa}(h:PS X e t)(q:∀D σ H τ L I,vf G H σ τ->j8 G H L->u I τ L->zX G H I D->t D σ H):PS X e (F9 G u):=PS.imp h λD σ H ⟨τ,L,I,a,b,c,d⟩=>q D σ H τ L I a b c d
abbrev E5:=@PS._x
def i7.imp{e:aak}{t u:TS}(h:i7 X e t)(q:∀D σ H,u D σ H->t D σ H):i7 X e u:=λJ s σ H Q I z=>h J s σ H Q I<|q _ σ H z
def i7._x{G:G3}{e:aak}{t:TS}{u:aa}(h:i7 X e t)(q:∀D σ H τ L I,vf G H σ τ->j8 G H L->u I τ L->zX G H I D->t D σ H):i7 X e (F9 G u):=i7.imp h λD σ H ⟨τ,L,I,a,b,c,d⟩=>q D σ H τ L I a b c d
def PF.imp{e:aaj}{t u:TT}(h:PF X e t)(q:∀σ H Q,u σ H Q->t σ H Q):PF X e u:=λJ s σ H Q I z=>h J s σ H Q I<|q σ H Q z
variable {g:mZ}{G:G3}{y:Y}{D:v5}{ta tb te ti to:xq}{kvs:List<|jk×Y}{ys:_T}{L L' L0 L1:qm}{τ:jm}{gs:wV}{tA:jB}
def rg:Y:=(.tup [(.str "plain"),(.str "turned")])
def nv:Y:=(.cd [("plain","turned"),("turned","plain"),("both","either"),("either","both")])
structure J2(G:G3)(mg:aac)(x:Str)(kvs:List<|Str×Int):Prop where
 ex:∃a,mg x=↑a/\KD G.K G.P G.w a (kvs.y λp=>(Sum.inr p.1,V.int p.2))
def ny:List (Str×Int):=[("link",2),("either",1),("both",1),("cut",2)]
def fY(b:Bool)(A B:Prop):Prop:=match b with
 |true=>A
 |false=>B
def TF{b:Bool}{A B:Prop}(h:b=true->A)(k:b=false->B):fY b A B:=by cases b with|true=>exact h rfl|false=>exact k rfl
def gE{b:Bool}{A B:Prop}(e:b=true)(h:A):fY b A B:=by rw[e];exact h
def dg{b:Bool}{A B:Prop}(e:b=false)(h:B):fY b A B:=by rw[e];exact h
def qr{p:Prop} [Decidable p]{A B:Prop}(h:p->A)(k:¬p->B):fY (decide p) A B:=by
 by_cases c:p
 .rw[AJ c];exact h c
 .rw[Ay c];exact k c
def nb(neg b:Bool):Bool:=match neg with
 |true=>!b
 |false=>b
def qf(i:Nat)(τ:jm)(L:qm)(Q:YK):Prop:=match yc τ i with
 |some y=>Q y L
 |none=>False
def yC(y:Y)(_:jm)(L:qm)(Q:YK):Prop:=Q y L
def zx(r:rX)(ta tb:xq)(τ:jm)(L:qm)(Q:YK):Prop:=ta τ L λx L1=>tb τ L1 λy L2=>r x y L2 Q
def Fo(r:Y->qm->YK->Prop)(ta:xq)(τ:jm)(L:qm)(Q:YK):Prop:=ta τ L λx L1=>r x L1 Q
def yI(C:Int->Int->Prop)(g:Int->Int->Y)(x y:Y)(L:qm)(Q:YK):Prop:=match x,y with
 |.int i,.int j=>C i j/\Q (g i j) L
 |_,_=>False
def u_(g:Int->Int->Y)(x y:Y)(L:qm)(Q:YK):Prop:=match x,y with
 |.int i,.int j=>Q (g i j) L
 |_,_=>False
def Fp(x:Y)(L:qm)(Q:YK):Prop:=match x with
 |.int i=>Q (.int<|-i) L
 |_=>False
def cw(L:qm):Y->Option _T
 |.tup ys=>some ys
 |.sq ys=>some ys
 |.ref a=>match L a with
  |⇑ys=>some ys
  |_=>none
 |_=>none
@[irreducible] def fD (L:qm) (a:Addr) (k:_T->Prop):Prop:=match L a with
 |⇑ys=>k ys
 |_=>False
def v4{a:Addr}{k:_T->Prop}(h:fD L a k):∃ys,L a=⇑ys/\k ys:=by
 unfold fD at h;split at h
 .rename_i ys e;exact{(ys),e,h}
 .exact h.r
def qo{a:Addr}{k:_T->Prop}(e:L a=⇑ys)(h:k ys):fD L a k:=by unfold fD;rw[e];exact h
def fE(L:qm)(x:Y)(k:_T->Prop):Prop:=match x with
 |.tup ys=>k ys
 |.sq ys=>k ys
 |.ref a=>fD L a k
 |_=>False
def a8{a:Addr}(h:L a=⇑ys):cw L (.ref a)=some ys:=by show(match L a with|⇑ys=>some ys|_=>none)=some ys;rw[h]
def kw{x:Y}{k:_T->Prop}(h:fE L x k):∃ys,cw L x=some ys/\k ys:=by
 cases x with
 |tup ys=>exact{(ys),rfl,h}
 |sq ys=>exact{(ys),rfl,h}
 |ref a=>obtain⟨ys,e,q⟩:=v4 h;exact{ys,a8 e,q}
 |_=>exact h.r
def lM{a:Addr}(h:cw L (.ref a)=some ys):L a=⇑ys:=by
 have I:(match L a with|⇑ys=>some ys|_=>none)=some ys:=h;split at I
 .rename_i e;cases I;exact e
 .cases I
def J3{x:Y}{k:_T->Prop}(e:cw L x=some ys)(h:k ys):fE L x k:=by cases x with|tup I=>cases e;exact h|sq I=>cases e;exact h|ref a=>exact qo (lM e) h|_=>cases e
def qa{a:Addr}{k:_T->Prop}(e:L a=⇑ys)(h:k ys):fE L (.ref a) k:=J3 (a8 e) h
def kU(x y:Y)(L:qm)(Q:YK):Prop:=match x,y with
 |.int i,.int j=>Q (.int<|i+j) L
 |.str a,.str b=>a.length+b.l<=sizeLine/\Q (.str<|a++b) L
 |.ref a,.ref b=>∃ys zs,L a=⇑ys/\L b=⇑zs/\ys.l+zs.l<=sizeLine/\∀p,L p=none->Q (.ref p) (qk L p<|.lst<|ys++zs)
 |_,_=>False
def rQ(L:qm)(Q:α->qm->Prop):Option α->Prop
 |some v=>Q v L
 |none=>False
def wo(kvs:List<|jk×Y)(k:jk):_C:=(kvs.find? λp=>decide<|p.1=k).y (·.2)
@[irreducible] def nw (L:qm) (a:Addr) (k:List (jk×Y)->Prop):Prop:=match L a with
 |some (._c kvs)=>k kvs
 |_=>False
def dM{a:Addr}{k:List (jk×Y)->Prop}(h:nw L a k):∃kvs,L a=some (._c kvs)/\k kvs:=by
 unfold nw at h;split at h
 .rename_i I e;exact{(I),e,h}
 .exact h.r
def x4{a:Addr}{k:List (jk×Y)->Prop}(e:L a=some (._c kvs))(h:k kvs):nw L a k:=by unfold nw;rw[e];exact h
def aO(x y:Y)(L:qm)(Q:YK):Prop:=match x,y with
 |.str z,.int i=>z.length<=sizeLine/\rQ L (λc L=>Q (.str {#[c]}) L) (bw z.cps.z i)
 |.cd kvs,.str k=>rQ L (λs L=>Q (.str s) L)<|kvs.lookup k
 |.ref a,.str k=>nw L a λkvs=>rQ L Q<|wo kvs<|.inr k
 |x,.int i=>fE L x λys=>rQ L Q<|bw ys i
 |_,_=>False
def sD(xs:_T)(L:qm)(Q:YK):Prop:=match xs with
 |[.str z]=>z.length<=sizeLine/\Q (.int z.l) L
 |[x]=>fE L x λys=>Q (.int ys.l) L
 |_=>False
def HJ(xs:_T)(L:qm)(Q:YK):Prop:=match xs with
 |[.int i,.int j]=>Q (.int<|max i j) L
 |_=>False
def J4(xs:_T)(L:qm)(Q:YK):Prop:=match xs with
 |[.int i,.int j]=>Q (.int<|min i j) L
 |_=>False
inductive yV where
 |GM|bool|int|str|tuple|list|dict
def yV.nm:yV->aav
 |.GM => "NoneType"
 |.bool => "bool"
 |.int => "int"
 |.str => "str"
 |.tuple => "tuple"
 |.list => "list"
 |.dict => "dict"
def Ga(L:qm):Y->Option yV
 |.GM=>some .GM
 |.bl _=>some .bool
 |.int _=>some .int
 |.str _=>some .str
 |.tup _=>some .tuple
 |.sq _=>some .list
 |.ref a=>match L a with
  |⇑_=>some .list
  |some (._c _)=>some .dict
  |_=>none
 |_=>none
def HK:yV->yV->Bool
 |.bool,.int=>true
 |.bool,.bool=>true
 |.int,.int=>true
 |.str,.str=>true
 |.tuple,.tuple=>true
 |.list,.list=>true
 |.dict,.dict=>true
 |.GM,.GM=>true
 |_,_=>false
@[irreducible] def HL (L:qm) (a:Addr) (k:yV->Prop):Prop:=match Ga L (.ref a) with
 |some T=>k T
 |none=>False
def TH{a:Addr}{k:yV->Prop}(h:HL L a k):∃T,Ga L (.ref a)=some T/\k T:=by
 unfold HL at h;split at h
 .rename_i T e;exact{(T),e,h}
 .exact h.r
def J5(L:qm)(x:Y)(k:yV->Prop):Prop:=match x with
 |.GM=>k .GM
 |.bl _=>k .bool
 |.int _=>k .int
 |.str _=>k .str
 |.tup _=>k .tuple
 |.sq _=>k .list
 |.ref a=>HL L a k
 |_=>False
def TJ{x:Y}{k:yV->Prop}(h:J5 L x k):∃T,Ga L x=some T/\k T:=by cases x with|ref a=>exact TH h|ty n=>exact h.r|cd k=>exact h.r|_=>exact{_,rfl,h}
def TK(S:yV)(te:xq)(τ:jm)(L:qm)(Q:YK):Prop:=te τ L λx L1=>J5 L1 x λT=>Q (.bl<|HK T S) L1
def gj:Y->Bool
 |.GM=>true
 |.bl _=>true
 |.int _=>true
 |.str _=>true
 |_=>false
def cT:Y->V
 |.GM=>.GM
 |.bl b=>.bl b
 |.int i=>.int i
 |.str x=>.str x
 |_=>.ty "?"
def RV.flat :∀{y:Y} {v:V},gj y=true->RV G H y v->v=cT y:=by intro y v e h;cases y<;>first|exact h|cases e
theorem jR:∀{y:Y},gj y=true->cA (cT y)=true
 |.GM,_=>rfl
 |.bl _,_=>rfl
 |.int _,_=>rfl
 |.str _,_=>rfl
theorem xw.flat :∀{ys:_T} {xs:HT},ys.all gj=true->xw G H ys xs->xs=ys.y cT
 |[],_,_,h=>h
 |y::ys,_,f,⟨x,I,e,r,s⟩=>by rw[Df,AS] at f;rw[e,r.flat f.1,s.flat f.2];rfl
def sv:Y->Bool
 |.ref _=>true
 |.sq _=>true
 |_=>false
def j6(L:qm):Nat->Y->Da->Prop
 |0,y,d=>gj y=true/\d=.s (cT y)
 |n+1,y,d=>(gj y=true/\d=.s (cT y))\/(∃ys ds,y=.tup ys/\d=.tup ds/\Paired (j6 L n) ys ds)\/(∃ys ds,sv y=true/\d=.lst ds/\cw L y=some ys/\Paired (j6 L n) ys ds)
def FI:Y->Bool
 |.ref _=>true
 |.tup _=>true
 |.sq _=>true
 |_=>false
def f_(neg:Bool)(x y:Y)(L:qm)(Q:YK):Prop:=match x,y with
 |.int i,.int j=>Q (.bl<|nb neg<|decide<|i=j) L
 |.str i,.str j=>Q (.bl<|nb neg<|decide<|i=j) L
 |.bl i,.bl j=>Q (.bl<|nb neg<|decide<|i=j) L
 |x,y=>FI x=true/\FI y=true/\∃n m d e,n<=128/\j6 L n x d/\j6 L m y e/\Q (.bl<|nb neg<|Da.eq d e) L
def rY(neg:Bool)(ta:xq)(τ:jm)(L:qm)(Q:YK):Prop:=ta τ L λx L1=>match x with
 |.GM=>Q (.bl<|!neg) L1
 |_=>Q (.bl neg) L1
def yB(t:xq)(τ:jm)(L:qm)(Q:Bool->qm->Prop):Prop:=t τ L λx L1=>match x with
 |.bl c=>Q c L1
 |_=>False
def iY(t u:jB)(τ:jm)(L:qm)(Q:Bool->qm->Prop):Prop:=t τ L λc L1=>fY c (u τ L1 Q)<|Q false L1
def HM(t u:jB)(τ:jm)(L:qm)(Q:Bool->qm->Prop):Prop:=t τ L λc L1=>fY c (Q true L1)<|u τ L1 Q
def Gb(t:jB)(τ:jm)(L:qm)(Q:Bool->qm->Prop):Prop:=t τ L λc L1=>Q (!c) L1
def J6(ta tb:xq)(τ:jm)(L:qm)(Q:YK):Prop:=ta τ L λx L1=>match x with
 |.bl c=>fY c (tb τ L1 Q)<|Q (.bl false) L1
 |_=>False
def J7(ta:xq)(τ:jm)(L:qm)(Q:YK):Prop:=ta τ L λx L1=>match x with
 |.bl c=>Q (.bl<|!c) L1
 |_=>False
def Gc(t:jB)(ta tb:xq)(τ:jm)(L:qm)(Q:YK):Prop:=t τ L λc L1=>fY c (ta τ L1 Q)<|tb τ L1 Q
def zk(_:jm)(L:qm)(Q:_T->qm->Prop):Prop:=Q [] L
def qi(ta:xq)(tr:gJ)(τ:jm)(L:qm)(Q:_T->qm->Prop):Prop:=ta τ L λx L1=>tr τ L1 λxs L2=>Q (x::xs) L2
def vi(t:gJ)(τ:jm)(L:qm)(Q:YK):Prop:=t τ L λys L1=>match Nat.ble ys.l 1000 with
 |true=>Q (.tup ys) L1
 |false=>False
def aZ(t:gJ)(τ:jm)(L:qm)(Q:YK):Prop:=t τ L λys L1=>match Nat.ble ys.l 1000 with
 |true=>∀p,L1 p=none->Q (.ref p) (qk L1 p<|.lst ys)
 |false=>False
def sJ(r:_T->qm->YK->Prop)(t:gJ)(τ:jm)(L:qm)(Q:YK):Prop:=t τ L λvs L1=>r vs L1 Q
abbrev Gd:=jm->qm->(aan->qm->Prop)->Prop
def kI(_:jm)(L:qm)(Q:aan->qm->Prop):Prop:=Q none L
def yO(t:xq)(τ:jm)(L:qm)(Q:aan->qm->Prop):Prop:=t τ L λx L1=>match x with
 |.int i=>Q (some i) L1
 |_=>False
def rf(xs:_T)(lo hi:aan):_T:=(xs.G<|Os xs.l 0 lo).u<|Os xs.l xs.l hi-Os xs.l 0 lo
def J8(x:Y)(lo hi:aan)(L:qm)(Q:YK):Prop:=match x with
 |.ref a=>fD L a λys=>∀p,L p=none->Q (.ref p) (qk L p<|.lst<|rf ys lo hi)
 |.sq ys=>∀p,L p=none->Q (.ref p) (qk L p<|.lst<|rf ys lo hi)
 |_=>False
def Ge(r:Y->aan->aan->qm->YK->Prop)(te:xq)(tl th:Gd)(τ:jm)(L:qm)(Q:YK):Prop:=te τ L λx L1=>tl τ L1 λl L2=>th τ L2 λu L3=>r x l u L3 Q
def zj(t u:aa)(D:v5)(τ:jm)(L:qm):Prop:=t {D with nx:=u D} τ L
def w5(D:v5)(τ:jm)(L:qm):Prop:=D.nx τ L
def TL(D:v5)(τ:jm)(L:qm):Prop:=D.ct τ L
def jo(te:xq)(D:v5)(τ:jm)(L:qm):Prop:=te τ L λ_ L1=>D.nx τ L1
def bN(te:xq)(D:v5)(τ:jm)(L:qm):Prop:=te τ L D.rt
def HN(D:v5)(_:jm)(L:qm):Prop:=D.rt .GM L
def xr(c:jB)(t u:aa)(D:v5)(τ:jm)(L:qm):Prop:=c τ L λb L1=>fY b (t D τ L1)<|u D τ L1
def jx(te:xq)(g:mZ)(D:v5)(τ:jm)(L:qm):Prop:=te τ L λx L1=>g x τ L1 D.nx
def iQ:jm->Nat->Y->jm
 |[],_,_=>[]
 |_::r,0,y=>some y::r
 |o::r,i+1,y=>o::iQ r i y
theorem bP:∀(τ:jm) (i:Nat) (y:Y),iQ τ i y=τ.O i (some y)
 |[],_,_=>rfl
 |_::_,0,_=>rfl
 |o::r,i+1,y=>by rw[iQ,bP r i y];rfl
def ql(i:Nat)(y:Y)(τ:jm)(L:qm)(Q:jm->qm->Prop):Prop:=Q (iQ τ i y) L
def cK(ys:_T)(τ:jm)(L:qm)(Q:jm->qm->Prop):Prop:=match ys with
 |[]=>Q τ L
 |_=>False
def jy(t:mZ)(u:wV)(ys:_T)(τ:jm)(L:qm)(Q:jm->qm->Prop):Prop:=match ys with
 |[]=>False
 |y::r=>t y τ L λI L'=>u r I L' Q
def dY(n:Nat)(t:wV)(y:Y)(τ:jm)(L:qm)(Q:jm->qm->Prop):Prop:=match y with
 |.tup ys=>match ys.l==n with
  |true=>t ys τ L Q
  |false=>False
 |_=>False
def J9(i j:Nat)(ta:gJ)(D:v5)(τ:jm)(L:qm):Prop:=ta τ L λvs L1=>match vs with
 |[v,w]=>D.nx (iQ (iQ τ i v) j w) L1
 |_=>False
inductive jA{α:Type}(W:α->qm->Prop)(x:α)(L:qm):Prop
 |mk:∀L',qh L' L->W x L'->jA W x L
def J'{W:α->qm->Prop}{x:α}(h:W x L):jA W x L:={L,ET L,h}
inductive y9(c:jB)(tb:aa)(D:v5)(τ:jm)(L:qm):Prop
 |mk:∀W:Nat->jm->qm->Prop,(∃m,W m τ L)->(∀m τ L,W m τ L->
 c τ L λb L1=>fY b (∃N:jm->qm->Prop,(∀τ' L',N τ' L'->∃m',m'<m/\W m' τ' L')/\tb {D with nx:=jA N,ct:=jA N,bk:=D.nx} τ L1)<|D.nx τ L1)->y9 c tb D τ L
inductive uB(ys:_T)(keep:qm->Prop)(g:mZ)(tb:aa)(D:v5)(τ:jm)(L1:qm):Prop
 |mk:∀W:Nat->jm->qm->Prop,W 0 τ L1->(∀i τ L,W i τ L->keep L)->
 (∀i y τ L,ys[i]?=some y->W i τ L->g y τ L λτ2 L2=>tb {D with nx:=jA<|W<|i+1,ct:=jA<|W<|i+1,bk:=D.nx} τ2 L2)->(∀τ L,W ys.l τ L->D.nx τ L)->uB ys keep g tb D τ L1
def wq{keep:qm->Prop}{tb:aa}(h:uB ys keep g tb D τ L1):uB ys keep g tb D τ L1:=h
def TM{keep:qm->Prop}{tb:aa}(h:uB ys keep g tb D τ L1):uB ys keep g tb D τ L1:=h
def gA(wi:A_)(g:mZ)(tb:aa)(D:v5)(τ:jm)(L:qm):Prop:=wi τ L λys keep L1=>uB ys keep g tb D τ L1
@[irreducible] def xO (L:qm) (a:Addr) (R:_T->(qm->Prop)->qm->Prop):Prop:=match L a with
 |⇑ys=>R ys (λL=>L a=⇑ys) L
 |_=>False
def xi{a:Addr}{R:_T->(qm->Prop)->qm->Prop}(h:L a=⇑ys)(q:∀keep:qm->Prop,(∀L',L' a=L a->keep L')->R ys keep L):xO L a R:=by unfold xO;rw[h];exact q _ λL' I=>I.trans h
def vI{a:Addr}{R:_T->(qm->Prop)->qm->Prop}(h:xO L a R):∃ys keep,cw L (.ref a)=some ys/\keep L/\(∀L',keep L'->cw L' (.ref a)=some ys)/\R ys keep L:=by
 unfold xO at h;split at h
 .rename_i ys e;exact{ys,_,a8 e,e,λL' I=>a8 I,h}
 .exact h.r
def ah(tl:xq)(τ:jm)(L:qm)(R:_T->(qm->Prop)->qm->Prop):Prop:=tl τ L λx L1=>match x with
 |.ref a=>xO L1 a R
 |.sq ys=>R ys (λ_=>True) L1
 |_=>False
def TN(tl:xq)(τ:jm)(L:qm)(R:_T->(qm->Prop)->qm->Prop):Prop:=tl τ L λx L1=>match x with
 |.tup ys=>R ys (λ_=>True) L1
 |_=>False
def dG(lo:Int)(n:Nat):_T:=(List.range n).y λk=>.int<|lo+(k:Nat)
def bx(ta:gJ)(τ:jm)(L:qm)(R:_T->(qm->Prop)->qm->Prop):Prop:=ta τ L λvs L1=>match vs with
 |[.int j]=>(-(2 ^ 62)<=j/\j<2 ^ 62)/\R (dG 0 j.B) (λ_=>True) L1
 |_=>False
def GF(_:jm)(L:qm)(Q:Bool->qm->Prop):Prop:=Q true L
inductive n_(ys:_T)(keep:qm->Prop)(n:Nat)(g:mZ)(tc:jB)(te:xq)(τ:jm)(L1:qm)(Q:YK):Prop
 |mk:ys.l<sizeLine->∀W:Nat->_T->qm->Prop,W 0 [] L1->(∀i zs L,W i zs L->keep L)->
 (∀i y zs L,ys[i]?=some y->W i zs L->g y (τ++List.replicate n none) L λτ2 L2=>tc τ2 L2 λb L3=>fY b (te τ2 L3 λz L4=>jA (W<|i+1) (zs++[z]) L4)<|jA (W<|i+1) zs L3)->
 (∀zs L,W ys.l zs L->∀p,L p=none->Q (.ref p) (qk L p<|.lst zs))->n_ ys keep n g tc te τ L1 Q
def Ka{keep:qm->Prop}{tc:jB}{Q:YK}(h:n_ ys keep n g tc te τ L1 Q):n_ ys keep n g tc te τ L1 Q:=h
def TQ{keep:qm->Prop}{tc:jB}{Q:YK}(h:n_ ys keep n g tc te τ L1 Q):n_ ys keep n g tc te τ L1 Q:=h
def h_(n:Nat)(wi:A_)(g:mZ)(tc:jB)(te:xq)(τ:jm)(L:qm)(Q:YK):Prop:=wi τ L λys keep L1=>n_ ys keep n g tc te τ L1 Q
abbrev vh:=_T->qm->YK->Prop
def jg(sp:vh)(t:gJ)(τ:jm)(L:qm)(Q:YK):Prop:=t τ L λys L1=>sp ys L1 Q
def xp(x:Y)(vs:_T)(L:qm)(Q:YK):Prop:=match x,vs with
 |.ref a,[v]=>fD L a λys=>ys.length<sizeLine/\Q .GM (qk L a<|.lst<|ys++[v])
 |_,_=>False
def iF(x:Y)(vs:_T)(L:qm)(Q:YK):Prop:=match x,vs with
 |.ref a,[.ref b]=>fD L a λys=>fD L b λzs=>ys.length+zs.l<=sizeLine/\Q .GM (qk L a<|.lst<|ys++zs)
 |_,_=>False
def Gf(x:Y)(vs:_T)(L:qm)(Q:YK):Prop:=match x,vs with
 |.ref a,[]=>fD L a λys=>rQ L (λv L=>Q v<|qk L a<|.lst ys.dropLast)<|ys[ys.l-1]?
 |_,_=>False
def kz.imp{f:aaq->aaq->Sem aaq}{r U:R2}(h:kz X f r)(q:∀x y H Q,U x y H Q->r x y H Q):kz X f U:=λJ s g H x y v u Q I j l z=>h J s g H x y v u Q I j l<|q x y H Q z
def kz._x{f:aaq->aaq->Sem aaq}{r:R2}{u:rX}(h:kz X f r)(q:∀x y H Q x3 I L J,RV G H x3 x->RV G H I y->j8 G H L->u x3 I L J->tj G H J Q->r x y H Q):kz X f (fz G u):=kz.imp h λx y H Q ⟨x3,I,L,J,a,b,c,d,e⟩=>q x y H Q x3 I L J a b c d e
abbrev FB:=@kz._x
def UnR.imp{f:aaq->Sem aaq}{r U:V->Hp->VK->Prop}(h:UnR X f r)(q:∀x H Q,U x H Q->r x H Q):UnR X f U:=λJ s g H x v Q I j z=>h J s g H x v Q I j<|q x H Q z
def jt.imp{f:aaq}{r U:HT->Hp->VK->Prop}(h:jt X f r)(q:∀x H Q,U x H Q->r x H Q):jt X f U:=λJ s g H x v Q I j z=>h J s g H x v Q I j<|q x H Q z
def jt._x{f:aaq}{r:HT->Hp->VK->Prop}{u:_T->qm->YK->Prop}(h:jt X f r)(q:∀xs H Q ys L I,xw G H ys xs->j8 G H L->u ys L I->tj G H I Q->r xs H Q):jt X f (g_ G u):=jt.imp h λxs H Q ⟨ys,L,I,a,b,c,d⟩=>q xs H Q ys L I a b c d
abbrev FC:=@jt._x
def IxR.imp{r U:R2}(h:IxR X r)(q:∀x y H Q,U x y H Q->r x y H Q):IxR X U:=λvalue slice J s g H x y v u Q I j l z=>h value slice J s g H x y v u Q I j l<|q x y H Q z
def iR.imp{id:aav}{r U:V->HT->Hp->VK->Prop}(h:iR X id r)(q:∀x xs H Q,U x xs H Q->r x xs H Q):iR X id U:=λJ s g H x xs v j Q I l o z=>h J s g H x xs v j Q I l o<|q x xs H Q z
def uk(U:j8 G H L)(r:RV G H y v)(h:cw L y=some ys):∃p xs,v=.ref p/\(bQ G.K H p xs\/dR G.K H p xs)/\xw G H ys xs:=by
 cases y with
 |tup J=>
  obtain⟨a,xs,e,s,q⟩:=r;cases h;exact{a,xs,e,.inr s,q}
 |sq J=>
  obtain⟨a,xs,e,s,q⟩:=r;cases h;exact{a,xs,e,.inl s.sq,q}
 |ref a=>
  cases (show v=.ref a from r);have I:(match L a with|⇑ys=>some ys|_=>none)=some ys:=h;split at I
  .rename_i J e;cases I;obtain⟨xs,g,q⟩:=U a _ e;exact{a,xs,rfl,.inl<|FF g,q}
  .cases I
 |_=>cases h
def TR{i:Int}(s:xw G H ys xs)(h:bw ys i=some y):∃x,bw xs i=some x/\RV G H y x:=by
 unfold bw at h ⊢;rw[<-s.l];cases e:vB ys.l i with
 |none=>rw[e] at h;cases h
 |some j=>
  rw[e] at h;exact s.get (i:=j) h
section
variable {a b:Expr}{tc:xq}{pos:Pos}
abbrev QE(X:Cx)(e:Expr)(t:xq):Prop:=PE X e<|tV X.g3 t
abbrev QT(X:Cx)(e:Expr)(t:jB):Prop:=PT X e<|m_ X.g3 t
abbrev QW(X:Cx)(e:Expr)(t:jB):Prop:=PW X e<|m_ X.g3 t
abbrev QA(X:Cx)(es:aaj)(t:gJ):Prop:=PA X es<|J0 X.g3 t
abbrev QS(X:Cx)(st:Stmt)(t:aa):Prop:=PS X st<|F9 X.g3 t
abbrev sg(X:Cx)(st:aak)(t:aa):Prop:=i7 X st<|F9 X.g3 t
abbrev QG(X:Cx)(e:Expr)(g:mZ):Prop:=PG X e<|F_ X.g3 g
abbrev Gg(X:Cx)(es:aaj)(g:wV):Prop:=PGs X es<|TD X.g3 g
abbrev QI(X:Cx)(tg it:Expr)(w:A_):Prop:=PI X tg it<|HI X.g3 w
abbrev QF(X:Cx)(es:aaj)(t:jB):Prop:=PF X es<|m_ X.g3 t
def QE.of_var(h:PE X e<|Gu i):QE X e (qf i):=EW h λg H Q j L l rs I z k=>by
 unfold qf at z;split at z
 .rename_i y J;obtain⟨v,ev,U⟩:=rs.get i y<|oM _ _ J;exact{v,ev,k v H y L (EU _) I U z}
 .exact z.r
def QE.of_c(h:PE X e<|tC v)(q:∀H,RV X.g3 H y v):QE X e (yC y):=EW h λJ H Q U L g rs I z k=>k v H y L (EU _) I (q H) z
def qv(i:Nat){pos:Pos}(hN:X.N[i]?=some x:=by rfl)(J:Fv X.env.scope x:=by first|exact Or.inl rfl|exact Or.inr (Or.inl rfl)|exact Or.inr<|Or.inr rfl)(hd:Fe x:=by decide)
 (I:Ff x:=by decide):QE X (.Name x pos) (qf i):=QE.of_var<|pv i hN J hd I
def lZ :QE X (.Constant .none j pos) (yC .GM):=QE.of_c Qf λ_=>rfl
def aP{b:Bool} :QE X (.Constant (.bool b) j pos) (yC<|.bl b):=QE.of_c Qe λ_=>rfl
def qc{i:Int} :QE X (.Constant (.int i) j pos) (yC<|.int i):=QE.of_c Qd λ_=>rfl
def qz :QE X (.Constant (.str x) j pos) (yC<|.str x):=QE.of_c aC λ_=>rfl
def TU{c:Addr}(I:Gl X x)(J:X.mg x=↑c)(q:∀H,RV X.g3 H y<|.ref c)(hd:Fe x:=by decide):QE X (.Name x pos) (yC y):=QE.of_c (JW I J hd) q
def GG{r:rX}(σ:St)(H:Hp)(Q:VK):tV G (zx r ta tb) σ H Q->FZ (fz G r) (tV G ta) (tV G tb) σ H Q:=λ⟨j,L,p,rs,t,z,k⟩=>
 ⟨j,L,_,rs,t,z,λv H1 y C l I J T=>{j,C,_,rs.ts l,I,T,λv2 H2 y2 L2 o U g z2=>{y,y2,L2,p,J.ts o,g,U,z2,k.ts<|l.trans o}}⟩
def qj{op:Operator}{r:rX}(h:kz X (binaryOp op)<|fz X.g3 r)(I:QE X a ta)(J:QE X b tb):QE X (.BinOp a op b pos) (zx r ta tb):=E9 (Rf h I J) GG
def TX{r:rX}(h:IxR X<|fz X.g3 r)(I:QE X a ta)(J:QE X b tb)(U:iL b):QE X (.Subscript a b pos) (zx r ta tb):=E9 (Gy h I J U) GG
def ak{op:CmpOp}{r:rX}(h:kz X (compareOp op)<|fz X.g3 r)(I:QE X a ta)(J:QE X b tb)(U:behindInMarks op b=false):QE X (.Compare a [op] [b] pos) (zx r ta tb):=E9 (Rt h I J U) GG
def HQ{t:xq}(σ:St)(H:Hp)(Q:Bool->Hp->Prop):m_ G (yB t) σ H Q->Hv (tV G t) σ H Q:=λ⟨g,L,r,rs,j,z,k⟩=>
 ⟨g,L,_,rs,j,z,λv l y o p I J U=>by cases y with|bl b=>exact{b,J,k b l o p I U}|_=>exact U.r⟩
def Kb{t:xq}(σ:St)(H:Hp)(Q:Bool->Hp->Prop):m_ G (yB t) σ H Q->tB (tV G t) σ H Q:=HQ σ H Q
def xb{op:CmpOp}{r:rX}(h:kz X (compareOp op)<|fz X.g3 r)(J:QE X a ta)(U:QE X b tb)(g:behindInMarks op b=false):QT X (.Compare a [op] [b] pos) (yB<|zx r ta tb):=
 PT.imp (Rv h J U g) λI H Q q=>by have j:=HQ I H Q q;obtain⟨l,L,o,rs,p,z,k⟩:=j;exact GG I H _ {(l),L,o,rs,p,z,k}
def bv(h:QE X e te)(I:∀whole,isTrue e X.o whole=(do let v <-whole;standAt e.pos;holding [v] (truthy v)):=by intro _;rfl):QT X e (yB te):=PT.imp (Qj h I) Kb
def GH{f:aaq->aaq->Sem aaq}{C:Int->Int->Prop}{g:Int->Int->V}{g3:Int->Int->Y}(h:kz X f<|rI C g)(e:∀i j H,RV X.g3 H (g3 i j)<|g i j):kz X f (fz X.g3<|yI C g3):=FB h λx y H Q J I L p U l o z k=>by
 cases J with
 |int i=>
  cases I with|int j=>exact{i,j,U,l,z.1,k _ H _ L (EU _) o (e i j H) z.2}|_=>exact z.r
 |_=>cases I<;>exact z.r
def GI{f:aaq->aaq->Sem aaq}{g:Int->Int->V}{g3:Int->Int->Y}(h:kz X f<|z_ g)(e:∀i j H,RV X.g3 H (g3 i j)<|g i j):kz X f (fz X.g3<|u_ g3):=FB h λx y H Q J I L p U l o z k=>by
 cases J with
 |int i=>
  cases I with|int j=>exact{i,j,U,l,k _ H _ L (EU _) o (e i j H) z}|_=>exact z.r
 |_=>cases I<;>exact z.r
def aG:kz X (binaryOp .Sub) (fz X.g3<|u_ λi j=>.int<|i-j):=GI Ri λ_ _ _=>rfl
def mS:kz X (binaryOp .Mult) (fz X.g3<|yI agl λi j=>.int<|i*j):=GH Rj λ_ _ _=>rfl
def xa:kz X (binaryOp .FloorDiv) (fz X.g3<|yI Ht λi j=>.int<|i / j):=GH Rk λ_ _ _=>rfl
def zn:kz X (binaryOp .Mod) (fz X.g3<|yI (λ_ j=>0<j) λi j=>.int<|i % j):=GH Rl λ_ _ _=>rfl
def HR:kz X (binaryOp .Pow) (fz X.g3<|yI Hu λi j=>.int<|i ^ j.B):=GH Rm λ_ _ _=>rfl
def oA:kz X (compareOp .Lt) (fz X.g3<|u_ λi j=>.bl<|decide<|i<j):=GI Rq λ_ _ _=>rfl
def HU:kz X (compareOp .LtE) (fz X.g3<|u_ λi j=>.bl<|decide<|i<=j):=GI Rr λ_ _ _=>rfl
def FJ:kz X (compareOp .Gt) (fz X.g3<|u_ λi j=>.bl<|decide<|j<i):=GI Rs λ_ _ _=>rfl
def ju:kz X (binaryOp .Add) (fz X.g3 kU):=FB S1 λx y H Q t J L Q3 U g I z k=>by
 cases t with
 |int i=>
  cases J with|int j=>cases U;cases g;exact k _ H _ L (EU _) I 'o' z|_=>exact z.r
 |str i=>
  cases J with|str j=>cases U;cases g;exact{z.1,k _ H _ L (EU _) I 'o' z.2}|_=>exact z.r
 |ref a=>
  cases J with
  |ref b=>
   cases U;cases g;obtain⟨ys,zs,C,T,hz,q⟩:=z;obtain⟨xs,h1,o⟩:=I a _ C;obtain⟨us,h2,r⟩:=I b _ T;refine{xs,us,h1,h2,by rw[<-o.l,<-r.l];exact hz,λp l=>?_};exact k _ _ _ _ (EV l) (I.newL l<|o.app r) 'o'<|q p<|I.none l
  |_=>exact z.r
 |_=>cases J<;>exact z.r
def xW{kvs:List<|Str×Str}{k:Str}(h:kvs.e k=some x):dQ (kvs.y λp=>((Sum.inr p.1:jk),V.str p.2)) (Sum.inr k)=some (V.str x):=by
 induction kvs with
 |nil=>simp at h
 |cons p r I=>
  obtain⟨a,b⟩:=p;unfold dQ;rw[AR,BP];rw[BF] at h;by_cases c:k=a
  .subst c;simp at h;simp[h]
  .have J:(k==a)=false:=by simpa using c
   rw[J] at h;have U:decide ((Sum.inr a:jk)=Sum.inr k)=false:=Ay λz=>c (Fj z).L;simp only[U];exact I h
def tT{xs:List<|jk×V}{k:jk}(p:Paired (λ(p:jk×Y) (q:jk×V)=>p.1=q.1/\RV G H p.2 q.2) kvs xs)(h:wo kvs k=some y):∃x,dQ xs k=some x/\RV G H y x:=by
 induction p with
 |nil=>cases h
 |@cons a b _ _ r t U=>
  obtain⟨J,l⟩:=a;obtain⟨g,j⟩:=b;obtain⟨e,r⟩:=r;cases (show J=g from e);unfold wo at h;unfold dQ;rw[BP] at h ⊢;by_cases c:J=k
  .have I:=AJ c;simp only[I] at h ⊢;cases h;exact{(j),rfl,r}
  .have I:=Ay c;simp only[I] at h ⊢;exact U h
def HV(K:Aj)(P:aas)(w:aat)(hK:X.K=K:=by rfl)(hP:X.i=P:=by rfl)(hw:X.w=w:=by rfl):IxR X (fz ⟨K,P,w⟩ aO):=by
 subst hK hP hw;refine IxR.imp JV λx y H Q ⟨x3,j,L,Q3,I,l,o,z,k⟩=>?_;have seq:∀{i:Int} {x3:Y},RV X.g3 H x3 x->y=.int i->(fE L x3 λg=>rQ L Q3<|bw g i)->JT X.K X.i X.w x y H Q:=by
  intro i x3 I ey z;subst ey;obtain⟨g,es,z⟩:=kw z;obtain⟨p,C,e,sq,rv⟩:=uk o I es;subst e;cases ea:bw g i with
  |none=>rw[ea] at z;exact z.r
  |some y=>
   rw[ea] at z;obtain⟨x,ex,T⟩:=TR rv ea;exact{C,x,sq,ex,k _ H _ L (EU _) o T z}
 cases x3 with
 |str s=>
  cases j with
  |int i=>
   cases I;cases l;obtain⟨z1,r⟩:=z;cases ea:bw s.cps.z i with
   |none=>rw[ea] at r;exact r.r
   |some c=>rw[ea] at r;exact{z1,c,ea,k _ H _ L (EU _) o 'o' r}
  |_=>exact z.r
 |cd J=>
  cases j with
  |str s=>
   obtain⟨a,ea,kd⟩:=I;cases ea;cases l;have U:rQ L (λs L=>Q3 (.str s) L) (J.e s):=z;cases el:J.e s with
   |none=>rw[el] at U;exact U.r
   |some t=>rw[el] at U;exact{_,_,.inr kd,xW el,k _ H _ L (EU _) o 'o' U}
  |int i=>exact z.r
  |_=>exact z.r
 |ref a=>
  cases j with
  |int i=>exact seq (x3:=.ref a) I l z
  |str s=>
   cases I;cases l;obtain⟨J,e,U⟩:=dM z;obtain⟨C,e2,pr⟩:=o a _ e;cases ev:wo J (Sum.inr s) with
   |none=>rw[ev] at U;exact U.r
   |some y=>
    rw[ev] at U;obtain⟨x,ex,I⟩:=tT pr ev;exact{C,x,.inl<|.inl e2,ex,k _ H _ L (EU _) o I U}
  |_=>exact z.r
 |tup g=>
  cases j with|int i=>exact seq (x3:=.tup g) I l z|_=>exact z.r
 |sq g=>
  cases j with|int i=>exact seq (x3:=.sq g) I l z|_=>exact z.r
 |_=>cases j<;>exact z.r
def xw.inv1(h:xw G H [y] xs):∃x,xs=[x]/\RV G H y x:=by obtain⟨x,I,e,r,s⟩:=h;cases (show I=[] from s);exact{(x),e,r}
def xw.inv2{J:Y}(h:xw G H [y,J] xs):∃x I,xs=[x,I]/\RV G H y x/\RV G H J I:=by obtain⟨x,U,e,r,s⟩:=h;obtain⟨I,g,j⟩:=s.inv1;exact{x,I,by rw[e,g],r,j}
def TY(K:Aj)(P:aas)(w:aat)(g:X.K=K:=by rfl)(j:X.i=P:=by rfl)(hw:X.w=w:=by rfl):jt X (.builtin "len") (g_ ⟨K,P,w⟩ sD):=by
 subst g j hw;refine FC S3 λC H Q l L T U I z k=>?_;unfold sD at z;split at z
 .obtain⟨x,rfl,r⟩:=U.inv1;cases r;exact{z.1,k _ H _ L (EU _) I 'o' z.2}
 .rename_i y _;obtain⟨x,rfl,r⟩:=U.inv1;obtain⟨l,o,z⟩:=kw z;obtain⟨p,t,e,sq,J⟩:=uk I r o;subst e;refine{t,sq,?_};rw[<-J.l];exact k _ H _ L (EU _) I 'o' z
 .exact z.r
def TZ(i j:Int):(if j > i then j else i)=max i j:=by split<;>lia
def T3(i j:Int):(if j<i then j else i)=min i j:=by split<;>lia
def Kc(hc:X.calm=true:=by rfl):jt X (.builtin "max") (g_ X.g3 HJ):=FC (Rx hc) λl H Q o L p I J z k=>by
 unfold HJ at z;split at z
 .rename_i i j;obtain⟨x,r,rfl,U,g⟩:=I.inv2;cases U;cases g;refine{i,j,rfl,?_};rw[TZ];exact k _ H _ L (EU _) J 'o' z
 .exact z.r
def T4(hc:X.calm=true:=by rfl):jt X (.builtin "min") (g_ X.g3 J4):=FC (Ry hc) λl H Q o L p I J z k=>by
 unfold J4 at z;split at z
 .rename_i i j;obtain⟨x,r,rfl,U,g⟩:=I.inv2;cases U;cases g;refine{i,j,rfl,?_};rw[T3];exact k _ H _ L (EU _) J 'o' z
 .exact z.r
def nF:UnR X (unaryOp .USub) (J1 X.g3 Fp):=UnR.imp Ro λx H Q ⟨y,L,U,I,J,z,k⟩=>by cases y with|int i=>exact{i,I,k _ H _ L (EU _) J 'o' z}|_=>exact z.r
def nU{op:UnaryOp}{r:Y->qm->YK->Prop}(h:UnR X (unaryOp op)<|J1 X.g3 r)(U:QE X a ta):QE X (.UnaryOp op a pos) (Fo r ta):=EW (Rg h U) λC H Q g L j rs l z k=>
 ⟨g,L,_,rs,l,z,λv T y o p I J t=>{y,o,j,J,I,t,k.ts p}⟩
end
section
variable {a b:Expr}{tc:xq}{pos:Pos}
def g9{a:Addr}(J:j8 G H L)(h:cw L (.ref a)=some ys):∃xs,bQ G.K H a xs/\xw G H ys xs:=by
 have I:(match L a with|⇑ys=>some ys|_=>none)=some ys:=h;split at I
 .rename_i e;cases I;obtain⟨xs,U,q⟩:=J a _ e;exact{xs,FF U,q}
 .cases I
def e9(I:j8 G H L)(r:RV G H y v)(J:sv y=true)(h:cw L y=some ys):∃a xs,v=.ref a/\bQ G.K H a xs/\xw G H ys xs:=by
 cases y with
 |ref a=>obtain⟨xs,s,q⟩:=g9 I h;exact{(a),xs,r,s,q}
 |sq U=>obtain⟨a,xs,e,s,q⟩:=r;cases h;exact{(a),xs,e,s.sq,q}
 |_=>cases J
def T5{G:G3}{T:yV}{σ:St}(I:'v')(C:j8 X.g3 H L)(r:RV X.g3 H y v)(J:j9 v u)(h:Ga L y=some T)
 {c:aaq} {b:Bool} (e:PySem.W.kitOne X.K (.type T.nm) c=some b) (U:∀tk,Q (.bool b) {s with toks:=tk}):
 wpAny 'a' A (call (.builtin "isinstance") [u,c]) Q E s:=by
 cases y with
 |GM=>cases h;cases r;exact cZ I J .GM e U
 |bl b=>cases h;cases r;exact cZ I J (.bl _) e U
 |int i=>cases h;cases r;exact cZ I J (.int _) e U
 |str x=>cases h;cases r;exact cZ I J (.str _) e U
 |tup ys=>
  cases h;obtain⟨a,j,rfl,sq,_⟩:=r;cases (show u=Value.ref a from J);obtain⟨l,_,⟨o,h1,h2,_⟩,_⟩:=I.tuple sq;exact BD PySem.W.kitx_tuple I._A {(o),h1,h2} e (λz=>nomatch z) U
 |sq ys=>
  cases h;obtain⟨a,j,rfl,sq,_⟩:=r;cases (show u=Value.ref a from J);obtain⟨l,_,⟨o,n,h1,h2,_⟩,_⟩:=I.list sq.sq;exact BD Ej I._A {(o),h1,h2} e (λz=>nomatch z) U
 |ref a=>
  cases (show v=.ref a from r);have g:(match L a with|⇑_=>some yV.list|some (._c _)=>some .dict|_=>none)=some T:=h;split at g
  .rename_i ys p;cases g;obtain⟨j,t,_⟩:=C a _ p;exact cZ I J (.lst t) e U
  .rename_i a1 p;cases g;obtain⟨j,t,_⟩:=C a _ p;exact cZ I J (.dK t) e U
  .cases g
 |_=>cases h
def T6(K:Aj):∀T S:yV,PySem.W.kitOne K (.type T.nm) (.type S.nm)=some (HK T S):=by intro T S;cases T<;>cases S<;>rfl
def T7(G:G3)(S:yV):HT->Hp->VK->Prop:=λxs H Q=>∃y v L I T,xs=[v,.ty S.nm]/\RV G H y v/\j8 G H L/\Ga L y=some T/\I (.bl<|HK T S) L/\tj G H I Q
def T9(S:yV):jt X (.builtin "isinstance") (T7 X.g3 S):=by rintro J s o H p t Q I r⟨y,v,L,C,T,rfl,g,U,ty,q,k⟩;obtain⟨u,c,rfl,j,l⟩:=zw.two r;cases (show c=Value.type S.nm from l);exact jv I.tk<|T5 (G:=X.g3) I U g j ty (T6 _ T S) λtk ht=>{.bl _,H,I.tok _,rfl,k _ H _ L (EU _) U 'o' q}
def Kd{p:Pos}{I:Str}(S:yV)(t:Gl X "isinstance")(C:X.mg "isinstance"=none)(J:Gl X I)(U:X.mg I=none)(g:bootBuiltins I=some (.type S.nm))(ha:QE X a ta)
 (hn:I ≠ "__name__" := by decide) (hd:(I==("__debug__" : Str))=false:=by decide)
 (hs:starEach [a,.Name I p1] X.o=(false,eval a X.o)::starEach [.Name I p1] X.o:=by rfl) (j:starEach [.Name I p1] X.o=(false,eval (.Name I p1) X.o)::starEach [] X.o:=by rfl)
 (hp:(backTo pos<|starEach [.Name I p1] X.o).any (·.1)=false:=by rfl):
 QE X (.Call (.Name "isinstance" p) [a,.Name I p1] [] pos) (TK S ta):=by
 refine E9 (jT (T9 S) t C dq (af ha (af (JX J U g hn hd) gH j) hs) ∅ ∅ hs hp) ?_;rintro σ H Q ⟨τ,L,Q3,rs,rl,z,k⟩;refine{τ,L,_,rs,rl,z,λv H1 y L1 t1 l o r=>?_};obtain⟨T,et,r⟩:=TJ r;exact{y,v,L1,Q3,T,rfl,o,l,et,r,k.ts t1}
def ut(neg:Bool)(x y:Y)(L:qm)(Q:YK):Prop:=fE L y λys=>gj x=true/\ys.all gj=true/\Q (.bl<|nb neg<|rW (cT x)<|ys.map cT) L
def Ke(neg:Bool){op:CmpOp}(h:kz X (compareOp op)<|Hz X.K neg):kz X (compareOp op) (fz X.g3<|ut neg):=FB h λx y H Q I t L C g j U z k=>by
 obtain⟨J,l,f1,f2,q⟩:=kw z;obtain⟨p,T,e,sq,o⟩:=uk U j l;rw[g.flat f1];rw[o.flat f2] at sq;refine{p,_,e,sq,jR f1,?_,?_}
 .rw[DU,BR];intro y r;exact jR<|BR.mp f2 y r
 .have:(if neg=true then !rW (cT I) (J.y cT) else rW (cT I) (J.y cT))=(nb neg<|rW (cT I)<|J.map cT):=by cases neg<;>simp[nb]
  rw[this];exact k _ H _ L (EU _) U 'o' q
def GJ(K:Aj)(P:aas)(w:aat)(I:X.K=K:=by rfl)(J:X.i=P:=by rfl)(hw:X.w=w:=by rfl):kz X (compareOp .In) (fz ⟨K,P,w⟩<|ut false):=by subst I J hw;exact Ke false Sv
def pP(K:Aj)(P:aas)(w:aat)(I:X.K=K:=by rfl)(J:X.i=P:=by rfl)(hw:X.w=w:=by rfl):kz X (compareOp .NotIn) (fz ⟨K,P,w⟩<|ut true):=by subst I J hw;exact Ke true uS
theorem j6.rep{G:G3}{H:Hp}{L:qm}(j:j8 G H L):∀{n:Nat} {y:Y} {d:Da} {v:V},j6 L n y d->RV G H y v->bO G.K H n v d
 |0,y,d,v,⟨f,e⟩,r=>by rw[r.flat f];exact{e,jR f}
 |n+1,y,d,v,h,r=>by
  have both:∀{U:_T} {J:List Da} {I:HT},Paired (j6 L n) U J->xw G H U I->Paired (bO G.K H n) I J:=by
   intro U J I p
   induction p generalizing I with
   |nil=>intro r;cases (show I=[] from r);exact .nil
   |cons q t l=>
    rintro⟨x,o,rfl,C,T⟩;exact .cons (j6.rep j q C)<|l T
  rcases h with⟨f,e⟩|⟨U,J,rfl,rfl,p⟩|⟨U,J,hy,rfl,es,p⟩
  .rw[r.flat f];exact .inl {e,jR f}
  .obtain⟨a,I,rfl,sq,g⟩:=r;exact .inr<|.inl {a,I,J,rfl,rfl,sq,both p g}
  .obtain⟨a,I,rfl,sq,g⟩:=e9 j r hy es;exact .inr<|.inr {a,I,J,rfl,rfl,sq,both p g}
def Kf(h:FI y=true)(r:RV G H y v):∃a,v=.ref a:=by
 cases y with
 |ref a=>exact{(a),r}
 |tup I=>obtain⟨a,J,e,_⟩:=r;exact{(a),e}
 |sq I=>obtain⟨a,J,e,_⟩:=r;exact{(a),e}
 |_=>cases h
def Kg(neg:Bool)(K:Aj)(P:aas)(w:aat)(g:X.A.units+128<cLine)(l:X.K=K)(o:X.i=P)(hw:X.w=w):kz X (compareOp<|Gw neg) (fz ⟨K,P,w⟩<|f_ neg):=by
 subst l o hw;refine FB (S5 neg g) λx y H Q T y3 L r J U I z k=>?_;have t:∀{p q:Prop} [Decidable p] [Decidable q],(p↔q)->F5 neg (decide p)=nb neg (decide q):=λh=>by rw[CL.d h];cases neg<;>rfl
 unfold f_ at z;split at z
 any_goals
  rename_i i j;cases J;cases U;refine{rfl,?_};rw[t (q:=i=j) 'r'];exact k _ H _ L (EU _) I 'o' z
 obtain⟨f1,f2,n,m,d,e,C,h1,h2,q⟩:=z;obtain⟨a,rfl⟩:=Kf f1 J;obtain⟨b,rfl⟩:=Kf f2 U;have q:r (.bl<|F5 neg<|Da.eq d e) L:=by cases neg<;>exact q
 exact{n,m,d,e,C,h1.rep I J,h2.rep I U,k _ H _ L (EU _) I 'o' q}
def sQ(K:Aj)(P:aas)(w:aat)(I:X.A.units+128<cLine)(J:X.K=K:=by rfl)(U:X.i=P:=by rfl)(hw:X.w=w:=by rfl):kz X (compareOp .Eq) (fz ⟨K,P,w⟩<|f_ false):=Kg false K P w I J U hw
def Ua(K:Aj)(P:aas)(w:aat)(I:X.A.units+128<cLine)(J:X.K=K:=by rfl)(U:X.i=P:=by rfl)(hw:X.w=w:=by rfl):kz X (compareOp .NotEq) (fz ⟨K,P,w⟩<|f_ true):=Kg true K P w I J U hw
def RV.non_iff(r:RV G H y v):decide (v=.GM)=(match y with|.GM=>true|_=>false):=by
 cases y with
 |GM=>cases r;rfl
 |cd I=>obtain⟨a,rfl,_⟩:=r;rfl
 |tup J=>obtain⟨a,U,rfl,_⟩:=r;rfl
 |sq J=>obtain⟨a,U,rfl,_⟩:=r;rfl
 |_=>cases r;rfl
def Ub(σ:St)(H:Hp)(Q:VK):tV G (rY false ta) σ H Q->Jh (tV G ta) σ H Q:=λ⟨U,L,r,rs,g,z,k⟩=>
 ⟨U,L,_,rs,g,z,λv j y l o I J p=>by dsimp only;rw[J.non_iff];cases y<;>exact k _ j _ l o I 'o' p⟩
def Kh(σ:St)(H:Hp)(Q:VK):tV G (rY true ta) σ H Q->Ji (tV G ta) σ H Q:=λ⟨U,L,r,rs,g,z,k⟩=>
 ⟨U,L,_,rs,g,z,λv j y l o I J p=>by dsimp only;rw[J.non_iff];cases y<;>exact k _ j _ l o I 'o' p⟩
def oU(h:QE X a ta):QE X (.Compare a [.IsNot] [.Constant .none j fx] pos) (rY true ta):=E9 (Qi<|Jj h) Kh
def Ki{t:TE}(h:∀σ H Q,tV G te σ H Q->t σ H Q)(σ:St)(H:Hp)(Q:Bool->Hp->Prop):m_ G (yB te) σ H Q->tB t σ H Q:=λq=>h σ H _<|Kb σ H Q q
def uM(h:QE X a ta):QT X (.Compare a [.Is] [.Constant .none j fx] pos) (yB<|rY false ta):=PT.imp (Jk<|Qh h)<|Ki Ub
def uJ(h:QE X a ta):QT X (.Compare a [.IsNot] [.Constant .none j fx] pos) (yB<|rY true ta):=PT.imp (Jk<|Jj h)<|Ki Kh
end
section
variable {a b:Expr}{rest:aaj}{tc:xq}{tB:jB}{tr:gJ}{pos:Pos}
def wv(h:QT X a tA):QW X (.BoolOp .And [a] pos) tA:=Qn h
def uC(h:QT X a tA):QW X (.BoolOp .Or [a] pos) tA:=Qo h
def bA(h:QT X a tA)(k:QW X (.BoolOp .And (b::rest) pos) tB):QW X (.BoolOp .And (a::b::rest) pos) (iY tA tB):=PW._x (Qp h k) λr H Q U L l rs o z k=>
 ⟨U,L,_,rs,o,z,λc p g J I j=>by cases c with|true=>rw[AF rfl];exact{U,g,l,rs.ts J,I,j,k.ts J}|false=>rw[Az AI];exact k _ p g J I j⟩
def vO(h:QT X a tA)(k:QW X (.BoolOp .Or (b::rest) pos) tB):QW X (.BoolOp .Or (a::b::rest) pos) (HM tA tB):=PW._x (Qq h k) λr H Q U L l rs o z k=>
 ⟨U,L,_,rs,o,z,λc p g J I j=>by cases c with|true=>rw[AF rfl];exact k _ p g J I j|false=>rw[Az AI];exact{U,g,l,rs.ts J,I,j,k.ts J}⟩
def bC(h:QW X a tA):QT X a tA:=PW.pt h
def mG(h:QT X a tA):QT X (.UnaryOp .Not a pos) (Gb tA):=PT._x (are h) λp H Q J L r rs U z k=>
 ⟨J,L,_,rs,U,z,λc g j l I o=>k _ g j l I o⟩
def ig{op:BoolOp}(h:QE X a ta):QE X (.BoolOp op [a] pos) ta:=Qt h
def gg(h:QE X a ta)(k:QE X (.BoolOp .And (b::rest) pos) tb):QE X (.BoolOp .And (a::b::rest) pos) (J6 ta tb):=EW (Qu h k) λC H Q g L p rs r z k=>
 ⟨g,L,_,rs,r,z,λv t y j J I U l=>by
  cases y with
  |bl c=>
   refine{c,U,?_};have o:=l;cases c with|true=>rw[AF rfl];exact{g,j,p,rs.ts J,I,o,k.ts J}|false=>rw[Az AI];exact k _ t _ j J I 'o' o
  |_=>exact l.r⟩
def Uc(h:QE X a ta):QE X (.UnaryOp .Not a pos) (J7 ta):=EW (Qv h) λr H Q g L t rs j z k=>
 ⟨g,L,_,rs,j,z,λv l y o p I J U=>by cases y with|bl c=>exact{c,J,k _ l _ o p I 'o' U}|_=>exact U.r⟩
def cq(h:QT X c tA)(o:QE X a ta)(p:QE X b tb):QE X (.IfExp c a b pos) (Gc tA ta tb):=EW (Qx h o p) λt H Q U L g rs r z k=>
 ⟨U,L,_,rs,r,z,λc C j J I l=>by cases c with|true=>rw[AF rfl];exact{U,j,g,rs.ts J,I,l,k.ts J}|false=>rw[Az AI];exact{U,j,g,rs.ts J,I,l,k.ts J}⟩
def vj:QA X [] zk:=PA._x gH λJ H Q U L g rs I z k=>k _ H _ L (EU _) I 'o' z
def jl(h:QE X e te)(r:QA X es tr)(hs:Fb e es X:=by rfl):QA X (e::es) (qi te tr):=PA._x (af h r hs) λσ H Q j L Q3 rs t z k=>
 ⟨j,L,_,rs,t,z,λv H1 y C l I J T=>{j,C,_,rs.ts l,I,T,λo H2 ys L2 p U g z2=>k (v::o) H2 (y::ys) L2 (l.t p) U {v,o,rfl,J.ts p,g} z2}⟩
def qw(h:QA X es tr):QE X (.Tuple es x1 pos) (vi tr):=EW (Jz h) λT H Q l L Q3 rs o z k=>
 ⟨l,L,_,rs,o,z,λr H1 j t C U I J=>by
  cases e:Nat.ble j.l 1000 with
  |false=>rw[e] at J;exact J.r
  |true=>
   rw[e] at J;have:=Ar e;refine{small (by rw[<-I.l];exact this),λp g=>?_};exact k _ _ (.tup j) t (C.t<|EV g) (U.skip g) {p,r,rfl,dR.of zg,I.ts<|EV g} J⟩
def zd(h:QA X es tr):QE X (.List es pos) (aZ tr):=EW (JA h) λt H Q j L C rs l z k=>
 ⟨j,L,_,rs,l,z,λT H1 o L1 r I J U=>by
  cases e:Nat.ble o.l 1000 with
  |false=>rw[e] at U;exact U.r
  |true=>
   rw[e] at U;have:=Ar e;refine{small (by rw[<-J.l];exact this),λp g=>?_};exact k _ _ _ _ (r.t<|EV g) (I.newL g J) 'o'<|U p<|I.none g⟩
def kj{p:Pos}{id:aav}{r:_T->qm->YK->Prop}(hc:jt X (.builtin id)<|g_ X.g3 r)(U:Gl X x)(g:X.mg x=none)(j:bootBuiltins x=some (.builtin id))(h:QA X (e::es) tr)
 (l:x ≠ "__name__" := by decide) (hd:Fe x:=by decide) (hs:Fb e es X:=by rfl) (o:Fc pos es X:=by rfl):
 QE X (.Call (.Name x p) (e::es) [] pos) (sJ r tr):=EW (jT hc U g j h l hd hs o) λσ H Q t L C rs T z k=>
 ⟨t,L,_,rs,T,z,λvs H1 ys L1 t1 I J z1=>{ys,L1,C,J,I,z1,k.ts t1}⟩
def Kj(G:G3)(t:Gd):TO:=λσ H Q=>∃τ L I,vf G H σ τ/\j8 G H L/\t τ L I/\∀(o:aan) H' L',jc H H'->j8 G H' L'->I o L'->Q o H'
abbrev QO(X:Cx)(e:Option Expr)(t:Gd):Prop:=PO X e<|Kj X.g3 t
def PO.imp{e:Option Expr}{t u:TO}(h:PO X e t)(q:∀σ H Q,u σ H Q->t σ H Q):PO X e u:=λJ s σ H Q I z=>h J s σ H Q I<|q σ H Q z
def PO._x{e:Option Expr}{t:TO}{u:Gd}(h:PO X e t)(q:∀σ H Q τ L I,vf G H σ τ->j8 G H L->u τ L I->(∀(o:aan) H' L',jc H H'->j8 G H' L'->I o L'->Q o H')->t σ H Q):PO X e (Kj G u):=PO.imp h λσ H Q ⟨τ,L,I,a,b,c,d⟩=>q σ H Q τ L I a b c d
def uw.imp{U:V->aan->aan->Hp->VK->Prop}(h:uw X r)(q:∀x lo hi H Q,U x lo hi H Q->r x lo hi H Q):uw X U:=by intro J s g H x v j l lo hi o Q I p t pl pu z;exact h J s g H x v j l lo hi o Q I p t pl pu<|q _ _ _ _ _ z
def wg:QO X none kI:=PO._x Sa λJ H Q U L g rs I z k=>k _ H L (EU _) I z
def vk(h:QE X e te):QO X (some e) (yO te):=PO._x (Sb h) λr H Q g L t rs j z k=>
 ⟨g,L,_,rs,j,z,λv l y o p I J U=>by cases y with|int i=>exact{i,J,k _ l o p I U}|_=>exact U.r⟩
def GK(G:G3)(r:Y->aan->aan->qm->YK->Prop):V->aan->aan->Hp->VK->Prop:=λx lo hi H Q=>∃y L I,RV G H y x/\j8 G H L/\r y lo hi L I/\tj G H I Q
def xu{lo hi:Option Expr}{tl th:Gd}{r:Y->aan->aan->qm->YK->Prop}(h:uw X<|GK X.g3 r)(C:QE X a ta)(T:QO X lo tl)(hh:QO X hi th):QE X (.Subscript a (.Slice lo hi none p2) pos) (Ge r ta tl th):=
 EW (Sd h C T hh) λσ H Q I L Q3 rs rl z k=>
 ⟨I,L,_,rs,rl,z,λv H1 y L1 J U g z1=>{I,L1,_,rs.ts J,U,z1,λo H2 L2 j l z2=>{I,L2,_,rs.ts<|J.trans j,l,z2,λo' H3 L3 t p z3=>{y,L3,Q3,g.ts<|j.trans t,p,z3,k.ts<|J.trans<|j.trans t}}}⟩
def u7(r:xw G H ys xs)(lo hi:aan):xw G H (rf ys lo hi) (yA xs lo hi):=by unfold rf yA;rw[r.l];exact(r.G _).u _
def Ud(K:Aj)(P:aas)(w:aat)(l:X.K=K:=by rfl)(o:X.i=P:=by rfl)(hw:X.w=w:=by rfl):uw X (GK ⟨K,P,w⟩ J8):=by
 subst l o hw;refine uw.imp Su λx lo g H Q ⟨y,L,Q3,j,J,z,k⟩=>?_;cases y with
 |ref a=>
  obtain⟨t,C,T⟩:=v4 z;obtain⟨U,sq,r⟩:=g9 J<|a8 C;exact{a,U,j,sq,λp I=>k _ _ _ _ (EV I) (J.newL I<|u7 r lo g) 'o'<|T p<|J.none I}
 |sq t=>
  obtain⟨a,U,e,sf,r⟩:=j;exact{a,U,e,sf.sq,λp I=>k _ _ _ _ (EV I) (J.newL I<|u7 r lo g) 'o'<|z p<|J.none I}
 |_=>exact z.r
end
section
variable {a b iter:Expr}{tc:xq}{tB:jB}{tr:gJ}{pos:Pos}{st:Stmt}{rest kb:aak}{t u:aa}
def qy:sg X [] w5:=i7._x QD λD J H U L g rs I z k=>k.nx _ H _ L (EU _) rs I z
def qd(h:QS X st t):sg X [st] t:=Jl h
def qb(h:QS X st t)(k:sg X rest u):sg X (st::rest) (zj t u):=i7._x (xJ h k) λD T H j L I rs l z k=>
 ⟨j,L,{I with nx:=u I},rs,l,z,λo H1 J p r U g C=>{J,p,I,U,g,C,k.ts r},k.rt,k.bk,k.ct⟩
def vD:QS X (.Continue pos) TL:=E5 xA λD J H U L g rs I z k=>k.ct _ H _ L (EU _) rs I z
def zb(h:QE X e te)(hs:swapsWith e none pos.line X.o=pure false:=by rfl):QS X (.Expr e pos) (jo te):=E5 (Jm h hs) λD r H U L t rs g z k=>
 ⟨U,L,_,rs,g,z,λv j y l J I o p=>k.nx _ j _ l J (rs.ts J) I p⟩
def qt(h:QE X e te):QS X (.Return (some e) pos) (bN te):=E5 (QL h) λD U H I L g rs J z k=>{I,L,_,rs,J,z,k.rt}
def uT:QS X (.Return none pos) HN:=E5 QN λD J H U L g rs I z k=>k.rt _ H _ L (EU _) I 'o' z
def zc(h:QT X c tA)(o:sg X body t)(p:sg X kb u):QS X (.If c body kb pos) (xr tA t u):=E5 (QP h o p) λD C H U L g rs r z k=>
 ⟨U,L,_,rs,r,z,λc T j J I l=>by cases c with|true=>rw[AF rfl];exact{U,j,g,rs.ts J,I,l,k.ts J}|false=>rw[Az AI];exact{U,j,g,rs.ts J,I,l,k.ts J}⟩
def fZ(hN:X.N.c)(I:X.N[i]?=some x)(p:Loc X.env.scope x)(h:QE X e te)(J:swapsWith e (some<|.Name x fx) pos.line X.o=pure false:=by rfl)
 (U:X.fn x=true\/X.env.scope.names.e x=some .local:=by first|exact .inl rfl|exact .inr rfl|assumption):QS X (.Assign [.Name x fx] e pos) (jx te<|ql i):=E5 (QU hN I p h J U) λD σ H l L D3 rs r z k=>
 ⟨l,L,_,rs,r,z,λv t y C o g j T=>k.nx _ t _ C o (show vf _ _ _ (iQ l i y) by rw[bP];exact(rs.ts o).O j) g T⟩
def fb(h:QE X e te)(l:QG X tg g)(h1:swapsWithSole [tg] e pos.line X.o=pure false:=by rfl)(h2:swappedStores [tg] e X.o=pure none:=by rfl)
 (h3:(assignEach [tg] X.o).y (·.2)=[assign tg X.o]:=by rfl):QS X (.Assign [tg] e pos) (jx te g):=E5 (Jr h l h1 h2 h3) λD t H U L C rs o z k=>
 ⟨U,L,_,rs,o,z,λv T y p j I J r=>{y,U,p,_,J,rs.ts j,I,r,k.nx.ts j}⟩
def PG.imp{t u:TG}(h:PG X e t)(q:∀v σ H Q,u v σ H Q->t v σ H Q):PG X e u:=λJ s σ H x v Q I r z=>h J s σ H x v Q I r<|q _ _ _ _ z
def PGs.imp{e:aaj}{t u:l_}(h:PGs X e t)(q:∀v σ H Q,u v σ H Q->t v σ H Q):PGs X e u:=λJ s σ H x v Q I r z=>h J s σ H x v Q I r<|q _ _ _ _ z
def df(hN:X.N.c)(I:X.N[i]?=some x)(U:Loc X.env.scope x)(J:X.fn x=true\/X.env.scope.names.e x=some .local:=by first|exact .inl rfl|exact .inr rfl|assumption):QG X (.Name x pos) (ql i):=
 PG.imp (oY hN I U J) λv o H Q ⟨y,g,L,p,j,rs,l,z,k⟩=>k _ H _ L (EU _) (show vf _ _ _ (iQ g i y) by rw[bP];exact rs.O j) l z
def wn:Gg X [] cK:=PGs.imp Jp λg j H Q ⟨I,l,L,o,J,rs,U,z,k⟩=>by cases I with|nil=>exact{J,k _ H _ L (EU _) rs U z}|cons y r=>exact z.r
def zf(h:QG X e g)(hs:Gg X es gs)(l:(assignEach (e::es) X.o).y (·.2)=assign e X.o::(assignEach es X.o).y (·.2):=by rfl):Gg X (e::es) (jy g gs):=
 PGs.imp (o9 h hs l) λvs σ H Q ⟨o,p,L,t,C,rs,T,z,k⟩=>by
 cases o with
 |nil=>exact z.r
 |cons y r=>
  obtain⟨x,xs,rfl,r1,r2⟩:=C;exact{x,xs,rfl,y,p,L,_,r1,rs,T,z,λa1 H1 I L1 j J U z1=>{r,I,L1,t,r2.ts j,J,U,z1,k.ts j}}
def bB{j:Nat}(hc:X.calm=true)(h:Gg X es gs)(h1:(assignEach es X.o).l=n:=by rfl)(h2:(assignEach es X.o).findIdx? (·.1)=none:=by rfl):QG X (.Tuple es j pos) (dY n gs):=
 PG.imp (Jq hc h h1 h2) λv t H Q ⟨y,U,L,g,l,rs,o,z,k⟩=>by
 cases y with
 |tup I=>
  obtain⟨a,p,rfl,sq,r⟩:=l;have J:(match I.l==n with|true=>gs I U L g|false=>False):=z;split at J
  .rename_i e;exact{a,p,rfl,sq,by rw[<-r.l];exact beq_iff_eq.j e,I,U,L,g,r,rs,o,J,k}
  .exact J.r
 |_=>exact z.r
def Kk{y:Str}{px py pt:Pos}{k2:Nat}{I:Pos}(hc:X.calm=true)(hN:X.N.c)(hi:X.N[i]?=some x)(r:X.N[j]?=some y)(J:i≠j)(t:X.env.scope.names.e x=some .local)(C:X.env.scope.names.e y=some .local)
 (h:QA X [a,b] tr) (h1:swappedStores [.Tuple [.Name x px,.Name y py] kt pt] (.Tuple [a,b] k2 I) X.o=pure (some [x,y])) (h2:swapsWithSole [.Tuple [.Name x px,.Name y py] kt pt] (.Tuple [a,b] k2 I) pos.line X.o=pure false:=by rfl):
 QS X (.Assign [.Tuple [.Name x px,.Name y py] kt pt] (.Tuple [a,b] k2 I) pos) (J9 i j tr):=E5 (QX hc hN hi r J t C h h1 h2) λD σ H o L D3 rs T z k=>
 ⟨o,L,_,rs,T,z,λvs H1 ys L1 p U g l=>by
  split at l
  .rename_i v w;obtain⟨x',y',rfl,r1,r2⟩:=g.inv2;exact{x',y',rfl,k.nx _ H1 _ L1 p (show vf _ _ _ (iQ (iQ o i v) j w) by rw[bP,bP];exact((rs.ts p).O r1).O r2) U l}
  .exact l.r⟩
def jH(hp:PassesOwn 'a' X.A X.o X.xe)(h:QT X c tA)(hb:sg X body t):QS X (.While c body [] pos) (y9 tA t):=PS.imp (QZ hp h hb) λD σ H ⟨τ,L,D3,rs,rl,⟨W,⟨m0,w0⟩,turn⟩,k⟩=>by
 refine{λm r H1=>∃J C,jc H H1/\vf X.g3 H1 r J/\j8 X.g3 H1 C/\W m J C,{m0,τ,L,EU _,rs,rl,w0},?_};rintro m r H1 ⟨J,C,t1,l,a2,w1⟩;refine{J,C,_,l,a2,turn m J C w1,λb H2 L2 T a1 z2=>?_};cases b with
 |false=>rw[Az AI];exact k.nx _ H2 _ L2 (t1.t T) (l.ts T) a1 z2
 |true=>
  rw[AF rfl];obtain⟨N,hN,z2⟩:=z2;refine{λU g=>∃I j,jc H g/\vf X.g3 g U I/\j8 X.g3 g j/\N I j,?_,?_}
  .rintro U g ⟨I,j,t',o,p,n'⟩;obtain⟨m',hm,w'⟩:=hN I j n';exact{(m'),hm,I,j,t',o,p,w'}
  .have nx:rq X.g3 H2 (jA N) (λU g=>∃I j,jc H g/\vf X.g3 g U I/\j8 X.g3 g j/\N I j):=λU g I j t' o p ⟨L5,s5,n'⟩=>{I,L5,(t1.t T).t t',o,p.sub s5,n'};have k2:=k.ts<|t1.trans T;exact{J,L2,_,l.ts T,a1,z2,nx,k2.rt,k2.nx,nx}
def aB{wi:A_}(hp:PassesOwn 'a' X.A X.o X.xe)(hc:X.calm=true)(hi:QI X tg iter wi)(hg:QG X tg g)(hb:sg X body t)(hs:∀x,foldedSetIterable iter X.o x=pure x:=by intro _;rfl):
 QS X (.For tg iter body [] pos) (gA wi g t):=E5 (Rb hp hc hi hg hb hs) λD σ H τ L D3 rs rl z k=>by
 refine{τ,L,_,rs,rl,z,λJ H1 ys keep L1 t1 a3 yl zz=>?_};obtain⟨W,w0,wk,turn,jj⟩:=TM zz;refine{λi m U j=>∃I o,i+m=ys.l/\jc H1 j/\vf X.g3 j U I/\j8 X.g3 j o/\W i I o,{ys.l,τ,L1,'m',EU _,rs.ts t1,a3,w0},?_};rintro i m au H2 ⟨l,L2,av,T,a1,p,w2⟩;by_cases a2:i<ys.l
 .refine .inr {yl.go i H2 L2 T p (wk i l L2 w2) a2,λU j=>∃I o,jc H1 j/\vf X.g3 j U I/\j8 X.g3 j o/\W (i+1) I o,?_,?_}
  .rintro U j ⟨I,o,t',r,C,w'⟩;exact{m-1,'m',I,o,'m',t',r,C,w'}
  .intro x H3 y3;have ey:=Ah a2;obtain⟨t3,a4,a5⟩:=yl.yld i H2 L2 x H3 _ T p (wk i l L2 w2) ey y3;refine{ys[i],l,L2,_,a5,a1.ts t3,a4,turn i _ l L2 ey w2,λaL H4 ac L4 t4 al ar z4=>?_};have nx:rq X.g3 H4 (jA<|W<|i+1) (λU j=>∃I o,jc H1 j/\vf X.g3 j U I/\j8 X.g3 j o/\W (i+1) I o):=λU j I o t' r C ⟨L5,s5,n'⟩=>{I,L5,((T.t t3).t t4).t t',r,C.sub s5,n'};have k2:=k.ts<|t1.trans<|(T.t t3).t t4;exact{ac,L4,_,al,ar,z4,nx,k2.rt,k2.nx,nx}
 .have e:i=ys.l:='m'
  subst e;exact .inl {yl.stop H2 L2 T p<|wk _ l L2 w2,k.nx _ H2 _ L2 (t1.t T) a1 p<|jj l L2 w2}
def PI.imp{t u:TI}(h:PI X tg e t)(q:∀σ H Q,u σ H Q->t σ H Q):PI X tg e u:=λJ s σ H Q I z=>h J s σ H Q I<|q σ H Q z
def PI._x{t:TI}{u:A_}(h:PI X tg e t)(q:∀σ H R τ L I,vf G H σ τ->j8 G H L->u τ L I->(∀J H' ys keep L',jc H H'->j8 G H' L'->iy G H' J ys keep->I ys keep L'->R J H')->t σ H R):PI X tg e (HI G u):=PI.imp h λσ H R ⟨τ,L,I,a,b,c,d⟩=>q σ H R τ L I a b c d
def nV{a:Addr}{keep:qm->Prop}(h:∀H L,jc H₀ H->j8 G H L->keep L->∃xs,bQ G.K H a xs/\xw G H ys xs):iy G H₀ (Ho G.K a) ys keep where
 go:=λi H L t I J U=>by
  obtain⟨xs,sq,r⟩:=h H L t I J;have:i<xs.l:=by rw[<-r.l];exact U
  exact{xs,xs[i],sq,Ah this}
 yld:=λi H L x o y t I J g ⟨e,f⟩=>by subst e;obtain⟨xs,sq,r⟩:=h _ L t I J;obtain⟨p,j,l⟩:=r.get g;have:=f xs sq;rw[j] at this;cases this;exact{EU _,I,l}
 stop:=λH L t I J=>by obtain⟨xs,sq,r⟩:=h H L t I J;exact{xs,sq,by rw[r.l];exact Ap _}
def xz(h:QE X e te):QI X tg e (ah te):=PI._x (Q4 h) λσ H R τ L R3 rs l z k=>by
 refine{τ,L,_,rs,l,z,λv g y o C I U p=>?_};cases y with
 |ref a=>
  obtain⟨j,keep,es,kp,hk,z2⟩:=vI p;have T:∀H L,jc g H->j8 X.g3 H L->keep L->∃J,bQ X.K H a J/\xw X.g3 H j J:=λH L _ l e=>g9 l<|hk L e;obtain⟨J,sq,_⟩:=T g o (EU _) I kp;exact{a,U,{(J),sq},k _ g j _ o C I (nV T) z2}
 |sq j=>
  obtain⟨a,J,e,sf,r⟩:=U;exact{a,e,{(J),sf.sq},k _ g j (λ_=>True) o C I (nV λH L t _ _=>{J,(sf.ts t).sq,r.ts t}) p}
 |_=>exact p.r
def vQ(lo:Int)(n:Nat):iy G H₀ (FY lo n) (dG lo n) (λ_=>True) where
 go:=λi H L t J g j=>show i<n by simpa[dG] using j
 yld:=λi H L x l y t J g U ⟨e,f⟩=>by
  subst e f;refine{EU _,J,?_};unfold dG at U;rw[Al] at U;obtain⟨z,I,e⟩:=Au.j U;have:=Cq (i:=i) (n:=n) (by
   by_cases c:i<n
   .exact c
   .rw[BC (by simp;omega)] at I;cases I)
  rw[this] at I;cases I;subst e;rfl
 stop:=λH L t J g=>by simp[dG,FY]
def aM{p:Pos}(g:Gl X "range")(l:X.mg "range"=none)(h:QA X [a] tr)(hs:starEach [a] X.o=[(false,eval a X.o)]:=by rfl):QI X tg (.Call (.Name "range" p) [a] [] pos) (bx tr):=
 PI._x (Q8 g l h hs) λσ H R o L R3 rs t z k=>by
 refine{o,L,_,rs,t,z,λvs C ys T t1 J U I=>?_};split at I
 .rename_i j;obtain⟨x,rfl,r⟩:=U.inv1;cases r;exact{j,rfl,I.1.1,I.1.2,k _ C _ _ T t1 J (vQ 0 _) I.2}
 .exact I.r
end
section
variable {T:aai}{iter:Expr}{wi:A_}{tr:gJ}{pos:Pos}
def gS:QF X [] GF:=PF.imp S8 λJ H Q ⟨U,L,g,rs,I,z,k⟩=>k _ H L (EU _) I z
def dC(h:QT X c tA):QF X [c] tA:=S9 h
def HW{g2:TG}(a1:∀v σ H Q,F_ G g v σ H Q->g2 v σ H Q)(σ:St)(H:Hp)(Q:VK):tV G (h_ n wi g tA te) σ H Q->GB n (HI G wi) g2 (m_ G tA) (tV G te) σ H Q:=λ⟨τ,L,Q3,rs,rl,z,k⟩=>by
 refine{τ,L,_,rs,rl,z,λJ H1 o keep L1 t1 a2 yl zz=>?_};obtain⟨hz,W,w0,wk,turn,jj⟩:=TQ zz;refine{λi m vs H'=>∃I L',i+m=o.l/\I.l<=i/\jc H1 H'/\xw G H' I vs/\j8 G H' L'/\W i I L',{o.l,[],L1,Nat.add_comm _ _,Ap _,EU _,rfl,a2,w0},?_};rintro i m vs H2 ⟨I,L2,ar,au,l,U,j,p⟩;by_cases r:i<o.l
 .refine .inr {yl.go i H2 L2 l j (wk i I L2 p) r,by rw[<-U.l];lia,?_};intro x H3 y3;have ey:=Ah r;obtain⟨t3,a3,a4⟩:=yl.yld i H2 L2 x H3 _ l j (wk i I L2 p) ey y3;refine a1 _ _ _ _ {o[i],_,L2,_,a4,(rs.ts<|(t1.t l).t t3).more n,a3,turn i _ I L2 ey p,λav H4 t L4 t4 C a5 z4=>?_};refine{t,L4,_,C,a5,z4,λb H5 L5 t5 T z5=>?_};cases b with
  |true=>
   rw[AF rfl];refine{t,L5,_,C.ts t5,T,z5,λv6 H6 y6 L6 t6 ac al ⟨L7,s7,z6⟩=>?_};have tt:=((t3.t t4).t t5).t t6;exact{m-1,'m',I++[y6],L7,'s',by rw[Ab,DE];exact HB,l.t tt,(U.ts tt).app<|xw.one al,ac.sub s7,z6}
  |false=>
   rw[Az AI];have tt:=(t3.t t4).t t5;obtain⟨L7,s7,z6⟩:=z5;exact{m-1,'s',I,L7,'s',SX,l.t tt,U.ts tt,T.sub s7,z6}
 .have ei:i=o.l:='s'
  subst ei;refine .inl {yl.stop H2 L2 l j<|wk _ I L2 p,by rw[<-U.l];lia,λD hD=>?_};exact k _ _ _ _ ((t1.t l).t<|EV hD) (j.newL hD U) 'o'<|jj I L2 p D<|j.none hD
structure Fq(X:Cx)(scope:Scope)(T:aai)(target:Expr)(g:mZ):Prop where
 ex:∃g2:TG,(∀C fp s₀ H₀,PG 'x' target g2)/\qA g2 X.N.l T.l/\∀v σ H Q,F_ X.g3 g v σ H Q->g2 v σ H Q
def Ue(i:Nat)(v:V)(σ:St)(H:Hp)(Q:St->Hp->Prop):F_ G (ql i) v σ H Q->gq i v σ H Q:=λ⟨y,I,L,g,J,rs,U,z,k⟩=>
 k _ H _ L (EU _) (show vf _ _ _ (iQ I i y) by rw[bP];exact rs.O J) U z
def aD{p:Pos}(hN:(X.N++[x]).c)(J:∀C fp s₀ H₀,Loc (X.comp scope [x] C fp s₀ H₀).env.scope x)(I:∀C fp s₀ H₀,(X.comp scope [x] C fp s₀ H₀).env.scope.names.lookup x=some .local):Fq X scope [x] (.Name x p) (ql X.N.l):=
 ⟨gq X.N.l,λC fp s₀ H₀=>oY (X:=X.comp scope [x] C fp s₀ H₀) hN (by show(X.N++[x])[X.N.l]?=some x;simp) (J C fp s₀ H₀)<|.inr<|I C fp s₀ H₀,y4 _,Ue _⟩
def Uf{K:Aj}(n:Nat):qA (Hj K 2<|yR (gq n)<|yR (gq<|n+1) Hi) n 2:=by
 rintro o I x H Q ⟨a,J,e,sq,len,v,r,U,w,g,j,l,q⟩;refine{a,J,e,sq,len,v,r,U,w,g,j,l,{by simp[I],λi u ei=>?_},q};have p:i<n:=by
  by_cases c:i<n
  .exact c
  .rw[AH 's',BY] at ei;split at ei<;>cases ei
 rw[AX 's',AX<|JN];exact ei
def Ug(i j:Nat)(v:V)(σ:St)(H:Hp)(Q:St->Hp->Prop):F_ G (dY 2<|jy (ql i)<|jy (ql j) cK) v σ H Q->Hj G.K 2 (yR (gq i)<|yR (gq j) Hi) v σ H Q:=λ⟨y,g,L,l,o,rs,p,z,k⟩=>by
 cases y with
 |tup I=>
  obtain⟨a,xs,rfl,sq,r⟩:=o;have J:(match I.l==2 with|true=>jy (ql i) (jy (ql j) cK) I g L l|false=>False):=z;split at J
  .rename_i e;have t:=beq_iff_eq.j e
   match I,t with
   |[y1,y2],_=>
    obtain⟨C,U,rfl,T,r2⟩:=r.inv2;have z2:=J;exact{a,_,rfl,sq,rfl,C,[U],rfl,U,[],rfl,rfl,k _ H _ L (EU _) ([bP,bP]≈(rs.O T).O r2) p z2}
  .exact J.r
 |_=>exact z.r
def Uh{y:Str}{p I pt:Pos}(hc:X.calm=true)(hN:(X.N++[x,y]).c)(U:∀C fp s₀ H₀,(X.comp scope [x,y] C fp s₀ H₀).env.scope.names.lookup x=some .local)(J:∀C fp s₀ H₀,(X.comp scope [x,y] C fp s₀ H₀).env.scope.names.lookup y=some .local)
 (h1:∀env,(assignEach [.Name x p,.Name y I] env).l=2:=by intro _;rfl) (h2:∀env,(assignEach [.Name x p,.Name y I] env).findIdx? (·.1)=none:=by intro _;rfl)
 (h3:∀env,(assignEach [.Name x p,.Name y I] env).y (·.2)=assign (.Name x p) env::(assignEach [.Name y I] env).y (·.2):=by intro _;rfl) (g:∀env,(assignEach [.Name y I] env).y (·.2)=assign (.Name y I) env::(assignEach [] env).y (·.2):=by intro _;rfl):
 Fq X scope [x,y] (.Tuple [.Name x p,.Name y I] kt pt) (dY 2<|jy (ql X.N.l)<|jy (ql<|X.N.length+1) cK):=
 ⟨_,λC fp s₀ H₀=>Jq (X:=X.comp scope [x,y] C fp s₀ H₀) hc (o9 (oY hN (by show(X.N++[x,y])[X.N.l]?=some x;simp) (.inl<|U C fp s₀ H₀)<|.inr<|U C fp s₀ H₀) (o9 (oY hN (by show(X.N++[x,y])[X.N.l+1]?=some y;simp) (.inl<|J C fp s₀ H₀)<|.inr<|J C fp s₀ H₀) Jp<|g _)<|h3 _) (h1 _)<|h2 _,Uf _,Ug _ _⟩
def fq(T:aai)(S:ji X scope)(hc:X.calm=true)(hi:QI X target iter wi)(I:Fq X scope T target g)
 (J:∀C fp s₀ H₀,QF 'x' ml tA) (U:∀C fp s₀ H₀,QE 'x' pj te)
 (hs:∀x,foldedSetIterable iter X.o x=pure x:=by intro _;rfl):QE X (.ListComp pj [{target,iter,ml,0}] scope pos) (h_ T.l wi g tA te):=by
 obtain⟨g2,h1,h2,h3⟩:=I.ex;exact E9 (aug T S hc hi h1 h2 J U hs)<|HW h3
def eV(T:aai){px:Pos}(hN:X.N.c)(I:X.N[i]?=some x)(r:Loc X.env.scope x)(S:ji X scope)(hc:X.calm=true)(hi:QI X target iter wi)
 (t:Fq X scope T target g) (hf:∀C fp s₀ H₀,QF 'x' ml tA) (he:∀C fp s₀ H₀,QE 'x' pj te)
 (J:swapsWith (.ListComp pj [{target,iter,ml,0}] scope lp) (some<|.Name x px) pos.line X.o=pure true:=by rfl)
 (U:X.fn x=true\/X.env.scope.names.e x=some .local:=by first|exact .inl rfl|exact .inr rfl|assumption)
 (hs:∀x,foldedSetIterable iter X.o x=pure x:=by intro _;rfl):QS X (.Assign [.Name x px] (.ListComp pj [{target,iter,ml,0}] scope lp) pos) (jx (h_ T.l wi g tA te)<|ql i):=by
 obtain⟨g2,h1,h2,h3⟩:=t.ex;refine PS.imp (Ta (tc:=m_ X.g3 tA) (te:=tV X.g3 te) T hN I r S hc hi h1 h2 hf he J U hs) λD σ H ⟨o,L,D3,rs,rl,z,k⟩=>?_;refine HW h3 σ H _ {o,L,_,rs,rl,z,λv H1 y L1 p j l z1=>?_};exact k.nx _ H1 _ L1 p (show vf _ _ _ (iQ o i y) by rw[bP];exact(rs.ts p).O l) j z1
def dn(G:G3)(sp:vh):Sp:=λvs H Q _=>∃ys L I,xw G H ys vs/\j8 G H L/\sp ys L I/\tj G H I Q
abbrev HX(P:aas)(w:aat)(K:Aj)(mg:aac)(base:aau)(k:Nat)(x:Str)(ps:aai)(sp:vh):Prop:=Cal P w K mg base k x ps<|dn {(K),P,w} sp
abbrev Fn3(P:aas)(w:aat)(K:Aj)(mg:aac)(base:aau)(k:Nat)(f:Addr)(fd:FuncData)(ps:aai)(sp:vh):Prop:=dI P w K mg base CX0 k f fd ps<|dn {(K),P,w} sp
def Ui{k:Nat}{sp:vh}{p:Pos}(c:HX X.i X.w X.K X.mg X.Y k x ps sp)(j:aX k X.A)(l:Gl X x)(o:QA X (e::es) tr)(I:Fe x:=by decide)
 (r:Fb e es X:=by rfl) (J:Fc pos es X:=by rfl):QE X (.Call (.Name x p) (e::es) [] pos) (jg sp tr):=
 EW (S6 c j l o I r J) λσ H Q t L C rs T z k=>
 ⟨t,L,_,rs,T,z,λvs H1 ys L1 t1 U g z1=>{ys,L1,C,by rw[AE];exact g,U,z1,k.ts t1}⟩
def aR(Q:YK):YK:=λy L=>∃L2,qh L2 L/\Q y L2
def gY(N:aai)(ys:_T):jm:=ys.y some++List.replicate (N.l-ys.l) none
def lQ{N:aai}(r:xw G H ys vs):vf G H (start N vs) (gY N ys):=by unfold start gY;rw[<-r.l];refine vf.more {by simp[r.l],λi y e=>?_} _;rw[Al] at e;obtain⟨g,I,J⟩:=Au.j e;cases J;obtain⟨x,ex,U⟩:=r.get I;exact{x,by rw[Al,ex];rfl,U}
def Uj{P:aas}{w:aat}{K:Aj}{st:Stmt}{N:aai}{k:Nat}{sp:vh}(F:Fun K x eK st f fd)(S:aT N ps<|z9 st)(len:∀ys L Q,sp ys L Q->ys.length=ps.l)
 (I:∀(eS:aaq) (A:Around) (outer:List Env) (s:aar) (H:Hp) (E:XK),aX k (A.deeper<|PyProof.Rows.envOfC eK 'e' ↥s f eS)->
  ∃t,sg (fU CX0 P w K mg base N eK 'e' f eS A outer s H E).nox (xj st) t/\∀ys L Q,sp ys L Q->t {nx:=λ_ L'=>aR Q .GM L',rt:=aR Q} (gY N ys) L):Fn3 P w K mg base (k+1) f fd ps sp:=by
 refine F.ok S (λT H Q E ⟨ys,L,U,g,C,z,_⟩=>by rw[<-g.l];exact len ys L U z) λeS A outer s H T Q E hr ⟨ys,L,U,g,C,z,k⟩=>?_;obtain⟨t,ht,q⟩:=I eS A outer s H E hr;refine{_,ht,gY N ys,L,_,lQ g,C,q ys L U z,?_};refine{λσ j τ L' l a1 J ⟨L2,o,p⟩=>k .GM j .GM L2 l (J.sub o) 'o' p,λv j y L' l J r ⟨L2,o,p⟩=>k v j y L2 l (J.sub o) r p,λ_ _ _ _ _ _ _ z=>z.elim,λ_ _ _ _ _ _ _ z=>z.elim}
def i_(G:G3)(r:Y->_T->qm->YK->Prop):V->HT->Hp->VK->Prop:=λx xs H Q=>∃y ys L I,RV G H y x/\xw G H ys xs/\j8 G H L/\r y ys L I/\tj G H I Q
def iR._x{id:aav}{r:V->HT->Hp->VK->Prop}{u:Y->_T->qm->YK->Prop}(h:iR X id r)(q:∀x xs H Q y ys L I,RV G H y x->xw G H ys xs->j8 G H L->u y ys L I->tj G H I Q->r x xs H Q):iR X id (i_ G u):=iR.imp h λx xs H Q ⟨y,ys,L,I,a,b,c,d,e⟩=>q x xs H Q y ys L I a b c d e
abbrev FE:=@iR._x
def Uk:iR X "list.append" (i_ X.g3 xp):=FE SD λx p H Q y t L C U g J z k=>by
 unfold xp at z;split at z
 .rename_i a v;obtain⟨T,e,z⟩:=v4 z;obtain⟨j,I,r⟩:=J a _ e;obtain⟨l,rfl,o⟩:=g.inv1;exact{a,j,l,U,rfl,I,by rw[<-r.l];exact z.1,k _ _ _ _ (E6 I) (J.setL I<|r.app<|xw.one o) 'o' z.2}
 .exact z.r
def Ul:iR X "list.extend" (i_ X.g3 iF):=FE SF λx T H Q y ys L Q3 g j I z k=>by
 unfold iF at z;split at z
 .rename_i a b;obtain⟨zs,e,z⟩:=v4 z;obtain⟨us,l,z⟩:=v4 z;obtain⟨o,J,r⟩:=I a _ e;obtain⟨p,t,U⟩:=I b _ l;obtain⟨v',rfl,C⟩:=j.inv1;cases C;exact{a,b,o,p,g,rfl,J,t,by rw[<-r.l,<-U.l];exact z.1,k _ _ _ _ (E6 J) (I.setL J<|r.app U) 'o' z.2}
 .exact z.r
def Um:iR X "list.pop" (i_ X.g3 Gf):=FE SH λx l H Q y T L Q3 o p U z k=>by
 unfold Gf at z;split at z
 .rename_i a;obtain⟨g,e,z⟩:=v4 z;obtain⟨t,I,r⟩:=U a _ e;cases (show l=[] from p);cases J:g[g.l-1]? with
  |none=>rw[J] at z;exact z.r
  |some v=>
   rw[J] at z;obtain⟨u,j,C⟩:=r.get J;rw[r.l] at j;exact{a,t,u,o,rfl,I,j,k _ _ _ _ (E6 I) (U.setL I r.dropLast) (C.ts<|E6 I) z}
 .exact z.r
def Kl{a:Addr}(I:j8 G H L)(h:cw L (.ref a)=some ys):Gz G.K "list" (.ref a) H:=by obtain⟨J,sq,_⟩:=g9 I h;exact .inl {(rfl),J,sq}
def fg(r:Y->_T->qm->YK->Prop)(to:xq)(t:gJ)(τ:jm)(L:qm)(Q:YK):Prop:=to τ L λx L1=>match x with
 |.ref a=>fE L1 (.ref a) λ_=>t τ L1 λxs L2=>r (.ref a) xs L2 Q
 |_=>False
structure Fs(X:Cx)(o e:Expr)(es:aaj)(name:Str)(apos eT:Pos):Prop where
 h4:attributeBase o name X.o (eval o X.o)=eval o X.o
 h5:((backTo eT<|starEach (e::es) X.o).all (λx=>!x.1)&&(backToKw eT<|keywordEach [] X.o).all (λx=>x.1.Z)&&decide ((e::es).l+([]:List Keyword).l+(if ([]:List Keyword).isEmpty=true then 0 else 1)<30))=true
 h6:(apos.endLine==eT.line)=true
 h7:Fb e es X
 h8:Fc eT es X
def uu{id:aav}{name:Str}{r:Y->_T->qm->YK->Prop}(h2:Slot "list" name id)(h3:typeOf (.builtin id)=pure (.type "method_descriptor"))(hm:iR X id<|i_ X.g3 r)(ho:QE X o to)(ha:QA X (e::es) tr)
 (I:Fs X o e es name apos eT:=by exact{(rfl),rfl,rfl,rfl,rfl}):
 QE X (.Call (.Attribute o name apos) (e::es) [] eT) (fg r to tr):=EW (JL Es h2 h3 hm ho ha I.h4 I.h5 I.h6 I.h7 I.h8) λσ H Q p L Q3 rs rl z k=>
 ⟨p,L,_,rs,rl,z,λv H1 y L1 t J U g=>by
  split at g
  .rename_i a;obtain⟨C,es,g⟩:=kw g;exact{by cases U;exact Kl J es,p,L1,_,rs.ts t,J,g,λvs H2 C L2 T j l z2=>{.ref a,C,L2,Q3,U.ts T,l,j,z2,k.ts<|t.trans T}}
  .exact g.r⟩
def HY{id:aav}{name:Str}{r:Y->_T->qm->YK->Prop}(h2:Slot "list" name id)(h3:typeOf (.builtin id)=pure (.type "method_descriptor"))(g:iR X id<|i_ X.g3 r)(j:QE X o to)
 (l:attributeBase o name X.o (eval o X.o)=eval o X.o:=by rfl) (p:(apos.endLine==eT.line)=true:=by rfl):
 QE X (.Call (.Attribute o name apos) [] [] eT) (fg r to zk):=EW (Sy Es h2 h3 g j l p) λσ H Q t L C rs T z k=>
 ⟨t,L,_,rs,T,z,λv H1 y L1 t1 I J U=>by
  split at U
  .rename_i a;obtain⟨ys,es,U⟩:=kw U;exact{by cases J;exact Kl I es,.ref a,[],L1,C,J,rfl,I,U,k.ts t1}
  .exact U.r⟩
def zu(I:QE X o to)(J:QA X (e::es) tr)(U:Fs X o e es "append" apos eT:=by exact{(rfl),rfl,rfl,rfl,rfl}):
 QE X (.Call (.Attribute o "append" apos) (e::es) [] eT) (fg xp to tr):=uu PySem.F.slot_list_append PySem.F.type_list_append Uk I J U
def cR(I:QE X o to)(J:QA X (e::es) tr)(U:Fs X o e es "extend" apos eT:=by exact{(rfl),rfl,rfl,rfl,rfl}):
 QE X (.Call (.Attribute o "extend" apos) (e::es) [] eT) (fg iF to tr):=uu PySem.F.slot_list_extend PySem.F.type_list_extend Ul I J U
def Km(I:QE X o to)(J:attributeBase o "pop" X.o (eval o X.o)=eval o X.o:=by rfl)(U:(apos.endLine==eT.line)=true:=by rfl):
 QE X (.Call (.Attribute o "pop" apos) [] [] eT) (fg Gf to zk):=HY PySem.F.slot_list_pop PySem.F.type_list_pop Um I J U
end
abbrev gL:rX:=u_ λi j=>.int<|i-j
abbrev Ko:rX:=yI agl λi j=>.int<|i*j
abbrev bz:rX:=yI Ht λi j=>.int<|i / j
abbrev wf:rX:=yI (λ_ j=>0<j) λi j=>.int<|i % j
abbrev HZ:rX:=yI Hu λi j=>.int<|i ^ j.B
abbrev H0:rX:=u_ λi j=>.bl<|decide<|i<j
abbrev yLe:rX:=u_ λi j=>.bl<|decide<|i<=j
abbrev Kq:rX:=u_ λi j=>.bl<|decide<|j<i
structure H9(G:G3)(mg:aac)(x:Str)(y:Y):Prop where
 ex:∃c,mg x=↑c/\∀H,RV G H y<|.ref c
def Kr{pos:Pos}(t:H9 X.g3 X.mg x y)(I:Gl X x)(hd:Fe x:=by decide):QE X (.Name x pos) (yC y):=by obtain⟨c,J,q⟩:=t.ex;exact TU I J q hd
def sO(kvs:List<|Str×Str):LO:=._c<|kvs.map λp=>(Sum.inr p.1,Y.str p.2)
def Uo(kvs:List<|Str×Str)(_:jm)(L:qm)(Q:YK):Prop:=∀p,L p=none->Q (.ref p) (qk L p<|sO kvs)
def v_(kvs:List<|Str×Str):List (jk×V):=kvs.y λp=>(Sum.inr p.1,V.str p.2)
theorem yU{σ:St}{H:Hp}{Q:List (V×V)->Hp->Prop}:∀{kvs:List<|Str×Str},Q (kvs.y λp=>(V.str p.1,V.str p.2)) H->uq (kvs.y λp=>(tC<|.str p.1,tC<|.str p.2)) σ H Q
 |[],h=>h
 |_::r,h=>yU (kvs:=r) h
theorem Ks{G:G3}{H:Hp}:∀kvs:List (Str×Str),Paired (λ(p:jk×Y) (q:jk×V)=>p.1=q.1/\RV G H p.2 q.2) (kvs.y λp=>(Sum.inr p.1,Y.str p.2))<|v_ kvs
 |[]=>.nil
 |_::r=>.cons {(rfl),rfl}<|Ks r
def Kt{pos:Pos}(kvs:List<|Str×Str)(h:Fx X pos keys values<|kvs.map λp=>(tC<|.str p.1,tC<|.str p.2))(h1:(keys.all λx=>x.isSome)=true)(h2:keys.l=values.l)(h3:keys≠[])(U:keys.l<=15)
 (g:kvs.l<=15:=by decide) (nd:iu [] (v_ kvs)=v_ kvs:=by decide +kernel):QE X (.Dict keys values pos) (Uo kvs):=EW (R6 h h1 h2 h3 U) λj H Q l L o rs J z k=>by
 intro p I;refine yU {zg,v_ kvs,by simp[v_,kV],by simpa[v_] using g,?_};rw[nd,P9];refine k _ _ _ (qk L p<|sO kvs) (EV I) ?_ 'o'<|z p<|J.none I;intro a u e;by_cases c:a=p
 .subst c;rw[q9] at e;cases e;exact{v_ kvs,zg,Ks kvs}
 .rw[qe c] at e;exact(J a u e).keep (EV I) (qp c)
def Uq(s:qh L L')(h:cw L y=some ys):cw L' y=some ys:=by
 cases y with
 |tup J=>exact h
 |sq J=>exact h
 |ref a=>
  have I:(match L a with|⇑ys=>some ys|_=>none)=some ys:=h;split at I
  .rename_i e;cases I;exact a8<|s _ _ e
  .cases I
 |_=>cases h
def iZ(t:xq):Prop:=∀τ L Q,t τ L Q->∃v,Q v L/\∀L' I,qh L L'->I v L'->t τ L' I
def uU(i:Nat):iZ (qf i):=λI L Q h=>by
 unfold qf at h ⊢;split at h
 .rename_i y e;exact{y,h,λJ U _ q=>q}
 .exact h.r
def GL(y:Y):iZ (yC y):=λ_ _ _ h=>{y,h,λ_ _ _ q=>q}
def Ku{C:Int->Int->Prop}{g:Int->Int->Y}(U:iZ ta)(l:iZ tb):iZ (zx (yI C g) ta tb):=λI L Q h=>by
 obtain⟨x,h1,o⟩:=U I L _ h;obtain⟨y,h2,p⟩:=l I L _ h1;cases x with
 |int i=>
  cases y with|int j=>exact{g i j,h2.2,λJ r s q=>o J _ s<|p J _ s {(h2.1),q}}|_=>exact h2.r
 |_=>cases y<;>exact h2.r
def az{Q:α->qm->Prop}{o:Option α}(h:rQ L Q o):∃v,o=some v/\Q v L:=by cases o with|none=>exact h.r|some v=>exact{(v),rfl,h}
def Ur{x:Y}{Q:YK}(h:aO x y L Q):∃v,Q v L/\∀(L':qm) (I:YK),qh L L'->I v L'->aO x y L' I:=by
 have seq:∀{x:Y} {i:Int},(fE L x λJ=>rQ L Q<|bw J i)->∃v,Q v L/\∀(L':qm) (I:YK),qh L L'->I v L'->(fE L' x λJ=>rQ L' I<|bw J i):=by intro x i h;obtain⟨J,l,h⟩:=kw h;obtain⟨v,e,q⟩:=az h;exact{v,q,λL' I s U=>J3 (Uq s l) ([e]≈U)}
 cases x with
 |str z=>
  cases y with
  |int i=>
   obtain⟨v,e,q⟩:=az h.2;exact{_,q,λL' I s U=>{h.1,by rw[e];exact U}}
  |_=>exact h.r
 |cd g=>
  cases y with
  |str k=>
   have j:=h;obtain⟨v,e,q⟩:=az j;refine{_,q,λL' I s U=>?_};show rQ L' (λs L=>I (.str s) L) (g.e k);rw[e];exact U
  |_=>exact h.r
 |ref a=>
  cases y with
  |int i=>exact seq (x:=.ref a) (i:=i) h
  |str k=>
   obtain⟨g,e,j⟩:=dM h;obtain⟨v,o,q⟩:=az j;exact{v,q,λL' I s U=>x4 (s _ _ e) ([o]≈U)}
  |_=>exact h.r
 |tup J=>
  cases y with|int i=>exact seq (x:=.tup J) (i:=i) h|_=>exact h.r
 |sq J=>
  cases y with|int i=>exact seq (x:=.sq J) (i:=i) h|_=>exact h.r
 |_=>cases y<;>exact h.r
def H_(U:iZ ta)(g:iZ tb):iZ (zx aO ta tb):=λJ L Q h=>by obtain⟨x,h1,j⟩:=U J L _ h;obtain⟨y,h2,l⟩:=g J L _ h1;obtain⟨v,q,o⟩:=Ur h2;exact{v,q,λI p s r=>j I _ s<|l I _ s<|o I p s r}
def Kv(t:gJ)(ti:xq)(τ:jm)(L:qm)(Q:YK):Prop:=t τ L λys L1=>match Nat.ble ys.l 1000 with
 |true=>ti τ L1 λi L2=>match i with
  |.int i=>rQ L2 Q<|bw ys i
  |_=>False
 |false=>False
def Us{b:Expr}{tr:gJ}{pos:Pos}(h:QA X es tr)(hb:QE X b tb)(pu:iZ tb)(J:iL b):QE X (.Subscript (.List es lp) b pos) (Kv tr tb):=EW (Gy (HV X.K X.i X.w) (JA h) hb J) λσ H Q o L Q3 rs rl z k=>by
 refine{o,L,_,rs,rl,z,λvs H1 U I t1 g j l=>?_};cases e:Nat.ble U.l 1000 with
 |false=>rw[e] at l;exact l.r
 |true=>
  rw[e] at l;have:=Ar e;refine{small (by rw[<-j.l];exact this),λp J=>?_};obtain⟨v,zv,kv⟩:=pu o I _ l;have sb:qh I (qk I p<|.lst U):=By<|g.none J;refine{o,qk I p<|.lst U,λv' r=>v'=v/\r=qk I p (.lst U),rs.ts<|t1.trans<|EV J,g.newL J j,kv _ _ sb {(rfl),rfl},?_};rintro v2 H2 y2 L2 t2 t C ⟨rfl,rfl⟩;refine{.ref p,y2,_,λy r=>r=qk I p (.lst U)/\Q3 y I,rfl,C,t,?_,?_}
  .cases y2 with
   |int i=>
    obtain⟨u,eu,qu⟩:=az zv;refine qa q9 ?_;rw[eu];exact{(rfl),qu}
   |_=>exact zv.r
  .rintro v3 H3 y3 L3 t3 T a1 ⟨rfl,q3⟩;exact k v3 H3 y3 I (t1.t<|(EV J).t<|t2.trans t3) (T.sub sb) a1 q3
def Kw(kvs:List<|Str×Str)(ti:xq)(τ:jm)(L:qm)(Q:YK):Prop:=ti τ L λi L2=>match i with
 |.str k=>rQ L2 (λx L=>Q (.str x) L)<|kvs.lookup k
 |_=>False
def gZ{kvs:List<|Str×Str}{k:Str}(h:kvs.e k=some x):wo (kvs.y λp=>((Sum.inr p.1:jk),Y.str p.2)) (Sum.inr k)=some (Y.str x):=by
 induction kvs with
 |nil=>simp at h
 |cons p r I=>
  obtain⟨a,b⟩:=p;unfold wo;rw[AR,BP];rw[BF] at h;by_cases c:k=a
  .subst c;simp at h;simp[h]
  .have J:(k==a)=false:=by simpa using c
   rw[J] at h;have U:decide ((Sum.inr a:jk)=Sum.inr k)=false:=Ay λz=>c (Fj z).L;simp only[U];exact I h
def yK{pos C:Pos}{b:Expr}(kvs:List<|Str×Str)(h:Fx X C keys values<|kvs.map λp=>(tC<|.str p.1,tC<|.str p.2))(h1:(keys.all λx=>x.isSome)=true)(h2:keys.l=values.l)(h3:keys≠[])(h4:keys.l<=15)
 (hb:QE X b tb) (pu:iZ tb) (I:iL b) (h5:kvs.l<=15:=by decide) (nd:iu [] (v_ kvs)=v_ kvs:=by decide +kernel):QE X (.Subscript (.Dict keys values C) b pos) (Kw kvs tb):=
 EW (Gy (HV X.K X.i X.w) (Kt kvs h h1 h2 h3 h4 h5 nd) hb I) λσ H Q U L Q3 rs rl z k=>by
 obtain⟨v,T,kv⟩:=pu U L _ z;refine{U,L,λy J=>∃p,L p=none/\y=.ref p/\J=qk L p (sO kvs),rs,rl,λp I=>{(p),I,rfl,rfl},?_};rintro v1 H1 y1 L1 t1 g j ⟨p,I,rfl,rfl⟩;have sb:qh L (qk L p<|sO kvs):=By I;refine{U,_,λv' J=>v'=v/\J=qk L p (sO kvs),rs.ts t1,g,kv _ _ sb {(rfl),rfl},?_};rintro v2 H2 y2 L2 t2 l o ⟨rfl,rfl⟩;refine{.ref p,y2,_,λy J=>J=qk L p (sO kvs)/\Q3 y L,j.ts t2,o,l,?_,?_}
 .cases y2 with
  |str i=>
   obtain⟨u,eu,qu⟩:=az T;refine x4 (kvs:=kvs.y λp=>(Sum.inr p.1,Y.str p.2)) q9 ?_;rw[gZ eu];exact{(rfl),qu}
  |_=>exact T.r
 .rintro v3 H3 y3 L3 t3 r t ⟨rfl,q3⟩;exact k v3 H3 y3 L (t1.t<|t2.trans t3) (r.sub sb) t q3
def Kx(h:(dG lo n)[i]?=some y):i<n/\y=.int (lo+i):=by
 unfold dG at h;rw[Al] at h;obtain⟨z,I,e⟩:=Au.j h;have J:i<n:=by
  by_cases c:i<n
  .exact c
  .rw[BC (by simp;exact HE)] at I;cases I
 rw[Cq J] at I;cases I;exact{(J),e.L}
def qH(lo:Int)(n:Nat):(dG lo n).l=n:=by simp[dG]
def u8{tb:aa}(W:Nat->jm->qm->Prop)(h0:W 0 τ L)
 (hs:∀i τ L,i<n->W i τ L->g (.int<|lo+i) τ L λI L2=>tb {D with nx:=jA<|W<|i+1,ct:=jA<|W<|i+1,bk:=D.nx} I L2) (hd:∀τ L,W n τ L->D.nx τ L):uB (dG lo n) (λ_=>True) g tb D τ L:=by
 refine wq {W,h0,λ_ _ _ _=>trivial,λi y τ L e w=>?_,λτ L w=>hd τ L (by rw[qH] at w;exact w)};obtain⟨J,rfl⟩:=Kx e;exact hs i τ L J w
def Ky{a:Addr}{v:Y}{Q:YK}(e:L a=⇑(ys++[v]))(q:Q v<|qk L a<|.lst ys):fE L (.ref a) (λ_=>zk τ L λxs L2=>Gf (.ref a) xs L2 Q):=by
 refine qa e<|qo e ?_;have:(ys++[v])[(ys++[v]).l-1]?=some v:='r'
 rw[this,List.dropLast_concat];exact q
def Ut{tb:aa}{a:Addr}(h:cw L (.ref a)=some ys)(W:Nat->jm->qm->Prop)(h0:W 0 τ L)(J:∀i τ L',W i τ L'->L' a=L a)
 (hs:∀i y τ L,ys[i]?=some y->W i τ L->g y τ L λI L2=>tb {D with nx:=jA<|W<|i+1,ct:=jA<|W<|i+1,bk:=D.nx} I L2) (hd:∀τ L,W ys.l τ L->D.nx τ L):
 xO L a λys keep L1=>uB ys keep g tb D τ L1:=xi (lM h) λkeep U=>wq {W,h0,λi τ L' w=>U L'<|J i τ L' w,hs,hd}
def bu{keep:qm->Prop}{tc:jB}{Q:YK}(I:Nat->_T->Prop)(hz:ys.l<sizeLine)(j:keep L)(h0:I 0 [])
 (turn:∀(i:Nat) y zs,ys[i]?=some y->I i zs->g y (τ++List.replicate n none) L λJ L2=>tc J L2 λb L3=>fY b (te J L3 λz l=>jA (λzs L'=>L'=L/\I (i+1) zs) (zs++[z]) l)<|jA (λzs L'=>L'=L/\I (i+1) zs) zs L3)
 (o:∀zs,I ys.l zs->∀p,L p=none->Q (.ref p) (qk L p<|.lst zs)):n_ ys keep n g tc te τ L Q:=by
 refine Ka {hz,λi zs L'=>L'=L/\I i zs,{(rfl),h0},?_,?_,?_}
 .rintro i zs L' ⟨rfl,_⟩;exact j
 .rintro i y zs L' r ⟨rfl,U⟩;exact turn i y zs r U
 .rintro zs L' ⟨rfl,U⟩ p t;exact o zs U p t
def lO{tc:jB}{Q:YK}(I:Nat->_T->Prop)(hz:m<sizeLine)(h0:I 0 [])
 (turn:∀(i:Nat) zs,i<m->I i zs->g (.int<|lo+i) (τ++List.replicate n none) L λJ L2=>tc J L2 λb L3=>fY b (te J L3 λz j=>jA (λzs L'=>L'=L/\I (i+1) zs) (zs++[z]) j)<|jA (λzs L'=>L'=L/\I (i+1) zs) zs L3)
 (l:∀zs,I m zs->∀p,L p=none->Q (.ref p) (qk L p<|.lst zs)):n_ (dG lo m) (λ_=>True) n g tc te τ L Q:=by
 refine bu (keep:=λ_=>True) I ([qH]≈hz) trivial h0 (λi y zs e U=>?_) λzs U=>l zs (by rw[qH] at U;exact U);obtain⟨o,rfl⟩:=Kx e;exact turn i zs o U
def j7{I:List α}{f:α->Y}{w:α}(h:I[i]?=some w):bw (I.y f) (i:Int)=some (f w):=jh (by rw[Al,h];rfl)
def x6(t:aa)(n:Nat)(ys:_T)(L:qm)(Q:YK):Prop:=t {nx:=λ_ L'=>aR Q .GM L',rt:=aR Q} (ys.y some++List.replicate (n-ys.l) none) L
abbrev _f(sp:_T->qm->YK->Prop)(t:aa)(n:Nat):Prop:=∀ys L Q,sp ys L Q->x6 t n ys L Q
def jj{Q:YK}(h:Q y L):aR Q y L:={L,ET L,h}
def eM{Q:YK}(s:qh L L')(h:Q y L):aR Q y L':={(L),s,h}
theorem Fn3.never{P:aas}{w:aat}{K:Aj}{k:Nat}{sp:vh}(no:∀ys L Q,¬sp ys L Q):Fn3 P w K mg base k f fd ps sp:=
 dI.never λJ H Q E ⟨ys,L,I,_,_,z,_⟩=>no ys L I z
def qh.upd{a:Addr}{o:LO}(s:qh L L')(h:L a=none):qh L (qk L' a o):=λb u e=>by rw[qe<|ku e h];exact s b u e
def qh.put{a:Addr}{o:LO}(s:qh L L')(h:L' a=some o):qh (qk L a o) L':=λb u e=>by
 by_cases c:b=a
 .subst c;rw[q9] at e;cases e;exact h
 .rw[qe c] at e;exact s b u e
theorem wK{G:G3}{H:Hp}:∀ns:aal,xw G H (ns.y Y.int)<|ns.map V.int
 |[]=>rfl
 |_::r=>{_,_,rfl,rfl,wK r}
section
variable {σ:St}
def rC(I:'v')(U:∀b∈fp,H b=none)(k:∀b o,b∉fp->s.heap.get? b=some o->h'.get? b=some o):gB X.i X.w H h':=λb u e=>by
 refine(I.KB b u e)._e (λc v g q=>k c v (λz=>?_) q) (λ_ q=>q) λ_ _ q=>q;have J:=U c z;obtain w|w:=g
 .rw[w,e] at J;cases J
 .rw[w] at J;cases J
def Uu{fs:List Addr}(k:∀b o,b∉fp->h.get? b=some o->h'.get? b=some o):Un fs fp H H h h':=
 ⟨λb o q _ _ x=>k b o x q,λb o q _ _ x=>{o.slots,k b o x q},λ_ _ _ n _=>n,λb o q x=>{o,k b o x q},λ_ _ q=>q,λ_ _ _ q=>q,λb I q=>{#[],by rw[q];simp}⟩
def za.turnedL(I:'v')(k:∀b o,b∉fp->s.heap.get? b=some o->h'.get? b=some o)(U:∀b∈fp,rZ X pins H b)(g:0<t':=by walk_at "t"):za X pins σ H {s with heap:=h',toks:=t'}:=
 I.call' (s':={s with heap:=h',toks:=t'}) (ch:=fp) rfl (Uu k) (rC I (λb J=>(U b J).1) k) I.bare λb J=>{(U b J).2.2.2.1,(U b J).2.1,(U b J).2.2.2.2.1,(U b J).2.2.2.2.2}
def za.turnedN{a:Addr}{o:HO}(I:'v')(k:∀b o,b∉fp->s.heap.get? b=some o->h'.get? b=some o)(U:∀b∈fp,rZ X pins H b)(j:↥s<=a)
 (new:vd X.i X.w (upd H a o) h' a o) (p:0<t':=by walk_at "t"):za X pins σ (upd H a o) {s with heap:=h',toks:=t'}:=by
 have g:=I.KB.fresh j;have lt:∀b ob,s.heap.x b=some ob->b≠a:=λb ob q=>Bi<|AL (xT q) j;refine I.call' (s':={s with heap:=h',toks:=t'}) (ch:=fp) rfl ?_ ?_ I.bare λb J=>{(U b J).2.2.2.1,(U b J).2.1,(U b J).2.2.2.2.1,(U b J).2.2.2.2.2}
 .exact{λb ob q _ _ x=>k b ob x q,λb ob q _ _ x=>{ob.slots,k b ob x q},λb ob q n _=>by rw[qp<|lt b ob q];exact n,λb ob q x=>{ob,k b ob x q},
   λb l q=>by rw[qp<|jf q g];exact q,λb ob u q=>by rw[qp<|jf q g];exact q,λb r q=>{#[],by rw[qp<|jf q g,q];simp}}
 .intro b u e;by_cases J:b=a
  .subst J;rw[zg] at e;cases e;exact new
  .rw[qp J] at e;have ok:=rC I (h':=h') (λb J=>(U b J).1) k b u e;exact ok._e (λ_ _ _ q=>q) (λc q=>by rw[qp<|jf q g];exact q) λc l q=>by rw[qp<|jf q g];exact q
end
def Ia(K:Aj)(a:Addr):It:=
 ⟨λi H=>∃xs x,bQ K H a xs/\xs[i]?=some x,λi H v H'=>∃p x,H p=none/\v=.ref p/\H'=upd H p (.tup [.int i,x])/\∀xs,bQ K H a xs->xs[i]?=some x,λi H=>∃xs,bQ K H a xs/\xs.l<=i⟩
def Uv{P:aas}{w:aat}{K:Aj}(a e it:Addr)(l:e≠it):y0 P w K (.Tuple nq x1 tp) (Ia K a) [e,it] e (λi h=>(∃old,IsEnum h e it i old)/\h.IsListIter it a i) where
 mem:='r'
 obj:=λi h ⟨⟨old,J⟩,U⟩ b g=>by
  obtain rfl|g:=Ao.j g
  .exact{_,J,λv z=>by cases z}
  .cases Ak.j g;obtain⟨o,T,hc,hd⟩:=U;exact{o,T,λv z=>by rw[hd] at z;cases z}
 keep:=λi h h' ⟨⟨old,J⟩,U⟩ k=>{{old,k e 'r' _ J},U.at λo q=>k it 'r' o q}
 item:=by
  intro X hP hw hK hc i r s σ H E I t ⟨⟨old,J⟩,U⟩ hg;subst hP hw hK;obtain⟨xs,x,C,hx⟩:=hg;obtain⟨a1,rv,p,hz⟩:=I.list C;obtain⟨u,hu,ru⟩:=rv.get hx;refine wpAny_pyNext_enum_item J U p.isList (x:=u) (~~~hu) l λh1 a2 a3 ht ac hk=>{.ref ↥s,rfl,wpAny_letOwnedTupleGo_enum a2 λh2 a4 j=>?_};have el:=xT J;have il:it<↥s:=by obtain⟨o,T,_⟩:=U;exact xT T
  have kk:∀b o,b∉[e,it]->s.heap.get? b=some o->h2.get? b=some o:=λb o nb q=>by have n1:b≠e:=λz=>nb (by simp[z]);have n2:b≠it:=λz=>nb (by simp[z]);exact j.extBut b o n1<|hk b o n1 n2 q
  have tg:=j.extBut _ _ (C1 el) ht;refine{.ref ↥s,upd H ↥s<|.tup [.int i,x],?_,rfl,{_,x,I.KB.fresh<|Ap _,rfl,rfl,λys hy=>by rw[I._j hy C];exact hx},{{_,a4},a3.at λo q=>j.extBut _ _ (AN l) q},λb g=>?_}
  .exact I.turnedN (t':=s.D+1) kk t (Ap _) {by show 2<=sizeLine;decide,[.int i s.D,u],.cons {_,rfl}<|.cons ru .nil,{_,tg,rfl,_,rfl}}
  .have a5:b<↥s:=by obtain rfl|g:=Ao.j g;exact el;cases Ak.j g;exact il
   rw[qp<|Bi a5];exact(t b g).1
 done:=by intro X hP hw hK hc i r s σ H E I t ⟨⟨old,J⟩,U⟩ hg;subst hP hw hK;obtain⟨xs,C,hx⟩:=hg;obtain⟨a1,rv,p,hz⟩:=I.list C;have hl:=rv.l;exact wpAny_pyNext_enum_end (I.ok.hd hc) J U p.isList (by simp;omega) λh1 eb=>{rfl,I.turnedL (t':=s.D) (fp:=[e,it]) (λb o nb q=>eb b o (λz=>nb (by simp[z])) q) t}
 self:=λ_ _ _ _ _ ⟨⟨_,J⟩,_⟩ h=>wpAny_pyIter_enum J h
def Uw(K:Aj)(ta:TA):TI:=λσ H R=>ta σ H λvs H1=>∃a,vs=[.ref a]/\(∃xs,bQ K H1 a xs)/\R (Ia K a) H1
def t9:bootBuiltins "enumerate"=some (.type "enumerate"):='z'
def Ux{a:Expr}{ta:TA}{p pos:Pos}(t:Gl X "enumerate")(C:X.mg "enumerate"=none)(T:PA X [a] ta)(hs:starEach [a] X.o=[(false,eval a X.o)]:=by rfl):
 PI X (.Tuple nq x1 tp) (.Call (.Name "enumerate" p) [a] [] pos) (Uw X.K ta):=by
 intro U s σ H R I h;refine Call_<|fS I t C t9<|Cr (aY (T pos U s σ H _ I h) λus J ⟨vs,H1,j,r1,q1⟩=>?_) hs rfl;obtain⟨l,e,⟨xs,hq⟩,q⟩:=q1;subst e;obtain⟨u,rfl,ru⟩:=jJ r1;cases ru;obtain⟨a1,rv,pl,hz⟩:=j.list hq;refine call_enumerate_list pl.isList λh1 r hi a2 hk=>?_;have I2:=j.kept (t':=J.D) hk;refine wpAny_pyIter_enum (s:={J with heap:=h1}) r ?_;refine{↥J+1,[↥J+1,↥J],_,_,H1,rfl,I2,Uv l _ _<|Nat.succ_ne_self _,{{_,r},hi},λb o=>?_,q};have g:↥J<=b:=by obtain rfl|o:=Ao.j o;exact Cn _;cases Ak.j o;exact Ap _
 exact j.fpOk g<|j.KB.fresh g
def mY{a:Addr}{keep:qm->Prop}(h:∀H L,jc H₀ H->j8 G H L->keep L->∃xs,bQ G.K H a xs/\xw G H ys xs):iy G H₀ (Ia G.K a) (ys.zipIdx.y λp=>Y.tup [.int (p.2:Nat),p.1]) keep where
 go:=λi H L t I J o=>by
  obtain⟨xs,sq,r⟩:=h H L t I J;have:i<xs.l:=by rw[<-r.l];simpa using o
  exact{xs,xs[i],sq,Ah this}
 yld:=λi H L x H' y t I J l ⟨p,z,U,C,T,f⟩=>by subst C T;obtain⟨xs,sq,r⟩:=h H L t I J;rw[Al,List.getElem?_zipIdx] at l;obtain⟨⟨y',j⟩,ey,e3⟩:=Au.j l;obtain⟨a1,g,e4⟩:=Au.j ey;cases e4;subst e3;obtain⟨x',e',rv⟩:=r.get g;have:=f xs sq;rw[e'] at this;cases this;refine{EV U,I.skip U,p,_,rfl,dR.of zg,{_,_,rfl,?_,_,_,rfl,rv.ts<|EV U,rfl}};congr 1;simp
 stop:=λH L t I J=>by obtain⟨xs,sq,r⟩:=h H L t I J;exact{xs,sq,by rw[Ac,List.length_zipIdx,r.l];exact Ap _}
def qE(ys:_T):_T:=ys.zipIdx.y λp=>Y.tup [.int (p.2:Nat),p.1]
def om(h:(qE ys)[i]?=some y):∃z,ys[i]?=some z/\y=.tup [.int i,z]:=by unfold qE at h;rw[Al,List.getElem?_zipIdx] at h;obtain⟨⟨J,j⟩,U,g⟩:=Au.j h;obtain⟨l,I,o⟩:=Au.j U;cases o;exact{J,I,by rw[<-g];simp}
def li(ys:_T):(qE ys).l=ys.l:=by simp[qE]
def KA(tl:xq)(τ:jm)(L:qm)(R:_T->(qm->Prop)->qm->Prop):Prop:=tl τ L λx L1=>match x with
 |.ref a=>xO L1 a λys keep L=>R (qE ys) keep L
 |.sq ys=>R (qE ys) (λ_=>True) L1
 |_=>False
def uD{a:Expr}{p pos:Pos}(hg:Gl X "enumerate")(hm:X.mg "enumerate"=none)(ha:QE X a te)(hs:starEach [a] X.o=[(false,eval a X.o)]:=by rfl)
 (j:starEach [a] X.o=(false,eval a X.o)::starEach [] X.o:=by rfl):QI X (.Tuple nq x1 tp) (.Call (.Name "enumerate" p) [a] [] pos) (KA te):=PI._x (Ux hg hm (af ha gH j) hs) λσ H R τ L R3 rs l z k=>by
 refine{τ,L,_,rs,l,z,λv g y o T I U C=>?_};cases y with
 |ref a=>
  obtain⟨ys,keep,es,kp,hk,z2⟩:=vI C;have hy:∀H L,jc g H->j8 X.g3 H L->keep L->∃J,bQ X.K H a J/\xw X.g3 H ys J:=λH L _ l e=>g9 l<|hk L e;obtain⟨J,sq,_⟩:=hy g o (EU _) I kp;cases U;exact{a,rfl,{(J),sq},k _ g _ _ o T I (mY hy) z2}
 |sq ys=>
  obtain⟨a,J,e,sf,r⟩:=U;subst e;exact{a,rfl,{(J),sf.sq},k _ g _ (λ_=>True) o T I (mY λH L t _ _=>{J,(sf.ts t).sq,r.ts t}) C}
 |_=>exact C.r
def lK(t:Bool)(h:aau)(it l:Addr)(k:Nat):Prop:=match t with
 |false=>h.IsListIter it l k
 |true=>h.IsTupleIter it l k
def tz(t:Bool)(h:aau)(l:Addr)(xs:aag):Prop:=match t with
 |false=>h.IsList l xs
 |true=>h.IsTuple l xs
def lK.on{k:Nat}(x:lK t h it l k)(e:∀o,h.x it=some o->h'.get? it=some o):lK t h' it l k:=by cases t with|false=>exact Heap.IsListIter.at x e|true=>exact Heap.IsTupleIter.at x e
def tz.on{xs:aag}(x:tz t h l xs)(e:∀o,h.x l=some o->h'.get? l=some o):tz t h' l xs:=by cases t with|false=>exact Heap.IsList.at x e|true=>exact Heap.IsTuple.at x e
def lK.ob{k:Nat}(x:lK t h it l k):∃o,h.x it=some o/\∀v,o.data≠.cell v:=by
 cases t with
 |false=>obtain⟨o,e,c,d⟩:=x;exact{o,e,λv z=>by rw[d] at z;cases z}
 |true=>obtain⟨o,e,c,d⟩:=x;exact{o,e,λv z=>by rw[d] at z;cases z}
def KC(l:Addr):¬((Value.ref l==Value.none)=true):=AI
section
variable {w:aat}
def Uy{xs:aag}{x:aaq}(hi:s.heap.IsTupleIter it l i)(U:s.heap.IsTuple l xs)(g:xs[i]?=some x)
 (q:∀h',h'.IsTupleIter it l (i+1)->Heap.SameBut it s.v h'->Q x {s with heap:=h'}):wpAny 'w' A (Builtin.SmallTypes.nextOf<|.ref it) Q E s:=by
 obtain⟨o,J,ci,I⟩:=id hi;obtain⟨u,ul,_,n,dl⟩:=U;refine Aa<|wpAny_callSpecial?_slot (name:="__next__") hi.typeIs Db<|wpAny_call_entry Db hi.typeIs F.entry_tuple_iterator_next ?_<|F.args_tuple_iterator_next_1 _;refine Aa (m:=field (.ref it) 0)<|Bl J I (x:=.ref l) rfl ?_;rw[Az<|KC l];refine Aa (m:=field (.ref it) 1)<|Bl J I (x:=.int i 0) rfl<|Aa (m:=seqItems?<|.ref l)<|BN ul dl ?_;simp only[Bx,g];refine Aa<|wpAny_setField J I 'r'<|Aq {x,rfl,Aq<|q _ {_,Fg _ J<|Obj.isFreed_of_fields<|Obj.data_mapFields I _,(Obj.cls_mapFields ..).t ci,?_}<|As ..};rw[Obj.data_mapFields I];simp[rawInt]
def Uz{xs:aag}(U:A.handled=none)(hi:s.heap.IsTupleIter it l i)(g:s.heap.IsTuple l xs)(j:xs[i]?=none)
 (q:∀h' e,Heap.ExtBut it s.v h'->(∃o,h'.x e=some o/\o.cls=.type "StopIteration")->E (.ref e) {s with heap:=h'}):wpAny 'w' A (Builtin.SmallTypes.nextOf<|.ref it) Q E s:=by
 obtain⟨o,I,ci,J⟩:=id hi;obtain⟨u,ul,_,n,dl⟩:=g;refine Aa<|wpAny_callSpecial?_slot (name:="__next__") hi.typeIs Db<|wpAny_call_entry Db hi.typeIs F.entry_tuple_iterator_next ?_<|F.args_tuple_iterator_next_1 _;refine Aa (m:=field (.ref it) 0)<|Bl I J (x:=.ref l) rfl ?_;rw[Az<|KC l];refine Aa (m:=field (.ref it) 1)<|Bl I J (x:=.int i 0) rfl<|Aa (m:=seqItems?<|.ref l)<|BN ul dl ?_;simp only[Bx,j];refine Aa<|BJ<|Aa<|wpAny_setField I J 'r' ?_;refine Aa (m:=newExc (.type "StopIteration") []) ?_;simp only[newExc,newTuple];refine Aa (BE (Aa (m:=firstArgMember _ _) (wpAny_of_eq (a:=Value.none) (by first|rfl|(simp only[firstArgMember];rfl))<|BE ?_ (by size_fits))) (by size_fits));simp only[raiseNew];refine Aa<|wpAny_handled ?_
 first|rw[show A.in1.handled=none from U]|rw[U]
 exact Aa<|Aq<|wpAny_throw<|q _ _ (((As ..).extBut.push _).I _) {_,ya _ rfl,rfl}
def lK.next{xs:aag}{x:aaq}(hi:lK t s.v it l i)(I:tz t s.v l xs)(J:xs[i]?=some x)
 (q:∀h',lK t h' it l (i+1)->Heap.SameBut it s.v h'->Q x {s with heap:=h'}):wpAny 'w' A (Builtin.SmallTypes.nextOf<|.ref it) Q E s:=by
 cases t with|false=>exact wpAny_nextOf_list_item hi I J q|true=>exact Uy hi I J q
def lK.stop{xs:aag}(I:A.handled=none)(hi:lK t s.v it l i)(J:tz t s.v l xs)(U:xs[i]?=none)
 (q:∀h' e,Heap.ExtBut it s.v h'->(∃o,h'.x e=some o/\o.cls=.type "StopIteration")->E (.ref e) {s with heap:=h'}):wpAny 'w' A (Builtin.SmallTypes.nextOf<|.ref it) Q E s:=by
 cases t with|false=>exact wpAny_nextOf_list_end I hi J U q|true=>exact Uz I hi J U q
structure Ib(z TI TO i1 i2 l1 l2:Addr):Prop where
 n1:TI≠z
 n2:TO≠z
 n3:i1≠z
 n4:i2≠z
 n5:TO≠i1
 n6:TO≠i2
 n7:i1≠i2
 n8:l1≠z
 n9:l1≠TO
 n10:l1≠i1
 n11:l1≠i2
 n12:l2≠z
 n13:l2≠TO
 n14:l2≠i1
 n15:l2≠i2
def UA{z TI TO I J:Addr}{k:Nat}{xs ys:aag}{x y a b:aaq}(D:Ib z TI TO I J l1 l2)(hz:IsZip s.v z TI TO .none)(hI:IsPair s.v TI (.ref I)<|.ref J)(hO:IsPair s.v TO a b)
 (h1:lK t1 s.v I l1 k) (h2:lK t2 s.v J l2 k) (q1:tz t1 s.v l1 xs) (q2:tz t2 s.v l2 ys) (hx:xs[k]?=some x) (hy:ys[k]?=some y)
 (q:∀h',IsZip h' z TI TO (rawInt ↥s)->IsPair h' TO x y->lK t1 h' I l1 (k+1)->lK t2 h' J l2 (k+1)->IsPair h' ↥s x y->
  (∀c o,c≠z->c≠TO->c≠I->c≠J->s.heap.get? c=some o->h'.get? c=some o)->Q (.ref ↥s) {s with heap:=h'}):
 wpAny 'w' A (Builtin.«zip.__next__» ⟨[.ref z],[]⟩) (λjj s'=>∃v,jj=.done (.ret v)/\Q v s') E s:=by
 refine Aa (m:=field (.ref z) 2)<|Bl hz rfl (x:=.bool false) rfl<|Aa (m:=field (.ref z) 3)<|Bl hz rfl (x:=.ref TI) rfl<|Aa<|BN hI rfl ?_;refine Aa (m:=Builtin.SmallTypes.ownedTupleIsFree<|.ref z) ?_;refine Aa<|Bl hz rfl (x:=.none) rfl<|Aq ?_;simp only[if_true];refine Aa<|BJ<|Aa<|Bl hz rfl (x:=.ref TO) rfl<|Aa<|wpAny_setField_rec hz 'r' λg1 z1 U=>?_;have ac:=z1;refine Aa ?_;simp only[Et,List.zipIdx_nil,Dj,EM];refine Aa<|Aa<|wpAny_onRaise<|Aa (m:=Builtin.SmallTypes.nextOf<|.ref I)<|(h1.on λo e=>U.extBut _ _ D.n3 e).next (q1.on λo e=>U.extBut _ _ D.n8 e) hx λg2 al j=>Aq ?_;have O2:=j.extBut _ _ D.n5<|U.extBut _ _ D.n2 hO;refine Aa<|BN O2 rfl<|Aa<|wpAny_updateSeq_pair O2 λg3 O3 p=>Aa<|wpAny_letGo<|Aq ?_;have ar:=O3;refine Aa (Aa (wpAny_onRaise (Aa (m:=Builtin.SmallTypes.nextOf<|.ref J) (lK.next (l:=l2) (i:=k) (xs:=ys) (x:=y) (t:=t2) (h2.on λo e=>p.extBut _ _ (AN D.n6)<|j.extBut _ _ (AN D.n7)<|U.extBut _ _ D.n4 e)
  (q2.on λo e=>p.extBut _ _ D.n13<|j.extBut _ _ D.n14<|U.extBut _ _ D.n12 e) hy λg4 au C=>Aq ?_))))
 have O4:=C.extBut _ _ D.n6 ar;refine Aa<|BN O4 rfl<|Aa<|wpAny_updateSeq_pair O4 λr O5 T=>Aa<|wpAny_letGo<|Aq<|Aq ?_;have a5:IsPair r TO x y:=O5;refine Aa<|BN a5 rfl<|Aa<|wpAny_newTuple ?_;have sz:r.objs.q=↥s:=by rw[T.1,C.1,p.1,j.1,U.1]
 have z5:=T.extBut _ _ (AN D.n2)<|C.extBut _ _ (AN D.n4)<|p.extBut _ _ (AN D.n2)<|j.extBut _ _ (AN D.n3) ac;have k5:∀c o,c≠z->c≠TO->c≠I->c≠J->s.heap.get? c=some o->r.get? c=some o:=λc o g a2 a3 a4 e=>T.extBut _ _ a2<|C.extBut _ _ a4<|p.extBut _ _ a2<|j.extBut _ _ a3<|U.extBut _ _ g e;have zl:=xT z5;refine Aa (m:=Builtin.SmallTypes.ownedTupleHandOut (.ref z)<|.ref r.objs.q) ?_;refine Aa<|wpAny_setField_rec (show IsZip (r.I {cls:=.type "tuple",data:=.seq #[x,y]}) z TI TO .ellipsis from wh _ z5) 'r' λg7 z7 e7=>?_;have av:=z7;refine wpAny_setField_rec av 'r' λg8 z8 e8=>Aq {_,rfl,?_};have aL:=z8;have up:∀c o,c≠z->r.get? c=some o->g8.get? c=some o:=λc o g e=>e8.extBut _ _ g<|e7.extBut _ _ g<|wh _ e;have T8:=e8.extBut _ _ (C1 zl)<|e7.extBut _ _ (C1 zl)<|ya _ rfl;have jj:=q g8 (by rw[<-sz];exact aL) (up _ _ D.n2 a5) (al.on λo e=>up _ o D.n3<|T.extBut _ _ (AN D.n5)<|C.extBut _ _ D.n7<|p.extBut _ _ (AN D.n5) e) (au.on λo e=>up _ o D.n4<|T.extBut _ _ (AN D.n6) e)
  (by rw[<-sz];exact T8) λc o g a2 a3 a4 e=>up c o g<|k5 c o g a2 a3 a4 e
 rw[sz];exact jj
def UB{z TI TO J U:Addr}{k:Nat}{xs ys:aag}{a b:aaq}{Q:Fin->aar->Prop}(hh:A.handled=none)(D:Ib z TI TO J U l1 l2)(hz:IsZip s.v z TI TO .none)(hI:IsPair s.v TI (.ref J)<|.ref U)(hO:IsPair s.v TO a b)
 (h1:lK t1 s.v J l1 k) (h2:lK t2 s.v U l2 k) (q1:tz t1 s.v l1 xs) (q2:tz t2 s.v l2 ys) (g:xs[k]?=none\/ys[k]?=none)
 (q:∀h' e,(∀c o,c≠z->c≠TO->c≠J->c≠U->s.heap.get? c=some o->h'.get? c=some o)->(∃o,h'.x e=some o/\o.cls=.type "StopIteration")->E (.ref e) {s with heap:=h'}):
 wpAny 'w' A (Builtin.«zip.__next__» ⟨[.ref z],[]⟩) Q E s:=by
 refine Aa (m:=field (.ref z) 2)<|Bl hz rfl (x:=.bool false) rfl<|Aa (m:=field (.ref z) 3)<|Bl hz rfl (x:=.ref TI) rfl<|Aa<|BN hI rfl ?_;refine Aa (m:=Builtin.SmallTypes.ownedTupleIsFree<|.ref z) ?_;refine Aa<|Bl hz rfl (x:=.none) rfl<|Aq ?_;simp only[if_true];refine Aa<|BJ<|Aa<|Bl hz rfl (x:=.ref TO) rfl<|Aa<|wpAny_setField_rec hz 'r' λg1 z1 I=>?_;have j:=z1;refine Aa ?_;simp only[Et,List.zipIdx_nil,Dj,EM];refine Aa<|Aa<|wpAny_onRaise<|Aa (m:=Builtin.SmallTypes.nextOf<|.ref J) ?_;have p:=h1.on λo e=>I.extBut _ _ D.n3 e;have r:=q1.on λo e=>I.extBut _ _ D.n8 e;cases hx:xs[k]? with
 |none=>
  refine lK.stop hh p r hx λg2 e s2 he=>?_;obtain⟨oe,ge,ce⟩:=he;have z2:=s2 _ _ (AN D.n3) j;have nz:e≠z:=λw=>by subst w;rw[z2] at ge;cases ge;simp at ce
  exact wpAny_setField_rec z2 'r' λg3 _ s3=>q g3 e (λc o C _ a3 _ w=>s3.extBut _ _ C<|s2 _ _ a3<|I.extBut _ _ C w) {oe,s3.extBut _ _ nz ge,ce}
 |some x=>
  have hy:ys[k]?=none:=by obtain h|h:=g;rw[hx] at h;cases h;exact h
  refine lK.next p r hx λg2 a5 T=>Aq ?_;have O2:=T.extBut _ _ D.n5<|I.extBut _ _ D.n2 hO;refine Aa<|BN O2 rfl<|Aa<|wpAny_updateSeq_pair O2 λg3 O3 e3=>Aa<|wpAny_letGo<|Aq ?_;refine Aa (Aa (wpAny_onRaise (Aa (m:=Builtin.SmallTypes.nextOf<|.ref U) (lK.stop (t:=t2) (l:=l2) (i:=k) (xs:=ys) hh (h2.on λo e=>e3.extBut _ _ (AN D.n6)<|T.extBut _ _ (AN D.n7)<|I.extBut _ _ D.n4 e)
   (q2.on λo e=>e3.extBut _ _ D.n13<|T.extBut _ _ D.n14<|I.extBut _ _ D.n12 e) hy λg4 e s4 he=>?_))))
  obtain⟨oe,ge,ce⟩:=he;have z4:=s4 _ _ (AN D.n4)<|e3.extBut _ _ (AN D.n2)<|T.extBut _ _ (AN D.n3) j;have nz:e≠z:=λw=>by subst w;rw[z4] at ge;cases ge;simp at ce
  exact wpAny_setField_rec z4 'r' λg5 _ s5=>q g5 e (λc o C a2 a3 a4 w=>s5.extBut _ _ C<|s4 _ _ a4<|e3.extBut _ _ a2<|T.extBut _ _ a3<|I.extBut _ _ C w) {oe,s5.extBut _ _ nz ge,ce}
end
def Gh(t:Bool):aav:=if t then "tuple_iterator" else "list_iterator"
section
variable {w:aat}
def tz.iter{xs:aag}(I:tz t s.v l xs)(q:Q (.ref ↥s) {s with heap:=s.heap.I {cls:=.type<|Gh t,data:=.fields #[.ref l,.int 0 0]}}):wpAny 'w' A (pyIter<|.ref l) Q E s:=by cases t with|false=>exact wpAny_pyIter_list I q|true=>exact wpAny_pyIter_tuple I q
end
def lK.new(e:h.x it=some {cls:=.type<|Gh t,data:=.fields #[.ref l,.int 0 0]}):lK t h it l 0:=by cases t with|false=>exact{_,e,rfl,rfl}|true=>exact{_,e,rfl,rfl}
abbrev GN(t1:Bool)(h:aau)(l1:Addr):aau:=h.I {cls:=.type<|Gh t1,data:=.fields #[.ref l1,.int 0 0]}
abbrev GO(t1 t2:Bool)(h:aau)(l1 l2:Addr):aau:=(GN t1 h l1).I {cls:=.type<|Gh t2,data:=.fields #[.ref l2,.int 0 0]}
abbrev GP(t1 t2:Bool)(h:aau)(l1 l2:Addr):aau:=(GO t1 t2 h l1 l2).I {cls:=.type "tuple",data:=.seq #[.ref h.objs.q,.ref (GN t1 h l1).objs.size]}
abbrev GQ(t1 t2:Bool)(h:aau)(l1 l2:Addr):aau:=(GP t1 t2 h l1 l2).I {cls:=.type "tuple",data:=.seq #[.none,.none]}
abbrev FK(t1 t2:Bool)(h:aau)(l1 l2:Addr):aau:=(GQ t1 t2 h l1 l2).I {cls:=.type "zip",data:=.fields #[.none,.bool false,.bool false,.ref (GO t1 t2 h l1 l2).objs.size,.ref (GP t1 t2 h l1 l2).objs.size]}
def UC(t1 t2:Bool)(l1 l2:Addr)(xs ys:aag):Meets (Builtin.«zip.__new__» ⟨[.type "zip",.ref l1,.ref l2],[]⟩) (λ_ R s=>tz t1 s.v l1 xs/\tz t2 s.v l2 ys/\R (.ok<|.ret<|.ref (GQ t1 t2 s.v l1 l2).objs.size) {s with heap:=FK t1 t2 s.v l1 l2}):=
 .of_wp λI w A R s h=>by
  obtain⟨U,g,d,tk,os⟩:=s;obtain⟨j,l,h⟩:=h;have J:=sub_zip;have p:=j;have r:tz t2 (Shared.heap ⟨U.I {cls:=.type<|Gh t1,data:=.fields #[.ref l1,.int 0 0]},g,d,tk,os⟩) l2 ys:=l.on λo e=>wh _ e
  wp_walk using tz.iter p,tz.iter r
  exact{_,rfl,h}
def UD{w:aat}{xs ys:aag}(p:tz t1 s.v l1 xs)(r:tz t2 s.v l2 ys)
 (q:∀h',IsZip h' (↥s+4) (↥s+2) (↥s+3) .none->IsPair h' (↥s+2) (.ref ↥s) (.ref<|↥s+1)->IsPair h' (↥s+3) .none .none->
  lK t1 h' ↥s l1 0->lK t2 h' (↥s+1) l2 0->(∀c o,s.heap.x c=some o->h'.get? c=some o)->Q (.ref<|↥s+4) {s with heap:=h'}):
 wpAny 'w' A (call (.type "zip") [.ref l1,.ref l2]) Q E s:=by
 refine callType_new F.called_zip ∅ (F.typeCall_zip_2 _ _) (F.newCall_zip_2 _ _) (λobj=>F.args_object_init_3 obj _ _) F.entry_zip_new (UC t1 t2 l1 l2 xs ys) {p,r,?_};have I:(GN t1 s.v l1).objs.size=↥s+1:=Fa ..;have J:(GO t1 t2 s.v l1 l2).objs.size=↥s+2:=by rw[Fa,I]
 have U:(GP t1 t2 s.v l1 l2).objs.size=↥s+3:=by rw[Fa,J]
 have j:(GQ t1 t2 s.v l1 l2).objs.size=↥s+4:=by rw[Fa,U]
 have g:(FK t1 t2 s.v l1 l2).x (GQ t1 t2 s.v l1 l2).objs.size=some _:=ya _ rfl;have l:(FK t1 t2 s.v l1 l2).x (GP t1 t2 s.v l1 l2).objs.size=some _:=wh _<|ya _ rfl;have g3:(FK t1 t2 s.v l1 l2).x (GO t1 t2 s.v l1 l2).objs.size=some _:=wh _<|wh _<|ya _ rfl;have g2:(FK t1 t2 s.v l1 l2).x (GN t1 s.v l1).objs.size=some _:=wh _<|wh _<|wh _<|ya _ rfl;have g1:(FK t1 t2 s.v l1 l2).x ↥s=some _:=wh _<|wh _<|wh _<|wh _<|ya _ rfl;rw[J,U,j] at g;rw[I,J] at g3;rw[U] at l;rw[I] at g2;rw[j];exact{{_,g,rfl},q _ g g3 l (lK.new g1) (lK.new g2) λc o e=>wh _<|wh _<|wh _<|wh _<|wh _ e}
def Sq(t:Bool)(K:Aj)(H:Hp)(a:Addr)(xs:HT):Prop:=match t with
 |false=>bQ K H a xs
 |true=>dR K H a xs
section
variable {σ:St}
def za.seq{a:Addr}(I:'v')(h:Sq t X.K H a xs):∃eH:aaf,zw xs eH/\tz t s.v a eH.m/\xs.l<=sizeLine:=by
 cases t with
 |false=>obtain⟨eH,v,p,z⟩:=I.list h;exact{(eH),v,p.isList,z}
 |true=>obtain⟨eH,v,p,z⟩:=I.tuple h;exact{(eH),v,p,z}
def za.seq_inj{a:Addr}{ys:HT}(I:'v')(h:Sq t X.K H a xs)(h':Sq t X.K H a ys):xs=ys:=by cases t with|false=>exact I._j h h'|true=>exact I._m h h'
end
def Ic(t1 t2:Bool)(K:Aj)(a b:Addr):It:=
 ⟨λi H=>∃xs ys x y,Sq t1 K H a xs/\Sq t2 K H b ys/\xs[i]?=some x/\ys[i]?=some y,
  λi H v H'=>∃p x y,H p=none/\v=.ref p/\H'=upd H p (.tup [x,y])/\(∀xs,Sq t1 K H a xs->xs[i]?=some x)/\∀ys,Sq t2 K H b ys->ys[i]?=some y,
  λi H=>∃xs ys,Sq t1 K H a xs/\Sq t2 K H b ys/\(xs.l<=i\/ys.l<=i)⟩
def UE{P:aas}{w:aat}{K:Aj}(a b z TI TO l p:Addr)(D:Ib z TI TO l p a b)(d1:TI≠TO)(d2:TI≠l)(d3:TI≠p):
 y0 P w K (.Tuple nq x1 tp) (Ic t1 t2 K a b) [z,TI,TO,l,p] z (λi h=>IsZip h z TI TO .none/\IsPair h TI (.ref l) (.ref p)/\(∃u v,IsPair h TO u v)/\lK t1 h l a i/\lK t2 h p b i) where
 mem:='r'
 obj:=λi h ⟨U,r,⟨u,v,t⟩,h1,h2⟩ c j=>by
  simp only[Ao,BK,or_false] at j;obtain rfl|rfl|rfl|rfl|rfl:=j
  .exact{_,U,λv z=>by cases z}
  .exact{_,r,λv z=>by cases z}
  .exact{_,t,λv z=>by cases z}
  .exact h1.ob
  .exact h2.ob
 keep:=λi h h' ⟨U,r,⟨u,v,t⟩,h1,h2⟩ k=>{k z 'r' _ U,k TI 'r' _ r,{u,v,k TO 'r' _ t},h1.on λo q=>k l 'r' o q,h2.on λo q=>k p 'r' o q}
 item:=by
  intro X hP hw hK j i a2 s σ H E I hf ⟨U,r,⟨u,v,t⟩,h1,h2⟩ hg;subst hP hw hK;obtain⟨xs,ys,x,y,q1,q2,hx,hy⟩:=hg;obtain⟨a3,C,p1,_⟩:=I.seq q1;obtain⟨a4,a1,p2,_⟩:=I.seq q2;obtain⟨ux,a5,ac⟩:=C.get hx;obtain⟨uy,al,ar⟩:=a1.get hy;have hT:s.TypeIs (.ref z) "zip" := {_,U,rfl};refine Aa (wpAny_attempt (wpAny_callSpecial?_slot (name:="__next__") hT Fh (wpAny_call_entry Fh hT F.entry_zip_next
   (UA D U r t h1 h2 p1 p2 (x:=ux) (y:=uy) (~~~a5) (~~~al) λg1 gz gO au av gT gk=>Aq {.ref ↥s,rfl,wpAny_letOwnedTupleGo_zip gz λg2 aL J=>?_}) (F.args_zip_next_1 _))))
  have lz:=xT U;have ba:∀c∈[z,TI,TO,l,p],c<↥s:=λc j=>by
   simp only[Ao,BK,or_false] at j;obtain rfl|rfl|rfl|rfl|rfl:=j
   .exact lz
   .exact xT r
   .exact xT t
   .obtain⟨o,e,_⟩:=h1.ob;exact xT e
   .obtain⟨o,e,_⟩:=h2.ob;exact xT e
  have kk:∀c o,c∉[z,TI,TO,l,p]->s.heap.get? c=some o->g2.get? c=some o:=λc o g q=>by simp only[Ao,BK,or_false,not_or] at g;exact J.extBut c o g.1<|gk c o g.1 g.2.2.1 g.2.2.2.1 g.2.2.2.2 q
  have tg:=J.extBut _ _ (C1 lz) gT;refine{.ref ↥s,upd H ↥s<|.tup [x,y],?_,rfl,{_,x,y,I.KB.fresh<|Ap _,rfl,rfl,λzs hq=>by rw[I.seq_inj hq q1];exact hx,λzs hq=>by rw[I.seq_inj hq q2];exact hy},?_,λc j=>?_}
  .exact I.turnedN (t':=s.D) kk hf (Ap _) {by show 2<=sizeLine;decide,[ux,uy],.cons ac<|.cons ar .nil,{_,tg,rfl,_,rfl}}
  .exact{aL,J.extBut _ _ D.n1<|gk _ _ D.n1 d1 d2 d3 r,{_,_,J.extBut _ _ D.n2 gO},au.on λo q=>J.extBut _ _ D.n3 q,av.on λo q=>J.extBut _ _ D.n4 q}
  .rw[qp<|Bi<|ba c j];exact(hf c j).1
 done:=by
  intro X hP hw hK j i a2 s σ H E I hf ⟨U,r,⟨u,v,t⟩,h1,h2⟩ hg;subst hP hw hK;obtain⟨xs,ys,q1,q2,hl⟩:=hg;obtain⟨a3,C,p1,_⟩:=I.seq q1;obtain⟨a4,a1,p2,_⟩:=I.seq q2;have l1:=C.l;have l2:=a1.l;have hT:s.TypeIs (.ref z) "zip" := {_,U,rfl};refine Aa (wpAny_attempt (wpAny_callSpecial?_slot (name:="__next__") hT Fh (wpAny_call_entry Fh hT F.entry_zip_next
   (UB (I.ok.hd j) D U r t h1 h2 p1 p2 (by obtain h|h:=hl;exact .inl 'l';exact .inr 'l') λg1 e gk he=>?_) (F.args_zip_next_1 _))))
  obtain⟨o,ho,bb⟩:=he;refine Aa<|wpAny_isInstance (T:="StopIteration") (b:=true) {(o),ho,bb} isSubtype_stop<|Aq {rfl,?_};exact I.turnedL (t':=s.D) (fp:=[z,TI,TO,l,p]) (λc o g q=>by simp only[Ao,BK,or_false,not_or] at g;exact gk c o g.1 g.2.2.1 g.2.2.2.1 g.2.2.2.2 q) hf
 self:=λ_ _ _ _ _ ⟨U,_⟩ h=>wpAny_pyIter_zip U h
def UF(K:Aj)(ta:TA):TI:=λσ H R=>ta σ H λvs H1=>∃t1 t2 a b,vs=[.ref a,.ref b]/\(∃xs,Sq t1 K H1 a xs)/\(∃xs,Sq t2 K H1 b xs)/\R (Ic t1 t2 K a b) H1
def UG:bootBuiltins "zip"=some (.type "zip"):='z'
def UH{a b:Expr}{ta:TA}{p pos:Pos}(hg:Gl X "zip")(hm:X.mg "zip"=none)(ha:PA X [a,b] ta)(hs:starEach [a,b] X.o=[(false,eval a X.o),(false,eval b X.o)]:=by rfl)
 (U:starEach [b] X.o=[(false,eval b X.o)]:=by rfl):PI X (.Tuple nq x1 tp) (.Call (.Name "zip" p) [a,b] [] pos) (UF X.K ta):=by
 intro g s σ H R I h;refine Call_ (fS I hg hm UG (Cr (aY (ha pos g s σ H _ I h) λus J ⟨vs,H1,j,r1,q1⟩=>?_) (by rw[hs,U]) (by rw[U];rfl)));obtain⟨t1,t2,l1,l2,e,⟨xs,hx⟩,⟨ys,hy⟩,q⟩:=q1;subst e;obtain⟨u1,u2,rfl,r,t⟩:=zw.two r1;cases r;cases t;obtain⟨a5,_,C,_⟩:=j.seq hx;obtain⟨ac,_,T,_⟩:=j.seq hy;have a1:l1<↥J:=by
  cases t1 with
  |false=>obtain⟨o,e,_⟩:=C;exact xT e
  |true=>obtain⟨o,e,_⟩:=C;exact xT e
 have al:l2<↥J:=by
  cases t2 with
  |false=>obtain⟨o,e,_⟩:=T;exact xT e
  |true=>obtain⟨o,e,_⟩:=T;exact xT e
 refine UD C T λg1 gz gI gO a2 a3 gk=>?_;have I2:=j.kept (t':=J.D) gk;refine wpAny_pyIter_zip (s:={J with heap:=g1}) gz ?_;refine{_,[_,↥J+2,↥J+3,↥J,↥J+1],_,_,H1,rfl,I2,UE l1 l2 _ _ _ _ _ ?_ (yX 's') (yX 's')<|yX 's',{gz,gI,{_,_,gO},a2,a3},λc hc=>?_,q}
 .have a4:=a1;constructor<;>exact yX 's'
 .have l:↥J<=c:=by simp only[Ao,BK,or_false] at hc;obtain rfl|rfl|rfl|rfl|rfl:=hc<;>exact Fk (by simp +arith only)
  exact j.fpOk l<|j.KB.fresh l
def uR(I:qm):Y->qm->Prop
 |.ref a,L=>L a=I a
 |_,_=>True
theorem nI(L:qm):∀y:Y,uR L y L
 |.ref _=>rfl
 |.GM=>trivial
 |.bl _=>trivial
 |.int _=>trivial
 |.str _=>trivial
 |.ty _=>trivial
 |.cd _=>trivial
 |.tup _=>trivial
 |.sq _=>trivial
def KE{H1:Hp}(r:RV G H1 y v)(h:cw L1 y=some ys):∃t p,v=.ref p/\∀H L,jc H1 H->j8 G H L->uR L1 y L->∃xs,Sq t G.K H p xs/\xw G H ys xs:=by
 cases y with
 |tup I=>
  obtain⟨a,xs,e,s,q⟩:=r;cases h;exact{true,a,e,λH L t _ _=>{xs,dR.ts s t,q.ts t}}
 |sq I=>
  obtain⟨a,xs,e,s,q⟩:=r;cases h;exact{false,a,e,λH L t _ _=>{xs,(s.ts t).sq,q.ts t}}
 |ref a=>
  have e:=lM h;exact{false,a,r,λH L _ J U=>let ⟨xs,g,q⟩:=J a _<|U.trans e;⟨xs,FF g,q⟩}
 |_=>cases h
def zZ(xs ys:_T):_T:=List.zipWith (λa b=>Y.tup [a,b]) xs ys
def KG{xs:_T}(h:(zZ xs ys)[i]?=some y):∃a b,xs[i]?=some a/\ys[i]?=some b/\y=.tup [a,b]:=by
 unfold zZ at h;rw[List.getElem?_zipWith] at h;cases I:xs[i]? with
 |none=>rw[I] at h;simp at h
 |some a=>
  cases J:ys[i]? with|none=>rw[I,J] at h;simp at h|some b=>rw[I,J] at h;simp at h;exact{(a),b,rfl,rfl,h.L}
def ph(xs ys:_T):(zZ xs ys).l=min xs.l ys.l:=by simp[zZ]
def UI{a b:Addr}{xs:_T}{keep:qm->Prop}(h1:∀H L,jc H₀ H->j8 G H L->keep L->∃us,Sq t1 G.K H a us/\xw G H xs us)(h2:∀H L,jc H₀ H->j8 G H L->keep L->∃us,Sq t2 G.K H b us/\xw G H ys us):
 iy G H₀ (Ic t1 t2 G.K a b) (zZ xs ys) keep where
 go:=λi H L t I J hi=>by obtain⟨us,g,j⟩:=h1 H L t I J;obtain⟨U,l,o⟩:=h2 H L t I J;rw[ph] at hi;have l1:=j.l;have l2:=o.l;exact{us,U,us[i]' 's',U[i]' 's',g,l,Ah _,Ah _}
 yld:=λi H L x H' y t I J hy ⟨p,u,v,r,e1,e2,f1,f2⟩=>by subst e1 e2;obtain⟨us,g,j⟩:=h1 H L t I J;obtain⟨U,l,o⟩:=h2 H L t I J;obtain⟨c,d,ec,ed,rfl⟩:=KG hy;obtain⟨u',eu,ru⟩:=j.get ec;obtain⟨v',ev,rv⟩:=o.get ed;have C:=f1 us g;rw[eu] at C;cases C;have T:=f2 U l;rw[ev] at T;cases T;exact{EV r,I.skip r,p,_,rfl,dR.of zg,{_,_,rfl,ru.ts<|EV r,_,_,rfl,rv.ts<|EV r,rfl}}
 stop:=λH L t I J=>by obtain⟨us,g,j⟩:=h1 H L t I J;obtain⟨U,l,o⟩:=h2 H L t I J;have l1:=j.l;have l2:=o.l;exact{us,U,g,l,by rw[ph];lia}
def KH(ta:gJ)(τ:jm)(L:qm)(R:_T->(qm->Prop)->qm->Prop):Prop:=ta τ L λvs L1=>match vs with
 |[x,y]=>fE L1 x λxs=>fE L1 y λys=>R (zZ xs ys) (λL=>uR L1 x L/\uR L1 y L) L1
 |_=>False
def UJ{a b:Expr}{tr:gJ}{p pos:Pos}(hg:Gl X "zip")(hm:X.mg "zip"=none)(ha:QA X [a,b] tr)(hs:starEach [a,b] X.o=[(false,eval a X.o),(false,eval b X.o)]:=by rfl)
 (g:starEach [b] X.o=[(false,eval b X.o)]:=by rfl):QI X (.Tuple nq x1 tp) (.Call (.Name "zip" p) [a,b] [] pos) (KH tr):=PI._x (UH hg hm ha hs g) λσ H R τ L R3 rs U z k=>by
 refine{τ,L,_,rs,U,z,λvs j ys l t1 I o J=>?_};split at J
 .rename_i x y;obtain⟨u,v,rfl,ru,rv⟩:=o.inv2;obtain⟨xs,ex,J⟩:=kw J;obtain⟨zs,ez,J⟩:=kw J;obtain⟨r,p1,rfl,k1⟩:=KE ru ex;obtain⟨C,p2,rfl,k2⟩:=KE rv ez;obtain⟨us,s1,_⟩:=k1 j l (EU _) I<|nI _ _;obtain⟨ws,s2,_⟩:=k2 j l (EU _) I<|nI _ _;exact{r,C,p1,p2,rfl,{(us),s1},{(ws),s2},k _ j _ _ l t1 I (UI (λH L t U T=>k1 H L t U T.1) λH L t U T=>k2 H L t U T.2) J}
 .exact J.r
def jL(xs:_T)(L:qm)(Q:YK):Prop:=match xs with
 |[x]=>fE L x λys=>∀p,L p=none->Q (.ref p) (qk L p<|.lst ys)
 |_=>False
def dy :jt X (.type "list") (g_ X.g3 jL):=FC uZ λt H Q C L T U I z k=>by
 unfold jL at z;split at z
 .rename_i x;obtain⟨u,rfl,g⟩:=U.inv1;obtain⟨zs,j,z⟩:=kw z;obtain⟨p,o,e,sq,r⟩:=uk I g j;subst e;exact{p,o,rfl,sq,λl J=>k _ _ _ _ (EV J) (I.newL J r) 'o'<|z l<|I.none J}
 .exact z.r
def bT{T:aav}{tr:gJ}{p pos:Pos}{r:_T->qm->YK->Prop}(hc:jt X (.type T)<|g_ X.g3 r)(U:Gl X x)(g:X.mg x=none)(j:bootBuiltins x=some (.type T))(h:QA X (e::es) tr)
 (l:x ≠ "__name__" := by decide) (hd:Fe x:=by decide) (hs:Fb e es X:=by rfl) (o:Fc pos es X:=by rfl):
 QE X (.Call (.Name x p) (e::es) [] pos) (sJ r tr):=EW (l6 hc U g j h l hd hs o) λσ H Q t L C rs rl z k=>
 ⟨t,L,_,rs,rl,z,λvs H1 ys L1 t1 I J z1=>{ys,L1,C,J,I,z1,k.ts t1}⟩
def uc(x:Y)(vs:_T)(L:qm)(Q:YK):Prop:=match x,vs with
 |.ref a,[.int i]=>fD L a λys=>0<=i/\i<ys.l/\rQ L (λv L=>Q v<|qk L a<|.lst<|ys.eraseIdx i.B) (ys[i.B]?)
 |_,_=>False
def UK :iR X "list.pop" (i_ X.g3 uc):=λJ s l H x xs v o Q I p t ⟨y,ys,L,Q3,C,T,j,z,k⟩=>by
 unfold uc at z;split at z
 .rename_i a i;obtain⟨zs,e,h0,h1,z⟩:=v4 z;obtain⟨ws,U,r⟩:=j a _ e;obtain⟨i',rfl,ri⟩:=T.inv1;cases ri;cases g:zs[i.B]? with
  |none=>rw[g] at z;exact z.r
  |some w=>
   rw[g] at z;obtain⟨u,eu,ru⟩:=r.get g;obtain⟨_,_,_,hz⟩:=I.list<|FF U;have hl:=r.l;have hs:sizeLine<2 ^ 62:=∅
   refine SJ J s l H x _ v o Q I p t {a,ws,i,i.B,u,C,rfl,U,'s','s',?_,eu,k _ _ _ _ (E6 U) (j.setL U<|r.eraseIdx _) (ru.ts<|E6 U) z};unfold seqIndex?;rw[Az (show ¬i<0 by lia),AF 'l']
 .exact z.r
def fB{tr:gJ}(I:QE X o to)(J:QA X (e::es) tr)(U:Fs X o e es "pop" apos eT:=by exact{(rfl),rfl,rfl,rfl,rfl}):
 QE X (.Call (.Attribute o "pop" apos) (e::es) [] eT) (fg uc to tr):=uu PySem.F.slot_list_pop PySem.F.type_list_pop UK I J U
def GR(i:Int)(n d:Nat):max 0 (min (if i<0 then i+(n:Int) else i) n)=(Os n d (some i))⁻¹:=by
 simp only[Os];by_cases h:i<0
 .simp only[h,if_true]<;>lia
 .simp only[h,if_false]<;>lia
def UL(l u:aan)(n:Nat):Builtin.Str.strSliceIndices l u 1 n=(List.range<|Os n n u-Os n 0 l).y (Os n 0 l+·):=by
 have y:(n:Int)=(Os n n none)⁻¹:=rfl;cases l with
 |none=>
  cases u with
  |none=>exact sliceRange_one 0 n
  |some j=>
   show sliceRange 0 (max 0<|min (if j<0 then j+(n:Int) else j) n) 1=_;rw[GR j n n];exact sliceRange_one 0 _
 |some i=>
  cases u with
  |none=>
   show sliceRange (max 0<|min (if i<0 then i+(n:Int) else i) n) n 1=_;rw[GR i n 0];exact sliceRange_one _ n
  |some j=>
   show sliceRange (max 0<|min (if i<0 then i+(n:Int) else i) n) (max 0<|min (if j<0 then j+(n:Int) else j) n) 1=_;rw[GR i n 0,GR j n n];exact sliceRange_one _ _
def l8(x:Str)(l u:aan):(Txt.slice x l u).cps.toList=(x.cps.toList.G<|Os x.l 0 l).u (Os x.l x.l u-Os x.l 0 l):=by
 have U:x.l=x.cps.toList.l:=by simp[Str.length]
 have I:=pick_run x.cps (Os x.l 0 l)<|Os x.l x.l u-Os x.l 0 l;unfold Txt.slice;rw[UL];split
 .rename_i h;simp only[beq_self_eq_true,Bool.true_and,Ac,Bm,beq_iff_eq] at h;have h1:=sIx_le x.l 0 (A7 _) l;have h2:=sIx_le x.l x.l (Ap _) u;have J:Os x.l 0 l=0:='s'
  rw[h,J,EN,A4<|zR]
 .show(List.filterMap (λi=>x.cps[i]?) _).toArray.toList=_;rw[DP];exact I
def UM:V->aan->aan->Hp->VK->Prop:=λx lo hi H Q=>∃z,x=.str z/\z.l<=sizeLine/\Q (.str<|Txt.slice z lo hi) H
def apz:uw X UM:=by
 rintro J s σ H x v U g lo j sl Q I o p pl pu⟨z,rfl,r,q⟩;obtain⟨t,rfl⟩:=o;obtain⟨l,rfl,C⟩:∃l:Option (Int×Tok),U=partValue l/\l.y (·.1)=lo:=by cases pl with|none=>exact{(none),rfl,rfl}|int i t=>exact{some (i,t),rfl,rfl}
 obtain⟨u,rfl,T⟩:∃u:Option (Int×Tok),g=partValue u/\u.y (·.1)=j:=by cases pu with|none=>exact{(none),rfl,rfl}|int i t=>exact{some (i,t),rfl,rfl}
 subst C T;refine{"str",_,F.slot_str_getitem.e,typeIs_str _ _ _,jv I.tk<|wpAny_getItem_str_slice (l:=l) (u:=u) (st:=none) p rfl ?_};exact post_val_or_str {AQ (Txt.slice_le z _ _) r,λt' k ht=>{.str _,H,I.tok _,{(t'),rfl},q}}
def zC{zs:aai}:∀{us:aaf},zw (zs.y V.str) us->StrsAre us zs:=by
 induction zs with
 |nil=>intro us r;rw[DR] at r;cases r;exact .nil
 |cons z zs I=>
  intro us r;rw[AR] at r;cases r with
  |cons J U=>
   obtain⟨t,e⟩:=J;subst e;exact .cons z t<|I U
def UN(K:Aj):V->HT->Hp->VK->Prop:=λx vs H Q=>∃z a zs,x=.str z/\vs=[.ref a]/\bQ K H a ((zs:aai).y V.str)/\(zs.y (·.l)).sum+zs.l*z.l<=16777216/\Q (.str<|Txt.join z zs) H
def UO:iR X "str.join" (UN X.K):=by rintro J s σ H x vs v us Q I U g⟨z,a,zs,rfl,rfl,j,l,q⟩;obtain⟨t,rfl⟩:=U;obtain⟨u,rfl,o⟩:=g.one;cases o;obtain⟨C,r,p,_⟩:=I.list j;exact jv I.tk<|PyProof.Rows.join_list p.isList (~~~zC r) l λT k ht=>{.str _,H,I.tok _,{(T),rfl},q}
def KI(x:Y)(lo hi:aan)(L:qm)(Q:YK):Prop:=match x with
 |.str z=>z.length<=sizeLine/\Q (.str<|Txt.slice z lo hi) L
 |x=>J8 x lo hi L Q
def tJ(K:Aj)(P:aas)(w:aat)(U:X.K=K:=by rfl)(g:X.i=P:=by rfl)(hw:X.w=w:=by rfl):uw X (GK ⟨K,P,w⟩ KI):=by refine uw.imp (apz.or<|Ud K P w U g hw) λx lo l H Q ⟨y,L,j,I,J,z,k⟩=>?_;cases y with|str s=>exact .inl {s,I,z.1,k _ H _ L (EU _) J 'o' z.2}|_=>exact .inr {_,L,j,I,J,z,k}
def KJ(r:Y->_T->qm->YK->Prop)(to:xq)(t:gJ)(τ:jm)(L:qm)(Q:YK):Prop:=to τ L λx L1=>match x with
 |.str z=>t τ L1 λxs L2=>r (.str z) xs L2 Q
 |_=>False
def UP{tr:gJ}{id:aav}{name:Str}{r:Y->_T->qm->YK->Prop}(h2:Slot "str" name id)(h3:typeOf (.builtin id)=pure (.type "method_descriptor"))(C:iR X id<|i_ X.g3 r)(T:QE X o to)(ha:QA X (e::es) tr)
 (I:Fs X o e es name apos eT:=by exact{(rfl),rfl,rfl,rfl,rfl}):
 QE X (.Call (.Attribute o name apos) (e::es) [] eT) (KJ r to tr):=EW (JL PySem.F.plainAttrs_str h2 h3 C T ha I.h4 I.h5 I.h6 I.h7 I.h8) λσ H Q p L Q3 rs rl z k=>
 ⟨p,L,_,rs,rl,z,λv H1 y L1 t J U g=>by
  split at g
  .rename_i s;cases U;exact{rfl,p,L1,_,rs.ts t,J,g,λvs H2 ys L2 t2 j l z2=>{.str s,ys,L2,Q3,rfl,l,j,z2,k.ts<|t.trans t2}}
  .exact g.r⟩
theorem xV{G:G3}{H:Hp}:∀{zs:aai} {xs:HT},xw G H (zs.y Y.str) xs->xs=zs.y V.str
 |[],_,h=>h
 |z::r,_,⟨x,I,e,q,s⟩=>by rw[e,show x=V.str z from q,xV s];rfl
def Ie(x:Y)(vs:_T)(L:qm)(Q:YK):Prop:=match x,vs with
 |.str z,[.ref a]=>fD L a λys=>∃zs,ys=zs.y Y.str/\(zs.y (·.l)).sum+zs.l*z.l<=16777216/\Q (.str<|Txt.join z zs) L
 |_,_=>False
def UQ :iR X "str.join" (i_ X.g3 Ie):=FE UO λx p H Q y t L C U g I z k=>by
 unfold Ie at z;split at z
 .rename_i s a;obtain⟨T,e,j,rfl,l,z⟩:=v4 z;obtain⟨ws,J,r⟩:=I a _ e;obtain⟨u,rfl,o⟩:=g.inv1;cases o;rw[xV r] at J;exact{s,a,j,U,rfl,FF J,l,k _ H _ L (EU _) I 'o' z}
 .exact z.r
def UR{tr:gJ}(I:QE X o to)(J:QA X (e::es) tr)(U:Fs X o e es "join" apos eT:=by exact{(rfl),rfl,rfl,rfl,rfl}):
 QE X (.Call (.Attribute o "join" apos) (e::es) [] eT) (KJ Ie to tr):=UP PySem.F.slot_str_join PySem.F.type_str_join UQ I J U
def uN(zs:aai):(Txt.join "" zs).cps.toList=zs.h λz=>z.cps.toList:=by
 have e:∀zs:aai,(Str.join "" zs).cps.toList=zs.h λz=>z.cps.toList:=by
  intro zs
  induction zs with
  |nil=>rfl
  |cons z r I=>
   cases r with
   |nil=>simp[Str.join]
   |cons y r=>
    show(z ++ "" ++ Str.join "" (y::r)).cps.toList=_;have:(z ++ "" ++ Str.join "" (y::r)).cps=z.cps++#[]++(Str.join ""<|y::r).cps:=rfl;rw[this];simp only[Bc,I,Bo,Array.append_empty]
 exact(A8 (λx:Str=>x.cps.toList)<|StrLaws.glued_eq_join "" zs).t (e zs)
inductive i3(t u:aa)(D:v5)(τ:jm)(L:qm):Prop
 |mk:∀J:jm->qm->Prop,t {D with nx:=J} τ L->(∀τ' L',J τ' L'->u D τ' L')->i3 t u D τ L
def vm{st:Stmt}{rest:aak}{t u:aa}(h:QS X st t)(k:sg X rest u):sg X (st::rest) (i3 t u):=i7.imp (xJ h k) λD σ H ⟨o,L,j,rs,p,⟨J,z,q⟩,k⟩=>
 ⟨o,L,{j with nx:=J},rs,p,z,λr H1 I l C U g T=>{I,l,j,U,g,q I l T,k.ts C},k.rt,k.bk,k.ct⟩
abbrev X3:=jm->Addr->qm->Prop
abbrev fH:=_T->qm->YK->(Addr->qm->Prop)->Prop
def Ft(G:G3)(E3:X3):X1:=λσ c H=>∃C τ L,c=.ref C/\vf G H σ τ/\j8 G H L/\E3 τ C L
def KL(G:G3)(H:Hp)(E3:Addr->qm->Prop)(E:XK):Prop:=∀C H' L',jc H H'->j8 G H' L'->E3 C L'->E (.ref C) none H'
def US(G:G3)(sp:fH):Sp:=λvs H Q E=>∃ys L I E3,xw G H ys vs/\j8 G H L/\sp ys L I E3/\tj G H I Q/\KL G H E3 E
def uG(E3:Addr->qm->Prop):X3:=λ_ C L=>∃L2,qh L2 L/\E3 C L2
abbrev ahv(P:aas)(w:aat)(K:Aj)(mg:aac)(base:aau)(k:Nat)(f:Addr)(fd:FuncData)(ps:aai)(sp:fH):Prop:=dI P w K mg base (e_ P w) k f fd ps<|US {(K),P,w} sp
structure fk(P:aas)(w:aat)(K:Aj)(mg:aac)(base:aau)(k:Nat)(x:Str)(ps:aai)(sp:fH):Prop where
 ex:∃f fd,ahv P w K mg base k f fd ps sp/\ff K fd ps []/\PySem.W.keepIn K (.ref f)=true/\mg x=↑f
theorem fk.mono{P:aas}{w:aat}{K:Aj}{k:Nat}{sp:fH}(c:fk P w K mg base j x ps sp)(h:j<=k):fk P w K mg base k x ps sp:=by obtain⟨f,fd,F,b,I,m⟩:=c.ex;exact{f,fd,F.mono h,b,I,m}
def za.tst{σ:St}(I:'v'):jc X.H₀ H:=λa u i e=>by cases u with|tup J=>exact I.base._h a J e|_b o u=>exact I.base._i a o u e|_=>cases i
def UT{P:aas}{w:aat}{K:Aj}{N:aai}{E:XK}{E3:Addr->qm->Prop}(h:KL ⟨K,P,w⟩ H E3 E):
 cD (fU (e_ P w) P w K mg base N eK scope f cd A outer s H E) (Ft ⟨K,P,w⟩<|uG E3):=by
 intro J j g l a C tr I L ap U ⟨t,T,L',o,rs,p,L2,r,q⟩;cases o;exact Tg J j g l a C tr I L ap U<|h C g L2 (za.tst I) (p.sub r) q
def ay(sp:fH)(E3:X3)(t:gJ)(τ:jm)(L:qm)(Q:YK):Prop:=t τ L λys L1=>sp ys L1 Q<|E3 τ
def KN(C:Addr)(E3:X3)(t:gJ)(_:v5)(τ:jm)(L:qm):Prop:=t τ L λys L1=>ys.length<=1000/\E3 τ C L1
section
variable {tr:gJ}{pos:Pos}{E3:X3}
def gR{k:Nat}{sp:fH}{p:Pos}(c:fk X.i X.w X.K X.mg X.Y k x ps sp)(r:aX k X.A)(t:Gl X x)(T:cD X<|Ft X.g3 E3)(hx:X.ex=[])(ha:QA X (e::es) tr)(I:Fe x:=by decide)
 (he:Fb e es X:=by rfl) (J:Fc pos es X:=by rfl):QE X (.Call (.Name x p) (e::es) [] pos) (ay sp E3 tr):=by
 obtain⟨f,fd,F,b,kp,m⟩:=c.ex;refine EW (wP F r t m kp b T hx ha I he J) λσ H Q U L Q3 rs rl z k=>?_;exact{U,L,_,rs,rl,z,λvs H1 ys L1 o g j z1=>{ys,L1,Q3,E3 U,j,g,z1,k.ts o,λC H' L' t' l q=>{C,U,L',rfl,rs.ts<|o.trans t',l,q}}}
def UU(c:F8 X.K C)(l:Gl X x)(o:X.mg x=↑C)(hc:X.calm=true)(p:cD X<|Ft X.g3 E3)(r:X.ex=[])(t:QA X (e::es) tr)(I:Fe x:=by decide)
 (T:Fb e es X:=by rfl) (J:Fc eT es X:=by rfl):
 QS X (.Raise (some<|.Call (.Name x np) (e::es) [] eT) none pos) (KN C E3 tr):=E5 (Tj c l o hc p r t I T J) λD σ H j L D3 rs rl z k=>
 ⟨j,L,_,rs,rl,z,λvs H1 ys L1 t1 U g ⟨hl,z1⟩=>{small (by rw[<-g.l];exact hl),C,j,L1,rfl,rs.ts t1,U,z1}⟩
end
def KO{P:aas}{w:aat}{K:Aj}{st:Stmt}{N:aai}{k:Nat}{sp:fH}{t:X3->aa}(F:Fun K x eK st f fd)(S:aT N ps<|z9 st)(len:∀ys L Q E,sp ys L Q E->ys.length=ps.l)
 (I:∀(eS:aaq) (A:Around) (outer:List Env) (s:aar) (H:Hp) (E:XK) (E3:X3),aX k (A.deeper<|PyProof.Rows.envOfC eK 'e' ↥s f eS)->
  cD (fU (e_ P w) P w K mg base N eK 'e' f eS A outer s H E) (Ft ⟨K,P,w⟩ E3)->sg (fU (e_ P w) P w K mg base N eK 'e' f eS A outer s H E) (xj st) (t E3))
 (vc:∀ys L Q E,sp ys L Q E->t (uG E) {nx:=λ_ L'=>aR Q .GM L',rt:=aR Q} (gY N ys) L):ahv P w K mg base (k+1) f fd ps sp:=by
 obtain⟨oc,od,kV,a1,pm,an,eS,ct,a2,rfl,lk,U⟩:=F.ex;refine Hw lk U S (λvs H Q E ⟨ys,L,g,E3,j,T,z,_⟩=>by rw[<-j.l];exact len ys L g E3 z) λA outer s H vs Q E hr ⟨ys,L,g,E3,j,T,z,k,kx⟩=>?_;refine{_,I eS A outer s H E (uG E3) hr<|UT kx,gY N ys,L,_,lQ j,T,vc ys L g E3 z,?_};exact{λσ l τ L' o a3 J ⟨L2,p,r⟩=>k .GM l .GM L2 o (J.sub p) 'o' r,λv l y L' o J C ⟨L2,p,r⟩=>k v l y L2 o (J.sub p) C r,λ_ _ _ _ _ _ _ z=>z.elim,λ_ _ _ _ _ _ _ z=>z.elim}
def top(i:Nat):Stmt:=PySem.Challenge.pw_oncewise_k22_spoilt_trees.main.body.getD i<|.Pass {0,0,0,0}
abbrev sW:Stmt:=top 15
abbrev xZ:Stmt:=top 16
abbrev tO:Stmt:=top 18
abbrev jX:Stmt:=top 19
abbrev gN:Stmt:=top 20
abbrev rP:Stmt:=top 21
abbrev rA:Stmt:=top 22
abbrev nL:Stmt:=top 23
abbrev nJ:Stmt:=top 24
abbrev mW:Stmt:=top 25
abbrev ss:Stmt:=top 26
abbrev jV:Stmt:=top 27
abbrev vS:Stmt:=top 28
abbrev mO:Stmt:=top 31
abbrev sk:Stmt:=top 32
abbrev rH:Stmt:=top 33
abbrev tD:Stmt:=top 34
abbrev pM:Stmt:=top 35
abbrev UV:Stmt:=top 36
abbrev UW:Stmt:=top 37
abbrev io:Stmt:=top 38
abbrev KP:Stmt:=top 39
abbrev qO:Stmt:=top 40
abbrev qW:Stmt:=top 42
abbrev nK:Stmt:=top 43
abbrev mV:Stmt:=top 44
abbrev mR:Stmt:=top 45
abbrev i0:Stmt:=top 46
abbrev r6:Stmt:=top 47
abbrev nW:Stmt:=top 48
abbrev nE:Stmt:=top 49
abbrev yZ:Stmt:=top 50
abbrev _d:Stmt:=top 51
abbrev lI:Stmt:=top 52
abbrev o3:Stmt:=top 53
abbrev m6:Stmt:=top 54
abbrev nG:Stmt:=top 55
abbrev fj:Stmt:=top 56
abbrev vZ:Stmt:=top 57
abbrev cL:Stmt:=top 58
abbrev dE:Stmt:=top 59
abbrev gy:Stmt:=top 60
abbrev dS:Stmt:=top 61
abbrev dJ:Stmt:=top 62
abbrev cJ:Stmt:=top 63
abbrev re:Stmt:=top 64
abbrev gv:Stmt:=top 65
abbrev mJ:Stmt:=top 66
abbrev iP:Stmt:=top 67
abbrev o8:Stmt:=top 68
abbrev yJ:Stmt:=top 69
structure V_ where
 (P:aas) (w:aat) (K:Aj) (mg:aac) (base:aau) (Pt:Addr) (Ca Ce Ci Cg Cf Ck Ch Cj Cl Cc Cd:Addr)
structure B0_(V:V_):Prop where
 bn:V.mg "enumerate"=none
 ba:V.mg "len"=none
 b_set:V.mg "set"=none
 bi:V.mg "all"=none
 bf:V.mg "range"=none
 b_any:V.mg "any"=none
 bg:V.mg "list"=none
 br:V.mg "zip"=none
 bp:V.mg "max"=none
 bq:V.mg "sorted"=none
 b_min:V.mg "min"=none
 bh:V.mg "isinstance"=none
 b_int:V.mg "int"=none
 b_tuple:V.mg "tuple"=none
 bj:V.mg "abs"=none
 b_ValueError:V.mg "ValueError"=none
 zA8:H9 ⟨V.K,V.P,V.w⟩ V.mg "LEAF_KINDS" rg
 zA0:H9 ⟨V.K,V.P,V.w⟩ V.mg "TURNED_KINDS" nv
 zA1:J2 ⟨V.K,V.P,V.w⟩ V.mg "PLACE_COUNTS" ny
abbrev Q_(V:V_)(k:Nat)(x:Str)(ps:aai)(sp:vh):Prop:=HX V.P V.w V.K V.mg V.Y k x ps sp
def I_{a b:Expr}{pos:Pos}(I:QE X a ta)(J:QE X b tb)(U:iL b:=by exactλ_ _=>rfl):QE X (.Subscript a b pos) (zx aO ta tb):=TX (HV X.K X.i X.w) I J U
def jz{t:xq}(h:QE X e t)(s:starEach [e] X.o=[(false,eval e X.o)]:=by rfl):QA X [e] (qi t zk):=jl h vj s
def vo{f:Expr}{t u:xq}(h:QE X e t)(g:QE X f u)(s:starEach [e,f] X.o=[(false,eval e X.o),(false,eval f X.o)]:=by rfl)(r:starEach [f] X.o=[(false,eval f X.o)]:=by rfl):QA X [e,f] (qi t<|qi u zk):=jl h (jz g r) (by show _=_;rw[s,r])
def aI{f d:Expr}{t u v:xq}(h:QE X e t)(g:QE X f u)(i:QE X d v)(s:starEach [e,f,d] X.o=[(false,eval e X.o),(false,eval f X.o),(false,eval d X.o)]:=by rfl)(r:starEach [f,d] X.o=[(false,eval f X.o),(false,eval d X.o)]:=by rfl)(q:starEach [d] X.o=[(false,eval d X.o)]:=by rfl):QA X [e,f,d] (qi t<|qi u<|qi v zk):=jl h (vo g i r q) (by show _=_;rw[s,r])
def E_{a b:Expr}{pos:Pos}(I:X.A.units+128<cLine)(J:QE X a ta)(U:QE X b tb):QT X (.Compare a [.Eq] [b] pos) (yB<|zx (f_ false) ta tb):=xb (sQ X.K X.i X.w I) J U<|vz _
def N_{a b:Expr}{pos:Pos}(I:X.A.units+128<cLine)(J:QE X a ta)(U:QE X b tb):QT X (.Compare a [.NotEq] [b] pos) (yB<|zx (f_ true) ta tb):=xb (Ua X.K X.i X.w I) J U<|vz _
def S_{pos:Pos}(i:Nat)(hN:X.N.c)(h:QE X e te)(I:X.N[i]?=some x:=by rfl)(g:Loc X.env.scope x:=by exact Or.inl rfl)(J:swapsWith e (some<|.Name x fx) pos.line X.o=pure false:=by rfl)(U:X.fn x=true\/X.env.scope.names.e x=some .local:=by first|exact .inl rfl|exact .inr rfl|assumption):QS X (.Assign [.Name x fx] e pos) (jx te<|ql i):=fZ (i:=i) hN I g h J U
def G_{pos:Pos}(i:Nat)(hN:X.N.c)(I:X.N[i]?=some x:=by rfl)(U:Loc X.env.scope x:=by exact Or.inl rfl)(J:X.fn x=true\/X.env.scope.names.e x=some .local:=by first|exact .inl rfl|exact .inr rfl|assumption):QG X (.Name x pos) (ql i):=df (i:=i) hN I U J
def C_{tr:gJ}{pos p:Pos}{k:Nat}{sp:vh}(c:HX X.i X.w X.K X.mg X.Y j x ps sp)(U:aX k X.A)(g:QA X (e::es) tr)(l:j<=k:=by first|decide|exact Ap _|exact AQ ∅<|EH _ _)(o:Gl X x:=by rfl)(I:Fe x:=by decide)(r:Fb e es X:=by rfl)(J:Fc pos es X:=by rfl):QE X (.Call (.Name x p) (e::es) [] pos) (jg sp tr):=Ui (Cal.mono c l) U o g I r J
def J_{n:Int}{k:Nat}{p q pos:Pos}(i:Nat)(hN:X.N[i]?=some x:=by rfl)(I:Fv X.env.scope x:=by first|exact Or.inl rfl|exact Or.inr (Or.inl rfl)|exact Or.inr<|Or.inr rfl)(hd:Fe x:=by decide)(hc:Ff x:=by decide):QE X (.Subscript (.Name x p) (.Constant (.int n) k q) pos) (zx aO (qf i)<|yC<|.int n):=I_ (qv i hN I hd hc) qc λ_ _=>rfl
def L_{t:xq}{p pos:Pos}(I:X.mg "len"=none)(h:QE X e t)(s:starEach [e] X.o=[(false,eval e X.o)]:=by rfl)(J:Gl X "len" := by rfl):QE X (.Call (.Name "len" p) [e] [] pos) (sJ sD<|qi t zk):=kj (TY X.K X.i X.w) J I yq (jz h s) (hs:=s)
def b_{l:aai}(h:decide l.c=true:=by kernel_rfl):l.c:=of_decide_eq_true h
abbrev Gi(V:V_):=Q_ V 1 "is_leaf" ["word"]
abbrev Ig(V:V_):=Q_ V 122 "turned" ["word"]
abbrev KQ(V:V_):=Q_ V 122 "word_at" ["knots","place"]
abbrev KR(V:V_):=Q_ V 2 "holds_leaf" ["knot"]
abbrev UX(V:V_):=Q_ V 1 "places_there" ["knots"]
abbrev GS(V:V_):=Q_ V 2 "parts_of" ["knot"]
abbrev KS(V:V_):=Q_ V 3 "parts_in" ["knots"]
abbrev KU(V:V_):=Q_ V 1 "each_once" ["places"]
abbrev KY(V:V_):=Q_ V 3 "parts_fit" ["knots","place"]
abbrev UY(V:V_):=Q_ V 4 "are_knots" ["knots"]
abbrev KZ(V:V_):=Q_ V 123 "is_link" ["knots","p","q"]
abbrev K2(V:V_):=Q_ V 4 "can_be_cut" ["knots","place"]
abbrev K3(V:V_):=Q_ V 123 "is_cut" ["knots","p","q"]
abbrev K4(V:V_):=Q_ V 1 "places_of" ["rule"]
abbrev K5(V:V_):=Q_ V 1 "arms_of" ["rule"]
abbrev UZ(V:V_):=Q_ V 122 "rules_in" ["rule"]
abbrev U0(V:V_):=Q_ V 2 "told_by" ["rule"]
abbrev U3(V:V_):=Q_ V 3 "taken_by" ["knots","rule"]
abbrev U4(V:V_):=fk V.P V.w V.K V.mg V.Y 1 "demand" ["holds","words"]
abbrev U5(V:V_):=fk V.P V.w V.K V.mg V.Y 124 "ends_by" ["knots","rule"]
abbrev U6(V:V_):=fk V.P V.w V.K V.mg V.Y 3 "demand_told_once" ["knots","rule"]
abbrev U7(V:V_):=Q_ V 124 "fits" ["knots","rule"]
abbrev U8(V:V_):=fk V.P V.w V.K V.mg V.Y 125 "checked_tree" ["tree"]
abbrev K6(V:V_):=Q_ V 1 "_law_mix" ["_law_cell","_law_k","_law_factor"]
abbrev K7(V:V_):=Q_ V 1 "_law_name" ["_law_seed","_law_which"]
abbrev U9(V:V_):=Q_ V 121 "_law_word" ["_law_knots","_law_p"]
abbrev U_(V:V_):=Q_ V 121 "_law_flip" ["_law_word_here"]
abbrev Va(V:V_):=Q_ V 121 "_law_weight" ["_law_word_here"]
abbrev Vb(V:V_):=Q_ V 127 "_law_mirror" ["_law_knots","_law_word_here"]
abbrev K8(V:V_):=Q_ V 1 "_law_join" ["_law_knots","_law_forest","_law_one","_law_two"]
abbrev K9(V:V_):=Q_ V 1 "_law_fold" ["_law_knots","_law_tree_here","_law_one","_law_two"]
abbrev K_(V:V_):=Q_ V 128 "_law_cut" ["_law_knots","_law_forest","_law_one","_law_two"]
abbrev Vc(V:V_):=Q_ V 2 "_law_order" ["_law_knots","_law_seed"]
abbrev Vd(V:V_):=Q_ V 121 "_law_moved" ["_law_rule","_law_at"]
abbrev K'(V:V_):=Q_ V 122 "_law_renamed" ["_law_knots","_law_rule","_law_seed"]
abbrev Ve(V:V_):=Q_ V 129 "_law_tree" ["_law_cells","_law_seed","_law_room"]
abbrev alt(V:V_):=Q_ V 1 "_law_arms" ["_law_rule"]
abbrev Ih(V:V_):=Q_ V 2 "_law_gathered" ["_law_rule"]
abbrev La(V:V_):=Q_ V 1 "_law_free" ["_law_knots","_law_cuts"]
abbrev Lb(V:V_):=Q_ V 1 "_law_other_number" ["_law_rule","_law_far"]
abbrev Ld(V:V_):=Q_ V 2 "_law_spoilt_rule" ["_law_rule","_law_way","_law_far"]
abbrev Vf(V:V_):=Q_ V 123 "_law_changed" ["_law_rule","_law_number","_law_way","_law_far"]
abbrev Vg(V:V_):=Q_ V 1 "_law_other_leaf" ["_law_knot","_law_far"]
abbrev Vh(V:V_):=Q_ V 1 "_law_other_parts" ["_law_knot","_law_p","_law_far"]
abbrev Vi(V:V_):=Q_ V 3 "_law_name_changed" ["_law_knots","_law_rule","_law_far"]
abbrev Vj(V:V_):=Q_ V 1 "_law_shared" ["_law_knots","_law_cuts","_law_far"]
abbrev Vk(V:V_):=Q_ V 3 "_law_doubled" ["_law_knots","_law_rule","_law_far"]
abbrev Vl(V:V_):=Q_ V 122 "_law_backwards" ["_law_knots","_law_rule"]
abbrev Vm(V:V_):=Q_ V 4 "_law_spoilt_knots" ["_law_knots","_law_rule","_law_way","_law_far"]
abbrev Vn(V:V_):=Q_ V 126 "_law_refused" ["_law_knots","_law_rule"]
abbrev Gj(V:V_)(k:Nat)(N:aai)(x:Str)(st:Stmt)(f:Addr)(t:aa):Prop:=∀(eS:aaq) (A:Around) (outer:List Env) (s:aar) (H:Hp) (E:XK),aX k (A.deeper<|PyProof.Rows.envOfC x 'e' ↥s f eS)->N.Nodup->(A.deeper<|PyProof.Rows.envOfC x 'e' ↥s f eS).units+128<cLine->sg (fU CX0 V.P V.w V.K V.mg V.Y N x 'e' f eS A outer s H E).nox (xj st) t
abbrev Gk(x:Str)(st:Stmt)(ps:aai):Prop:=∀(kV hQ pm:aaq) (an:Option Addr) (eS ct:aaq) (us:aaf),us.l=ps.l->bindArgs (PySem.W.fnOf x x (ww st) (xj st) 'e' .none kV hQ pm an eS ct) ⟨us,[]⟩=pure (ps.zip us)
abbrev RD(x:Str)(st:Stmt)(k:Nat)(N:aai)(h:V_->Prop):=PSigma λt:aa=>∀V:V_,B0_ V->h V->∀f:Addr,Gj V k N x st f t
abbrev RR(x:Str)(st:Stmt)(k:Nat)(ps N:aai)(p:vh)(h:V_->Prop):=PSigma λt:aa=>∀V:V_,B0_ V->h V->∀(n:Nat) (f:Addr),Q_ V (n+k) x ps p->Gj V (n+k) N x st f t
def vL{p:Pos}(i:Nat)(hi:X.N.l=i:=by rfl)(hN:(X.N++[x]).c:=by exact b_)(J:∀C fp s₀ H₀,Loc (X.comp scope [x] C fp s₀ H₀).env.scope x:=by exactλ_ _ _ _=>Or.inl rfl)(I:∀C fp s₀ H₀,(X.comp scope [x] C fp s₀ H₀).env.scope.names.lookup x=some .local:=by exactλ_ _ _ _=>rfl):Fq X scope [x] (.Name x p) (ql i):=hi▸aD hN J I
def Vo{y:Str}{p I pt:Pos}(i:Nat)(hi:X.N.l=i:=by rfl)(hc:X.calm=true:=by rfl)(hN:(X.N++[x,y]).c:=by exact b_)(U:∀C fp s₀ H₀,(X.comp scope [x,y] C fp s₀ H₀).env.scope.names.lookup x=some .local:=by exactλ_ _ _ _=>rfl)(J:∀C fp s₀ H₀,(X.comp scope [x,y] C fp s₀ H₀).env.scope.names.lookup y=some .local:=by exactλ_ _ _ _=>rfl)(h1:∀env,(assignEach [.Name x p,.Name y I] env).l=2:=by intro _;rfl)(h2:∀env,(assignEach [.Name x p,.Name y I] env).findIdx? (·.1)=none:=by intro _;rfl)(h3:∀env,(assignEach [.Name x p,.Name y I] env).y (·.2)=assign (.Name x p) env::(assignEach [.Name y I] env).y (·.2):=by intro _;rfl)(g:∀env,(assignEach [.Name y I] env).y (·.2)=assign (.Name y I) env::(assignEach [] env).y (·.2):=by intro _;rfl):Fq X scope [x,y] (.Tuple [.Name x p,.Name y I] kt pt) (dY 2<|jy (ql i)<|jy (ql<|i+1) cK):=hi▸Uh hc hN U J h1 h2 h3 g
def Fu:jm->Nat->jm
 |[],_=>[]
 |_::r,0=>none::r
 |o::r,i+1=>o::Fu r i
theorem Lf:∀(τ:jm) (i:Nat),Fu τ i=τ.O i none
 |[],_=>rfl
 |_::_,0=>rfl
 |o::r,i+1=>by rw[Fu,Lf r i];rfl
def vf.clr{σ:St}(h:vf G H σ τ)(i:Nat):vf G H (σ.O i none) (Fu τ i):=by
 rw[Lf];refine{~~~h.len,λj y e=>?_};by_cases I:i=j
 .subst I;rw[List.getElem?_set] at e;simp at e
 .rw[AX I] at e ⊢;exact h.get j y e
def Lg(i:Nat)(D:v5):v5 where
 nx:=λτ L=>D.nx (Fu τ i) L
 rt:=D.rt
 bk:=λτ L=>D.bk (Fu τ i) L
 ct:=λτ L=>D.ct (Fu τ i) L
def Vp(G:G3)(H:Hp)(E3:X3)(E1:X1):Prop:=∀fy C H' I L',jc H H'->vf G H' fy I->j8 G H' L'->E3 I C L'->E1 fy (.ref C) H'
def Lh(G:G3)(t:X3->aa):X1->TS:=λE1 D σ H=>∃τ L I E3,vf G H σ τ/\j8 G H L/\t E3 I τ L/\zX G H I D/\Vp G H E3 E1
def QB(X:Cx)(body:aak)(t:X3->aa):Prop:=∀(pn:List<|Addr×Obj) (xe:aaa) (E1:X1),cD (X.tr pn xe) E1->i7 (X.tr pn xe) body (Lh X.g3 t E1)
def Li(K:Aj)(J:Addr)(i:Nat)(tb:X3->aa)(th:aa)(D:v5)(τ:jm)(L:qm):Prop:=
 tb (λI C L'=>PySem.W.exmOne K (.ref C) (.ref J)=some true/\∀a,L' a=none->th (Lg i D) (iQ I i<|.ref a) (qk L' a<|.exc C)) D τ L
section
variable {tr:gJ}{pos cp:Pos}
def Vq{k:Nat}{sp:fH}{p:Pos}(c:fk X.i X.w X.K X.mg X.Y k x ps sp)(hr:aX k X.A)(hg:Gl X x)(hx:X.ex=[])(ha:∀pn xe,QA (X.tr pn xe) (e::es) tr)(J:Fe x:=by decide)
 (he:Fb e es X:=by rfl) (U:Fc cp es X:=by rfl) (hs:swapsWith (.Call (.Name x p) (e::es) [] cp) none pos.line X.o=pure false:=by rfl):
 QB X [.Expr (.Call (.Name x p) (e::es) [] cp) pos] (λE3=>jo<|ay sp E3 tr):=by
 obtain⟨f,fd,F,b,kp,m⟩:=c.ex;intro pn xe E1 ht;refine i7.imp (Jl<|Jm (wP (X:=X.tr pn xe) F hr hg m kp b ht hx (ha pn xe) J he U) hs) λD σ H ⟨g,L,D3,E3,rs,rl,z,k,kx⟩=>?_;exact{g,L,_,rs,rl,z,λvs H1 ys L1 I j l z1=>{ys,L1,_,E3 g,l,j,z1,(λv H2 y L2 t o a1 z2=>k.nx _ H2 _ L2 (I.t t) (rs.ts<|I.trans t) o z2),λC H' L' T r q=>kx σ C H' g L' (I.t T) (rs.ts<|I.trans T) r q}}
def Vr{Dc:Addr}{n:Str}{j:Pos}{I:aak}{g:Stmt}{tb:X3->aa}{th:aa}(hs:X.p=X.o::X.outer)(hf:X.env.frame=some X.env.M)(hx:X.ex=[])(hN:X.N.c)(hi:X.N[i]?=some n)
 (hk:X.env.scope.names.e n=some .local) (hg:Gl X x) (hm:X.mg x=↑Dc) (hb:QB X body tb) (hh:∀a,sg (X.hnd a) (g::I) th)
 (a1:Fe x:=by decide):QS X (.Try body [.ExceptHandler (some<|.Name x np) (some n) (g::I) j] [] [] pos) (Li X.K Dc i tb th):=
 PS.imp (Ts (tb:=Lh X.g3 tb) (th:=F9 X.g3 th) hs hf hx hN hi hk hg hm hb hh a1) λD σ H ⟨τ,L,D3,rs,rl,z,k⟩=>by
 refine{τ,L,D3,_,rs,rl,z,k,λa4 C H' a2 L' t' a3 l ⟨em,q⟩=>{C,rfl,em,λa oe ha hc=>?_}};have ta:jc H' (upd H' a<|._b oe<|.own 0):=EV ha;refine{iQ a2 i<|.ref a,qk L' a<|.exc C,Lg i D3,by rw[bP];exact(a3.ts ta).O rfl,λb u e=>?_,q a<|l.none ha,?_}
 .by_cases c:b=a
  .subst c;rw[q9] at e;cases e;exact{(oe),zg,hc}
  .rw[qe c] at e;exact(l b u e).keep ta (qp c)
 .have k2:=k.ts<|t'.trans ta;exact{λo p r L2 t J U T=>k2.nx _ p _ L2 t (J.clr i) U T,k2.rt,λo p r L2 t J U T=>k2.bk _ p _ L2 t (J.clr i) U T,λo p r L2 t J U T=>k2.ct _ p _ L2 t (J.clr i) U T}
end
@[irreducible] def af3 (L:qm) (a:Addr) (k:Addr->Prop):Prop:=match L a with
 |some (.exc C)=>k C
 |_=>False
def oQ{a:Addr}{k:Addr->Prop}(e:L a=some (.exc C))(h:k C):af3 L a k:=by unfold af3;rw[e];exact h
def wS{a:Addr}{k:Addr->Prop}(h:af3 L a k):∃C,L a=some (.exc C)/\k C:=by
 unfold af3 at h;split at h
 .rename_i C e;exact{(C),e,h}
 .exact h.r
def yo(K:Aj)(u:aaq)(te:xq)(τ:jm)(L:qm)(Q:YK):Prop:=te τ L λx L1=>match x with
 |.ref a=>af3 L1 a λC=>Fm K C/\∃b,PySem.W.kitOne K (.ref C) u=some b/\Q (.bl b) L1
 |_=>False
def u9(K:Aj)(us:aaf)(te:xq)(τ:jm)(L:qm)(Q:YK):Prop:=te τ L λx L1=>match x with
 |.ref a=>af3 L1 a λC=>Fm K C/\∃b,PySem.W.kitAny K (.ref C) us=some b/\Q (.bl b) L1
 |_=>False
def GU(X:Cx)(es:aaj)(vs:HT):Prop:=PA X es λ_ H Q=>Q vs H
section
variable {a:Expr}{pos p pt:Pos}
def Lj:GU X [] []:=gH
def am(h:PE X e<|tC v)(t:GU X es vs)(hs:Fb e es X:=by rfl):GU X (e::es) (v::vs):=PA.imp (af h t hs) λ_ _ _ q=>q
def dt(I:Gl X x)(J:X.mg x=↑C)(hd:Fe x:=by decide):PE X (.Name x p) (tC<|.ref C):=JW I J hd
def xK(j:Gl X "isinstance")(l:X.mg "isinstance"=none)(o:QE X a ta)(hc:PE X c<|tC v)(r:FH v=some u)
 (hs:starEach [a,c] X.o=(false,eval a X.o)::starEach [c] X.o:=by rfl) (J:starEach [c] X.o=(false,eval c X.o)::starEach [] X.o:=by rfl) (t:(backTo pos<|starEach [c] X.o).any (·.1)=false:=by rfl):
 QE X (.Call (.Name "isinstance" p) [a,c] [] pos) (yo X.K u ta):=by
 refine E9 (jT o6 j l dq (af o (af hc gH J) hs) ∅ ∅ hs t) ?_;rintro σ H Q ⟨T,L,Q3,rs,rl,z,k⟩;refine{T,L,_,rs,rl,z,λw H1 y L1 t1 I U g=>?_};cases y with
 |ref b=>
  obtain⟨C,e,hd,bb,kk,q⟩:=wS g;cases U;exact{b,C,v,rfl,I b _ e,hd,.inl {u,bb,r,kk,k _ H1 _ L1 t1 I 'o' q}}
 |_=>exact g.r
def sS(t:Gl X "isinstance")(T:X.mg "isinstance"=none)(ha:QE X a ta)(hc:GU X es vs)(hv:vs.y FH=us.y some)(hl:vs.l<=1000)
 (hs:starEach [a,.Tuple es kt pt] X.o=(false,eval a X.o)::starEach [.Tuple es kt pt] X.o:=by rfl) (J:starEach [.Tuple es kt pt] X.o=(false,eval (.Tuple es kt pt) X.o)::starEach [] X.o:=by rfl) (hp:(backTo pos<|starEach [.Tuple es kt pt] X.o).any (·.1)=false:=by rfl):
 QE X (.Call (.Name "isinstance" p) [a,.Tuple es kt pt] [] pos) (u9 X.K us ta):=by
 refine E9 (jT o6 t T dq (af ha (af (Jz hc) gH J) hs) ∅ ∅ hs hp) ?_;rintro σ H Q ⟨τ,L,Q3,rs,rl,z,k⟩;refine{τ,L,_,rs,rl,z,λw U y L1 t1 I g l=>{small hl,λq o=>?_}};cases y with
 |ref b=>
  obtain⟨C,e,hd,bb,kk,z2⟩:=wS l;cases g;have r:jc U (upd U q<|.tup vs):=EV o;obtain⟨oe,ho,j⟩:=(I b _ e:HH X.K U b C);refine{b,C,.ref q,rfl,{oe,r _ _ rfl ho,j},hd,.inr {q,vs,us,bb,rfl,.inl<|.inl zg,hv,kk,k _ _ _ L1 (t1.t r) (I.skip o) 'o' z2}}
 |_=>exact l.r
end
def Ii:X3:=λ_ _ _=>False
def Lk :cD X (Ft X.g3 Ii):=λ_ _ _ _ _ _ _ _ _ _ _ ⟨_,_,_,_,_,_,z⟩=>z.elim
def rc:bootBuiltins "ValueError"=some (.type "ValueError"):='z'
section
open PySem.W
def zS{K:Frag}(q:excIn K C [.type "ValueError",.type "Exception",.type "BaseException",.type "object"] "ValueError.__new__"=true):F8 K C:=Th q Eb 'z' Eb
section
variable {K:Frag}{D:Addr}{t c:aaq}{b:Bool}
def _a{cd:ClassData}(ne:(Value.ref C==Value.ref D)=false)(h1:clsIn K D=some cd)(h2:typeIn K (.ref D)=some (.type "type"))(h3:subIn K (.ref C) (.ref D)=some b):kitOne K (.ref C) (.ref D)=some b:=by unfold kitOne;rw[Az ([ne]≈AI)];unfold kitCls;simp only[h1,h2,DY,beq_self_eq_true,Bool.and_self,if_true];exact h3
def kit_self:kitOne K (.ref C) (.ref C)=some true:=by unfold kitOne;rw[AF<|beq_self_eq_true _]
def kit_blt{T:aav}(I:kitMeta T=true)(h3:subIn K (.ref C) (.type T)=some b):kitOne K (.ref C) (.type T)=some b:=by unfold kitOne;rw[Az (by intro q;cases beq_iff_eq.j q)];unfold kitCls;simp only[I,if_true];exact h3
def Pv{r:aaf}(h:kitOne K t c=some false)(k:kitAny K t r=some b):kitAny K t (c::r)=some b:=by unfold kitAny;rw[h];exact k
def exm_own{cd:ClassData}(h0:subIn K (.ref D) (.type "BaseException")=some true)(h1:clsIn K D=some cd)(h2:typeIn K (.ref D)=some (.type "type"))(h3:subIn K (.ref C) (.ref D)=some b):exmOne K (.ref C) (.ref D)=some b:=by unfold exmOne;rw[AF (by rw[h0];rfl)];unfold kitCls;simp only[h1,h2,DY,beq_self_eq_true,Bool.and_self,if_true];exact h3
def xhd_of{cd:ClassData}(ga:findIn K (.ref C) "__getattribute__"=some (some<|.builtin "BaseException.__getattribute__"))(gt:findIn K (.ref C) "__getattr__"=some none)(cl:findIn K (.ref C) "__class__"=some (some<|.builtin "object.__class__"))
 (ge:specialIn K (.builtin "object.__class__") "__get__"=some (some<|.builtin "getset_descriptor.__get__")) (tk:takesIn K (.builtin "object.__class__")=some true) (mo:mroIn K C (.type "object")=some true) (be:subIn K (.ref C) (.type "BaseException")=some true) (h:clsIn K C=some cd):Fm K C:=
 ⟨⟨ga,gt,cl,ge,tk,mo,be⟩,by rw[h];rfl⟩
end
end
def PCh(X:Cx)(ops:List CmpOp)(es:aaj)(t:V->TE):Prop:=∀(pos:Pos) (pins:List<|Addr×Obj) (s:aar) (σ:St) (H:Hp) (x:V) (v:aaq) (Q:VK),'v'->j9 x v->t x σ H Q->_S X (compareChain pos v ops<|evalEach es X.o) 'd' X.xe s
def mE(X:Cx)(ops:List CmpOp)(es:aaj)(t:V->TE):Prop:=∀(pos:Pos) (pins:List<|Addr×Obj) (s:aar) (σ:St) (H:Hp) (x:V) (v:aaq) (Q:Bool->Hp->Prop),'v'->j9 x v->(t x σ H λz H'=>∃k,z=.bl k/\Q k H')->_S X (testChain pos v ops<|evalEach es X.o) (TP X pins σ Q) X.xe s
def Ij(r:R2)(tb:TE):V->TE:=λx σ H Q=>tb σ H λy H1=>r x y H1 Q
def Ik(r:R2)(tb:TE)(u:V->TE):V->TE:=λx σ H Q=>tb σ H λy H1=>r x y H1 λz H2=>∃k,z=.bl k/\(if k=true then u y σ H2 Q else Q (.bl false) H2)
section
variable {a b:Expr}{ta tb:TE}{op oi:CmpOp}{ops:List CmpOp}{r:R2}{u:V->TE}{pos:Pos}
def Vs(g:kz X (compareOp op) r)(j:PE X b tb):PCh X [op] [b] (Ij r tb):=by intro pos J s U H x v Q I l h;exact chain_last<|aY (j J s U H _ I h) λo p ⟨y,t,C,T,q1⟩=>g J p U t x y v o Q C l T q1
def Vt(t:kz X (compareOp op) r)(C:PE X b tb)(T:PCh X (oi::ops) (c::es) u):PCh X (op::oi::ops) (b::c::es) (Ik r tb u):=by intro pos J s U H x v Q I rx h;refine chain_link<|aY (C J s U H _ I h) λg s1 ⟨y,H1,I1,j,q1⟩=>aY (t J s1 U H1 x y v g _ I1 rx j q1) λd s2 ⟨z,l,o,r2,k,e,p⟩=>?_;subst e;cases r2;refine wpAny_truthy_bool ?_;cases k with|false=>exact ite_ff {.bl false,l,o,rfl,p}|true=>exact ite_tt<|T pos J s2 U l y g Q o j p
def Vu(U:PE X a ta)(h:PCh X (op::oi::ops) (b::c::es) u)(g:lastMarks (op::oi::ops) (b::c::es)=false):PE X (.Compare a (op::oi::ops) (b::c::es) pos) (λσ H Q=>ta σ H λx H1=>u x σ H1 Q):=by intro J s σ H Q I j;exact Compare_chain (aY (U J s σ H _ I j) λv l ⟨x,H1,o,p,r⟩=>h pos J l σ H1 x v Q o p r) g
def Vv(g:kz X (compareOp op) r)(j:PE X b tb):mE X [op] [b] (Ij r tb):=by intro pos J s U H x v Q I l h;refine test_last<|aY (j J s U H _ I h) λo p ⟨y,t,C,T,q1⟩=>aY (g J p U t x y v o _ C l T q1) λd s2 ⟨z,H2,I2,r2,k,e,q2⟩=>?_;subst e;cases r2;exact wpAny_truthy_bool {(H2),I2,q2}
def Vw(t:kz X (compareOp op) r)(C:PE X b tb)(T:mE X (oi::ops) (c::es) u):mE X (op::oi::ops) (b::c::es) (Ik r tb u):=by
 intro pos J s U H x v Q I rx h;refine test_link<|aY (C J s U H _ I h) λg s1 ⟨y,H1,I1,j,q1⟩=>aY (t J s1 U H1 x y v g _ I1 rx j q1) λd s2 ⟨z,l,o,r2,k,e,p⟩=>?_;subst e;cases r2;refine wpAny_truthy_bool ?_;cases k with
 |false=>
  obtain⟨k',e',q'⟩:=p;cases e';exact ite_ff {(l),o,q'}
 |true=>exact ite_tt<|T pos J s2 U l y g Q o j p
def Vx(U:PE X a ta)(h:mE X (op::oi::ops) (b::c::es) u)(g:lastMarks (op::oi::ops) (b::c::es)=false):PT X (.Compare a (op::oi::ops) (b::c::es) pos) (Hv λσ H Q=>ta σ H λx H1=>u x σ H1 Q):=by intro J s σ H Q I j;exact isTrue_chain (aY (U J s σ H _ I j) λv l ⟨x,H1,o,p,r⟩=>h pos J l σ H1 x v Q o p r) g
end
def zP(ta:xq)(u:Y->xq)(τ:jm)(L:qm)(Q:YK):Prop:=ta τ L λx L1=>u x τ L1 Q
def Il(r:rX)(tb:xq)(x:Y)(τ:jm)(L:qm)(Q:YK):Prop:=tb τ L λy L1=>r x y L1 Q
def Im(r:rX)(tb:xq)(u:Y->xq)(x:Y)(τ:jm)(L:qm)(Q:YK):Prop:=tb τ L λy L1=>r x y L1 λz L2=>match z with
 |.bl k=>fY k (u y τ L2 Q)<|Q (.bl false) L2
 |_=>False
def j_(G:G3)(u:Y->xq):V->TE:=λx σ H Q=>∃y τ L I,RV G H y x/\vf G H σ τ/\j8 G H L/\u y τ L I/\tj G H I Q
def PCh.imp{ops:List CmpOp}{t u:V->TE}(h:PCh X ops es t)(q:∀x σ H Q,u x σ H Q->t x σ H Q):PCh X ops es u:=λpos J s σ H x v Q I r z=>h pos J s σ H x v Q I r<|q _ _ _ _ z
def mE.imp{ops:List CmpOp}{t u:V->TE}(h:mE X ops es t)(q:∀x σ H Q,u x σ H Q->t x σ H Q):mE X ops es u:=λpos J s σ H x v Q I r z=>h pos J s σ H x v Q I r<|q _ _ _ _ z
def Ll{r:rX}(x:V)(σ:St)(H:Hp)(Q:VK):j_ G (Il r tb) x σ H Q->Ij (fz G r) (tV G tb) x σ H Q:=λ⟨y,g,L,j,l,rs,o,z,k⟩=>
 ⟨g,L,_,rs,o,z,λv T p t U I J C=>{y,p,t,j,l.ts U,J,I,C,k.ts U}⟩
def Lm{r:rX}{u:Y->xq}(x:V)(σ:St)(H:Hp)(Q:VK):j_ G (Im r tb u) x σ H Q->Ik (fz G r) (tV G tb) (j_ G u) x σ H Q:=λ⟨y,o,L,Q3,rv,rs,rl,z,k⟩=>
 ⟨o,L,_,rs,rl,z,λv H1 p L1 U j I z1=>{y,p,L1,_,rv.ts U,I,j,z1,λv2 H2 y2 L2 g J l t=>by
  cases y2 with
  |bl C=>
   refine{C,l,?_};have T:=t;cases C with|true=>rw[AF rfl];exact{p,o,L2,Q3,I.ts g,rs.ts<|U.trans g,J,T,k.ts<|U.trans g}|false=>rw[Az AI];exact k _ H2 _ L2 (U.t g) J 'o' T
  |_=>exact t.r}⟩
section
variable {a b:Expr}{op oi:CmpOp}{ops:List CmpOp}{r:rX}{u:Y->xq}{pos:Pos}
def xH(I:kz X (compareOp op)<|fz X.g3 r)(J:QE X b tb):PCh X [op] [b] (j_ X.g3<|Il r tb):=PCh.imp (Vs I J) Ll
def xF(I:kz X (compareOp op)<|fz X.g3 r)(J:QE X b tb)(U:PCh X (oi::ops) (c::es)<|j_ X.g3 u):PCh X (op::oi::ops) (b::c::es) (j_ X.g3<|Im r tb u):=PCh.imp (Vt I J U) Lm
def Vy(I:kz X (compareOp op)<|fz X.g3 r)(J:QE X b tb):mE X [op] [b] (j_ X.g3<|Il r tb):=mE.imp (Vv I J) Ll
def tR(I:kz X (compareOp op)<|fz X.g3 r)(J:QE X b tb)(U:mE X (oi::ops) (c::es)<|j_ X.g3 u):mE X (op::oi::ops) (b::c::es) (j_ X.g3<|Im r tb u):=mE.imp (Vw I J U) Lm
def vT(σ:St)(H:Hp)(Q:VK):tV G (zP ta u) σ H Q->(λσ H Q=>tV G ta σ H λx H1=>j_ G u x σ H1 Q) σ H Q:=λ⟨U,L,j,rs,l,z,k⟩=>
 ⟨U,L,_,rs,l,z,λv H1 y o g I J p=>{y,U,o,j,J,rs.ts g,I,p,k.ts g}⟩
def vR(I:QE X a ta)(h:PCh X (op::oi::ops) (b::c::es)<|j_ X.g3 u)(J:lastMarks (op::oi::ops) (b::c::es)=false:=by with_unfolding_all rfl):QE X (.Compare a (op::oi::ops) (b::c::es) pos) (zP ta u):=E9 (Vu I h J) vT
def Vz(J:QE X a ta)(h:mE X (op::oi::ops) (b::c::es)<|j_ X.g3 u)(U:lastMarks (op::oi::ops) (b::c::es)=false:=by with_unfolding_all rfl):QT X (.Compare a (op::oi::ops) (b::c::es) pos) (yB<|zP ta u):=
 PT.imp (Vx J h U) λI H Q q=>vT I H _<|HQ I H Q q
end
theorem uK:∀{bs:List Bool} {us:aaf},zw (bs.y V.bl) us->us=bs.y Value.bool
 |[],_,.nil=>rfl
 |b::bs,_,.cons r t=>by cases (show _=Value.bool b from r);rw[uK t];rfl
def VA(hc:X.calm=true:=by rfl):jt X (.builtin "all") (λxs H Q=>∃(a:Addr) (bs:List Bool),xs=[.ref a]/\bQ X.K H a (bs.y V.bl)/\Q (.bl<|bs.all id) H):=by
 rintro l s σ H xs us Q I r⟨a,bs,rfl,sq,q⟩;obtain⟨u,rfl,o⟩:=jJ r;cases o;obtain⟨p,t,pl,_⟩:=I.list sq;cases uK t;have g:=x9 pl;have j:a<↥s:=by obtain⟨_,e,_⟩:=g;exact xT e
 refine jv I.tk<|call_all_walk<|wpAny_pyIter_list g ?_;refine{↥s,[↥s,a],[↥s],(bs.y Value.bool).toArray.size,_,_,λi=>(bs[i]?).getD true,rfl,Walks.list (A:=X.A.in1) (I.ok.hd hc) _ a (Bi j) (bs.y Value.bool).m,
  ⟨⟨_,ya _ rfl,rfl,rfl⟩,g.I _⟩,λi v C T E' J U=>?_,λh' tk hk ht=>?_}
 .have J:(bs.y Value.bool).m[i]?=some v:=J;rw[List.getElem?_toArray,Al] at J;obtain⟨b,e,rfl⟩:=Au.j J;have U:T ((bs[i]?).getD true) C:=U;rw[e] at U;exact wpAny_truthy_bool U
 .have e:((List.range (bs.y Value.bool).toArray.size).all λi=>(bs[i]?).getD true)=bs.all id:=by rw[Av,Ac];exact PyProof.Rows.LSm.range_all bs
  rw[e];exact{.bl _,H,I.kept (h':=h') (t':=tk)<|Ec hk,rfl,q}
def VB(hc:X.calm=true:=by rfl):jt X (.builtin "any") (λxs H Q=>∃(a:Addr) (bs:List Bool),xs=[.ref a]/\bQ X.K H a (bs.y V.bl)/\Q (.bl<|bs.any id) H):=by
 rintro l s σ H xs us Q I r⟨a,bs,rfl,sq,q⟩;obtain⟨u,rfl,o⟩:=jJ r;cases o;obtain⟨p,t,pl,_⟩:=I.list sq;cases uK t;have g:=x9 pl;have j:a<↥s:=by obtain⟨_,e,_⟩:=g;exact xT e
 refine jv I.tk<|call_any_walk<|wpAny_pyIter_list g ?_;refine{↥s,[↥s,a],[↥s],(bs.y Value.bool).toArray.size,_,_,λi=>(bs[i]?).getD false,rfl,Walks.list (A:=X.A.in1) (I.ok.hd hc) _ a (Bi j) (bs.y Value.bool).m,
  ⟨⟨_,ya _ rfl,rfl,rfl⟩,g.I _⟩,λi v C T E' J U=>?_,λh' tk hk ht=>?_}
 .have J:(bs.y Value.bool).m[i]?=some v:=J;rw[List.getElem?_toArray,Al] at J;obtain⟨b,e,rfl⟩:=Au.j J;have U:T ((bs[i]?).getD false) C:=U;rw[e] at U;exact wpAny_truthy_bool U
 .have e:((List.range (bs.y Value.bool).toArray.size).any λi=>(bs[i]?).getD false)=bs.any id:=by rw[Av,Ac];exact PyProof.Rows.LSm.range_any bs
  rw[e];exact{.bl _,H,I.kept (h':=h') (t':=tk)<|Ec hk,rfl,q}
def FM:_T->Option (List Bool)
 |[]=>some []
 |.bl b::r=>(FM r).y (b::·)
 |_::_=>none
def gQ(bs:List Bool):FM (bs.y Y.bl)=some bs:=by induction bs with|nil=>rfl|cons b r I=>show(FM<|r.map Y.bl).y (b::·)=_;rw[I];rfl
theorem qR{G:G3}{H:Hp}:∀{ys:_T} {xs:HT} {bs:List Bool},FM ys=some bs->xw G H ys xs->xs=bs.y V.bl
 |[],_,_,h,r=>by cases h;exact r
 |y::ys,_,bs,h,⟨x,I,e,J,U⟩=>by
  cases y with
  |bl b=>
   have g:=h;obtain⟨l,j,rfl⟩:=Au.j g;cases (show x=V.bl b from J);rw[e,qR j U];rfl
  |_=>cases h
def GV(xs:_T)(L:qm)(Q:YK):Prop:=match xs with
 |[y]=>sv y=true/\fE L y λys=>rQ L (λbs L=>Q (.bl<|List.all bs id) L)<|FM ys
 |_=>False
def Ln(xs:_T)(L:qm)(Q:YK):Prop:=match xs with
 |[y]=>sv y=true/\fE L y λys=>rQ L (λbs L=>Q (.bl<|List.any bs id) L)<|FM ys
 |_=>False
def GW(hc:X.calm=true:=by rfl):jt X (.builtin "all") (g_ X.g3 GV):=FC (VA hc) λj H Q l L o J I z k=>by
 unfold GV at z;split at z
 .rename_i y;obtain⟨x,rfl,r⟩:=J.inv1;obtain⟨U,z⟩:=z;obtain⟨p,g,z⟩:=kw z;obtain⟨bs,eb,z⟩:=az z;obtain⟨a,t,rfl,sq,rr⟩:=e9 I r U g;cases qR eb rr;exact{a,bs,rfl,sq,k _ H _ L (EU _) I 'o' z}
 .exact z.r
def VC(hc:X.calm=true:=by rfl):jt X (.builtin "any") (g_ X.g3 Ln):=FC (VB hc) λj H Q l L o J I z k=>by
 unfold Ln at z;split at z
 .rename_i y;obtain⟨x,rfl,r⟩:=J.inv1;obtain⟨U,z⟩:=z;obtain⟨p,g,z⟩:=kw z;obtain⟨bs,eb,z⟩:=az z;obtain⟨a,t,rfl,sq,rr⟩:=e9 I r U g;cases qR eb rr;exact{a,bs,rfl,sq,k _ H _ L (EU _) I 'o' z}
 .exact z.r
def tf:bootBuiltins "all"=some (.builtin "all"):='z'
def VD:bootBuiltins "any"=some (.builtin "any"):='z'
def GX:Y->Option jk
 |.int i=>some<|.inl i
 |.str x=>some<|.inr x
 |_=>none
def o5{k:jk}(h:GX y=some k)(r:RV G H y v):v=kV k:=by cases y with|int i=>cases h;exact r|str x=>cases h;exact r|_=>cases h
def iS(kvs:List<|jk×Y)(k:jk)(y:Y):List (jk×Y):=
 if (kvs.any λI=>decide<|I.1=k)=true then kvs.y (λI=>if I.1=k then(I.1,y) else I) else kvs++[(k,y)]
def jc._c{p:Addr}{zs:List<|jk×V}{o:HO}(h:H p=some (.dK zs)):jc H (upd H p o):=λa u i q=>by rw[qp ?_];exact q;rintro rfl;rw[h] at q;cases q;cases i
def VE{xs:List<|jk×V}(p:Paired (λ(p:jk×Y) (q:jk×V)=>p.1=q.1/\RV G H p.2 q.2) kvs xs)(k:jk):(kvs.any λI=>decide<|I.1=k)=xs.any λI=>decide (I.1=k):=by induction p with|nil=>rfl|cons r t J=>rw[CF,CF,J,r.1]
def VF{xs:List<|jk×V}(p:Paired (λ(p:jk×Y) (q:jk×V)=>p.1=q.1/\RV G H p.2 q.2) kvs xs)(k:jk)(r:RV G H y v):
 Paired (λ(p:jk×Y) (q:jk×V)=>p.1=q.1/\RV G H p.2 q.2) (kvs.y λI=>if I.1=k then(I.1,y) else I) (xs.y λI=>if I.1=k then(I.1,v) else I):=by
 induction p with
 |nil=>exact .nil
 |@cons a b _ _ J t U=>
  refine .cons ?_ U;obtain⟨e,q⟩:=J;dsimp only;by_cases c:a.1=k
  .rw[AF c,AF<|e▸c];exact{(e),r}
  .rw[Az c,Az λz=>c<|e.trans z];exact{(e),q}
def VG{xs:List<|jk×V}(p:Paired (λ(p:jk×Y) (q:jk×V)=>p.1=q.1/\RV G H p.2 q.2) kvs xs)(k:jk)(r:RV G H y v):
 Paired (λ(p:jk×Y) (q:jk×V)=>p.1=q.1/\RV G H p.2 q.2) (kvs++[(k,y)]) (xs++[(k,v)]):=by
 induction p with|nil=>exact .cons {(rfl),r} .nil|cons I t J=>exact .cons I J
def VH{xs:List<|jk×V}(p:Paired (λ(p:jk×Y) (q:jk×V)=>p.1=q.1/\RV G H p.2 q.2) kvs xs)(k:jk)(r:RV G H y v):
 Paired (λ(p:jk×Y) (q:jk×V)=>p.1=q.1/\RV G H p.2 q.2) (iS kvs k y) (lT xs k v):=by
 unfold iS lT;rw[VE p k];by_cases c:(xs.any λI=>decide<|I.1=k)=true
 .rw[AF c,AF c];exact VF p k r
 .rw[Az c,Az c];exact VG p k r
def pQ{R:α->β->Prop}{l:List α}{m:List β}(p:Paired R l m):l.l=m.l:=by induction p with|nil=>rfl|cons _ _ I=>rw[AK,AK,I]
def xP(_:jm)(L:qm)(Q:YK):Prop:=∀p,L p=none->Q (.ref p) (qk L p<|._c [])
def vV(td ti:xq)(τ:jm)(L:qm)(Q:YK):Prop:=td τ L λx L1=>ti τ L1 λy L2=>match x,GX y with
 |.ref a,some k=>nw L2 a λkvs=>rQ L2 Q<|wo kvs k
 |_,_=>False
def gm(td ti tv:xq)(D:v5)(τ:jm)(L:qm):Prop:=tv τ L λv L1=>td τ L1 λx L2=>ti τ L2 λy L3=>match x,GX y with
 |.ref a,some k=>nw L3 a λkvs=>kvs.length<sizeLine/\D.nx τ (qk L3 a<|._c<|iS kvs k v)
 |_,_=>False
section
variable {i:Expr}{td tv:xq}{pos:Pos}
def kW:QE X (.Dict [] [] pos) xP:=EW R4 λU H Q g L j rs J z k=>λp I=>by
 refine k _ _ _ (qk L p<|._c []) (EV I) (λa u e=>?_) 'o'<|z p<|J.none I;by_cases c:a=p
 .subst c;rw[q9] at e;cases e;exact{[],zg,.nil}
 .rw[qe c] at e;exact(J a u e).keep (EV I) (qp c)
def fc(hu:X.A.units+128<cLine)(r:QE X o td)(hi:QE X i ti)(hs:Hy i):QE X (.Subscript o i pos) (vV td ti):=EW (RX 'm' r hi hs) λσ H Q l L Q3 rs t z k=>
 ⟨l,L,_,rs,t,z,λv H1 x C p J U T=>{l,C,_,rs.ts p,J,T,λw H2 y L2 t2 I g j=>by
  split at j
  .rename_i a kk ek;obtain⟨a1,e,z3⟩:=dM j;obtain⟨yv,ev,q⟩:=az z3;obtain⟨xs,e2,pr⟩:=I a _ e;obtain⟨xv,ex,rx⟩:=tT pr ev;exact{a,xv,U,.inl {xs,kk,.inl e2,o5 ek g,ex.L},k _ H2 _ L2 (p.t t2) I rx q}
  .exact j.r}⟩
theorem aK(hu:X.A.units+128<cLine)(ho:QE X o td)(hi:QE X i ti)(hv:QE X value tv)(hs:swapsWith value (some<|.Subscript o i fx) pos.line X.o=pure false:=by rfl):QS X (.Assign [.Subscript o i fx] value pos) (gm td ti tv):=
 E5 (RY 'm' ho hi hv hs) λD σ H j L D3 rs rl z k=>
 ⟨j,L,_,rs,rl,z,λv H1 vy L1 J l p z1=>{j,L1,_,rs.ts J,l,z1,λx H2 xy L2 U r t z2=>{j,L2,_,rs.ts<|J.trans U,r,z2,λw H3 y L3 C I T z3=>by
  split at z3
  .rename_i a kk ek;obtain⟨a1,e,hl,q⟩:=dM z3;obtain⟨xs,e2,pr⟩:=I a _ e;have g:jc H3 (upd H3 a<|.dK<|lT xs kk v):=jc._c e2;cases (show x=V.ref a from t);refine{a,_,rfl,.inl {xs,kk,e2,o5 ek T,by rw[<-pQ pr];exact hl,rfl},?_};refine k.nx _ _ _ _ (((J.t U).t C).t g) (rs.ts<|((J.t U).t C).t g) (λb u eb=>?_) q;by_cases c:b=a
   .subst c;rw[q9] at eb;cases eb;exact{_,zg,EX (VH pr kk<|p.ts<|U.trans C) λ_ _ ⟨h1,h2⟩=>{h1,h2.ts g}}
   .rw[qe c] at eb;exact(I b u eb).keep g (qp c)
  .exact z3.r}}⟩
end
def dX(to ti tv:xq)(D:v5)(τ:jm)(L:qm):Prop:=tv τ L λv L1=>to τ L1 λx L2=>ti τ L2 λy L3=>match x,y with
 |.ref a,.int i=>fD L3 a λys=>rQ L3 (λj L=>D.nx τ<|qk L a<|.lst<|ys.set j v)<|vB ys.l i
 |_,_=>False
section
variable {i:Expr}{tv:xq}{pos:Pos}
theorem aU(ho:QE X o to)(hi:QE X i ti)(hv:QE X value tv)
 (ha:∀v,assign (.Subscript o i fx) X.o v=(do
  let J <-holding [v] (eval o X.o)
  let l <-holding [v,J] (eval i X.o)
  standAt fx
  holding [v,J,l] (setItem J l v)
  release [v,J,l] []):=by intro _;rfl)
 (h1:swapsWithSole [.Subscript o i fx] value pos.line X.o=pure false:=by rfl) (h2:swappedStores [.Subscript o i fx] value X.o=pure none:=by rfl)
 (h3:(assignEach [.Subscript o i fx] X.o).y (·.2)=[assign (.Subscript o i fx) X.o]:=by rfl):QS X (.Assign [.Subscript o i fx] value pos) (dX to ti tv):=
 E5 (Jr hv (QR ho hi Sr ha) h1 h2 h3) λD σ H p L D3 rs rl z k=>
 ⟨p,L,_,rs,rl,z,λv H1 vy L1 U t C z1=>{p,L1,_,rs.ts U,t,z1,λx H2 xy L2 g T a1 z2=>{p,L2,_,rs.ts<|U.trans g,T,z2,λw H3 y L3 t3 I a2 z3=>by
  split at z3
  .rename_i a ii;obtain⟨ys,e,z4⟩:=v4 z3;obtain⟨j,ej,q⟩:=az z4;obtain⟨xs,e2,r⟩:=I a _ e;cases (show x=V.ref a from a1);cases (show w=V.int ii from a2);have tt:jc H3 (upd H3 a<|.lst<|xs.set j v):=E6 e2;exact{a,xs,ii,j,rfl,rfl,e2,by rw[<-r.l];exact ej,k.nx _ _ _ _ (((U.t g).t t3).t tt) (rs.ts<|((U.t g).t t3).t tt) (I.setL e2<|xw.setY (C.ts<|g.trans t3) j r) q}
  .exact z3.r}}⟩
end
section
variable {v₁ v₂:Expr}{te:TE}{u:Str->TE}{pos:Pos}
end
section
variable {v₁ v₂:Expr}{u:Str->xq}{pos:Pos}
end
section
variable {tv:xq}{tr:gJ}{pos p:Pos}{f m:Str}{g:Addr}
end
open PySem.AutoSeq1 (wpAny_loadPart')
section
open MeetsSeq MeetsSeq2 MeetsSeq3 SeqRoads2
def kF(x:Y)(vs:_T)(L:qm)(Q:YK):Prop:=match x,vs with
 |.ref a,[]=>fD L a λys=>Q .GM<|qk L a<|.lst ys.reverse
 |_,_=>False
theorem xw.rev{G:G3}{H:Hp}:∀{ys:_T} {xs:HT},xw G H ys xs->xw G H ys.reverse xs.reverse
 |[],xs,r=>by cases (show xs=[] from r);exact rfl
 |y::t,xs,r=>by obtain⟨x,I,rfl,J,U⟩:=r;rw[Dr,Dr];exact xw.app (xw.rev U)<|xw.one J
def VI :iR X "list.reverse" (i_ X.g3 kF):=FE zO λx U H Q y o L p g j J z k=>by
 unfold kF at z;split at z
 .rename_i a;obtain⟨t,e,z⟩:=v4 z;obtain⟨l,I,r⟩:=J a _ e;cases (show U=[] from j);exact{a,l,g,rfl,I,k _ _ _ _ (E6 I) (J.setL I r.rev) 'o' z}
 .exact z.r
def zK(I:QE X o to)(J:attributeBase o "reverse" X.o (eval o X.o)=eval o X.o:=by rfl)(U:(apos.endLine==eT.line)=true:=by rfl):
 QE X (.Call (.Attribute o "reverse" apos) [] [] eT) (fg kF to zk):=HY PySem.F.slot_list_reverse PySem.F.type_list_reverse VI I J U
def Io(x y:Y)(L:qm)(Q:YK):Prop:=fE L x λxs=>fE L y λys=>sv x=true/\sv y=true/\xs.l+ys.l<=sizeLine/\∀p,L p=none->Q (.ref p) (qk L p<|.lst<|xs++ys)
def Lo(K:Aj)(P:aas)(w:aat)(hK:X.K=K:=by rfl)(hP:X.i=P:=by rfl)(hw:X.w=w:=by rfl):kz X (binaryOp .Add) (fz ⟨K,P,w⟩ Io):=by
 subst hK hP hw;intro a1 s σ H x y v u Q I rx ry ⟨x3,y3,L,Q3,r1,r2,r,z,k⟩;obtain⟨xs,ex,z⟩:=kw z;obtain⟨ys,ey,z⟩:=kw z;obtain⟨lx,ly,hz,q⟩:=z;obtain⟨a,ws,rfl,s1,g⟩:=e9 r r1 lx ex;obtain⟨b,a3,rfl,s2,j⟩:=e9 r r2 ly ey;cases rx;cases ry;obtain⟨J,vx,tx,_⟩:=I.list s1;obtain⟨U,vy,ty,_⟩:=I.list s2;obtain⟨⟨cls,dd,data,sl⟩,ho,hc,n,hd⟩:=id<|x9 tx;obtain⟨⟨a2,t,data2,C⟩,l,o,n2,p⟩:=id<|x9 ty;simp only at hc hd o p;subst hc hd o p;have l1:=vx.l;have l2:=vy.l;have l3:=g.l;have l4:=j.l;have T:J.toArray.q+U.toArray.q<=sizeLine:=by rw[Av,Av];lia
 refine concat_meets {_,ho,rfl} {_,l,rfl} noFill_list_add seq_list_add PySem.F.slot_list_add PySem.F.entry_list_add (PySem.F.args_list_add_2 _ _) (PyProof.Rows.list_addW a b J.m U.m n n2 dd t sl C T) {ho,l,?_};have e:J.m++U.m=(J++U).m:='r'
 rw[e];exact{.ref _,_,I.lnew (t':=s.D) (vx.append vy) (by rw[Ab];lia),rfl,k _ _ _ _ (EV I.fresh) (r.newL I.fresh<|g.app j) 'o'<|q _<|r.none I.fresh}
end
section
open PySem.Builtin.Str
def len_list(x:Str):x.cps.toList.l=x.l:=by simp[Str.length]
end
section
variable {isp imk c j1 j2:Nat}{sp mk:Str}{u:Tok}{m:aac}{p6 p7 p8 p9 p10 pos:Pos}{Q:Flow->aar->Prop}
end
def VJ(s:Stmt):aak:=match s with
 |.ClassDef _ _ _ b _ _ _ _ _ _ _=>b
 |_=>[]
section
variable {tr:gJ}{pos p:Pos}{m:Str}{k:Nat}{sp:vh}
end
section
variable {te:TE}{pos:Pos}
end
section
variable {pos:Pos}
end
def ahv.never{P:aas}{w:aat}{K:Aj}{k:Nat}{sp:fH}(no:∀ys L Q E,¬sp ys L Q E):ahv P w K mg base k f fd ps sp:=
 ⟨λg H Q E ⟨ys,L,I,J,_,_,z,_⟩=>absurd z<|no ys L I J,λA U s H args j g Q E _ _ _ _ ⟨ys,L,I,J,_,_,z,_⟩=>absurd z<|no ys L I J⟩
section
variable {a T:Addr}{tr:Option Addr}
end
section
variable {T:aai}{iter:Expr}{g:TG}{te:TE}
end
section
variable {a b T:Addr}{tr:Option Addr}{E1:X1}
end
section
variable {k:Nat}{E1:X1}{p pos:Pos}{t:TA}
end
section
variable {T:aai}{iter:Expr}{wi:A_}{tr:gJ}{pos:Pos}{E3:X3}{Ea:Addr->qm->Prop}
end
section
variable {w:aat}
theorem vE{it t:Addr}{eH:aag}(I:t≠it):∀(n i:Nat) (s:aar) (Q:aaf->aar->Prop),s.heap.IsListIter it t i->s.heap.IsList t eH->i+n<=eH.q->
 (∀h',h'.IsListIter it t (i+n)->Heap.SameBut it s.v h'->Q ((eH.toList.G i).u n) {s with heap:=h'})->wpAny 'w' A (draw (.ref it) n) Q E s
 |0,i,s,Q,hit,_,_,g=>by exact Aq (~~~g s.v hit (Heap.SameBut.refl ..))
 |n+1,i,s,Q,hit,p,r,g=>by
  have J:i<eH.q:='m'
  refine Aa<|wpAny_pyNext_list_item hit p (x:=eH[i]) (by simp[J]) λg1 j U=>?_;refine Aa<|BA<|vE I n (i+1) _ _ j (p.extBut U.extBut I) 's' λg2 l o=>Aq ?_;have e:eH.toList.G i=eH[i]::eH.toList.G (i+1):=by simp[Cw,J]
  have q:=g g2 ([show i+(n+1)=i+1+n by simp +arith only]≈l)
   (U.t o)
  rw[e,List.take_succ_cons] at q;exact q
def VL{pos:Pos}{t:Addr}{eH:aag}{Q:aab}(T:A.handled=none)(I:s.heap.IsList t eH)(hn:(assignEach nq env).l=eH.q)(j:(assignEach nq env).findIdx? (·.1)=none)
 (h:∀g,Heap.ExtBut ↥s s.v g->wpAny 'w' A (assignInOrder ((assignEach nq env).y (·.2)) eH.z) Q E {s with heap:=g}):wpAny 'w' A (assign (.Tuple nq x1 pos) env<|.ref t) Q E s:=by
 have J:t≠↥s:=by obtain⟨o,ho,_⟩:=I;exact Bi<|xT ho
 rw[arm_assign_Tuple];refine Aa<|wpAny_standAt ?_;unfold unpack;rw[hn,j];refine Aa<|BA ?_;refine Aa<|Aa<|wpAny_specialOf I.typeIs slot_list_iter.e ?_;refine Aq ?_;rw[Az 'r'];refine Aa<|BA<|wpAny_pyIter_list I ?_;refine Aa<|BA<|vE J eH.q 0 _ _ {_,ya _ rfl,rfl,rfl} (I.I _) (by simp +arith only) λg1 l U=>?_;have all:List.take eH.q (List.drop 0 eH.z)=eH.z:=by rw[EN];exact A4 'r'
 rw[all,Az 'r'];have p:=(I.I _).extBut U.extBut J;refine Aa<|BA<|wpAny_pyNext_list_end T l p 'r' λg2 r=>?_;rw[Az 'r'];exact Aq<|h g2 λb o C e=>r b o C<|U.extBut b o C<|wh _ e
end
section
variable {pos:Pos}
def VM(K:Aj)(n:Nat)(t:l_):TG:=λv σ H Q=>∃a xs,v=.ref a/\bQ K H a xs/\xs.l=n/\t xs σ H Q
def VN{k:Nat}{t:l_}(hc:X.calm=true)(h:PGs X es t)
 (j:(assignEach es X.o).l=n:=by rfl) (U:(assignEach es X.o).findIdx? (·.1)=none:=by rfl):PG X (.Tuple es k pos) (VM X.K n t):=by
 rintro J s l H v u Q I r⟨a,p,C,T,hl,hw⟩;subst C;cases r;obtain⟨a1,g,pl,hz⟩:=I.list T;have ht:=x9 pl;refine VL (I.ok.hd hc) ht (by simp[j,<-hl,g.l]) U λh' hx=>?_;have I1:=I.kept (t':=s.D) λb o e=>hx b o (Bi<|xT e) e;exact h J _ l H p _ Q I1 (~~~g) hw
end
def VO(l:Addr)(eH:aag)(n:Nat)(x:aaq)(b:Nat->Bool)(j:Nat)(C:j<eH.q)(hit:b j=true)(hz:eH.q<=sizeLine):∀(k i:Nat),j-i=k->i<=j->(∀m,i<=m->m<j->b m=false)->
 Meets (Builtin.«list.remove.loop» ⟨[.ref l,x,rawInt i],[]⟩) (λA R s=>s.heap.get? l=some {cls:=.type "list",dict:=none,data:=.seq eH n,slots:=#[]}/\(∀m (hm:m<eH.q),SeqAt.EqAt A.in1 s eH[m] x<|b m)/\R (.ok<|.ret .none) {s with heap:=s.heap.update l (Obj.mapSeq λxs=>xs.eraseIdxIfInBounds j)}):=by
 intro k
 induction k with
 |zero=>
  intro i T p J I w A R s h;obtain⟨hp,g,d,tk,os⟩:=s;obtain⟨U,eq,h⟩:=h;have e:i=j:='s'
  subst e
  (wp_walk using wpAny_loadPart' U)
  have r:eH[i⁻¹.B]?=some eH[i]:=by simp[C]
  rw[r];refine Aa<|eq i C I w _ _ ?_;rw[hit];have t:(eH.eraseIdxIfInBounds i).q<=sizeLine+1:=AQ (MeetsSeq.size_erased eH _)<|CA hz
  (wp_walk using (wpAny_updateSeq U rfl (hz:=hz) (_hz':=t)),wpAny_loadPart' U)
  simpa using h
 |succ k ih=>
  intro i T p J I w A R s h;obtain⟨hp,g,d,tk,os⟩:=s;obtain⟨U,eq,h⟩:=h;have o:i<eH.q:=rS
  (wp_walk using wpAny_loadPart' U)
  have r:eH[i⁻¹.B]?=some eH[i]:=by simp[o]
  have hc:((i:Int)+1)=(i+1)⁻¹:='o'
  rw[r];refine Aa<|eq i o I w _ _ ?_;rw[J i (Ap _) 'm']
  wp_walk
  rw[hc];refine{plainId_quiet DT _,codeAny_builtin MeetsSeq.entry_remove_loop ?_};rw[Around.under_plainId DT _];exact ih (i+1) 'm' 'm' (λm h1 h2=>J m (l5) h2) I w A R _ {(U),eq,h}
def VP(l:Addr)(eH:aag)(n:Nat)(x:aaq)(b:Nat->Bool)(j:Nat)(o:j<eH.q)(hit:b j=true)(hz:eH.q<=sizeLine)(J:∀m,m<j->b m=false):
 Meets (Builtin.«list.remove» ⟨[.ref l,x],[]⟩) (λA R s=>s.heap.get? l=some {cls:=.type "list",dict:=none,data:=.seq eH n,slots:=#[]}/\(∀m (p:m<eH.q),SeqAt.EqAt A.in1 s eH[m] x<|b m)/\R (.ok<|.ret .none) {s with heap:=s.heap.update l (Obj.mapSeq λxs=>xs.eraseIdxIfInBounds j)}):=by
 intro I w A R s h;obtain⟨r,g,d,tk,os⟩:=s;obtain⟨U,eq,h⟩:=h
 (wp_walk using wpAny_loadPart' U)
 refine{plainId_quiet DT _,codeAny_builtin MeetsSeq.entry_remove_loop ?_};rw[Around.under_plainId DT _];exact VO l eH n x b j o hit hz _ 0 rfl (A7 _) (λm _ h2=>J m h2) I w A R _ {(U),eq,h}
theorem zw.eraseN:∀{xs:HT} {us:aaf} (n:Nat),zw xs us->zw (xs.n n) (us.n n)
 |[],_,n,.nil=>by simp;exact .nil
 |_::_,_,0,.cons _ t=>t
 |_::_,_,n+1,.cons r t=>.cons r<|zw.eraseN n t
def VQ(X:Cx):V->HT->Hp->VK->Prop:=λx vs H Q=>∃l xs y ds e,∃n m j:Nat,x=.ref l/\vs=[y]/\H l=⇑xs/\n<=126/\Paired (bO X.K H n) xs ds/\bO X.K H m y e/\j<ds.l/\(∃d,ds[j]?=some d/\Da.eq d e=true)/\
 (∀(k:Nat) d,k<j->ds[k]?=some d->Da.eq d e=false)/\Q .GM (upd H l<|.lst<|xs.eraseIdx j)
def VR(hu:X.A.units+128<cLine):iR X "list.remove" (VQ X):=by
 rintro a5 s σ H x vs v us Q I rx rv⟨l,o,y,ds,e,n,m,j,rfl,rfl,hH,hn,pd,ry,hj,⟨dj,p,t⟩,C,q⟩;cases rx;obtain⟨u,rfl,ru⟩:=rv.one;obtain⟨z,J,nn,r,hl,T⟩:=I._K hH;have l1:=pd.l;obtain⟨arr,U⟩:∃arr:aag,arr=J.m:={_,rfl};have a1:arr.q=J.l:=by rw[U,Av]
 have b:Nat->Bool:=λ_=>true;have a2:arr.q<=sizeLine:=by rw[a1];lia
 have M:=VP l arr nn u (λk=>((ds[k]?).y λd=>Da.eq d e).getD false) j 's' ([p]≈t) a2 (λk g=>by cases ek:ds[k]? with|none=>rfl|some d=>exact C k d g ek)
 rw[U] at M;refine call_meets F.slot_list_remove {_,T,rfl} F.entry_list_remove (F.args_list_remove_2 _ _) M {T,λk g=>?_,?_}
 .have ac:k<J.l:=by rw[Av] at g;exact g
  obtain⟨d,ed,rd⟩:=Paired.getP pd<|Ah ('s':k<o.l);rw[ed];obtain⟨u',a3,a4⟩:=Paired.getP r<|Ah ('s':k<o.l);have eg:J.m[k]=u':=by have:=(A3.j a3).2;simpa using this
  rw[eg];exact y7 I n 's' rd ry a4 ru
 .refine{.GM,_,I.lset (its':=J.n j) hH T ?_ (r.eraseN j) ?_,rfl,q}
  .have:j<J.l:='s'
   simp[Array.eraseIdxIfInBounds,this]
  .have:=Do o j;exact HA
def Lp(n:Nat)(t:wV)(y:Y)(τ:jm)(L:qm)(Q:jm->qm->Prop):Prop:=match y with
 |.ref a=>fD L a λys=>match ys.l==n with
  |true=>t ys τ L Q
  |false=>False
 |_=>False
def VS{U:Nat}{pos:Pos}(hc:X.calm=true)(h:Gg X es gs)(h1:(assignEach es X.o).l=n:=by rfl)(h2:(assignEach es X.o).findIdx? (·.1)=none:=by rfl):QG X (.Tuple es U pos) (Lp n gs):=
 PG.imp (VN hc h h1 h2) λv T H Q ⟨y,g,L,j,l,rs,J,z,k⟩=>by
 cases y with
 |ref a=>
  cases (show v=.ref a from l);obtain⟨o,e,I⟩:=v4 z;obtain⟨p,t,r⟩:=J a _ e;split at I
  .rename_i C;exact{a,p,rfl,FF t,by rw[<-r.l];exact beq_iff_eq.j C,o,g,L,j,r,rs,J,I,k}
  .exact I.r
 |_=>exact z.r
def oX(x:Y)(vs:_T)(L:qm)(Q:YK):Prop:=match x,vs with
 |.ref a,[v]=>fD L a λys=>∃ds e,∃n m j:Nat,n<=126/\Paired (j6 L n) ys ds/\j6 L m v e/\j<ds.l/\(∃d,ds[j]?=some d/\Da.eq d e=true)/\(∀(k:Nat) d,k<j->ds[k]?=some d->Da.eq d e=false)/\Q .GM (qk L a<|.lst<|ys.eraseIdx j)
 |_,_=>False
def VT(C:X.A.units+128<cLine):iR X "list.remove" (i_ X.g3 oX):=FE (VR C) λx I H Q y U L Q3 T r2 g z k=>by
 unfold oX at z;split at z
 .rename_i a v;obtain⟨zs,e,J,de,n,m,j,hn,pd,dv,hj,hit,l,z⟩:=v4 z;obtain⟨us,o,r⟩:=g a _ e;obtain⟨v',rfl,rv⟩:=r2.inv1;have both:∀{U:_T} {J:List Da} {I:HT},Paired (j6 L n) U J->xw X.g3 H U I->Paired (bO X.K H n) I J:=by
   intro U J I p
   induction p generalizing I with
   |nil=>intro q;cases (show I=[] from q);exact .nil
   |cons h t ih=>
    rintro⟨x,a1,rfl,q1,q2⟩;exact .cons (j6.rep g h q1)<|ih q2
  exact{a,us,v',J,de,n,m,j,T,rfl,o,hn,both pd r,j6.rep g dv rv,hj,hit,l,k _ _ _ _ (E6 o) (g.setL o<|r.eraseIdx j) 'o' z}
 .exact z.r
def VU(I:X.A.units+128<cLine){tr:gJ}(J:QE X o to)(U:QA X (e::es) tr)(g:Fs X o e es "remove" apos eT:=by exact{(rfl),rfl,rfl,rfl,rfl}):
 QE X (.Call (.Attribute o "remove" apos) (e::es) [] eT) (fg oX to tr):=uu PySem.F.slot_list_remove PySem.F.type_list_remove (VT I) J U g
def VW:HT->Hp->VK->Prop:=λxs H Q=>∃n:Int,xs=[.int n]/\∀p,H p=none->Q (.ref p) (upd H p<|.rng 0 n)
def VX:jt X (.type "range") VW:=by rintro J s g H j l Q I r⟨n,rfl,q⟩;obtain⟨u,rfl,U⟩:=r.one;obtain⟨t,rfl⟩:=(show ∃t,u=Value.int n t from U);refine call_range_1 ?_;refine{.ref ↥s,_,I.laid (t':=s.D+1+1) (o:=.rng 0 n) (λb ob q=>wh _ q) (Ap _) ?_,rfl,q _<|I.KB.fresh<|Ap _};exact{s.D,t,s.D+1,ya _ rfl}
def yk{I:aag}(h:ItemsOf (λi v=>∃t,v=.int (0+(i:Int)*1) t) I n):zw ((List.range n).y λi:Nat=>V.int<|0+(i:Int)) I.z:=by
 have len:I.toList.l=n:=by rw[Ba];exact h.1
 have key:∀(l:aaf) (k:Nat),(∀(j:Nat) v,l[j]?=some v->∃t,v=Value.int (0+(k+j)⁻¹*1) t)->zw ((List.range' k l.l).y λi:Nat=>V.int<|0+(i:Int)) l:=by
  intro l
  induction l with
  |nil=>intro k _;exact .nil
  |cons v r g=>
   intro k U;rw[AK,Eu,AR];obtain⟨t,e⟩:=U 0 v rfl;refine .cons ?_<|g (k+1) λj o J=>?_
   .exact{t,by rw[e];simp}
   .have:=U (j+1) o J;rw[show k+1+j=k+(j+1) by simp +arith only];exact this
 have:=key I.z 0 λj v J=>by rw[DV];exact h.2 j v (~~~J)
 rw[len,<-List.range_eq_range'] at this;exact this
def VY:HT->Hp->VK->Prop:=λxs H Q=>∃a,∃n:Nat,xs=[.ref a]/\H a=some (.rng 0 n)/\n<=100000/\∀p,H p=none->Q (.ref p) (upd H p<|.lst ((List.range n).y λi:Nat=>V.int<|0+(i:Int)))
theorem VZ(hc:X.calm=true):jt X (.type "list") VY:=by
 rintro g s σ H xs us Q I r⟨a,n,rfl,j,l,q⟩;obtain⟨u,rfl,p⟩:=r.one;cases (show u=Value.ref a from p);obtain⟨t,u,v,e⟩:=I.KB a _ j;have hb:(100000:Nat)<=sizeLine:=∅
 have rs:Builtin.Range.rangeSize 0 (n:Int) 1=n⁻¹:=by rw[rangeSize_one];split<;>lia
 refine jv I.tk<|call_list_range (I.ok.hd hc) (show IsRange s.v a 0 (n:Int) 1 t u v from e) (small_one ∅ ∅ (Bb _) 'm') rs (AQ l ∅) λh' tk U c C T J ht=>?_;refine{.ref ↥s,_,I.laid (t':=tk) (o:=.lst ((List.range n).y λi:Nat=>V.int<|0+(i:Int))) C (Ap _) ?_,rfl,q _<|I.KB.fresh<|Ap _};refine{by rw[Ac,Bm];exact HA,U.z,c,yk J,?_};rw[T]
def V0:bootBuiltins "range"=some (.type "range"):='z'
def xI(te:xq)(τ:jm)(L:qm)(Q:YK):Prop:=te τ L λy L1=>match y with
 |.int n=>(0<=n/\n<=100000)/\∀p,L1 p=none->Q (.ref p) (qk L1 p<|.lst<|dG 0 n.B)
 |_=>False
def amp(n:Nat):xw G H (dG 0 n) ((List.range n).y λi:Nat=>V.int<|0+(i:Int)):=by
 unfold dG;generalize List.range n=l
 induction l with|nil=>rfl|cons k r I=>exact{_,_,rfl,rfl,I}
theorem zM{p pos I:Pos}(hc:X.calm=true)(C:Gl X "list")(T:X.mg "list"=none)(j:Gl X "range")(l:X.mg "range"=none)(h:QE X e te)
 (h1:starEach [.Call (.Name "range" p2) [e] [] I] X.o=(false,eval (.Call (.Name "range" p2) [e] [] I) X.o)::starEach [] X.o:=by rfl) (h2:(backTo pos<|starEach [] X.o).any (·.1)=false:=by rfl)
 (h3:starEach [e] X.o=(false,eval e X.o)::starEach [] X.o:=by rfl) (h4:(backTo I<|starEach [] X.o).any (·.1)=false:=by rfl):
 QE X (.Call (.Name "list" p) [.Call (.Name "range" p2) [e] [] I] [] pos) (xI te):=
 EW (l6 (VZ hc) C T fW (af (l6 VX j l V0 (af h gH h3) ∅ ∅ h3 h4) gH h1) ∅ ∅ h1 h2) λσ H Q τ L Q3 rs rl z k=>
 ⟨τ,L,_,rs,rl,z,λv H1 y L1 t1 J o U=>by
  cases y with
  |int n=>
   obtain⟨⟨h0,h5⟩,U⟩:=U;cases (show v=V.int n from o);obtain⟨m,rfl⟩:∃m:Nat,n=(m:Int):={n.B,'s'};refine{_,rfl,λq r=>{q,m,rfl,zg,'s',λp g=>?_}};have t:H1 p=none:=by
    by_cases c:p=q
    .subst c;exact r
    .rw[qp c] at g;exact g
   exact k _ _ _ _ (t1.t<|(EV r).t<|EV g) ((J.skip r).newL g<|amp m) 'o' (U p<|J.none t)
  |_=>exact U.r⟩
section
variable {tr:gJ}{pos:Pos}{m:Str}{g:Addr}
end
abbrev _v:=Keyed->Int
abbrev _p:=Array Keyed
abbrev _g:=List Keyed
def V1:Bool->Keyed->_p->Nat->Nat->Nat->StateT SortSt Sem (Option Nat):=sortPriv% PySem.Builtin.gallop
section
variable {w:aat}
structure Ord(prog:aas)(w:aat)(A:Around)(s:aar)(κ:SortKind)(Ok:Keyed->Prop)(f:_v):Prop where
 lt:∀x y,Ok x->Ok y->∀{E:aaa} {Q:Bool->aar->Prop},Q (decide<|f x<f y) s->wpAny 'w' A (keyLt' κ x.1 y.1) Q E s
variable {κ:SortKind}{Ok:Keyed->Prop}{f:_v}
def w_lt(O:Ord prog w A s κ Ok f){st:SortSt}{x y:Keyed}{Q:Option Bool->SortSt->Prop}(I:kindOf st=κ)(J:Ok x)(U:Ok y)(h:Q (some<|decide<|f x<f y) st):wpS 'w' A E s (lt' x y) Q st:=by rw[lt'_eq];refine Ad<|wpS_get ?_;rw[I];refine Ad<|wpS_lift<|wpAny_attempt<|O.lt x y J U {rfl,?_};exact Af h
def vt{arr:_p}{x:Keyed}{st:SortSt}{Q:Keyed->SortSt->Prop}(h:arr[i]?=some x)(q:Q x st):wpS 'w' A E s (elem' arr i) Q st:=by rw[elem'_eq,h];exact Af q
def Lq(left:Bool)(key:Keyed)(arr:_p)(i:Nat):StateT SortSt Sem (Option Bool):=elem' arr i >>= λx=>if left=true then lt' x key else lt' key x >>= λr=>pure<|r.map λb=>!b
def V2(O:Ord prog w A s κ Ok f){left:Bool}{key x:Keyed}{arr:_p}{st:SortSt}{Q:Option Bool->SortSt->Prop}(J:kindOf st=κ)(I:Ok key)(U:Ok x)(hi:arr[i]?=some x)
 (q:Q (some<|if left=true then decide (f x<f key) else !decide (f key<f x)) st):wpS 'w' A E s (Lq left key arr i) Q st:=by
 refine Ad<|vt hi ?_;cases left with|true=>exact w_lt O J U I q|false=>exact Ad<|w_lt O J I U<|Af q
def eO(O:Ord prog w A s κ Ok f){left:Bool}{key:Keyed}{arr:_p}{base hint:Nat}{st:SortSt}{Q:Option Nat->SortSt->Prop}(hk:kindOf st=κ)(a3:Ok key)(hh:hint<n)
 (it:Nat->Keyed) (hit:∀i,i<n->arr[base+i]?=some (it i)/\Ok (it i)) (o:Nat->Bool) (a4:∀i,i<n->o i=if left=true then decide (f (it i)<f key) else !decide (f key<f (it i)))
 (mono:∀i j,i<=j->j<n->o j=true->o i=true)
 (q:∀k,k<=n->(∀i,i<k->o i=true)->(∀i,k<=i->i<n->o i=false)->Q (some k) st):wpS 'w' A E s (V1 left key arr base n hint) Q st:=by
 have go:∀i,i<n->∀Q':Option Bool->SortSt->Prop,Q' (some<|o i) st->wpS 'w' A E s (Lq left key arr<|base+i) Q' st:=λi U Q' h=>V2 O hk a3 (hit i U).2 (hit i U).1 (by rw[<-a4 i U];exact h);refine Ad<|go hint hh _ ?_;dsimp only;cases hb:o hint with
 |true=>
  rw[AF rfl];refine Ad (AZ (AO (I:=λx c g=>g=st/\∃l J,c=(none,l,J)/\l<J/\l<n-hint/\o (hint+l)=true/\x+1<=J)
   (Q:=λc g=>g=st/\∃l J,c=(none,l,J)/\l<J/\l<n-hint/\o (hint+l)=true/\(n-hint<=J\/o (hint+J)=false)) ?_ ?_ ⟨rfl,0,1,rfl,B8 _,'m',hb,B8 _⟩) ?_)
  .rintro x c g _ hx ⟨rfl,l,J,rfl,h1,h2,h3,r⟩;by_cases c:J>=n-hint
   .rw[AF c];exact Af {rfl,l,J,rfl,h1,h2,h3,.inl c}
   .rw[Az c];refine Ad<|go (hint+J) 's' _ ?_;dsimp only;cases t:o (hint+J) with
    |true=>
     rw[Az 'r'];exact Af {rfl,J,2*J+1,rfl,by simp +arith only,JQ,t,'s'}
    |false=>
     rw[AF 'r'];exact Af {rfl,l,J,rfl,h1,h2,h3,.inr t}
  .rintro c g ⟨rfl,l,J,rfl,h1,h2,h3,r⟩;exact{rfl,l,J,rfl,h1,h2,h3,.inl 's'}
  .rintro c g ⟨rfl,l,J,rfl,h1,h2,h3,r⟩;obtain⟨lo,a1⟩:∃lo,lo=hint+l+1:={_,rfl};obtain⟨U,a2⟩:∃U,U=hint+min J (n-hint):={_,rfl};rw[<-a1,<-a2];have g1:lo<=U:='m'
   have g2:U<=n:='s'
   have g3:∀i,i<lo->o i=true:=λi U=>mono i (hint+l) 's' 's' h3;have g4:∀i,U<=i->i<n->o i=false:=λi h5 h6=>by
    obtain r|r:=r
    .omega
    .cases e:o i with
     |false=>rfl
     |true=>
      by_cases c:J<n-hint
      .rw[mono (hint+J) i 'm' h6 e] at r;cases r
      .omega
   refine Ad (AZ (AO (I:=λx c sx=>sx=g/\∃lo U,c=(none,lo,U)/\lo<=U/\U<=n/\(∀i,i<lo->o i=true)/\(∀i,U<=i->i<n->o i=false)/\U-lo+x<=n)
    (Q:=λc sx=>sx=g/\∃U,c=(none,U,U)/\U<=n/\(∀i,i<U->o i=true)/\(∀i,U<=i->i<n->o i=false)) ?_ ?_ ⟨rfl,lo,U,rfl,g1,g2,g3,g4,JS⟩) ?_)
   .rintro x c p _ hx ⟨rfl,lo,U,rfl,k1,C,T,k4,k5⟩;by_cases c:lo>=U
    .rw[AF c];have:lo=U:='s'
     subst this;exact Af {(rfl),lo,rfl,C,T,k4}
    .rw[Az c];refine Ad<|go (lo+(U-lo) / 2) 's' _ ?_;dsimp only;cases t:o (lo+(U-lo) / 2) with
     |true=>
      rw[AF rfl];exact Af {rfl,lo+(U-lo) / 2+1,U,rfl,'s',C,λi h5=>mono i _ (JR) 's' t,k4,'s'}
     |false=>
      rw[Az 'r'];refine Af {rfl,lo,lo+(U-lo) / 2,rfl,Bd _ _,'s',T,λi h5 h6=>?_,'m'};cases e:o i with|false=>rfl|true=>rw[mono _ i h5 h6 e] at t;cases t
   .rintro c p ⟨rfl,lo,U,rfl,k1,C,T,k4,k5⟩;have:lo=U:='s'
    subst this;exact{(rfl),lo,rfl,C,T,k4}
   .rintro c p ⟨rfl,U,rfl,C,T,k4⟩;exact Af<|q U C T k4
 |false=>
  rw[Az 'r'];refine Ad (AZ (AO (I:=λx c g=>g=st/\∃l J,c=(none,l,J)/\l<J/\l<hint+1/\o (hint-l)=false/\x+1<=J)
   (Q:=λc g=>g=st/\∃l J,c=(none,l,J)/\l<J/\l<hint+1/\o (hint-l)=false/\(hint+1<=J\/o (hint-J)=true)) ?_ ?_ ⟨rfl,0,1,rfl,'s',BZ _,hb,'s'⟩) ?_)
  .rintro x c g _ hx ⟨rfl,l,J,rfl,h1,h2,h3,r⟩;by_cases c:J>=hint+1
   .rw[AF c];exact Af {rfl,l,J,rfl,h1,h2,h3,.inl c}
   .rw[Az c];refine Ad<|go (hint-J) (ud) _ ?_;dsimp only;cases t:o (hint-J) with
    |true=>
     rw[AF rfl];exact Af {rfl,l,J,rfl,h1,h2,h3,.inr t}
    |false=>
     rw[Az 'r'];exact Af {rfl,J,2*J+1,rfl,'s',JQ,t,'s'}
  .rintro c g ⟨rfl,l,J,rfl,h1,h2,h3,r⟩;exact{rfl,l,J,rfl,h1,h2,h3,.inl<|yP}
  .rintro c g ⟨rfl,l,J,rfl,h1,h2,h3,r⟩;obtain⟨lo,a1⟩:∃lo,lo=hint+1-min J (hint+1):={_,rfl};obtain⟨U,a2⟩:∃U,U=hint-l:={_,rfl};rw[<-a1,<-a2];have g1:lo<=U:='m'
   have g2:U<=n:='m'
   have g3:∀i,i<lo->o i=true:=λi h5=>by
    obtain r|r:=r
    .omega
    .exact mono i (hint-J) 'm' (ud) r
   have g4:∀i,U<=i->i<n->o i=false:=λi h5 h6=>by cases e:o i with|false=>rfl|true=>rw[mono (hint-l) i 's' h6 e] at h3;cases h3
   refine Ad (AZ (AO (I:=λx c sx=>sx=g/\∃lo U,c=(none,lo,U)/\lo<=U/\U<=n/\(∀i,i<lo->o i=true)/\(∀i,U<=i->i<n->o i=false)/\U-lo+x<=n)
    (Q:=λc sx=>sx=g/\∃U,c=(none,U,U)/\U<=n/\(∀i,i<U->o i=true)/\(∀i,U<=i->i<n->o i=false)) ?_ ?_ ⟨rfl,lo,U,rfl,g1,g2,g3,g4,JS⟩) ?_)
   .rintro x c p _ hx ⟨rfl,lo,U,rfl,k1,C,T,k4,k5⟩;by_cases c:lo>=U
    .rw[AF c];have:lo=U:='s'
     subst this;exact Af {(rfl),lo,rfl,C,T,k4}
    .rw[Az c];refine Ad<|go (lo+(U-lo) / 2) 's' _ ?_;dsimp only;cases t:o (lo+(U-lo) / 2) with
     |true=>
      rw[AF rfl];exact Af {rfl,lo+(U-lo) / 2+1,U,rfl,'s',C,λi h5=>mono i _ 's' 's' t,k4,'s'}
     |false=>
      rw[Az 'r'];refine Af {rfl,lo,lo+(U-lo) / 2,rfl,'s','s',T,λi h5 h6=>?_,'s'};cases e:o i with|false=>rfl|true=>rw[mono _ i h5 h6 e] at t;cases t
   .rintro c p ⟨rfl,lo,U,rfl,k1,C,T,k4,k5⟩;have:lo=U:='s'
    subst this;exact{(rfl),lo,rfl,C,T,k4}
   .rintro c p ⟨rfl,U,rfl,C,T,k4⟩;exact Af<|q U C T k4
end
def V3:_p->_p->StateT SortSt Sem (_p):=sortPriv% PySem.Builtin.mergeLo
def V4:_p->_p->StateT SortSt Sem (_p):=sortPriv% PySem.Builtin.mergeHi
structure MI(f:_v)(la lb eW ra rb:_g):Prop where
 perm:(eW++(ra++rb)).C (la++lb)
 so:eW.H λx y=>f x<=f y
 sa:ra.H λx y=>f x<=f y
 sb:rb.H λx y=>f x<=f y
 oa:∀x∈eW,∀y∈ra,f x<=f y
 ob:∀x∈eW,∀y∈rb,f x<=f y
def MI.a{f:_v}{j l eW seg o U:_g}(h:MI f j l eW (seg++o) U)(hs:∀x∈seg,∀y∈U,f x<=f y):MI f j l (eW++seg) o U:=by
 have g:=AY.j h.sa;refine{?_,AY.d {h.so,g.1,λx I y J=>h.oa x I y<|An _ J},g.2.1,h.sb,λx I y J=>?_,λx I y J=>?_}
 .have:=h.perm;rw[AB] at this ⊢;exact this
 .rcases Am.j I with I|I
  .exact h.oa x I y<|Ai _ J
  .exact g.2.2 x I y J
 .rcases Am.j I with I|I
  .exact h.ob x I y J
  .exact hs x I y J
def MI.b{f:_v}{l o eW seg U g:_g}(h:MI f l o eW U<|seg++g)(hs:∀x∈seg,∀y∈U,f x<=f y):MI f l o (eW++seg) U g:=by
 have j:=AY.j h.sb;refine{?_,AY.d {h.so,j.1,λx I y J=>h.ob x I y<|An _ J},h.sa,j.2.1,λx I y J=>?_,λx I y J=>?_}
 .refine List.Perm.trans ?_ h.perm;rw[AB];exact(Bv eW).d (by rw[<-AB,<-AB];exact(Bt g).d BU)
 .rcases Am.j I with I|I
  .exact h.oa x I y J
  .exact hs x I y J
 .rcases Am.j I with I|I
  .exact h.ob x I y<|Ai _ J
  .exact j.2.2 x I y J
def aE(f:_v)(I J r:_g):Prop:=r.C (I++J)/\r.H λx y=>f x<=f y
def MI.ea{f:_v}{I J eW U:_g}(h:MI f I J eW U []):aE f I J (eW++U):={by have:=h.perm;rwa[AE] at this,AY.d {(h.so),h.sa,h.oa}}
def MI.eb{f:_v}{g j eW J U:_g}(h:MI f g j eW J U)(hs:∀x∈U,∀y∈J,f x<=f y):aE f g j (eW++U++J):=by
 refine{List.Perm.trans ?_ h.perm,?_}
 .rw[AB];exact(Bv eW).d BU
 .rw[AB];refine AY.d {h.so,AY.d {(h.sb),h.sa,hs},λx l y I=>?_};obtain I|I:=Am.j I
  .exact h.ob x l y I
  .exact h.oa x l y I
structure MP(f:_v)(a b eW:_p)(ia ib:Nat):Prop where
 mi:MI f a.z b.z eW.z (a.toList.G ia) (b.toList.G ib)
 sz:eW.q=ia+ib
 la:ia<=a.q
 lb:ib<=b.q
def Lr(a:_p)(h:i<a.q):a.toList.G i=a[i]::a.toList.G (i+1):=by rw[Cw (~~~h)];simp
def kJ(a:_p)(i j:Nat):(a.extract i j).z=(a.toList.G i).u (j-i):=by rw[Array.toList_extract,List.extract_eq_drop_take]
def Ls(l:_g)(i k:Nat):(l.G i).u k++l.G (i+k)=l.G i:=by rw[<-List.drop_drop,A1]
def uo{a:_p}{k:Nat}{x:Keyed}(h:x∈(a.toList.G i).u k):∃j,∃I:i+j<a.q,j<k/\a[i+j]=x:=by
 obtain⟨j,I,e⟩:=BM h;rw[A2,BQ] at I;have h1:i+j<a.q:=by have:a.toList.l=a.q:=Ba;omega
 refine{j,h1,'m',?_};rw[<-e];simp
def kO{a:_p}{x:Keyed}(h:x∈a.toList.G i):∃j,∃I:j<a.q,i<=j/\a[j]=x:=by
 obtain⟨j,I,e⟩:=BM h;rw[BQ] at I;have h1:i+j<a.q:=by have:a.toList.l=a.q:=Ba;omega
 refine{i+j,h1,Bd _ _,?_};rw[<-e];simp
def w_{f:_v}{a:_p}(s:a.toList.H λx y=>f x<=f y)(I:i<=j)(J:j<a.q):f (a[i]'(rS))<=f a[j]:=by
 obtain h|h:=Ed I
 .have:=C5.j s i j (~~~(rS:i<a.q)) (~~~J) h;simpa using this
 .subst h;exact Dp _
section
variable {f:_v}{a b eW:_p}{ia ib:Nat}
def MP.segA(M:MP f a b eW ia ib){k:Nat}(J:ia+k<=a.q)(h:∀i (hi:ia+i<a.q),i<k->∀j (I:j<b.q),ib<=j->f a[ia+i]<=f b[j]):MP f a b (eW++a.extract ia (ia+k)) (ia+k) ib:=by
 refine{?_,?_,J,M.lb}
 .rw[Bc,kJ,show ia+k-ia=k by omega];refine MI.a ([Ls]≈M.mi) λx U y g=>?_;obtain⟨i,hi,h1,rfl⟩:=uo U;obtain⟨j,I,h2,rfl⟩:=kO g;exact h i hi h1 j I h2
 .rw[B3,Dm,M.sz];lia
def MP.segB(M:MP f a b eW ia ib){k:Nat}(J:ib+k<=b.q)(h:∀i (hi:ib+i<b.q),i<k->∀j (I:j<a.q),ia<=j->f b[ib+i]<=f a[j]):MP f a b (eW++b.extract ib (ib+k)) ia (ib+k):=by
 refine{?_,?_,M.la,J}
 .rw[Bc,kJ,show ib+k-ib=k by lia];refine MI.b ([Ls]≈M.mi) λx U y g=>?_;obtain⟨i,hi,h1,rfl⟩:=uo U;obtain⟨j,I,h2,rfl⟩:=kO g;exact h i hi h1 j I h2
 .rw[B3,Dm,M.sz];lia
def MP.oneA(M:MP f a b eW ia ib)(hi:ia<a.q)(h:∀j (I:j<b.q),ib<=j->f a[ia]<=f b[j]):MP f a b (eW.I a[ia]) (ia+1) ib:=by refine{?_,by rw[BB,M.sz];simp +arith only,hi,M.lb};rw[Dt];refine MI.a (seg:=[a[ia]]) (by rw[DF,<-Lr a hi];exact M.mi) λx J y U=>?_;obtain⟨j,I,h2,rfl⟩:=kO U;rw[Ak.j J];exact h j I h2
def MP.oneB(M:MP f a b eW ia ib)(hi:ib<b.q)(h:∀j (I:j<a.q),ia<=j->f b[ib]<=f a[j]):MP f a b (eW.I b[ib]) ia (ib+1):=by refine{?_,by rw[BB,M.sz];exact EO _ _ _,M.la,hi};rw[Dt];refine MI.b (seg:=[b[ib]]) (by rw[DF,<-Lr b hi];exact M.mi) λx J y U=>?_;obtain⟨j,I,h2,rfl⟩:=kO U;rw[Ak.j J];exact h j I h2
def MP.done(M:MP f a b eW ia ib)(h:ib=b.q):aE f a.z b.z (eW++a.extract ia++b.extract ib).z:=by have e:b.toList.G ib=[]:=Ez (by rw[Ba];lia);have m:=M.mi;rw[e] at m;have:=m.ea;rw[Bc,Bc,kJ,kJ,e,List.take_nil,AE,A4 'r'];exact this
def MP.last(M:MP f a b eW ia ib)(h:ia+1=a.q)(I:∀x∈b.z,f x<f (a[a.q-1]' 'm')):aE f a.z b.z (eW++b.extract ib++a.extract ia).z:=by
 have:=M.mi.eb λx J y U=>by
  obtain⟨j,g,h2,rfl⟩:=kO U;have e:j=a.q-1:='m'
  subst e;exact BS<|I x<|CW J
 rw[Bc,Bc,kJ,kJ,A4 'r',A4 'r'];exact this
end
section
variable {w:aat}{κ:SortKind}{Ok:Keyed->Prop}{f:_v}
abbrev dN(st:SortSt)(g:Nat):SortSt:=SortSt.mk' (kindOf st) 'c' (pendingOf st) g<|failedOf st
def wB{c:Prop}{_:Decidable c}{K:β->StateT SortSt Sem α}{y:β}{Q:α->SortSt->Prop}{st:SortSt}(key:∀z,wpS 'w' A E s (K z) Q st):∀x,wpS 'w' A E s (if c then K x else K y) Q st:=λx=>by
 by_cases h:c
 .rw[AF h];exact key x
 .rw[Az h];exact key y
def oJ{γ:Type}{c:Prop}{_:Decidable c}{K T:β->γ->StateT SortSt Sem α}{P1 P2 P3 P4:β->γ->Prop}{x:β}{i:γ}{Q:α->SortSt->Prop}{st:SortSt}(key:∀o j,P1 o j->P2 o j->P3 o j->P4 o j->wpS 'w' A E s (K o j) Q st)(I:¬c->P1 x i/\P2 x i/\P3 x i/\P4 x i)
 (J:c->(∀o j,P1 o j->P2 o j->P3 o j->P4 o j->wpS 'w' A E s (K o j) Q st)->wpS 'w' A E s (T x i) Q st):∀o,x=o->∀j,i=j->wpS 'w' A E s (if c then T o j else K o j) Q st:=by
 rintro _ rfl _ rfl;by_cases h:c
 .rw[AF h];exact J h key
 .rw[Az h];obtain⟨a,b,d,e⟩:=I h;exact key x i a b d e
def ke{c:Prop} [Decidable c]{x y:StateT SortSt Sem α}{Q:α->SortSt->Prop}{st:SortSt}(h:c)(k:wpS M A E s x Q st):wpS M A E s (if c then x else y) Q st:=by rw[AF h];exact k
def xx{c:Prop} [Decidable c]{x y:StateT SortSt Sem α}{Q:α->SortSt->Prop}{st:SortSt}(h:¬c)(k:wpS M A E s y Q st):wpS M A E s (if c then x else y) Q st:=by rw[Az h];exact k
def hV{c:Prop} [Decidable c]{x y:StateT SortSt Sem α}{Q:α->SortSt->Prop}{st:SortSt}(h:c->wpS M A E s x Q st)(k:¬c->wpS M A E s y Q st):wpS M A E s (if c then x else y) Q st:=by
 by_cases d:c
 .rw[AF d];exact h d
 .rw[Az d];exact k d
def GY{a:_p}{P:Prop}(ok:∀x∈a.z,Ok x)(U:a.toList.H λx y=>f x<=f y)(d:Keyed)(k:∀t:Nat->Keyed,(∀i (hi:i<a.q),t i=a[i])->(∀i,i<a.q->a[i]?=some (t i))->(∀i,i<a.q->Ok (t i))->(∀{i j},i<=j->j<a.q->f (t i)<=f (t j))->P):P:=by
 have e:∀i (hi:i<a.q),(a[i]?).getD d=a[i]:=λi hi=>by simp[hi]
 exact k (λi=>(a[i]?).getD d) e (λi hi=>by simp[hi]) (λi hi=>by rw[e i hi];exact ok _ 'r') λ{i j} I J=>by rw[e i<|rS,e j J];exact w_ U I J
section
variable {B C D R γ:Type}{F1 F2 F3 F4:B->C->D->Prop}{st s0:SortSt}{m:β->StateT SortSt Sem α}{m':Option R×γ->StateT SortSt Sem α}{Q:α->SortSt->Prop}{G:R->Prop}
def Lu(h:∀g r d,G r->wpS 'w' A E s (m' (some r,d)) Q (dN st g)):∀c I,((∃g,I=dN st g)/\∃r,c.1=some r/\G r)->wpS 'w' A E s (m' c) Q I:=by rintro c I ⟨⟨g,rfl⟩,r,e,k⟩;obtain⟨_,d⟩:=c;cases e;exact h g r d k
def Lv{J:B->C->D->Nat->β}(h:∀g x y z k,F1 x y z->F2 x y z->F3 x y z->F4 x y z->wpS 'w' A E s (m<|J x y z k) Q (dN st g)):∀c I,((∃g,I=dN st g)/\∃x y z k,c=J x y z k/\F1 x y z/\F2 x y z/\F3 x y z/\F4 x y z)->wpS 'w' A E s (m c) Q I:=by rintro c I ⟨⟨g,rfl⟩,x,y,z,k,rfl,a,b,d,e⟩;exact h g x y z k a b d e
def Lx{J:B->C->D->Nat->Nat->β}(h:∀x y z k n,F1 x y z->F2 x y z->F3 x y z->F4 x y z->wpS 'w' A E s (m<|J x y z k n) Q s0):∀c I,(I=s0/\∃x y z k n,c=J x y z k n/\F1 x y z/\F2 x y z/\F3 x y z/\F4 x y z)->wpS 'w' A E s (m c) Q I:=by rintro c I ⟨rfl,x,y,z,k,n,rfl,a,b,d,e⟩;exact h x y z k n a b d e
def Ly{J:B->C->D->Nat->Nat->Option R×γ}(h:∀r d,G r->wpS 'w' A E s (m' (some r,d)) Q s0)(h':∀x y z k n,F1 x y z->F2 x y z->F3 x y z->F4 x y z->wpS 'w' A E s (m'<|J x y z k n) Q s0):∀c I,(I=s0/\((∃r,c.1=some r/\G r)\/∃x y z k n,c=J x y z k n/\F1 x y z/\F2 x y z/\F3 x y z/\F4 x y z))->wpS 'w' A E s (m' c) Q I:=by
 rintro c I ⟨rfl,⟨r,e,l⟩|⟨x,y,z,k,n,rfl,a,b,d,e⟩⟩
 .obtain⟨_,d⟩:=c;cases e;exact h r d l
 .exact h' x y z k n a b d e
def Lz{J:B->C->D->Nat->Nat->Nat->β}(h:∀g x y z k n l,F1 x y z->F2 x y z->F3 x y z->F4 x y z->wpS 'w' A E s (m<|J x y z k n l) Q (dN st g)):∀c I,((∃g,I=dN st g)/\∃x y z k n l,c=J x y z k n l/\F1 x y z/\F2 x y z/\F3 x y z/\F4 x y z)->wpS 'w' A E s (m c) Q I:=by rintro c I ⟨⟨g,rfl⟩,x,y,z,k,n,l,rfl,a,b,d,e⟩;exact h g x y z k n l a b d e
def LA{J:B->C->D->Nat->Nat->Nat->Option R×γ}(h:∀g r d,G r->wpS 'w' A E s (m' (some r,d)) Q (dN st g))(h':∀g x y z k n l,F1 x y z->F2 x y z->F3 x y z->F4 x y z->wpS 'w' A E s (m'<|J x y z k n l) Q (dN st g)):∀c I,((∃g,I=dN st g)/\((∃r,c.1=some r/\G r)\/∃x y z k n l,c=J x y z k n l/\F1 x y z/\F2 x y z/\F3 x y z/\F4 x y z))->wpS 'w' A E s (m' c) Q I:=by
 rintro c I ⟨⟨g,rfl⟩,⟨r,e,l⟩|⟨x,y,z,k,n,l,rfl,a,b,d,e⟩⟩
 .obtain⟨_,d⟩:=c;cases e;exact h g r d l
 .exact h' g x y z k n l a b d e
end
theorem V5(O:Ord prog w A s κ Ok f){a b:_p}{st:SortSt}{Q:_p->SortSt->Prop}(hk:kindOf st=κ)(bj:∀x∈a.z,Ok x)(bn:∀x∈b.z,Ok x)
 (sa:a.toList.H λx y=>f x<=f y) (sb:b.toList.H λx y=>f x<=f y) (ha:0<a.q) (hb:0<b.q) (h0:∀x∈a.z,f b[0]<f x) (hl:∀x∈b.z,f x<f a[a.q-1])
 (q:∀r g,aE f a.z b.z r.z->Q r (dN st g)):wpS 'w' A E s (V3 a b) Q st:=by
 refine Ad<|wpS_lift<|BJ {rfl,?_};refine Ad<|vt (x:=b[0]) (by simp[hb]) ?_;have M0:MP f a b #[b[0]] 0 1:=by have M:MP f a b #[] 0 0:={{'r','r',~~~sa,~~~sb,'r','r'},rfl,A7 _,A7 _};have:=M.oneB hb λj hj _=>BS<|h0 a[j] 'r';simpa using this
 by_cases c1:(1==b.q)=true
 .refine ke c1 ?_;exact Af<|q _ (gallopOf st)<|M0.done (~~~c1)
 refine xx c1 ?_;by_cases c2:(0+1==a.q)=true
 .refine ke c2 ?_;exact Af<|q _ (gallopOf st)<|M0.last (~~~c2) hl
 refine xx c2 ?_;have c1:¬1=b.q:=by simpa using c1
 have c2:¬1=a.q:=by simpa using c2
 refine Ad<|wpS_get ?_;have bp:∀i (hi:i<a.q),Ok a[i]:=λi hi=>bj _ 'r';have bq:∀i (hi:i<b.q),Ok b[i]:=λi hi=>bn _ 'r';have al:∀i (hi:i<a.q),a[i]?=some a[i]:=λi hi=>by simp[hi]
 have ar:∀i (hi:i<b.q),b[i]?=some b[i]:=λi hi=>by simp[hi]
 refine GY (f:=f) bj sa b[0] λtA bd c3 c4 c5=>GY (f:=f) bn sb b[0] λtB br c6 c7 c8=>?_;refine Ad (AZ (AO (I:=λx c p=>(∃g,p=dN st g)/\∃a3 l U mg,c=(none,a3,l,U,mg)/\MP f a b a3 l U/\l+1<a.q/\U<b.q/\x+1<=a3.q)
  (Q:=λc p=>(∃g,p=dN st g)/\∃r,c.1=some r/\aE f a.z b.z r.z) ?_ ?_ ⟨⟨gallopOf st,rfl⟩,_,_,_,_,rfl,M0,Fz,Fz,'r'⟩) ?_)
 .intro x c p _ hx;revert c p;refine Lv λg a3 l U mg M a1 t hs=>?_;refine Ad (AZ (AO (I:=λy c p=>p=dN st g/\∃J l U ac bc,c=(none,J,l,U,ac,bc)/\MP f a b J l U/\l+1<a.q/\U<b.q/\a3.q+y<=J.q)
   (Q:=λc p=>p=dN st g/\((∃r,c.1=some r/\aE f a.z b.z r.z)\/∃J l U ac bc,c=(none,J,l,U,ac,bc)/\MP f a b J l U/\l+1<a.q/\U<b.q/\a3.q+1<=J.q)) ?_ ?_ ⟨rfl,_,_,_,_,_,rfl,M,a1,t,Ap _⟩) ?_)
  .intro y c p _ hy;revert c p;refine Lx λJ l U ac bc M a1 t c0=>?_;have au:l<a.q:=l5;refine Ad<|vt (ar U t) ?_;refine Ad<|vt (al l au) ?_;refine Ad<|w_lt O hk (bq U t) (bp l au) ?_;by_cases c:f b[U]<f a[l]
   .refine ke (AJ c) ?_;refine Ad<|vt (ar U t) ?_;have M':=M.oneB t λj hj C=>BS<|Int.lt_of_lt_of_le c<|w_ sa C hj;have s2:(J.I b[U]).q=J.q+1:=BB _;by_cases e1:(U+1==b.q)=true
    .refine ke e1 ?_;exact Af {rfl,.inl {_,rfl,M'.done (~~~e1)}}
    .refine xx e1 ?_;have e1:¬U+1=b.q:=by simpa using e1
     refine hV (λ_=>?_) λ_=>?_
     .exact Af {rfl,.inr {_,_,_,_,_,rfl,M',a1,Fz,'s'}}
     .exact Af {rfl,_,_,_,_,_,rfl,M',a1,'s','s'}
   .refine xx (by rw[Ay c];decide) ?_;refine Ad<|vt (al l au) ?_;have M':=M.oneA 's' λj hj C=>BV 'm'<|w_ sb C hj;have s2:(J.I a[l]).q=J.q+1:=BB _;by_cases e1:(l+1+1==a.q)=true
    .refine ke e1 ?_;exact Af {rfl,.inl {_,rfl,M'.last (~~~e1) hl}}
    .refine xx e1 ?_;have e1:¬l+1+1=a.q:=by simpa using e1
     refine hV (λ_=>?_) λ_=>?_
     .exact Af {rfl,.inr {_,_,_,_,_,rfl,M',Fz,t,'s'}}
     .exact Af {rfl,_,_,_,_,_,rfl,M','s',t,'s'}
  .rintro c p ⟨rfl,J,l,U,ac,bc,rfl,M,a1,t,c0⟩;have:=M.sz;omega
  .refine Ly (λr d hr=>?_) λaL l U ac bc M a1 t c0=>?_
   .exact Af {{(g),rfl},r,rfl,hr}
   .dsimp only;refine Ad<|wpS_lift<|BJ {rfl,?_};refine Ad (AZ (AO (I:=λy c p=>(∃g,p=dN st g)/\∃J l U mg ac bc,c=(none,J,l,U,mg,ac,bc)/\MP f a b J l U/\l+1<a.q/\U<b.q/\aL.q+y<=J.q)
     (Q:=λc p=>(∃g,p=dN st g)/\((∃r,c.1=some r/\aE f a.z b.z r.z)\/∃J l U mg ac bc,c=(none,J,l,U,mg,ac,bc)/\MP f a b J l U/\l+1<a.q/\U<b.q/\aL.q<=J.q)) ?_ ?_ ⟨⟨g,rfl⟩,_,_,_,_,_,_,rfl,M,a1,t,Ap _⟩) ?_)
    .intro y c p _ hy;revert c p;refine Lz λg' J l U bf ac bc M a1 t ba=>?_;have au:l<a.q:=l5;generalize bf-1=c9;revert c9;refine wB (y:=bf) λcc=>?_
     all_goals
      refine Ad<|wpS_modify ?_;refine Ad<|vt (ar U t) ?_;refine Ad<|eO O hk (bq U t) 's' (λi=>tA<|l+i) (λi hi=>{c3 _ 's',c4 _ 's'}) (λi=>!decide (f b[U]<f (tA<|l+i))) (λi hi=>by rw[Az 'r']) (λi j C hj h=>?_) λk cm av bg=>?_
      .have:=c5 (i:=l+i) (j:=l+j) 's' 's';simp at h ⊢;lia
      have av:∀i,i<k->f (tA<|l+i)<=f b[U]:=λi hi=>by have:=av i hi;simpa using this
      have bg:∀i,k<=i->i<a.q-l->f b[U]<f (tA<|l+i):=λi hi hj=>by have:=bg i hi hj;simpa using this
      have kl:k<a.q-l:=by
       obtain h|h:=Ed cm
       .exact h
       .exfalso;have h1:=av (a.q-1-l) 's';have h2:=hl b[U] 'r';rw[show l+(a.q-1-l)=a.q-1 by lia,bd _<|Fy] at h1;omega
      have M1:MP f a b (J++a.extract l (l+k)) (l+k) U:=M.segA 's' λi hi bh j hj C=>by have h1:=av i bh;rw[bd _ hi] at h1;exact BV h1<|w_ sb C hj
      have pB:∀j (hj:j<a.q),l+k<=j->f b[U]<=f a[j]:=λj hj C=>by have h1:=bg (j-l) 's' 's';rw[show l+(j-l)=j by lia,bd _ hj] at h1;lia
      dsimp only;generalize cn:J=o0;generalize cv:l=j0;revert j0;revert o0;refine oJ (P1:=λo j=>MP f a b o j U) (P2:=λo j=>J.size<=o.q) (P3:=λo j=>j+1<a.q) (P4:=λo j=>∀j' (hj:j'<a.q),j<=j'->f b[U]<=f a[j']) (x:=J) (i:=l) (λa2 T M1 h3 l3 pB=>?tail) (λck=>?hN) λck key=>?hY
      case hN=>
       obtain rfl:k=0:='s'
       exact{M,Ap _,a1,λj hj C=>pB j hj 's'}
      case hY=>
       by_cases e1:(l+k+1==a.q)=true
       .refine ke e1 ?_;exact Af {{_,rfl},.inl {_,rfl,M1.last (~~~e1) hl}}
       .refine xx e1 (xx (show ¬(l+k==a.q)=true by simp;lia) ?_);have e1:¬l+k+1=a.q:=by simpa using e1
        exact key _ _ M1 ([B3]≈Bd _ _) 's' pB
      have bi:T<a.q:=l5
      all_goals
       refine Ad<|vt (ar U t) ?_;have M2:=M1.oneB t pB;have s2:(a2.I b[U]).q=a2.q+1:=BB _;by_cases e2:(U+1==b.q)=true
       case' pos=>
        refine ke e2 ?_;exact Af {{_,rfl},.inl {_,rfl,M2.done (~~~e2)}}
       case' neg=>
        refine xx e2 ?_;have e2:¬U+1=b.q:=by simpa using e2
        refine Ad<|vt (al T bi) ?_;refine Ad<|eO O hk (bp T bi) 's' (λi=>tB<|U+1+i) (λi hi=>{c6 _ 'm',c7 _ 's'}) (λi=>decide<|f (tB<|U+1+i)<f a[T]) (λi hi=>by rw[AF rfl]) (λi j C hj h=>?_) λk2 cB a4 a5=>?_
        .have:=c8 (i:=U+1+i) (j:=U+1+j) 's' 'm';simp at h ⊢;lia
        have a4:∀i,i<k2->f (tB<|U+1+i)<f a[T]:=λi hi=>by have:=a4 i hi;simpa using this
        have a5:∀i,k2<=i->i<b.q-(U+1)->f a[T]<=f (tB<|U+1+i):=λi hi hj=>by have:=a5 i hi hj;simpa using this
        have M3:MP f a b (a2.I b[U]++b.extract (U+1) (U+1+k2)) T (U+1+k2):=M2.segB 'm' λi hi bh j hj C=>by have h1:=a4 i bh;rw[br _ hi] at h1;exact BV (BS h1)<|w_ sa C hj
        have pA:∀j (hj:j<b.q),U+1+k2<=j->f a[T]<=f b[j]:=λj hj C=>by have h1:=a5 (j-(U+1)) 's' 'm';rw[show U+1+(j-(U+1))=j by lia,br _ hj] at h1;exact h1
        generalize cn:a2.I b[U]=o0;generalize cv:U+1=j0;revert j0;revert o0;refine oJ (P1:=λo j=>MP f a b o T j) (P2:=λo j=>a2.size+1<=o.q) (P3:=λo j=>j<b.q) (P4:=λo j=>∀j' (hj:j'<b.q),j<=j'->f a[T]<=f b[j']) (x:=a2.I b[U]) (i:=U+1) (λbb cP M3 h4 l4 pA=>?tail2) (λck=>?hN) λck key=>?hY
        case hN=>
         obtain rfl:k2=0:='s'
         exact{M2,DS s2.L,'s',λj hj C=>pA j hj C}
        case hY=>
         by_cases e3:(U+1+k2==b.q)=true
         .refine ke e3 ?_;exact Af {{_,rfl},.inl {_,rfl,M3.done (~~~e3)}}
         .refine xx e3 ?_;have e3:¬U+1+k2=b.q:=by simpa using e3
          exact key _ _ M3 (by rw[B3];lia) 's' pA
        all_goals
         refine Ad<|vt (al T bi) ?_;have M4:=M3.oneA 's' pA;have s4:(bb.I a[T]).q=bb.q+1:=BB _;by_cases e4:(T+1+1==a.q)=true
         .refine ke e4 ?_;exact Af {{_,rfl},.inl {_,rfl,M4.last (~~~e4) hl}}
         .refine xx e4 ?_;have e4:¬T+1+1=a.q:=by simpa using e4
          refine hV (λ_=>?_) λ_=>?_
          .exact Af {{_,rfl},.inr {_,_,_,_,_,_,rfl,M4,Fz,l4,'s'}}
          .exact Af {{_,rfl},_,_,_,_,_,_,rfl,M4,'s',l4,'s'}
    .rintro c p ⟨⟨g',rfl⟩,J,l,U,bf,ac,bc,rfl,M,a1,t,ba⟩;have:=M.sz;omega
    .refine LA (λg' r d hr=>?_) λg' cy l U cc ac bc M a1 t ba=>?_
     .exact Af {{(g'),rfl},r,rfl,hr}
     .dsimp only;refine Ad<|wpS_modify ?_;exact Af {{_,rfl},_,_,_,_,rfl,M,a1,t,'s'}
 .rintro c p ⟨⟨g,rfl⟩,a3,l,U,mg,rfl,M,a1,t,hs⟩;have:=M.sz;lia
 .exact Lu λg r d hr=>Af<|q r g hr
end
structure MH(f:_v)(la lb ra rb o:_g):Prop where
 perm:(ra++rb++o).C (la++lb)
 so:o.H λx y=>f x<=f y
 sa:ra.H λx y=>f x<=f y
 sb:rb.H λx y=>f x<=f y
 oa:∀x∈ra,∀y∈o,f x<=f y
 ob:∀x∈rb,∀y∈o,f x<=f y
def MH.a{f:_v}{l p o seg U g:_g}(h:MH f l p (U++seg) g o)(hs:∀x∈g,∀y∈seg,f x<=f y):MH f l p U g (seg++o):=by
 have j:=AY.j h.sa;refine{List.Perm.trans ?_ h.perm,AY.d {j.2.1,h.so,λx J y I=>h.oa x (Ai _ J) y I},j.1,h.sb,λx J y I=>?_,λx J y I=>?_}
 .rw[<-AB];refine(Bt o).d ?_;rw[AB,AB];exact(Bv U).d BU
 .rcases Am.j I with I|I
  .exact j.2.2 x J y I
  .exact h.oa x (An _ J) y I
 .rcases Am.j I with I|I
  .exact hs x J y I
  .exact h.ob x J y I
def MH.b{f:_v}{l p o seg U g:_g}(h:MH f l p U (g++seg) o)(hs:∀x∈U,∀y∈seg,f x<=f y):MH f l p U g (seg++o):=by
 have j:=AY.j h.sb;refine{?_,AY.d {j.2.1,h.so,λx J y I=>h.ob x (Ai _ J) y I},h.sa,j.1,λx J y I=>?_,λx J y I=>?_}
 .have:=h.perm;rw[<-AB,AB U g seg];exact this
 .rcases Am.j I with I|I
  .exact hs x J y I
  .exact h.oa x J y I
 .rcases Am.j I with I|I
  .exact j.2.2 x J y I
  .exact h.ob x (An _ J) y I
def MH.ea{f:_v}{I J o U:_g}(h:MH f I J [] U o):aE f I J (U++o):={by have:=h.perm;rwa[Cy] at this,AY.d {(h.sb),h.so,h.ob}}
def MH.eb{f:_v}{g j o J U:_g}(h:MH f g j J U o)(hs:∀x∈U,∀y∈J,f x<=f y):aE f g j (U++J++o):=by
 refine{List.Perm.trans ?_ h.perm,?_}
 .exact(Bt o).d BU
 .refine AY.d {AY.d {(h.sb),h.sa,hs},h.so,λx I y l=>?_};obtain I|I:=Am.j I
  .exact h.ob x I y l
  .exact h.oa x I y l
structure HP(f:_v)(a b eW:_p)(na nb:Nat):Prop where
 mi:MH f a.z b.z (a.toList.u na) (b.toList.u nb) eW.toList.reverse
 sz:eW.q+na+nb=a.q+b.q
 la:na<=a.q
 lb:nb<=b.q
def LB(a:_p)(h:i<a.q):a.toList.u (i+1)=a.toList.u i++[a[i]]:=by rw[Bh];simp[h]
def jZ{a:_p}{x:Keyed}(h:x∈a.toList.u i):∃j,∃I:j<a.q,j<i/\a[j]=x:=by
 obtain⟨j,I,e⟩:=BM h;rw[A2] at I;have h1:j<a.q:=by have:a.toList.l=a.q:=Ba;omega
 refine{j,h1,'m',?_};rw[<-e];simp
def GZ(l:_g){k:Nat}(h:i<=k):l.u i++(l.G i).u (k-i)=l.u k:=by have:=List.take_add (l:=l) (i:=i) (j:=k-i);rw[show i+(k-i)=k by omega] at this;exact this.L
section
variable {f:_v}{a b eW:_p}{nb:Nat}
def HP.segA(M:HP f a b eW na nb){k:Nat}(J:k<=na)(h:∀i (hi:i<a.q),k<=i->i<na->∀j (I:j<b.q),j<nb->f b[j]<=f a[i]):HP f a b (eW++(a.extract k na).reverse) k nb:=by
 have l:=M.la;refine{?_,?_,HA,M.lb}
 .rw[Bc,C9,CY,List.reverse_reverse,kJ];refine MH.a ([GZ _ J]≈M.mi) λx U y g=>?_;obtain⟨j,I,h2,rfl⟩:=jZ U;obtain⟨i,hi,h1,rfl⟩:=uo g;exact h (k+i) hi (Bd _ _) 's' j I h2
 .have:=M.sz;rw[B3,Array.size_reverse,Dm];lia
def HP.segB(M:HP f a b eW na nb){k:Nat}(J:k<=nb)(h:∀i (hi:i<b.q),k<=i->i<nb->∀j (I:j<a.q),j<na->f a[j]<=f b[i]):HP f a b (eW++(b.extract k nb).reverse) na k:=by
 have l:=M.lb;refine{?_,?_,M.la,'s'}
 .rw[Bc,C9,CY,List.reverse_reverse,kJ];refine MH.b ([GZ _ J]≈M.mi) λx U y g=>?_;obtain⟨j,I,h2,rfl⟩:=jZ U;obtain⟨i,hi,h1,rfl⟩:=uo g;exact h (k+i) hi 's' 's' j I h2
 .have:=M.sz;rw[B3,Array.size_reverse,Dm];lia
def HP.oneA(M:HP f a b eW (na+1) nb)(hi:na<a.q)(h:∀j (I:j<b.q),j<nb->f b[j]<=f a[na]):HP f a b (eW.I a[na]) na nb:=by refine{?_,by have:=M.sz;rw[BB];lia,l5,M.lb};rw[Dt,C9];refine MH.a (seg:=[a[na]]) (by rw[<-LB a hi];exact M.mi) λx J y U=>?_;obtain⟨j,I,h2,rfl⟩:=jZ J;rw[Ak.j U];exact h j I h2
def HP.oneB(M:HP f a b eW na<|nb+1)(hi:nb<b.q)(h:∀j (I:j<a.q),j<na->f a[j]<=f b[nb]):HP f a b (eW.I b[nb]) na nb:=by refine{?_,by have:=M.sz;rw[BB];lia,M.la,'s'};rw[Dt,C9];refine MH.b (seg:=[b[nb]]) (by rw[<-LB b hi];exact M.mi) λx J y U=>?_;obtain⟨j,I,h2,rfl⟩:=jZ J;rw[Ak.j U];exact h j I h2
def HP.done(M:HP f a b eW na nb)(h:na=0):aE f a.z b.z (a.extract 0 na++b.extract 0 nb++eW.reverse).z:=by subst h;have:=M.mi;rw[Du] at this;have:=this.ea;rw[Bc,Bc,kJ,kJ,CY];simpa using this
def HP.last(M:HP f a b eW na nb)(h:nb=1)(U:0<b.q)(h0:∀x∈a.z,f b[0]<f x):aE f a.z b.z (b.extract 0 nb++a.extract 0 na++eW.reverse).z:=by
 have:=M.mi.eb λx I y J=>by
  obtain⟨j,g,h2,rfl⟩:=jZ I;have e:j=0:='s'
  subst e;exact BS<|h0 y<|BO J
 rw[Bc,Bc,kJ,kJ,CY];simpa using this
end
def HP.preA{f:_v}{a b eW:_p}{nb:Nat}(M:HP f a b eW na nb)(h0:0<na)(h:∀j (I:j<b.q),j<nb->f b[j]<=f (a[na-1]'(by have:=M.la;omega))):HP f a b (eW.I (a[na-1]'(by have:=M.la;omega))) (na-1) nb:=by obtain⟨n,rfl⟩:∃n,na=n+1:={na-1,'s'};have J:=M.la;exact HP.oneA M 'p' h
def HP.preB{f:_v}{a b eW:_p}{nb:Nat}(M:HP f a b eW na nb)(h0:0<nb)(h:∀j (I:j<a.q),j<na->f a[j]<=f (b[nb-1]'(by have:=M.lb;omega))):HP f a b (eW.I (b[nb-1]'(by have:=M.lb;lia))) na (nb-1):=by obtain⟨n,rfl⟩:∃n,nb=n+1:={nb-1,'s'};have J:=M.lb;exact HP.oneB M 's' h
section
variable {w:aat}{κ:SortKind}{Ok:Keyed->Prop}{f:_v}
theorem V6(O:Ord prog w A s κ Ok f){a b:_p}{st:SortSt}{Q:_p->SortSt->Prop}(hk:kindOf st=κ)(bp:∀x∈a.z,Ok x)(bq:∀x∈b.z,Ok x)
 (sa:a.toList.H λx y=>f x<=f y) (sb:b.toList.H λx y=>f x<=f y) (ha:0<a.q) (hb:0<b.q) (h0:∀x∈a.z,f b[0]<f x) (hl:∀x∈b.z,f x<f a[a.q-1])
 (q:∀r g,aE f a.z b.z r.z->Q r (dN st g)):wpS 'w' A E s (V4 a b) Q st:=by
 have br:∀i (t:i<a.q),Ok a[i]:=λi t=>bp _ 'r';have c0:∀i (t:i<b.q),Ok b[i]:=λi t=>bq _ 'r';have al:∀i (t:i<a.q),a[i]?=some a[i]:=λi t=>by simp[t]
 have av:∀i (t:i<b.q),b[i]?=some b[i]:=λi t=>by simp[t]
 refine GY (f:=f) bp sa b[0] λtA c3 bf c5 c6=>GY (f:=f) bq sb b[0] λtB bg bh c7 c8=>?_;have bf:∀i,i<a.q->a[0+i]?=some (tA i):=λi t=>by rw[DV];exact bf i t
 have bh:∀i,i<b.q->b[0+i]?=some (tB i):=λi t=>by rw[DV];exact bh i t
 refine Ad<|wpS_lift<|BJ {rfl,?_};refine Ad<|vt (x:=a[a.q-1]) (al _<|Fy) ?_;have M0:HP f a b #[a[a.q-1]] (a.q-1) b.q:=by
  have M:HP f a b #[] (a.q-1+1) b.q:=by
   refine{{?_,'r',?_,?_,'r','r'},'l',Fy,Ap _}
   .rw[A4 'l',A4 'r'];simp
   .rw[A4 'l'];exact sa
   .rw[A4 'r'];exact sb
  have:=M.oneA 's' λj hj _=>BS<|hl b[j] 'r';simpa using this
 by_cases c1:(a.q-1==0)=true
 .refine ke c1 ?_;exact Af<|q _ (gallopOf st)<|M0.done (~~~c1)
 refine xx c1 ?_;by_cases c2:(b.q==1)=true
 .refine ke c2 ?_;exact Af<|q _ (gallopOf st)<|M0.last (~~~c2) hb h0
 refine xx c2 ?_;have c1:¬a.q-1=0:=by simpa using c1
 have c2:¬b.q=1:=by simpa using c2
 refine Ad<|wpS_get ?_;refine Ad (AZ (AO (I:=λx c l=>(∃g,l=dN st g)/\∃U nb a4 mg,c=(none,U,nb,a4,mg)/\HP f a b a4 U nb/\0<U/\1<nb/\x+1<=a4.q)
  (Q:=λc l=>(∃g,l=dN st g)/\∃r,c.1=some r/\aE f a.z b.z r.z) ?_ ?_ ⟨⟨gallopOf st,rfl⟩,_,_,_,_,rfl,M0,F7,'s','r'⟩) ?_)
 .intro x c l _ hx;revert c l;refine Lv λg U nb a4 mg M C a1 hs=>?_;refine Ad (AZ (AO (I:=λy c l=>l=dN st g/\∃U nb J ac bc,c=(none,U,nb,J,ac,bc)/\HP f a b J U nb/\0<U/\1<nb/\a4.q+y<=J.q)
   (Q:=λc l=>l=dN st g/\((∃r,c.1=some r/\aE f a.z b.z r.z)\/∃U nb J ac bc,c=(none,U,nb,J,ac,bc)/\HP f a b J U nb/\0<U/\1<nb/\a4.q+1<=J.q)) ?_ ?_ ⟨rfl,_,_,_,_,_,rfl,M,C,a1,Ap _⟩) ?_)
  .intro y c l _ hy;revert c l;refine Lx λU nb J ac bc M C a1 c4=>?_;have c9:=M.la;have cc:=M.lb;have a2:nb-1<b.q:='m'
   have ar:U-1<a.q:='s'
   refine Ad<|vt (av (nb-1) a2) ?_;refine Ad<|vt (al (U-1) ar) ?_;refine Ad<|w_lt O hk (c0 (nb-1) a2) (br (U-1) ar) ?_;by_cases c:f b[nb-1]<f a[U-1]
   .refine ke (AJ c) ?_;refine Ad<|vt (al (U-1) ar) ?_;have M':=M.preA C λj hj T=>BS<|Int.lt_of_le_of_lt (w_ sb (i:=j) (j:=nb-1) (CZ T) a2) c;have s2:(J.I a[U-1]).q=J.q+1:=BB _;by_cases e1:(U-1==0)=true
    .refine ke e1 ?_;exact Af {rfl,.inl {_,rfl,M'.done (~~~e1)}}
    .refine xx e1 ?_;have e1:¬U-1=0:=by simpa using e1
     refine hV (λ_=>?_) λ_=>?_
     .exact Af {rfl,.inr {_,_,_,_,_,rfl,M',F7,a1,'s'}}
     .exact Af {rfl,_,_,_,_,_,rfl,M','s',a1,'s'}
   .refine xx (by rw[Ay c];decide) ?_;refine Ad<|vt (av (nb-1) a2) ?_;have M':=M.preB (l5) λj hj T=>BV (w_ sa (i:=j) (j:=U-1) (CZ T) ar) 'm';have s2:(J.I b[nb-1]).q=J.q+1:=BB _;by_cases e1:(nb-1==1)=true
    .refine ke e1 ?_;exact Af {rfl,.inl {_,rfl,M'.last (~~~e1) hb h0}}
    .refine xx e1 ?_;have e1:¬nb-1=1:=by simpa using e1
     refine hV (λ_=>?_) λ_=>?_
     .exact Af {rfl,.inr {_,_,_,_,_,rfl,M',C,'s','s'}}
     .exact Af {rfl,_,_,_,_,_,rfl,M',C,'s','s'}
  .rintro c l ⟨rfl,U,nb,J,ac,bc,rfl,M,C,a1,c4⟩;have:=M.sz;omega
  .refine Ly (λr d hr=>?_) λU nb ba ac bc M C a1 c4=>?_
   .exact Af {{(g),rfl},r,rfl,hr}
   .dsimp only;refine Ad<|wpS_lift<|BJ {rfl,?_};refine Ad (AZ (AO (I:=λy c l=>(∃g,l=dN st g)/\∃U nb J mg ac bc,c=(none,U,nb,J,mg,ac,bc)/\HP f a b J U nb/\0<U/\1<nb/\ba.q+y<=J.q)
     (Q:=λc l=>(∃g,l=dN st g)/\((∃r,c.1=some r/\aE f a.z b.z r.z)\/∃U nb J mg ac bc,c=(none,U,nb,J,mg,ac,bc)/\HP f a b J U nb/\0<U/\1<nb/\ba.q<=J.q)) ?_ ?_ ⟨⟨g,rfl⟩,_,_,_,_,_,_,rfl,M,C,a1,Ap _⟩) ?_)
    .intro y c l _ hy;revert c l;refine Lz λg' U nb J bi ac bc M C a1 bb=>?_;have c9:=M.la;have cc:=M.lb;have a2:nb-1<b.q:='m'
     have ar:U-1<a.q:='s'
     generalize bi-1=cm;revert cm;refine wB (y:=bi) λcv=>?_
     all_goals
      refine Ad<|wpS_modify ?_;refine Ad<|vt (av (nb-1) a2) ?_;refine Ad<|eO O hk (c0 (nb-1) a2) (Fy) tA (λi t=>{bf _<|F6,c5 _ 's'}) (λi=>!decide (f b[nb-1]<f (tA i))) (λi t=>by rw[Az 'r']) (λi j T hj h=>?_) λk cy bj bn=>?_
      .have:=c6 (i:=i) (j:=j) 's'<|F6;simp at h ⊢;lia
      have bj:∀i,i<k->f (tA i)<=f b[nb-1]:=λi t=>by have:=bj i t;simpa using this
      have bn:∀i,k<=i->i<U->f b[nb-1]<f (tA i):=λi t hj=>by have:=bn i t hj;simpa using this
      have M1:=M.segA cy λi t h1 h2 j hj T=>by have h3:=bn i h1 h2;rw[c3 _ t] at h3;exact BV (w_ sb (i:=j) (j:=nb-1) (CZ T) a2)<|BS h3
      have pB:∀j (hj:j<a.q),j<k->f a[j]<=f b[nb-1]:=λj hj T=>by have h1:=bj j T;rw[c3 _ hj] at h1;exact h1
      dsimp only;generalize di:U-k=cn;generalize cB:J=o0;generalize cP:U=j0;revert j0;revert o0;refine oJ (P1:=λo j=>HP f a b o j nb) (P2:=λo j=>J.size<=o.q) (P3:=λo j=>0<j) (P4:=λo j=>∀j' (hj:j'<a.q),j'<j->f a[j']<=f b[nb-1]) (x:=J) (i:=U) (λa3 p M1 h3 l3 pB=>?tail) (λck=>?hN) λck key=>?hY
      case hN=>
       obtain rfl:k=U:='s'
       exact{M,Ap _,'s',pB}
      case hY=>
       by_cases e1:(k==0)=true
       .refine ke e1 ?_;exact Af {{_,rfl},.inl {_,rfl,M1.done (~~~e1)}}
       .refine xx e1 ?_;have e1:¬k=0:=by simpa using e1
        exact key _ _ M1 ([B3]≈Bd _ _) (F7) pB
      all_goals
       have dc:=M1.la;have aL:p-1<a.q:='s'
       refine Ad<|vt (av (nb-1) a2) ?_;have M2:=M1.preB (l5) pB;have s2:(a3.I b[nb-1]).q=a3.q+1:=BB _;by_cases e2:(nb-1==1)=true
       case' pos=>
        refine ke e2 ?_;exact Af {{_,rfl},.inl {_,rfl,M2.last (~~~e2) hb h0}}
       case' neg=>
        refine xx e2 ?_;have e2:¬nb-1=1:=by simpa using e2
        refine Ad<|vt (al (p-1) aL) ?_;refine Ad<|eO O hk (br (p-1) aL) 's' tB (λi t=>{bh _<|yP,c7 _ 's'}) (λi=>decide<|f (tB i)<f a[p-1]) (λi t=>by rw[AF rfl]) (λi j T hj h=>?_) λk2 d0 au a5=>?_
        .have:=c8 (i:=i) (j:=j) 's'<|yP;simp at h ⊢;lia
        have au:∀i,i<k2->f (tB i)<f a[p-1]:=λi t=>by have:=au i t;simpa using this
        have a5:∀i,k2<=i->i<nb-1->f a[p-1]<=f (tB i):=λi t hj=>by have:=a5 i t hj;simpa using this
        have k1:0<k2:=by
         obtain h|h:=Nat.eq_zero_or_pos k2
         .exfalso;have h5:=a5 0 (zR) 's';rw[bg _ hb] at h5;have h6:=h0 a[p-1] 'r';lia
         .exact h
        have M3:=M2.segB d0 λi t h1 h2 j hj T=>by have h5:=a5 i h1 h2;rw[bg _ t] at h5;exact BV (w_ sa (i:=j) (j:=p-1) (CZ T) aL) h5
        have pA:∀j (hj:j<b.q),j<k2->f b[j]<=f a[p-1]:=λj hj T=>by have h5:=au j T;rw[bg _ hj] at h5;exact BS h5
        dsimp only;generalize dj:nb-1-k2=dp;generalize cB:a3.I b[nb-1]=o0;generalize cP:nb-1=j0;revert j0;revert o0;refine oJ (P1:=λo j=>HP f a b o p j) (P2:=λo j=>a3.size+1<=o.q) (P3:=λo j=>1<j) (P4:=λo j=>∀j' (hj:j'<b.q),j'<j->f b[j']<=f a[p-1]) (x:=a3.I b[nb-1]) (i:=nb-1) (λbd dr M3 h4 l4 pA=>?tail2) (λck=>?hN) λck key=>?hY
        case hN=>
         obtain rfl:k2=nb-1:='s'
         exact{M2,DS s2.L,'s',pA}
        case hY=>
         by_cases e3:(k2==1)=true
         .refine ke e3 ?_;exact Af {{_,rfl},.inl {_,rfl,M3.last (~~~e3) hb h0}}
         .refine xx e3 (xx (show ¬(k2==0)=true by simp;exact JN) ?_);have e3:¬k2=1:=by simpa using e3
          exact key _ _ M3 (by rw[B3];lia) 's' pA
        all_goals
         refine Ad<|vt (al (p-1) aL) ?_;have M4:=M3.preA l3 pA;have s4:(bd.I a[p-1]).q=bd.q+1:=BB _;by_cases e4:(p-1==0)=true
         .refine ke e4 ?_;exact Af {{_,rfl},.inl {_,rfl,M4.done (~~~e4)}}
         .refine xx e4 ?_;have e4:¬p-1=0:=by simpa using e4
          refine hV (λ_=>?_) λ_=>?_
          .exact Af {{_,rfl},.inr {_,_,_,_,_,_,rfl,M4,F7,l4,'s'}}
          .exact Af {{_,rfl},_,_,_,_,_,_,rfl,M4,'s',l4,'s'}
    .rintro c l ⟨⟨g',rfl⟩,U,nb,J,bi,ac,bc,rfl,M,C,a1,bb⟩;have:=M.sz;omega
    .refine LA (λg' r d hr=>?_) λg' U nb de cv ac bc M C a1 bb=>?_
     .exact Af {{(g'),rfl},r,rfl,hr}
     .dsimp only;refine Ad<|wpS_modify ?_;exact Af {{_,rfl},_,_,_,_,rfl,M,C,a1,'s'}
 .rintro c l ⟨⟨g,rfl⟩,U,nb,a4,mg,rfl,M,C,a1,hs⟩;have:=M.sz;lia
 .exact Lu λg r d hr=>Af<|q r g hr
end
def V7{σ:Type}{st I:σ}{Q:PUnit->σ->Prop}(h:Q ⟨⟩ I):wpS M A E s (set I:StateT σ Sem PUnit) Q st:=by unfold wpS;rw[StateT.run_set];exact Aq {(rfl),h}
theorem pX{α:Type}:∀(m:List α) (arr:Array α) (i k:Nat),i+k+m.l<=arr.q->((m.zipIdx k).foldl (λ(a:Array α) (I:α×Nat)=>a.setIfInBounds (i+I.2) I.1) arr).z=arr.toList.u (i+k)++(m++arr.toList.G (i+k+m.l))
 |[],arr,i,k,h=>by simp
 |x::m,arr,i,k,h=>by
  rw[Et,List.foldl_cons];simp only[AK] at h;rw[pX m _ i (k+1) 'l'];have e:(arr.setIfInBounds (i+k) x).z=arr.toList.O (i+k) x:='r'
  have l:arr.toList.l=arr.q:=Ba;rw[e,List.drop_set,AF (by exact Bd _ _),<-EO,Bh,Bj 's',List.take_set_of_le (by simp +arith only),AK];simp;congr 1;simp +arith only
section
variable {w:aat}{κ:SortKind}{Ok:Keyed->Prop}{f:_v}
def wQ{l:_g}(s:l.H λx y=>f x<=f y)(I:i<=j)(J:j<l.l):f (l[i]'(rS))<=f l[j]:=by
 obtain h|h:=Ed I
 .exact C5.j s i j (rS) J h
 .subst h;exact Dp _
def Ip{l:_g}{x:Keyed}(h:x∈l):∃i,∃hi:i<l.l,l[i]=x:=BM h
def Iq{l:_g}{x:Keyed}(h:x∈l.u m):∃i,∃hi:i<l.l,i<m/\l[i]=x:=by obtain⟨i,hi,rfl⟩:=BM h;rw[A2] at hi;exact{i,'s','s',BG.L}
def G1{l:_g}{x:Keyed}{k:Nat}(h:x∈l.G k):∃i,∃hi:i<l.l,k<=i/\l[i]=x:=by obtain⟨i,hi,rfl⟩:=BM h;rw[BQ] at hi;exact{k+i,'s',Bd _ _,El.L}
theorem V8(O:Ord prog w A s κ Ok f){st:SortSt}{X Y:_g}{w1 w2:Nat}{Q:Bool->SortSt->Prop}(hk:kindOf st=κ)(hf:failedOf st=none)(hp:pendingOf st=#[(0,X.l,w1),(X.l,Y.l,w2)])(ea:'c'.z=X++Y)(ok:∀x∈X++Y,Ok x)
 (lX:0<X.l) (lY:0<Y.l) (sX:X.H λx y=>f x<=f y) (sY:Y.H λx y=>f x<=f y) (q:∀T,failedOf T=none->(pendingOf T).q=1->(arrOf T).toList.Perm (X++Y)->((arrOf T).toList.Pairwise λx y=>f x<=f y)->Q true T):wpS 'w' A E s (mergeAt' 0) Q st:=by
 have a1:(pendingOf st)[0]?=some (0,X.l,w1):=by rw[hp];rfl
 have a2:(pendingOf st)[0+1]?=some (X.l,Y.l,w2):=by rw[hp];rfl
 have a3:(((pendingOf st).setIfInBounds 0 (0,X.l+Y.l,w1)).eraseIdxIfInBounds<|0+1).q=1:=by simp[hp]
 refine Ad<|wpS_get ?_;rw[show(sortPriv% PySem.Builtin.SortState.pending) st=pendingOf st from rfl,a1,a2];refine Ad<|V7 ?_;generalize ((pendingOf st).setIfInBounds 0 (0,X.l+Y.l,w1)).eraseIdxIfInBounds (0+1)=pn at a3 ⊢;have av:∀i (I:i<X.l),'c'[i]?=some X[i]:=λi I=>by rw[<-Be,ea,AG I];simp
 have aL:∀i (I:i<Y.l),'c'[X.l+i]?=some Y[i]:=λi I=>by rw[<-Be,ea,AH<|Bd _ _,Bu];simp
 have al:∀x∈X,Ok x:=λx l=>ok x<|An _ l;have ar:∀x∈Y,Ok x:=λx l=>ok x<|Ai _ l;obtain⟨tX,ba⟩:∃t:Nat->Keyed,t=λi=>(X[i]?).getD X[0]:={_,rfl};have p:∀i (I:i<X.l),tX i=X[i]:=λi I=>by rw[ba];simp[I]
 obtain⟨tY,bb⟩:∃t:Nat->Keyed,t=λi=>(Y[i]?).getD X[0]:={_,rfl};have C:∀i (I:i<Y.l),tY i=Y[i]:=λi I=>by rw[bb];simp[I]
 refine Ad<|vt (x:=Y[0]) (aL 0 lY) ?_;refine Ad (eO O hk (ar _<|CM _) lX tX (λi I=>{by rw[p i I,DV];exact av i I,by rw[p i I];exact al _<|CM _}) (λi=>!decide (f Y[0]<f (tX i))) (λi I=>by rw[Az 'r']) (λi j au J h=>?_) λk bc a5 ac=>?_)
 .have:=wQ sX au J;rw[p j J] at h;rw[p i<|rS];simp at h ⊢;omega
 have a5:∀i (I:i<k),f (X[i]'(F6))<=f Y[0]:=λi I=>by have:=a5 i I;rw[p i 's'] at this;simpa using this
 have ac:∀i (J:i<X.l),k<=i->f Y[0]<f X[i]:=λi J I=>by have:=ac i I J;rw[p i J] at this;simpa using this
 dsimp only;rw[DV];by_cases c:(X.l-k==0)=true
 .rw[AF c];have c:X.l-k=0:=by simpa using c
  refine Af (q _ hf a3 (by rw[ea]) (by rw[ea];refine AY.d {sX,sY,λx l y hy=>?_};obtain⟨i,I,rfl⟩:=Ip l;obtain⟨j,J,rfl⟩:=Ip hy;exact BV (a5 i 's')<|wQ sY (A7 _) J))
 rw[Az c];have c:k<X.l:='s'
 refine Ad (vt (x:=X[X.l-1]) ([show k+(X.l-k)-1=X.l-1 by lia]≈av _ 's') ?_);refine Ad (eO O hk (al _<|CM _) 's' tY (λi I=>{by rw[C i I];exact aL i I,by rw[C i I];exact ar _<|CM _}) (λi=>decide<|f (tY i)<f X[X.l-1]) (λi I=>by rw[AF rfl]) (λi j au J h=>?_) λm bd a4 o=>?_)
 .have:=wQ sY au J;rw[C j J] at h;rw[C i<|rS];simp at h ⊢;omega
 have a4:∀i (I:i<m),f (Y[i]'(F6))<f X[X.l-1]:=λi I=>by have:=a4 i I;rw[C i 's'] at this;simpa using this
 have o:∀i (J:i<Y.l),m<=i->f X[X.l-1]<=f Y[i]:=λi J I=>by have:=o i I J;rw[C i J] at this;simpa using this
 have m0:0<m:=Nat.pos_of_ne_zero λh=>by have h5:=o 0 lY 's';have h6:=ac (X.l-1) 's' 's';omega
 dsimp only;rw[Az (show ¬(m==0)=true by simp;lia)];have ex:('c'.extract k X.l).z=X.G k:=by rw[kJ,ea,List.drop_append_of_le_length 's',DJ 'r',A4 'r']
 have ey:('c'.extract X.l<|X.length+m).z=Y.u m:=by rw[kJ,ea,List.drop_left,Bu]
 have jj:∀(r:_p) (g:Nat),aE f (X.G k) (Y.u m) r.z->Q (failedOf st).isNone (SortSt.mk' (kindOf st) (r.toList.zipIdx.foldl (λa x=>a.setIfInBounds (k+x.2) x.1)<|arrOf st) pn g<|failedOf st):=by
  rintro r g ⟨hm,hs⟩;have lr:r.toList.l=X.l-k+m:=by rw[hm.f];simp;lia
  have pt:=pX r.z 'c' k 0 (by rw[lr,<-Ba,ea,Ab];lia);rw[ea,lr,ED,show k+(X.l-k+m)=X.l+m by lia,DJ 's',List.drop_length_add_append] at pt;rw[hf];refine q _ rfl a3 ((EI pt).t ?_)<|Eq.subst (motive:=List.Pairwise λx y=>f x<=f y) pt.L ?_
  .have h1:=(Bv<|X.take k).d<|(Bt<|Y.drop m).d hm;rwa[AB<|X.drop k,A1,<-AB (X.u k) (X.G k),A1] at h1
  .refine AY.d {sX.sublist<|Ek _ _,AY.d {hs,sY.sublist<|List.drop_sublist _ _,λx l y hy=>?_},λx l y hy=>?_}
   .obtain⟨j,J,h2,rfl⟩:=G1 hy;obtain h|h:=Am.j (hm.mem_iff.j l)
    .obtain⟨i,I,_,rfl⟩:=G1 h;exact BV (wQ sX 's' 's')<|o j J h2
    .obtain⟨i,I,h1,rfl⟩:=Iq h;exact wQ sY 's' J
   .obtain⟨i,I,h1,rfl⟩:=Iq l;have low:∀z∈Y,f X[i]<=f z:=λz hz=>by obtain⟨j,J,rfl⟩:=Ip hz;exact BV (a5 i h1) (wQ sY (A7 _) J)
    obtain h|h:=Am.j hy
    .rcases Am.j (hm.mem_iff.j h) with h|h
     .obtain⟨j,J,h2,rfl⟩:=G1 h;exact wQ sX 's' J
     .exact low y<|BO h
    .exact low y<|CW h
 generalize 'c'.extract k X.l=U at ex ⊢;generalize 'c'.extract X.l (X.l+m)=V at ey ⊢;have zU:U.q=X.l-k:=by rw[<-Ba,ex];simp
 have zV:V.q=m:=by rw[<-Ba,ey];simp;lia
 have q5:0<U.q:='s'
 have q6:0<V.q:='s'
 have v0:V[0]=Y[0]:=by
  have:V.z[0]?=(Y.u m)[0]?:=by rw[ey]
  rw[Be,List.getElem?_take,AF m0] at this;simpa[q6,lY] using this
 have ul:U[U.q-1]=X[X.l-1]:=by
  have:U.z[U.q-1]?=(X.G k)[U.q-1]?:=by rw[ex]
  rw[Be,Ee,show k+(U.q-1)=X.l-1 by lia] at this;rw[Array.getElem?_eq_getElem 's',Ah 's'] at this;exact AV this
 have q1:∀x∈U.z,Ok x:=λx l=>al x (CW (by rw[ex] at l;exact l));have q2:∀x∈V.z,Ok x:=λx l=>ar x (BO (by rw[ey] at l;exact l));have q3:U.toList.H λx y=>f x<=f y:=by rw[ex];exact sX.sublist<|List.drop_sublist _ _
 have q4:V.toList.H λx y=>f x<=f y:=by rw[ey];exact sY.sublist<|Ek _ _
 have q7:∀x∈U.z,f V[0]<f x:=λx l=>by rw[v0];rw[ex] at l;obtain⟨i,I,h1,rfl⟩:=G1 l;exact ac i I h1
 have q8:∀x∈V.z,f x<f U[U.q-1]:=λx l=>by rw[ul];rw[ey] at l;obtain⟨i,I,h1,rfl⟩:=Iq l;exact a4 i h1
 rw[<-ex,<-ey] at jj;split
 .exact Ad<|V5 O hk q1 q2 q3 q4 q5 q6 q7 q8 λr g h=>Ad<|wpS_modify<|Ad<|wpS_get<|Af<|jj r g h
 .exact Ad<|V6 O hk q1 q2 q3 q4 q5 q6 q7 q8 λr g h=>Ad<|wpS_modify<|Ad<|wpS_get<|Af<|jj r g h
end
def mP{arr:Array α}{P R:List α}(h:arr.z=P++R)(J:n<=R.l):(mirror arr P.l (P.l+n)<|(P.l+n-P.l) / 2).z=P++((R.u n).reverse++R.G n):=by
 have U:P.l+n<=arr.q:=by rw[<-Ba,h,Ab];exact Nat.add_le_add_left J _
 have ap:∀(B:List α) (t:Nat),(P++B)[P.l+t]?=B[t]?:=λB t=>by rw[AH<|Bd ..,Bu]
 have I:=Dv J;refine Dw λk=>?_;rw[Be,getElem?_mirror_all U,<-Be,<-Be,h];obtain c|c:=CB k P.l
 .rw[Az λz=>ES.mpr z.1 c,AG c,AG c]
 obtain⟨j,rfl⟩:=Cp c;rw[ap ((R.u n).reverse++R.G n) j];obtain d|d:=CB j n
 .rw[AF {c,Nat.add_lt_add_left d _},show P.l+(P.l+n)-1-(P.l+j)=P.l+(n-1-j) by lia,ap,AG ([C8,I]≈d),List.getElem?_reverse ([I]≈d),I,List.getElem?_take,AF 's']
 .obtain⟨t,rfl⟩:=Cp d;rw[Az λz=>ES.mpr (Bd n t)<|Nat.lt_of_add_lt_add_left z.2,ap,AH ([C8,I]≈d),C8,I,Bu,Ee]
def V9{arr:Array α}{A Y Z:List α}{r:α}(h:arr.z=A++(Y++r::Z)):(bubble arr (A.l+Y.l) Y.l).z=A++r::(Y++Z):=by
 have J:A.l+Y.l<arr.q:=by rw[<-Ba,h,Ab,Ab];exact Nat.add_lt_add_left (Dq<|BZ _) _
 refine Dw λi=>?_;rw[Be,getElem?_bubble J _<|EH ..,Nat.add_sub_cancel,<-Be,<-Be,<-Be,h];obtain c|c:=CB i A.l
 .rw[Az<|Bi c,Az λz=>Nat.lt_asymm z.1 c,AG c,AG c]
 obtain⟨j,rfl⟩:=Cp c;have ap:∀(B:List α) (t:Nat),(A++B)[A.l+t]?=B[t]?:=λB t=>by rw[AH<|Bd ..,Bu]
 have I:∀(B:List α) (t:Nat),(Y++B)[Y.l+t]?=B[t]?:=λB t=>by rw[AH<|Bd ..,Bu]
 rw[ap (r::(Y++Z)) j];cases j with
 |zero=>rw[AF<|ED _,ap,List.getElem?_cons_zero];exact I _ 0
 |succ j=>
  rw[Az<|C1<|Dq<|BZ _,Dn,show A.l+(j+1)-1=A.l+j from rfl,ap _ j,ap _<|j+1];obtain d|d:=CB j Y.l
  .rw[AF {Dq<|BZ _,Nat.add_le_add_left d _},AG d,AG d]
  .obtain⟨t,rfl⟩:=Cp d;rw[Az λz=>ES.mpr d<|Nat.le_of_add_le_add_left z.2,I,show Y.l+t+1=Y.l+(t+1) from rfl,I,Dn]
def yG{arr:Array α}{P R:List α}{k l:Nat}(h:arr.z=P++R)(I:k<R.l)(J:l<=k):(bubble arr (P.l+k)<|P.length+k-(P.l+l)).z=P++(R.u l++R[k]::((R.G l).u (k-l)++R.G (k+1))):=by
 obtain⟨d,rfl⟩:=Cp J;have U:R.u l++((R.G l).u d++R[l+d]::R.G (l+d+1))=R:=by rw[<-Cw I,<-List.drop_drop,A1,A1]
 have g:=Dv<|AQ J<|Br I;have j:((R.G l).u d).l=d:=Dv (by rw[BQ];lia);have b:=V9 (arr:=arr) (A:=P++R.u l) (Y:=(R.G l).u d) (Z:=R.G<|l+d+1) (r:=R[l+d]) ([AB,U]≈h);rw[Ab,g,j,AB] at b;rw[Bu,show P.l+(l+d)=P.l+l+d from(EO _ _ _).L,Bu];exact b
section
variable {w:aat}{κ:SortKind}{Ok:Keyed->Prop}{f:_v}
structure Tl(κ:SortKind)(Ok:Keyed->Prop)(st:SortSt)(P R:_g):Prop where
 kind:kindOf st=κ
 arr:'c'.z=P++R
 ok:∀x∈R,Ok x
def mH(O:Ord prog w A s κ Ok f){st:SortSt}{P R:_g}(T:Tl κ Ok st P R)(hi:i<R.l)(I:j<R.l){a b:Nat}(ea:a=P.l+i)(eb:b=P.l+j){Q:Option Bool->SortSt->Prop}(q:Q (some<|decide<|f R[i]<f R[j]) st):wpS 'w' A E s (ltAt' a b) Q st:=by
 have at_:∀i (hi:i<R.l),'c'[P.l+i]?=some R[i]:=λi hi=>by rw[<-Be,T.arr,AH<|Bd _ _,Bu];simp
 subst ea eb;rw[ltAt'_eq];refine Ad<|wpS_get ?_;refine Ad<|vt (at_ i hi)<|Ad<|vt (at_ j I) ?_;exact w_lt O T.kind (T.ok _<|CM _) (T.ok _<|CM _) q
def Up(f:_v)(R:_g)(n:Nat):Prop:=∀i j (_:i<=j) (_:j<R.l),j<n->f (R[i]'(by exact rS))<=f R[j]
def Up.snoc{R:_g}(h:Up f R n)(h1:1<=n)(l:n<R.l)(hs:f (R[n-1]'(ud))<=f R[n]):Up f R (n+1):=λi j I J U=>by
 obtain c|c:=CB j n
 .exact h i j I J c
 .have e:j=n:='s'
  subst e;obtain g|g:=CB i j
  .exact BV (h i (j-1) 'm' (ud)<|Fy) hs
  .have e:i=j:='s'
   subst e;exact Dp _
def Up.pair{R:_g}(h:Up f R n)(g:n<=R.l):(R.u n).H λx y=>f x<=f y:=by rw[C5];intro i j I J U;rw[A2] at I J;rw[BG,BG];exact h i j (l5) 's' 's'
end
section
variable {w:aat}{κ:SortKind}{Ok:Keyed->Prop}{f:_v}
def Tl.same{st:SortSt}{P R R':_g}(T:Tl κ Ok st P R)(p:R'.C R){arr:_p}(h:arr.z=P++R'):Tl κ Ok (setArr st arr) P R':={T.kind,h,λx I=>T.ok x<|p.mem_iff.mp I}
def Up.one{R:_g}:Up f R 1:=λi j I J h=>by
 have:i=j:='s'
 subst this;exact Dp _
def l7{c:Prop}{_:Decidable c}{K T:StateT SortSt Sem α}{P:SortSt->Prop}{Q:α->SortSt->Prop}{st:SortSt}(J:¬c->P st)(key:∀I,P I->wpS 'w' A E s K Q I)
 (U:c->(∀I,P I->wpS 'w' A E s K Q I)->wpS 'w' A E s T Q st):wpS 'w' A E s (if c then T else K) Q st:=by
 by_cases h:c
 .rw[AF h];exact U h key
 .rw[Az h];exact key st<|J h
def im(f:_v)(R:_g)(n:Nat):Prop:=∀i j (_:i<=j) (_:j<R.l),j<n->f R[j]<=f (R[i]'(by exact rS))
def LC{R R':_g}(e:R'.y f=R.y f)(h1:i<R'.l)(h2:i<R.l):f R'[i]=f R[i]:=by
 have:(R'.y f)[i]?=(R.y f)[i]?:=by rw[e]
 rw[Al,Al,Ah h1,Ah h2] at this;exact AV this
def im.same{R R':_g}(D:im f R n)(e:R'.y f=R.y f):im f R' n:=λi j I U J=>by
 have l:R'.l=R.l:=by have:=A8 List.length e;rwa[Ac,Ac] at this
 rw[LC e U 's',LC e 's' 's'];exact D i j I 's' J
def im.snoc{R:_g}(h:im f R n)(h1:1<=n)(l:n<R.l)(hs:f R[n]<=f (R[n-1]'(ud))):im f R (n+1):=λi j I J U=>by
 obtain c|c:=CB j n
 .exact h i j I J c
 .have e:j=n:='s'
  subst e;obtain g|g:=CB i j
  .exact BV hs<|h i (j-1) 'm' (ud)<|Fy
  .have e:i=j:='s'
   subst e;exact Dp _
def qU{arr:_p}{P R:_g}{a b:Nat}{v:Int}(h:arr.z=P++R)(U:a<=b)(l:b<=R.l)(g:∀i (_:i<R.l),a<=i->i<b->f R[i]=v):
 ∃R',(mirror arr (P.l+a) (P.l+b)<|(P.l+b-(P.l+a)) / 2).z=P++R'/\R'.C R/\R'.y f=R.y f:=by
 have j:(P++R.u a).l=P.l+a:='l'
 have I:R=R.u a++((R.G a).u (b-a)++(R.G a).G (b-a)):=by rw[A1,A1]
 have m:=mP (P:=P++R.u a) (R:=R.G a) (n:=b-a) (by rw[h,AB,A1]) 'l';rw[j,show P.l+a+(b-a)=P.l+b by lia,AB] at m;refine{_,m,?_,?_}
 .refine List.Perm.trans ?_<|EI I.L;exact(Bv _).d ((Bt _).d<|Em _)
 .have r:((R.G a).u<|b-a).y f=List.replicate (b-a) v:=by refine List.ext_getElem 'l' λi h1 h2=>?_;rw[List.getElem_map,BG,El,List.getElem_replicate];rw[B7] at h2;exact g _ _ 's' 's'
  have J:=A8 (List.map f) I;rw[Ax,Ax,r] at J;rw[Ax,Ax,List.map_reverse,r,List.reverse_replicate,J]
theorem V'(O:Ord prog w A s κ Ok f){st:SortSt}{P R:_g}(T:Tl κ Ok st P R)(h1:1<=R.l){Q:Option Nat->SortSt->Prop}
 (q:∀n R' arr,1<=n->n<=R.l->R'.Perm R->arr.toList=P++R'->Up f R' n->Q (some n) (setArr st arr)):wpS 'w' A E s (countRun' P.l R.l) Q st:=by
 refine Ad (AZ (AO (I:=λx c g=>g=st/\c=(none,x)/\Up f R x)
  (Q:=λc g=>g=st/\∃n,c=(none,n)/\1<=n/\n<=R.l/\Up f R n/\(n=R.l\/∃h:n<R.l,f R[n]<f (R[n-1]'(ud)))) ?_ ?_ ⟨rfl,rfl,Up.one⟩) ?_)
 .rintro x c g t hx ⟨rfl,rfl,U⟩;refine Ad<|mH O T (i:=x) (j:=x-1) hx (ud) rfl 's' ?_;dsimp only;by_cases c:f R[x]<f (R[x-1]' 'm')
  .rw[AJ c,AF rfl];exact Af {rfl,x,rfl,t,l5,U,.inr {(hx),c}}
  .rw[Ay c,Az 'r'];exact Af {rfl,rfl,U.snoc t hx 'm'}
 .rintro c g ⟨rfl,rfl,U⟩;exact{rfl,_,rfl,'s','s',by rw[DH h1] at *;exact U,.inl 's'}
 .rintro c g ⟨rfl,n,rfl,a3,a4,U,ac⟩;dsimp only;by_cases c1:(n==R.l)=true
  .rw[AF c1];exact Af<|q n R (arrOf g) a3 a4 (CN _) T.arr U
  rw[Az c1];have c1:¬n=R.l:=by simpa using c1
  have ar:n<R.l:=Fz;have hd:f R[n]<f (R[n-1]' 'm'):=by
   obtain h|⟨h,h'⟩:=ac
   .exact absurd h c1
   .exact h'
  refine l7 (P:=λl=>∃arr R',l=setArr g arr/\arr.z=P++R'/\R'.C R/\im f R' (n+1)) (λc2=>{arrOf g,R,rfl,T.arr,CN _,?_}) ?_ λc2 key=>?_
  .obtain rfl:n=1:='s'
   exact im.snoc (λi j au hj a5=>by (have e:i=j:=by lia);(subst e;exact Dp _)) (Ap _) ar<|BS hd
  rotate_left
  .refine Ad<|mH O T (i:=0) (j:=n-1) 'p' (ud) rfl 'm' ?_;dsimp only;by_cases c3:f R[0]<f (R[n-1]' 'm')
   .rw[AJ c3,AF rfl];exact Af<|q n R (arrOf g) a3 a4 (CN _) T.arr U
   rw[Ay c3,Az 'r'];have al:∀i (_:i<R.l),0<=i->i<n->f R[i]=f R[0]:=λi hi _ ba=>by have a1:=U 0 i (A7 _) hi ba;have a2:=U i (n-1) 's' 's' 's';lia
   obtain⟨R',m1,m2,m3⟩:=qU (f:=f) T.arr (A7 n) a4 al;refine Ad<|wpS_modify<|key _ {_,R',rfl,m1,m2,im.same (im.snoc (λi j au hj a5=>?_) a3 ar<|BS hd) m3};rw[al j hj (A7 _) a5,al i 's' (A7 _) 's'];exact Dp _
  rintro _ ⟨arr,R0,rfl,p,av,D0⟩;refine Ad<|wpS_lift<|BJ {rfl,?_};have l0:=av.f;refine Ad (AZ (AO (I:=λx c l=>∃J arr R',c=(none,x,J)/\l=setArr g arr/\arr.z=P++R'/\R'.C R/\im f R' x/\J+1<=x/\∃v,∀i (_:i<R'.l),x-(J+1)<=i->i<x->f R'[i]=v)
   (Q:=λc l=>∃n J arr R',c=(none,n,J)/\l=setArr g arr/\arr.z=P++R'/\R'.C R/\im f R' n/\J+1<=n/\n<=R.l/\∃v,∀i (_:i<R'.l),n-(J+1)<=i->i<n->f R'[i]=v) ?_ ?_ ⟨0,arr,R0,rfl,rfl,p,av,D0,'s',f<|R0[n]' 's',λi hi h2 h3=>by (have e:i=n:=by lia);(subst e;rfl)⟩) ?_)
  .rintro x c l t hx ⟨J,arr,r,rfl,rfl,p,o,D,hq,v,C⟩;have l1:=o.f;have T1:=T.same o p;refine Ad<|mH O T1 (i:=x) (j:=x-1) 's' 's' rfl 's' ?_;dsimp only;by_cases c:f (r[x]' 's')<f (r[x-1]' 'm')
   .rw[AJ c,AF rfl];refine l7 (P:=λl=>∃arr R',l=setArr g arr/\arr.z=P++R'/\R'.C R/\im f R' (x+1)) (λ_=>{arr,r,rfl,p,o,D.snoc 's' 's'<|BS c}) ?_ λc2 key=>?_
    .rintro _ ⟨arr,R',rfl,p,o,D⟩;exact Af {0,arr,R',rfl,rfl,p,o,D,'s',f (R'[x]'(by have:=o.f;lia)),λi hi h2 h3=>by (have e:i=x:=by lia);(subst e;rfl)}
    .obtain⟨R',m1,m2,m3⟩:=qU (f:=f) (a:=x-(J+1)) (b:=x) p 's' 's' C;refine Ad<|wpS_modify<|key _ {_,R',rfl,?_,m2.t o,im.same (D.snoc 's' 's'<|BS c) m3};rw[<-m1];show(mirror arr (P.l+x-(J+1)) (P.l+x)<|(P.l+x-(P.l+x-(J+1))) / 2).z=_;rw[show P.l+x-(J+1)=P.l+(x-(J+1)) by lia]
   .rw[Ay c,Az 'r'];refine Ad<|mH O T1 (i:=x-1) (j:=x) 'm' 's' 's' rfl ?_;dsimp only;by_cases c3:f (r[x-1]' 'm')<f (r[x]' 's')
    .rw[AJ c3,AF rfl];exact Af {x,J,arr,r,rfl,rfl,p,o,D,hq,'s',v,C}
    .rw[Ay c3,Az 'r'];refine Af {J+1,arr,r,rfl,rfl,p,o,D.snoc 's' 's' 's','s',v,λi hi h2 h3=>?_};obtain h|h:=CB i x
     .exact C i hi 's' h
     .have:i=x:='s'
      subst this;rw[<-C (i-1) 's' 's' 's'];lia
  .rintro c l ⟨J,arr,r,rfl,rfl,p,o,D,hq,v,C⟩;exact{_,J,arr,r,rfl,rfl,p,o,D,hq,'s',v,C}
  .rintro c l ⟨n,J,arr,r,rfl,rfl,p,o,D,hq,g2,v,C⟩;have l1:=o.f;dsimp only;refine l7 (P:=λl=>∃arr R',l=setArr g arr/\arr.z=P++R'/\R'.C R/\im f R' n) (λ_=>{(arr),r,rfl,p,o,D}) ?_ (λc2 key=>?_)
   rotate_left
   .obtain⟨R',m1,m2,m3⟩:=qU (f:=f) (a:=n-(J+1)) (b:=n) p 's' 's' C;refine Ad<|wpS_modify<|key _ {_,R',rfl,?_,m2.t o,D.same m3};rw[<-m1];show(mirror arr (P.l+n-(J+1)) (P.l+n)<|(P.l+n-(P.l+n-(J+1))) / 2).z=_;rw[show P.l+n-(J+1)=P.l+(n-(J+1)) by lia]
   rintro _ ⟨arr,r,rfl,p,o,D⟩;have l1:=o.f;have T1:=T.same o p;have T':=T1.same (R':=(r.u n).reverse++r.G n) (((Bt _).d<|Em _).t (by rw[A1]))<|mP p 's';obtain⟨R',eR⟩:∃R',R'=(r.u n).reverse++r.G n:={_,rfl};have aL:R'.C R:=by rw[eR];exact(((Bt _).d<|Em _).t (by rw[A1])).t o
   have lR:=aL.f;have U':Up f R' n:=λi j au hj a5=>by
    subst eR;rw[Ep 'l',Ep 'l',List.getElem_reverse,List.getElem_reverse,BG,BG];refine D _ _ ?_ (by simp;omega) ?_
    .simp;omega
    .simp;omega
   rw[<-eR] at T';refine Ad<|wpS_modify ?_;refine Ad (AZ (AO (I:=λx c l=>l=setArr g (mirror arr P.l (P.l+n)<|(P.l+n-P.l) / 2)/\c=(none,x)/\Up f R' x)
    (Q:=λc l=>l=setArr g (mirror arr P.l (P.l+n)<|(P.l+n-P.l) / 2)/\∃n,c=(none,n)/\1<=n/\n<=R.l/\Up f R' n) ?_ ?_ ⟨rfl,rfl,U'⟩) ?_)
   .rintro x c l t hx ⟨rfl,rfl,U⟩;refine Ad<|mH O T' (i:=x) (j:=x-1) 's' 'm' rfl 's' ?_;dsimp only;by_cases c:f (R'[x]' 'm')<f (R'[x-1]' 'm')
    .rw[AJ c,AF rfl];exact Af {rfl,x,rfl,'s',l5,U}
    .rw[Ay c,Az 'r'];exact Af {rfl,rfl,U.snoc 'm' 's' 'm'}
   .rintro c l ⟨rfl,rfl,U⟩;exact{rfl,_,rfl,'s','s',U}
   .rintro c l ⟨rfl,n,rfl,k1,k2,U⟩;exact Af<|q n R' _ k1 k2 aL T'.arr U
end
section
variable {w:aat}{κ:SortKind}{Ok:Keyed->Prop}{f:_v}
def Up.of{R:_g}(h:(R.u n).H λx y=>f x<=f y):Up f R n:=λi j I U J=>by have:=wQ h (i:=i) (j:=j) I 'l';rw[BG,BG] at this;exact this
def Wa{R:_g}{k l:Nat}(I:k<R.l)(J:l<=k):(R.u l++R[k]::((R.G l).u (k-l)++R.G (k+1))).C R:=by
 have e:R=R.u l++((R.G l).u (k-l)++(R[k]::R.G (k+1))):=by rw[<-AB,GZ _ J,<-Cw I,A1]
 refine List.Perm.trans ?_<|EI e.L;exact(Bv _).d C2.L
def Wb{R:_g}{k l:Nat}(p:k<R.l)(r:l<=k)(U:Up f R k)(lo:∀i (_:i<l),f (R[i]' 's')<=f R[k])(hi:∀i (_:i<k),l<=i->f R[k]<=f (R[i]'(yP))):
 Up f (R.u l++R[k]::((R.G l).u (k-l)++R.G (k+1))) (k+1):=by
 apply Up.of;have e:R.u l++R[k]::((R.G l).u (k-l)++R.G (k+1))=(R.u l++R[k]::(R.G l).u (k-l))++R.G (k+1):='r'
 rw[e,List.take_left' 'l'];have I:=U.pair<|Br p;rw[<-GZ R r] at I;have I:=AY.j I;have t:∀y∈(R.G l).u (k-l),f R[k]<=f y:=λy J=>by obtain⟨j,o,rfl⟩:=BM J;rw[A2,BQ] at o;rw[BG,El];exact hi (l+j) 's'<|Bd _ _
 have C:∀x∈R.u l,f x<=f R[k]:=λx g=>by obtain⟨j,o,rfl⟩:=BM g;rw[A2] at o;rw[BG];exact lo j 's'
 refine AY.d {I.1,List.pairwise_cons.mpr {(t),I.2.1},λx g y J=>?_};obtain rfl|J:=Ao.j J
 .exact C x g
 .exact I.2.2 x g y J
def Wc(O:Ord prog w A s κ Ok f){st:SortSt}{P R:_g}(T:Tl κ Ok st P R){ok:Nat}(hn:n<=R.l)(h1:1<=ok)(ho:ok<=n)(U:Up f R ok){Q:Bool->SortSt->Prop}
 (q:∀R' arr,R'.C R->arr.toList=P++R'->Up f R' n->Q true (setArr st arr)):wpS 'w' A E s (binarySort' P.l n ok) Q st:=by
 refine Ad (AZ (AO (I:=λx c J=>c=(none,())/\∃R' arr,J=setArr st arr/\R'.C R/\arr.z=P++R'/\Up f R' x)
  (Q:=λc J=>c=(none,())/\∃R' arr,J=setArr st arr/\R'.C R/\arr.z=P++R'/\Up f R' n) ?_ ?_ ⟨rfl,R,arrOf st,rfl,CN _,T.arr,by rw[DM h1];exact U⟩) ?_)
 .rintro x c J a1 hx ⟨rfl,R',arr,rfl,p,t,o⟩;have T':=T.same p t;have lR:=p.f;have g:x<R'.l:='s'
  refine Ad (AZ (AO (I:=λy c J=>J=setArr st arr/\∃l r,c=(none,l,r)/\l<=r/\r<=x/\r-l+y<=x/\(∀i (_:i<l) (_:i<R'.l),f R'[i]<=f R'[x])/\(∀i (_:i<x),r<=i->f R'[x]<=f (R'[i]'(yP))))
   (Q:=λc J=>J=setArr st arr/\∃l,c=(none,l,l)/\l<=x/\(∀i (_:i<l) (_:i<R'.l),f R'[i]<=f R'[x])/\(∀i (_:i<x),l<=i->f R'[x]<=f (R'[i]' 's'))) ?_ ?_ ⟨rfl,0,x,rfl,A7 _,Ap _,Nat.sub_le _ _,λi h=>'s',λi h h'=>'m'⟩) ?_)
  .rintro y c J _ hy ⟨rfl,l,r,rfl,g1,g2,g3,C,g5⟩;by_cases c:l>=r
   .rw[AF c];obtain rfl:l=r:='s'
    exact Af {(rfl),l,rfl,g2,C,g5}
   .rw[Az c];refine Ad<|mH O T' (i:=x) (j:=(l+r) / 2) g 's' rfl rfl ?_;dsimp only;by_cases e:f R'[x]<f (R'[(l+r) / 2]' 's')
    .rw[AJ e,AF rfl];refine Af {rfl,l,(l+r) / 2,rfl,'s','s','m',C,λi h h'=>?_};exact BV (BS e)<|o _ _ h' (yP) h
    .rw[Ay e,Az 'r'];refine Af {rfl,(l+r) / 2+1,r,rfl,'s',g2,'m',λi h h'=>?_,g5};exact BV (o i ((l+r) / 2) (JR) 's' 's') 'm'
  .rintro c J ⟨rfl,l,r,rfl,g1,g2,g3,C,g5⟩;obtain rfl:l=r:='s'
   exact{(rfl),l,rfl,g2,C,g5}
  .rintro c J ⟨rfl,l,rfl,g2,C,g5⟩;refine Ad<|wpS_modify ?_;exact Af {rfl,_,_,rfl,(Wa g g2).t p,yG t g g2,Wb g g2 o (λi h=>C i h 's') g5}
 .rintro c J ⟨rfl,R',arr,rfl,p,t,o⟩;exact{rfl,R',arr,rfl,p,t,by rw[DM h1,DH ho] at o;exact o}
 .rintro c J ⟨rfl,R',arr,rfl,p,t,o⟩;exact Af<|q R' arr p t o
end
section
variable {w:aat}{κ:SortKind}{Ok:Keyed->Prop}{f:_v}
def We{N:Nat}(h:N<128):N<=2*(sortPriv% PySem.Builtin.minRun) N N 0:=by
 show N<=2*minRun' N N 0;cases N with
 |zero=>exact A7 _
 |succ r=>
  rw[minRun'_succ];split
  .lia
  .cases r with|zero=>lia|succ r=>rw[minRun'_succ,AF 's'];lia
def Ir(f:_v)(I:Nat)(pn:Array<|Nat×Nat×Nat)(X Y R:_g):Prop:=
 (pn=#[]/\X=[]/\Y=[])\/(∃w,pn=#[(0,X.l,w)]/\Y=[]/\(I<=X.l\/R=[])/\X.H λx y=>f x<=f y)\/
  ∃w v,pn=#[(0,X.l,w),(X.l,Y.l,v)]/\0<X.l/\0<Y.l/\R=[]/\(X.H λx y=>f x<=f y)/\Y.H λx y=>f x<=f y
theorem Wf(O:Ord prog w A s κ Ok f){st:SortSt}{Q:Unit->SortSt->Prop}(a3:'c'.q<128)(hk:kindOf st=κ)(hp:pendingOf st=#[])(hf:failedOf st=none)(ok:∀x∈'c'.z,Ok x)
 (q:∀g,failedOf g=none->(arrOf g).toList.Perm 'c'.z->((arrOf g).toList.Pairwise λx y=>f x<=f y)->Q () g):wpS 'w' A E s sortRuns' Q st:=by
 refine Ad<|wpS_get ?_;dsimp only;have lN:'c'.toList.length='c'.q:=Ba;obtain⟨N,eN⟩:∃N,N='c'.q:={_,rfl};rw[<-eN] at a3 lN ⊢;obtain⟨Z,eZ⟩:∃Z,Z='c'.z:={_,rfl};rw[<-eZ] at lN ok q;have ar:=We a3;generalize (sortPriv% PySem.Builtin.minRun) N N 0=mr at ar ⊢;refine Ad (AZ (AO (I:=λx c g=>∃X Y R lo,c=(none,lo)/\kindOf g=κ/\failedOf g=none/\(arrOf g).z=X++Y++R/\(X++Y++R).C Z/\lo=(X++Y).l/\Ir f mr (pendingOf g) X Y R/\x<=lo)
  (Q:=λc g=>∃X Y lo,c=(none,lo)/\kindOf g=κ/\failedOf g=none/\(arrOf g).z=X++Y/\(X++Y).C Z/\Ir f mr (pendingOf g) X Y []) ?_ ?_ ⟨[],[],Z,0,rfl,hk,hf,eZ.L,.refl _,rfl,.inl ⟨hp,rfl,rfl⟩,Ap _⟩) ?_)
 .rintro x c g _ hx ⟨X,Y,R,lo,rfl,k1,k2,t,r,rfl,k6,k7⟩;have lt:=r.f;rw[Ab,lN] at lt;by_cases c:(X++Y).l>=N
  .rw[AF c];cases BH (show R.l=0 by lia);rw[AE] at t r;exact Af {X,Y,_,rfl,k1,k2,t,r,k6}
  rw[Az c,show N-(X++Y).l=R.l by lia];have T:Tl κ Ok g (X++Y) R:={k1,t,λx hx=>ok x<|r.mem_iff.mp<|Ai _ hx};refine Ad<|V' O T 's' λn R1 a4 g1 g2 a1 ac U1=>?_;dsimp only;have l1:=a1.f;have jj:∀{J:SortSt} {R2:_g} {j:Nat} {pn:Array<|Nat×Nat×Nat},kindOf J=κ->failedOf J=none->(arrOf J).z=X++Y++R2->pendingOf J=pn.I ((X++Y).l,j,0)->((pendingOf g=#[]/\pn=#[])\/∃v,pn=(pendingOf g).modify ((pendingOf g).q-1) λp=>(p.1,p.2.1,v))->R2.Perm R->1<=j->j<=R.l->(mr<=j\/j=R.l)->Up f R2 j->
   ∃X' Y' R' lo,((none,(X++Y).l+j):Option Unit×Nat)=(none,lo)/\kindOf J=κ/\failedOf J=none/\(arrOf J).z=X'++Y'++R'/\(X'++Y'++R').C Z/\lo=(X'++Y').l/\Ir f mr (pendingOf J) X' Y' R'/\x+1<=lo:=λ{J R2 j pn} h1 h2 h3 h4 hn p2 h5 h6 h7 U=>by
   have l2:=p2.f;have au:(R2.u j).l=j:=by rw[A2];lia
   have U':=U.pair 's';have pz:=((Bv _).d p2).t r;rcases k6 with⟨o,rfl,rfl⟩|⟨w,o,rfl,h8,h9⟩|⟨w,v',o,_,_,rfl,_⟩
   .have e2:pn=#[]:=by
     rcases hn with⟨_,h⟩|⟨v,h⟩
     .exact h
     .rw[h,o];rfl
    refine{R2.u j,[],R2.G j,_,rfl,h1,h2,by rw[h3];simp,~~~pz,'l',.inr (.inl {0,by rw[h4,e2,au];rfl,rfl,?_,U'}),'s'};obtain h|h:=h7
    .exact .inl 's'
    .exact .inr<|Ez 's'
   .have e2:∃v,pn=#[(0,X.l,v)]:=by
     rcases hn with⟨h,_⟩|⟨v,h⟩
     .rw[o] at h;cases h
     .exact{v,by rw[h,o];rfl}
    obtain⟨v,e2⟩:=e2;have r0:R≠[]:=λe=>by rw[e] at h6;exact absurd h6 'l'
    have h8:=h8.resolve_right r0;rw[AE] at h3 h4 pz lt c ⊢;have en:j=R2.l:=by obtain h'|h':=h7<;>lia
    rw[A4 's'] at U';exact{X,R2,[],_,rfl,h1,h2,by rw[h3];simp,~~~pz,by rw[Ab,en],.inr (.inr {v,0,by rw[h4,e2,en];rfl,'s','s',rfl,h9,U'}),'s'}
   .exact absurd h6 'l'
  have sz:(pendingOf g).q<=1:=by
   rcases k6 with⟨o,_⟩|⟨w,o,_⟩|⟨w,v',o,_,_,rfl,_⟩
   .rw[o];exact A7 _
   .rw[o];exact Ap _
   .exact absurd lt (by simp at c ⊢;lia)
  by_cases cm:n<mr
  case' pos=>
   rw[AF cm];refine Ad<|wpS_lift<|BJ {rfl,?_};refine Ad<|Wc O (T.same a1 ac) 's' g1 's' U1 λR2 al av aL U2=>?_;rw[Az 'r'];obtain⟨j,a2⟩:∃j,j=min R.l mr:={_,rfl};rw[<-a2] at U2 ⊢;have p2:=av.t a1;have h7:mr<=j\/j=R.l:='s'
   obtain⟨l,C⟩:∃l,l=setArr (setArr g a4) al:={_,rfl}
  case' neg=>
   rw[Az cm];obtain⟨j,a2⟩:∃j,j=n:={_,rfl};obtain⟨R2,a5⟩:∃R2,R2=R1:={_,rfl};rw[<-a2,<-a5] at U1;rw[<-a2];have U2:=U1;have p2:R2.C R:=by rw[a5];exact a1
   have h7:mr<=j\/j=R.l:='s'
   obtain⟨l,C⟩:∃l,l=setArr g a4:={_,rfl}
  all_goals
   have n1:1<=j:='s'
   have n3:j<=R.l:='s'
   have o:kindOf l=κ:=by rw[C];exact k1
   have e2:failedOf l=none:=by rw[C];exact k2
   have e3:(arrOf l).z=X++Y++R2:=by rw[C];first|exact aL|(rw[a5];exact ac)
   have e4:pendingOf l=pendingOf g:=by rw[C]
   rw[<-C];refine Ad<|wpS_get ?_;split
   .refine Ad<|AZ (AO (I:=λy c J=>c=(none,())/\J=l) (Q:=λc J=>c=(none,())/\J=l) ?_ ?_ {(rfl),rfl}) ?_
    .rintro y c J _ hy ⟨rfl,rfl⟩;refine Ad<|wpS_get ?_;rw[Az (show ¬(pendingOf J).q > 1 by rw[e4];lia)];exact Af {(rfl),rfl}
    .exactλc J h=>h
    .rintro c J ⟨rfl,rfl⟩;refine Ad<|wpS_modify<|Ad<|wpS_modify<|Af ?_;exact jj o e2 e3 rfl (.inr {_,by rw[<-e4]}) p2 n1 n3 h7 U2
   .rename_i hb;have hb:(pendingOf l).back?=none:=Option.eq_none_iff_forall_ne_some.mpr λp=>hb p.1 p.2.1 p.2.2;rw[e4,Array.back?_eq_none_iff] at hb;exact Ad<|wpS_modify<|Af<|jj o e2 e3 rfl (.inl {hb,e4.t hb}) p2 n1 n3 h7 U2
 .rintro c g ⟨X,Y,R,lo,rfl,k1,k2,t,r,rfl,k6,k7⟩;have lt:=r.f;rw[Ab,lN] at lt;cases BH (show R.l=0 by lia);rw[AE] at t r;exact{X,Y,_,rfl,k1,k2,t,r,k6}
 .rintro c g ⟨X,Y,lo,rfl,k1,k2,t,r,k6⟩;have lt:=r.f;rw[lN] at lt;refine Ad (AZ (AO (I:=λy c J=>c=(none,())/\((y=0/\J=g)\/(failedOf J=none/\(pendingOf J).q<=1/\(arrOf J).toList.Perm Z/\(arrOf J).toList.Pairwise λx y=>f x<=f y)))
   (Q:=λc J=>c=(none,())/\failedOf J=none/\(arrOf J).toList.Perm Z/\(arrOf J).toList.Pairwise λx y=>f x<=f y) ?_ ?_ ⟨rfl,.inl ⟨rfl,rfl⟩⟩) ?_)
  .rintro y c J _ hy ⟨rfl,h⟩;refine Ad<|wpS_get ?_;rcases h with⟨rfl,rfl⟩|⟨h1,h2,h3⟩
   .rcases k6 with⟨o,rfl,rfl⟩|⟨w,o,rfl,_,h9⟩|⟨w,v,o,lX,lY,_,sX,sY⟩
    .rw[AF (show(pendingOf J).q<=1 by rw[o];exact A7 _)];exact Af {rfl,k2,by rw[t];exact r,by rw[t];exact .nil}
    .rw[AF (show(pendingOf J).q<=1 by rw[o];exact Ap _)];exact Af {rfl,k2,by rw[t];exact r,by rw[t,AE];exact h9}
    .rw[Az (show ¬(pendingOf J).q<=1 by rw[o];exact Nat.not_succ_le_self 1)];have gen:∀b:Bool,(if b=true then(pendingOf J).q-2-1 else(pendingOf J).q-2)=0:=λb=>by cases b<;>rw[o]<;>rfl
     refine Ad ?_;rw[gen];refine V8 O k1 k2 o t (λx hx=>ok x<|r.mem_iff.mp hx) lX lY sX sY λba b1 b2 b3 b4=>?_;rw[Az 'r'];exact Af {rfl,.inr {b1,by rw[b2];exact Ap _,b3.t r,b4}}
   .rw[AF h2];exact Af {(rfl),h1,h3}
  .rintro c J ⟨rfl,h⟩;rcases h with⟨h0,rfl⟩|⟨h1,_,h3⟩
   .have e:X++Y=[]:=BH 's';rw[e] at t r;exact{rfl,k2,by rw[t];exact r,by rw[t];exact .nil}
   .exact{(rfl),h1,h3}
  .rintro c J ⟨rfl,h1,h2,h3⟩;exact Af<|q J h1 h2 h3
end
section
open PySem.W
def LD(h:aau)(B:Int)(x:Keyed):Prop:=∃a o n r p t u,x.1=.ref a/\h.x a=some o/\o.data=.seq #[.int r t,.int p u] n/\0<=p/\p<B
noncomputable def fv(h:aau)(B:Int)(x:Keyed):Int:=match x.1 with
 |.ref a=>match h.x a with
  |some o=>match o.data with
   |.seq xs _=>match xs.z with
    |[.int r _,.int p _]=>r*B+p
    |_=>0
   |_=>0
  |none=>0
 |_=>0
def zA{B:Int}{x:Keyed}{a:Addr}{o:Obj}{r p:Int}{t u:Tok}(I:x.1=.ref a)(J:h.x a=some o)(U:o.data=.seq #[.int r t,.int p u] n):fv h B x=r*B+p:=by unfold fv;simp[I,J,U]
def Wg{w:aat}{B:Int}:Ord prog w A s (tuples' true) (LD s.v B) (fv s.v B):=by
 constructor;rintro x y ⟨r,o1,t,I,J,C,T,l,g1,d1,b1,c1⟩ ⟨a2,o2,n2,U,g,t2,u2,o,g2,d2,b2,c2⟩ E Q h;rw[zA l g1 d1,zA o g2 d2] at h;rw[l,o];refine kat_lt g1 d1 g2 d2 ?_;refine kat_cons<|wpAny_eqBool_int ?_;by_cases c:I=U
 .subst c;rw[beq_self_eq_true];refine kat_yes<|kat_cons<|wpAny_eqBool_int ?_;by_cases p:J=g
  .subst p;rw[beq_self_eq_true];refine kat_yes<|kat_nil ?_;have e:decide (I*B+J<I*B+J)=false:=Ay 's';rw[e] at h;exact h
  .rw[EJ p];refine kat_no<|kat_one _ _<|PyProof.Rows.lt_int ?_;have e:decide (I*B+J<I*B+g)=decide (J<g):=by
    by_cases z:J<g
    .rw[AJ z];exact AJ 's'
    .rw[Ay z];exact Ay 's'
   rw[e] at h;exact h
 .rw[EJ c];refine kat_no<|oneLt_int ?_;have e:decide (I*B+J<U*B+g)=decide (I<U):=by
   by_cases z:I<U
   .rw[AJ z];have j:(I+1)*B<=U*B:=DI 'p' 's';rw[Int.add_mul,Int.one_mul] at j;exact AJ 'm'
   .rw[Ay z];have j:(U+1)*B<=I*B:=DI 's' 's';rw[Int.add_mul,Int.one_mul] at j;exact Ay 's'
  rw[e] at h;exact h
section
variable {w:aat}
def acb(h:aau)(B:Int)(v:aaq):Prop:=∃a o n r p t u,v=.ref a/\h.x a=some o/\o.cls=.type "tuple" /\ o.data=.seq #[.int r t,.int p u] n/\0<=p/\p<B
def acb.pair{B:Int}{x:Keyed}(k:acb h B x.1):LD h B x:=by obtain⟨a,o,n,r,p,t,u,I,J,_,U,g,j⟩:=k;exact{(a),o,n,r,p,t,u,I,J,U,g,j}
theorem _h{h:aau}{B:Int}:∀{ks:aaf},(∀v∈ks,acb h B v)->∃fs,KatTups h ks fs/\fs.l=ks.l/\∀v∈fs,∃r t,v=Value.int r t
 |[],_=>{[],trivial,rfl,λv I=>by simp at I}
 |k::ks,J=>by
  obtain⟨fs,h1,h2,h3⟩:=_h (ks:=ks) λv I=>J v<|Ae _ I;obtain⟨a,o,n,r,p,t,u,rfl,U,g,j,_,_⟩:=J k<|Ag ..;refine{.int r t::fs,KatTups.cons U g j rfl h1,by simp[h2],λv I=>?_};obtain rfl|I:=Ao.j I
  .exact{(r),t,rfl}
  .exact h3 v I
def Wh{B:Int}{ks:aaf}{Q:SortKind->aar->Prop}(I:∀v∈ks,acb s.v B v)(h0:0<ks.l)(q:Q (tuples' true) s):wpAny 'w' A (keyKind' ks.m) Q E s:=by
 obtain⟨fs,h1,h2,h3⟩:=_h I;refine kat_kind (T:=.type "int") h1 's' (λv J=>?_) ∅ ?_
 .obtain⟨r,t,rfl⟩:=h3 v J;exact .now
 .exact q
theorem Wi{R:α->α->Prop}:∀{l:List α},l.l<2->l.Pairwise R
 |[],_=>List.Pairwise.nil
 |[_],_=>List.pairwise_singleton _ _
 |_::_::_,h=>absurd h 'r'
def Wj{a kS:Addr}{vs ks:aaf}{e o:Nat}{B:Int}{P:PySem.Fin->aar->Prop}(p:s.heap.x kS=some (seqObj "list" ks.m e))(ha:s.heap.x a=some (seqObj "list" #[] o))(r:kS≠a)(hl:ks.l=vs.l)(U:vs.l<=127)
 (hk:∀v∈ks,acb s.v B v)
 (h:∀h' tk (xs:_g) c,(∀b,b≠kS->b≠a->h'.get? b=s.heap.x b)->h'.get? a=some (seqObj "list" (List.toArray (xs.y (·.2))) c)->xs.Perm (ks.zip vs)->(xs.H λx y=>fv s.v B x<=fv s.v B y)->P (.done<|.ret .none) {s with heap:=h',toks:=tk}):
 wpAny 'w' A (ksk_end a false vs.toArray o (.ref kS) ks.m) P E s:=by
 have hz:vs.l<=sizeLine:=AQ U ∅;have j:(ks.toArray.zip vs.m).z=ks.zip vs:='r'
 have tail:∀st:SortSt,failedOf st=none->'c'.toList.Perm (ks.zip vs)->('c'.toList.Pairwise λx y=>fv s.v B x<=fv s.v B y)->wpAny 'w' A (ksk_tail a false o (.ref kS) st) P E s:=by
  intro st hf hp hs;have s1:=As s.v kS<|Obj.mapSeq λ_=>(#[]:aag);have J:=(s1.2 a r.L).t ha;have s2:=As (s.heap.update kS<|Obj.mapSeq λ_=>(#[]:aag)) a (Obj.mapSeq λ_=>'c'.y (·.2));have len:('c'.y (·.2)).q<=sizeLine:=by have:=hp.f;rw[EK,Ba] at this;rw[Array.size_map];lia
  try dsimp only
  refine Aa (listUpdate_at p rfl ?_ (by rw[Av];lia)<|A7 _);refine Aa<|wpAny_letGo ?_;refine Aa<|seqEpoch_at J rfl ?_;refine Aa (listUpdate_at J rfl ?_ (A7 _) (by simp only[Dl,if_false];exact CA len));rw[hf];simp only[bne_self_eq_false,Dl,if_false];obtain⟨t,g⟩:∃t,((s.heap.update kS<|Obj.mapSeq λ_=>(#[]:aag)).update a (Obj.mapSeq λ_=>'c'.y (·.2))).x a=some (seqObj "list" ('c'.y (·.2)) t):={_,get?_update_seq J λ_=>'c'.y (·.2)};refine Aq<|h _ _ 'c'.z t (λb C T=>?_) ?_ hp hs
  .exact(s2.2 b T).t (s1.2 b C)
  .have em:'c'.y (·.2)=List.toArray ('c'.toList.map (·.2)):=by apply Array.toList_inj.mp;rw[Array.toList_map]
   rw[em] at g ⊢;exact g
 unfold ksk_end;simp only[Dl,if_false];by_cases h2:vs.toArray.q<2
 .rw[AF h2,AF h2];refine Aa<|Aq ?_;rw[StateT.run_pure];refine Aa<|Aq ?_;refine tail _ rfl (by rw[j]) ?_;rw[j];rw[Av] at h2;have:(ks.zip vs).l<2:=by rw[EK];lia
  exact Wi this
 .rw[Az h2,Az h2];rw[Av] at h2;refine Aa<|Wh hk 'm' ?_;refine Aa (A5 (Wf (E:=E) (Wg (B:=B)) (st:=SortSt.mk' (tuples' true) (ks.toArray.zip vs.m) #[] 7 none)
   (Q:=λ_ I=>failedOf I=none/\(arrOf I).toList.Perm (ks.zip vs)/\((arrOf I).toList.Pairwise λx y=>fv s.v B x<=fv s.v B y)) (by show(ks.toArray.zip vs.m).q<128;simp;lia) rfl rfl rfl (λx l=>?_) λI b1 b2 b3=>{b1,?_,b3}) ?_ λ_ _ e=>e)
  .have l:=l;rw[j] at l;exact acb.pair<|hk _ (Di (a:=x.1) (b:=x.2) l).1
  .have b2:=b2;rw[j] at b2;exact b2
  .rintro⟨⟨⟩,I⟩ s' ⟨rfl,b1,b2,b3⟩;exact tail I b1 b2 b3
end
def Wk(f:α->β):∀{l m:List β},l.C m->∀{T:List α},T.y f=m->∃U:List α,U.C T/\U.y f=l:=by
 intro l m p
 induction p with
 |nil=>intro T e;exact{T,CN _,e}
 |cons x _ o=>
  intro T e;cases T with
  |nil=>cases e
  |cons t r=>
   rw[AR] at e;obtain⟨I,J⟩:=CG e;obtain⟨U,C,e'⟩:=o J;exact{t::U,C.cons t,by rw[AR,e',I]}
 |swap x y l=>
  intro T e
  match T,e with
  |t::u::r,e=>
   rw[AR,AR] at e;obtain⟨I,J⟩:=CG e;obtain⟨e3,e4⟩:=CG J;exact{u::t::r,List.Perm.swap t u r,by rw[AR,AR,I,e3,e4]}
 |trans _ _ g j=>
  intro T e;obtain⟨T1,p1,I⟩:=j e;obtain⟨T2,p2,J⟩:=g I;exact{T2,p2.t p1,J}
section
variable {w:aat}
end
end
theorem wR{α β:Type}{f:α->β}:∀{l:List α},(∀x∈l,∀y∈l,f x=f y->x=y)->l.Nodup->(l.y f).c
 |[],_,_=>CO
 |a::r,h,n=>by obtain⟨J,U⟩:=AA.j n;rw[AR];refine AA.d {λz=>?_,wR (λx g y I=>h x (Ae _ g) y<|Ae _ I) U};obtain⟨y,I,e⟩:=AM.j z;have:=h y (Ae _ I) a (Ag ..) e;exact J<|this▸I
def dP:Wd->Y
 |.leaf t n=>.tup [.str<|kL t,.str n]
 |.node e l r=>.tup [.str<|kN e,dP l,dP r]
def qg{Q:α->qm->Prop}{o:Option α}{v:α}(e:o=some v)(h:Q v L):rQ L Q o:=by rw[e];exact h
def tE:RD "is_leaf" sW 0 ["word"] (λ_=>True):={_,λV B c _ _ _ _ _ _ _ I hN J=>(qd<|qt<|ak (GJ _ _ _) (J_ 0) (Kr B.zA8 rfl) 'k')}
def kX:Bool->Bool->Str
 |true,t=>kL t
 |false,e=>kN e
inductive aW(ys:_T)(L:qm)(Q:YK):Prop
 |mk:∀lf b rest,(ys=[.tup<|.str (kX lf b)::rest])->(Q (.bl lf) L)->aW ys L Q
def Wl(t:Bool):rW (.str<|kL t) [.str "plain",.str "turned"]=true:=by cases t<;>decide +kernel
def Wm(t:Bool):rW (.str<|kN t) [.str "plain",.str "turned"]=false:=by cases t<;>decide +kernel
def Wn:_f aW tE.1 1:=by
 rintro ys L Q ⟨lf,b,rest,rfl,q⟩;have I:bw (Y.str (kX lf b)::rest) 0=some (Y.str<|kX lf b):=jh (xs:=Y.str (kX lf b)::rest) (j:=0) rfl;walk_at "w";rw[I];refine{rfl,rfl,jj ?_};cases lf with
 |true=>
  rw[show nb false (rW (cT<|.str<|kX true b)<|[Y.str "plain",.str "turned"].y cT)=true from Wl b];exact q
 |false=>
  rw[show nb false (rW (cT<|.str<|kX false b)<|[Y.str "plain",.str "turned"].y cT)=false from Wm b];exact q
def xC(J U:vh):RR "turned" xZ 2 ["word"] ["word","kind"] U (λV=>Gi V J):={_,λV B c _ _ I _ _ _ _ _ _ g hN j=>(qb (S_ 1 hN<|I_ (Kr B.zA0 rfl)<|J_ 0)<|qb (zc (bv<|C_ c g<|jz<|qv 0) (qd<|qt<|qw<|vo (qv 1)<|J_ 0) qy)<|qd<|qt<|qw<|aI (qv 1) (C_ I g<|jz<|J_ 0)<|C_ I g<|jz<|J_ 0)}
inductive bE(n:Nat)(ys:_T)(L:qm)(Q:YK):Prop
 |mk:∀wd,(ys=[dP wd])->(wd.J<=n)->(Q (dP wd.turn) L)->bE n ys L Q
def se(t:Bool):List.lookup (kL t) [(("plain" : Str),("turned" : Str)),("turned","plain"),("both","either"),("either","both")]=some (kL<|!t):=by cases t<;>decide +kernel
def sH(t:Bool):List.lookup (kN t) [(("plain" : Str),("turned" : Str)),("turned","plain"),("both","either"),("either","both")]=some (kN<|!t):=by cases t<;>decide +kernel
def Wo(n:Nat):_f (bE (n+1)) (xC aW<|bE n).1 2:=by
 rintro ys L Q ⟨I,rfl,hd,q⟩;cases I with
 |leaf t nm=>
  exact qg (se t) {true,t,_,rfl,jj q}
 |node e l r=>
  have J:max l.J r.J+1<=n+1:=hd;refine qg (sH e) {false,e,_,rfl,l,rfl,'s',r,rfl,'s',?_};exact jj q
def j6.str(x:Str):j6 L n (.str x) (.s<|.str x):=by cases n with|zero=>exact{(rfl),rfl}|succ n=>exact .inl {(rfl),rfl}
abbrev EZ:=@j6.str
def j6.int(x:Int):j6 L n (.int x) (.s<|.int x):=by cases n with|zero=>exact{(rfl),rfl}|succ n=>exact .inl {(rfl),rfl}
abbrev EY:=@j6.int
theorem jQ{L:qm}:∀{wd:Wd} {n:Nat},wd.J<=n->j6 L n (dP wd) (rh wd)
 |.leaf t nm,n+1,_=>.inr<|.inl {_,_,rfl,rfl,.cons (EZ _)<|.cons (EZ _) .nil}
 |.node e l r,n+1,h=>by have I:max l.J r.J+1<=n+1:=h;exact .inr<|.inl {_,_,rfl,rfl,.cons (EZ _)<|.cons (jQ 's')<|.cons (jQ 's') .nil}
def cV{a:Addr}(e:L a=⇑ys)(p:Paired (j6 L n) ys ds):j6 L (n+1) (.ref a) (.lst ds):=.inr<|.inr {ys,ds,rfl,rfl,a8 e,p}
def vv(p:Paired (j6 L n) ys ds):j6 L (n+1) (.tup ys) (.tup ds):=.inr<|.inl {(ys),ds,rfl,rfl,p}
def oZ{neg:Bool}{u v:Wd}{Q:YK}(J:u.J<=128)(q:Q (.bl<|nb neg<|Da.eq (rh u)<|rh v) L):f_ neg (dP u) (dP v) L Q:=by
 have I:∀w:Wd,FI (dP w)=true:=λw=>by cases w<;>rfl
 have:FI (dP u)=true/\FI (dP v)=true/\∃n m d e,n<=128/\j6 L n (dP u) d/\j6 L m (dP v) e/\Q (.bl<|nb neg<|Da.eq d e) L:=
  ⟨I u,I v,u.J,v.J,rh u,rh v,J,jQ<|Ap _,jQ<|Ap _,q⟩
 cases u<;>cases v<;>exact this
def aq{neg:Bool}{a b:Addr}{zs:_T}{es:List Da}{Q:YK}(I:n<128)(ea:L a=⇑ys)(eb:L b=⇑zs)(pa:Paired (j6 L n) ys ds)(pb:Paired (j6 L m) zs es)(q:Q (.bl<|nb neg<|Da.eqs ds es) L):
 f_ neg (.ref a) (.ref b) L Q:={rfl,rfl,n+1,m+1,_,_,I,cV ea pa,cV eb pb,q}
def Wp:∀ys L Q,¬bE 0 ys L Q:=by rintro ys L Q ⟨I,_,hd,_⟩;cases I<;>simp[Wd.depth] at hd
def nY(hs:aah):_T:=hs.y λn:Nat=>.int (n:Int)
def we(hs:aah):(nY hs).l=hs.l:=by unfold nY;rw[Ac]
def dU(h:j<n):vB n (j:Int)=some j:=by unfold vB;rw[AF<|Bb _,AF 'm'];rfl
def kc{a p:Addr}{o:LO}(h:qk L a o p=none):L p=none:=by
 by_cases c:p=a
 .subst c;rw[q9] at h;cases h
 .rw[qe c] at h;exact h
def Wq{a:Addr}{o:LO}(h:L a=some o):qk L a o=L:=by
 funext b;unfold qk;split
 .rename_i e;rw[e,h]
 .rfl
def zy{l:List α}{x:α}(h:l[i]?=some x):i<l.l:=(A3.j h).1
def qX:RD "_law_mix" qW 0 ["_law_cell","_law_k","_law_factor"] (λ_=>True):={_,λV B c _ _ _ _ _ _ _ I hN J=>(qd<|qt<|qj xa (qj zn (qj mS (qj ju (qj ju (qj mS (qj zn (qv 0) qc) qc)<|qj mS (qv 1)<|qv 1) qc)<|qv 2) qc) qc)}
def i6(J:vh):RR "_law_weight" i0 1 ["_law_word_here"] ["_law_word_here"] J (λ_=>True):={_,λV B c _ _ I _ _ _ _ _ _ U hN g=>(qb (zc (E_ g (L_ B.ba<|qv 0) qc) (qd<|qt qc) qy)<|qd<|qt<|qj ju (qj ju qc<|C_ I U<|jz<|J_ 0)<|C_ I U<|jz<|J_ 0)}
def nH(J:vh):RR "_law_word" mV 1 ["_law_knots","_law_p"] ["_law_knots","_law_p","_law_knot"] J (λ_=>True):={_,λV B c _ _ I _ _ _ _ _ _ U hN g=>(qb (S_ 2 hN<|I_ (qv 0)<|qv 1)<|qb (zc (E_ g (L_ B.ba<|qv 2) qc) (qd<|qt<|qv 2) qy)<|qd<|qt<|qw<|aI (J_ 2) (C_ I U<|vo (qv 0)<|J_ 2)<|C_ I U<|vo (qv 0)<|J_ 2)}
def sj(J U:vh):RR "word_at" tO 2 ["knots","place"] ["knots","place","knot"] U (λV=>Gi V J):={_,λV B c _ _ I _ _ _ _ _ _ g hN j=>(qb (S_ 2 hN<|I_ (qv 0)<|qv 1)<|qb (zc (bv<|C_ c g<|jz<|qv 2) (qd<|qt<|qv 2) qy)<|qd<|qt<|qw<|aI (J_ 2) (C_ I g<|vo (qv 0)<|J_ 2)<|C_ I g<|vo (qv 0)<|J_ 2)}
inductive rL(ys:_T)(L:qm)(Q:YK):Prop
 |mk:∀c k f:Int,(ys=[.int c,.int k,.int f])->(0<=k)->(k<1000000)->(0<f)->(f<1000000)->(∀v,0<=v->v<134217728->Q (.int v) L)->rL ys L Q
def Wr:_f rL qX.1 3:=by
 rintro ys L Q ⟨c,k,f,rfl,h0,h1,h2,h3,q⟩;refine{(∅:(0:Int)<1000003),.inr {∅,∅},.inl {'s','s'},.inr {'s','s'},(∅:(0:Int)<2147483647),{∅,∅},jj<|q _ ?_ ?_}
 all_goals
  generalize ((c % 1000003*7+k*k+1)*f)=z;lia
def Ws(cs:aah):(Txt.join ""<|cs.map λc=>({#[c]}:Str)).cps.toList=cs:=by
 rw[uN]
 induction cs with|nil=>rfl|cons c r I=>rw[AR,Bo,I];rfl
inductive cY(n:Nat)(ys:_T)(L:qm)(Q:YK):Prop
 |mk:∀wd,(ys=[dP wd])->(wd.J<=n)->(Q (.int wd.q) L)->cY n ys L Q
def qQ:∀ys L Q,¬cY 0 ys L Q:=by rintro ys L Q ⟨I,_,hd,_⟩;cases I<;>simp[Wd.depth] at hd
def Wt(n:Nat):_f (cY (n+1)) (i6<|cY n).1 1:=by
 rintro ys L Q ⟨I,rfl,hd,q⟩;cases I with
 |leaf t n=>exact jj q
 |node e l r=>
  have J:max l.J r.J+1<=n+1:=hd;refine{l,rfl,'s',r,rfl,'s',jj ?_};have e:(1+(l.q:Int)+(r.q:Int))=((Wd.node e l r).q)⁻¹:='o'
  rw[e];exact q
def Wu{xs:_T}{keep:qm->Prop}{tb:aa}(W:Nat->jm->qm->Prop)(h0:W 0 τ L)(J:∀i τ L',W i τ L'->keep L')
 (hs:∀i x y τ L,xs[i]?=some x->ys[i]?=some y->W i τ L->g (.tup [x,y]) τ L λI L2=>tb {D with nx:=jA<|W<|i+1,ct:=jA<|W<|i+1,bk:=D.nx} I L2) (hd:∀τ L,W (min xs.l ys.l) τ L->D.nx τ L):
 uB (zZ xs ys) keep g tb D τ L:=wq {W,h0,J,λi y τ L e w=>by obtain⟨a,b,ea,eb,rfl⟩:=KG e;exact hs i a b τ L ea eb w,λτ L w=>hd τ L (by rw[ph] at w;exact w)}
def KW(ks:_T):Nat->Wd->Prop
 |p,.leaf t n=>ks[p]?=some (.tup [.str<|kL t,.str n])
 |p,.node e l r=>∃i j:Nat,ks[p]?=some (.tup [.str<|kN e,.int i,.int j])/\KW ks i l/\KW ks j r
theorem KW.more{ks:_T}(ms:_T):∀{wd:Wd} {p:Nat},KW ks p wd->KW (ks++ms) p wd
 |.leaf _ _,p,h=>by have I:=h;show(ks++ms)[p]?=some _;rw[AG (A3.j I).1];exact I
 |.node _ _ _,p,⟨i,j,h,a,b⟩=>{i,j,by rw[AG (A3.j h).1];exact h,KW.more ms a,KW.more ms b}
inductive k8(n:Nat)(ys:_T)(L:qm)(Q:YK):Prop
 |mk:∀k ks p wd,(ys=[.ref k,.int p⁻¹])->(L k=⇑ks)->(KW ks p wd)->(wd.J<=n)->(Q (dP wd) L)->k8 n ys L Q
def qB:∀ys L Q,¬k8 0 ys L Q:=by rintro ys L Q ⟨k,J,p,I,_,_,_,hd,_⟩;cases I<;>simp[Wd.depth] at hd
def uF:∀ys L Q,¬k8 0 ys L Q:=qB
def Wv(n:Nat):_f (k8 (n+1)) (sj aW<|k8 n).1 3:=by
 rintro ys L Q ⟨k,J,p,U,rfl,I,h,hd,q⟩;cases U with
 |leaf t nm=>exact qa I<|qg (jh h) {true,t,_,rfl,jj q}
 |node e l r=>
  obtain⟨i,j,h,g,o⟩:=h;have C:max l.J r.J+1<=n+1:=hd;exact qa I<|qg (jh h) {false,e,_,rfl,k,J,i,l,rfl,I,g,'s',k,J,j,r,rfl,I,o,'s',jj q}
def yN(n:Nat):_f (k8 (n+1)) (nH<|k8 n).1 3:=by
 rintro ys L Q ⟨k,J,p,U,rfl,I,h,hd,q⟩;cases U with
 |leaf t nm=>exact qa I<|qg (jh h)<|jj q
 |node e l r=>
  obtain⟨i,j,h,g,o⟩:=h;have C:max l.J r.J+1<=n+1:=hd;exact qa I<|qg (jh h) {k,J,i,l,rfl,I,g,'s',k,J,j,r,rfl,I,o,'s',jj q}
def x_(l:aah):Str:={(l.m)}
def LG(x:Str):x_ x.cps.z=x:=by cases x;rfl
def LH(a b:Str):(a++b).cps.toList=a.cps.z++b.cps.z:=by rw[Str.cps_append,Bc]
def LI(J:vh):RR "_law_flip" mR 1 ["_law_word_here"] ["_law_word_here","_law_sides"] J (λ_=>True):={_,λV B c _ _ I _ _ _ _ _ _ U hN g=>(qb (S_ 1 hN<|Kt [ ("plain" ,"turned") ,("turned" ,"plain") ,("both" ,"either") ,("either" ,"both") ] (bV aC aC<|bV aC aC<|bV aC aC<|bV aC aC u3) rfl rfl (A9 _ _)<|Ar rfl)<|qb (zc (E_ g (L_ B.ba<|qv 0) qc) (qd<|qt<|qw<|vo (I_ (qv 1)<|J_ 0)<|J_ 0) qy)<|qd<|qt<|qw<|aI (I_ (qv 1)<|J_ 0) (C_ I U<|jz<|J_ 0)<|C_ I U<|jz<|J_ 0)}
abbrev ja(i:Int):xq:=yC<|.int i
abbrev iW(x:Str):xq:=yC<|.str x
abbrev a6(i:Nat)(n:Int):xq:=zx aO (qf i)<|yC<|.int n
abbrev gC(i:Nat):xq:=sJ sD<|qi (qf i) zk
abbrev bU(a b:xq):jB:=yB<|zx (f_ false) a b
abbrev A'(a b:xq):jB:=yB<|zx (f_ true) a b
abbrev FO(a b:xq):xq:=vi<|qi a<|qi b zk
abbrev aV(a:xq):gJ:=qi a zk
abbrev cg(a b:xq):gJ:=qi a<|qi b zk
def Ww(I:vh)(p1:vh):aa:=(zj (xr (bU (gC 1)<|ja 2) (zj (jo<|fg xp (qf 0)<|qi (jg I<|aV<|qf 1) zk)
 (zj (jo<|fg xp (qf 0)<|aV<|qf 1)
 (bN<|aZ<|qi (vi<|qi (iW "link")<|qi (zx gL (gC 0)<|ja 2)<|qi (zx gL (gC 0)<|ja 1) zk)<|qi (zx gL (gC 0)<|ja 2)<|qi (zx gL (gC 0)<|ja 1) zk))) w5)
 (zj (jx (jg p1<|cg (qf 0)<|a6 1 1)<|ql 2)
 (zj (jx (jg p1<|cg (qf 0)<|a6 1 2)<|ql 3)
 (zj (jo<|fg xp (qf 0)<|qi (vi<|qi (zx aO (jg I<|aV<|qf 1)<|ja 0)<|cg (a6 2 1)<|a6 3 1) zk)
 (zj (jo<|fg xp (qf 0)<|qi (vi<|qi (a6 1 0)<|cg (a6 2 2)<|a6 3 2) zk)
 (zj (J9 4 5<|qi (zx gL (gC 0)<|ja 2)<|qi (zx gL (gC 0)<|ja 1) zk)
 (zj (jx (Gc (bU (a6 1 0)<|iW "either") (qf 4)<|qf 5)<|ql 6)
 (zj (jx (Gc (bU (a6 1 0)<|iW "either") (qf 5)<|qf 4)<|ql 7)
 (bN<|aZ<|qi (vi<|qi (iW "either")<|qi (qf 7)<|qi (vi<|qi (iW "both")<|qi (qf 6)<|cg (a6 2 0)<|a6 3 0) zk)<|cg (qf 4)<|qf 5)))))))))
set_option genInjectivity true in
inductive Kn where
 |lf (t:Bool) (n:Str)|nd (e:Bool) (i j:Nat)
abbrev GT:=Option Kn
abbrev On:=List Kn
def aA:Kn->Y
 |.lf t n=>.tup [.str<|kL t,.str n]
 |.nd e i j=>.tup [.str<|kN e,.int i⁻¹,.int j⁻¹]
inductive Ru where
 |link (p q:Nat)|ei (r:Nat) (A:Ru)|bo (r:Nat) (A B:Ru)|cu (p q:Nat) (A B:Ru)
def qx:Ru->Y
 |.link p q=>.tup [.str "link",.int p⁻¹,.int q⁻¹]
 |.ei r A=>.tup [.str "either",.int r⁻¹,qx A]
 |.bo r A B=>.tup [.str "both",.int r⁻¹,qx A,qx B]
 |.cu p q A B=>.tup [.str "cut",.int p⁻¹,.int q⁻¹,qx A,qx B]
def told:Ru->aah
 |.link p q=>[p,q]
 |.ei r A=>r::told A
 |.bo r A B=>r::(told A++told B)
 |.cu _ _ A B=>told A++told B
abbrev x8(ks:On):_T:=ks.y aA
def f9(ks:On)(p:Nat)(w:Wd):Prop:=KW (x8 ks) p w
theorem f9.more{ks:On}{w:Wd}(h:f9 ks p w)(ms:On):f9 (ks++ms) p w:=by unfold f9 x8;rw[Ax];exact KW.more _ h
def eG(ks:On):Prop:=∀(p:Nat) (k:Kn),ks[p]?=some k->match k with
 |.lf _ n=>fK n
 |.nd _ i j=>i<p/\j<p
def eG.snoc{ks:On}{k:Kn}(h:eG ks)(I:match k with|.lf _ n=>fK n|.nd _ i j=>i<ks.l/\j<ks.l):eG (ks++[k]):=by
 intro p J e;by_cases c:p<ks.l
 .rw[AG c] at e;exact h p J e
 .rw[AH<|HE] at e;have U:p=ks.l:=by
   by_cases g:p-ks.l=0
   .omega
   .rw[BC (by simp;exact F7)] at e;cases e
  subst U;rw[C3] at e;cases e;exact I
def gi(l:List α)(x:α)(r:List α):(l++x::r)[l.l]?=some x:=by rw[AH<|Ap _,C3];rfl
def pD{l r:List α}{x:α}(h:l[p]?=some x):(l++r)[p]?=some x:=by rw[AG (A3.j h).1];exact h
inductive SR(ks:On):Ru->aah->Prop
 |link {p q:Nat} {t:Bool} {n:Str} {E:aah}:p<q->ks[p]?=some (.lf t n)->ks[q]?=some (.lf (!t) n)->(∀x,x∈E↔x=p\/x=q)->E.Nodup->SR ks (.link p q) E
 |ei {r i j:Nat} {A:Ru} {EA E:aah}:ks[r]?=some (.nd true i j)->SR ks A EA->i∈EA->j∈EA->i≠j->(∀x,x∈E↔(x∈EA/\x≠i/\x≠j)\/x=r)->E.Nodup->SR ks (.ei r A) E
 |bo {r i j:Nat} {A B:Ru} {EA EB E:aah}:ks[r]?=some (.nd false i j)->SR ks A EA->SR ks B EB->i∈EA->j∈EB->(∀x,x∈E↔(x∈EA/\x≠i)\/(x∈EB/\x≠j)\/x=r)->E.Nodup->SR ks (.bo r A B) E
 |cu {p q:Nat} {A B:Ru} {EA EB E:aah} {w:Wd}:SR ks A EA->SR ks B EB->p∈EA->q∈EB->f9 ks p w->f9 ks q w.turn->(∀x,x∈E↔(x∈EA/\x≠p)\/(x∈EB/\x≠q))->E.Nodup->SR ks (.cu p q A B) E
theorem SR.more{ks:On}{R:Ru}{E:aah}(h:SR ks R E)(ms:On):SR (ks++ms) R E:=by induction h with|link h1 h2 h3 I J=>exact .link h1 (pD h2) (pD h3) I J|ei h1 _ h3 I J j l o=>exact .ei (pD h1) o h3 I J j l|bo h1 _ _ I J j l U g=>exact .bo (pD h1) U g I J j l|cu _ _ h3 I J j l p U g=>exact .cu U g h3 I (J.more ms) (j.more ms) l p
def SR.sub{ks:On}{R:Ru}{E:aah}(h:SR ks R E):∀x∈E,x∈told R:=by
 induction h with
 |link _ _ _ j _=>intro x I;obtain rfl|rfl:=(j x).j I<;>simp[told]
 |ei _ _ _ _ _ g _ l=>intro x I;rcases (g x).j I with⟨h,_⟩|rfl;exact Ae _<|l x h;exact Ag ..
 |bo _ _ _ _ _ g _ J U=>
  intro x I;rcases (g x).j I with⟨h,_⟩|⟨h,_⟩|rfl
  .exact Ae _<|An _<|J x h
  .exact Ae _<|Ai _<|U x h
  .exact Ag ..
 |cu _ _ _ _ _ _ o _ J U=>
  intro x I;rcases (o x).j I with⟨h,_⟩|⟨h,_⟩
  .exact An _<|J x h
  .exact Ai _<|U x h
inductive ax(n:Nat)(ys:_T)(L:qm)(Q:YK):Prop
 |mk:∀wd,(ys=[dP wd])->(wd.J<=n)->(Q (dP wd.turn) L)->ax n ys L Q
def Wx:∀ys L Q,¬ax 0 ys L Q:=by rintro ys L Q ⟨I,_,hd,_⟩;cases I<;>simp[Wd.depth] at hd
def Wy(t:Bool):wo ([(("plain" : Str),("turned" : Str)),("turned","plain"),("both","either"),("either","both")].y λp=>((Sum.inr p.1:jk),Y.str p.2)) (Sum.inr<|kL t)=some (.str<|kL<|!t):=gZ<|se t
def Wz(t:Bool):wo ([(("plain" : Str),("turned" : Str)),("turned","plain"),("both","either"),("either","both")].y λp=>((Sum.inr p.1:jk),Y.str p.2)) (Sum.inr<|kN t)=some (.str<|kN<|!t):=gZ<|sH t
def WA(n:Nat):_f (ax (n+1)) (LI<|ax n).1 2:=by
 rintro ys L Q ⟨J,rfl,hd,q⟩;intro p I;cases J with
 |leaf t nm=>
  refine x4 q9<|qg (Wy t) ?_;exact eM (By I) q
 |node e l r=>
  have U:max l.J r.J+1<=n+1:=hd;refine x4 q9<|qg (Wz e) ?_;refine{l,rfl,'s',r,rfl,'s',?_};exact eM (By I) q
structure FP(ks:On)(w:Wd)(ms:On)(R:Ru)(tp sp:Nat):Prop where
 len:ms.l=2*w.q
 sr:SR (ks++ms) R [tp,sp]
 wt:f9 (ks++ms) tp w.turn
 ws:f9 (ks++ms) sp w
 tm:∀x,x∈told R↔ks.l<=x/\x<ks.l+ms.l
 nd:(told R).c
 ok:eG (ks++ms)
def f9.leaf{ks:On}{n:Str}(h:ks[p]?=some (.lf t n)):f9 ks p (.leaf t n):=by show(x8 ks)[p]?=_;rw[Al,h];rfl
def f9.node{ks:On}{e:Bool}{l r:Wd}(h:ks[p]?=some (.nd e i j))(I:f9 ks i l)(J:f9 ks j r):f9 ks p (.node e l r):=by refine{i,j,?_,I,J};rw[Al,h];rfl
abbrev FD:=@f9.node
def wN{ks:On}(g:eG ks){n:Str}(I:fK n):FP ks (.leaf t n) [.lf (!t) n,.lf t n] (.link ks.l<|ks.length+1) ks.l (ks.l+1):=by
 have J:(ks++[Kn.lf (!t) n,.lf t n])[ks.l]?=some (.lf (!t) n):=gi _ _ _;have U:(ks++[Kn.lf (!t) n,.lf t n])[ks.l+1]?=some (.lf t n):=by have:=gi (ks++[Kn.lf (!t) n]) (Kn.lf t n) [];rw[Ab,AB] at this;exact this
 refine{rfl,.link (t:=!t) (n:=n) (B8 _) J ([Bool.not_not]≈U) 'r' 'r',f9.leaf J,f9.leaf U,λx=>?_,by simp[told],?_}
 .show x∈[ks.l,ks.l+1]↔ks.l<=x/\x<ks.l+2;simp;lia
 .have:=(g.snoc (k:=.lf (!t) n) I).snoc (k:=.lf t n) I;rw[AB] at this;exact this
def SR._G{ks:On}{R:Ru}{E:aah}(h:SR ks R E):E.c:=by cases h<;>assumption
def WB{x h lo a r N:Nat}(I:(h=N/\lo=N+1)\/(h=N+1/\lo=N))(hN:N=a+m+r):x=h\/x=lo\/(a<=x/\x<a+m)\/a+m<=x/\x<a+m+r↔a<=x/\x<N+2:=by subst hN;rcases I with⟨rfl,rfl⟩|⟨rfl,rfl⟩<;>lia
def WC{x a b c d N:Nat}(h:a≠b)(k:c≠d):x∈[b,d,N]↔(x∈[a,b]/\x≠a)\/(x∈[c,d]/\x≠c)\/x=N:=by simp only[Ao,BK,or_false];lia
def WD{x a b c d N:Nat}(h:a≠b)(k:c≠d):x∈[a,c,N]↔(x∈[a,b]/\x≠b)\/(x∈[c,d]/\x≠d)\/x=N:=by simp only[Ao,BK,or_false];lia
def WE{x a b N M:Nat}(h:a<N)(k:b<N):x∈[N,M]↔(x∈[a,b,N]/\x≠a/\x≠b)\/x=M:=by simp only[Ao,BK,or_false];lia
def WF{x a b N M:Nat}(h:a<N)(k:b<N):x∈[M,N]↔(x∈[a,b,N]/\x≠a/\x≠b)\/x=M:=by simp only[Ao,BK,or_false];lia
def LJ{a b N:Nat}(h:a<N)(k:b<N)(d:a≠b):[a,b,N].c:=by rw[AA,AA];simp;lia
def WG{a r N t s u v:Nat}(I:a<=t/\t<a+m)(J:a<=s/\s<a+m)(b1:a+m<=u/\u<a+m+r)(b2:a+m<=v/\v<a+m+r)(hN:N=a+m+r):t<N/\s<N/\u<N/\v<N/\t≠u/\s≠v:='s'
def LK{h lo a r N:Nat}(I:(h=N/\lo=N+1)\/(h=N+1/\lo=N))(hN:N=a+m+r):¬(h=lo\/(a<=h/\h<a+m)\/a+m<=h/\h<a+m+r)/\¬((a<=lo/\lo<a+m)\/a+m<=lo/\lo<a+m+r):='s'
def WH{x y a r:Nat}(h1:a<=x/\x<a+m)(h2:a+m<=y/\y<a+m+r)(e:x=y):False:='s'
def WI{ks I g:On}{e:Bool}{l r:Wd}{A B:Ru}{tl J tr U:Nat}(p:FP ks l I A tl J)(o:FP (ks++I) r g B tr U){N:Nat}(hN:N=ks.l+(I++g).l):
 FP ks (.node e l r) (I++g++[.nd (!e) tl tr,.nd e J U]) (.ei (if e=true then N+1 else N)<|.bo (if e=true then N else N+1) A B) N (N+1):=by
 have hA:∀x∈[tl,J],ks.l<=x/\x<ks.l+I.l:=λx T=>(p.tm x).j<|p.sr.sub x T;have hB:∀x∈[tr,U],ks.l+I.l<=x/\x<ks.l+I.l+g.l:=λx T=>by have:=(o.tm x).j<|o.sr.sub x T;rw[Ab] at this;exact this
 have a1:=hA tl 'r';have a2:=hA J 'r';have b1:=hB tr 'r';have b2:=hB U 'r';have nA:tl≠J:=by have:=p.sr._G;simpa using this
 have nB:tr≠U:=by have:=o.sr._G;simpa using this
 have t:N=ks.l+I.l+g.l:=by rw[hN,Ab];simp +arith only
 obtain⟨d1,d2,d3,d4,d5,d6⟩:=WG a1 a2 b1 b2 t;generalize j:ks++(I++g++[Kn.nd (!e) tl tr,.nd e J U])=K;have k1:K=(ks++I)++(g++[Kn.nd (!e) tl tr,.nd e J U]):=by rw[<-j];simp
 have k2:K=((ks++I)++g)++[Kn.nd (!e) tl tr,.nd e J U]:=by rw[<-j];simp
 have k3:K=(((ks++I)++g)++[Kn.nd (!e) tl tr])++[.nd e J U]:=by rw[<-j];simp
 have l2:((ks++I)++g).l=N:=by rw[Ab,Ab];lia
 have g1:K[N]?=some (.nd (!e) tl tr):=by rw[k2,<-l2];exact gi _ _ _
 have g2:K[N+1]?=some (.nd e J U):=by
  have l3:(((ks++I)++g)++[Kn.nd (!e) tl tr]).l=N+1:=by rw[Ab,l2];rfl
  rw[k3,<-l3];exact gi _ _ _
 have sA:SR K A [tl,J]:=by rw[k1];exact p.sr.more _
 have sB:SR K B [tr,U]:=by rw[k2];exact o.sr.more _
 have a3:eG K:=by have o1:=o.ok.snoc (k:=.nd (!e) tl tr) ([l2]≈{(d1),d3});have o2:=o1.snoc (k:=.nd e J U) ([Ab,l2]≈{CC d2,CC d4});rw[k3];exact o2
 have tA:=p.tm;have tB:=o.tm;rw[Ab] at tB;have wt:=FD g1 ([k1]≈p.wt.more _) ([k2]≈o.wt.more _);have a4:=FD g2 ([k1]≈p.ws.more _) ([k2]≈o.ws.more _);have C:(I++g++[Kn.nd (!e) tl tr,.nd e J U]).l=2*(Wd.node e l r).q:=by have h1:=p.len;have h2:=o.len;show _=2*(1+l.q+r.q);rw[Ab,Ab];simp;lia
 have lt:ks.l+(I++g++[Kn.nd (!e) tl tr,.nd e J U]).l=N+2:=by rw[Ab];simp[hN];rfl
 have tt:∀h lo:Nat,(h=N/\lo=N+1)\/(h=N+1/\lo=N)->(∀x,x∈told (.ei h<|.bo lo A B)↔ks.l<=x/\x<ks.l+(I++g++[Kn.nd (!e) tl tr,.nd e J U]).l)/\(told<|.ei h<|.bo lo A B).c:=by
  intro h lo hh;constructor
  .intro x;rw[lt];show x∈h::lo::(told A++told B)↔_;rw[Ao,Ao,Am,tA,tB];exact WB hh t
  .show(h::lo::(told A++told B)).c;rw[AA,AA,Aw];refine{?_,?_,p.nd,o.nd,λx T y hy e=>?_}
   .rw[Ao,Am,tA,tB];exact(LK hh t).1
   .rw[Am,tA,tB];exact(LK hh t).2
   .exact WH ((tA x).j T) ((tB y).j hy) e
 cases e with
 |true=>
  have s1:SR K (.bo N A B) [J,U,N]:=by exact .bo g1 sA sB 'r' 'r' (λx=>WC nA nB)<|LJ d2 d4 d6
  have s2:SR K (.ei (N+1)<|.bo N A B) [N,N+1]:=by exact .ei g2 s1 'r' 'r' d6 (λx=>WE d2 d4) 'r'
  obtain⟨t1,t2⟩:=tt (N+1) N<|.inr {(rfl),rfl};exact{C,by rw[j];exact s2,by rw[j];exact wt,by rw[j];exact a4,t1,t2,by rw[j];exact a3}
 |false=>
  have s1:SR K (.bo (N+1) A B) [tl,tr,N+1]:=by exact .bo g2 sA sB 'r' 'r' (λx=>WD nA nB)<|LJ (CC d1) (CC d3) d5
  have s2:SR K (.ei N<|.bo (N+1) A B) [N,N+1]:=by exact .ei g1 s1 'r' 'r' d5 (λx=>WF (CC d1)<|CC d3) 'r'
  obtain⟨t1,t2⟩:=tt N (N+1)<|.inl {(rfl),rfl};exact{C,by rw[j];exact s2,by rw[j];exact wt,by rw[j];exact a4,t1,t2,by rw[j];exact a3}
inductive bH(n:Nat)(ys:_T)(L:qm)(Q:YK):Prop
 |mk:∀a,∀ks:On,∀w:Wd,(ys=[.ref a,dP w])->(L a=⇑(x8 ks))->(w.J<=n)->(n<=120)->(w.ok)->(eG ks)->(ks.l+2*w.q<=10000)->(∀ms R tp sp p,L p=none->FP ks w ms R tp sp->Q (.ref p) (qk (qk L a<|.lst<|x8<|ks++ms) p<|.lst [qx R,.int tp⁻¹,.int sp⁻¹]))->bH n ys L Q
def WJ:∀ys L Q,¬bH 0 ys L Q:=by rintro ys L Q ⟨a,J,I,_,_,hd,_⟩;cases I<;>simp[Wd.depth] at hd
def LL{a p:Addr}{o x y:LO}(J:L a=some o)(I:L p=none):qk (qk L a x) p y a=some x/\qk (qk L a x) p y p=some y/\∀b u,b≠a->L b=some u->qk (qk L a x) p y b=some u:=
 ⟨(qe<|ku J I).t q9,q9,λ_ _ n e=>(qe<|ku e I).t<|(qe n).t e⟩
def yE{a p:Addr}{o x:LO}(J:L a=some o)(I:qk L a x p=none):L p=none:=by
 have:p≠a:=λe=>by rw[e,q9] at I;cases I
 rw[qe this] at I;exact I
def a_:∀m:Nat,m<=20000->m<sizeLine:=λm h=>Bz h ∅
def WK{FS:vh}(hF:∀ys L Q,ax 120 ys L Q->FS ys L Q)(n:Nat):_f (bH (n+1)) (Ww FS<|bH n) 8:=by
 rintro ys L Q ⟨a,I,w,rfl,ha,hd,hn,C,hk,hb,q⟩;have big:=a_;cases w with
 |leaf t nm=>
  have hb:=hb;refine qa ha (hF _ _ _ {.leaf t nm,rfl,BZ _,qo ha {big _ (by rw[Ac];lia),?_}});refine qa q9 (qo q9 {big _ (by rw[Ab,Ac];simp;lia),?_});rw[vn];obtain⟨W,T⟩:∃W,W=x8 (I++[Kn.lf (!t) nm,.lf t nm]):={_,rfl};have e1:(x8 I++[dP (Wd.leaf t nm).turn])++[dP<|.leaf t nm]=W:=by rw[T];unfold x8;rw[Ax,AB];rfl
  have e2:W.l=I.l+2:=by rw[T,Ac,Ab];rfl
  have i1:W.l⁻¹-2=I.l⁻¹:=by rw[e2];lia
  have i2:W.l⁻¹-1=(I.l+1)⁻¹:=by rw[e2];lia
  have ar:=e1
  first|rw[e1]|rw[ar]
  refine qa q9<|qa q9<|qa q9<|qa q9 λp J=>?_;have np:=yE ha J;have:=q _ _ _ _ p np<|wN hk C;rw[<-T] at this;show aR Q (.ref p) (qk _ p<|.lst [.tup [.str "link",.int<|W.l⁻¹-2,.int<|W.l⁻¹-1],.int<|W.l⁻¹-2,.int<|W.l⁻¹-1]);rw[i1,i2];exact jj this
 |node e l r=>
  have av:max l.J r.J+1<=n+1:=hd;have hb:I.l+2*(1+l.q+r.q)<=10000:=hb;refine{a,I,l,rfl,ha,'s',l5,C.1,hk,'s',λU A tl sl p1 a5 ML=>?_};obtain⟨g,g1,o1⟩:=LL (x:=.lst<|x8<|I++U) (y:=.lst [qx A,.int tl⁻¹,.int sl⁻¹]) ha a5;have ac:=AN<|ku ha a5;have aL:=ML.len;generalize qk (qk L a<|.lst<|x8<|I++U) p1 _=L1 at g g1 o1 ⊢;refine{a,I++U,r,rfl,g,'s',l5,C.2,ML.ok,by rw[Ab];lia,λj B tr sr p2 al MR=>?_};obtain⟨a1,h2,o2⟩:=LL (x:=.lst<|x8<|(I++U)++j) (y:=.lst [qx B,.int tr⁻¹,.int sr⁻¹]) g al;have au:=AN<|ku g al;have h1:=o2 _ _ ac g1;have ba:=MR.len;generalize qk (qk L1 a<|.lst<|x8<|(I++U)++j) p2 _=L2 at a1 h1 h2 o2 ⊢;have bb:(x8<|(I++U)++j).l=I.l+U.l+j.l:=by rw[Ac,Ab,Ab]
  refine qa a1<|hF _ _ _ {.node e l r,rfl,by exact F6,qa h1<|qa h2<|qo a1 {big _ 's',?_}};have a2:=λo=>(qe (L:=L2) (o:=o) ac).t h1;have a3:=λo=>(qe (L:=L2) (o:=o) au).t h2;refine qa q9 (qa (a2 _) (qa (a3 _) (qo q9 {big _ (by rw[Ab];simp;lia),?_})));rw[vn];obtain⟨N,hN⟩:∃N,N=I.l+(U++j).l:={_,rfl};have M:=WI (e:=e) ML MR hN;obtain⟨W,T⟩:∃W,W=x8 (I++(U++j++[.nd (!e) tl tr,.nd e sl sr])):={_,rfl};have e1:(x8 ((I++U)++j)++[.tup [.str<|kN<|!e,.int tl⁻¹,.int tr⁻¹]])++[.tup [.str<|kN e,.int sl⁻¹,.int sr⁻¹]]=W:=by rw[T];unfold x8;simp[aA]
  rw[e1];have lN:W.l=N+2:=by rw[T,Ac,Ab,Ab,hN];simp;rfl
  have i1:W.l⁻¹-2=N⁻¹:=by rw[lN];lia
  have i2:W.l⁻¹-1=(N+1)⁻¹:=by rw[lN];lia
  refine qa q9<|qa q9 ?_;have done:∀p,qk L2 a (.lst W) p=none->∀R,FP I (.node e l r) (U++j++[Kn.nd (!e) tl tr,.nd e sl sr]) R N (N+1)->
   aR Q (.ref p) (qk (qk L2 a<|.lst W) p<|.lst [qx R,.int N⁻¹,.int (N+1)⁻¹]):=λp J R MM=>by
   have a4:p≠a:=λz=>by rw[z,q9] at J;cases J
   rw[qe a4] at J;have np:L p=none:=by cases z:L p with|none=>rfl|some o=>rw[o2 p o a4<|o1 p o a4 z] at J;cases J
   refine eM ?_<|q _ _ _ _ p np MM;rw[<-T];intro b o z;by_cases c1:b=p
   .subst c1;rw[q9] at z ⊢;exact z
   .rw[qe c1] at z ⊢;by_cases c2:b=a
    .subst c2;rw[q9] at z ⊢;exact z
    .rw[qe c2] at z ⊢;exact o2 b o c2<|o1 b o c2 z
  cases e with
  |true=>
   walk_at "w";refine qa (a2 _)<|qa (a3 _) λp J=>?_;show aR Q (.ref p) (qk _ p<|.lst [.tup [.str "either",.int<|W.l⁻¹-1,.tup [.str "both",.int<|W.l⁻¹-2,qx A,qx B]],.int<|W.l⁻¹-2,.int<|W.l⁻¹-1]);rw[i1,i2];exact done p J _ M
  |false=>
   walk_at "w";refine qa (a2 _)<|qa (a3 _) λp J=>?_;show aR Q (.ref p) (qk _ p<|.lst [.tup [.str "either",.int<|W.l⁻¹-2,.tup [.str "both",.int<|W.l⁻¹-1,qx A,qx B]],.int<|W.l⁻¹-2,.int<|W.l⁻¹-1]);rw[i1,i2];exact done p J _ M
variable {R:Ru}{ks ir ms:List Kn}{eW wd:List<|Option Kn}
def qK(I:vh):RD "parts_of" rP 1 ["knot"] (λV=>Gi V I):={_,λV B c _ _ _ _ _ _ _ J hN U=>(qb (zc (bC<|vO (uM<|qv 0)<|uC<|bv<|C_ c J<|jz<|qv 0) (qd<|qt<|zd vj) qy)<|qd<|qt<|zd<|vo (J_ 0)<|J_ 0)}
def hU:RD "places_there" gN 0 ["knots"] (λ_=>True):={_,λV B c _ _ _ _ _ _ _ I hN J=>(qd<|qt<|fq ["place","knot" ] (E4 'o') rfl (uD rfl B.bn<|qv 0) (Vo 1) (λ_ _ _ _=>dC<|uJ<|qv 2) λ_ _ _ _=>(qv 1))}
def qG:GT->Y
 |none=>.GM
 |some k=>aA k
abbrev wm(ks:List<|GT):_T:=ks.y qG
def jq:GT->aah
 |some (.nd _ i j)=>[i,j]
 |_=>[]
def o_(f:GT->Bool)(ks:List<|GT)(i:Nat):aah:=(List.range i).S λp=>match ks[p]? with
 |some k=>f k
 |none=>false
def wX{f:GT->Bool}{ks:List<|GT}{k:GT}(h:ks[i]?=some k):o_ f ks (i+1)=o_ f ks i++if f k=true then [i] else []:=by unfold o_;rw[Dk,Cu];congr 1;rw[B9];simp only[h,DN]
def LM{f:GT->Bool}{ks:List<|GT}(h:p∈o_ f ks i):p<i/\∃k,ks[p]?=some k/\f k=true:=by
 obtain⟨h1,h2⟩:=AW.j h;refine{Bg.j h1,?_};split at h2
 .rename_i k e;exact{(k),e,h2}
 .cases h2
def LN(f:GT->Bool)(ks:List<|GT)(i:Nat):(o_ f ks i).l<=i:=by exact AQ (CV _ _) (by rw[Bm];simp +arith only)
def Iu:GT->Bool
 |some _=>true
 |none=>false
abbrev dh(ks:List<|GT):aah:=o_ Iu ks ks.l
def hG(a b:aah):nY (a++b)=nY a++nY b:=by unfold nY;rw[Ax]
def lW{hs:aah}(h:(nY hs)[i]?=some y):∃n,hs[i]?=some n/\y=.int (n:Int):=by unfold nY at h;rw[Al] at h;obtain⟨n,I,J⟩:=Au.j h;exact{(n),I,J.L}
def WL{f:GT->Bool}{ks:List<|GT}{keep:qm->Prop}{tc:jB}{Q:YK}(hz:ks.l<=1000)(j:keep L)
 (turn:∀(i:Nat) (k:GT) (R:_T->qm->Prop) zs,ks[i]?=some k->(f k=true->R (zs++[.int (i:Int)]) L)->(f k=false->R zs L)->g (.tup [.int (i:Nat),qG k]) (τ++List.replicate 2 none) L λI L2=>tc I L2 λb L3=>fY b (te I L3 λz l=>R (zs++[z]) l)<|R zs L3)
 (o:∀p,L p=none->Q (.ref p) (qk L p<|.lst<|nY<|o_ f ks ks.l)):n_ (qE<|wm ks) keep 2 g tc te τ L Q:=by
 refine bu (λi zs=>zs=nY (o_ f ks i)) ([li,Ac]≈Bz hz ∅) j rfl ?_ ?_
 .rintro i y zs r rfl;obtain⟨z,U,rfl⟩:=om r;rw[Al] at U;obtain⟨k,J,rfl⟩:=Au.j U;refine turn i k _ _ J (λh=>{L,ET _,rfl,?_}) λh=>{L,ET _,rfl,?_}
  .rw[wX J,AF h,hG];rfl
  .rw[wX J,Az ([h]≈AI),AE]
 .rintro zs rfl;rw[li,Ac];exact o
inductive gU(ys:_T)(L:qm)(Q:YK):Prop
 |mk:∀a,∀ks:List (GT),(ys=[.ref a])->(L a=⇑(wm ks))->(ks.l<=1000)->(∀p,L p=none->Q (.ref p) (qk L p<|.lst<|nY<|dh ks))->gU ys L Q
def WM:_f gU hU.1 1:=by
 rintro ys L Q ⟨a,j,rfl,I,J,q⟩;refine xi I λkeep U=>WL (f:=Iu) J (U L rfl) (λi k R l o h1 h2=>?_) λp g=>jj<|q p g;cases k with
 |none=>exact h2 rfl
 |some k=>cases k<;>exact h1 rfl
def WN(a b:Nat):min (a:Int) (b:Int)=(min a b)⁻¹:='m'
def WO(a b:Nat):max (a:Int) (b:Int)=(max a b)⁻¹:='m'
def G2(p:aap):Y:=.tup [.int p.1⁻¹,.int p.2⁻¹]
abbrev ao(l:aad):_T:=l.y G2
def WP(k:GT):(jq k).l<=2:=by unfold jq;split<;>simp
section
open PySem.W PySem.Calls
section
variable {w:aat}
abbrev SB(kx px:Str)(p1 p2 p3 p4 p5:Pos)(n:Nat):Expr:=.Tuple [.Subscript (.Name kx p1) (.Name px p2) p3,.Name px p4] n p5
structure pZ(h:aau)(f:Addr)(kx px:Str)(scope:Scope)(kvs:aaf):Prop where
 ex:∃(name eK:Str) (params:Arguments) (p1 p2 p3 p4 p5:Pos) (n:Nat) (pm ctv:aaq) (c' cell k:Addr),h.x f=some (kla_obj name eK params (SB kx px p1 p2 p3 p4 p5 n) scope [(kx,cell)] pm c' ctv)/\h.CodeRec (.ref c') eK/\
  h.IsCell cell (↑k)/\h.IsList k kvs.m/\∀v:aaq,bindArgs (kla_fn name eK params (SB kx px p1 p2 p3 p4 p5 n) scope [(kx,cell)] pm (.ref c') ctv) ⟨[v],[]⟩=pure [(px,v)]
 lim:h.NoLimit
structure _D(scope:Scope)(kx px:Str):Prop where
 kind:scope.kind=.function
 co:scope.isCoroutine=false
 gen:scope.isGenerator=false
 nc:∀x∈scope.names,x.2≠.cell
 lp:scope.names.e px=some .local
 lk:scope.names.e kx=some .free
 d1:(kx==("__debug__" : Str))=false
 d2:(px==("__debug__" : Str))=false
 d3:(kx==("__classdict__" : Str))=false
theorem pZ.keeps{kvs:aaf}(k:pZ h f kx px scope kvs)(J:∀b o,h.x b=some o->h'.get? b=some o):pZ h' f kx px scope kvs:=by
 obtain⟨name,U,I,p,r,t,C,T,n,pm,l,c',cell,kk,g1,g2,g3,g4,g5⟩:=k.ex;refine{{name,U,I,p,r,t,C,T,n,pm,l,c',cell,kk,J _ _ g1,?_,?_,?_,g5},k.lim.keeps J}
 .obtain⟨c,oc,vs,tq,g,j,e3⟩:=g2;exact{c,oc,vs,tq,g,J _ _ j,e3}
 .obtain⟨o,g,j⟩:=g3;exact{o,J _ _ g,j}
 .obtain⟨o,g,j⟩:=g4;exact{o,J _ _ g,j}
def WQ{kvs:aaf}{u t:Tok}{r:Int}(K:pZ s.v f kx px scope kvs)(S:_D scope kx px)(J:A.J<recursionLimit)(hi:kvs[i]?=some (.int r t))(a1:i<2 ^ 40)
 (h:∀h' tk a,(∀b o,s.heap.x b=some o->h'.get? b=some o)->h'.get? a=some {cls:=.type "tuple",data:=.seq #[.int r t,.int (i:Int) u]}->Q (.ref a) {s with heap:=h',toks:=tk}):
 wpAny 'w' A (call (.ref f) [.int (i:Int) u]) Q E s:=by
 obtain⟨name,U,l,p1,p2,p3,p4,p5,n,pm,a2,c',cell,kk,g1,g2,g3,g4,g5⟩:=K.ex;refine wpAny_call<|kla_callFunE J g1 rfl S.co S.gen rfl g2 ?_;rw[g5];refine Aq (wpAny_newFunctionEnv S.nc (λx hx=>by rw[Ak.j hx];exact S.lp) (λI g j=>{K.lim.fresh _ j,?_}) S.kind);have p:∀b o,s.heap.x b=some o->I.get? b=some o:=λb o e=>j.extBut b o (Bi<|xT e)<|wh _ e;refine kla_codeExpr ?_;have look:(([(px,Value.int (i:Int) u)]:List<|Str×aaq).reverse.lookup px)=some (.int (i:Int) u):='r'
 have kf:=S.lk;have kp:=S.lp;have cl:(envX U scope ↥s f (.ref c') [(kx,cell)]).cells.lookup kx=some cell:='r'
 have ic:I.IsCell cell (↑kk):=by obtain⟨o,C,T⟩:=g3;exact{o,p _ _ C,T}
 have il:I.IsList kk kvs.m:=by obtain⟨o,C,T⟩:=g4;exact{o,p _ _ C,T}
 refine wpAny_Tuple_spliced<|At<|Subscript_<|wpAny_Name (wpAny_loadName_free S.kind kf cl ic (wpAny_Name (wpAny_loadName_local S.kind kp g look ?_) S.d2) S.d3) S.d1;refine item_listL il (Bb _) 'm' ([show i⁻¹.B=i from rfl]≈hi) ?_;refine At<|wpAny_Name (wpAny_loadName_local S.kind kp g look ?_) S.d2;refine EQ {by show 2<=sizeLine;decide,?_};exact h _ _ _ (λb o e=>wh _<|p b o e)<|ya _ rfl
end
def _L(x:Nat×Tok):aaq:=.int (x.1:Int) x.2
def Iv(h:aau)(kS:Addr)(rk:Nat->Int)(k:aaq)(x:Nat×Tok):Prop:=∃a t u,k=.ref a/\a≠kS/\h.x a=some {cls:=.type "tuple",data:=.seq #[.int (rk x.1) t,.int (x.1:Int) u]}
def mU(h:aau)(kS:Addr)(rk:Nat->Int):aaf->List (Nat×Tok)->Prop
 |[],[]=>True
 |k::ks,x::xs=>Iv h kS rk k x/\mU h kS rk ks xs
 |_,_=>False
theorem mU.len{h:aau}{kS:Addr}{rk:Nat->Int}:∀{ks:aaf} {xs:List<|Nat×Tok},mU h kS rk ks xs->ks.length=xs.l
 |[],[],_=>rfl
 |_::_,_::_,⟨_,b⟩=>by rw[AK,AK,mU.len b]
 |[],_::_,z=>z.elim
 |_::_,[],z=>z.elim
theorem mU.mem{h:aau}{kS:Addr}{rk:Nat->Int}:∀{ks:aaf} {xs:List<|Nat×Tok},mU h kS rk ks xs->∀t∈ks.zip xs,Iv h kS rk t.1 t.2
 |[],[],_,t,I=>by cases I
 |_::_,_::_,⟨a,b⟩,t,I=>by
  rw[List.zip_cons_cons] at I;obtain rfl|I:=Ao.j I
  .exact a
  .exact mU.mem b t I
 |[],_::_,z,_,_=>z.elim
 |_::_,[],z,_,_=>z.elim
section
variable {w:aat}
theorem LP{g:aau}{f:Addr}{kx px:Str}{scope:Scope}{kvs:aaf}{kS:Addr}{rk:Nat->Int}{body:aaq->PUnit->Sem (ForInStep PUnit)}(K:pZ g f kx px scope kvs)(S:_D scope kx px)(I:A.J<recursionLimit)(hn:g.x kS=none)
 (hb:∀(x:aaq) (s:aar) (Q':ForInStep PUnit->aar->Prop),wpAny 'w' A (call (.ref f) [x]) (λk s'=>wpAny 'w' A (Builtin.List.listUpdate (.ref kS) (·.I k)) (λ_ C=>Q' (.yield ⟨⟩) C) E s') (λ_ _=>False) s->wpAny 'w' A (body x ⟨⟩) Q' E s):
 ∀(ps:List<|Nat×Tok) (ks:aaf) (e:Nat) (s:aar) (Q:PUnit->aar->Prop),(∀b o,g.x b=some o->s.heap.get? b=some o)->s.heap.get? kS=some (seqObj "list" ks.m e)->ks.length+ps.l<=100000->
  (∀x∈ps,x.1<2 ^ 40/\∃t,kvs[x.1]?=some (.int (rk x.1) t))->
  (∀h' tk j T,(∀b o,b≠kS->s.heap.get? b=some o->h'.get? b=some o)->h'.get? kS=some (seqObj "list" (ks++j).m T)->mU h' kS rk j ps->Q ⟨⟩ {s with heap:=h',toks:=tk})->
  wpAny 'w' A (forIn (ps.y _L) PUnit.unit body) Q E s
 |[],ks,e,s,Q,hg,hk,hz,hp,q=>by rw[DR,EM];exact Aq (q s.v s.D [] e (λ_ _ _ h=>h) ([AE]≈hk) trivial)
 |x::r,ks,e,s,Q,hg,hk,hz,hp,q=>by
  rw[AR,Dj];rw[AK] at hz;obtain⟨a1,t,ht⟩:=hp x<|Ag ..;have big:(100000:Nat)+1<=sizeLine:=by rw[sizeLine_eq];exact EH _ _
  refine Aa<|hb (_L x) s _<|WQ (K.keeps hg) S I ht a1 λh1 l a k1 ha=>?_;have J:=k1 _ _ hk;have s1:=As h1 kS (Obj.mapSeq (·.I (.ref a)));have ea:ks.toArray.I (.ref a)=List.toArray (ks++[.ref a]):='r'
  obtain⟨c2,a2⟩:∃c2,(h1.update kS (Obj.mapSeq (·.I (.ref a)))).x kS=some (seqObj "list" (List.toArray<|ks++[.ref a]) c2):={_,by rw[<-ea];exact get?_update_seq J (·.I (.ref a))};have p:a≠kS:=λz=>by
   rw[z,J] at ha;have:=A8 (λo:Option Obj=>o.map (·.cls)) ha;have z2:=this;injection z2 with z3
   injection z3 with z4
   exact absurd z4 ∅
  refine listUpdate_at (s:={s with heap:=h1,toks:=l}) J rfl ?_ (by rw[Av];lia) (AQ (DS<|BB ..) (by rw[Av];lia));refine LP K S I hn hb r (ks++[.ref a]) c2 {s with heap:=h1.update kS (Obj.mapSeq (·.I (.ref a))),toks:=l} Q (λb o e=>?_) a2 (by rw[Ab,DE];lia) (λy hy=>hp y<|Ae _ hy) λh' tk j T kk a3 vs=>?_
  .have nb:b≠kS:=λz=>by rw[z,hn] at e;cases e
   exact(s1.2 b nb).t (k1 b o<|hg b o e)
  .have U:∀b o,b≠kS->h1.get? b=some o->h'.get? b=some o:=λb o nb e=>kk b o nb<|(s1.2 b nb).t e;refine q h' tk (.ref a::j) T (λb o nb e=>U b o nb<|k1 b o e) (by rw[a3,AB];rfl) {{a,t,x.2,rfl,p,U a _ p ha},vs}
end
section
variable {w:aat}
def WR{g:aau}{kvs:aaf}{kS a:Addr}{rk:Nat->Int}{ps:List<|Nat×Tok}{e1 e0:Nat}{B:Int}{P:PySem.Fin->aar->Prop}(K:pZ g f kx px scope kvs)(S:_D scope kx px)(I:A.J<recursionLimit)(hn:g.x kS=none)
 (hg:∀b o,g.x b=some o->s.heap.get? b=some o) (hk:s.heap.x kS=some (seqObj "list" #[] e0)) (ha:s.heap.x a=some (seqObj "list" #[] e1)) (l:kS≠a) (hz:ps.l<=127)
 (hp:∀x∈ps,x.1<2 ^ 40/\∃t,kvs[x.1]?=some (.int (rk x.1) t)) (hB:∀x∈ps,x.1⁻¹<B) (nd:(ps.y (·.1)).c)
 (h:∀h' tk (qs:List<|Nat×Tok) c,(∀b o,b≠kS->b≠a->s.heap.get? b=some o->h'.get? b=some o)->h'.get? a=some (seqObj "list" (qs.y _L).m c)->qs.Perm ps->(qs.H λx y=>rk x.1*B+(x.1:Int)<=rk y.1*B+(y.1:Int))->P (.done<|.ret .none) {s with heap:=h',toks:=tk}):
 wpAny 'w' A (ksk_rest a (.ref f) false (ps.y _L).m e1<|.ref kS) P E s:=by
 refine Aa<|BJ ?_;rw[List.forIn_toArray];refine Aa (LP (rk:=rk) K S I hn (λx s' Q' hx=>?_) ps [] e0 s _ hg hk 'l' hp λh' tk ks e' keep J kv=>?_)
 .refine Aa (wpAny_attempt<|A5 hx (λk a5 hk=>?_) λ_ _ hF=>hF.elim)
  try dsimp only
  exact Aa<|A5 hk (λ_ s3 q=>Aq q) λ_ _ e=>e
 .try dsimp only
  rw[Cy] at J;refine Aa<|listItems_at (s:={s with heap:=h',toks:=tk}) J rfl ?_;have a1:=keep _ _ (AN l) ha;have len:=kv.len;obtain⟨T,C⟩:∃T,T=ks.zip ps:={_,rfl};have kT:∀t∈T,Iv h' kS rk t.1 t.2:=λt p=>kv.mem t<|C▸p;have e2:T.y (·.2)=ps:=by rw[C];exact List.map_snd_zip 's'
  have ez:ks.zip (ps.y _L)=T.y λt=>(t.1,_L t.2):=by rw[C,List.zip_map_right];rfl
  have mp:∀t∈T,t.2∈ps:=λt p=>by rw[<-e2];exact DQ p
  have nT:∀t∈T,fv h' B (t.1,_L t.2)=rk t.2.1*B+(t.2.1:Int):=λt p=>by obtain⟨b,tt,u,r,x2,x3⟩:=kT t p;exact zA r x3 rfl
  refine Wj (s:={s with heap:=h',toks:=tk}) (vs:=ps.y _L) (ks:=ks) (B:=B) J a1 l ([Ac]≈len) ([Ac]≈hz) (λv hv=>?_) λh2 a2 xs c U hc pm pw=>?_
  .obtain⟨j,hj⟩:=DK hv;have a3:j<ps.l:=by rw[<-len];exact(A3.j hj).1
   have hm:(v,ps[j])∈T:=by rw[C];refine List.mem_iff_getElem?.mpr {j,?_};rw[B5];exact{hj,Ah a3}
   obtain⟨b,tt,u,r,x2,x3⟩:=kT _ hm;have r:=r;exact{b,_,_,_,_,tt,u,r,x3,rfl,rfl,Bb _,hB _<|mp _ hm}
  .rw[ez] at pm;obtain⟨T',pT,a4⟩:=Wk _ pm rfl;subst a4;have mT:∀t,t∈T'->t∈T:=λt=>pT.mem_iff.mp;refine h h2 a2 (T'.y (·.2)) c (λb o n1 n2 e=>?_) ?_ ?_ ?_
   .rw[U b n1 n2];exact keep b o n1 e
   .rw[hc,BI,BI];rfl
   .rw[<-e2];exact pT.y _
   .refine Dx.d<|List.Pairwise.imp_of_mem (λ{x y} hx hy z=>?_)<|Dx.mp pw;rw[nT x<|mT x hx,nT y<|mT y hy] at z;exact z
def w_sortedK{kvs:aaf}{rk:Nat->Int}{ps:List<|Nat×Tok}{B:Int}(K:pZ s.v f kx px scope kvs)(S:_D scope kx px)(j:A.in1.in1.J<recursionLimit)
 (hl:s.heap.IsList l (ps.y _L).m) (hz:ps.l<=127)
 (hp:∀x∈ps,x.1<2 ^ 40/\∃t,kvs[x.1]?=some (.int (rk x.1) t)) (hB:∀x∈ps,x.1⁻¹<B) (nd:(ps.y (·.1)).c)
 (h:∀h' tk (p:List<|Nat×Tok) D c,↥s<=D->(∀b o,s.heap.x b=some o->h'.get? b=some o)->h'.get? D=some (seqObj "list" (p.y _L).m c)->p.Perm ps->(p.H λx y=>rk x.1*B+(x.1:Int)<=rk y.1*B+(y.1:Int))->Q (.ref D) {s with heap:=h',toks:=tk}):
 wpAny 'w' A (call (.builtin "sorted") [.ref l] [(Str.ofString "key",.ref f)]) Q E s:=by
 have big:(100000:Nat)+1<=sizeLine:=by rw[sizeLine_eq];lia
 have a2:(ps.y _L).l<=100000:=by rw[Ac];lia
 refine call_function_entry_kw kind_sorted plain_sorted entry_sorted (ksk_s1 _ _) ?_;refine Aa (m:=checkCount "sorted" 1 1 _)<|Aq ?_;refine Aa<|collect_list hl ?_<|GA;refine Aa<|wpAny_newList ?_ 's';obtain⟨g1,T⟩:∃g1,g1=(s.heap.I<|seqObj "list" #[] 0).update ↥s (Obj.mapSeq (· ++ (ps.y _L).m)):={_,rfl};have gs:g1.objs.q=↥s+1:=by rw[T,Heap.size_update,size_push']
 have gk:∀b o,s.heap.x b=some o->g1.get? b=some o:=λb o q=>by have J:=xT q;rw[T,Heap.get?_update_ne _ _ _ _<|Bi J];exact wh _ q
 rw[<-T];have I:(g1.I<|seqObj "list" (ps.y _L).m 0).x g1.objs.q=some (seqObj "list" (ps.y _L).m 0):=ya _ rfl;have keep:∀b o,s.heap.x b=some o->(g1.I<|seqObj "list" (ps.y _L).m 0).x b=some o:=λb o q=>wh _<|gk b o q;refine Aa<|BA<|wpAny_call_entry_kw slot_list_sort {_,I,rfl} entry_list_sort ?body<|ksk_l1 _ _
 case body=>
  obtain⟨D,eD⟩:∃D,D=g1.objs.q:={_,rfl};rw[<-eD] at I ⊢;rw[ksk_t1];obtain⟨g2,r⟩:∃g2,g2=g1.I (seqObj "list" (ps.y _L).m 0):={_,rfl};rw[<-r] at I keep ⊢;have s1:=As g2 D<|Obj.mapSeq λ_=>(#[]:aag);obtain⟨e1,C⟩:∃e1,(g2.update D<|Obj.mapSeq λ_=>(#[]:aag)).x D=some (seqObj "list" #[] e1):={_,get?_update_seq I λ_=>#[]};have nD:∀b o,s.heap.x b=some o->b≠D:=λb o q z=>by have J:=xT q;rw[z,eD,gs] at J;exact Nat.not_succ_lt_self J
  refine Aa<|listItems_at (s:={s with heap:=g2}) I rfl ?_;refine Aa (listUpdate_at (s:={s with heap:=g2}) I rfl ?_ ([Av]≈GA)<|A7 _);refine Aa<|seqEpoch_at C rfl ?_;refine Aa<|wpAny_newTuple ?_ 's';refine Aa<|wpAny_newList ?_<|A7 _;refine BA ?_;obtain⟨g3,U⟩:∃g3,g3=(g2.update D<|Obj.mapSeq λ_=>(#[]:aag)).I (seqObj "tuple" (ps.y _L).m 0):={_,rfl};have k3:∀b o,s.heap.x b=some o->g3.get? b=some o:=λb o q=>by rw[U];exact wh _<|(s1.2 b<|nD b o q).t<|keep b o q
  have d3:g3.x D=some (seqObj "list" #[] e1):=by rw[U];exact wh _ C
  rw[<-U];have a1:(g3.I<|seqObj "list" #[] 0).x g3.objs.q=some (seqObj "list" #[] 0):=ya _ rfl;refine WR (s:={s with heap:=g3.I (seqObj "list" #[] 0)}) (g:=s.v) (kS:=g3.objs.q) (a:=D) (rk:=rk) (B:=B) K S j (Heap.get?_none_of_le ?_) (λb o q=>wh _<|k3 b o q) a1 (wh _ d3) ?_ hz hp hB nd λh' tk p c kp hD pm pw=>?_
  .have l1:g3.objs.q=g1.objs.q+2:=by rw[U,size_push',Heap.size_update,r,size_push']
   rw[l1,gs];exact AQ (Cn _)<|Bd _ 2
  .exact(Bi<|xT d3).L
  .refine{_,rfl,Aq {_,rfl,h h' tk p D c ([eD,gs]≈Cn _) (λb o q=>?_) hD pm pw}};exact kp b o (Bi<|xT<|k3 b o q) (nD b o q)<|wh _<|k3 b o q
end
end
def uW{i j:Int}{t u:Tok}{c:aaq}(l:aaf)(h:TriplesOk l):TriplesOk (l++[.int i t,.int j u,c]):=by
 fun_induction TriplesOk l with
 |case1=>trivial
 |case2 _ _ _ _ _ rest I=>exact I h
 |case3=>exact h.r
def WS{pos:Pos}{i j:Int}{t u:Tok}{c I:aaq}(l:aaf)(h:TriplesOk l)(e:codeAmong pos (l++[.int i t,.int j u,c])=some I):codeAmong pos l=some I\/I=c:=by
 fun_induction TriplesOk l with
 |case1=>
  right;have e:(if i==pos.line&&j==pos.col then some c else none)=some I:=e;split at e
  .cases e;rfl
  .cases e
 |case2 a _ b _ d rest J=>
  have e:(if a==pos.line&&b==pos.col then some d else codeAmong pos (rest++[.int i t,.int j u,c]))=some I:=e;show(if a==pos.line&&b==pos.col then some d else codeAmong pos rest)=some I\/I=c;split at e
  .rename_i z;rw[AF z];exact .inl e
  .rename_i z;rw[Az z];exact J h e
 |case3=>exact h.r
structure FQ(K:Aj)(eS:aaq)(P:Addr):Prop where
 ex:∃c oc,eS=.ref c/\K.e c=some oc/\∀h:aau,h.x c=some oc->PySem.W.CodeHd h c P
 bm:∃bm ob,PySem.W.nsIn K mainGlobals "__builtins__"=some (↑bm)/\bm≠builtinsNs/\bm≠mainGlobals/\K.e bm=some ob/\ob.cls=.type "module" /\ ob.dict=some builtinsNs/\ob.data=.plain
theorem xY:∀{l:aah} {us:aaf},zw (l.y λi:Nat=>V.int<|0+(i:Int)) us->∃ps:List (Nat×Tok),us=ps.y _L/\ps.y (·.1)=l
 |[],_,.nil=>{[],rfl,rfl}
 |i::r,_,.cons (b:=u) h t=>by obtain⟨ps,I,J⟩:=xY (l:=r) t;obtain⟨tk,U⟩:=(show ∃tk,u=Value.int (0+(i:Int)) tk from h);refine{(i,tk)::ps,?_,by rw[AR,J]};rw[AR,I,U];show _=Value.int (i:Int) tk::_;rw[BW]
theorem xX:∀ps:List (Nat×Tok),zw (ps.y λx=>V.int x.1⁻¹)<|ps.map _L
 |[]=>.nil
 |x::r=>.cons {(x.2),rfl}<|xX r
def WT(P:Addr)(q:Str)(U:Nat)(te:TE):TE:=λσ H Q=>te σ H λv H1=>∃l J,∃n:Nat,∃rks:aal,v=.ref l/\H1 l=⇑(((List.range n).y λi:Nat=>V.int<|0+(i:Int)))/\σ[U]?=some (↑J)/\H1 J=⇑(rks.y V.int)/\rks.l=n/\n<=127/\vG H1 P q/\
 ∀H2 D (I:aah),(∀b u,b≠P->H1 b=some u->H2 b=some u)->vG H2 P q->H1 D=none->D≠P->H2 D=⇑((I.y λi:Nat=>V.int (i:Int)))->I.Perm (List.range n)->(I.H λi j=>rks.getD i 0*1000000+(i:Int)<=rks.getD j 0*1000000+(j:Int))->Q (.ref D) H2
def WU{kk cell c':Addr}{name:Str}{J:Arguments}{p:aaq}{Q:VK}(I:'v')(S:_D fm kx px)(hr:X.A.J+3<recursionLimit)
 (hf:s.heap.x f=some (PySem.W.kla_obj name eK J 'y' fm [(kx,cell)] pm c' p)) (a2:s.heap.CodeRec (.ref c') eK) (r:s.heap.IsCell cell<|↑kk)
 (hb:∀v:aaq,bindArgs (PySem.W.kla_fn name eK J 'y' fm [(kx,cell)] pm (.ref c') p) ⟨[v],[]⟩=pure [(px,v)])
 (hl:H l=⇑(((List.range n).y λi:Nat=>V.int<|0+(i:Int)))) (hk:H kk=⇑(rks.y V.int)) (hn:rks.l=n) (hz:n<=127)
 (q:∀D (g:aah),H D=none->g.Perm (List.range n)->(g.H λi j=>rks.getD i 0*1000000+(i:Int)<=rks.getD j 0*1000000+(j:Int))->Q (.ref D) (upd H D<|.lst (g.y λi:Nat=>V.int (i:Int)))):
 _S X (call (.builtin "sorted") [.ref l] [(Str.ofString "key",.ref f)]) 'd' X.xe s:=by
 obtain⟨a5,rv,pl,_⟩:=I.list<|FF hl;obtain⟨T,rk,pk,_⟩:=I.list<|FF hk;obtain⟨ps,rfl,U⟩:=xY rv;have lp:ps.l=n:=by have:=A8 List.length U;rwa[Ac,Bm] at this
 have big:(100000:Nat)<=sizeLine:=∅
 refine jv I.tk<|w_sortedK (rk:=λi=>rks.getD i 0) (B:=1000000) (kvs:=T) {{(name),eK,J,p1,p2,p3,p4,p5,x1,pm,p,c',cell,kk,hf,a2,r,pk.isList,hb},I.nolimit} S ?_ pl.isList 's' (λx hx=>?_) (λx hx=>?_) ?_ λh' tk g D c hD keep hg a1 pw ht=>?_
 .show X.A.J<recursionLimit;lia
 .have C:x.1∈List.range n:=by rw[<-U];exact DQ hx
  have a3:=Bg.j C;refine{'s',?_};have e1:(rks.y V.int)[x.1]?=some (V.int<|rks.getD x.1 0):=by rw[Al,Ah 's',Bs,Ah 's'];rfl
  obtain⟨u,e2,r2⟩:=Paired.getP rk e1;obtain⟨t,rfl⟩:=(show ∃t,u=Value.int (rks.getD x.1 0) t from r2);exact{(t),e2}
 .have C:x.1∈List.range n:=by rw[<-U];exact DQ hx
  have a3:=Bg.j C;omega
 .rw[U];exact Ct
 .have a4:=I.KB.fresh hD;refine{.ref D,_,I.laid (t':=tk) (o:=.lst ((g.y (·.1)).y λi:Nat=>V.int (i:Int))) keep hD ?_,rfl,q D (g.y (·.1)) a4 ?_ ?_}
  .refine{?_,g.y _L,c,?_,hg}
   .rw[Ac,Ac,a1.f];lia
   .rw[BI];exact xX g
  .rw[<-U];exact a1.y _
  .exact Dx.d pw
def za.tabbed{P U:Addr}{ps more:aag}{oc fo:Obj}{tk:Nat}(I:'v')(T:H P=some (._N ps))(hx:Heap.ExtBut P s.v h')(g:h'.x P=some (PySem.W.tabObj<|ps++more))
 (hc:↥s<=U) (j:h'.x U=some oc) (ht:0<tk):za X pins σ (upd (upd H P<|._N<|ps++more) U<|._b oc<|.own 0) {s with heap:=h'.I fo,toks:=tk}:=by
 have nc:=I.KB.fresh hc;have t:∀b,H b=none->b≠P:=λb e z=>by rw[z,T] at e;cases e
 have l:∀b u,H b=some u->b≠U:=λb u e z=>by rw[z,nc] at e;cases e
 have p:∀b o,s.heap.x b=some o->b≠U:=λb o e=>Bi<|AL (xT e) hc;have C:∀b o,b≠P->s.heap.get? b=some o->(h'.I fo).x b=some o:=λb o n e=>wh _<|hx b o n e;have J:∀b u,H b=some u->(∀ps,u≠._N ps)->b≠P:=λb u e d z=>by rw[z,T] at e;cases e;exact d _ rfl
 refine I.step (ch:=[]) (g':=s.gens) (d':=s.drawn) (t':=tk) (λ_ z=>nomatch z) (λb o _ _ _ e n=>C b o (t b n) e) (λb o _ _ _ e n=>{o.slots,C b o (t b n) e}) (λb o _ e n=>?_) (λb o _ e=>?_) (λb xs e=>?_) (λb o u e=>?_) (λb qs e=>?_) (λm hm=>?_) (λb u e=>?_) I.bare ht
 .rw[qp<|p b o e,qp<|t b n];exact n
 .by_cases c:b=P
  .subst c;exact{_,wh _ g}
  .exact{o,C b o c e}
 .rw[qp<|l b _ e,qp (J b _ e λ_ z=>by cases z)];exact e
 .rw[qp<|l b _ e,qp (J b _ e λ_ z=>by cases z)];exact e
 .rw[qp<|l b _ e];by_cases c:b=P
  .subst c;rw[T] at e;cases e;exact{(more),zg}
  .rw[qp c];exact{#[],by rw[e];simp}
 .exact(hm.extBut hx<|t _ I.U).I _
 .by_cases c:b=U
  .subst c;rw[zg] at e;cases e;exact{wh _ j,_,wh _ j}
  .rw[qp c] at e;by_cases d:b=P
   .subst d;rw[zg] at e;cases e;exact wh _ g
   .rw[qp d] at e;refine(I.KB b u e)._e (λa v ha r=>C a v ?_ r) (λa r=>?_) (λa xs r=>?_)
    .rcases ha with rfl|ha
     .exact d
     .exact J a _ ha λ_ z=>by cases z
    .rw[qp<|l a _ r,qp (J a _ r λ_ z=>by cases z)];exact r
    .rw[qp<|l a _ r,qp (J a _ r λ_ z=>by cases z)];exact r
def WV{te:TE}{J:Arguments}{U p pos:Pos}{ik:Nat}{P:Addr}{q:Str}(hg:Gl X "sorted")(hm:X.mg "sorted"=none)(he:PE X e te)(S:_D fm kx px)(C:FQ X.K X.env.code P)(hr:X.A.J+3<recursionLimit)
 (hq:X.env.qual ++ "<lambda>" = q) (bp:X.N[ik]?=some kx) (av:X.env.scope.names.e kx=some .cell) (aL:∃cell,X.env.cells.e kx=some cell/\closureFor fm X.o=pure [(kx,cell)])
 (ba:defaultsOf J X.o=([],[])) (hb:∀(name eK:Str) (cl:List<|Str×Addr) (pm cd ct v:aaq),bindArgs (PySem.W.kla_fn name eK J 'y' fm cl pm cd ct) ⟨[v],[]⟩=pure [(px,v)])
 (h1:starEach [e] X.o=(false,eval e X.o)::starEach [] X.o:=by rfl) (h2:(backTo pos<|starEach [e] X.o).any (·.1)=false:=by rfl)
 (h3:backTo pos (starEach [e] X.o)=(false,eval e X.o)::backTo pos (starEach [] X.o):=by rfl):
 PE X (.Call (.Name "sorted" p) [e] [{some "key",.Lambda J 'y' fm U,sy}] pos) (WT P q ik te):=by
 intro a1 s σ H Q I h;refine wpAny_Call_Name_kw<|fS I hg hm ('z':bootBuiltins "sorted"=some (.builtin "sorted")) ?_ ∅ ∅;refine PyProof.Rows.callWith_kw ?_ h3 h2;rw[h3];refine At<|aY (he a1 s σ H _ I h) λv s1 ⟨x,H1,g,rx,l,kk,n,rks,ev,hl,hs,hk,hn,hz,T,qq⟩=>?_;refine EQ ?_;subst ev;cases (show v=Value.ref l from rx);show wpAny _ _ (evalAll ((do let v <-eval (.Lambda J 'y' fm U) X.o;standAt pos;pure v)::[])) _ _ s1;refine wpAny_evalAll_cons<|Aa ?_;obtain⟨cell,a3,al⟩:=aL;obtain⟨c,bq,bb,lc,hC⟩:=C.ex;obtain⟨bm,ob,b1,b2,b3,b4,b5,b6,b7⟩:=C.bm;obtain⟨au,tP,tok,a4⟩:=T;have bc:=g.ok.mod.glob.keeps g.bk;have bd:=g.KB P _ tP;have bf:=hC _<|g._A c bq lc;have a2:∀b o,X.base.x b=some o->b≠P:=λb o e z=>by have:=(g.bs b o e).2;rw[z,tP] at this;cases this
 have ar:=g.ok.mod.kin bm ob b4;have hB:s1.heap.BuiltinsAt X.mg P:={bm,ob,Bw g.ok.mod.kin g.ok.mod.glob b1,b2,b3,a2 _ _ ar,(g.bs _ _ ar).1,b5,b6,b7};have br:mainGlobals≠P:=by obtain⟨o,es,ep,e,hd,_⟩:=g.ok.mod.glob;exact a2 _ _ e
 have a5:s1.heap.IsCell cell (↑kk):=by
  obtain⟨m,_,c0⟩:=g.loc;obtain⟨u,ru,lk⟩:=c0 ik kx _ bp hs<|.inr<|.inl av;cases (show u=Value.ref kk from ru);rcases lk with⟨k1,_⟩|⟨_,c2,e2,c1⟩
  .have k1:X.env.scope.names.e kx=some .local:=k1;rw[av] at k1;cases k1
  .rw[a3] at e2;cases e2;exact c1
 refine PySem.W.kla_eval ba ?_;rw[hq];have jj:∀(s2:aar) (H2:Hp) (f r:Addr) (j pm:aaq),za X a1 σ H2 s2->s2.heap.get? f=some (PySem.W.kla_obj "<lambda>" q J 'y' fm [(kx,cell)] pm r j)->s2.heap.CodeRec (.ref r) q->s2.heap.IsCell cell (↑kk)->
  (∀b u,b≠P->H1 b=some u->H2 b=some u)->vG H2 P q->(∀b,H2 b=none->H1 b=none)->
  _S X (do standAt pos;pure (Value.ref f)) (λv s'=>_S X (evalAll []) (λvs c3=>_S X (call (.builtin "sorted") [.ref l]<|[Str.ofString "key"].zip<|v::vs) (EP X a1 σ Q) X.xe c3) X.xe s') X.xe s2:=by
  intro s2 H2 f r j pm I2 g1 g2 g3 g4 g5 g6;refine Aa<|wpAny_standAt<|Aq<|wpAny_evalAll_nil ?_;have lP:l≠P:=λz=>by rw[z,tP] at hl;cases hl
  have kP:kk≠P:=λz=>by rw[z,tP] at hk;cases hk
  refine WU (n:=n) (rks:=rks) I2 S hr g1 g2 g3 (λv=>hb _ _ _ _ _ _ v) (g4 _ _ lP hl) (g4 _ _ kP hk) hn hz λD qs hD c4 pw=>?_;have bg:D≠P:=λz=>by obtain⟨c8,e2,_⟩:=g5;rw[z,e2] at hD;cases hD
  refine qq _ D qs (λb u n e=>?_) ?_ (g6 D hD) bg zg c4 pw
  .rw[qp<|jf (g4 b u n e) hD];exact g4 b u n e
  .exact g5.keep (qp<|AN bg) λb o u e=>by rw[qp<|jf e hD];exact e
 cases hf:codeAmong U au.z with
 |some cv=>
  obtain⟨r,oc,vs,t,c5,f1,f2,f3⟩:=a4 U cv hf;subst c5;refine jv g.tk<|PySem.W.kla_makeFunctionHit (mg:=X.mg) al g.ok.glob bc bb bf bd tok hf hB λj h' tk bh c9 ht=>?_;have I2:za X a1 σ H1 {s1 with heap:=h'.I {cls:=.type "function",data:=.func (PySem.W.kla_fn "<lambda>" q J 'y' fm [(kx,cell)] ((X.mg "__name__").getD .none) (.ref r) j)},toks:=tk}:=g.kept (t':=tk) λb o e=>wh _<|bh b o e;obtain⟨ac,_⟩:=I2.KB r _ f1;refine jj _ H1 _ r j _ I2 (ya _ rfl) {(r),oc,vs,t,rfl,ac,f2,f3} ?_ (λb u _ e=>e) {(au),tP,tok,a4} λb e=>e;obtain⟨o,e1,e2⟩:=a5;exact{o,wh _<|bh _ _ e1,e2}
 |none=>
  refine jv g.tk<|PySem.W.kla_makeFunction (mg:=X.mg) al g.ok.glob bc bb bf bd tok hf br hB λr j h' tk hx bi cc bj c6 ht=>?_;obtain⟨c2,oc,vs,t,e2,ac,f2,f3⟩:=bj;cases e2;have I2:=g.tabbed (fo:=PySem.W.kla_obj "<lambda>" q J 'y' fm [(kx,cell)] ((X.mg "__name__").getD .none) r j) tP hx c6 bi ac ht;have nc:=g.KB.fresh bi;have cP:r≠P:=λz=>by rw[z,tP] at nc;cases nc
  refine jj _ _ _ r j _ I2 (ya _ rfl) {r,oc,vs,t,rfl,wh _ ac,f2,f3} ?_ (λb u n e=>?_) ?_ λb e=>?_
  .obtain⟨o,e1,e2⟩:=a5;have nP:cell≠P:=λz=>by have:=g.Pi kx cell a3;rw[z,tP] at this;cases this
   exact{o,wh _<|hx _ _ nP e1,e2}
  .rw[qp<|jf e nc,qp n];exact e
  .refine{au++#[rawInt U.line,rawInt U.col,.ref r],by rw[qp<|AN cP,zg],?_,λbn cv z=>?_}
   .rw[Bc];exact uW _ tok
   .rw[Bc] at z;obtain z|z:=WS _ tok z
    .obtain⟨d',od,c7,t',k1,k2,k3⟩:=a4 bn cv z;have nP:d'≠P:=λz=>by rw[z,tP] at k2;cases k2
     exact{d',od,c7,t',k1,by rw[qp<|jf k2 nc,qp nP];exact k2,k3}
    .exact{(r),oc,vs,t,z,zg,f2,f3}
  .by_cases d:b=r
   .subst d;exact nc
   .rw[qp d] at e;by_cases d2:b=P
    .subst d2;rw[zg] at e;cases e
    .rw[qp d2] at e;exact e
def LQ(Pt:Addr)(q:Str)(U:Nat)(te:xq)(τ:jm)(L:qm)(Q:YK):Prop:=te τ L λy L1=>match y with
 |.ref l=>fD L1 l λys=>∃(n:Nat) (rks:aal) (J:Addr),ys=dG 0 n/\yc τ U=↑J/\L1 J=⇑(rks.y Y.int)/\rks.l=n/\n<=127/\L1 Pt=some (.tb q)/\
  ∀(D:Addr) (I:aah),L1 D=none->I.Perm (List.range n)->(I.H λi j=>rks.getD i 0*1000000+(i:Int)<=rks.getD j 0*1000000+(j:Int))->Q (.ref D) (qk L1 D<|.lst (I.y λi:Nat=>Y.int (i:Int)))
 |_=>False
theorem sV{G:G3}{H:Hp}:∀{l:aah} {xs:HT},xw G H (l.y λi:Nat=>Y.int<|0+(i:Int)) xs->xs=l.y λi:Nat=>V.int<|0+(i:Int)
 |[],_,h=>h
 |_::_,_,⟨x,I,e,r,s⟩=>by subst e;cases r;rw[sV s];rfl
theorem lG{G:G3}{H:Hp}:∀{l:aal} {xs:HT},xw G H (l.y Y.int) xs->xs=l.y V.int
 |[],_,h=>h
 |_::_,_,⟨x,I,e,r,s⟩=>by subst e;cases r;rw[lG s];rfl
theorem xD{G:G3}{H:Hp}:∀I:aah,xw G H (I.y λi:Nat=>Y.int (i:Int)) (I.y λi:Nat=>V.int (i:Int))
 |[]=>rfl
 |_::r=>{_,_,rfl,rfl,xD r}
def WW{I:Arguments}{U p pos:Pos}{r:Nat}{q:Str}(hg:Gl X "sorted")(hm:X.mg "sorted"=none)(he:QE X e te)(S:_D fm kx px)(C:FQ X.K X.env.code Pt)(hr:X.A.J+3<recursionLimit)
 (hq:X.env.qual ++ "<lambda>" = q) (t:X.N[r]?=some kx) (a1:X.env.scope.names.e kx=some .cell) (g:∃cell,X.env.cells.e kx=some cell/\closureFor fm X.o=pure [(kx,cell)])
 (j:defaultsOf I X.o=([],[])) (hb:∀(name eK:Str) (cl:List<|Str×Addr) (pm cd ct v:aaq),bindArgs (PySem.W.kla_fn name eK I 'y' fm cl pm cd ct) ⟨[v],[]⟩=pure [(px,v)])
 (h1:starEach [e] X.o=(false,eval e X.o)::starEach [] X.o:=by rfl) (h2:(backTo pos<|starEach [e] X.o).any (·.1)=false:=by rfl)
 (h3:backTo pos (starEach [e] X.o)=(false,eval e X.o)::backTo pos (starEach [] X.o):=by rfl):
 QE X (.Call (.Name "sorted" p) [e] [{some "key",.Lambda I 'y' fm U,sy}] pos) (LQ Pt q r te):=
 EW (WV hg hm he S C hr hq t a1 g j hb h1 h2 h3) λσ H Q τ L Q3 rs rl z k=>by
  refine{τ,L,_,rs,rl,z,λv H1 y L1 t1 J rv z=>?_};cases y with
  |ref l=>
   obtain⟨ys,e1,n,a2,kk,rfl,e2,e3,hn,hz,eP,qq⟩:=v4 z;cases rv;obtain⟨xs,h1,r1⟩:=J l _ e1;obtain⟨xk,h2,r2⟩:=J kk _ e3;have T:=J Pt _ eP;cases sV r1;cases lG r2;obtain⟨v,hv,rv⟩:=rs.get r _<|oM _ _ e2;cases rv;refine{l,kk,n,a2,rfl,h1,hv,h2,hn,hz,T,λH2 D qs kp T2 hD a4 a3 pm pw=>?_};have tb:∃o,H1 Pt=some (._N o):=let ⟨o,e,_⟩:=T;⟨o,e⟩;have t2:jc H1 H2:=λa u i h=>kp a u (λc=>by obtain⟨o,e⟩:=tb;rw[c,e] at h;cases h;cases i) h
   refine k _ _ _ _ (t1.t t2) (λa u e=>?_) 'o'<|qq D qs (J.none hD) pm pw;by_cases c:a=D
   .subst c;rw[q9] at e;cases e;exact{_,a3,xD qs}
   .rw[qe c] at e;by_cases d:a=Pt
    .subst d;rw[eP] at e;cases e;exact T2
    .obtain⟨x,hx⟩:=(J a u e).ex;exact(J a u e).keep t2 ([hx]≈kp a x d hx)
  |_=>exact z.r
structure Iw(K:Aj)(x eK:Str)(st:Stmt)(f:Addr)(fd:FuncData)(Pt:Addr):Prop where
 ex:∃(oc:aaq) (od:Option Addr) (kV hQ pm:aaq) (an:Option Addr) (eS ct:aaq) (pR:Array<|aam),
  fd=PySem.W.fnOf x eK (ww st) (xj st) 'e' .none kV hQ pm an eS ct/\K.e f=some ⟨oc,od,.func fd,pR⟩/\PySem.W.codeIn K eS eK=true/\FQ K eS Pt
 kp:PySem.W.keepIn K (.ref f)=true
def WX{P:aas}{w:aat}{K:Aj}{st:Stmt}{N:aai}{k:Nat}{sp:vh}(F:Iw K x eK st f fd Pt)(S:aT N ps<|z9 st)(len:∀ys L Q,sp ys L Q->ys.length=ps.l)
 (I:∀(eS:aaq) (A:Around) (outer:List Env) (s:aar) (H:Hp) (E:XK),FQ K eS Pt->aX k (A.deeper<|PyProof.Rows.envOfC eK 'e' ↥s f eS)->
  ∃t,sg (fU CX0 P w K mg base N eK 'e' f eS A outer s H E).nox (xj st) t/\∀ys L Q,sp ys L Q->t {nx:=λ_ L'=>aR Q .GM L',rt:=aR Q} (gY N ys) L):Fn3 P w K mg base (k+1) f fd ps sp:=by
 obtain⟨oc,od,kV,a1,pm,an,eS,ct,a2,rfl,lk,U,C⟩:=F.ex;refine Hw lk U S (λvs H Q E ⟨ys,L,g,j,rl,z,_⟩=>by rw[<-j.l];exact len ys L g z) λA outer s H vs Q E hr ⟨ys,L,g,j,rl,z,k⟩=>?_;obtain⟨t,ht,q⟩:=I eS A outer s H E C hr;refine{_,i7.nox ht,gY N ys,L,_,lQ j,rl,q ys L g z,?_};exact{λσ l τ L' o a3 J ⟨L2,p,r⟩=>k .GM l .GM L2 o (J.sub p) 'o' r,λv l y L' o J T ⟨L2,p,r⟩=>k v l y L2 o (J.sub p) T r,λ_ _ _ _ _ _ _ z=>z.elim,λ_ _ _ _ _ _ _ z=>z.elim}
inductive oB(Pt:Addr)(q:Str)(ys:_T)(L:qm)(Q:YK):Prop
 |mk:∀ns:aal,(ys=[.sq<|ns.map Y.int])->(ns.l<=63)->(L=qk (λ_=>none) Pt (.tb q))->(∀L',Q (.bl true) L')->oB Pt q ys L Q
def spTopT(q:Str)(K:Aj)(Pt:Addr):Sp:=λvs H Q _=>∃(a:Addr) (ns:aal),vs=[.ref a]/\SqF K H a (ns.y V.int)/\ns.l<=63/\H Pt=some (._N #[])/\∀H',Q (.bl true) H'
def WY{q:Str}{Q:VK}{E:XK}(h:spTopT q G.K Pt vs H Q E):dn G (oB Pt q) vs H Q E:=by
 obtain⟨a,I,rfl,J,U,g,z⟩:=h;refine{[.sq<|I.map Y.int],qk (λ_=>none) Pt<|.tb q,λy _=>y=.bl true,xw.one {a,_,rfl,J,wK I},(λb u e=>?_),{I,rfl,U,rfl,λ_=>rfl},?_}
 .by_cases c:b=Pt
  .subst c;rw[q9] at e;cases e;exact{#[],g,trivial,λpos o z=>by cases z}
  .rw[qe c] at e;cases e
 .rintro v j y p _ _ l rfl;cases l;exact z j
def GE(Pt:Addr):Aj->Aj
 |[]=>[]
 |(a,o)::r=>if a==Pt then GE Pt r else(a,o)::GE Pt r
theorem vg{Pt a:Addr}(h:a≠Pt):∀K:Aj,'b'.e a=K.e a
 |[]=>rfl
 |(b,o)::r=>by
  unfold GE;by_cases c:(b==Pt)=true
  .rw[AF c,vg h r,BF];have:(a==b)=false:=by have I:=eq_of_beq c;subst I;exact EJ h
   rw[this]
  .rw[Az c,BF,BF,vg h r]
theorem wb{Pt:Addr}:∀K:Aj,'b'.e Pt=none
 |[]=>rfl
 |(b,o)::r=>by
  unfold GE;by_cases c:(b==Pt)=true
  .rw[AF c];exact wb r
  .rw[Az c,BF];have:(Pt==b)=false:=by cases d:Pt==b with|false=>rfl|true=>exact absurd (beq_iff_eq.d (eq_of_beq d).L) c
   rw[this];exact wb r
def ot{a:Addr}{K:Aj}{o:Obj}(e:'b'.e a=some o):a≠Pt/\K.e a=some o:=by
 by_cases c:a=Pt
 .subst c;rw[wb] at e;cases e
 .rw[vg c] at e;exact{(c),e}
def lessK_in{K:Aj}(X:K.In h):'b'.In h:=λa o e=>X a o (ot e).2
structure LR(K:Aj)(Pt:Addr):Prop where
 tab:K.e Pt=some (PySem.W.tabObj #[])
 hd:∃c,∀h:aau,K.In h->PySem.W.CodeHd h c Pt
 st:Pt≠cStatics
section
variable {K:Aj}(T:K.e Pt=some (PySem.W.tabObj #[]))
include T
def Re{a:Addr}{r:Option<|aam}(e:PySem.W.nsIn K a x=r):PySem.W.nsIn 'b' a x=r:=by
 rw[<-e];unfold PySem.W.nsIn;by_cases c:a=Pt
 .subst c;rw[wb,T]
 .rw[vg c]
def _B{a:Addr}{o:Obj}(e:K.e a=some o)(n:o.cls≠.none):'b'.e a=some o:=by
 rw[vg ?_]
 .exact e
 .rintro rfl;rw[T] at e;cases e;exact n rfl
def code_dn{q:Str}(e:PySem.W.codeIn K cd q=true):PySem.W.codeIn 'b' cd q=true:=by
 unfold PySem.W.codeIn at e ⊢;split at e
 .rename_i c;by_cases d:c=Pt
  .subst d;rw[T] at e;simp at e
  .rw[vg d];exact e
 .cases e
def WZ{v:aaq}:PySem.W.ownIn 'b' x v=PySem.W.ownIn K x v:=by
 unfold PySem.W.ownIn;split
 .rfl
 .rename_i a;by_cases d:a=Pt
  .subst d;rw[wb,T]
  .rw[vg d];split
   .exact Re T rfl
   .rfl
 .rfl
theorem vH{x:Str}:∀l:aaf,PySem.W.alongIn 'b' x l=PySem.W.alongIn K x l
 |[]=>rfl
 |c::r=>by unfold PySem.W.alongIn;rw[WZ T,vH r]
def jD{v:aaq}:PySem.W.findIn 'b' v x=PySem.W.findIn K v x:=by
 unfold PySem.W.findIn;split
 .rfl
 .rename_i a;by_cases d:a=Pt
  .subst d;rw[wb,T]
  .rw[vg d];split
   .exact vH T _
   .rfl
 .rfl
def zJ{a:Addr}(n:a≠Pt):PySem.W.specialIn 'b' (.ref a) x=PySem.W.specialIn K (.ref a) x:=by unfold PySem.W.specialIn PySem.W.typeIn;dsimp only;rw[vg n];congr 1;funext t;exact jD T
def keep_dn{f:aaq}(e:PySem.W.keepIn K f=true):PySem.W.keepIn 'b' f=true:=by
 unfold PySem.W.keepIn at e ⊢;split at e
 .rename_i a;by_cases d:a=Pt
  .subst d;rw[T] at e;simp at e
  .rw[vg d,zJ T d];exact e
 .cases e
end
def W0{P:aas}{w:aat}{K:Aj}{mb:aac}{CX:d_}{k:Nat}{a:Addr}{I:aar}{vs:aaf}{ns:aal}
 (KX:K.In I.v) (TI:LR K Pt) (t:I.heap.Ns mainGlobals mg) (hb:I.heap.Ns builtinsNs mb) (a5:∀x:Str,x ≠ "__name__" -> mb x=bootBuiltins x) (C:I.heap.NoLimit) (hg:I.gens=#[]) (ac:0<I.D)
 (p:I.heap.x a=some {cls:=.type "list",data:=.seq vs.m}) (hi:IntsAre vs ns) (hl:ns.l<=sizeLine) (hr:aX k callerA)
 (F:∀base:aau,'b'.In base->base.Ns mainGlobals mg->dI P w 'b' mg base CX k fa fd [x] sp) (l:∀(s:aar) (u:aaq),BindsTo s fd ⟨[u],[]⟩ [(x,u)])
 (al:∀H:Hp,H Pt=some (._N #[])->(H a=none\/∃o xs,H a=some (._b o<|.lst xs))->bQ 'b' H a (ns.y V.int)->sp [.ref a] H (λv _=>v=.bl true) λ_ _ _=>False)
 (ar:∀H e s',CX [] H I (λ_ _ _=>False) e s'->False):
 codeAny (model P w) callerA (.call (.ref fa) ⟨[.ref a],[]⟩) (λr s'=>r=.ok (.ret<|.bool true)/\OldK I.v s'.v/\s'.os=I.os/\AllBare s'.gens) I:=by
 have rv:=tZ hi;have T:=hi.l;have hP:=KX Pt _ TI.tab;have U:a≠Pt:=λz=>by rw[z,hP] at p;cases p
 have core:∀H:Hp,H Pt=some (._N #[])->(∀b,b≠a->b≠Pt->H b=none)->(H a=none\/∃o xs,H a=some (._b o<|.lst xs))->bQ 'b' H a (ns.y V.int)->(∀u,H a=some u->vd P w H I.v a u)->(H a≠none->K.lookup a=none)->
  codeAny (model P w) callerA (.call (.ref fa) ⟨[.ref a],[]⟩) (λr s'=>r=.ok (.ret<|.bool true)/\OldK I.v s'.v/\s'.os=I.os/\AllBare s'.gens) I:=by
  intro H HP Hn HO HS a1 au;have a2:gB P w H I.v:=λb u e=>by
   by_cases c:b=a
   .subst c;exact a1 u e
   .by_cases d:b=Pt
    .subst d;rw[HP] at e;cases e;exact hP
    .rw[Hn b c d] at e;cases e
  have J:∀{b:Addr} {o:Obj},I.heap.x b=some o->H b=none->(u0 I.v H).x b=some o:=λe n=>P' e n;have av:∀{b:Addr} {o:Obj} {es:Array DictEntry} {ep:Nat},I.heap.x b=some o->o.data=.dict es ep->H b=none:=λ{b o es ep} e d=>by
   refine Hn b (λz=>?_) λz=>?_
   .subst z;rw[p] at e;cases e;have d':=d;cases d'
   .subst z;rw[hP] at e;cases e;have d':=d;cases d'
  have g:∀{b:Addr} {m:aac},I.heap.Ns b m->(u0 I.v H).Ns b m:=λ{b m} ⟨o,es,ep,e,d,r⟩=>{o,es,ep,J e<|av e d,d,r};have a3:'b'.In (u0 I.v H):=λb o e=>by
   obtain⟨n,e⟩:=ot e;refine J (KX b o e) ?_;by_cases c:b=a
   .subst c;cases q:H b with|none=>rfl|some u=>rw[au (by rw[q];simp)] at e;cases e
   .exact Hn b c n
  have hM:Mod 'b' mg (u0 I.v H):={a3,g t,{mb,g hb,a5},let ⟨mc,h1,h2⟩:=C;⟨mc,g h1,h2⟩};have e0:Gx P w 'b' mg (u0 I.v H) callerA [] I H:={rfl,hM,λb o e=>Qa e,DS<|P_ _ _,trivial,λb hb=>absurd (show b∈([]:List Addr) from hb) 'r',a2,.of_eq hg,ac};refine codeAny_mono ((F _ a3<|g t).run callerA [] I H {[.ref a],[]} [.ref a] [.ref a] _ _ hr e0 (l I<|.ref a) (.cons rfl .nil)<|al H HP HO HS) λr s' h=>?_;cases r with
  |error e=>exact(ar H e s' h).r
  |ok fl=>
   cases fl with
   |next=>exact False.r h
   |brk=>exact False.r h
   |cont=>exact False.r h
   |ret u=>
    obtain⟨v,H',os,bare,un,j,r',q,_⟩:=h;have q':=q;subst q';obtain rfl:u=Value.bool true:=r';obtain⟨more,em⟩:=un._t Pt _ HP;have gP:=j Pt _ em;have kp:∀b o,b≠Pt->I.heap.get? b=some o->s'.heap.get? b=some o:=λb o n e=>by
     have a4:H b=none->s'.heap.get? b=some o:=λz=>un.keep b o e z (by intro z;exact absurd (show b∈([]:List Addr) from z) 'r') 'r';by_cases c:b=a
     .subst c;obtain z|⟨ob,xs,z⟩:=HO
      .exact a4 z
      .have z2:=un._i _ _ _ z;obtain⟨e1,_⟩:=a2 _ _ z;obtain⟨e2,_⟩:=j _ _ z2;rw[e] at e1;cases e1;exact e2
     .exact a4<|Hn b c n
    obtain⟨c,hc⟩:=TI.hd;refine{rfl,{λb o e=>?_,λb o e=>?_},os,bare}
    .by_cases n:b=Pt
     .subst n;rw[hP] at e;cases e;exact .inr<|.inl {((hc _ KX).tab hP).isCodeTable,rfl,#[],more,rfl,gP}
     .exact .inl<|kp b o n e
    .by_cases n:b=Pt
     .subst n;exact{_,gP}
     .exact{o,kp b o n e}
 cases hk:K.e a with
 |some o=>
  have e:=KX a o hk;rw[p] at e;cases e;refine core (λb=>if b=Pt then some (._N #[]) else none) (AF rfl) (λb _ n=>Az n) (.inl<|Az U) (.inr {_,vs.m,_,(vg U K).t hk,rfl,rfl,rfl,by rw[Av,T];exact hl,~~~rv}) (λu z=>by have z':=(Az U).symm.trans z;cases z') λz=>absurd (Az U) z
 |none=>
  refine core (λb=>if b=a then some (._b {cls:=.type "list",data:=.seq vs.m}<|.lst<|ns.map V.int) else if b=Pt then some (._N #[]) else none) ((Az<|AN U).t<|AF rfl) (λb n1 n2=>(Az n1).t<|Az n2) (.inr {_,_,AF rfl}) (.inl<|.inr {_,AF rfl}) (λu z=>?_) λ_=>hk;have z':=(AF rfl).symm.trans z;cases z';exact{p,by rw[Ac];exact hl,vs,_,rv,p}
def walk_ofZT{l:PySem.W.OpenLaw}{k:Nat}{q:aas}{loose:aai}{XP:(aac)->aau->Prop}{as0:List Addr}{N t:Nat}{d:DefRec}{K:Params->Aj}{CX:d_}{sp:Aj->Addr->Sp}
 (hn:l.most=some n) (p:n<=sizeLine) (r:d.params.defaults=[]) (hr:aX k callerA) (ek:∀P,as0=(K P).y (·.1)) (C:0<t)
 (F:∀(w:aat) (mg:aac) (fa:Addr) (h:aau),(K w.params).In h->h.Ns mainGlobals mg->mg d.name=↑fa->
  ∃Pt:Addr,LR (K w.params) Pt/\∃fd:FuncData,(∀(s:aar) (u:aaq),BindsTo s fd ⟨[u],[]⟩ [(x,u)])/\
   ∀base:aau,(GE Pt<|K w.params).In base->base.Ns mainGlobals mg->dI l.i w (GE Pt<|K w.params) mg base CX k fa fd [x] (sp (GE Pt<|K w.params) Pt))
 (a1:∀(K:Aj) (Pt:Addr) (H:Hp) (a:Addr) (ns:aal),ns.l<=n->H Pt=some (._N #[])->(H a=none\/∃o xs,H a=some (._b o<|.lst xs))->bQ K H a (ns.y V.int)->sp K Pt [.ref a] H (λv _=>v=.bl true) λ_ _ _=>False)
 (a2:∀(H:Hp) (s:aar) (e:aaq) (s':aar),CX [] H s (λ_ _ _=>False) e s'->False):
 PySem.W.WalkX q loose XP (PySem.W.X.obsZ as0) (PySem.W.X.valZ K N t) l.row.toRowW d [] (λf vs=>PySem.call f vs):=by
 refine _Q hn r ek C λw a4 U mg mb fa o pm cd a5 a vs ns G KX tk ho hd ac a3 j J I hg=>?_;obtain⟨Pt,TI,fd,hb,hF⟩:=F w mg fa _ KX G.T.g a3;exact W0 KX TI G.T.g G.T.b G.T.builtins G.T.nolimit hg tk j J (AQ I p) hr hF hb (λH hP hO hS=>a1 _ Pt H a ns I hP hO hS) λH e s'=>a2 H U e s'
def top_startT{q:Str}:∀(K:Aj) (Pt:Addr) (H:Hp) (a:Addr) (ns:aal),ns.l<=63->H Pt=some (._N #[])->(H a=none\/∃o xs,H a=some (._b o<|.lst xs))->bQ K H a (ns.y V.int)->spTopT q K Pt [.ref a] H (λv _=>v=.bl true) λ_ _ _=>False:=by
 intro K Pt H a ns I J U g;refine{a,ns,rfl,?_,I,J,λ_=>rfl};rcases g with(h|⟨o,h⟩)|h
 .rcases U with z|⟨o,xs,z⟩<;>rw[h] at z<;>cases z
 .exact .inl {(o),h}
 .exact .inr h
structure _r(K:Aj)(x:Str)(st:Stmt)(Pt:Addr):Prop where
 ex:∃(f:Addr) (kV hQ pm:aaq) (an:Option Addr) (eS ct:aaq),PySem.W.nsIn K mainGlobals x=some (↑f)/\Iw K x x st f (PySem.W.fnOf x x (ww st) (xj st) 'e' .none kV hQ pm an eS ct) Pt
def _r.use{K:Aj}{st:Stmt}(D:_r K x st Pt)(X:K.In h)(G:h.Ns mainGlobals mg)
 (I:∀(kV hQ pm:aaq) (an:Option Addr) (eS ct:aaq) (us:aaf),us.l=ps.l->bindArgs (PySem.W.fnOf x x (ww st) (xj st) 'e' .none kV hQ pm an eS ct) ⟨us,[]⟩=pure (ps.zip us)):
 ∃f fd,Iw K x x st f fd Pt/\ff K fd ps []/\mg x=↑f:=by
 obtain⟨f,kV,hQ,pm,an,eS,ct,a,F⟩:=D.ex;exact{f,_,F,.all<|I kV hQ pm an eS ct,Bw X G a}
section
variable {fy:St}
def za.ren(M:aai)(I:'v')(J:M.l=X.N.l)(hs:fy.l=σ.l)(h:∀(j:Nat) v,fy[j]?=some (some v)->σ[j]?=some (some v)/\X.N[j]?=M[j]?):za {X with N:=M} pins fy H s:=by obtain⟨m,U,l⟩:=I.loc;have o:=I.ok;exact {ok:={(o.mod),o.kind,o.glob,o.blt,o.above,o.inj,o.has,o.cab,o.hd,o.frames,o.stk,o.exf,o.bs,o.bsz,o._H,o._I,o._o,o.frf},os:=I.os,bare:=I.bare,base:=I.Y,cell:=I.cell,free:=I.U,Pi:=I.Pi,pin:=I.pin,KB:=I.KB,tk:=I.tk,len:=([hs,I.len]≈J.L),loc:={m,U,λi x v g p r=>by obtain⟨a,b⟩:=h i v p;exact l i x v (b.t g) a r}}
def jC(h:(σ.O i none)[j]?=some (some v)):j≠i/\σ[j]?=some (some v):=by
 by_cases c:i=j
 .subst c;rw[Ew] at h;cases e:σ[i]? with|none=>rw[e] at h;cases h|some o=>rw[e] at h;cases h
 .rw[AX c] at h;exact{AN c,h}
def W1(i:Nat)(t:TS):TS:=λD σ H=>t {nx:=λfy H'=>D.nx (fy.O i none) H',rt:=D.rt,bk:=λfy H'=>D.bk (fy.O i none) H',ct:=λfy H'=>D.ct (fy.O i none) H'} (σ.O i none) H
def W2{st:Stmt}{t:TS}(h:PS {X with N:=X.N.O i x} st t):PS X st (W1 i t):=by
 intro g s p H D I z;have C:za {X with N:=X.N.O i x} g (p.O i none) H s:=I.ren _ (by rw[Bq]) (by rw[Bq]) λj v e=>by obtain⟨a,b⟩:=jC e;exact{b,by rw[AX<|AN a]}
 refine aY (h g s _ H _ C z) λf o q=>?_;have back:∀{U:St} {l:Hp},za {X with N:=X.N.O i x} g U l o->za X g (U.O i none) l o:=λ{U l} J=>
  za.ren (X:={X with N:=X.N.O i x}) X.N J (by rw[Bq]) (by rw[Bq]) λj v e=>by obtain⟨a,b⟩:=jC e;exact{b,by rw[AX<|AN a]}
 cases f with
 |next=>obtain⟨U,l,J,q⟩:=q;exact{_,l,back J,q}
 |brk=>obtain⟨U,l,J,q⟩:=q;exact{_,l,back J,q}
 |cont=>obtain⟨U,l,J,q⟩:=q;exact{_,l,back J,q}
 |ret u=>obtain⟨v,U,l,J,r,q⟩:=q;exact{v,_,l,back J,r,q}
end
def eI:jm->Nat->jm
 |[],_=>[]
 |_::r,0=>none::r
 |o::r,i+1=>o::eI r i
theorem xG:∀(τ:jm) (i:Nat),eI τ i=τ.O i none
 |[],_=>rfl
 |_::_,0=>rfl
 |o::r,i+1=>by unfold eI;rw[xG r i];rfl
def sN(i:Nat)(t:aa)(D:v5)(τ:jm)(L:qm):Prop:=t {nx:=λI L'=>D.nx (eI I i) L',rt:=D.rt,bk:=λI L'=>D.bk (eI I i) L',ct:=λI L'=>D.ct (eI I i) L'} (eI τ i) L
def vf.forget(h:vf G H σ τ)(i:Nat):vf G H (σ.O i none) (eI τ i):=by
 rw[xG];refine{by rw[Bq,Bq];exact h.len,λj y e=>?_};by_cases c:i=j
 .subst c;rw[Ew] at e;cases I:τ[i]? with|none=>rw[I] at e;cases e|some o=>rw[I] at e;cases e
 .rw[AX c] at e ⊢;exact h.get j y e
def lE(x:Str){st:Stmt}{t:aa}(h:QS {X with N:=X.N.O i x} st t):QS X st (sN i t):=
 E5 (W2 h) λD C H p L T rs r z k=>{eI p i,L,_,rs.forget i,r,z,
  ⟨λU g j l o I J q=>k.nx _ g _ l o (I.forget i) J q,k.rt,λU g j l o I J q=>k.bk _ g _ l o (I.forget i) J q,λU g j l o I J q=>k.ct _ g _ l o (I.forget i) J q⟩}
def W3:bootBuiltins "min"=some (.builtin "min"):='z'
def G4(x:Y)(lo hi:aan)(L:qm)(Q:YK):Prop:=match x with
 |.tup ys=>¬(Os ys.l 0 lo=0/\Os ys.l ys.l hi=ys.l)/\Q (.tup<|rf ys lo hi) L
 |_=>False
def gM(K:Aj)(P:aas)(w:aat)(U:X.K=K:=by rfl)(g:X.i=P:=by rfl)(hw:X.w=w:=by rfl):uw X (GK ⟨K,P,w⟩ G4):=by
 subst U g hw;refine uw.imp Sf λx lo J H Q ⟨y,L,Q3,j,l,z,k⟩=>?_;cases y with
 |tup o=>
  obtain⟨a,t,e,sq,r⟩:=j;obtain⟨C,T⟩:=z;exact{a,t,e,sq,by rw[<-r.l];exact C,λp I=>k _ _ (.tup<|rf o lo J) L (EV I) (l.skip I) {p,_,rfl,.inl<|.inl zg,(u7 r lo J).ts<|EV I} T}
 |_=>exact z.r
def yY{a:Addr}{keep:qm->Prop}(h:∀H L,jc H₀ H->j8 G H L->keep L->∃xs,dR G.K H a xs/\xw G H ys xs):iy G H₀ (Hq G.K a) ys keep where
 go:=λi H L t I J U=>by
  obtain⟨xs,sq,r⟩:=h H L t I J;have:i<xs.l:=by rw[<-r.l];exact U
  exact{xs,xs[i],sq,Ah this}
 yld:=λi H L x o y t I J g ⟨e,f⟩=>by subst e;obtain⟨xs,sq,r⟩:=h _ L t I J;obtain⟨p,j,l⟩:=r.get g;have:=f xs sq;rw[j] at this;cases this;exact{EU _,I,l}
 stop:=λH L t I J=>by obtain⟨xs,sq,r⟩:=h H L t I J;exact{xs,sq,by rw[r.l];exact Ap _}
def LS(h:QE X e te):QI X tg e (TN te):=PI._x (Q5 h) λσ H R j L R3 rs l z k=>by
 refine{j,L,_,rs,l,z,λv o y p C I J U=>?_};cases y with
 |tup T=>
  obtain⟨a,g,e,sq,r⟩:=J;exact{a,e,{(g),sq},k _ o T (λ_=>True) p C I (yY λH L t _ _=>{g,dR.ts sq t,r.ts t}) U}
 |_=>exact U.r
def W4{k:Nat}(I:aX k A):A.J+3<recursionLimit:=by have:=I.dp;omega
abbrev _R:Str:="_law_order.<locals>.<lambda>"
def D_(ks:List<|GT):Prop:=∀(p:Nat) (e:Bool) (i j:Nat),ks[p]?=some (some<|.nd e i j)->i<p/\j<p
def aek(ks:List<|GT)(rks:aal):Prop:=∀(p:Nat) (e:Bool) (i j:Nat),p<rks.l->ks[p]?=some (some<|.nd e i j)->rks.getD i 0<rks.getD p 0/\rks.getD j 0<rks.getD p 0
def pJ{r:Int}(h:i<rks.l):(rks++[r]).getD i 0=rks.getD i 0:=by rw[Bs,Bs,AG h]
def W5{r:Int}:(rks++[r]).getD rks.l 0=r:=by rw[Bs,AH<|Ap _,C3];rfl
def aek.snoc{ks:List<|GT}{r:Int}{k:GT}(ok:D_ ks)(h:aek ks rks)(U:ks[rks.l]?=some k)(g:∀e i j,k=some (.nd e i j)->rks.getD i 0<r/\rks.getD j 0<r):aek ks (rks++[r]):=by
 intro p e i j I J;obtain⟨l,o⟩:=ok p e i j J;rw[Ab] at I;have I:p<rks.l+1:=I;rw[pJ (show i<rks.l by lia),pJ (show j<rks.l by lia)];by_cases c:p<rks.l
 .rw[pJ c];exact h p e i j c J
 .have:p=rks.l:='s'
  subst this;rw[W5];exact g e i j<|AV<|U.symm.trans J
def i8(ks:List<|GT)(I:aah):Prop:=I.H λx y=>∀e i j,ks[x]?=some (some<|.nd e i j)->y≠i/\y≠j
def W6{ks:List<|GT}{I:aah}(ok:D_ ks)(h:aek ks rks)(J:rks.l=ks.l)(hw:I.H λi j=>rks.getD i 0*1000000+(i:Int)<=rks.getD j 0*1000000+(j:Int)):i8 ks I:=by refine hw.imp λ{x y} z e i j ex=>?_;obtain⟨U,g⟩:=ok x e i j ex;obtain⟨l,o⟩:=h x e i j ([J]≈zy ex) ex;exact{λc=>by subst c;lia,λc=>by subst c;lia}
def yT(h:i<rks.l):(rks.y Y.int)[i]?=some (.int<|rks.getD i 0):=by rw[Al,Bs,Ah h];rfl
def vY:RD "_law_name" nK 0 ["_law_seed","_law_which","_law_letters","_law_size","_law_place","_law_base","_law_sign"] (λ_=>True):={_,λV B c _ _ _ _ _ _ _ J hN I=>(qb (fZ (i:=2) hN rfl (Or.inr rfl) qz)<|qb (S_ 3 hN<|qj ju qc<|qj zn (qv 0) qc)<|qb (S_ 4 hN<|qj zn (qj xa (qv 0) qc)<|qv 3)<|qb (S_ 5 hN<|UR qz<|jz<|fq ["_law_k"] (E4 'o') rfl (aM rfl B.bf<|jz qc) (vL 7) (λ_ _ _ _=>gS) λ_ _ _ _=>(I_ (qv 2)<|qj zn (qj ju (qj xa (qv 0) qc)<|qj mS qc<|qv 7) qc))<|qb (zc (E_ I (qj zn (qj xa (qv 0) qc) qc) qc) (qd<|qt<|xu (tJ _ _ _) (qv 5) wg<|vk<|qj ju qc<|qj zn (qj ju (qv 1)<|qv 0) qc) qy)<|qb (S_ 6 hN<|I_ (qv 2)<|qj zn (qj ju (qj ju (qj xa (qv 0) qc)<|qj mS qc<|qv 4)<|qv 1) qc)<|qd<|qt<|qj ju (qj ju (xu (tJ _ _ _) (qv 5) wg<|vk<|qv 4)<|qv 6)<|xu (tJ _ _ _) (qv 5) (vk<|qj ju (qv 4) qc)<|vk<|qv 3)}
def gF(i:Int):Nat:=97+(i % 26).B
def LU(i:Int):bw ("abcdefghijklmnopqrstuvwxyz" : Str).cps.toList (i % 26)=some (gF i):=by
 obtain⟨n,I⟩:∃n:Nat,i % 26=n:={(i % 26).B,'s'};have h:n<26:='s'
 unfold gF;rw[I];have key:∀n,n<26->("abcdefghijklmnopqrstuvwxyz" : Str).cps.toList[n]?=some (97+n):='z'
 exact jh<|key n h
def LV(i:Int):97<=gF i/\gF i<=122:=by unfold gF;lia
def fh(s:Int):aah:=(List.range 8).y λk:Nat=>gF<|s / 64+3*(k:Int)
def pY(s:Int):(fh s).l=8:=by unfold fh;simp
def rD(s:Int):∀c∈fh s,97<=c/\c<=122:=λc I=>by obtain⟨k,_,rfl⟩:=AM.j I;exact LV _
def sT(s:Int):Nat:=(s / 8 % (1+s % 8)).B
def szN(s:Int):Nat:=(1+s % 8).B
def LW(s:Int):sT s<szN s/\szN s<=8/\s / 8 % (1+s % 8)=(sT s:Int)/\1+s % 8=(szN s:Int):=by
 have h0:0<1+s % 8:='s'
 have h1:0<=s / 8 % (1+s % 8):=DO _ 's';have h2:s / 8 % (1+s % 8)<1+s % 8:=Ef _ h0;unfold sT szN;lia
def bX(s w:Int):aah:=
 if s / 64 % 3=1 then(fh s).u (1+(w+s) % 3).B
 else((fh s).u (sT s)++[gF<|s / 64+3*(sT s:Int)+w])++((fh s).G<|sT s+1).u (szN s-(sT s+1))
def xS(s w:Int):fK (x_<|bX s w):=by
 have I:(x_<|bX s w).l=(bX s w).l:=by rw[<-len_list];show(bX s w).toArray.toList.length=_;simp
 have J:(x_<|bX s w).cps.toList=bX s w:=by show(bX s w).toArray.toList=_;simp
 have U:=pY s;obtain⟨g,j,_,_⟩:=LW s;refine{?_,?_,?_}
 .rw[I];unfold bX;split
  .rw[A2];omega
  .rw[Ab,Ab];simp;simp +arith only
 .rw[I];unfold bX;split
  .rw[A2];omega
  .rw[Ab,Ab,A2,A2,BQ];simp;lia
 .rw[J];intro c h;unfold bX at h;split at h
  .exact rD s c<|BO h
  .rcases Am.j h with h|h
   .rcases Am.j h with h|h
    .exact rD s c<|BO h
    .rw[Ak.j h];exact LV _
   .exact rD s c<|CW<|BO h
inductive kK(ys:_T)(L:qm)(Q:YK):Prop
 |mk:∀s w:Int,(ys=[.int s,.int w])->(Q (.str<|x_<|bX s w) L)->kK ys L Q
def acl(h:m<=n)(h2:n<=x.l):(Txt.slice x (some (m:Int))<|some (n:Int)).cps.toList=(x.cps.toList.G m).u (n-m):=by have e:=l8 x (some (m:Int))<|some (n:Int);rw[_P,_P,CU h2,CU<|AQ h h2] at e;exact e
def tK(h:n<=x.l):(Txt.slice x none<|some (n:Int)).cps.toList=x.cps.toList.u n:=by have e:=l8 x none<|some (n:Int);rw[_P,sIx_none,EN,Nat.sub_zero,CU h] at e;exact e
def W7:_f kK vY.1 7:=by
 rintro ys L Q ⟨s,w,rfl,q⟩;have j:0<1+s % 8:='s'
 refine{(∅:(0:Int)<8),{∅,∅},j,{∅,∅},?_};refine lO (m:=8) (λi zs=>zs=((List.range i).y λk:Nat=>Y.str {#[gF<|s / 64+3*(k:Int)]})) ∅ rfl ?_ ?_
 .rintro i _ hi rfl;have I:=LU<|s / 64+3*(0+(i:Int));refine{{∅,∅},.inl {∅,∅},(∅:(0:Int)<26),'z',?_};walk_at "w";rw[I];refine{_,ET _,rfl,?_};rw[Dk,Ax,show(0:Int)+(i:Int)=(i:Int) by simp +arith only];rfl
 .rintro _ rfl p t;have e0:((List.range 8).y λk:Nat=>Y.str {#[gF<|s / 64+3*(k:Int)]})=((fh s).y λc=>({#[c]}:Str)).y Y.str:=by unfold fh;rw[BI,BI];rfl
  rw[e0];refine qo q9 {(fh s).y λc=>({#[c]}:Str),rfl,?_,?_}
  .have J:∀U:aah,((U.y λc=>({#[c]}:Str)).y (·.l)).sum=U.l:=λU=>by induction U with|nil=>rfl|cons c r ih=>rw[AR,AR,ER,ih,AK];exact Nat.add_comm _ _
   rw[J,pY];show 8+_*0<=_;rw[Nat.mul_zero];decide
  .have g:=Ws<|fh s;have l:(Txt.join ""<|(fh s).y λc=>({#[c]}:Str)).l=8:=by rw[<-len_list,g,pY]
   generalize Txt.join "" ((fh s).y λc=>({#[c]}:Str))=base at l g;obtain⟨p1,p2,o,C⟩:=LW s;refine{{∅,∅},(∅:(0:Int)<3),?_};refine qr (λc=>?_) λc=>?_
   .have e:1+(w+s) % 3=((1+(w+s) % 3).B:Int):='s'
    refine{(∅:(0:Int)<3),small 's',eM (By t) ?_};have es:=tK (x:=base) (n:=(1+(w+s) % 3).B) 's';have eq:Txt.slice base none (some<|1+(w+s) % 3)=x_ (bX s w):=by rw[e];refine(LG _).symm.trans ?_;rw[es,g];unfold bX;rw[AF c]
    rw[<-eq] at q;exact q
   .have I:=LU<|s / 64+3*(s / 8 % (1+s % 8))+w;refine{{∅,∅},.inl {∅,∅},(∅:(0:Int)<26),'z',?_};walk_at "w";rw[I];have T:=tK (x:=base) (n:=sT s) 's';have s2:=acl (x:=base) (m:=sT s+1) (n:=szN s) 'p' 's';have l1:(Txt.slice base none<|some (sT s:Int)).l=sT s:=by rw[<-len_list,T,A2,len_list];lia
    have l2:(Txt.slice base (some (sT s+1)⁻¹)<|some (szN s:Int)).l<=8:=by rw[<-len_list,s2,A2];lia
    refine{small 's',?_};refine{small (by rw[o,l1];show sT s+1<=1000;lia),?_};refine{small 's',?_};have J:((sT s:Int)+1)=(sT s+1)⁻¹:='o'
    have l3:(Txt.slice base none (some (sT s:Int))++(⟨#[gF<|s / 64+3*(s / 8 % (1+s % 8))+w]⟩:Str)).l=sT s+1:=by rw[PySem.Str.length_append,l1];rfl
    refine{small ?_,eM (By t) ?_}
    .rw[o] at l3 ⊢;rw[l3,J,C];lia
    .have eq:(Txt.slice base none (some (sT s:Int))++(⟨#[gF<|s / 64+3*(sT s:Int)+w]⟩:Str))++Txt.slice base (some (sT s+1)⁻¹) (some (szN s:Int))=x_ (bX s w):=by
      refine(LG _).symm.trans ?_;have ca:∀a b:Str,(a++b).cps.toList=a.cps.z++b.cps.z:=λa b=>by show(a.cps++b.cps).z=_;simp
      rw[ca,ca,T,s2,g];unfold bX;rw[Az c]
     rw[o,J,C,eq];exact q
def LX(t t':Bool)(n n':Str):Da.eq (rh<|.leaf t n) (rh<|.leaf t' n')=(decide (t=t')&&decide (n=n')):=by
 by_cases h:n=n'
 .subst h;cases t<;>cases t'<;>simp[rh,Da.eq,Da.eqs,iz,kL]<;>decide +kernel
 .cases t<;>cases t'<;>simp[rh,Da.eq,Da.eqs,iz,kL,h]<;>decide +kernel
theorem lU{α β:Type}(f:α->β):∀(l:List α) (n:Nat),(l.y f).n n=(l.n n).y f
 |[],n=>by simp
 |_::_,0=>rfl
 |x::r,n+1=>by rw[AR,CK,CK,AR,lU f r n]
def bG(a:jk)(b:Y)(r:List<|jk×Y)(k:jk):wo ((a,b)::r) k=if a=k then some b else wo r k:=by
 unfold wo;rw[BP];by_cases h:a=k
 .rw[AF h,show decide ((a,b).1=k)=true from AJ h];rfl
 .rw[Az h,show decide ((a,b).1=k)=false from Ay h]
theorem wA(k I:jk)(y:Y):∀kvs:List (jk×Y),wo (kvs.y λJ=>if J.1=k then(J.1,y) else J) I=if I=k then(wo kvs I).y (λ_=>y) else wo kvs I
 |[]=>by rw[DR];split<;>rfl
 |(a,b)::r=>by
  have U:=wA k I y r;rw[AR,bG];by_cases h:a=k
  .rw[AF<|show(a,b).1=k from h,bG,U];by_cases h2:I=k
   .rw[AF h2,AF h2,AF<|h.trans h2.L,AF<|h.trans h2.L];rfl
   .rw[Az h2,Az h2,Az λz=>h2<|z.symm.trans h,Az λz=>h2<|z.symm.trans h]
  .rw[Az<|show ¬(a,b).1=k from h,bG,U];by_cases h2:I=k
   .rw[AF h2,AF h2,Az λz=>h<|z.trans h2,Az λz=>h<|z.trans h2]
   .rw[Az h2,Az h2]
theorem xM(k I:jk)(y:Y):∀kvs:List (jk×Y),wo (kvs++[(k,y)]) I=(wo kvs I).or (if k=I then some y else none)
 |[]=>by rw[Cy,bG];have:wo [] I=none:=rfl;rw[this];split<;>rfl
 |(a,b)::r=>by rw[List.cons_append,bG,bG,xM k I y r];split<;>rfl
theorem qZ(k:jk):∀kvs:List (jk×Y),(kvs.any λI=>decide<|I.1=k)=(wo kvs k).Z
 |[]=>rfl
 |(a,b)::r=>by
  rw[CF,bG,qZ k r];by_cases h:a=k
  .rw[AF h,show decide ((a,b).1=k)=true from AJ h];rfl
  .rw[Az h,show decide ((a,b).1=k)=false from Ay h];rfl
def pF(kvs:List<|jk×Y)(k I:jk)(y:Y):wo (iS kvs k y) I=if I=k then some y else wo kvs I:=by
 unfold iS;rw[qZ];cases e:wo kvs k with
 |some v=>
  rw[AF<|show(some v).Z=true from rfl,wA];by_cases h:I=k
  .rw[AF h,AF h,h,e];rfl
  .rw[Az h,Az h]
 |none=>
  rw[Az 'r',xM];by_cases h:I=k
  .rw[AF h,h,e,AF rfl];rfl
  .rw[Az h,Az λz=>h z.L];cases wo kvs I<;>rfl
def pO(kvs:List<|jk×Y)(k:jk)(y:Y):(iS kvs k y).l<=kvs.l+1:=by
 unfold iS;split
 .rw[Ac];omega
 .rw[Ab];simp
def og(f:aao):GT->GT
 |some (.nd e i j)=>some<|.nd e (f i)<|f j
 |k=>k
theorem zT{f g:aao}:∀{k:GT},(∀e i j,k=some (.nd e i j)->f i=g i/\f j=g j)->og f k=og g k
 |none,_=>rfl
 |some (.lf _ _),_=>rfl
 |some (.nd e i j),h=>by obtain⟨a,b⟩:=h e i j rfl;show some (Kn.nd e (f i)<|f j)=some (Kn.nd e (g i)<|g j);rw[a,b]
structure Gap(ks:List<|GT)(ps:aah)(f:aao)(wd:List<|GT):Prop where
 at_:∀p∈ps,∀k,ks[p]?=some k->wd[f p]?=some (og f k)
 inj:∀p∈ps,∀q∈ps,f p=f q->p=q
 only:∀x k,wd[x]?=some (some k)->∃p∈ps,x=f p
 ok:D_ wd
def Gap.nil(ks:List<|GT)(f:aao):Gap ks [] f []:={λp I=>(BK I).r,λp I=>(BK I).r,λx k h=>(by simp at h),λp e i j h=>(by simp at h)}
def Gap.lt{ks:List<|GT}{ps:aah}{f:aao}(h:Gap ks ps f wd)(I:p∈ps)(J:p<ks.l):f p<wd.l:=zy<|h.at_ p I _<|Ah J
def Gap.step{ks:List<|GT}{ps:aah}{f:aao}(h:Gap ks ps f wd)(r:∀p∈ps,p<ks.l){k:GT}(C:p∉ps)(T:ks[p]?=some k)(o:∀x∈ps,∀e i j,ks[x]?=some (some<|.nd e i j)->i∈ps/\j∈ps)(J:∀e i j,k=some (.nd e i j)->i∈ps/\j∈ps):
 Gap ks (ps++[p]) (λx=>if x=p then wd.l else f x) (wd++[og f k]):=by
 have old:∀x∈ps,(if x=p then wd.l else f x)=f x:=λx I=>Az λ(c:x=p)=>C<|c▸I;have ren:∀l,(∀e i j,l=some (.nd e i j)->i∈ps/\j∈ps)->og (λx=>if x=p then wd.l else f x) l=og f l:=λl U=>zT λe i j z=>by obtain⟨a,b⟩:=U e i j z;exact{old i a,old j b}
 refine{λx I l U=>?_,λx I y g e=>?_,λx l I=>?_,λx e i j I=>?_}
 .rcases Am.j I with I|I
  .show(wd++[og f k])[if x=p then wd.l else f x]?=_;rw[old x I,ren l λe i j z=>o x I e i j (by rw[U,z])];exact pD<|h.at_ x I l U
  .have I:=Ak.j I;subst I;rw[T] at U;cases U;rw[AF rfl,ren k J];exact gi wd _ []
 .have e:=e;obtain I|I:=Am.j I<;>obtain g|g:=Am.j g
  .rw[old x I,old y g] at e;exact h.inj x I y g e
  .cases Ak.j g;rw[old x I,AF rfl] at e;have:=h.lt I<|r x I;lia
  .cases Ak.j I;rw[old y g,AF rfl] at e;have:=h.lt g<|r y g;lia
  .rw[Ak.j I,Ak.j g]
 .by_cases c:x<wd.l
  .rw[AG c] at I;obtain⟨q,t,e⟩:=h.only x l I;exact{q,An _ t,by rw[e];exact(old q t).L}
  .refine{p,Ai _<|Ak.mpr rfl,?_};have:=zy I;rw[Ab] at this;have:x<wd.l+1:=this;rw[AF rfl];lia
 .by_cases c:x<wd.l
  .rw[AG c] at I;exact h.ok x e i j I
  .have:=zy I;rw[Ab] at this;have:x<wd.l+1:=this;have:x=wd.l:='s'
   subst this;rw[AH<|Ap _,C3] at I;have I:=AV I;cases k with
   |none=>cases I
   |some k=>
    cases k with
    |lf=>cases I
    |nd e' i' j'=>
     obtain⟨a,b⟩:=J e' i' j' rfl;cases I;exact{h.lt a<|r _ a,h.lt b<|r _ b}
def ox{ks:List<|GT}{I:aah}(ok:D_ ks)(pm:I.C<|List.range ks.l)(r:i8 ks I)(U:I[n]?=some p){e:Bool}(h:ks[p]?=some (some<|.nd e i j)):i∈I.u n/\j∈I.u n:=by
 obtain⟨l1,l2⟩:=ok p e i j h;have hl:=zy h;have t:=zy U;have ind:∀x,x<ks.l->x≠p->(∀y∈I.G (n+1),y≠x)->x∈I.u n:=λx T ne l=>by
  have J:=pm.mem_iff.d<|Bg.mpr T;have o:I=I.u n++p::I.G (n+1):=by rw[Ah t] at U;rw[<-AV U,CS,A1]
  rw[o] at J;obtain J|J:=Am.j J
  .exact J
  .rcases Ao.j J with J|J
   .exact absurd J ne
   .exact absurd rfl<|l x J
 have C:∀y∈I.G (n+1),y≠i/\y≠j:=λy g=>by
  have o:I=I.u n++p::I.G (n+1):=by rw[Ah t] at U;rw[<-AV U,CS,A1]
  rw[o] at r;have:=(AY.j r).2.1;exact(List.pairwise_cons.mp this).1 y g e i j h
 exact{ind i (yP) (JM) λy g=>(C y g).1,ind j (yP) (JM) λy g=>(C y g).2}
def LY:RD "_law_join" nW 0 ["_law_knots","_law_forest","_law_one","_law_two","_law_first","_law_second","_law_left","_law_right","_law_ends"] (λ_=>True):={_,λV B c _ _ _ _ _ _ _ I hN J=>(qb (S_ 4 hN<|fB (qv 1)<|jz<|qj zn (qv 3)<|L_ B.ba<|qv 1)<|qb (S_ 5 hN<|fB (qv 1)<|jz<|qj zn (qv 2)<|L_ B.ba<|qv 1)<|qb (fZ (i:=6) hN rfl (Or.inr rfl)<|I_ (J_ 4)<|qj zn (qj xa (qv 3) qc)<|L_ B.ba<|J_ 4)<|qb (fZ (i:=7) hN rfl (Or.inr rfl)<|I_ (J_ 5)<|qj zn (qj xa (qv 2) qc)<|L_ B.ba<|J_ 5)<|qb (zb<|zu (qv 0)<|jz<|qw<|aI qz (qv 6)<|qv 7)<|qb (eV ["_law_p"] (i:=8) hN rfl (Or.inl rfl) (E4 'o') rfl (xz<|qj ju (J_ 4)<|J_ 5) (vL 9) (λ_ _ _ _=>dC<|xb (pP _ _ _) (qv 9) (qw<|vo (qv 6)<|qv 7) 'k') λ_ _ _ _=>(qv 9))<|qd<|zb<|zu (qv 1)<|jz<|zd<|vo (qw<|jl qz<|aI (qj aG (L_ B.ba<|qv 0) qc) (J_ 4)<|J_ 5)<|qj ju (qv 8)<|zd<|jz<|qj aG (L_ B.ba<|qv 0) qc)}
def LZ:RD "_law_fold" nE 0 ["_law_knots","_law_tree_here","_law_one","_law_two","_law_left","_law_right"] (λ_=>True):={_,λV B c _ _ _ _ _ _ _ I hN J=>(qb (zc (xb oA (L_ B.ba<|J_ 1) qc<|vz _) (qd uT) qy)<|qb (S_ 4 hN<|fB (J_ 1)<|jz<|qj zn (qv 3)<|L_ B.ba<|J_ 1)<|qb (S_ 5 hN<|fB (J_ 1)<|jz<|qj zn (qv 2)<|L_ B.ba<|J_ 1)<|qb (zb<|zu (qv 0)<|jz<|qw<|aI qz (qv 4)<|qv 5)<|qb (aU (qv 1) qc<|qw<|aI qz (qj aG (L_ B.ba<|qv 0) qc)<|J_ 1)<|qd<|zb<|zu (J_ 1)<|jz<|qj aG (L_ B.ba<|qv 0) qc)}
theorem fC{ks:On}:∀{w v:Wd} {p:Nat},f9 ks p w->f9 ks p v->w=v
 |.leaf t n,.leaf g C,p,h,k=>by
  have h:=h;have k:(x8 ks)[p]?=some (.tup [.str<|kL g,.str C]):=k;rw[h] at k;injection k with k;injection k with k;injection k with J I;injection I with I _
  injection J with J;injection I with I
  have:t=g:=by cases t<;>cases g<;>first|rfl|(exfalso;revert J;decide +kernel)
  rw[this,I]
 |.leaf t n,.node e l r,p,h,k=>by obtain⟨i,j,k,_⟩:=k;have h:=h;rw[h] at k;injection k with k;injection k with k;injection k with _ k;injection k with _ k;cases k
 |.node e l r,.leaf t n,p,h,k=>by obtain⟨i,j,h,_⟩:=h;have k:(x8 ks)[p]?=some (.tup [.str<|kL t,.str n]):=k;rw[h] at k;injection k with k;injection k with k;injection k with _ k;injection k with _ k;cases k
 |.node e l r,.node o l' r',p,⟨i,j,h,T,hr⟩,⟨i',j',k,kl,kr⟩=>by
  rw[h] at k;injection k with k;injection k with k;injection k with J I;injection I with I U;injection U with U _
  injection J with J;injection I with I;injection U with U
  have e1:i=i':='s'
  have e2:j=j':='s'
  subst e1 e2;have:e=o:=by cases e<;>cases o<;>first|rfl|(exfalso;revert J;decide +kernel)
  rw[this,fC (ks:=ks) T kl,fC (ks:=ks) hr kr]
theorem rO{ks:On}(I:eG ks):∀(m p:Nat),p<m->p<ks.l->∃w,f9 ks p w/\w.J<=p+1/\w.ok
 |0,p,h,_=>absurd h 's'
 |m+1,p,h,g=>by
  obtain⟨k,J⟩:∃k,ks[p]?=some k:={_,Ah g};have U:=I p k J;cases k with
  |lf t n=>exact{.leaf t n,f9.leaf J,by exact BZ _,U}
  |nd e i j=>
   have U:=U;obtain⟨l,o,T,C⟩:=rO I m i 's' 'm';obtain⟨r,b1,b2,b3⟩:=rO I m j 's' 's';exact{.node e l r,FD J o b1,by show max l.J r.J+1<=p+1;lia,C,b3}
def TV(v:Str->Bool):Wd->Bool
 |.leaf t n=>if t=true then !v n else v n
 |.node e l r=>if e=true then TV v l||TV v r else TV v l&&TV v r
theorem oV(v:Str->Bool):∀w:Wd,TV v w.turn=!TV v w
 |.leaf t n=>by cases t<;>simp[Wd.turn,TV]
 |.node e l r=>by cases e<;>simp[Wd.turn,TV,oV v l,oV v r]
theorem SR.lt{E:aah}(h:SR ks R E):∀x∈told R,x<ks.l:=by
 have lt:∀{p:Nat} {k:Kn},ks[p]?=some k->p<ks.l:=λh=>(A3.j h).1
 induction h with
 |link _ h2 h3 _ _=>intro x I;simp[told] at I;obtain rfl|rfl:=I;exact lt h2;exact lt h3
 |ei h1 _ _ _ _ _ _ g=>intro x I;obtain rfl|I:=Ao.j I;exact lt h1;exact g x I
 |bo h1 _ _ _ _ _ _ J U=>
  intro x I;obtain rfl|I:=Ao.j I
  .exact lt h1
  .rcases Am.j I with I|I
   .exact J x I
   .exact U x I
 |cu _ _ _ _ _ _ _ _ J U=>
  intro x I;obtain I|I:=Am.j I
  .exact J x I
  .exact U x I
theorem SR.tv(hk:eG ks)(v:Str->Bool){E:aah}(h:SR ks R E):∃x∈E,∃w,f9 ks x w/\TV v w=true:=by
 have ex:∀{R':Ru} {E':aah},SR ks R' E'->∀x∈E',∃w,f9 ks x w:=λs x U=>by obtain⟨w,hw,_⟩:=rO hk (x+1) x (B8 _)<|s.lt x<|s.sub x U;exact{(w),hw}
 induction h with
 |@link p q t n E _ h2 h3 h4 _=>
  cases ht:TV v (.leaf t n) with
  |true=>exact{p,(h4 p).d<|.inl rfl,_,f9.leaf h2,ht}
  |false=>
   refine{q,(h4 q).d<|.inr rfl,_,f9.leaf h3,?_};have:=oV v<|.leaf t n;rw[ht] at this;exact this
 |@ei r i j A EA E h1 hA hi hj _ g _ ih=>
  obtain⟨x,U,w,hw,tv⟩:=ih;obtain⟨wi,l⟩:=ex hA i hi;obtain⟨wj,o⟩:=ex hA j hj;by_cases I:x=i
  .subst I;rw[fC hw l] at tv;exact{r,(g r).d<|.inr rfl,_,FD h1 l o,by simp[TV,tv]}
  .by_cases J:x=j
   .subst J;rw[fC hw o] at tv;exact{r,(g r).d<|.inr rfl,_,FD h1 l o,by simp[TV,tv]}
   .exact{x,(g x).d<|.inl {(U),I,J},w,hw,tv}
 |@bo r i j A B EA EB E h1 hA hB hi hj g _ C T=>
  obtain⟨x,U,w,hw,tv⟩:=C;obtain⟨y,hy,u,hu,tu⟩:=T;by_cases I:x=i
  .by_cases J:y=j
   .subst I J;exact{r,(g r).d<|.inr<|.inr rfl,_,FD h1 hw hu,by simp[TV,tv,tu]}
   .exact{y,(g y).d<|.inr<|.inl {(hy),J},u,hu,tu}
  .exact{x,(g x).d<|.inl {(U),I},w,hw,tv}
 |@cu p q A B EA EB E w0 hA hB hp hq a1 a2 h7 _ C T=>
  obtain⟨x,U,w,hw,tv⟩:=C;obtain⟨y,hy,u,hu,tu⟩:=T;by_cases I:x=p
  .by_cases J:y=q
   .subst I J;rw[fC hw a1] at tv;rw[fC hu a2,oV,tv] at tu;cases tu
   .exact{y,(h7 y).d<|.inr {(hy),J},u,hu,tu}
  .exact{x,(h7 x).d<|.inl {(U),I},w,hw,tv}
def SR.ends(I:eG ks){E:aah}(h:SR ks R E):0<E.l:=by obtain⟨x,J,_⟩:=h.tv I λ_=>true;exact EE J
structure Tr where
 a:Addr
 b:Addr
 R:Ru
 E:aah
abbrev _M:=List Tr
abbrev jr(E:aah):_T:=E.y λn:Nat=>Y.int (n:Int)
def Tr._n(t:Tr):List Addr:=[t.a,t.b]
structure dZ(L0 L:qm)(ka fa:Addr)(ks:On)(fo:_M):Prop where
 hk:L ka=⇑(x8 ks)
 ht:∀t∈fo,L t.a=⇑[qx t.R,.ref t.b]/\L t.b=⇑(jr t.E)
 sr:∀t∈fo,SR ks t.R t.E
 nd:(fo.h λt=>told t.R).c
 tm:∀x,x∈(fo.h λt=>told t.R)↔x<ks.l
 ad:(ka::fa::fo.h Tr._n).c
 ok:eG ks
 sub:qh L0 L
 fr:∀x∈ka::fa::fo.h Tr._n,L0 x=none
def x5(fo:_M):_T:=fo.y λt=>Y.ref t.a
structure uz(L0 L:qm)(ka fa:Addr)(ks:On)(fo:_M):Prop where
 b:dZ L0 L ka fa ks fo
 hf:L fa=⇑(x5 fo)
def FR:Ru->Prop
 |.link _ _=>True
 |.ei _ A=>FR A
 |.bo _ A B=>FR A/\FR B
 |.cu _ _ _ _=>False
def L8(ks:On)(fo:_M)(ir:On)(fo':_M):Prop:=(∃ms:On,ir=ks++ms/\∀k∈ms,∃e i j,k=.nd e i j)/\((∀t∈fo,FR t.R)->∀t∈fo',FR t.R)
def dZ.perm{fo fo':_M}(h:dZ L0 L ka fa ks fo)(p:fo.C fo'):dZ L0 L ka fa ks fo':=by have J:(fo.h λt=>told t.R).C (fo'.h λt=>told t.R):=p.flatMap_right _;have U:(fo.h Tr._n).C (fo'.h Tr._n):=p.flatMap_right _;refine{h.hk,λt I=>h.ht t<|p.mem_iff.mpr I,λt I=>h.sr t<|p.mem_iff.mpr I,J.nodup_iff.j h.nd,λx=>by rw[<-J.mem_iff];exact h.tm x,((U.cons _).cons _).nodup_iff.mp h.ad,h.ok,h.sub,λx g=>h.fr x<|((U.cons _).cons _).mem_iff.mpr g}
variable {fo rest:List Tr}
theorem vq{α:Type}:∀{l:List α} {j:Nat} {x:α},l[j]?=some x->l.Perm (x::l.n j)
 |[],_,_,h=>by simp at h
 |y::r,0,x,h=>by
  have:y=x:=by simpa using h
  subst this;exact .refl _
 |y::r,j+1,x,h=>by have I:=vq (l:=r) (j:=j) (x:=x) (~~~h);rw[CK];exact(I.cons y).t (.swap _ _ _)
def qV(fo:_M)(j:Nat):(x5 fo).n j=x5 (fo.n j):=lU _ fo j
theorem qh.none(s:qh L L'){p:Addr}(h:L' p=none):L p=none:=by cases z:L p with|none=>rfl|some o=>rw[s _ _ z] at h;cases h
def dZ.nkf(h:dZ L0 L ka fa ks fo):ka≠fa:=by have ad:=h.ad;rw[AA] at ad;exactλe=>ad.1<|e▸Ag ..
def dZ.nk(h:dZ L0 L ka fa ks fo):∀t∈fo,t.a≠fa/\t.b≠fa/\t.a≠ka/\t.b≠ka:=λt I=>by have ad:=h.ad;rw[AA,AA] at ad;have J:t.a∈fo.h Tr._n:=Bf.d {t,I,by simp[Tr._n]};have U:t.b∈fo.h Tr._n:=Bf.d {t,I,by simp[Tr._n]};exact{λe=>ad.2.1<|e▸J,λe=>ad.2.1<|e▸U,λe=>ad.1<|Ae _<|e▸J,λe=>ad.1<|Ae _<|e▸U}
def dZ.setF(h:dZ L0 L ka fa ks fo)(o:LO):dZ L0 (qk L fa o) ka fa ks fo:=by
 refine{by rw[qe h.nkf];exact h.hk,λt I=>?_,h.sr,h.nd,h.tm,h.ad,h.ok,λb u e=>?_,h.fr}
 .obtain⟨J,U,_,_⟩:=h.nk t I;rw[qe J,qe U];exact h.ht t I
 .have:b≠fa:=λz=>by rw[z,h.fr fa 'r'] at e;cases e
  rw[qe this];exact h.sub _ _ e
def dZ.mono(h:dZ L0 L ka fa ks fo)(s:qh L L'):dZ L0 L' ka fa ks fo:=
 ⟨s _ _ h.hk,λt I=>{s _ _ (h.ht t I).1,s _ _ (h.ht t I).2},h.sr,h.nd,h.tm,h.ad,h.ok,h.sub.t s,h.fr⟩
def dZ.exs(h:dZ L0 L ka fa ks fo):∀z∈fo.h Tr._n,∃o,L z=some o:=λz I=>by
 obtain⟨t,J,I⟩:=Bf.j I;obtain⟨h1,h2⟩:=h.ht t J;have I:z=t.a\/z=t.b:=by simpa[Tr._n] using I
 obtain rfl|rfl:=I
 .exact{_,h1}
 .exact{_,h2}
def W8{l:List Addr}(nd:l.c)(ex:∀z∈l,∃o,L z=some o)(U:L pa=none)(g:L pb=none)(ne:pa≠pb):(l++[pa,pb]).c:=by
 rw[Aw];refine{nd,by simp[ne],λu j v J e=>?_};subst e;obtain⟨o,I⟩:=ex u j;simp at J;obtain rfl|rfl:=J
 .rw[U] at I;cases I
 .rw[g] at I;cases I
def dZ.step{old:_M}{t':Tr}(h:dZ L0 L ka fa ks<|old++rest)(l:L' ka=⇑(x8<|ks++ms))(o:L' t'.a=⇑[qx t'.R,.ref t'.b]/\L' t'.b=⇑(jr t'.E))
 (keep:∀t∈rest,L' t.a=L t.a/\L' t.b=L t.b) (sub:qh L0 L') (ad:(ka::fa::(rest++[t']).h Tr._n).c) (p:∀x∈t'._n,L0 x=none) (ok:eG<|ks++ms) (r:SR (ks++ms) t'.R t'.E)
 (tp:(told t'.R).C<|List.range' ks.l ms.l++old.h λt=>told t.R):dZ L0 L' ka fa (ks++ms) (rest++[t']):=by
 have hnd:=h.nd;have U:=h.tm;rw[AC] at hnd;have j:((rest++[t']).h λt=>told t.R)=(rest.h λt=>told t.R)++told t'.R:=by rw[AC];simp
 have mem:∀x,x∈told t'.R↔(ks.l<=x/\x<ks.l+ms.l)\/x∈(old.h λt=>told t.R):=λx=>by rw[tp.mem_iff,Am,Dy]
 refine{l,λt J=>?_,λt J=>?_,?_,λx=>?_,ad,ok,sub,λx I=>?_}
 .rcases Am.j J with J|J
  .obtain⟨C,T⟩:=keep t J;rw[C,T];exact h.ht t<|Ai _ J
  .rw[Ak.j J];exact o
 .rcases Am.j J with J|J
  .exact(h.sr t<|Ai _ J).more _
  .rw[Ak.j J];exact r
 .rw[j,Aw];rw[Aw] at hnd;refine{hnd.2.1,tp.nodup_iff.d ?_,λx I y g e=>?_}
  .rw[Aw];refine{En,hnd.1,λx I y g e=>?_};have I:=Dy.j I;have g:=(U y).j ([AC]≈An _ g);lia
  .subst e;obtain g|g:=(mem x).j g
   .have:=(U x).j ([AC]≈Ai _ I);lia
   .exact hnd.2.2 x g x I rfl
 .rw[j,Am,mem,Ab];have h1:=U x;rw[AC,Am] at h1;constructor
  .rintro(h2|h2|h2)
   .have:=h1.j<|.inr h2;exact JP
   .lia
   .have:=h1.j<|.inl h2;lia
  .intro h2;by_cases c:x<ks.l
   .rcases h1.d c with h3|h3
    .exact .inr<|.inr h3
    .exact .inl h3
   .exact .inr<|.inl 's'
 .rcases Ao.j I with rfl|I
  .exact h.fr _<|Ag ..
  .rcases Ao.j I with rfl|I
   .exact h.fr _<|Ae _<|Ag ..
   .rw[AC] at I;obtain I|I:=Am.j I
    .exact h.fr _ (Ae _ (Ae _ ([AC]≈Ai _ I)))
    .exact p x (~~~I)
def dZ.put{M:qm}{old:_M}{E:aah}{fs:LO}(h:dZ L0 L ka fa ks<|old++rest)(U:∀z o,z≠ka->L z=some o->M z=some o)(g:M ka=⇑(x8<|ks++ms))(l:M fa=some fs)(na:M pa=none)(nb:M pb=none)(ne:pa≠pb)(s:qh M L')(p:L' pa=⇑[qx R,.ref pb])(r:L' pb=⇑(jr E))
 (ok:eG<|ks++ms) (C:SR (ks++ms) R E) (tp:(told R).C<|List.range' ks.l ms.l++old.h λt=>told t.R):dZ L0 L' ka fa (ks++ms) (rest++[{(pa),pb,R,E}]):=by
 have J:∀z o,L0 z=some o->M z=some o:=λz o e=>U _ _ (λw=>by rw[w,h.fr ka 'r'] at e;cases e)<|h.sub _ _ e;have two:∀z,z∈(⟨pa,pb,R,E⟩:Tr)._n->M z=none:=λz I=>by
  have I:z=pa\/z=pb:=by simpa[Tr._n] using I
  obtain rfl|rfl:=I<;>assumption
 refine dZ.step (old:=old) (t':={(pa),pb,R,E}) h (s _ _ g) {(p),r} (λt j=>?_) (λz o e=>s _ _<|J z o e) ?_ (λz I=>?_) ok C tp
 .obtain⟨_,_,T,n4⟩:=h.nk t<|Ai _ j;obtain⟨h1,h2⟩:=h.ht t<|Ai _ j;rw[h1,h2];exact{s _ _<|U _ _ T h1,s _ _<|U _ _ n4 h2}
 .have ad:=h.ad;rw[AC] at ad;have:=W8 (L:=M) ((((B6 ..).cons_cons _).cons_cons _).nodup ad) (λz I=>?_) na nb ne
  .rw[AC];simpa[Tr._n] using this
  .rcases Ao.j I with rfl|I
   .exact{_,g}
   obtain rfl|I:=Ao.j I
   .exact{_,l}
   obtain⟨o,e⟩:=h.exs z ([AC]≈Ai _ I);exact{o,U _ _ (λw=>(AA.j ad).1 (by rw[<-w];exact Ae _<|Ai _ I)) e}
 .cases e:L0 z with|none=>rfl|some o=>have w:=J z o e;rw[two z I] at w;cases w
inductive oE(ys:_T)(L:qm)(Q:YK):Prop
 |mk:∀L0 ka fa ks fo,∀one two:Int,(ys=[.ref ka,.ref fa,.int one,.int two])->(uz L0 L ka fa ks fo)->(2<=fo.l)->(fo.l<=200)->(ks.l<=200)->(∀L' ir fo',uz L0 L' ka fa ir fo'->ir.length=ks.l+1->fo'.length+1=fo.l->L8 ks fo ir fo'->Q .GM L')->oE ys L Q
def dm{l:List α}(h:0<l.l)(k:Int):∃(j:Nat) (x:α),k % (l.l:Int)=(j:Int)/\j<l.l/\l[j]?=some x:=by have h0:0<=k % (l.l:Int):=DO _ 's';have h1:k % (l.l:Int)<(l.l:Int):=Ef _ 'm';refine{(k % (l.l:Int)).B,l[(k % (l.l:Int)).B]' 's','s','s',Ah 's'}
theorem da:∀(n:Nat) (l:aah),l.c->(∀x∈l,x<n)->l.length<=n
 |0,l,_,h=>by cases l with|nil=>exact Ap _|cons x r=>exact absurd (h x<|Ag ..) 's'
 |n+1,l,nd,h=>by
  by_cases c:n∈l
  .have p:=List.perm_cons_erase c;have J:=da n (l.erase n) (nd.erase n) λx I=>by have:=(List.Nodup.mem_erase_iff nd).j I;have:=h x this.2;lia
   rw[p.f,AK];exact HB
  .exact CA (da n l nd λx I=>by have:=h x I;have:x≠n:=λe=>c<|e▸I;lia)
def cx(h:dZ L0 L ka fa ks fo){t:Tr}(I:t∈fo):0<t.E.l/\t.E.l<=ks.l:=by have s:=h.sr t I;exact{s.ends h.ok,da _ _ s._G λx J=>s.lt x<|s.sub x J}
def W9(x l r:Nat):rW (cT<|.int (x:Int)) (([.int (l:Int),.int (r:Int)]:_T).y cT)=decide (x=l\/x=r):=by
 show(iz (.int (l:Int)) (.int (x:Int))||(iz (.int (r:Int)) (.int (x:Int))||false))=_;have e:∀a b:Nat,iz (.int (a:Int)) (.int (b:Int))=decide (b=a):=λa b=>by
  show decide ((a:Int)=(b:Int))=decide (b=a);by_cases c:b=a
  .subst c;simp
  .rw[Ay c];apply Ay;lia
 rw[e,e];by_cases h1:x=l<;>by_cases h2:x=r<;>simp[h1,h2]
def uH{E:aah}(h:0<E.l)(k:Int):∃x,x∈E/\bw (jr E) (k % ((jr E).l:Int))=some (.int x⁻¹):=by obtain⟨j,x,I,J,ex⟩:=dm h k;refine{x,AD ex,?_};rw[Ac,I];exact jh (by rw[Al,ex];rfl)
def aJ(E1 E2:aah)(l r:Nat):aah:=(E1++E2).S λx=>!decide (x=l\/x=r)
def L9{U:Addr}{E:aah}{l r k:Nat}{Q:YK}{tc:jB}(C:L U=⇑(jr E))(I:E.l<=1000)
 (T:∀y (g:Bool->qm->Prop),ut true y (.tup [.int (l:Int),.int (r:Int)]) L (λx L'=>match x with|.bl c=>g c L'|_=>False)->tc (iQ (τ++List.replicate 1 none) k y) L g)
 (hv:∀y,yc (iQ (τ++List.replicate 1 none) k y) k=some y)
 (hq:∀p,L p=none->Q (.ref p) (qk L p<|.lst<|jr<|E.filter λx=>!decide (x=l\/x=r))):
 xO L U λys keep L2=>n_ ys keep 1 (ql k) tc (qf k) τ L2 Q:=by
 refine xi C λkeep kp=>bu (λj zs=>zs=jr ((E.u j).S λx=>!decide (x=l\/x=r))) ([Ac]≈tG I) (kp L rfl) rfl ?_ ?_
 .rintro j y _ o rfl;obtain⟨x,ex,rfl⟩:∃x:Nat,E[j]?=some x/\y=Y.int (x:Int):=by rw[Al] at o;obtain⟨x,e1,e2⟩:=Au.j o;exact{(x),e1,e2.L}
  refine T _ _ {rfl,rfl,?_};rw[W9];have t:(E.u<|j+1).S (λx=>!decide (x=l\/x=r))=(E.u j).S (λx=>!decide (x=l\/x=r))++[x].S (λx=>!decide (x=l\/x=r)):=by rw[Bh,ex,Cu];rfl
  by_cases c:x=l\/x=r
  .refine dg (by rw[AJ c];rfl) ?_;refine J' {rfl,?_};rw[t,List.filter_cons_of_neg (by simp[c]),DN,AE]
  .refine gE (by rw[Ay c];rfl) ?_;unfold qf;rw[hv];refine J' {rfl,?_};rw[t,List.filter_cons_of_pos (by simp[c]),DN];unfold jr;rw[Ax];rfl
 .rintro _ rfl p J;rw[Ac,Bp];exact hq p J
def Ix{k:Int}(U:L fa=⇑(x5 fo))(h:0<fo.l):∃(j:Nat) (t:Tr),fo[j]?=some t/\0<=k % ((x5 fo).l:Int)/\k % ((x5 fo).l:Int)<((x5 fo).l:Int)/\
 (x5 fo)[(k % ((x5 fo).l:Int)).B]?=some (.ref t.a)/\qk L fa (.lst<|(x5 fo).n (k % ((x5 fo).l:Int)).B) fa=⇑(x5<|fo.eraseIdx j):=by
 obtain⟨j,t,J,g,I⟩:=dm h k;have e:(x5 fo).l=fo.l:=Ac ..;rw[e,J];refine{j,t,I,Bb _,'s',?_,?_}
 .show(x5 fo)[j]?=_;unfold x5;rw[Al,I];rfl
 .rw[q9];show some (LO.lst<|(x5 fo).n j)=_;rw[qV]
def dZ.two{t1 t2:Tr}(h:dZ L0 L ka fa ks<|t1::t2::rest):∀x,x∈told t1.R->x∈told t2.R->False:=by intro x h1 h2;have nd:=h.nd;rw[Bo,Bo,Aw] at nd;exact nd.2.2 x h1 x (An _ h2) rfl
def Ma{E1 E2:aah}{l r:Nat}(I:l∉E2)(J:r∉E1)(x:Nat):x∈aJ E1 E2 l r↔(x∈E1/\x≠l)\/(x∈E2/\x≠r):=by
 unfold aJ;rw[AW,Am];constructor
 .rintro⟨h,c⟩;have c:¬(x=l\/x=r):=by simpa using c
  obtain h|h:=h
  .exact .inl {h,λe=>c<|.inl e}
  .exact .inr {h,λe=>c<|.inr e}
 .rintro(⟨h,c⟩|⟨h,c⟩)
  .refine{.inl h,?_};have:x≠r:=λe=>J<|e▸h;simp[c,this]
  .refine{.inr h,?_};have:x≠l:=λe=>I<|e▸h;simp[c,this]
def Mb{E1 E2:aah}{l r:Nat}(h1:E1.c)(h2:E2.c)(d:∀x,x∈E1->x∈E2->False):(aJ E1 E2 l r).c:=by
 have h:(E1++E2).c:=by rw[Aw];exact{h1,h2,λx I y J e=>d x I<|e▸J}
 exact List.Pairwise.filter _ h
def mI(a b:aah):jr (a++b)=jr a++jr b:=Ax
def ie(a:_M)(t:Tr):x5 (a++[t])=x5 a++[.ref t.a]:=Ax
theorem W':_f oE LY.1 9:=by
 rintro ys L Q ⟨L0,ka,fa,g,fo,one,two,rfl,F,h2,c0,bg,q⟩;have big:=a_;have p:∀fo:_M,(x5 fo).l=fo.l:=λfo=>Ac ..;have U:∀E:aah,(jr E).l=E.l:=λE=>Ac ..;obtain⟨j1,I,bh,a1,a2,a3,j⟩:=Ix (k:=two) F.hf<|l5;have p1:=vq bh;refine qa F.hf (qa F.hf {(by rw[p];lia),qo F.hf {a1,a2,qg a3 ?_}});have B:=(F.b.perm p1).setF<|.lst<|(x5 fo).n (two % ((x5 fo).l:Int)).B;generalize qk L fa _=L1 at j B ⊢;have l1:=p1.f;generalize fo.n j1=a5 at l1 j B p1 ⊢;rw[AK] at l1;obtain⟨j2,J,bi,b1,b2,b3,ac⟩:=Ix (k:=one) j 's';have p2:=vq bi;refine qa j (qa j {(by rw[p];lia),qo j {b1,b2,qg b3 ?_}});replace B:=(B.perm<|p2.cons _).setF<|.lst<|(x5 a5).n (one % ((x5 a5).l:Int)).B;generalize qk L1 fa _=L2 at ac B ⊢;have l2:=p2.f;have bc:=p1.t<|p2.cons _;generalize a5.n j2=rest at l2 ac B bc ⊢;rw[AK] at l2;have m1:I∈I::J::rest:='r'
 have m2:J∈I::J::rest:='r'
 obtain⟨C,al⟩:=B.ht I m1;obtain⟨T,ar⟩:=B.ht J m2;obtain⟨_,_,n1,n2⟩:=B.nk I m1;obtain⟨_,_,n3,n4⟩:=B.nk J m2;have bj:=cx B m1;have bn:=cx B m2;obtain⟨x,hx,ex⟩:=uH bj.1<|two / 64;obtain⟨y,hy,ey⟩:=uH bn.1<|one / 64;refine qa C {{∅,∅},qa C (qa al {(by rw[U];omega),qa al<|qg ex ?_})};refine qa T {{∅,∅},qa T (qa ar {(by rw[U];omega),qa ar<|qg ey ?_})};refine qa B.hk (qo B.hk {big _ ([Ac]≈GA),?_});have ek:x8 g++[.tup [.str "both",.int x⁻¹,.int y⁻¹]]=x8 (g++[.nd false x y]):=by unfold x8;rw[Ax];rfl
 rw[ek];have k3:∀z o,z≠ka->L2 z=some o->qk L2 ka (.lst<|x8<|g++[.nd false x y]) z=some o:=λz o n e=>(qe n).t e;have bd:qk L2 ka (.lst<|x8<|g++[.nd false x y]) ka=⇑(x8<|g++[.nd false x y]):=q9;generalize qk L2 ka _=L3 at bd k3 ⊢;refine qa (k3 _ _ n1 C) (qa (k3 _ _ n3 T) {_,_,k3 _ _ n2 al,k3 _ _ n4 ar,small (by rw[U,U];lia),λpp bp=>?_});rw[<-mI];refine L9 (E:=I.E++J.E) (l:=x) (r:=y) (k:=9) q9 (by rw[Ab];lia) (λy' Q' h=>h) (λ_=>rfl) λpe bq=>?_;generalize hL:qk (qk L3 pp _) pe _=L4;have s4:qh L3 L4:=by rw[<-hL];exact(By bp).t (By bq)
 have br:L4 pe=⇑(jr<|aJ I.E J.E x y):=by rw[<-hL];exact q9
 have k4:∀z o,z≠ka->L2 z=some o->L4 z=some o:=λz o n e=>s4 _ _<|k3 z o n e;have au:=s4 _ _ bd;have av:=k4 _ _ (AN B.nkf) ac;have nn:((x8<|g++[.nd false x y]).l)⁻¹-1=g.l⁻¹:=by rw[Ac,Ab];simp
 have lb:(aJ I.E J.E x y).l<=(I.E++J.E).l:=CV ..;rw[Ab] at lb;refine qa av<|qa au<|qa (k4 _ _ n1 C)<|qa (k4 _ _ n3 T)<|qa au λpn a4=>?_;refine{_,_,By a4 _ _ br,q9,small (by rw[U];show _+1<=1000;lia),λpb aL pa ba=>?_};have bf:=ku q9 ba;have nb:=(By a4).none aL;have na:=((By a4).t<|By aL).none ba;generalize hL:qk (qk (qk L4 pn _) pb _) pa _=L7;have s7:qh L4 L7:=by rw[<-hL];exact((By a4).t<|By aL).t (By ba)
 have ea:L7 pa=⇑[qx<|.bo g.l I.R J.R,.ref pb]:=by rw[<-hL,q9];dsimp only;rw[nn];rfl
 have eb:L7 pb=⇑(jr<|aJ I.E J.E x y++[g.l]):=by rw[<-hL,qe bf,q9];dsimp only;rw[nn,mI];rfl
 refine qo (s7 _ _ av) {big _ (by rw[p];lia),?_};have s1:=B.sr I m1;have s2:=B.sr J m2;have bb:∀z,z∈I.E->z∈J.E->False:=λz h1 h2=>B.two z (s1.sub z h1)<|s2.sub z h2;have bm:=Ma (E1:=I.E) (E2:=J.E) (λh=>bb x hx h) λh=>bb y h hy;refine jj (q _ (g++[.nd false x y]) (rest++[{pa,pb,.bo g.l I.R J.R,aJ I.E J.E x y++[g.l]}]) {(dZ.put (old:=[I,J]) B k4 au av na nb (AN bf) s7 ea eb (B.ok.snoc {s1.lt x<|s1.sub x hx,s2.lt y<|s2.sub y hy}) (.bo (gi _ _ _) (s1.more _) (s2.more _) hx hy (λz=>?_) ?_) ?_).setF _,by rw[q9,ie]} (by rw[Ab];rfl) (by rw[Ab];simp;lia) {{_,rfl,λk hk=>{_,_,_,Ak.j hk}},λh t ht=>?_})
 .rw[Am,bm,Ak,or_assoc]
 .rw[Aw];refine{Mb s1._G s2._G bb,'r',λu hu v hv e=>?_};rw[Ak.j hv] at e;rcases (bm u).j hu with⟨h,_⟩|⟨h,_⟩
  .have:=s1.lt u<|s1.sub u h;lia
  .have:=s2.lt u<|s2.sub u h;lia
 .show(g.l::(told I.R++told J.R)).C (List.range' g.l 1++([I,J].h λt=>told t.R));simp[Eu]
 .have h':∀u∈I::J::rest,FR u.R:=λu hu=>h u<|bc.mem_iff.mpr hu;obtain ht|ht:=Am.j ht
  .exact h' t<|Ae _<|Ae _ ht
  .rw[Ak.j ht];exact{h' I m1,h' J m2}
def yF{E:aah}{k:Int}(h:0<E.l):∃(j x:Nat),E[j]?=some x/\0<=k % ((jr E).l:Int)/\k % ((jr E).l:Int)<((jr E).l:Int)/\
 (jr E)[(k % ((jr E).l:Int)).B]?=some (.int x⁻¹)/\(jr E).n (k % ((jr E).l:Int)).B=jr (E.n j):=by
 obtain⟨j,x,J,U,I⟩:=dm h k;have e:(jr E).l=E.l:=Ac ..;rw[e,J];refine{j,x,I,Bb _,'s',?_,?_}
 .show(jr E)[j]?=_;rw[Al,I];rfl
 .exact lU _ E j
def Iy{a:Addr}{o:LO}:∀z u,z≠a->L z=some u->qk L a o z=some u:=λz u n e=>(qe n).t e
inductive jS(ys:_T)(L:qm)(Q:YK):Prop
 |mk:∀L0 ka fa ks,∀pre post:_M,∀t:Tr,∀one two:Int,(ys=[.ref ka,.ref t.a,.int one,.int two])->(uz L0 L ka fa ks<|pre++t::post)->(ks.l<=200)->(∀L' ir fo',uz L0 L' ka fa ir fo'->ir.length<=ks.l+1->fo'.length=(pre++t::post).l->L8 ks (pre++t::post) ir fo'->Q .GM L')->jS ys L Q
theorem Xa:_f jS LZ.1 6:=by
 rintro ys L Q ⟨L0,C,fa,I,pre,post,t,one,two,rfl,F,bc,q⟩;have big:=a_;have mt:t∈pre++t::post:='r'
 have B:=F.b;obtain⟨ta,tb⟩:=B.ht t mt;have le:=cx B mt;have s:=B.sr t mt;have U:∀E:aah,(jr E).l=E.l:=λE=>Ac ..;refine qa ta<|qa tb ?_;refine qr (λc=>?_) λc=>?_
 .exact jj<|q L I _ F (Cn _) rfl {{[],(AE _).L,λk hk=>by cases hk},λh=>h}
 have c:=c;rw[U] at c;have ad:=B.ad;have nkf:=B.nkf;have nk:=B.nk;have r:t.a≠t.b:=by rw[AA,AA,AC,Bo,Aw,Aw] at ad;have:=ad.2.2.2.1.1;simpa[Tr._n] using this
 obtain⟨j1,x,e1,a1,a2,a3,a4⟩:=yF (k:=two) le.1;refine qa ta (qa tb (qa ta (qa tb {(by rw[U];omega),qo tb {a1,a2,qg a3 ?_}})));rw[a4];have bg:(t.E.n j1).l+1=t.E.l:=by have:=(vq e1).f;rw[AK] at this;lia
 have a5:qk L t.b (.lst<|jr<|t.E.eraseIdx j1) t.a=⇑[qx t.R,.ref t.b]:=by rw[qe r];exact ta
 obtain⟨j2,y,e2,b1,b2,b3,b4⟩:=yF (E:=t.E.n j1) (k:=one) 's';refine qa a5 (qa q9 (qa a5 (qa q9 {(by rw[U];omega),qo q9 {b1,b2,qg b3 ?_}})));rw[b4,vn];have bd:((t.E.n j1).n j2).l+1=(t.E.n j1).l:=by have:=(vq e2).f;rw[AK] at this;lia
 have pE:=(vq e1).t<|(vq e2).cons _;generalize (t.E.n j1).n j2=j at bd pE;have nt:=nk t mt;have k1:=Iy (L:=L) (a:=t.b) (o:=.lst<|jr j);have ac:qk L t.b (.lst<|jr j) t.b=⇑(jr j):=q9;generalize qk L t.b _=L1 at k1 ac ⊢;have al:=k1 _ _ (AN nt.2.2.2) B.hk;refine qa al (qo al {big _ ([Ac]≈GA),?_});have ek:x8 I++[.tup [.str "either",.int x⁻¹,.int y⁻¹]]=x8 (I++[.nd true x y]):=by unfold x8;rw[Ax];rfl
 rw[ek];have nn:((x8<|I++[.nd true x y]).l)⁻¹-1=I.l⁻¹:=by rw[Ac,Ab];simp
 have k2:=Iy (L:=L1) (a:=C) (o:=.lst<|x8<|I++[.nd true x y]);have T:qk L1 C (.lst<|x8<|I++[.nd true x y]) C=⇑(x8<|I++[.nd true x y]):=q9;generalize qk L1 C _=L2 at k2 T ⊢;have ar:=k2 _ _ nt.2.2.1<|k1 _ _ r ta;refine qa T<|qa ar<|qo ar<|qg (v:=0) rfl ?_;generalize hL:qk L2 t.a _=L3;have au:L3 t.a=⇑[qx<|.ei I.l t.R,.ref t.b]:=by rw[<-hL,q9];dsimp only;rw[nn];rfl
 have k3:∀z o,z≠t.a->L2 z=some o->L3 z=some o:=by rw[<-hL];exact Iy
 have av:=k3 _ _ (AN nt.2.2.1) T;have aL:=k3 _ _ (AN r)<|k2 _ _ nt.2.2.2 ac;have g:∀b u,b≠t.a->b≠t.b->b≠C->L b=some u->L3 b=some u:=λb u n1 n2 n3 e=>k3 _ _ n1<|k2 _ _ n3<|k1 _ _ n2 e;refine qa au (qa aL (qa av (qo aL {big _ (by rw[U];lia),?_})));have en:jr j++[.int<|((x8<|I++[.nd true x y]).l)⁻¹-1]=jr (j++[I.l]):=by rw[nn];unfold jr;rw[Ax];rfl
 have l:=pE.nodup_iff.j s._G;rw[AA,AA] at l;have hx:x∈t.E:=pE.mem_iff.d 'r';have hy:y∈t.E:=pE.mem_iff.d 'r';have bf:∀u∈pre++post,u.a≠t.a/\u.a≠t.b/\u.b≠t.a/\u.b≠t.b:=λu J=>by have p:(pre++t::post).C (t::(pre++post)):=C2;have ba:=(p.flatMap_right Tr._n).nodup_iff.mp (by rw[AA,AA] at ad;exact ad.2.2);rw[Bo,Aw] at ba;have k:=ba.2.2;have ma:u.a∈(pre++post).h Tr._n:=Bf.d {u,J,by simp[Tr._n]};have mb:u.b∈(pre++post).h Tr._n:=Bf.d {u,J,by simp[Tr._n]};exact{λe=>k t.a (by simp[Tr._n]) u.a ma e.L,λe=>k t.b (by simp[Tr._n]) u.a ma e.L,λe=>k t.a (by simp[Tr._n]) u.b mb e.L,λe=>k t.b (by simp[Tr._n]) u.b mb e.L}
 refine jj (q _ (I++[.nd true x y]) (pre++⟨t.a,t.b,.ei I.l t.R,j++[I.l]⟩::post) {?_,?_} ([Ab]≈Ap _) 'r' {{_,rfl,λk hk=>{_,_,_,Ak.j hk}},λh u J=>?_})
 rotate_right
 .rcases Am.j J with J|J
  .exact h u<|An _ J
  .rcases Ao.j J with rfl|J
   .exact h t mt
   .exact h u<|Ai _<|Ae _ J
 .have B':=B.perm (fo':=[t]++(pre++post)) C2;have st:=dZ.step (old:=[t]) (rest:=pre++post) (t':={t.a,t.b,.ei I.l t.R,j++[I.l]}) (ms:=[.nd true x y]) (L':=qk L3 t.b<|.lst<|jr j++[.int<|((x8<|I++[.nd true x y]).l)⁻¹-1]) B' ?_ {?_,?_} (λu J=>?_) (λb o e=>?_) ?_ (λz hz=>?_) ?_ ?_ ?_
  .exact st.perm (by have p1:((pre++post)++[({t.a,t.b,.ei I.l t.R,j++[I.l]}:Tr)]).C ((⟨t.a,t.b,.ei I.l t.R,j++[I.l]⟩:Tr)::(pre++post)):=Cv _ _;exact p1.t C2.L)
  .rw[qe<|AN (nk t mt).2.2.2];exact av
  .rw[qe r];exact au
  .rw[q9,en]
  .have bb:u∈pre++t::post:=by obtain h|h:=Am.j J;exact An _ h;exact Ai _ (Ae _ h)
   obtain⟨n1,n2,n3,n4⟩:=bf u J;obtain⟨k1,k2,k3,k4⟩:=nk u bb;obtain⟨h1,h2⟩:=B.ht u bb;rw[h1,h2,qe n2,qe n4];exact{g _ _ n1 n2 k3 h1,g _ _ n3 n4 k4 h2}
  .have fr:=B.fr;have n0:∀z,L0 z=none->b≠z:=λz hz w=>by rw[w,hz] at e;cases e
   have n1:=n0 C<|fr C 'r';have n2:=n0 t.a<|fr t.a (by simp[Tr._n]);have n3:=n0 t.b<|fr t.b (by simp[Tr._n]);rw[qe n3];exact g _ _ n2 n3 n1<|B.sub _ _ e
  .have p:(pre++t::post).C ((pre++post)++[t]):=C2.t (Cv _ _).L;have e:((pre++post)++[({t.a,t.b,.ei I.l t.R,j++[I.l]}:Tr)]).h Tr._n=((pre++post)++[t]).h Tr._n:=by simp[AC,Tr._n]
   rw[e];exact(((p.flatMap_right Tr._n).cons _).cons _).nodup_iff.mp ad
  .have hz:z=t.a\/z=t.b:=by simpa[Tr._n] using hz
   obtain rfl|rfl:=hz
   .exact B.fr _ (by simp[Tr._n])
   .exact B.fr _ (by simp[Tr._n])
  .exact B.ok.snoc {s.lt x<|s.sub x hx,s.lt y<|s.sub y hy}
  .refine .ei (gi _ _ _) (s.more _) hx hy (λe=>l.1 ([e]≈Ag ..)) (λz=>?_) ?_
   .rw[Am,Ak];have hm:=pE.mem_iff (a:=z);rw[Ao,Ao] at hm;have h1:z∈j->z≠x/\z≠y:=λh=>{λe=>l.1 (by rw[<-e];exact Ae _ h),λe=>l.2.1<|e▸h};constructor
    .rintro(h|h)
     .exact .inl {hm.d<|.inr<|.inr h,h1 h}
     .exact .inr h
    .rintro(⟨h,c1,c2⟩|h)
     .rcases hm.j h with e|e|e
      .exact absurd e c1
      .exact absurd e c2
      .exact .inl e
     .exact .inr h
   .rw[Aw];refine{l.2.2,'r',λu J v hv e=>?_};rw[Ak.j hv] at e;have:=pE.mem_iff.d<|Ae _<|Ae _ J;have:=s.lt u<|s.sub u this;lia
  .show(I.l::told t.R).C (List.range' I.l 1++([t].h λt=>told t.R));simp[Eu]
 .have nf:=nk t mt;rw[qe<|AN nf.2.1];have:=g fa _ (AN nf.1) (AN nf.2.1) (AN nkf) F.hf;rw[this];unfold x5;rw[Ax,Ax];rfl
def Xb(I:vh)(p1:vh)(p2:vh)(p3:vh):aa:=(zj (jx (fg uc (qf 1)<|qi (zx wf (qf 3)<|gC 1) zk)<|ql 4)
 (zj (jx (zx aO (a6 4 1)<|zx wf (zx bz (qf 3)<|ja 64)<|sJ sD<|aV<|a6 4 1)<|ql 5)
 (zj (jx (jg I<|cg (qf 0)<|qf 5)<|ql 6)
 (zj (jx (FO (yC .GM)<|yC .GM)<|dY 2<|jy (ql 7)<|jy (ql 8) cK)
 (zj (gA (bx<|aV<|gC 1) (ql 9)<|gA (ah<|zx aO (zx aO (qf 1)<|qf 9)<|ja 1) (ql 10)<|xr (iY (yB<|rY false<|qf 7)<|bU (jg I<|cg (qf 0)<|qf 10)<|jg p1<|aV<|qf 6) (jx (vi<|qi (zx aO (qf 1)<|qf 9)<|aV<|qf 10)<|dY 2<|jy (ql 7)<|jy (ql 8) cK) w5)
 (zj (xr (iY (yB<|rY false<|qf 7)<|yB<|zx Kq (jg p2<|aV<|qf 6)<|ja 5) (zj (jo<|fg xp (qf 1)<|aV<|qf 4)
 HN) w5)
 (i3 (xr (yB<|rY false<|qf 7) (zj (jx (jg p3<|cg (qf 0)<|qf 6)<|Lp 3<|jy (ql 11)<|jy (ql 8)<|jy (ql 12) cK)
 (jx (aZ<|qi (qf 11)<|qi (aZ<|cg (qf 8)<|qf 12) zk)<|ql 7))<|jo<|fg oX (qf 1)<|aV<|qf 7)
 (zj (jx (h_ 1 (ah<|zx kU (a6 4 1)<|a6 7 1) (ql 14) (yB<|zx (ut true) (qf 14)<|FO (qf 5)<|qf 8)<|qf 14)<|ql 13)
 (xr (bU (zx wf (qf 2)<|ja 2)<|ja 0) (jo<|fg xp (qf 1)<|qi (aZ<|qi (vi<|qi (iW "cut")<|qi (qf 5)<|qi (qf 8)<|cg (a6 4 0)<|a6 7 0)<|aV<|qf 13) zk)<|jo<|fg xp (qf 1)<|qi (aZ<|qi (vi<|qi (iW "cut")<|qi (qf 8)<|qi (qf 5)<|cg (a6 7 0)<|a6 4 0)<|aV<|qf 13) zk)))))))))
theorem uE:∀a b:List Da,Da.eqs a b=true->a.length=b.l
 |[],[],_=>rfl
 |[],_::_,h=>by cases h
 |_::_,[],h=>by cases h
 |x::r,y::q,h=>by have h:(Da.eq x y&&Da.eqs r q)=true:=h;rw[AS] at h;rw[AK,AK,uE r q h.2]
def Mc(u:Wd):∀v:Wd,Da.eq (rh u) (rh v)=true->u=v:=by
 induction u with
 |leaf t n=>
  intro v h;cases v with
  |leaf o p=>
   rw[LX,AS] at h;rw[of_decide_eq_true h.1,of_decide_eq_true h.2]
  |node e l r=>exact absurd (uE _ _ h) (by intro z;cases z)
 |node e l r g j=>
  intro v h;cases v with
  |leaf t n=>exact absurd (uE _ _ h) (by intro z;cases z)
  |node I J U=>
   have h:(iz (.str<|kN e) (.str<|kN I)&&(Da.eq (rh l) (rh J)&&(Da.eq (rh r) (rh U)&&true)))=true:=h;rw[AS,AS,AS] at h;obtain⟨h1,h2,h3,_⟩:=h;have:e=I:=by cases e<;>cases I<;>first|rfl|(exfalso;revert h1;decide +kernel)
   rw[this,g J h2,j U h3]
def zq:Ru->Nat
 |.link _ _=>1
 |.ei _ A=>zq A+1
 |.bo _ A B=>max (zq A) (zq B)+1
 |.cu _ _ A B=>max (zq A) (zq B)+1
theorem kh:∀R:Ru,zq R+1<=(told R).l
 |.link _ _=>Ap _
 |.ei _ A=>by have:=kh A;simp[zq,told];lia
 |.bo _ A B=>by have:=kh A;have:=kh B;simp[zq,told];lia
 |.cu _ _ A B=>by have:=kh A;have:=kh B;simp[zq,told];lia
def fP:Ru->Da
 |.link p q=>.tup [.s<|.str "link",.s<|.int (p:Int),.s<|.int (q:Int)]
 |.ei r A=>.tup [.s<|.str "either",.s<|.int (r:Int),fP A]
 |.bo r A B=>.tup [.s<|.str "both",.s<|.int (r:Int),fP A,fP B]
 |.cu p q A B=>.tup [.s<|.str "cut",.s<|.int (p:Int),.s<|.int (q:Int),fP A,fP B]
theorem fQ{L:qm}:∀{R:Ru} {n:Nat},zq R<=n->j6 L n (qx R) (fP R)
 |.link p q,n+1,_=>vv<|.cons (EZ _)<|.cons (EY _)<|.cons (EY _) .nil
 |.ei r A,n+1,h=>vv (.cons (EZ _) (.cons (EY _) (.cons (fQ (by simp[zq] at h;lia)) .nil)))
 |.bo r A B,n+1,h=>vv (.cons (EZ _) (.cons (EY _) (.cons (fQ (by simp[zq] at h;lia)) (.cons (fQ (by simp[zq] at h;lia)) .nil))))
 |.cu p q A B,n+1,h=>vv (.cons (EZ _) (.cons (EY _) (.cons (EY _) (.cons (fQ (by simp[zq] at h;lia)) (.cons (fQ (by simp[zq] at h;lia)) .nil)))))
 |.link _ _,0,h=>by simp[zq] at h
 |.ei _ _,0,h=>by simp[zq] at h
 |.bo _ _ _,0,h=>by simp[zq] at h
 |.cu _ _ _ _,0,h=>by simp[zq] at h
theorem cU:∀R:Ru,Da.eq (fP R) (fP R)=true
 |.link p q=>by simp[fP,Da.eq,Da.eqs,iz]
 |.ei r A=>by simp[fP,Da.eq,Da.eqs,iz,cU A]
 |.bo r A B=>by simp[fP,Da.eq,Da.eqs,iz,cU A,cU B]
 |.cu p q A B=>by simp[fP,Da.eq,Da.eqs,iz,cU A,cU B]
def mD(E:aah):List Da:=E.y λn:Nat=>Da.s<|.int (n:Int)
theorem Md{L:qm}{n:Nat}:∀E:aah,Paired (j6 L n) (jr E)<|mD E
 |[]=>.nil
 |_::r=>.cons (EY _)<|Md r
theorem t7:∀E I:aah,Da.eqs (mD E) (mD I)=true↔E=I
 |[],[]=>by simp[mD,Da.eqs]
 |[],_::_=>by simp[mD,Da.eqs]
 |_::_,[]=>by simp[mD,Da.eqs]
 |x::r,y::J=>by
  have U:=t7 r J;show(Da.eq (.s<|.int (x:Int)) (.s<|.int (y:Int))&&Da.eqs (mD r) (mD J))=true↔_;rw[AS,U];have:Da.eq (.s<|.int (x:Int)) (.s<|.int (y:Int))=true↔x=y:=by show decide ((x:Int)=(y:Int))=true↔_;rw[decide_eq_true_iff];lia
  rw[this];constructor
  .rintro⟨rfl,rfl⟩;rfl
  .intro e;injection e with g j;exact{(g),j}
def kQ(t:Tr):Da:=.lst [fP t.R,.lst<|mD t.E]
def uv{t:Tr}(I:L t.a=⇑[qx t.R,.ref t.b])(J:L t.b=⇑(jr t.E))(h:zq t.R<=n+1):j6 L (n+2) (.ref t.a) (kQ t):=
 cV I (.cons (fQ h)<|.cons (cV J<|Md _) .nil)
def Xc{t u:Tr}:Da.eq (kQ t) (kQ u)=true->t.E=u.E:=by intro h;have h:(Da.eq (fP t.R) (fP u.R)&&(Da.eqs (mD t.E) (mD u.E)&&true))=true:=h;rw[AS,AS] at h;exact(t7 _ _).j h.2.1
def Xd(t:Tr):Da.eq (kQ t) (kQ t)=true:=by show(Da.eq (fP t.R) (fP t.R)&&(Da.eqs (mD t.E) (mD t.E)&&true))=true;rw[cU,(t7 _ _).d rfl];rfl
def dZ.rd(h:dZ L0 L ka fa ks fo){t:Tr}(I:t∈fo):zq t.R<=ks.l:=by
 have h1:=kh t.R;have nd:(told t.R).c:=by obtain⟨a,b,rfl⟩:=Cm I;have:=h.nd;rw[AC,Bo,Aw,Aw] at this;exact this.2.1.1
 have:=da _ _ nd λx J=>(h.sr t I).lt x J;exact JO
def dZ.one(h:dZ L0 L ka fa ks fo){t u:Tr}(hi:fo[i]?=some t)(I:fo[j]?=some u)(e:t.E=u.E):i=j:=by
 by_cases c:i=j
 .exact c
 .exfalso;have s:=h.sr t<|AD hi;have l:=s.ends h.ok;obtain⟨x,J⟩:∃x,x∈t.E:=by cases g:t.E with|nil=>rw[g] at l;simp at l|cons x r=>exact{x,Ag ..}
  have o:=h.sr u<|AD I;have p:=vq hi;have U:u∈fo.n i:=by rw[List.mem_eraseIdx_iff_getElem?];exact{j,λz=>c z.L,I}
  obtain⟨a,b,C⟩:=Cm U;have nd:=(p.flatMap_right λt:Tr=>told t.R).nodup_iff.mp h.nd;rw[Bo,Aw] at nd;exact nd.2.2 x (s.sub x J) x (Bf.d {u,U,o.sub x<|e▸J}) rfl
theorem qD:∀w:Wd,w.turn.turn=w
 |.leaf t n=>by simp[Wd.turn]
 |.node e l r=>by simp[Wd.turn,qD l,qD r]
theorem qM:∀w:Wd,w.turn.J=w.J
 |.leaf t n=>rfl
 |.node e l r=>by simp[Wd.turn,Wd.depth,qM l,qM r]
def Fd(ks:On)(w:Wd)(rest:_M)(I J:Y):Prop:=(I=.GM/\J=.GM)\/∃(j:Nat) (u:Tr) (q:Nat),rest[j]?=some u/\q∈u.E/\f9 ks q w.turn/\I=.ref u.a/\J=.int (q:Int)
def Xe{g j:qm}{t1 u:Tr}{x:Nat}{w:Wd}(B:dZ L0 g ka fa ks<|t1::u::rest){fs:LO}(hf:g fa=some fs)(hx:x∈t1.E)(hq:q∈u.E)(o:f9 ks x w)(p:f9 ks q w.turn){U:Addr}(s:qh g j)(a1:g U=none)
 (he:j U=⇑(jr<|aJ t1.E u.E x q)) (I:j pa=none) (hR:R=.cu x q t1.R u.R\/R=.cu q x u.R t1.R):dZ L0 (qk j pa<|.lst [qx R,.ref U]) ka fa ks (rest++[{pa,U,R,aJ t1.E u.E x q}]):=by
 have t:=ku he I;have C:=B.sr t1 'r';have T:=B.sr u 'r';have J:∀z,z∈t1.E->z∈u.E->False:=λz h1 h2=>B.two z (C.sub z h1)<|T.sub z h2;have bm:=Ma (E1:=t1.E) (E2:=u.E) (λh=>J x hx h) λh=>J q h hq;have _G:=Mb (l:=x) (r:=q) C._G T._G J;have st:=dZ.put (M:=g) (L':=qk j pa<|.lst [qx R,.ref U]) (old:=[t1,u]) (ms:=[]) (R:=R) (E:=aJ t1.E u.E x q) (pa:=pa) (pb:=U) B (λ_ _ _ e=>e) ([AE]≈B.hk) hf (s.none I) a1 (AN t) (s.t<|By I) q9 ([qe t]≈he) ([AE]≈B.ok) ?_ ?_
 .rw[AE] at st;exact st
 .rw[AE];obtain rfl|rfl:=hR
  .exact .cu C T hx hq o p bm _G
  .exact .cu (w:=w.turn) T C hq hx p ([qD]≈o) (λz=>by rw[bm];exact Or.comm) _G
 .rcases hR with rfl|rfl
  .show(told t1.R++told u.R).C _;simp
  .show(told u.R++told t1.R).C _;simpa using BU
inductive CJ(L0:qm)(ka fa:Addr)(ks:On)(one two:Int)(t1:Tr)(x:Nat)(w:Wd)(n:Nat)(τ:jm)(L:qm):Prop
 |mk (ms:On) (u:Tr) (q:Nat) (rest:_M) (c9 c10 c11 c12:_C):τ=[↑ka,↑fa,some<|.int one,some<|.int two,some<|.ref t1.a,some<|.int (x:Int),some<|dP w,some<|.ref u.a,some<|.int q⁻¹,c9,c10,c11,c12,none]->dZ L0 L ka fa (ks++ms) (t1::u::rest)->L fa=⇑(x5 rest)->q∈u.E->f9 (ks++ms) q w.turn->ms.length<=10->rest.length<=n->CJ L0 ka fa ks one two t1 x w n τ L
inductive oO(ys:_T)(L:qm)(Q:YK):Prop
 |mk:∀L0 ka fa ks fo,∀one two:Int,(ys=[.ref ka,.ref fa,.int one,.int two])->(uz L0 L ka fa ks fo)->(1<=fo.l)->(fo.l<=110)->(ks.l<=110)->(∀L' ir fo',uz L0 L' ka fa ir fo'->ir.length<=ks.l+10->1<=fo'.l->fo'.length<=fo.l->Q .GM L')->oO ys L Q
theorem Xf{FS MS:vh}(hF:∀ys L Q,ax 120 ys L Q->FS ys L Q)(hM:∀ys L Q,bH 5 ys L Q->MS ys L Q):_f oO (Xb (k8 120) FS (cY 120) MS) 14:=by
 rintro ys L Q ⟨L0,ka,fa,ks,fo,one,two,rfl,F,h1,c2,bp,q⟩;have big:=a_;have C:∀fo:_M,(x5 fo).l=fo.l:=λfo=>Ac ..;obtain⟨j1,U,bc,a1,a2,a3,g⟩:=Ix (k:=two) F.hf 'p';have l1:(fo.n j1).l+1=fo.l:=by have:=(vq bc).f;rw[AK] at this;lia
 refine qa F.hf (qa F.hf {(by rw[C];lia),qo F.hf {a1,a2,qg a3 ?_}});have B:=(F.b.perm<|vq bc).setF<|.lst<|(x5 fo).n (two % ((x5 fo).l:Int)).B;generalize qk L fa _=L1 at g B ⊢;generalize fo.n j1=rest at l1 g B;have m1:U∈U::rest:='r'
 obtain⟨a4,ac⟩:=B.ht U m1;have al:=cx B m1;have s1:=B.sr U m1;obtain⟨x,hx,ex⟩:=uH al.1<|two / 64;refine qa a4 {{∅,∅},qa a4 (qa ac {(by rw[Ac];omega),qa ac<|qg ex ?_})};obtain⟨w,hw,c4,bd⟩:=rO B.ok (x+1) x (B8 _)<|s1.lt x<|s1.sub x hx;have c5:=s1.lt x<|s1.sub x hx;refine{ka,x8 ks,x,w,rfl,B.hk,hw,'s',?_};refine qa g {{by exact Bb _,by rw[C];omega},?_};refine u8 (λi τ L'=>∃v7 v8 c9 T,τ=[↑ka,↑fa,some<|.int one,some<|.int two,some<|.ref U.a,some<|.int (x:Int),some<|dP w,some v7,some v8,c9,T,none,none,none]/\L'=L1/\Fd ks w rest v7 v8) {_,_,_,_,rfl,rfl,.inl {(rfl),rfl}} ?_ ?_
 .rintro i τ L' hi ⟨v7,v8,c9,T,rfl,rfl,fd⟩;have hi:i<rest.l:=by have:=hi;rw[C] at this;assumption
  obtain⟨u,hu⟩:∃u,rest[i]?=some u:={_,Ah hi};have mu:u∈U::rest:=Ae _<|AD hu;obtain⟨ua,ub⟩:=B.ht u mu;have ei:(x5 rest)[i]?=some (.ref u.a):=by unfold x5;rw[Al,hu];rfl
  have e0:(0:Int)+(i:Int)=i⁻¹:=by simp +arith only
  rw[e0];have bf:=jh ei;have le:=cx B mu;have su:=B.sr u mu;refine qa g<|qg bf<|qa ua ?_;refine Ut (ys:=jr u.E) (a8 ub) (λk τ ar=>∃v7 v8 T,τ=[↑ka,↑fa,some<|.int one,some<|.int two,some<|.ref U.a,some<|.int (x:Int),some<|dP w,some v7,some v8,some<|.int i⁻¹,T,none,none,none]/\ar=L'/\Fd ks w rest v7 v8) {_,_,_,rfl,rfl,fd} ?_ ?_ ?_
  .rintro k τ _ ⟨_,_,_,_,rfl,_⟩;rfl
  .rintro k y τ ar ey ⟨v7,v8,T,rfl,rfl,fd⟩;obtain⟨z,ez,rfl⟩:∃z:Nat,u.E[k]?=some z/\y=Y.int (z:Int):=by rw[Al] at ey;obtain⟨z,e1,e2⟩:=Au.j ey;exact{(z),e1,e2.L}
   have hz:=AD ez;rcases fd with⟨rfl,rfl⟩|⟨j,t,q0,h1,h2,h3,rfl,rfl⟩
   .have bq:=su.lt z<|su.sub z hz;obtain⟨v,hv,c6,c3⟩:=rO B.ok (z+1) z (B8 _) bq;refine{ka,x8 ks,z,v,rfl,B.hk,hv,'s',hF _ _ _ {w,rfl,'s',?_}};refine oZ (u:=v) (v:=w.turn) 's' ?_;refine TF (λc=>?_) λc=>?_
    .have hh:=Mc _ _ c;refine qa g<|qg bf ?_;refine{_,ET _,?_};exact{_,_,_,rfl,rfl,.inr {i,u,z,hu,hz,hh▸hv,rfl,rfl}}
    .refine{_,ET _,?_};exact{_,_,_,rfl,rfl,.inl {(rfl),rfl}}
   .refine{_,ET _,?_};exact{_,_,_,rfl,rfl,.inr {(j),t,q0,h1,h2,h3,rfl,rfl}}
  .rintro τ ar ⟨v7,v8,T,rfl,rfl,fd⟩;refine{_,ET _,?_};exact{_,_,_,_,rfl,rfl,fd}
 .rintro τ L' ⟨v7,v8,c9,T,rfl,rfl,fd⟩;rcases fd with⟨rfl,rfl⟩|⟨j,u,q0,hj,au,av,rfl,rfl⟩
  case' inl=>
   refine{w,rfl,'s',?_};refine qr (λc=>?_) λc=>?_
   case' refine_1=>
    refine qa g (qo g {big _ (by rw[C];lia),?_});rw[<-ie];exact jj (q _ ks (rest++[U]) {(B.perm (Cv _ _).L).setF _,q9} (Bd _ _) 'r' (by rw[Ab];simp;exact zR))
   case' refine_2=>
    refine{CJ L0 ka fa ks one two U x w rest.l,?_,?_}
    .refine hM _ _ _ {ka,ks,w,rfl,B.hk,(by have h1:=w._F;have h2:=w.size_eq;lia),∅,bd,B.ok,'s',λms R tp sp p hp a5=>?_};refine qo q9 ?_;intro pb aL pa I;have ba:qk L' ka (.lst<|x8<|ks++ms) p=none:=by rw[qe<|AN<|ku B.hk hp];exact hp
     have bg:=ku q9 I;have nb:=(By ba).none aL;have na:=((By ba).t<|By aL).none I;have bh:qk L' ka (.lst<|x8<|ks++ms) fa=⇑(x5 rest):=by rw[qe<|AN B.nkf];exact g
     generalize hL:qk (qk (qk _ p _) pb _) pa _=LF;have sA:qh (qk L' ka<|.lst<|x8<|ks++ms) LF:=by rw[<-hL];exact((By ba).t<|By aL).t (By I)
     have ea:LF pa=⇑[qx R,.ref pb]:=by rw[<-hL];exact q9
     have eb:LF pb=⇑(jr [tp,sp]):=by rw[<-hL,qe bg];exact q9
     refine{ms,{pa,pb,R,[tp,sp]},tp,rest,_,_,_,_,rfl,?_,sA _ _ bh,Ag ..,a5.wt,by have:=a5.len;lia,Ap _};have st:=dZ.put (old:=[]) B (λz o n e=>(qe n).t e) q9 bh na nb (AN bg) sA ea eb a5.ok a5.sr ([C4,AE]≈((AU a5.nd En).d λz=>by rw[a5.tm,Dy]));exact st.perm<|(Cv _ _).t<|List.Perm.swap _ _ _
  case' inr=>
   refine{CJ L0 ka fa ks one two U x w rest.l,?_,?_}
   .refine qa g<|qo g {rest.y kQ,kQ u,120,120,j,∅,?_,?_,?_,{kQ u,?_,Xd u},λk d hk ek=>?_,?_}
    .have dd:∀l:_M,(∀t∈l,t∈U::rest)->Paired (j6 L' 120) (x5 l) (l.y kQ):=λl=>by
      induction l with
      |nil=>intro _;exact .nil
      |cons t r ih=>
       intro h;have mt:=h t<|Ag ..;obtain⟨h1,h2⟩:=B.ht t mt;have:=B.rd mt;exact .cons (uv (n:=118) h1 h2 's')<|ih λt ht=>h t<|Ae _ ht
     exact dd rest λt ht=>Ae _ ht
    .have mt:u∈U::rest:=Ae _<|AD hj;obtain⟨h1,h2⟩:=B.ht u mt;have:=B.rd mt;exact uv (n:=118) h1 h2 'm'
    .rw[Ac];exact(A3.j hj).1
    .rw[Al,hj];rfl
    .rw[Al] at ek;obtain⟨v,ev,rfl⟩:=Au.j ek;cases c:Da.eq (kQ v) (kQ u) with
     |false=>rfl
     |true=>
      have:=B.one (i:=k+1) (j:=j+1) (~~~ev) (~~~hj)<|Xc c;lia
    .rw[qV];have B2:=(B.perm<|(vq hj).cons _).setF<|.lst<|x5<|rest.eraseIdx j;exact{[],u,q0,rest.n j,_,_,_,_,rfl,(AE ks).L▸B2,q9,au,(AE ks).L▸av,A7 _,Do ..}
  all_goals
   rintro c7 L' ⟨ms,u,q0,J,c9,T,c8,cc,rfl,B',hf,au,av,ck,cm⟩;have m1:U∈U::u::J:='r'
   have m2:u∈U::u::J:='r'
   obtain⟨a4,ac⟩:=B'.ht U m1;obtain⟨bb,br⟩:=B'.ht u m2;have al:=cx B' m1;have c0:=cx B' m2;rw[Ab] at al c0;refine qa a4 (qa bb {_,_,ac,br,small (by rw[Ac,Ac];omega),λpp bi=>?_});rw[<-mI];refine L9 (E:=U.E++u.E) (l:=x) (r:=q0) (k:=14) q9 (by rw[Ab];omega) (λy' Q' h=>h) (λ_=>rfl) λpe bj=>?_;have bn:=(By bi).none bj;generalize hL:qk (qk L' pp _) pe _=L4;have s4:qh L' L4:=by rw[<-hL];exact(By bi).t (By bj)
   have c1:L4 pe=⇑(jr<|aJ U.E u.E x q0):=by rw[<-hL];exact q9
   have done:∀(R:Ru) pa,L4 pa=none->(R=.cu x q0 U.R u.R\/R=.cu q0 x u.R U.R)->Q .GM (qk (qk L4 pa<|.lst [qx R,.ref pe]) fa<|.lst<|x5 J++[.ref pa]):=λR pa I hR=>by rw[<-ie J ⟨pa,pe,R,aJ U.E u.E x q0⟩];exact q _ (ks++ms) (J++[{pa,pe,R,aJ U.E u.E x q0}]) {(Xe B' hf hx au (hw.more ms) av s4 bn c1 I hR).setF _,q9} (by rw[Ab];omega) 'r' (by rw[Ab];simp;omega)
   refine{(by show(0:Int)<2;decide),?_};refine qr (λc=>?_) λc=>?_
   .refine qa (s4 _ _ hf)<|qa (s4 _ _ a4)<|qa (s4 _ _ bb) λpa I=>?_;refine qo (By I _ _<|s4 _ _ hf) {big _ (by rw[C];omega),?_};exact jj<|done _ pa I<|.inl rfl
   .refine qa (s4 _ _ hf)<|qa (s4 _ _ bb)<|qa (s4 _ _ a4) λpa I=>?_;refine qo (By I _ _<|s4 _ _ hf) {big _ (by rw[C];omega),?_};exact jj<|done _ pa I<|.inr rfl
theorem uz.mono(h:uz L0 L ka fa ks fo)(s:qh L L'):uz L0 L' ka fa ks fo:={h.b.mono s,s _ _ h.hf}
def dZ.plus{I:qm}{t':Tr}{fs:LO}(B:dZ L0 L ka fa ks rest)(j:L fa=some fs)(sA:qh (qk L ka<|.lst<|x8<|ks++ms) I)(ea:I t'.a=⇑[qx t'.R,.ref t'.b])(eb:I t'.b=⇑(jr t'.E))
 (J:qk L ka (.lst<|x8<|ks++ms) t'.a=none) (U:qk L ka (.lst<|x8<|ks++ms) t'.b=none) (g:t'.a≠t'.b) (ok:eG<|ks++ms) (l:SR (ks++ms) t'.R t'.E) (p:∀x,x∈told t'.R↔ks.l<=x/\x<ks.l+ms.l) (nd:(told t'.R).c):
 dZ L0 I ka fa (ks++ms) (rest++[t']):=by
 exact dZ.put (old:=[]) B (λz o n e=>(qe n).t e) q9 ([qe<|AN B.nkf]≈j) J U g sA ea eb ok l ([C4,AE]≈((AU nd En).d λz=>by rw[p,Dy]))
theorem uz.link(F:uz L0 L ka fa ks fo){nm:Str}(j:fK nm)(b:Bool)(J:qk L ka (.lst<|x8<|ks++[.lf b nm,.lf (!b) nm]) pb=none)
 (U:qk (qk L ka<|.lst<|x8<|ks++[.lf b nm,.lf (!b) nm]) pb (.lst<|jr [ks.l,ks.l+1]) pa=none) {fs:_T} (g:fs=x5 fo++[.ref pa]):
 uz L0 (qk (qk (qk (qk L ka<|.lst<|x8<|ks++[.lf b nm,.lf (!b) nm]) pb<|.lst<|jr [ks.l,ks.l+1]) pa<|.lst [qx<|.link ks.l<|ks.length+1,.ref pb]) fa<|.lst fs) ka fa (ks++[.lf b nm,.lf (!b) nm]) (fo++[{pa,pb,.link ks.l<|ks.length+1,[ks.l,ks.l+1]}]):=by
 have I:=ku q9 U;have M:=wN F.b.ok (t:=!b) j;rw[Bool.not_not] at M;refine{(dZ.plus F.b F.hf ((By J).t<|By U) q9 ([qe I]≈q9) ((By J).none U) J (AN I) M.ok M.sr M.tm M.nd).setF _,?_};rw[q9,g];unfold x5;rw[Ax];rfl
def dZ.dats(h:dZ L0 L ka fa ks fo)(g:ks.l<=120):Paired (j6 L 124) (x5 fo) (fo.y kQ):=by
 have J:∀l:_M,(∀t∈l,t∈fo)->Paired (j6 L 124) (x5 l) (l.y kQ):=λl=>by
  induction l with
  |nil=>intro _;exact .nil
  |cons t r U=>
   intro k;have mt:=k t<|Ag ..;obtain⟨h1,h2⟩:=h.ht t mt;have:=h.rd mt;exact .cons (uv (n:=122) h1 h2 's')<|U λt I=>k t<|Ae _ I
 exact J fo λt I=>I
def Me(fo:_M):Da.eqs (fo.y kQ) []=decide (fo=[]):=by cases fo<;>rfl
inductive TW(L0:qm)(ka fa:Addr)(s:Int)(room b:Nat)(k:Nat->Prop)(τ:jm)(L:qm):Prop
 |mk (c0 c5 c6 c7 c8 c9 c10:_C) (ks:On) (fo:_M):τ=[c0,some<|.int s,some<|.int (room:Int),↑ka,↑fa,c5,c6,c7,c8,c9,c10]->uz L0 L ka fa ks fo->k fo.l->ks.length+fo.l<=b->TW L0 ka fa s room b k τ L
def TW.of{s:Int}{room:Nat}{J U g j l o I:_C}(F:uz L0 L ka fa ks fo)(h:ks.l+fo.l<=room):TW L0 ka fa s room room (λ_=>True) [J,some<|.int s,some<|.int (room:Int),↑ka,↑fa,U,g,j,l,o,I] L:={_,_,_,_,_,_,_,_,_,rfl,F,trivial,h}
def G5(p:aap):Int×Int:=((p.1:Int),(p.2:Int))
def hZ{p q:aap}(h:G5 p=G5 q):p=q:=by obtain⟨a,b⟩:=p;obtain⟨c,d⟩:=q;have h1:(a:Int)=c:=A8 Prod.fst h;have h2:(b:Int)=d:=A8 Prod.snd h;rw[A6.j h1,A6.j h2]
structure Mf(L0:qm)(ks:List<|GT)(qs:aah)(d w D:Addr)(i ex:Nat)(f:aao)(wd:List<|GT)(kvs:List<|jk×Y)(L:qm):Prop where
 sub:qh L0 L
 hd:L d=some (._c kvs)
 hw:L w=⇑(wm wd)
 hD:L D=⇑(nY qs)
 len:kvs.l<=i
 val:∀p:Nat,wo kvs (.inl (p:Int))=if p∈qs.u i then some (.int (f p:Int)) else none
 gap:Gap ks (qs.u i) f wd
 wlen:wd.l<=2*i+ex
structure Ren(f:aao)(ks wd:List<|GT):Prop where
 gap:Gap ks (List.range ks.l) f wd
 len:wd.l<=2*ks.l+1
def lH(wd:List<|GT)(k:GT):wm wd++[qG k]=wm (wd++[k]):=by unfold wm;rw[Ax];rfl
def iJ(wd:List<|GT):(wm wd).l=wd.l:=Ac ..
def jp:Ru->aae
 |.link p q=>[(p,q)]
 |.ei _ A=>jp A
 |.bo _ A B=>jp A++jp B
 |.cu _ _ A B=>jp A++jp B
def xd:Ru->aae
 |.link _ _=>[]
 |.ei _ A=>xd A
 |.bo _ A B=>xd A++xd B
 |.cu p q A B=>(p,q)::(xd A++xd B)
def aH:Ru->Nat
 |.link _ _=>1
 |.ei _ A=>aH A+1
 |.bo _ A B=>aH A+aH B+1
 |.cu _ _ A B=>aH A+aH B+1
def jd:Ru->List Ru
 |.link _ _=>[]
 |.ei _ A=>[A]
 |.bo _ A B=>[A,B]
 |.cu _ _ A B=>[A,B]
def wL:Ru->aae
 |.link p q=>[(p,q)]
 |_=>[]
def wO:Ru->aae
 |.cu p q _ _=>[(p,q)]
 |_=>[]
def zG(A:Ru):jp A=wL A++(jd A).h jp:=by cases A<;>simp[jp,wL,jd]
def Xg(A:Ru):xd A=wO A++(jd A).h xd:=by cases A<;>simp[xd,wO,jd]
def pI(A:Ru):((jd A).y aH).sum+1=aH A:=by cases A<;>simp[aH,jd]
def Xh(A:Ru):0<aH A:=by cases A<;>simp[aH]
def eY{A B:Ru}(h:B∈jd A):zq B<zq A:=by cases A<;>simp[jd] at h<;>(try obtain rfl|rfl:=h)<;>(try subst h)<;>simp[zq]<;>omega
structure nS(R:Ru)(lk ct:aad)(st:List Ru):Prop where
 pl:(lk++st.h jp).C (jp R)
 pc:(ct++st.h xd).C (xd R)
 sz:(st.y aH).sum<=aH R
 dp:∀A∈st,zq A<=zq R
def nS.start(R:Ru):nS R [] [] [R]:={'r','r','r',λA I=>by simp at I;subst I;exact Ap _}
def nS.step{A:Ru}{lk:aad}{st:List Ru}(h:nS R lk ct<|st++[A]):nS R (lk++wL A) (ct++wO A) (st++jd A):=by
 have pm:∀{X U V W:aad},(X++U++(V++W)).C (X++(V++(U++W))):=λ{X U V W}=>by rw[AB];refine List.Perm.append_left X ?_;rw[<-AB,<-AB];exact List.Perm.append_right W BU
 refine{?_,?_,?_,λB I=>?_}
 .refine List.Perm.trans ?_ h.pl;rw[AC,AC];have:[A].h jp=wL A++(jd A).h jp:=by rw[<-zG];simp
  rw[this];exact pm
 .refine List.Perm.trans ?_ h.pc;rw[AC,AC];have:[A].h xd=wO A++(jd A).h xd:=by rw[<-Xg];simp
  rw[this];exact pm
 .have:=h.sz;have:=pI A;simp at *;lia
 .rcases Am.j I with I|I
  .exact h.dp B<|An _ I
  .have:=eY I;have:=h.dp A<|Ai _<|Ak.mpr rfl;exact JO
def mC(l:aad)(p:aap):ao l++[G2 p]=ao (l++[p]):=by unfold ao;rw[Ax];rfl
def Xi(st:List Ru):Da.eqs (st.y fP) []=decide (st=[]):=by cases st<;>rfl
theorem iq{L:qm}{n:Nat}:∀{st:List Ru},(∀A∈st,zq A<=n)->Paired (j6 L n) (st.y qx) (st.y fP)
 |[],_=>.nil
 |A::r,h=>.cons (fQ<|h A<|Ag ..)<|iq λB I=>h B<|Ae _ I
def Xj(a b:Nat):decide ((a:Int)=(b:Int))=decide (a=b):=by
 by_cases c:a=b
 .rw[AJ c];exact AJ 's'
 .rw[Ay c];exact Ay 's'
open Classical in
def ur{b:Bool}{A B:Prop}(h1:b=true->A)(h2:b=false->B):fY b A B:=by cases b with|true=>exact h1 rfl|false=>exact h2 rfl
def KM(lk:aad):aah:=lk.h λx=>[x.1,x.2]
def bW(a b:aad):KM (a++b)=KM a++KM b:=by unfold KM;rw[AC]
def gG(x:aap):KM [x]=[x.1,x.2]:=by simp[KM]
def Xk(lk:aad):(KM lk).l=2*lk.l:=by
 induction lk with
 |nil=>rfl
 |cons x r I=>
  have:=bW [x] r;rw[DF] at this;rw[this,Ab,I,gG,AK];simp;exact Nat.add_comm _ _
def Mg:Kn->Da
 |.lf t n=>.tup [.s<|.str<|kL t,.s<|.str n]
 |.nd e i j=>.tup [.s<|.str<|kN e,.s<|.int i⁻¹,.s<|.int j⁻¹]
def Xl(k:Kn):j6 L 1 (aA k) (Mg k):=by cases k with|lf t n=>exact vv (.cons {(rfl),rfl}<|.cons {(rfl),rfl} .nil)|nd e i j=>exact vv<|.cons {(rfl),rfl}<|.cons {(rfl),rfl}<|.cons {(rfl),rfl} .nil
def Mh{f:GT->Bool}{ks:List<|GT}{k:GT}(h:ks[p]?=some k)(I:f k=true)(hi:p<i):p∈o_ f ks i:=by refine AW.d {Bg.d hi,?_};simp only[h];exact I
theorem m9{α β:Type}{R:α->β->Prop}:∀{xs:List α} {ys:List β} {x:α} {y:β},Paired R xs ys->R x y->Paired R (xs++[x]) (ys++[y])
 |_,_,_,_,.nil,r=>.cons r .nil
 |_,_,_,_,.cons a t,r=>.cons a<|m9 t r
def jW(m:Nat)(l:aah):rW (cT<|.int (m:Int)) ((nY l).y cT)=decide (m∈l):=by
 induction l with
 |nil=>rfl
 |cons n r I=>
  have e:rW (cT<|.int (m:Int)) ((nY<|n::r).y cT)=(iz (cT<|.int (n:Int)) (cT<|.int (m:Int))||rW (cT<|.int (m:Int)) ((nY r).y cT)):=rfl;rw[e,I];have J:iz (cT<|.int (n:Int)) (cT<|.int (m:Int))=decide (n=m):=Xj n m;rw[J];by_cases c:n=m
  .subst c;simp
  .by_cases d:m∈r
   .simp[d]
   .simp[c,d,AN c]
def uX(l:aah):(nY l).all gj=true:=by rw[BR];intro y I;obtain⟨n,_,rfl⟩:=AM.j I;rfl
def pN{c:aap}(h:c∈ct):c.1∈KM ct/\c.2∈KM ct:=by
 induction ct with
 |nil=>cases h
 |cons d r I=>
  have e:KM (d::r)=[d.1,d.2]++KM r:=by rw[<-gG,<-bW];rfl
  rw[e];obtain rfl|h:=Ao.j h
  .simp
  .obtain⟨a,b⟩:=I h;exact{Ai _ a,Ai _ b}
def Xm(x:aap):Da:=.tup [.s<|.int (x.1:Int),.s<|.int (x.2:Int)]
theorem oy{L:qm}:∀l:aae,Paired (j6 L 1) (ao l)<|l.map Xm
 |[]=>.nil
 |_::r=>.cons (vv<|.cons (EY _)<|.cons (EY _) .nil)<|oy r
def bL(c:aap)(r:aad):KM (c::r)=c.1::c.2::KM r:=by
 have e:KM (c::r)=[c.1,c.2]++KM r:=by rw[<-gG,<-bW];rfl
 rw[e];rfl
def Xn{l m:aad}(h:l.C m):(KM l).C (KM m):=by
 induction h with
 |nil=>exact .nil
 |cons x _ I=>rw[bL,bL];exact(I.cons _).cons _
 |swap x y l=>
  rw[bL,bL,bL,bL];exact(BU (l₁:=[y.1,y.2]) (l₂:=[x.1,x.2])).append_right (KM l)
 |trans _ _ h1 h2=>exact h1.t h2
theorem aS:∀R:Ru,aH R+1<=(told R).l
 |.link _ _=>Ap _
 |.ei r A=>by have:=aS A;show aH A+1+1<=(r::told A).l;rw[AK];exact HB
 |.bo r A B=>by have:=aS A;have:=aS B;show aH A+aH B+1+1<=(r::(told A++told B)).l;rw[AK,Ab];lia
 |.cu _ _ A B=>by have:=aS A;have:=aS B;show aH A+aH B+1+1<=(told A++told B).l;rw[Ab];lia
def Xo(ok:eG ks):D_ (ks.y some):=by intro p e i j h;rw[Al] at h;obtain⟨k,I,J⟩:=Au.j h;cases J;exact ok p _ I
def v9(ks:On):wm (ks.y some)=x8 ks:=by show(ks.y some).y qG=ks.y aA;rw[BI];rfl
def KW.lf{n:Str}(h:wd[p]?=some (some<|.lf t n)):KW (wm wd) p (.leaf t n):=by show(wm wd)[p]?=_;rw[Al,h];rfl
def KW.nd{e:Bool}{l r:Wd}(h:wd[p]?=some (some<|.nd e i j))(I:KW (wm wd) i l)(J:KW (wm wd) j r):KW (wm wd) p (.node e l r):=
 ⟨i,j,by rw[Al,h];rfl,I,J⟩
def Xp{k:Kn}{n:Str}(h:aA k=.tup [.str<|kL t,.str n]):k=.lf t n:=by
 cases k with
 |lf u m=>
  have h1:kL u=kL t:=by injection h with h;injection h with h _;injection h
  have h2:m=n:=by injection h with h;injection h with _ h;injection h with h _;injection h
  subst h2;cases u<;>cases t<;>first|rfl|(exfalso;revert h1;decide)
 |nd e i j=>injection h with h;injection h with _ h;injection h with _ h;cases h
def Xq{k:Kn}{e:Bool}(h:aA k=.tup [.str<|kN e,.int (i:Int),.int (j:Int)]):k=.nd e i j:=by
 cases k with
 |lf u m=>injection h with h;injection h with _ h;injection h with _ h;cases h
 |nd b I J=>
  have h1:kN b=kN e:=by injection h with h;injection h with h _;injection h
  have h2:I⁻¹=i:=by injection h with h;injection h with _ h;injection h with h _;injection h
  have h3:J⁻¹=j:=by injection h with h;injection h with _ h;injection h with _ h;injection h with h _;injection h
  have h2:=A6.j h2;have h3:=A6.j h3;subst h2 h3;cases b<;>cases e<;>first|rfl|(exfalso;revert h1;decide)
def Mi(h:(wm wd)[p]?=some y):∃o,wd[p]?=some o/\qG o=y:=by rw[Al] at h;obtain⟨o,a,b⟩:=Au.j h;exact{(o),a,b}
def KW.SZ{n:Str}(h:KW (wm wd) p<|.leaf t n):wd[p]?=some (some<|.lf t n):=by
 obtain⟨o,a,b⟩:=Mi<|show(wm wd)[p]?=some (.tup [.str<|kL t,.str n]) from h;cases o with
 |none=>cases b
 |some k=>rw[a,Xp b]
def KW.SC{e:Bool}{l r:Wd}(h:KW (wm wd) p<|.node e l r):∃i j,wd[p]?=some (some<|.nd e i j)/\KW (wm wd) i l/\KW (wm wd) j r:=by
 obtain⟨i,j,h1,h2,h3⟩:=h;obtain⟨o,a,b⟩:=Mi h1;cases o with
 |none=>cases b
 |some k=>exact{i,j,by rw[a,Xq b],h2,h3}
def Xr(wd:List<|GT):Prop:=∀(p:Nat) (e:Bool) (i j:Nat),wd[p]?=some (some<|.nd e i j)->(∃k,wd[i]?=some (some k))/\∃k,wd[j]?=some (some k)
def Ren.inv{f:aao}(r:Ren f eW wd){x:Nat}{k:Kn}(h:wd[x]?=some (some k)):∃p,p<eW.l/\x=f p/\∃o,eW[p]?=some o/\og f o=some k:=by obtain⟨p,I,e⟩:=r.gap.only x k h;have I:=Bg.j I;have:=r.gap.at_ p (Bg.d I) _<|Ah I;rw[<-e,h] at this;exact{p,I,e,_,Ah I,(AV this).L}
theorem Ren.word{f:aao}(r:Ren f eW wd):∀{w:Wd} {p:Nat},KW (wm eW) p w->KW (wm wd) (f p) w
 |.leaf t n,p,h=>by have e:=h.SZ;exact KW.lf<|r.gap.at_ p (Bg.d<|zy e) _ e
 |.node b l rr,p,h=>by obtain⟨i,j,e,I,J⟩:=h.SC;exact KW.nd (r.gap.at_ p (Bg.d<|zy e) _ e) (r.word I)<|r.word J
def qY(I:vh):RD "parts_in" rA 2 ["knots","parts","knot"] (λV=>GS V I):={_,λV B c _ _ _ _ _ _ _ J hN U=>(qb (S_ 1 hN<|zd vj)<|qb (aB yp rfl (xz<|qv 0) (G_ 2 hN)<|qd<|zb<|cR (qv 1)<|jz<|C_ c J<|jz<|qv 2)<|qd<|qt<|qv 1)}
def kq(wd:List<|GT):aah:=wd.h jq
def qJ(wd:List<|GT)(k:GT):kq (wd++[k])=kq wd++jq k:=by unfold kq;rw[AC,Bo,C4,AE]
def zN(k:GT):(jq k).l<=2:=by cases k with|none=>exact A7 _|some k=>cases k with|lf t n=>exact A7 _|nd e i j=>exact Ap _
def tQ(wd:List<|GT):(kq wd).l<=2*wd.l:=by
 induction wd with
 |nil=>exact Ap _
 |cons k r I=>
  have e:kq (k::r)=jq k++kq r:=Bo ..;have:=zN k;rw[e,Ab,AK];lia
def oW(wd:List<|GT)(p:Nat):Bool:=match wd[p]? with
 |some (some _)=>true
 |_=>false
def oj(wd:List<|GT)(us:aah)(p:Nat):Bool:=oW wd p&&!(decide<|p∈us)
def cI(wd:List<|GT)(us:aah)(i:Nat):aah:=(List.range i).S<|oj wd us
def rE(wd:List<|GT)(us:aah)(i:Nat):cI wd us (i+1)=cI wd us i++if oj wd us i=true then [i] else []:=by unfold cI;rw[Dk,Cu];congr 1;rw[B9,DN]
def bR(wd:List<|GT)(ct:aad):aah:=kq wd++KM ct
def rR(ks:On)(l:aah):aah:=l.h λp=>jq ks[p]?
def jF(ks:On)(a b:aah):rR ks (a++b)=rR ks a++rR ks b:=by unfold rR;rw[AC]
def eJ(ks:On)(x:Nat)(l:aah):rR ks (x::l)=jq ks[x]?++rR ks l:=Bo ..
def eE{E:aah}(h:E.c)(hi:i∈E):E.C ([i]++E.S λx=>!decide (x=i)):=by
 refine(AU h ?_).d λx=>?_
 .refine AA.d {λz=>?_,h.S _};have:=(AW.j z).2;simp at this
 .rw[Am,Ak,AW];constructor
  .intro I;by_cases c:x=i
   .exact .inl c
   .exact .inr {I,by simp[c]}
  .rintro(rfl|I)
   .exact hi
   .exact I.1
def SR.part{E:aah}(h:SR ks R E):(told R).c->(rR ks (told R)++(KM (xd R)++E)).C (told R):=by
 induction h with
 |@link p q t n U h1 h2 h3 l o=>
  intro _;have e:rR ks [p,q]=[]:=by rw[eJ,eJ,h2,h3];rfl
  show(rR ks [p,q]++([]++U)).C [p,q];rw[e,Cy,Cy];refine(AU o 'l').d λx=>?_;rw[l x];simp
 |@ei r i j A C U h1 T h3 l o h6 h7 ih=>
  intro nd;obtain⟨n1,n2⟩:=AA.j nd;have ih:=ih n2;have g:=(Aw.j (Aw.j<|ih.nodup_iff.mpr n2).2.1).2.1;have p1:=eE g h3;have p2:(C.S λx=>!decide (x=i)).C _:=eE (g.S _) (i:=j) (AW.d {l,by simp;exact AN o});have p3:U.C ([r]++(C.S λx=>!decide (x=i)).S λx=>!decide (x=j)):=by
   refine(AU h7<|AA.mpr {λz=>n1<|T.sub _ (AW.j (AW.j z).1).1,(g.S _).S _}).d λx=>?_;rw[h6 x,Ao,AW,AW];simp only[Ds,decide_eq_false_iff_not];constructor
   .rintro(⟨a,b,c⟩|rfl)
    .exact .inr {{(a),b},c}
    .exact .inl rfl
   .rintro(rfl|⟨⟨a,b⟩,c⟩)
    .exact .inr rfl
    .exact .inl {(a),b,c}
  show(rR ks (r::told A)++(KM (xd A)++U)).C ([r]++told A);rw[eJ,h1];show((([i]++[j])++rR ks (told A))++(KM (xd A)++U)).C _;refine B4.d λa=>?_;have c1:=p1.count_eq a;have c2:=p2.count_eq a;have c3:=p3.count_eq a;have c4:=ih.count_eq a;simp only[CD] at c1 c2 c3 c4 ⊢;lia
 |@bo r i j A B C EB U h1 T hB l o h6 h7 I J=>
  intro nd;obtain⟨n1,n2⟩:=AA.j nd;obtain⟨m1,m2,m3⟩:=Aw.j n2;have I:=I m1;have J:=J m2;have g:=(Aw.j (Aw.j<|I.nodup_iff.mpr m1).2.1).2.1;have nB:=(Aw.j (Aw.j<|J.nodup_iff.mpr m2).2.1).2.1;have p1:=eE g l;have p2:=eE nB o;have p3:U.C ([r]++((C.S λx=>!decide (x=i))++EB.S λx=>!decide (x=j))):=by
   refine(AU h7<|AA.mpr {λz=>n1 ?_,Aw.d {g.S _,nB.S _,λa ha b hb=>m3 a (T.sub _ (AW.j ha).1) b<|hB.sub _ (AW.j hb).1}}).d λx=>?_
   .rcases Am.j z with z|z
    .exact An _<|T.sub _ (AW.j z).1
    .exact Ai _<|hB.sub _ (AW.j z).1
   .rw[h6 x,Ao,Am,AW,AW];simp only[Ds,decide_eq_false_iff_not];constructor
    .rintro(a|a|rfl)
     .exact .inr<|.inl a
     .exact .inr<|.inr a
     .exact .inl rfl
    .rintro(rfl|a|a)
     .exact .inr<|.inr rfl
     .exact .inl a
     .exact .inr<|.inl a
  show(rR ks (r::(told A++told B))++(KM (xd A++xd B)++U)).C ([r]++(told A++told B));rw[eJ,h1,jF,bW];show((([i]++[j])++(rR ks (told A)++rR ks (told B)))++((KM (xd A)++KM (xd B))++U)).C _;refine B4.d λa=>?_;have c1:=p1.count_eq a;have c2:=p2.count_eq a;have c3:=p3.count_eq a;have c4:=I.count_eq a;have c5:=J.count_eq a;simp only[CD] at c1 c2 c3 c4 c5 ⊢;lia
 |@cu p q A B C EB U w T hB h3 l o h6 h7 h8 I J=>
  intro n2;obtain⟨m1,m2,m3⟩:=Aw.j<|show(told A++told B).c from n2;have I:=I m1;have J:=J m2;have g:=(Aw.j (Aw.j<|I.nodup_iff.mpr m1).2.1).2.1;have nB:=(Aw.j (Aw.j<|J.nodup_iff.mpr m2).2.1).2.1;have p1:=eE g h3;have p2:=eE nB l;have p3:U.C ((C.S λx=>!decide (x=p))++EB.S λx=>!decide (x=q)):=by refine(AU h8<|Aw.mpr {g.S _,nB.S _,λa ha b hb=>m3 a (T.sub _ (AW.j ha).1) b<|hB.sub _ (AW.j hb).1}).d λx=>?_;rw[h7 x,Am,AW,AW];simp only[Ds,decide_eq_false_iff_not]
  show(rR ks (told A++told B)++(KM ((p,q)::(xd A++xd B))++U)).C (told A++told B);rw[jF,bL,bW];show((rR ks (told A)++rR ks (told B))++(([p]++[q]++(KM (xd A)++KM (xd B)))++U)).C _;refine B4.d λa=>?_;have c1:=p1.count_eq a;have c2:=p2.count_eq a;have c3:=p3.count_eq a;have c4:=I.count_eq a;have c5:=J.count_eq a;simp only[CD] at c1 c2 c3 c4 c5 ⊢;lia
structure sG(wd:List<|GT):Prop where
 ne:∀(p:Nat) (e:Bool) (i j:Nat),wd[p]?=some (some<|.nd e i j)->i≠j
 un:∀(p q:Nat) (k l:Kn) (x:Nat),wd[p]?=some (some k)->wd[q]?=some (some l)->x∈jq (some k)->x∈jq (some l)->p=q
def iI{x:Nat}(h:x∈kq wd):∃(p:Nat) (k:Kn),wd[p]?=some (some k)/\x∈jq (some k):=by
 obtain⟨o,J,I⟩:=Bf.j h;obtain⟨p,e⟩:=DK J;cases o with
 |none=>cases I
 |some k=>exact{(p),k,e,I}
def eU{x:Nat}{k:Kn}(h:wd[p]?=some (some k))(I:x∈jq (some k)):x∈kq wd:=Bf.d {_,AD h,I}
theorem sG.nodup:∀{wd:List<|GT},sG wd->(kq wd).c
 |[],_=>CO
 |k::r,U=>by
  have e:kq (k::r)=jq k++kq r:=Bo ..;rw[e];refine Aw.d {?_,sG.nodup {λp e i j h=>U.ne (p+1) e i j h,λp q k l x h1 h2 h3 J=>Nat.succ.inj<|U.un (p+1) (q+1) k l x h1 h2 h3 J},λa I b g z=>?_}
  .cases k with
   |none=>exact CO
   |some k=>
    cases k with
    |lf t n=>exact CO
    |nd b i j=>
     have:=U.ne 0 b i j rfl;show [i,j].c;simp[this]
  .subst z;obtain⟨p,l,h1,h2⟩:=iI g;cases k with
   |none=>cases I
   |some k=>exact absurd (U.un 0 (p+1) k l a rfl h1 I h2) (Nat.succ_ne_zero p).L
theorem Ren.inj{f:aao}(r:Ren f eW wd){a b:Nat}(I:a<eW.l)(J:b<eW.l)(e:f a=f b):a=b:=r.gap.inj a (Bg.d I) b (Bg.d J) e
def FT:GT->Bool
 |some (.lf _ _)=>true
 |_=>false
def SR.SL{E:aah}(h:SR ks R E):(KM<|jp R).C ((told R).S λp=>FT ks[p]?):=by
 induction h with
 |@link p q t n U h1 h2 h3 g l=>
  show(KM [(p,q)]).C ([p,q].S λp=>FT ks[p]?);rw[gG,B9,B9,h2,h3];exact CN _
 |@ei r i j A o U h1 C h3 g l T h7 ih=>
  show(KM<|jp A).C ((r::told A).S λp=>FT ks[p]?);rw[B9,h1];exact ih
 |@bo r i j A B o EB U h1 C hB g l T h7 I J=>
  show(KM<|jp A++jp B).C ((r::(told A++told B)).S λp=>FT ks[p]?);rw[B9,h1,bW];rw[Cu];exact I.append J
 |@cu p q A B o EB U w C hB h3 g l T h7 h8 I J=>
  show(KM<|jp A++jp B).C ((told A++told B).S λp=>FT ks[p]?);rw[bW,Cu];exact I.append J
theorem lg{f:aao}:∀{l:aah},l.c->(∀a∈l,∀b∈l,f a=f b->a=b)->(l.y f).c
 |[],_,_=>CO
 |a::r,h,g=>by obtain⟨h1,h2⟩:=AA.j h;rw[AR,AA];refine{λz=>?_,lg h2 λx J y U=>g x (Ae _ J) y<|Ae _ U};obtain⟨b,I,e⟩:=AM.j z;exact h1<|g b (Ae _ I) a (Ag ..) e▸I
def iT(f:aao):Ru->Ru
 |.link p q=>.link (min (f p)<|f q)<|max (f p)<|f q
 |.ei r A=>.ei (f r)<|iT f A
 |.bo r A B=>.bo (f r) (iT f A)<|iT f B
 |.cu p q A B=>.cu (f p) (f q) (iT f A)<|iT f B
theorem cO(f:aao):∀R:Ru,(told<|iT f R).C<|(told R).y f
 |.link p q=>by
  show [min (f p)<|f q,max (f p)<|f q].C [f p,f q];by_cases h:f p<=f q
  .rw[CU h,DH h]
  .rw[Nat.min_eq_right 's',DM 's'];exact List.Perm.swap _ _ _
 |.ei r A=>(cO f A).cons _
 |.bo r A B=>by show(f r::(told (iT f A)++told (iT f B))).C (f r::(told A++told B).y f);rw[Ax];exact((cO f A).append<|cO f B).cons _
 |.cu p q A B=>by show(told (iT f A)++told (iT f B)).C ((told A++told B).y f);rw[Ax];exact(cO f A).append (cO f B)
def wx{x:Nat}{k:Kn}(h:(ks.y some)[x]?=some (some k)):ks[x]?=some k:=by rw[Al] at h;obtain⟨I,e,z⟩:=Au.j h;cases z;exact e
def SR.ren{f:aao}(r:Ren f (ks.y some)<|ir.map some){E:aah}(h:SR ks R E):SR ir (iT f R) (E.y f):=by
 have inj:∀{a b:Nat},a<ks.l->b<ks.l->f a=f b->a=b:=λha hb e=>r.inj ([Ac]≈ha) ([Ac]≈hb) e;have at_:∀{p:Nat} {k:Kn},ks[p]?=some k->(ir.y some)[f p]?=some (og f<|some k):=λ{p k} e=>r.gap.at_ p (Bg.d ([Ac]≈zy e)) _ (by rw[Al,e];rfl)
 have lf:∀{p:Nat} {t:Bool} {n:Str},ks[p]?=some (.lf t n)->ir[f p]?=some (.lf t n):=λe=>wx<|at_ e;have nd:∀{p i j:Nat} {e:Bool},ks[p]?=some (.nd e i j)->ir[f p]?=some (.nd e (f i)<|f j):=λe=>wx<|at_ e;have el:∀{A:Ru} {U:aah},SR ks A U->∀x∈U,x<ks.l:=λs x g=>s.lt x<|s.sub x g;have _G:∀{A:Ru} {U:aah},SR ks A U->(U.y f).c:=λs=>lg s._G λa ha b hb=>inj (el s a ha)<|el s b hb;have wd:∀{p:Nat} {w:Wd},f9 ks p w->f9 ir (f p) w:=λ{p w} hw=>by have:=r.word (w:=w) (p:=p) ([v9]≈hw);rw[v9] at this;exact this
 have rm:∀{A:Ru} {U:aah} {i y:Nat},SR ks A U->i∈U->y∈U->y≠i->f y≠f i:=λs hi C ne z=>ne<|inj (el s _ C) (el s _ hi) z
 induction h with
 |@link p q t n E h1 h2 h3 I l=>
  have s:SR ks (.link p q) E:=.link h1 h2 h3 I l;have ne:f p≠f q:=λz=>by have:=inj (zy h2) (zy h3) z;lia
  have me:∀x,x∈E.y f↔x=f p\/x=f q:=λx=>by
   rw[AM];constructor
   .rintro⟨y,C,rfl⟩;obtain rfl|rfl:=(I y).j C
    .exact .inl rfl
    .exact .inr rfl
   .rintro(rfl|rfl)
    .exact{p,(I p).d<|.inl rfl,rfl}
    .exact{q,(I q).d<|.inr rfl,rfl}
  show SR ir (.link (min (f p)<|f q)<|max (f p)<|f q) _;by_cases c:f p<=f q
  .rw[CU c,DH c];exact .link 's' (lf h2) (lf h3) me<|_G s
  .rw[Nat.min_eq_right 's',DM 's'];exact .link 's' (lf h3) ([Bool.not_not]≈lf h2) (λx=>(me x).t Or.comm)<|_G s
 |@ei r i j A U E h1 o h3 I l J T ih=>
  have s:SR ks (.ei r A) E:=.ei h1 o h3 I l J T;refine .ei (nd h1) ih (AM.d {(i),h3,rfl}) (AM.d {(j),I,rfl}) (rm o I h3 l) (λx=>?_)<|_G s;rw[AM];constructor
  .rintro⟨y,C,rfl⟩;rcases (J y).j C with⟨a,b,c⟩|rfl
   .exact .inl {AM.d {(y),a,rfl},rm o h3 a b,rm o I a c}
   .exact .inr rfl
  .rintro(⟨g,b,c⟩|rfl)
   .obtain⟨y,a,rfl⟩:=AM.j g;exact{y,(J y).d<|.inl {a,λz=>b (by rw[z]),λz=>c (by rw[z])},rfl}
   .exact{r,(J r).d<|.inr rfl,rfl}
 |@bo r i j A B U EB E h1 o hB I l J T a1 a2=>
  have s:SR ks (.bo r A B) E:=.bo h1 o hB I l J T;refine .bo (nd h1) a1 a2 (AM.d {(i),I,rfl}) (AM.d {(j),l,rfl}) (λx=>?_)<|_G s;rw[AM];constructor
  .rintro⟨y,C,rfl⟩;rcases (J y).j C with⟨a,b⟩|⟨a,b⟩|rfl
   .exact .inl {AM.d {(y),a,rfl},rm o I a b}
   .exact .inr<|.inl {AM.d {(y),a,rfl},rm hB l a b}
   .exact .inr<|.inr rfl
  .rintro(⟨g,b⟩|⟨g,b⟩|rfl)
   .obtain⟨y,a,rfl⟩:=AM.j g;exact{y,(J y).d<|.inl {a,λz=>b (by rw[z])},rfl}
   .obtain⟨y,a,rfl⟩:=AM.j g;exact{y,(J y).d<|.inr<|.inl {a,λz=>b (by rw[z])},rfl}
   .exact{r,(J r).d<|.inr<|.inr rfl,rfl}
 |@cu p q A B U EB E w o hB h3 I l J T h8 a1 a2=>
  have s:SR ks (.cu p q A B) E:=.cu o hB h3 I l J T h8;refine .cu a1 a2 (AM.d {(p),h3,rfl}) (AM.d {(q),I,rfl}) (wd l) (wd J) (λx=>?_)<|_G s;rw[AM];constructor
  .rintro⟨y,C,rfl⟩;rcases (T y).j C with⟨a,b⟩|⟨a,b⟩
   .exact .inl {AM.d {(y),a,rfl},rm o h3 a b}
   .exact .inr {AM.d {(y),a,rfl},rm hB I a b}
  .rintro(⟨g,b⟩|⟨g,b⟩)
   .obtain⟨y,a,rfl⟩:=AM.j g;exact{y,(T y).d<|.inl {a,λz=>b (by rw[z])},rfl}
   .obtain⟨y,a,rfl⟩:=AM.j g;exact{y,(T y).d<|.inr {a,λz=>b (by rw[z])},rfl}
def Xs{f:aao}(ok:eG ks)(r:Ren f (ks.y some)<|ir.map some):eG ir:=λp k e=>by
 have J:(ir.y some)[p]?=some (some k):=by rw[Al,e];rfl
 obtain⟨y,g,rfl,o,U,I⟩:=r.inv J;cases k with
 |nd b i j=>exact r.gap.ok _ b i j J
 |lf t n=>
  cases o with
  |none=>cases I
  |some o=>
   cases o with
   |nd b i j=>cases I
   |lf l C=>
    cases I;exact ok y _<|wx U
structure nR(ks:On)(R:Ru)(E:aah):Prop where
 ok:eG ks
 sr:SR ks R E
 nd:(told R).c
 len:ks.l<=96
theorem nR.ren{f:aao}{E:aah}(ok:eG ks)(I:SR ks R E)(tp:(told R).C<|List.range ks.l)(j:ks.l<=96)(r:Ren f (ks.y some)<|ir.map some)(l:ir.l=ks.l):nR ir (iT f R) (E.y f)/\(told<|iT f R).C (List.range ir.l):=by have S:=I.ren r;have nd:=(cO f R).nodup_iff.mpr (lg (tp.nodup_iff.d Ct) λa U b g e=>r.inj ([Ac]≈I.lt a U) ([Ac]≈I.lt b g) e);refine{{Xs ok r,S,nd,'s'},(AU nd Ct).d λx=>{λh=>Bg.mpr<|S.lt x h,λh=>?_}};have h:=Bg.j h;obtain⟨y,J,e⟩:=r.gap.only x ir[x] (by rw[Al,Ah h];rfl);rw[Ac] at J;exact(cO f R).mem_iff.mpr (AM.d {y,tp.mem_iff.d J,e.L})
def fw:Ru->aah
 |.link p q=>[p,q]
 |.ei r _=>[r]
 |.bo r _ _=>[r]
 |.cu _ _ _ _=>[]
def sF(A:Ru):told A=fw A++(jd A).h told:=by cases A<;>simp[told,fw,jd]
def ko:Ru->List Ru
 |.link p q=>[.link p q]
 |.ei r A=>.ei r A::ko A
 |.bo r A B=>.bo r A B::(ko A++ko B)
 |.cu p q A B=>.cu p q A B::(ko A++ko B)
def rJ(A:Ru):ko A=A::(jd A).h ko:=by cases A<;>simp[ko,jd]
theorem iN:∀A:Ru,(ko A).l=aH A
 |.link _ _=>rfl
 |.ei _ A=>by show(ko A).l+1=_;rw[iN A];rfl
 |.bo _ A B=>by show(ko A++ko B).l+1=_;rw[Ab,iN A,iN B];rfl
 |.cu _ _ A B=>by show(ko A++ko B).l+1=_;rw[Ab,iN A,iN B];rfl
def ag(ks:On):Ru->List (aah)
 |.link _ _=>[]
 |.ei r _=>[jq ks[r]?]
 |.bo r _ _=>(jq ks[r]?).y λx=>[x]
 |.cu p q _ _=>[[p],[q]]
def js(x:aah×aah):aah:=x.1.S λy=>!decide (y∈x.2)
def xc(ks:On):Ru->aah
 |.link p q=>[p,q]
 |.ei r A=>[r]++([xc ks A].zip [jq ks[r]?]).h js
 |.bo r A B=>[r]++([xc ks A,xc ks B].zip<|(jq ks[r]?).y λx=>[x]).h js
 |.cu p q A B=>[]++([xc ks A,xc ks B].zip [[p],[q]]).h js
def Xu(ks:On)(A:Ru):xc ks A=fw A++(((jd A).y<|xc ks).zip<|ag ks A).h js:=by cases A<;>rfl
def Xv(ks:On)(B:Ru)(t:aah):Prop:=∃I,SR ks B I/\∀x∈t,x∈I
def SR.arms{E:aah}(h:SR ks R E):Paired (Xv ks) (jd R) (ag ks R):=by
 cases h with
 |link=>exact .nil
 |@ei r i j A J _ h1 U h3 g=>
  show Paired _ [A] [jq ks[r]?];rw[h1];refine .cons {J,U,λx I=>?_} .nil;have I:=I;obtain rfl|I:=Ao.j I
  .exact h3
  .rw[Ak.j I];exact g
 |@bo r i j A B J l _ h1 U o g t=>
  show Paired _ [A,B] ((jq ks[r]?).y λx=>[x]);rw[h1];exact .cons {J,U,λx I=>by rw[Ak.j I];exact g} (.cons {l,o,λx I=>by rw[Ak.j I];exact t} .nil)
 |@cu p q A B J l _ w U o h3 g=>
  exact .cons {J,U,λx I=>by rw[Ak.j I];exact h3} (.cons {l,o,λx I=>by rw[Ak.j I];exact g} .nil)
def eh{F t:aah}{x:Nat}:x∈js (F,t)↔x∈F/\x∉t:=by unfold js;rw[AW];simp
def jI{F t:aah}(h:F.c):(js (F,t)).c:=h.S _
theorem Xw{E:aah}(h:SR ks R E):(told R).c->(xc ks R).C E:=by
 induction h with
 |@link p q t n E h1 h2 h3 T h5=>
  intro nd;exact(AU nd h5).d λx=>by rw[T];show x∈[p,q]↔_;simp
 |@ei r i j A l E h1 I h3 T h5 h6 o ih=>
  intro nd;obtain⟨n1,C⟩:=AA.j nd;have P:=ih C;have e:xc ks (.ei r A)=r::js (xc ks A,[i,j]):=by show [r]++([xc ks A].zip [jq ks[r]?]).h js=_;rw[h1];show r::(js (xc ks A,[i,j])++[])=_;rw[AE]
  rw[e];have m:∀x,x∈js (xc ks A,[i,j])↔x∈l/\x≠i/\x≠j:=λx=>by rw[eh,P.mem_iff];simp
  refine(AU (AA.d {λz=>n1<|I.sub r ((m r).j z).1,jI<|P.nodup_iff.mpr I._G}) o).d λx=>?_;rw[Ao,m,h6,Or.comm]
 |@bo r i j A B l EB E h1 I g T h5 h6 o J U=>
  intro nd;obtain⟨n1,C⟩:=AA.j nd;obtain⟨m1,m2,m3⟩:=Aw.j C;have P:=J m1;have Q:=U m2;have e:xc ks (.bo r A B)=r::(js (xc ks A,[i])++js (xc ks B,[j])):=by show [r]++([xc ks A,xc ks B].zip<|(jq ks[r]?).y λx=>[x]).h js=_;rw[h1];show r::(js (xc ks A,[i])++(js (xc ks B,[j])++[]))=_;rw[AE]
  rw[e];have a:∀x,x∈js (xc ks A,[i])↔x∈l/\x≠i:=λx=>by rw[eh,P.mem_iff];simp
  have b:∀x,x∈js (xc ks B,[j])↔x∈EB/\x≠j:=λx=>by rw[eh,Q.mem_iff];simp
  refine(AU (AA.d {λz=>n1 ?_,Aw.d {jI<|P.nodup_iff.mpr I._G,jI<|Q.nodup_iff.mpr g._G,λx hx y hy=>m3 x (I.sub x ((a x).j hx).1) y<|g.sub y ((b y).j hy).1}}) o).d λx=>?_
  .rcases Am.j z with z|z
   .exact An _<|I.sub r ((a r).j z).1
   .exact Ai _<|g.sub r ((b r).j z).1
  .rw[Ao,Am,a,b,h6,Or.comm,or_assoc]
 |@cu p q A B l EB E w I g h3 T h5 h6 o h8 J U=>
  intro C;obtain⟨m1,m2,m3⟩:=Aw.j<|show(told A++told B).c from C;have P:=J m1;have Q:=U m2;have e:xc ks (.cu p q A B)=js (xc ks A,[p])++js (xc ks B,[q]):=by show []++(js (xc ks A,[p])++(js (xc ks B,[q])++[]))=_;rw[AE,Cy]
  rw[e];have a:∀x,x∈js (xc ks A,[p])↔x∈l/\x≠p:=λx=>by rw[eh,P.mem_iff];simp
  have b:∀x,x∈js (xc ks B,[q])↔x∈EB/\x≠q:=λx=>by rw[eh,Q.mem_iff];simp
  refine(AU (Aw.d {jI<|P.nodup_iff.mpr I._G,jI<|Q.nodup_iff.mpr g._G,λx hx y hy=>m3 x (I.sub x ((a x).j hx).1) y<|g.sub y ((b y).j hy).1}) h8).d λx=>?_;rw[Am,a,b,o]
section
open PySem.W
section
variable {w:aat}
end
end
theorem rF:∀{ns:aal} {vs:aaf},zw (ns.y V.int) vs->IntsAre vs ns
 |[],_,.nil=>.nil
 |n::_,_,.cons ⟨t,e⟩ p=>by subst e;exact .cons n t<|rF p
def t8(ns:aal):Nat:=(firstMet (λi=>ns.getD i 0) ns.l).l
def Xx(X:Cx)(te:TE):TE:=λσ H Q=>te σ H λx H1=>∃(a:Addr) (ns:aal),x=.ref a/\bQ X.K H1 a (ns.y V.int)/\ns.l<=4000/\Q (.int (t8 ns:Nat)) H1
def Xy:bootBuiltins "set"=some (.type "set"):='z'
def Xz{te:TE}{pos ps:Pos}(hc:X.calm=true)(l:Gl X "len")(p:X.mg "len"=none)(r:Gl X "set")(C:X.mg "set"=none)(he:PE X e te)(h1:starEach [e] X.o=(false,eval e X.o)::starEach [] X.o:=by rfl):
 PE X (.Call (.Name "len" p1) [.Call (.Name "set" p2) [e] [] ps] [] pos) (Xx X te):=by
 intro J s σ H Q I h;refine wpAny_Call_Name_kw<|fS I l p yq ?_;refine callWith_builtin1 ?_ rfl rfl;refine At ?_;refine wpAny_Call_Name_kw<|fS I r C Xy ?_;refine callWith_type1 ?_ h1 rfl;rw[h1];refine At<|aY (he J s σ H _ I h) λu s1 ⟨x,H1,g,r1,q1⟩=>?_;obtain⟨a,ns,rfl,hq,hz,q⟩:=q1;cases (show u=Value.ref a from r1);obtain⟨U,T,pl,_⟩:=g.list hq;have ia:=rF T;have l1:ns.l=U.l:=by have:=T.l;rw[Ac] at this;exact this
 have sb:(4001:Nat)<scanBound:=∅
 refine EQ ?_;refine jv g.tk (call_set_list (g.ok.hd hc) pl.isList (ns:=ns) (~~~ia) (by rw[Av];lia) λh' tk hS hk ht=>?_);have sz:U.toArray.q=ns.l:=by rw[Av,l1]
 rw[sz] at hS;obtain⟨o,ho,hex,es,ep,t,hd,_,_,j,hf⟩:=hS.objOf;have I2:=g.kept (λb o e=>hk b o (xT e) e) ht;have le:t8 ns<=ns.l:=firstMet_length_le _ _;have j:es.q=t8 ns:=j;refine EQ (call_len_set (s:={s1 with heap:=h',toks:=tk}) ho hex hd hf (by rw[j];lia) ?_);rw[j];exact{.int (t8 ns:Nat),H1,I2.kept (λ_ _ e=>e)<|BZ _,{_,rfl},q}
theorem Mj{G:G3}{H:Hp}:∀{ns:aal} {xs:HT},xw G H (ns.y Y.int) xs->xs=ns.y V.int
 |[],_,h=>h
 |n::r,_,⟨x,I,e,J,s⟩=>by subst e;cases (show x=V.int n from J);rw[Mj s];rfl
def XA(ta:xq)(τ:jm)(L:qm)(Q:YK):Prop:=ta τ L λx L1=>match x with
 |.ref a=>fD L1 a λys=>∃ns:aal,ys=ns.y Y.int/\ns.l<=4000/\Q (.int (t8 ns:Nat)) L1
 |_=>False
def XB{pos ps:Pos}(hc:X.calm=true)(J:Gl X "len")(U:X.mg "len"=none)(g:Gl X "set")(j:X.mg "set"=none)(p:QE X e te)(h1:starEach [e] X.o=(false,eval e X.o)::starEach [] X.o:=by rfl):
 QE X (.Call (.Name "len" p1) [.Call (.Name "set" p2) [e] [] ps] [] pos) (XA te):=EW (Xz hc J U g j p h1) λσ H Q t L Q3 rs C z k=>
 ⟨t,L,_,rs,C,z,λv T y L1 t1 I l o=>by
  cases y with
  |ref a=>
   obtain⟨zs,e,ns,rfl,hz,z⟩:=v4 o;obtain⟨vs,e2,r⟩:=I a _ e;cases Mj r;exact{a,ns,l,FF e2,hz,k _ T _ L1 t1 I 'o' z}
  |_=>exact o.r⟩
def XC{ns:aal}(h:ns.c):t8 ns=ns.l:=by
 have key:∀i,i<=ns.l->PyProof.Rows.firstMet (λi=>ns.getD i 0) i=ns.u i:=by
  intro i
  induction i with
  |zero=>intro _;rfl
  |succ i g=>
   intro J;rw[Eg,g<|Nat.le_of_succ_le J];have e:=Ah J;have l:ns.getD i 0=ns[i]:=by rw[Bs,e];rfl
   rw[l,Bh,e,Option.toList_some];unfold PyProof.Rows.step_dedup;rw[Az];intro I;have I:ns[i]∈ns.u i:=by simpa using I
   obtain⟨j,o,U⟩:=BM I;rw[A2] at o;rw[BG] at U;have:=(List.getElem_inj h).j U;lia
 unfold t8;rw[key _<|Ap _,Bp]
def kD(I:vh):RD "holds_leaf" jX 1 ["knot"] (λV=>Gi V I):={_,λV B c _ _ _ _ _ _ _ J hN U=>(qd<|qt<|gg (oU<|qv 0)<|ig<|C_ c J<|jz<|qv 0)}
def nQ:RD "each_once" nL 0 ["places"] (λ_=>True):={_,λV B c _ _ _ _ _ _ _ J hN I=>(qd<|qt<|ak (sQ _ _ _ I) (XB rfl rfl B.ba rfl B.b_set<|qv 0) (L_ B.ba<|qv 0)<|vz _)}
def m7(J:vh)(I:vh):RD "parts_fit" nJ 2 ["knots","place","parts","fit"] (λV=>GS V J/\KU V I):={_,λV B c _ _ _ _ _ _ _ U hN g=>(qb (S_ 2 hN<|C_ c.1 U<|jz<|I_ (qv 0)<|qv 1)<|qb (S_ 3 hN<|kj GW rfl B.bi tf<|jz<|fq ["part"] (E4 'o') rfl (xz<|qv 2) (vL 4) (λ_ _ _ _=>gS) λ_ _ _ _=>(gg (vR qc<|xF HU (qv 4)<|xH oA<|qv 1)<|ig<|oU<|I_ (qv 0)<|qv 4))<|qd<|qt<|gg (qv 3)<|ig<|C_ c.2 U<|jz<|qv 2)}
def nX(I:vh):RD "are_knots" mW 3 ["knots","fit"] (λV=>KY V I):={_,λV B c _ _ _ _ _ _ _ J hN U=>(qb (S_ 1 hN<|kj GW rfl B.bi tf<|jz<|fq ["place"] (E4 'o') rfl (aM rfl B.bf<|jz<|L_ B.ba<|qv 0) (vL 2) (λ_ _ _ _=>gS) λ_ _ _ _=>(C_ c J<|vo (qv 0)<|qv 2))<|qd<|qt<|gg (qv 1)<|ig<|kj VC rfl B.b_any VD<|jz<|fq ["knot"] (E4 'o') rfl (xz<|qv 0) (vL 2) (λ_ _ _ _=>gS) λ_ _ _ _=>(oU<|qv 2))}
def kA(I:vh):RD "can_be_cut" jV 3 ["knots","place"] (λV=>KS V I):={_,λV B c _ _ _ _ _ _ _ J hN U=>(qd<|qt<|gg (vR qc<|xF HU (qv 1)<|xH oA<|L_ B.ba<|qv 0)<|gg (oU<|I_ (qv 0)<|qv 1)<|ig<|ak (pP _ _ _) (qv 1) (C_ c J<|jz<|qv 0) 'k')}
def yM(I:vh)(J:vh)(U:vh):RD "is_cut" vS 122 ["knots","p","q"] (λV=>K2 V I/\KQ V J/\Ig V U):={_,λV B c _ _ _ _ _ _ _ g hN j=>(qb (zc (mG<|bC<|bA (bv<|C_ c.1 g<|vo (qv 0)<|qv 1)<|wv<|bv<|C_ c.1 g<|vo (qv 0)<|qv 2) (qd<|qt aP) qy)<|qd<|qt<|ak (sQ _ _ _ j) (C_ c.2.1 g<|vo (qv 0)<|qv 2) (C_ c.2.2 g<|jz<|C_ c.2.1 g<|vo (qv 0)<|qv 1)<|vz _)}
def oC(l:aah):nY l=(l.y λn:Nat=>(n:Int)).y Y.int:=by unfold nY;rw[BI];rfl
def fJ{l:aah}(h:l.c):(l.y λn:Nat=>(n:Int)).c:=wR (λ_ _ _ _ e=>A6.mp e) h
inductive jU(ys:_T)(L:qm)(Q:YK):Prop
 |mk:∀k:GT,(ys=[qG k])->(Q (.bl<|FT k) L)->jU ys L Q
def XD:_f jU (kD aW).1 1:=by
 rintro ys L Q ⟨k,rfl,q⟩;cases k with
 |none=>exact jj q
 |some k=>
  cases k with|lf t n=>exact{true,t,_,rfl,jj q}|nd e i j=>exact{false,e,_,rfl,jj q}
structure KnS(wd:List<|GT):Prop where
 ok:D_ wd
 there:Xr wd
 pu:sG wd
def KnS.at_(S:KnS wd){k:GT}(h:wd[p]?=some k)(I:m∈jq k):m<p/\∃J,wd[m]?=some (some J):=by
 cases k with
 |none=>cases I
 |some k=>
  cases k with
  |lf t n=>cases I
  |nd e i j=>
   obtain⟨a,b⟩:=S.ok p e i j h;obtain⟨c,d⟩:=S.there p e i j h;have I:=I;obtain rfl|I:=Ao.j I
   .exact{(a),c}
   .rw[Ak.j I];exact{(b),d}
theorem tL{L:qm}:∀xs:aal,Paired (j6 L 0) (xs.y Y.int)<|xs.map λx=>Da.s<|.int x
 |[]=>.nil
 |_::r=>.cons {(rfl),rfl}<|tL r
def KW.ex{w:Wd}(h:KW (wm wd) p w):∃k,wd[p]?=some (some k):=by cases w with|leaf t n=>exact{_,h.SZ}|node e l r=>obtain⟨i,j,a,_⟩:=h.SC;exact{_,a}
def vA(ks:On)(T:aah):List (GT):=(List.range ks.l).y λp=>if p∈T then ks[p]? else none
def kE(ks:On)(T:aah):(vA ks T).l=ks.l:=by unfold vA;rw[Ac,Bm]
def Iz{T:aah}(I:p<ks.l):(vA ks T)[p]?=some (if p∈T then ks[p]? else none):=by unfold vA;rw[Al,Cq I];rfl
def qP{T:aah}{k:Kn}(J:p∈T)(I:ks[p]?=some k):(vA ks T)[p]?=some (some k):=by rw[Iz<|zy I,AF J,I]
def iA{T:aah}{k:Kn}(h:(vA ks T)[p]?=some (some k)):p∈T/\ks[p]?=some k:=by
 have I:p<ks.l:=by rw[<-kE ks T];exact zy h
 rw[Iz I] at h;by_cases c:p∈T
 .rw[AF c] at h;exact{c,AV h}
 .rw[Az c] at h;cases h
def XE{T:aah}(h:∀p,p<ks.l->p∈T):vA ks T=ks.y some:=by
 refine Dw λp=>?_;by_cases c:p<ks.l
 .rw[Iz c,AF<|h p c,Al,Ah c];rfl
 .rw[BC (by rw[kE];lia),BC (by rw[Ac];lia)]
def XF{l:aah}(at_:∀{p:Nat} {k:Kn},wd[p]?=some (some k)->p∈l/\ks[p]?=some k)(h:(rR ks l).c):sG wd:=by
 constructor
 .intro p e i j I;obtain⟨h2,h1⟩:=at_ I;obtain⟨a,b,rfl⟩:=Cm h2;rw[jF,eJ,h1] at h;have:=(Aw.j (Aw.j h).2.1).1;have:[i,j].c:=this;simpa using this
 .intro p q k m x I U g o;obtain⟨h2,h1⟩:=at_ I;obtain⟨r,h3⟩:=at_ U;by_cases c:p=q
  .exact c
  .exfalso;obtain⟨a,b,rfl⟩:=Cm h2;have t:q∈a++b:=by
    obtain z|z:=Am.j r
    .exact An _ z
    .rcases Ao.j z with z|z
     .exact absurd z.L c
     .exact Ai _ z
   have pm:(rR ks<|a++p::b).C (jq (some k)++rR ks (a++b)):=by rw[jF,eJ,h1,jF];refine B4.d λz=>?_;simp only[CD];lia
   have n:=pm.nodup_iff.j h;have J:x∈rR ks (a++b):=Bf.d {q,t,by rw[h3];exact o};exact(Aw.j n).2.2 x g x J rfl
section
variable {E:aah}
def nR.clos(T:nR ks R E){e:Bool}(I:p∈told R)(J:ks[p]?=some (.nd e i j)):i∈told R/\j∈told R:=by have m:∀x∈[i,j],x∈told R:=λx U=>(T.sr.part T.nd).mem_iff.mp (An _ (Bf.d {p,I,by rw[J];exact U}));exact{m i<|Ag ..,m j<|Ae _<|Ag ..}
def nR.ex(T:nR ks R E)(I:p∈told R):∃k,(vA ks<|told R)[p]?=some (some k):={_,qP I<|Ah<|T.sr.lt p I}
def nR.knS(T:nR ks R E):KnS (vA ks<|told R):=by
 refine{λp e i j h=>?_,λp e i j h=>?_,XF iA (Aw.j<|(T.sr.part T.nd).nodup_iff.mpr T.nd).1}
 .exact T.ok p _ (iA h).2
 .obtain⟨h1,h2⟩:=iA h;obtain⟨a,b⟩:=T.clos h1 h2;exact{T.ex a,T.ex b}
def nR.prts(T:nR ks R E){x:Nat}:x∈kq (vA ks<|told R)↔x∈rR ks (told R):=by
 constructor
 .intro h;obtain⟨p,k,h1,h2⟩:=iI h;obtain⟨a,b⟩:=iA h1;exact Bf.d {p,a,by rw[b];exact h2}
 .intro h;obtain⟨p,I,J⟩:=Bf.j h;have e:=Ah<|T.sr.lt p I;rw[e] at J;exact eU (qP I e) J
def nR.cut(T:nR ks R E){x:Nat}(h:x∈KM (xd R)):x∉kq (vA ks<|told R):=λz=>by have N:=(T.sr.part T.nd).nodup_iff.mpr T.nd;exact(Aw.j N).2.2 x (T.prts.j z) x (An _ h) rfl
theorem nR.word(T:nR ks R E):∀{w:Wd} {p:Nat},p∈told R->f9 ks p w->KW (wm<|vA ks<|told R) p w
 |.leaf t n,p,I,h=>by
  have h:KW (wm<|ks.map some) p (.leaf t n):=by rw[v9];exact h
  exact KW.lf<|qP I<|wx h.SZ
 |.node e l r,p,I,h=>by
  have h:KW (wm<|ks.map some) p (.node e l r):=by rw[v9];exact h
  obtain⟨i,j,a,b,c⟩:=h.SC;have a:=wx a;obtain⟨J,U⟩:=T.clos I a;rw[v9] at b c;exact KW.nd (qP I a) (T.word J b)<|T.word U c
def SR.rls(h:SR ks R E):∀B∈ko R,(∃EB,SR ks B EB)/\(∀x∈told B,x∈told R)/\(told B).Sublist (told R)/\zq B<=zq R/\(∀c∈xd B,c∈xd R):=by
 induction h with
 |link h1 h2 h3 U g=>
  intro B J;cases Ak.j J;exact{{_,.link h1 h2 h3 U g},λ_ h=>h,Dz _,Ap _,λ_ h=>h}
 |@ei r i j A EA E h1 t h3 U g T h7 ih=>
  intro B J;obtain rfl|J:=Ao.j J
  .exact{{_,.ei h1 t h3 U g T h7},λ_ h=>h,Dz _,Ap _,λ_ h=>h}
  .obtain⟨a,b,c,d,e⟩:=ih B J;exact{a,λx h=>Ae _<|b x h,c.cons _,CA d,e}
 |@bo r i j A B EA EB E h1 t J U g T h7 l o=>
  intro C I;obtain rfl|I:=Ao.j I
  .exact{{_,.bo h1 t J U g T h7},λ_ h=>h,Dz _,Ap _,λ_ h=>h}
  .rcases Am.j I with I|I
   .obtain⟨a,b,c,d,e⟩:=l C I;exact{a,λx h=>Ae _<|An _<|b x h,(c.t<|Dg ..).cons _,by show _<=max (zq A) (zq B)+1;lia,λx h=>An _<|e x h}
   .obtain⟨a,b,c,d,e⟩:=o C I;exact{a,λx h=>Ae _<|Ai _<|b x h,(c.t<|B6 ..).cons _,by show _<=max (zq A) (zq B)+1;lia,λx h=>Ai _<|e x h}
 |@cu p q A B EA EB E w t J h3 U g T h7 h8 l o=>
  intro C I;obtain rfl|I:=Ao.j I
  .exact{{_,.cu t J h3 U g T h7 h8},λ_ h=>h,Dz _,Ap _,λ_ h=>h}
  .rcases Am.j I with I|I
   .obtain⟨a,b,c,d,e⟩:=l C I;exact{a,λx h=>An _<|b x h,c.t<|Dg ..,by show _<=max (zq A) (zq B)+1;lia,λx h=>Ae _<|An _<|e x h}
   .obtain⟨a,b,c,d,e⟩:=o C I;exact{a,λx h=>Ai _<|b x h,c.t<|B6 ..,by show _<=max (zq A) (zq B)+1;lia,λx h=>Ae _<|Ai _<|e x h}
def nR.inner(T:nR ks R E){B:Ru}(h:B∈ko R):∃I,nR ks B I:=by obtain⟨⟨I,s⟩,_,sub,_⟩:=T.sr.rls B h;exact{I,T.ok,s,sub.nodup T.nd,T.len}
theorem a9:∀{R A B:Ru},A∈ko R->B∈ko A->B∈ko R
 |.link p q,A,B,h1,h2=>by cases Ak.j h1;exact h2
 |.ei r C,A,B,h1,h2=>by
  obtain rfl|h1:=Ao.j h1
  .exact h2
  .exact Ae _<|a9 h1 h2
 |.bo r C D,A,B,h1,h2=>by
  obtain rfl|h1:=Ao.j h1
  .exact h2
  .rcases Am.j h1 with h1|h1
   .exact Ae _<|An _<|a9 h1 h2
   .exact Ae _<|Ai _<|a9 h1 h2
 |.cu p q C D,A,B,h1,h2=>by
  obtain rfl|h1:=Ao.j h1
  .exact h2
  .rcases Am.j h1 with h1|h1
   .exact Ae _<|An _<|a9 h1 h2
   .exact Ae _<|Ai _<|a9 h1 h2
def aj(A:Ru):A∈ko A:=by rw[rJ];exact Ag ..
def uI{A B:Ru}(h:B∈jd A):B∈ko A:=by rw[rJ];exact Ae _<|Bf.mpr {B,h,aj B}
end
def FU(neg:Bool)(x y:Y)(L:qm)(Q:YK):Prop:=match x,y with
 |.bl c,.bl d=>Q (.bl<|nb neg<|c==d) L
 |_,_=>False
def XG :kz X (compareOp .Is) (λx y H Q=>∃c d,x=.bl c/\y=.bl d/\Q (.bl<|c==d) H):=by rintro J s j H x y v u Q I U g⟨c,d,rfl,rfl,q⟩;cases U;cases g;exact is_bool<|gn I q rfl
def XH :kz X (compareOp .IsNot) (λx y H Q=>∃c d,x=.bl c/\y=.bl d/\Q (.bl<|!(c==d)) H):=by rintro J s j H x y v u Q I U g⟨c,d,rfl,rfl,q⟩;cases U;cases g;exact isnot_bool<|gn I q rfl
def XI :kz X (compareOp .Is) (fz X.g3<|FU false):=FB XG λx y H Q g j L l I J U z k=>by
 unfold FU at z;split at z
 .exact{_,_,I,J,k _ H _ L (EU _) U 'o' z}
 .exact z.r
def XJ :kz X (compareOp .IsNot) (fz X.g3<|FU true):=FB XH λx y H Q g j L l I J U z k=>by
 unfold FU at z;split at z
 .exact{_,_,I,J,k _ H _ L (EU _) U 'o' z}
 .exact z.r
def XM(neg:Bool)(p:X.A.units+128<cLine):kz X (compareOp<|if neg then .NotIn else .In) (λx y H Q=>∃a kvs k,y=.ref a/\H a=some (.dK kvs)/\x=kV k/\Q (.bl<|if neg then !(dQ kvs k).Z else(dQ kvs k).Z) H):=by intro U s r H x y v u Q I g j ⟨a,kvs,k,l,e,ex,q⟩;subst ex l;cases (show u=Value.ref a from j);cases neg with|false=>exact RN 'm' I (u6.k e) g λo J=>{.bl _,H,J,rfl,q}|true=>exact RP 'm' I (u6.k e) g λo J=>{.bl _,H,J,rfl,q}
def wT:jt X (.builtin "len") (λxs H Q=>∃a kvs,xs=[.ref a]/\H a=some (.dK kvs)/\Q (.int kvs.l) H):=by intro J s j H xs l Q I r ⟨a,kvs,ex,e,q⟩;subst ex;obtain⟨u,rfl,U⟩:=jJ r;cases U;exact RS I (.inl e) λt o g=>{.int _,H,g,{(t),rfl},q}
def G6(w:aat)(r:Str×Tok×Int×Tok):DictEntry:={hashStr w r.1,.str r.1 r.2.1,.int r.2.2.1 r.2.2.2}
def XN{K:Aj}{P:aas}{w:aat}{c:Addr}(rows:List<|Str×Tok×Int×Tok)(l:K.e c=some ⟨.type "dict",none,.dict (rows.y<|G6 w).m ep,#[]⟩)(hs:(c==sysModules)=false)(hz:rows.l<=1000)(nd:(rows.y λr=>(Sum.inr r.1:jk)).c):
 KD K P w c (rows.y λr=>(Sum.inr r.1,.int r.2.2.1)):=by
 refine{hs,by rw[Ac];exact small hz,λh X=>{rows.y λr=>(Sum.inr r.1,.int r.2.2.1 r.2.2.2),?_,_,_,ep,X c _ l,{(rfl),rfl,rfl},rfl,?_,?_,?_}}
 .unfold KV;clear l hz nd
  induction rows with|nil=>exact .nil|cons r t I=>exact .cons {rfl,_,rfl} I
 .intro e U;have J:e∈rows.y (G6 w):=by simpa using U
  obtain⟨r,_,rfl⟩:=AM.j J;exact{Sum.inr r.1,dw r.1 r.2.1,rfl}
 .show Pairs _ (rows.y<|G6 w).toArray.toList _;rw[DP];clear l hz nd
  induction rows with|nil=>exact .nil|cons r t I=>exact .cons (dw r.1 r.2.1) rfl I
 .rw[BI];exact nd
def XO{xs:List<|jk×V}(p:Paired (λ(p:jk×Y) (q:jk×V)=>p.1=q.1/\RV G H p.2 q.2) kvs xs)(k:jk):(dQ xs k).Z=(wo kvs k).Z:=by
 unfold dQ wo;rw[Option.isSome_map,Option.isSome_map]
 induction p with
 |nil=>rfl
 |@cons a b _ _ r t I=>
  rw[BP,BP,r.1];cases decide (b.1=k) with|true=>rfl|false=>exact I
def Gm(neg:Bool)(x y:Y)(L:qm)(Q:YK):Prop:=match y,GX x with
 |.ref a,some k=>nw L a λkvs=>Q (.bl<|nb neg (wo kvs k).Z) L
 |_,_=>False
def ast(neg:Bool)(j:X.A.units+128<cLine):kz X (compareOp<|if neg then .NotIn else .In) (fz X.g3<|Gm neg):=FB (XM neg j) λx y H Q C T L Q3 l o g z k=>by
 unfold Gm at z;split at z
 .rename_i a I p;obtain⟨J,e,z⟩:=dM z;obtain⟨U,r,t⟩:=g a _ e;refine{a,U,I,o,r,o5 p l,?_};have:(if neg=true then !(dQ U I).Z else(dQ U I).Z)=nb neg (wo J I).Z:=by rw[XO t];cases neg<;>simp[nb]
  rw[this];exact k _ H _ L (EU _) g 'o' z
 .exact z.r
def Mk(I:X.A.units+128<cLine):kz X (compareOp .NotIn) (fz X.g3<|Gm true):=ast true I
def IA(xs:_T)(L:qm)(Q:YK):Prop:=match xs with
 |[.ref a]=>nw L a λkvs=>Q (.int kvs.l) L
 |_=>False
theorem XQ :jt X (.builtin "len") (g_ X.g3 IA):=FC wT λp H Q r L t J I z k=>by
 unfold IA at z;split at z
 .rename_i a;obtain⟨u,rfl,U⟩:=J.inv1;obtain⟨g,e,z⟩:=dM z;obtain⟨j,l,o⟩:=I a _ e;cases (show u=V.ref a from U);refine{a,j,rfl,l,?_};rw[<-pQ o];exact k _ H _ L (EU _) I 'o' z
 .exact z.r
def Ml(xs:_T)(L:qm)(Q:YK):Prop:=match xs with
 |[.ref a]=>fD L a λys=>Q (.tup ys) L
 |_=>False
theorem Mm :jt X (.type "tuple") (g_ X.g3 Ml):=FC r9 λt H Q C L T g J z k=>by
 unfold Ml at z;split at z
 .rename_i a;obtain⟨u,rfl,j⟩:=g.inv1;obtain⟨o,e,z⟩:=v4 z;obtain⟨U,p,r⟩:=J a _ e;cases (show u=V.ref a from j);exact{a,U,rfl,.inl {.inl<|.inl p,λl I=>k _ _ (.tup o) L (EV I) (J.skip I) {l,U,rfl,.inl<|.inl zg,r.ts<|EV I} z}}
 .exact z.r
def xU{kvs:List<|Str×Int}{k:Str}{x:Int}(h:kvs.e k=some x):dQ (kvs.y λp=>((Sum.inr p.1:jk),V.int p.2)) (Sum.inr k)=some (V.int x):=by
 induction kvs with
 |nil=>simp at h
 |cons p r I=>
  obtain⟨a,b⟩:=p;unfold dQ;rw[AR,BP];rw[BF] at h;by_cases c:k=a
  .subst c;simp at h;simp[h]
  .have J:(k==a)=false:=by simpa using c
   rw[J] at h;have U:decide ((Sum.inr a:jk)=Sum.inr k)=false:=Ay λz=>c (Fj z).L;simp only[U];exact I h
def XR(kvs:List<|Str×Int)(ti:xq)(τ:jm)(L:qm)(Q:YK):Prop:=ti τ L λy L1=>match y with
 |.str k=>rQ L1 (λi L=>Q (.int i) L)<|kvs.lookup k
 |_=>False
theorem vN{kvs:List<|Str×Int}{i:Expr}{p pos:Pos}(t:J2 X.g3 X.mg x kvs)(g:Gl X x)(hi:QE X i ti)(l:iL i)(hd:Fe x:=by decide):QE X (.Subscript (.Name x p) i pos) (XR kvs ti):=by
 obtain⟨a,o,r⟩:=t.ex;refine EW (Gy JV (Jg g o (show j9 (.ref a) (.ref a) from rfl) hd) hi l) λσ H Q C L Q3 rs T z k=>?_;refine{C,L,_,rs,T,z,λv H1 y L1 t1 I J U=>?_};split at U
 .rename_i kk;obtain⟨j,ej,q⟩:=az U;cases (show v=V.str kk from J);exact{_,_,.inr r,xU ej,k _ H1 _ L1 t1 I 'o' q}
 .exact U.r
def m8:RD "places_of" mO 0 ["rule"] (λ_=>True):={_,λV B c _ _ _ _ _ _ _ I hN J=>(qd<|qt<|bT dy rfl B.bg fW<|jz<|xu (gM _ _ _) (qv 0) (vk qc)<|vk<|qj ju qc<|vN B.zA1 rfl (J_ 0) λ_ _=>rfl)}
def tF:RD "arms_of" sk 0 ["rule"] (λ_=>True):={_,λV B c _ _ _ _ _ _ _ I hN J=>(qd<|qt<|bT dy rfl B.bg fW<|jz<|xu (gM _ _ _) (qv 0) (vk<|qj ju qc<|vN B.zA1 rfl (J_ 0) λ_ _=>rfl) wg)}
def pU(U:vh)(I:vh):RR "rules_in" rH 2 ["rule"] ["rule","rules","arm"] I (λV=>K5 V U):={_,λV B c _ _ J _ _ _ _ _ _ g hN j=>(qb (S_ 1 hN<|zd<|jz<|qv 0)<|qb (aB yp rfl (xz<|C_ c g<|jz<|qv 0) (G_ 2 hN)<|qd<|zb<|cR (qv 1)<|jz<|C_ J g<|jz<|qv 2)<|qd<|qt<|qv 1)}
def sR(I:vh):RD "told_by" tD 1 ["rule"] (λV=>K4 V I):={_,λV B c _ _ _ _ _ _ _ J hN U=>(qd<|qt<|cq (E_ U (J_ 0) qz) (zd vj)<|C_ c J<|jz<|qv 0)}
def qC(I:vh):RD "taken_by" pM 2 ["knots","rule","parts"] (λV=>GS V I):={_,λV B c _ _ _ _ _ _ _ U hN J=>(qb (zc (E_ J (J_ 1) qz) (qd<|qt<|zd vj) qy)<|qb (zc (E_ J (J_ 1) qz) (qd<|qt<|zd<|vo (zd<|jz<|J_ 1)<|zd<|jz<|J_ 1) qy)<|qb (S_ 2 hN<|C_ c U<|jz<|I_ (qv 0)<|J_ 1)<|qb (zc (E_ J (J_ 1) qz) (qd<|qt<|zd<|jz<|qv 2) qy)<|qd<|qt<|fq ["part"] (E4 'o') rfl (xz<|qv 2) (vL 3) (λ_ _ _ _=>gS) λ_ _ _ _=>(zd<|jz<|qv 3))}
def Mn(I:vh)(J:vh):RD "fits" KP 123 ["knots","rule"] (λV=>KZ V I/\K3 V J):={_,λV B c _ _ _ _ _ _ _ g hN U=>(qb (zc (E_ U (J_ 1) qz) (qd<|qt<|C_ c.1 g<|aI (qv 0) (J_ 1)<|J_ 1) qy)<|qb (zc (E_ U (J_ 1) qz) (qd<|qt<|C_ c.2 g<|aI (qv 0) (J_ 1)<|J_ 1) qy)<|qd<|qt<|ak (sQ _ _ _ U) (I_ (I_ (qv 0)<|J_ 1) qc) (J_ 1)<|vz _)}
def plR:Ru->aah
 |.link p q=>[p,q]
 |.ei r _=>[r]
 |.bo r _ _=>[r]
 |.cu p q _ _=>[p,q]
inductive tM(ys:_T)(L:qm)(Q:YK):Prop
 |mk:∀A:Ru,(ys=[qx A])->(∀p,L p=none->Q (.ref p) (qk L p<|.lst<|(jd A).y qx))->tM ys L Q
def qT(A:Ru):0<zq A:=by cases A<;>simp[zq]
def XS{A:Ru}:∀t∈ag ks A,t.l<=2:=by
 intro t I;cases A with
 |link p q=>cases I
 |ei r A=>rw[Ak.j I];exact WP _
 |bo r A B=>obtain⟨x,_,rfl⟩:=AM.j I;exact Cn 1
 |cu p q A B=>
  obtain rfl|I:=Ao.j I
  .exact Cn 1
  .rw[Ak.j I];exact Cn 1
def vF{A B:Ru}(h:B∈jd A):(told B).Sublist (told A):=by rw[sF A];refine List.Sublist.trans ?_<|B6 ..;obtain⟨a,b,e⟩:=Cm h;rw[e,AC,Bo];exact(Dg ..).t (B6 ..)
def Kp(l:Addr)(L L':qm):Prop:=∀b o,b≠l->L b=some o->L' b=some o
def Kp.new{p:Addr}{o:LO}(h:Kp l L L')(J:L' p=none):Kp l L (qk L' p o):=λb u I e=>(qe<|ku (h b u I e) J).t<|h b u I e
def Kp.upd{o:LO}(h:Kp l L L'):Kp l L (qk L' l o):=λb u I e=>(qe I).t<|h b u I e
def XT{T:aah}(J:∀x∈T,x<ks.l){x:Nat}:x∈dh (vA ks T)↔x∈T:=by
 constructor
 .intro h;obtain⟨_,k,e,U⟩:=LM h;cases k with
  |none=>cases U
  |some k=>exact(iA e).1
 .intro h;have I:=J x h;exact Mh (qP h<|Ah I) rfl ([kE]≈I)
def XU{E:aah}(T:nR ks R E):(dh<|vA ks<|told R).l=(told R).l:=by refine((AU ?_ T.nd).d λx=>XT λx I=>T.sr.lt x I).f;unfold dh o_;exact Ct.S _
def XW{k:jk}(h:(wo kvs k).Z=false):iS kvs k y=kvs++[(k,y)]:=by unfold iS;rw[qZ,h,Az AI]
structure StI(A:Ru)(tk:aah)(st:List Ru):Prop where
 pt:(tk++st.h told).C (told A)
 sz:(st.y aH).sum<=aH A
 dp:∀B∈st,zq B<=zq A
def StI.start(A:Ru):StI A [] [A]:={'r','r',λB I=>by rw[Ak.j I];exact Ap _}
def StI.step{A B:Ru}{tk:aah}{st:List Ru}(h:StI A tk<|st++[B]):StI A (tk++fw B) (st++jd B):=by
 refine{?_,?_,λC I=>?_}
 .refine List.Perm.trans ?_ h.pt;rw[AC,AC];have:[B].h told=fw B++(jd B).h told:=by rw[<-sF];simp
  rw[this];refine B4.d λz=>?_;simp only[CD];lia
 .have:=h.sz;have:=pI B;simp at *;lia
 .rcases Am.j I with I|I
  .exact h.dp C<|An _ I
  .have:=eY I;have:=h.dp B<|Ai _<|Ak.mpr rfl;lia
def StI.lt{A B:Ru}{tk:aah}{st:List Ru}:((st.y aH).sum+((jd B).y aH).sum)<((st++[B]).y aH).sum:=by have:=pI B;simp;lia
def nR.small{A:Ru}{E:aah}(T:nR ks A E):(told A).l<=96:=by
 have:=XU T;have h2:=LN Iu (vA ks<|told A) (vA ks<|told A).l;rw[kE] at h2;have:(dh<|vA ks<|told A).l<=ks.l:=by unfold dh;rw[kE];exact h2
 have:=T.len;lia
def m5:RD "_law_arms" nG 0 ["_law_rule"] (λ_=>True):={_,λV B c _ _ _ _ _ _ _ J hN I=>(qb (zc (E_ I (J_ 0) qz) (qd<|qt<|zd<|vo (J_ 0)<|J_ 0) qy)<|qb (zc (E_ I (J_ 0) qz) (qd<|qt<|zd vj) qy)<|qd<|qt<|bT dy rfl B.bg fW<|jz<|xu (gM _ _ _) (qv 0) (vk qc) wg)}
def fu(I:vh):RD "_law_gathered" fj 1 ["_law_rule","_law_links","_law_cuts","_law_told","_law_stack","_law_one"] (λV=>alt V I):={_,λV B c _ _ _ _ _ _ _ U hN J=>(qb (fb (qw<|jl (zd vj)<|aI (zd vj) kW<|zd<|jz<|qv 0)<|bB (n:=4) rfl<|zf (G_ 1 hN)<|zf (G_ 2 hN)<|zf (G_ 3 hN)<|zf (G_ 4 hN) wn)<|qb (jH yp (N_ J (qv 4)<|zd vj)<|qb (S_ 5 hN<|Km<|qv 4)<|vm (zc (E_ J (J_ 5) qz) (qb (zb<|zu (qv 1)<|jz<|qw<|vo (J_ 5)<|J_ 5)<|qb (aK J (qv 3) (J_ 5) aP)<|qd<|aK J (qv 3) (J_ 5) aP)<|qd<|zc (E_ J (J_ 5) qz) (qd<|zb<|zu (qv 2)<|jz<|qw<|vo (J_ 5)<|J_ 5)<|qd<|aK J (qv 3) (J_ 5) aP)<|qd<|zb<|cR (qv 4)<|jz<|C_ c U<|jz<|qv 5)<|qd<|qt<|qw<|aI (qv 1) (qv 2)<|qv 3)}
def vM:aa:=(zj (jx xP<|ql 2)
 (zj (gA (ah<|qf 0) (ql 3) (xr (iY (yB<|rY true<|qf 3)<|bU (gC 3)<|ja 3) (zj (gm (qf 2) (a6 3 1)<|yC<|.bl true)
 (gm (qf 2) (a6 3 2)<|yC<|.bl true)) w5))
 (zj (gA (ah<|qf 1) (dY 2<|jy (ql 4)<|jy (ql 5) cK) (zj (gm (qf 2) (qf 4)<|yC<|.bl true)
 (gm (qf 2) (qf 5)<|yC<|.bl true)))
 (sN 4<|bN<|h_ 1 (bx<|aV<|gC 0) (ql 6) (iY (yB<|rY true<|zx aO (qf 0)<|qf 6)<|yB<|zx (Gm true) (qf 6)<|qf 2)<|qf 6))))
def hE:vh:=tM
def XX:_f hE m5.1 1:=by
 rintro ys L Q ⟨A,rfl,q⟩;cases A with
 |link a b=>exactλp I=>jj<|q p I
 |ei r A=>exact{λz=>absurd z.1 (by show ¬2=0;decide),λp I=>jj<|q p I}
 |bo r A B=>exact{λz=>absurd z.1 (by show ¬2=0;decide),λp I=>jj<|q p I}
 |cu a b A B=>exactλp I=>jj<|q p I
structure UsI(us:aah)(kvs:List<|jk×Y):Prop where
 val:∀x:Nat,(wo kvs<|.inl (x:Int)).Z=decide (x∈us)
 len:kvs.l<=us.l
def UsI.nil:UsI [] []:={λ_=>rfl,Ap _}
def UsI.put{us:aah}(h:UsI us kvs)(x:Nat)(y:Y):UsI (us++[x]) (iS kvs (.inl (x:Int)) y):=by
 refine{λz=>?_,?_}
 .rw[pF];by_cases e:z=x
  .subst e;rw[AF rfl,AJ<|Ai _<|Ak.mpr rfl];rfl
  .rw[Az λq=>e<|A6.mp<|Fi q,h.val];refine CL.d {λq=>An _ q,λq=>?_};obtain q|q:=Am.j q
   .exact q
   .exact absurd (Ak.j q) e
 .have:=pO kvs (.inl (x:Int)) y;have:=h.len;rw[Ab];show _<=us.l+1;lia
inductive cQ(ys:_T)(L:qm)(Q:YK):Prop
 |mk:∀R:Ru,(ys=[qx R])->((told R).l<=96)->(∀la ca ta lk ct kvs L',qh L L'->L la=none->L ca=none->L ta=none->L' la=⇑(ao lk)->L' ca=⇑(ao ct)->L' ta=some (._c kvs)->lk.Perm (jp R)->ct.Perm (xd R)->(∀x:Nat,(wo kvs<|.inl (x:Int)).Z=decide (x∈told R))->Q (.tup [.ref la,.ref ca,.ref ta]) L')->cQ ys L Q
theorem a7:∀R:Ru,(jp R).l+(xd R).l<=aH R
 |.link _ _=>Ap _
 |.ei _ A=>CA<|a7 A
 |.bo _ A B=>by have:=a7 A;have:=a7 B;show(jp A++jp B).l+(xd A++xd B).l<=aH A+aH B+1;rw[Ab,Ab];lia
 |.cu _ _ A B=>by have:=a7 A;have:=a7 B;show(jp A++jp B).l+((xd A++xd B).l+1)<=aH A+aH B+1;rw[Ab,Ab];lia
def XY:_f cQ (fu hE).1 6:=by
 rintro ys L Q ⟨R,rfl,tl,q⟩;have big:=a_;have rd:=kh R;have rz:=aS R;have rp:=a7 R;intro la aL ca ba ta ac sa a3;have a4:=ku q9 ba;have C:=ku q9 ac;have a1:=ku ((qe a4).t q9) ac;have a2:=ku q9 a3;have al:=ku ((qe C).t q9) a3;have ar:=ku ((qe a1).t<|(qe a4).t q9) a3;have au:=kc ba;have j:=kc<|kc ac;have av:=kc<|kc<|kc a3;have S0:qh L (qk (qk (qk (qk L la<|.lst []) ca<|.lst []) ta<|._c []) sa<|.lst [qx R]):=(((By aL).t<|By ba).t<|By ac).t<|By a3;refine{λm τ g=>∃lk ct J us st c5,τ=[some<|qx R,↑la,↑ca,↑ta,↑sa,c5]/\qh L g/\g la=⇑(ao lk)/\g ca=⇑(ao ct)/\g ta=some (._c J)/\g sa=⇑(st.y qx)/\nS R lk ct st/\UsI us J/\StI R us st/\m=(st.y aH).sum,{_,[],[],[],[],[R],_,rfl,S0,(qe ar).t<|(qe a1).t<|(qe a4).t q9,(qe al).t<|(qe C).t q9,(qe a2).t q9,q9,nS.start R,UsI.nil,StI.start R,rfl},?_};rintro m τ g ⟨lk,ct,J,us,st,c5,rfl,s,h1,h2,h3,t,T,U,I,rfl⟩;intro p hp;refine aq (n:=120) (m:=0) ∅ (By hp _ _ t) q9 (iq λA hA=>AQ (T.dp A hA) 's') (.nil:Paired (j6 _ 0) _ []) ?_;have s2:qh L (qk g p<|.lst []):=s.t<|By hp;replace h1:=(qe (o:=.lst [])<|ku h1 hp).t h1;replace h2:=(qe (o:=.lst [])<|ku h2 hp).t h2;replace h3:=(qe (o:=.lst [])<|ku h3 hp).t h3;replace t:=(qe (o:=.lst [])<|ku t hp).t t;generalize qk g p (.lst [])=L2 at s2 h1 h2 h3 t ⊢;rw[Xi];have kl:=U.len;have pl:=I.pt.f;have l1:=T.pl.f;have l2:=T.pc.f;rw[Ab] at pl l1 l2;obtain rfl|⟨mX,A,rfl⟩:=List.eq_nil_or_concat st
 .refine dg rfl ?_;refine jj (q la ca ta lk ct J L2 s2 aL au j h1 h2 h3 (by have:=T.pl;simpa using this) (by have:=T.pc;simpa using this) λx=>?_);rw[U.val];exact CL.d (by have:=I.pt.mem_iff (a:=x);simpa using this)
 .rw[List.concat_eq_append] at *;rw[Ay 'r'];refine gE rfl {λa5 g=>∃m',m'<((mX++[A]).y aH).sum/\∃lk ct J us st c5,a5=[some<|qx R,↑la,↑ca,↑ta,↑sa,c5]/\qh L g/\g la=⇑(ao lk)/\g ca=⇑(ao ct)/\g ta=some (._c J)/\g sa=⇑(st.y qx)/\nS R lk ct st/\UsI us J/\StI R us st/\m'=(st.y aH).sum,λa5 g h=>h,?_};rw[Ax] at t;refine Ky t ?_;have s3:qh L (qk L2 sa<|.lst<|mX.map qx):=s2.upd av;replace h1:=(qe (o:=.lst<|mX.map qx) ar).t h1;replace h2:=(qe (o:=.lst<|mX.map qx) al).t h2;replace h3:=(qe (o:=.lst<|mX.map qx) a2).t h3;clear t;have t:qk L2 sa (.lst<|mX.map qx) sa=⇑(mX.y qx):=q9;generalize qk L2 sa (.lst<|mX.map qx)=L3 at s3 h1 h2 h3 t ⊢;refine{λa5 L3=>∃J,a5=[some<|qx R,↑la,↑ca,↑ta,↑sa,some<|qx A]/\qh L L3/\L3 la=⇑(ao<|lk++wL A)/\L3 ca=⇑(ao<|ct++wO A)/\L3 ta=some (._c J)/\L3 sa=⇑(mX.y qx)/\UsI (us++fw A) J,?_,?_}
  .cases A with
   |link p0 q0=>
    refine qa h1 (qo h1 {by rw[Ac];exact big _ 's',?_});refine x4 ((qe<|AN a1).t h3) {big _ 's',?_};have U1:=U.put p0<|.bl true;have k1:=U1.len;rw[Ab] at k1;refine x4 q9 {big _ (by simp at k1;lia),?_};have U2:=U1.put q0<|.bl true;rw[vn];refine{_,rfl,(s3.upd aL).upd j,?_,?_,q9,?_,by rw[AB] at U2;exact U2}
    .rw[qe a1,q9];exact A8 (λl=>some<|LO.lst l)<|mC lk (p0,q0)
    .rw[qe C,qe<|AN a4,h2];simp[wO]
    .rw[qe<|AN a2,qe<|AN ar];exact t
   |ei r0 A0=>
    refine x4 h3 {big _ 's',?_};exact{_,rfl,s3.upd j,by rw[qe a1,h1];simp[wL],by rw[qe C,h2];simp[wO],q9,by rw[qe<|AN a2];exact t,U.put r0<|.bl true}
   |bo r0 A0 B0=>
    refine x4 h3 {big _ 's',?_};exact{_,rfl,s3.upd j,by rw[qe a1,h1];simp[wL],by rw[qe C,h2];simp[wO],q9,by rw[qe<|AN a2];exact t,U.put r0<|.bl true}
   |cu p0 q0 A0 B0=>
    refine qa h2 (qo h2 {by rw[Ac];exact big _ 's',?_});exact{J,rfl,s3.upd au,by rw[qe a4,h1];simp[wL],by rw[q9];exact A8 (λl=>some<|LO.lst l)<|mC ct (p0,q0),by rw[qe<|AN C];exact h3,by rw[qe<|AN al];exact t,by rw[show fw (.cu p0 q0 A0 B0)=[] from rfl,AE];exact U}
  .rintro a5 L4 ⟨bb,rfl,s4,g1,g2,g3,g4,U'⟩;refine qa g4 {A,rfl,λp8 h8=>?_};refine qo ((qe<|ku g4 h8).t g4)<|qo q9 {?_,?_}
   .have h1:=I.step.sz;have len:∀l:List Ru,l.l<=(l.y aH).sum:=λl=>by induction l with|nil=>exact Ap _|cons x r ih=>have:=Xh x;simp;lia
    have h3:=len<|mX++jd A;rw[Ab] at h3;rw[Ac,Ac];exact Br<|big _ 's'
   .exact{_,ET _,_,StI.lt (tk:=us) (A:=R),_,_,bb,us++fw A,mX++jd A,_,rfl,(s4.t<|By h8).upd av,(qe ar).t<|(qe<|ku g1 h8).t g1,(qe al).t<|(qe<|ku g2 h8).t g2,(qe a2).t<|(qe<|ku g3 h8).t g3,by rw[q9,Ax],T.step,U',I.step,by rw[Ax,List.sum_append]}
def XZ{k:GT}(h:wd[i]?=some k):bw (wm wd) (0+(i:Int))=some (qG k):=by rw[BW];exact j7 h
inductive oD(ys:_T)(L:qm)(Q:YK):Prop
 |mk:∀a c,∀wd:List (GT),∀ct:aae,(ys=[.ref a,.ref c])->(L a=⇑(wm wd))->(L c=⇑(ao ct))->(wd.l<=1000)->(ct.l<=1000)->(∀p,L p=none->Q (.ref p) (qk L p<|.lst<|nY<|cI wd (bR wd ct) wd.l))->oD ys L Q
inductive Mo(L:qm)(wd:List<|GT)(wa ca us:Addr)(i:Nat)(τ:jm)(L':qm):Prop
 |mk (kvs:List<|jk×Y) (c3 c4 c5:_C):τ=[↑wa,↑ca,↑us,c3,c4,c5]->qh L L'->L' us=some (._c kvs)->UsI (kq<|wd.take i) kvs->Mo L wd wa ca us i τ L'
inductive Mp(L:qm)(wd:List<|GT)(ct:aad)(wa ca us:Addr)(c3:_C)(i:Nat)(τ:jm)(L':qm):Prop
 |mk (kvs:List<|jk×Y) (c4 c5:_C):τ=[↑wa,↑ca,↑us,c3,c4,c5]->qh L L'->L' us=some (._c kvs)->UsI (kq wd++KM (ct.u i)) kvs->Mp L wd ct wa ca us c3 i τ L'
def X0:_f oD vM 6:=by
 rintro ys L Q ⟨wa,ca,I,j,rfl,e1,e3,wl,cl,q⟩;have big:=a_;intro us C;have s2:qh L (qk L us<|._c []):=By C;refine xi (s2 _ _ e1) λkeep kp=>wq {Mo L I wa ca us,{[],_,_,_,rfl,s2,q9,UsI.nil},?_,?_,?_}
 .rintro i τ l ⟨J,c3,c4,c5,rfl,s,_⟩;exact kp l (by rw[s _ _ e1,s2 _ _ e1])
 .rintro i y τ l hy ⟨J,c3,c4,c5,rfl,s,g,U⟩;rw[Al] at hy;obtain⟨k,T,rfl⟩:=Au.j hy;have et:I.u (i+1)=I.u i++[k]:=by rw[Bh,T];rfl
  have pl:=tQ<|I.take i;rw[A2] at pl;have ul:=U.len;have _e:jq k=[]->UsI (kq<|I.take<|i+1) J:=λh=>by rw[et,qJ,h,AE];exact U
  cases k with
  |none=>exact{_,ET _,_,_,_,_,rfl,s,g,_e rfl}
  |some k=>
   cases k with
   |lf t n=>exact{_,ET _,_,_,_,_,rfl,s,g,_e rfl}
   |nd e i' j'=>
    refine x4 g {big _ 's',?_};have U1:=U.put i'<|.bl true;have r:=U1.len;rw[Ab] at r;refine x4 q9 {big _ (by simp at r;lia),?_};have U2:=U1.put j'<|.bl true;rw[vn];exact{_,ET _,_,_,_,_,rfl,s.upd C,q9,by rw[et,qJ];rw[AB] at U2;exact U2}
 rintro τ L2 ⟨J,c3,c4,c5,rfl,s3,g,U⟩;rw[Ac,Bp] at U;have pl:=tQ I;refine xi (s3 _ _ e3) λkeep kp=>wq {Mp L I j wa ca us c3,{_,_,_,rfl,s3,g,by show UsI (kq I++[]) _;rw[AE];exact U},?_,?_,?_}
 .rintro i τ l ⟨J,c4,c5,rfl,s,_⟩;exact kp l (by rw[s _ _ e3,s3 _ _ e3])
 .rintro i y τ l hy ⟨J,c4,c5,rfl,s,g,U⟩;rw[Al] at hy;obtain⟨pr,ep,rfl⟩:=Au.j hy;have et:j.u (i+1)=j.u i++[pr]:=by rw[Bh,ep];rfl
  have pt:=Xk<|j.take i;rw[A2] at pt;have ul:=U.len;rw[Ab] at ul;refine x4 g {big _ 's',?_};have U1:=U.put pr.1<|.bl true;have r:=U1.len;rw[Ab,Ab] at r;refine x4 q9 {big _ (by simp at r;lia),?_};have U2:=U1.put pr.2<|.bl true;rw[vn];exact{_,ET _,_,_,_,rfl,s.upd C,q9,by rw[et,bW,gG,<-AB];rw[AB<|_++_] at U2;exact U2}
 rintro τ L3 ⟨J,a1,a2,rfl,s4,g,U⟩;rw[Ac,Bp] at U;have U:UsI (bR I j) J:=U;have r:=s4 _ _ e1;have lw:(wm I).l=I.l:=Ac ..;refine qa r {{Bb _,by rw[lw];omega},?_};rw[lw,Bx];refine lO (λi o=>o=nY (cI I (bR I j) i)) (big _ 's') rfl ?_ ?_
 .rintro i o hi rfl;obtain⟨k,T⟩:∃k,I[i]?=some k:={_,Ah hi};have no:oj I (bR I j) i=false->jA (λo l=>l=L3/\o=nY (cI I (bR I j)<|i+1)) (nY<|cI I (bR I j) i) L3:=λh=>{L3,ET _,rfl,by rw[rE,Az ([h]≈AI),AE]};have yes:oj I (bR I j) i=true->jA (λo l=>l=L3/\o=nY (cI I (bR I j)<|i+1)) (nY (cI I (bR I j) i)++[.int<|0+(i:Int)]) L3:=λh=>{L3,ET _,rfl,by rw[rE,AF h,hG,BW];rfl};refine qa r<|qg (XZ T) ?_;cases k with
  |none=>exact no (by unfold oj oW;rw[T];rfl)
  |some k=>
   have key:nw L3 us λJ=>fY (nb true (wo J<|.inl<|0+(i:Int)).Z) (jA (λo l=>l=L3/\o=nY (cI I (bR I j)<|i+1)) (nY (cI I (bR I j) i)++[.int<|0+(i:Int)]) L3) (jA (λo l=>l=L3/\o=nY (cI I (bR I j)<|i+1)) (nY<|cI I (bR I j) i) L3):=by
    refine x4 g ?_;rw[show(Sum.inl (0+(i:Int)):jk)=.inl (i:Int) by rw[BW],U.val];by_cases cu:i∈bR I j
    .exact dg (by rw[AJ cu];rfl) (no (by unfold oj oW;rw[T,AJ cu];rfl))
    .exact gE (by rw[Ay cu];rfl) (yes (by unfold oj oW;rw[T,Ay cu];rfl))
   cases k with|lf t n=>exact key|nd e i' j'=>exact key
 .rintro o rfl p hp;exact eM (qh.put (s4.t<|By hp) q9)<|q p<|s4.none hp
def X2(Pt:Addr)(I:vh):aa:=(zj (jx (aZ zk)<|ql 2)
 (zj (gA (KA<|qf 0) (dY 2<|jy (ql 3)<|jy (ql 4) cK) (zj (jx (zx wf (jg I<|qi (qf 1)<|cg (qf 3)<|ja 39373)<|ja 40)<|ql 5)
 (i3 (xr (bU (gC 4)<|ja 3) (jx (zx kU (zx kU (qf 5)<|ja 1)<|sJ HJ<|qi (zx aO (qf 2)<|a6 4 1)<|qi (zx aO (qf 2)<|a6 4 2) zk)<|ql 5) w5)
 (jo<|fg xp (qf 2)<|aV<|qf 5))))
 (bN<|LQ Pt _R 2<|xI<|gC 0)))
def rB(I:vh)(p1:vh):aa:=(zj (jx xP<|ql 3)
 (zj (jx (aZ zk)<|ql 4)
 (zj (gA (ah<|jg I<|cg (qf 0)<|qf 2) (ql 5) (zj (gm (qf 3) (qf 5)<|gC 4)
 (zj (jx (zx aO (qf 0)<|qf 5)<|ql 6)
 (jo<|fg xp (qf 4)<|qi (Gc (bU (gC 6)<|ja 2) (qf 6)<|vi<|qi (a6 6 0)<|qi (vV (qf 3)<|a6 6 1)<|qi (vV (qf 3)<|a6 6 2) zk) zk))))
 (bN<|vi<|qi (qf 4)<|qi (jg p1<|cg (qf 1)<|qf 3) zk))))
inductive iM(Pt:Addr)(ys:_T)(L:qm)(Q:YK):Prop
 |mk:∀a,∀ks:On,∀s:Int,(ys=[.ref a,.int s])->(L a=⇑(x8 ks))->(D_<|ks.map some)->(ks.l<=127)->(L Pt=some (.tb _R))->(∀D qs,L D=none->qs.Perm (List.range (ks.y some).l)->i8 (ks.y some) qs->Q (.ref D) (qk L D<|.lst<|nY qs))->iM Pt ys L Q
def X4 :_f (iM Pt) (X2 Pt rL) 6:=by
 rintro ys L Q ⟨a,a4,s,rfl,ha,ok,hz,hP,q⟩;obtain⟨U,J⟩:∃U,U=a4.y some:={_,rfl};rw[<-v9,<-J] at ha;rw[<-J] at ok q;have hz:U.l<=127:=by rw[J,Ac];exact hz
 have all:∀i,U[i]?≠some none:=λi e=>by rw[J,Al] at e;obtain⟨_,_,z⟩:=Au.j e;cases z
 have big:=a_;intro g I;have s0:qh L (qk L g<|.lst []):=By I;have a1:=ku ha I;refine xi (s0 _ _ ha) λkeep kp=>wq {λi τ l=>∃rks:aal,∃c3 c4 c5,τ=[some<|Y.ref a,some<|.int s,some<|Y.ref g,c3,c4,c5]/\l=qk L g (.lst<|rks.map Y.int)/\rks.l=i/\aek U rks,{[],_,_,_,rfl,rfl,rfl,λp _ _ _ hp=>by cases hp},?_,?_,?_}
 .rintro i τ l ⟨rks,c3,c4,c5,rfl,rfl,_⟩;exact kp _ (by rw[qe a1,qe a1])
 .rintro i y τ l hy ⟨rks,c3,c4,c5,rfl,rfl,C,T⟩;obtain⟨z,ez,rfl⟩:=om hy;rw[Al] at ez;obtain⟨k,ek,rfl⟩:=Au.j ez;have hi:=zy ek;refine{s,i,39373,rfl,Bb _,'m',∅,∅,λv h0 h1=>?_};have a2:(rks.y Y.int).l=i:=by rw[Ac];exact C
  refine{show(0:Int)<40 by decide,λa3 l=>∃r:Int,a3=[some<|Y.ref a,some<|.int s,some<|Y.ref g,some<|.int (i:Nat),some<|qG k,some<|.int r]/\l=qk L g (.lst<|rks.map Y.int)/\∀e i j,k=some (.nd e i j)->rks.getD i 0<r/\rks.getD j 0<r,?_,?_}
  .cases k with
   |none=>exact absurd ek<|all i
   |some k=>
    cases k with
    |lf t n=>exact{v % 40,rfl,rfl,λe i j z=>by cases z}
    |nd e p1 p2=>
     obtain⟨l1,l2⟩:=ok _ _ _ _ ek;have g1:=jh<|yT (rks:=rks) (i:=p1) 's';have g2:=jh<|yT (rks:=rks) (i:=p2) 's';refine qa q9<|qg g1 ?_;refine qa q9<|qg g2 ?_;refine{v % 40+1+max (rks.getD p1 0) (rks.getD p2 0),rfl,rfl,λe' i' j' z=>?_};cases z;constructor<;>lia
  .rintro a3 l ⟨r,rfl,rfl,hr⟩;refine qa q9 (qo q9 {by rw[a2];exact big _ 's',?_});refine{_,ET _,rks++[r],_,_,_,rfl,?_,by rw[Ab,C];rfl,aek.snoc ok T ([C]≈ek) hr};rw[vn,Ax];rfl
 .rintro τ l ⟨rks,c3,c4,c5,rfl,rfl,C,T⟩;rw[li,Ac] at C;have s1:qh L (qk L g<|.lst<|rks.map Y.int):=By I;refine qa (s1 _ _ ha) ?_;have lo:(wm U).l=U.l:=Ac ..;refine{{Bb _,by rw[lo];lia},λp hp=>qo q9 ?_};have a5:=ku q9 hp;have ac:=ku (s1 _ _ hP) hp;have al:=ku hP I;refine{U.l,rks,g,by rw[Bx,lo],rfl,(qe a5).t q9,C,hz,(qe ac).t<|(qe al).t hP,λD qs hD pm pw=>?_};have ar:=kc hD;have au:=kc ar;refine{qk L D<|.lst<|nY qs,λb o e=>?_,q D qs au pm<|W6 ok T C pw};by_cases c:b=D
  .subst c;rw[q9] at e ⊢;exact e
  .rw[qe c] at e ⊢;rw[qe (λz=>by subst z;rw[kc hp] at e;cases e),qe (λz=>by subst z;rw[I] at e;cases e)];exact e
def wZ(y:Y)(l:_T):rf (y::l) (some 1) none=l:=by
 unfold rf;have e:Os (y::l).l 0 (some 1)=1:=by show min 1 (l.l+1)=1;lia
 rw[e];show(l.u<|l.length+1-1)=l;rw[Nat.add_sub_cancel,Bp]
def Mq(y:Y)(l:_T):¬(Os (y::l).l 0 (some 1)=0/\Os (y::l).l (y::l).l none=(y::l).l):=λz=>by
 have e:Os (y::l).l 0 (some 1)=1:=by show min 1 (l.l+1)=1;lia
 rw[e] at z;exact absurd z.1 ∅
def G7:Ru->Str
 |.link _ _ => "link"
 |.ei _ _ => "either"
 |.bo _ _ _ => "both"
 |.cu _ _ _ _ => "cut"
def u4(A:Ru):qx A=.tup (.str (G7 A)::(nY (plR A)++(jd A).y qx)):=by cases A<;>rfl
inductive pV(n:Nat)(ys:_T)(L:qm)(Q:YK):Prop
 |mk:∀R:Ru,∀d,∀kvs:List (jk×Y),∀f:aao,(ys=[qx R,.ref d])->(L d=some (._c kvs))->((∀B∈ko R,∀x∈plR B,wo kvs (.inl (x:Int))=some (.int (f x:Int))))->(zq R<=n)->(Q (qx<|iT f R) L)->pV n ys L Q
def Mr{P:aah}{I:List Ru}(h:(nY P++I.y qx)[i]?=some y):(i<P.l/\∃x,P[i]?=some x/\y=.int (x:Int))\/(P.l<=i/\∃B,I[i-P.l]?=some B/\y=qx B):=by
 by_cases c:i<P.l
 .rw[AG ([we]≈c)] at h;exact .inl {c,lW h}
 .rw[AH (by rw[we];lia),we,Al] at h;obtain⟨B,e,z⟩:=Au.j h;exact .inr {'s',B,e,z.L}
def SR.pl{E:aah}(h:SR ks R E):∀B∈ko R,∀x∈plR B,x<ks.l:=λB J x I=>by
 obtain⟨⟨o,s⟩,_⟩:=h.rls B J;have l:=s.lt;cases s with
 |link=>exact l x I
 |ei=>rw[Ak.j I];exact l _<|Ag ..
 |bo=>rw[Ak.j I];exact l _<|Ag ..
 |cu U g h3 j=>
  obtain rfl|I:=Ao.j I
  .exact l _<|An _<|U.sub _ h3
  .rw[Ak.j I];exact l _<|Ai _<|g.sub _ j
def G8(f:aao):Kn->Kn
 |.lf t n=>.lf t n
 |.nd e i j=>.nd e (f i)<|f j
def X5(f:aao)(k:Kn):og f (some k)=some (G8 f k):=by cases k<;>rfl
inductive fN(Pt:Addr)(ys:_T)(L:qm)(Q:YK):Prop
 |mk:∀a,∀ks:On,∀R:Ru,∀E:aah,∀s:Int,(ys=[.ref a,qx R,.int s])->(L a=⇑(x8 ks))->(eG ks)->(SR ks R E)->((told R).C<|List.range ks.l)->(ks.l<=96)->(L Pt=some (.tb _R))->(∀w f ir,L w=none->ir.length=ks.l->Ren f (ks.y some) (ir.y some)->Q (.tup [.ref w,qx<|iT f R]) (qk L w<|.lst<|x8 ir))->fN Pt ys L Q
inductive IB(L:qm)(ks:List<|GT)(qs:aah)(a d w D:Addr)(R:Ru)(s:Int)(i:Nat)(τ:jm)(L':qm):Prop
 |mk (f:aao) (ms:On) (kvs:List<|jk×Y) (c5 c6:_C):τ=[↑a,some<|qx R,some<|.int s,↑d,↑w,c5,c6]->Mf L ks qs d w D i 0 f (ms.y some) kvs L'->ms.length=i->IB L ks qs a d w D R s i τ L'
theorem X6{MS:vh}(hM:∀ys L Q,pV 120 ys L Q->MS ys L Q):_f (fN Pt) (rB (iM Pt) MS) 7:=by
 rintro ys L Q ⟨a,C,R,E,s,rfl,ha,au,sr,tp,hz,hP,q⟩;have big:=a_;obtain⟨j,l⟩:∃j,j=C.y some:={_,rfl};have av:j.l=C.l:=by rw[l,Ac]
 have ok:D_ j:=by rw[l];exact Xo au
 intro d hd w hw;have a4:=kc hw;have T:=ku q9 hw;have s0:qh L (qk (qk L d<|._c []) w<|.lst []):=(By hd).t<|By hw;refine{a,C,s,rfl,s0 _ _ ha,by rw[<-l];exact ok,'s',s0 _ _ hP,λD I hD pm pf=>?_};rw[<-l] at pm pf;have a5:=ku q9 hD;have ac:=ku ((qe T).t q9) hD;have lq:I.l=j.l:=by rw[pm.f,Bm]
 have aL:=pm.nodup_iff.d Ct;have mq:∀p∈I,p<j.l:=λp hp=>Bg.mp<|pm.mem_iff.mp hp;have G0:Mf L j I d w D 0 0 (λ_=>0) (([]:On).y some) [] (qk (qk (qk L d<|._c []) w<|.lst []) D<|.lst<|nY I):=
  ⟨s0.t<|By hD,(qe ac).t<|(qe T).t q9,(qe a5).t q9,q9,Ap _,λp=>rfl,Gap.nil _ _,Ap _⟩
 refine xi q9 λkeep kp=>wq {IB L j I a d w D R s,{_,[],_,_,_,rfl,G0,rfl},?_,?_,?_}
 .rintro i τ L' ⟨f,J,U,c5,c6,rfl,G,_⟩;exact kp L' (by rw[G.hD,q9])
 .rintro i y τ L' hy ⟨f,J,U,c5,c6,rfl,G,lm⟩;obtain⟨p,ep,rfl⟩:=lW hy;have hi:=zy ep;have hp:=mq p<|AD ep;obtain⟨k,hk⟩:∃k,C[p]?=some k:={_,Ah 's'};have al:j[p]?=some (some k):=by rw[l,Al,hk];rfl
  have pn:p∉I.u i:=λhm=>by
   have e2:I=I.u i++p::I.G (i+1):=by rw[Ah hi] at ep;rw[<-AV ep,CS,A1]
   have nd:=aL;rw[e2] at nd;exact(Aw.j nd).2.2 p hm p (Ag ..) rfl
  have et:I.u (i+1)=I.u i++[p]:=by rw[Bh,ep];rfl
  have a1:∀e i' j',some k=some (.nd e i' j')->i'∈I.u i/\j'∈I.u i:=λe i' j' z=>ox ok pm pf ep (by rw[al,z]);have a2:∀x∈I.u i,∀e i' j',j[x]?=some (some<|.nd e i' j')->i'∈I.u i/\j'∈I.u i:=λx hx e i' j' z=>by
   obtain⟨n,hn⟩:=DK hx;have ba:=zy hn;rw[A2] at ba;rw[De 's'] at hn;obtain⟨h1,h2⟩:=ox ok pm pf hn z;have sb:∀y,y∈I.u n->y∈I.u i:=λy hy=>by
    have:I.u n=(I.u i).u n:=by rw[List.take_take,CU 's']
    rw[this] at hy;exact BO hy
   exact{sb _ h1,sb _ h2}
  have ar:L' w=⇑(x8 J):=by rw[G.hw,v9]
  have vp:∀y:Nat,wo (iS U (.inl (p:Int))<|.int J.l⁻¹) (.inl (y:Int))=if y∈I.u i++[p] then some (.int (if y=p then J.l else f y)⁻¹) else none:=λy=>by
   rw[pF];by_cases e:y=p
   .subst e;rw[AF rfl,AF rfl,AF<|Ai _<|Ak.mpr rfl]
   .rw[Az λz=>e<|A6.mp<|Fi z,Az e,G.val];by_cases h:y∈I.u i
    .rw[AF h,AF<|An _ h]
    .rw[Az h,Az λz=>(Am.j z).r h λz=>e<|Ak.mp z]
  have kl:=G.len;have o:(x8 J).l=J.l:=Ac ..;refine qa ar ?_;rw[o];refine x4 G.hd {big _ 's',?_};have bb:=ku ha hd;refine qa ((qe bb).t<|G.sub _ _ ha)<|qg (j7 hk) ?_;have a3:qk L' d (._c<|iS U (.inl (p:Int))<|.int J.l⁻¹) w=⇑(x8 J):=(qe<|AN T).t ar;have hb:∀x∈I.u i,x<j.l:=λx hx=>mq x<|BO hx;have em:(J++[G8 f k]).y some=J.y some++[og f<|some k]:=by rw[X5,Ax];rfl
  have done:jA (IB L j I a d w D R s<|i+1) [↑a,some<|qx R,some<|.int s,↑d,↑w,some<|.int (p:Int),some<|aA k] (qk (qk L' d<|._c<|iS U (.inl (p:Int))<|.int J.l⁻¹) w<|.lst<|x8 J++[aA<|G8 f k]):=by
   refine{_,ET _,λx=>if x=p then J.l else f x,J++[G8 f k],_,_,_,rfl,{(G.sub.upd hd).upd a4,(qe T).t q9,?_,(qe<|AN a5).t<|(qe<|AN ac).t G.hD,?_,λy=>?_,?_,?_},by rw[Ab,lm];rfl}
   .rw[q9,v9];unfold x8;rw[Ax];rfl
   .have:=pO U (.inl (p:Int))<|.int J.l⁻¹;lia
   .rw[et];exact vp y
   .rw[et,em];have:=G.gap.step hb pn al a2 a1;rw[Ac] at this;exact this
   .rw[Ac,Ab,lm];show i+1<=_;lia
  refine qa a3 ?_;cases k with
  |lf t n=>exact qo a3 {by rw[o];exact big _ 's',done}
  |nd e p1 p2=>
   obtain⟨m1,m2⟩:=a1 e p1 p2 rfl;have v1:=vp p1;have v2:=vp p2;rw[AF<|An _ m1,Az λ(z:p1=p)=>pn<|z▸m1] at v1;rw[AF<|An _ m2,Az λ(z:p2=p)=>pn<|z▸m2] at v2;refine x4 ((q9:qk L' d _ d=some _))<|qg v1 ?_;refine x4 ((q9:qk L' d _ d=some _))<|qg v2 ?_;exact qo a3 {by rw[o];exact big _ 's',done}
 .rintro τ L' ⟨f,J,U,c5,c6,rfl,G,lm⟩;have eq:(nY I).l=I.l:=Ac ..;rw[eq] at G lm;have et:I.u I.l=I:=Bp;have val:∀p,p<j.l->wo U (.inl (p:Int))=some (.int (f p:Int)):=λp hp=>by rw[G.val,et,AF<|pm.mem_iff.mpr<|Bg.mpr hp]
  have gap:Gap j (List.range j.l) f (J.y some):=by have g:=G.gap;rw[et] at g;exact{λp hp=>g.at_ p<|pm.mem_iff.mpr hp,λp hp r hr=>g.inj p (pm.mem_iff.d hp) r<|pm.mem_iff.mpr hr,λx k hx=>let ⟨r,hr,e⟩:=g.only x k hx;⟨r,pm.mem_iff.j hr,e⟩,g.ok}
  have rd:=kh R;have tl:=tp.f;rw[Bm] at tl;refine hM _ _ _ {R,d,U,f,rfl,G.hd,λB hB x hx=>val x ([av]≈sr.pl B hB x hx),'s',?_};refine eM (qh.put G.sub (by rw[G.hw,v9])) (q w f J a4 's' {by rw[<-l];exact gap,by rw[Ac,Ac];lia})
def Ms(l:vh)(J:vh)(U:vh)(g:vh)(o:vh)(I:vh):RD "_law_tree" m6 128 ["_law_cells","_law_seed","_law_room","_law_knots","_law_forest","_law_k","_law_cell","_law_one","_law_two","_law_deed","_law_at"] (λV=>K6 V l/\K7 V J/\K9 V U/\K8 V g/\K_ V o/\K' V I):={_,λV B c _ _ _ _ _ _ _ p hN r=>(qb (S_ 3 hN<|zd vj)<|qb (S_ 4 hN<|zd vj)<|qb (aB yp rfl (uD rfl B.bn<|qv 0) (bB (n:=2) rfl<|zf (G_ 5 hN)<|zf (G_ 6 hN) wn)<|qb (Kk (i:=7) (j:=8) rfl hN rfl rfl ∅ rfl rfl (vo (C_ c.1 p<|aI (qv 6) (qv 5) qc)<|C_ c.1 p<|aI (qv 6) (qv 5) qc) rfl)<|qb (zc (xb FJ (qj ju (qj ju (L_ B.ba<|qv 3)<|L_ B.ba<|qv 4) qc) (qv 2)<|vz _) (qd vD) qy)<|qb (S_ 9 hN<|qj zn (qv 7) qc)<|qb (S_ 7 hN<|qj xa (qv 7) qc)<|qd<|zc (bC<|vO (xb oA (qv 9) qc<|vz _)<|uC<|E_ r (qv 4)<|zd vj) (qb (zb<|zu (qv 3)<|jz<|qw<|vo qz<|C_ c.2.1 p<|vo (qv 1)<|qj zn (qv 8) qc)<|qb (zb<|zu (qv 3)<|jz<|qw<|vo qz<|C_ c.2.1 p<|vo (qv 1)<|qj zn (qv 8) qc)<|vm (zc (E_ r (qj zn (qv 7) qc) qc) (qd<|zb<|zu (qv 3)<|jz<|fB (qv 3)<|jz<|qj aG (L_ B.ba<|qv 3) qc) qy)<|qb (S_ 10 hN<|qj aG (L_ B.ba<|qv 3) qc)<|qd<|zb<|zu (qv 4)<|jz<|zd<|vo (qw<|aI qz (qv 10)<|qj ju (qv 10) qc)<|zd<|vo (qv 10)<|qj ju (qv 10) qc)<|qd<|zc (xb oA (qv 9) qc<|vz _) (qd<|zb<|C_ c.2.2.1 p<|jl (qv 3)<|aI (I_ (qv 4)<|qj zn (qv 8)<|L_ B.ba<|qv 4) (qv 7)<|qj xa (qv 8) qc)<|qd<|zc (bC<|bA (xb oA (qv 9) qc<|vz _)<|wv<|xb FJ (L_ B.ba<|qv 4) qc<|vz _) (qd<|zb<|C_ c.2.2.2.1 p<|jl (qv 3)<|aI (qv 4) (qv 7)<|qv 8)<|qd<|zb<|C_ c.2.2.2.2.1 p<|jl (qv 3)<|aI (qv 4) (qv 7)<|qv 8)<|vm (zc (E_ r (qv 4)<|zd vj) (qb (zb<|zu (qv 3)<|jz<|qw<|vo qz<|C_ c.2.1 p<|vo (qv 1) qc)<|qb (zb<|zu (qv 3)<|jz<|qw<|vo qz<|C_ c.2.1 p<|vo (qv 1) qc)<|qd<|zb<|zu (qv 4)<|jz<|zd<|vo (qw<|aI qz qc qc)<|zd<|vo qc qc) qy)<|qb (jH yp (xb FJ (L_ B.ba<|qv 4) qc<|vz _)<|qd<|zb<|C_ c.2.2.2.1 p<|jl (qv 3)<|aI (qv 4) (qj ju (qj xa (qv 1) qc)<|L_ B.ba<|qv 4)<|qj xa (qv 1) qc)<|qd<|qt<|C_ c.2.2.2.2.2 p<|aI (qv 3) (I_ (J_ 4) qc)<|qv 1)}
inductive lC(Pt:Addr)(ys:_T)(L:qm)(Q:YK):Prop
 |mk:∀cy,∀ns:aal,∀s:Int,∀room:Nat,(ys=[.ref cy,.int s,.int (room:Int)])->(L cy=⇑(ns.y Y.int))->(ns.l<=1000)->(room<=96)->(L Pt=some (.tb _R))->(∀w ks R E,L w=none->nR ks R E->(told R).C (List.range ks.l)->Q (.tup [.ref w,qx R]) (qk L w<|.lst<|x8 ks))->lC Pt ys L Q
def X7 :_f (lC Pt) (Ms rL kK jS oE oO<|fN Pt).1 11:=by
 rintro ys L Q ⟨cy,ns,s,room,rfl,al,bg,bc,hP,q⟩;have big:=a_;have J:∀fo:_M,(x5 fo).l=fo.l:=λfo=>Ac ..;have l:∀I:On,(x8 I).l=I.l:=λI=>Ac ..;intro U ar g au;have nkf:=ku q9 au;have aL:=(By ar).none au;have F0:uz L (qk (qk L U<|.lst []) g<|.lst []) U g [] []:=by
  refine{{by rw[qe nkf];exact q9,λt ht=>by simp at ht,λt ht=>by simp at ht,'r','r',by simp[nkf],λp k e=>by simp at e,(By ar).t<|By au,λx hx=>?_},q9};obtain rfl|hx:=Ao.j hx
  .exact ar
  .rw[Ak.j hx];exact aL
 generalize qk (qk L U<|.lst []) g (.lst [])=L1 at F0;refine xi (F0.b.sub _ _ al) λkeep kp=>wq {λ_ τ L'=>TW L U g s room room (λ_=>True) τ L',?_,?_,?_,?_}
 .exact TW.of F0<|A7 _
 .rintro i τ L' ⟨c0,c5,c6,c7,c8,c9,ac,I,fo,rfl,F,_,hb⟩;exact kp L' (by rw[F.b.sub _ _ al,F0.b.sub _ _ al])
 .rintro i y τ L' ey ⟨c0,c5,c6,c7,c8,c9,ac,I,fo,rfl,F,_,hb⟩;obtain⟨z,ez,rfl⟩:=om ey;obtain⟨cell,ec,rfl⟩:∃cell:Int,ns[i]?=some cell/\z=Y.int cell:=by rw[Al] at ez;obtain⟨z,e1,e2⟩:=Au.j ez;exact{(z),e1,e2.L}
  have hi:=(A3.j ec).1;refine{cell,i⁻¹,48271,rfl,Bb _,'m',∅,∅,λone h1 bh=>{cell,i⁻¹,69621,rfl,Bb _,'m',∅,∅,λtwo h2 bi=>?_}};refine qa F.b.hk<|qa F.hf ?_;refine qr (λc=>?_) λc=>?_
  .exact{_,ET _,TW.of F hb}
  have c:=c;rw[l,J] at c;refine{(∅:(0:Int)<9),{∅,∅},?_};refine qr (λc3=>?_) λc3=>?_
  case' refine_1=>
   obtain⟨L2,ba⟩:∃L2,L2=L':={_,rfl};rw[<-ba];have F':uz L L2 U g I fo:=by rw[ba];exact F
  case' refine_2=>
   intro p hp;refine aq ∅ (By hp _ _ F.hf) q9 ((F.b.mono<|By hp).dats 's') (.nil:Paired (j6 _ 0) _ []) ?_;rw[Me];have F':uz L (qk L' p<|.lst []) U g I fo:=F.mono<|By hp;generalize qk L' p (.lst [])=L2 at F';refine qr (λc0=>?_) λc0=>?_
  case' refine_2.refine_2=>
   have bd:0<fo.l:=by cases fo with|nil=>exact absurd rfl c0|cons _ _=>simp
   have F:=F';refine qr (λc6=>?_) λc6=>?_
   .obtain⟨j,t,ej,lj,et⟩:=dm bd two;refine qa F.hf {(by rw[J];lia),qa F.hf (qg (v:=.ref t.a) ([J,ej]≈jh (by unfold x5;rw[Al,et];rfl)) ?_)};obtain⟨pre,post,ep⟩:=Cm<|AD et;rw[ep] at F hb;refine{{∅,∅},L,U,g,I,pre,post,t,one / 9,two / 64,rfl,F,'s',λL3 C a1 F3 h1 h2 _=>?_};refine{_,ET _,?_};exact TW.of F3 (by rw[ep] at c;lia)
   refine qr (λc8=>?_) λc8=>?_
   .refine qa F.hf ?_;refine qr (λc1=>?_) λc1=>?_
    .have c1:=c1;rw[J] at c1;refine{L,U,g,I,fo,one / 9,two,rfl,F,'s','s','s',λL3 C a1 F3 h1 h2 _=>?_};refine{_,ET _,?_};exact TW.of F3 's'
    .refine{L,U,g,I,fo,one / 9,two,rfl,F,'p','s','s',λL3 C a1 F3 h1 h2 h3=>?_};refine{_,ET _,?_};exact TW.of F3 's'
   .refine{L,U,g,I,fo,one / 9,two,rfl,F,'s','s','s',λL3 C a1 F3 h1 h2 h3=>?_};refine{_,ET _,?_};exact TW.of F3 's'
  all_goals
   obtain⟨nm,a2⟩:∃nm,nm=x_ (bX s<|two % 3):={_,rfl};have av:fK nm:=by rw[a2];exact xS _ _
   refine qa F'.b.hk {(∅:(0:Int)<3),s,two % 3,rfl,qo F'.b.hk {big _ (by rw[l];omega),?_}};refine qa q9 {(∅:(0:Int)<3),s,two % 3,rfl,qo q9 {big _ (by rw[Ab,l];simp;omega),?_}};rw[<-a2,vn];have e1:(x8 I++[.tup [.str "plain",.str nm]])++[.tup [.str "turned",.str nm]]=x8 (I++[.lf false nm,.lf true nm]):=by unfold x8;rw[Ax,AB];rfl
   rw[e1];refine{λτ L3=>∃(b:Bool) (d0 d10:_C),τ=[d0,some<|.int s,some<|.int (room:Int),↑U,↑g,some<|.int i⁻¹,some<|.int cell,some<|.int<|one / 9,some<|.int two,some<|.int<|one % 9,d10]/\L3=qk L2 U (.lst<|x8<|I++[.lf b nm,.lf (!b) nm]),?_,?_}
   .refine{(∅:(0:Int)<2),?_};refine qr (λc2=>?_) λc2=>?_
    .have l2:(x8<|I++[Kn.lf false nm,.lf true nm]).l=I.l+2:=by rw[l,Ab];rfl
     have t2:(((x8<|I++[Kn.lf false nm,.lf true nm]).l)⁻¹-2).B=I.l:=by rw[l2];omega
     refine qa q9<|qa q9<|qa q9<|qo q9 {?_,?_,qg (v:=aA<|.lf false nm) ?_ ?_}
     .show(0:Int)<=((x8<|I++[Kn.lf false nm,.lf true nm]).l)⁻¹-2;rw[l2];omega
     .show((x8<|I++[Kn.lf false nm,.lf true nm]).l)⁻¹-2<_;omega
     .show(x8<|I++[Kn.lf false nm,.lf true nm])[(((x8<|I++[Kn.lf false nm,.lf true nm]).l)⁻¹-2).B]?=_;rw[t2];rw[Al,gi];rfl
     .rw[vn];refine qo q9 {big _ ?_,?_}
      .refine AQ (Do ..) ?_;rw[l2];omega
      .refine{true,_,_,rfl,?_};rw[vn];have e3:(x8<|I++[Kn.lf false nm,.lf true nm]).n (((x8<|I++[Kn.lf false nm,.lf true nm]).l)⁻¹-2).B++[aA<|.lf false nm]=x8 (I++[.lf true nm,.lf false nm]):=by rw[t2];unfold x8;rw[Ax,List.eraseIdx_append_of_length_le 'r',Ac,C3,Ax,AB];rfl
       rw[e3];rfl
    .exact{false,_,_,rfl,rfl}
   .rintro bj L3 ⟨b,d0,d10,rfl,rfl⟩;have l2:(x8<|I++[Kn.lf b nm,.lf (!b) nm]).l=I.l+2:=by rw[l,Ab];rfl
    have nn:((x8<|I++[Kn.lf b nm,.lf (!b) nm]).l)⁻¹-2=I.l⁻¹:=by rw[l2];omega
    have a3:qk L2 U (.lst<|x8<|I++[.lf b nm,.lf (!b) nm]) g=⇑(x5 fo):=by rw[qe<|AN nkf];exact F'.hf
    have en:∀z:Int,z=I.l⁻¹->jr [I.l,I.l+1]=[.int z,.int<|z+1]:=λz e=>by rw[e];rfl
    have er:∀z:Int,z=I.l⁻¹->qx (.link I.l<|I.length+1)=.tup [.str "link",.int z,.int<|z+1]:=λz e=>by rw[e];rfl
    have en:=en _ nn;have er:=er _ nn;refine qa q9<|qa a3 λpb a4 pa a5=>?_;have H:=F'.link av b (pb:=pb) (pa:=pa) a4 ([en]≈a5) rfl;refine qo (((By a4).t<|By a5) _ _ a3) {big _ (by rw[J];omega),?_};rw[en,er] at H;refine{_,ET _,?_};exact TW.of H (by rw[Ab,Ab];simp;omega)
 .rintro τ L' ⟨c0,c5,c6,c7,c8,c9,ac,I,fo,rfl,F,_,hb⟩;refine{TW L U g s room (max room 3) (1<=·),?_,?_}
  .intro p hp;refine aq ∅ (By hp _ _ F.hf) q9 ((F.b.mono<|By hp).dats 's') (.nil:Paired (j6 _ 0) _ []) ?_;rw[Me];have F':uz L (qk L' p<|.lst []) U g I fo:=F.mono<|By hp;generalize qk L' p (.lst [])=L2 at F';refine qr (λc0=>?_) λc0=>?_
   .subst c0;have k0:I=[]:=by cases I with|nil=>rfl|cons k r=>exact absurd ((F.b.tm 0).d 'r') 'r'
    subst k0;obtain⟨nm,a2⟩:∃nm,nm=x_ (bX s 0):={_,rfl};have av:fK nm:=by rw[a2];exact xS _ _
    refine qa F'.b.hk {s,0,rfl,qo F'.b.hk {big _ ∅,?_}};refine qa q9 {s,0,rfl,qo q9 {big _ (by show 1<=20000;decide),?_}};rw[<-a2,vn];have a3:∀o,qk L2 U o g=⇑(x5 []):=λo=>by rw[qe<|AN nkf];exact F'.hf
    refine qa (a3 _) λpb a4 pa a5=>?_;have H:=F'.link av true (pb:=pb) (pa:=pa) a4 a5 rfl;refine qo (((By a4).t<|By a5) _ _<|a3 _) {big _ ∅,?_};exact{_,_,_,_,_,_,_,_,_,rfl,H,'r','l'}
   .exact{_,_,_,_,_,_,_,I,fo,rfl,F',(by cases fo with|nil=>exact absurd rfl c0|cons _ _=>simp),'s'}
  .rintro τ L' ⟨c0,c5,c6,c7,c8,c9,ac,I,fo,rfl,F,h1,hb⟩;refine{λm=>TW L U g s room (max room 3) λj=>1<=j/\j=m,{_,_,_,_,_,_,_,_,_,_,rfl,F,{(h1),rfl},hb},?_};rintro m τ L' ⟨c0,c5,c6,c7,c8,c9,ac,I,fo,rfl,F,⟨h1,hm⟩,hb⟩;refine qa F.hf ?_;refine qr (λc1=>?_) λc1=>?_
   .have c1:=c1;rw[J] at c1;refine{λτ L3=>∃m',m'<m/\TW L U g s room (max room 3) (λj=>1<=j/\j=m') τ L3,λτ L3 h=>h,?_};refine{{∅,∅},qa F.hf {{∅,∅},L,U,g,I,fo,_,_,rfl,F,'s','s','s',λL3 C a1 F3 g1 g2 _=>?_}};exact{_,ET _,a1.l,'s',_,_,_,_,_,_,_,C,a1,rfl,F3,{'s',rfl},'s'}
   .have c1:=c1;rw[J] at c1;obtain⟨t,rfl⟩:∃t,fo=[t]:=by
     match fo,h1,c1 with
     |[t],_,_=>exact{(t),rfl}
     |t::u::r,_,c=>exact absurd (show((t::u::r).l)⁻¹ > 1 by simp;lia) c
    have ta:=(F.b.ht t<|Ag ..).1;refine qa F.hf<|qa ta ?_;have tp:(told t.R).C (List.range I.l):=by have nd:=F.b.nd;have tm:=F.b.tm;simp at nd tm;exact(AU nd Ct).d λx=>by rw[tm,Bg]
    have sr:=F.b.sr t<|Ag ..;have hk:I.l<=96:=by simp at hb;lia
    refine{U,I,t.R,t.E,s,rfl,F.b.hk,F.b.ok,sr,tp,hk,F.b.sub _ _ hP,λw f C bb lk rn=>?_};obtain⟨T,bf⟩:=nR.ren F.b.ok sr tp hk rn lk;exact eM (qh.put (F.b.sub.t<|By bb) q9)<|q w C _ _ (F.b.sub.none bb) T bf
def X8(x y:Y)(L:qm)(Q:YK):Prop:=(x=.GM/\(∃ys,y=.tup ys)/\Q (.bl false) L)\/f_ false x y L Q
def X9(K:Aj)(P:aas)(w:aat)(o:X.A.units+128<cLine)(C:X.K=K:=by rfl)(T:X.i=P:=by rfl)(hw:X.w=w:=by rfl):kz X (compareOp .Eq) (fz ⟨K,P,w⟩ X8):=by
 subst C T hw;rintro J s U H x y v u Q I g j ⟨x3,y3,L,Q3,a,b,l,z,k⟩;rcases z with⟨rfl,⟨ys,rfl⟩,z⟩|z
 .cases a;obtain⟨p,xs,rfl,sq,r⟩:=b;cases g;cases j;obtain⟨a1,_,t,_⟩:=I.tuple sq;exact SeqAt.RcAt.none_tuple t 's' X.i X.w X.xe (EP X J U Q) {.bl false,H,I,rfl,k _ H _ L (EU _) l 'o' z}
 .exact sQ X.K X.i X.w o rfl rfl rfl J s U H x y v u Q I g j {(x3),y3,L,Q3,a,b,l,z,k}
def Yb{a b:aak}{t u:TS}{pos:Pos}(hc:PT {X with N:=X.N.O i x} c tc)(p:i7 X a t)(r:i7 X b u):PS X (.If c a b pos) (λD σ H=>Jn tc t u D (σ.O i none) H):=by
 intro J s σ H D I h;have C:za {X with N:=X.N.O i x} J (σ.O i none) H s:=I.ren _ (by rw[Bq]) (by rw[Bq]) λj v e=>by obtain⟨a,b⟩:=jC e;exact{b,by rw[AX<|AN a]}
 refine wpAny_If<|aY (hc J s (σ.O i none) H _ C h) λd U ⟨g,T,l⟩=>?_;have o:=za.ren (X:={X with N:=X.N.O i x}) X.N T (by rw[Bq]) rfl λj v e=>by obtain⟨a,b⟩:=jC e;exact{e,by rw[AX<|AN a]}
 cases d with|true=>exact p J U _ g D o l|false=>exact r J U _ g D o l
def Mt(i:Nat)(tA:jB)(t u:aa)(D:v5)(τ:jm)(L:qm):Prop:=xr tA t u D (eI τ i) L
def Yc(x:Str){kb:aak}{t u:aa}{pos:Pos}(h:QT {X with N:=X.N.O i x} c tA)(o:sg X body t)(p:sg X kb u):QS X (.If c body kb pos) (Mt i tA t u):=E5 (Yb h o p) λD C H U L g rs r z k=>
 ⟨eI U i,L,_,rs.forget i,r,z,λc T j J I l=>by cases c with|true=>rw[AF rfl];exact{eI U i,j,g,(rs.forget i).ts J,I,l,k.ts J}|false=>rw[Az AI];exact{eI U i,j,g,(rs.forget i).ts J,I,l,k.ts J}⟩
section
open PySem.W
section
variable {K:Aj}(T:K.e Pt=some (PySem.W.tabObj #[]))
include T
def yx :clsIn 'b' C=clsIn K C:=by
 unfold clsIn;by_cases d:C=Pt
 .subst d;rw[wb,T]
 .rw[vg d]
def Mu{b:aaq}:mroIn 'b' C b=mroIn K C b:=by unfold mroIn;rw[yx T]
def um{t b:aaq}:subIn 'b' t b=subIn K t b:=by
 unfold subIn;split
 .rfl
 .exact Mu T
 .rfl
def yy{i:aav} :specialIn 'b' (.builtin i) x=specialIn K (.builtin i) x:=by unfold specialIn typeIn;congr 1;funext t;exact jD T
def Yd{i:aav}:takesIn 'b' (.builtin i)=takesIn K (.builtin i):=by unfold takesIn;rw[yy T,yy T]
def sh{t c:aaq}{b:Bool}(e:kitCls K t c=some b):kitCls 'b' t c=some b:=by
 unfold kitCls at e ⊢;split at e
 .rename_i C;have n:C≠Pt:=by rintro rfl;unfold clsIn at e;rw[T] at e;cases e
  have h:typeIn 'b' (.ref C)=typeIn K (.ref C):=by show(List.lookup C<|GE Pt K).y _=(List.lookup C K).y _;rw[vg n]
  rw[yx T,um T,h];exact e
 .rw[um T];exact e
 .cases e
def iH{t c:aaq}{b:Bool}(e:kitOne K t c=some b):kitOne 'b' t c=some b:=by
 unfold kitOne at e ⊢;split at e
 .rename_i h;rw[AF h];exact e
 .rename_i h;rw[Az h];exact sh T e
theorem mM{t:aaq}{b:Bool}:∀{l:aaf},kitAny K t l=some b->kitAny 'b' t l=some b
 |[],e=>e
 |c::r,e=>by
  unfold kitAny at e ⊢;split at e
  .rename_i h;rw[iH T h];exact e
  .rename_i h;rw[iH T h];exact mM e
  .cases e
def Ye{t c:aaq}{b:Bool}(e:exmOne K t c=some b):exmOne 'b' t c=some b:=by
 unfold exmOne at e ⊢;rw[um T];split at e
 .rename_i h;rw[AF h];exact sh T e
 .cases e
def Yg(x:Fm K C):Fm 'b' C:=by obtain⟨⟨ga,gt,cl,ge,tk,mo,be⟩,h⟩:=x;exact{{(jD T).t ga,(jD T).t gt,(jD T).t cl,(yy T).t ge,(Yd T).t tk,(Mu T).t mo,(um T).t be},by rw[yx T];exact h}
def Mv{N:Addr}:nsOkIn 'b' N=nsOkIn K N:=by
 unfold nsOkIn;by_cases d:N=Pt
 .subst d;rw[wb,T]
 .rw[vg d]
theorem Mw{bm:aaf}:∀l:aaf,tailIn 'b' bm l=tailIn K bm l
 |[]=>rfl
 |v::r=>by
  unfold tailIn;congr 1;split
  .rename_i A;by_cases d:A=Pt
   .subst d;rw[wb,T]
   .rw[vg d];split
    .rw[Mv T,Re T rfl,Mw r]
    .rfl
  .rfl
def exc_dn{bm:aaf}{i:aav}(e:excIn K C bm i=true):excIn 'b' C bm i=true:=by
 unfold excIn at e ⊢;by_cases d:C=Pt
 .subst d;rw[T] at e;cases e
 .rw[vg d];split at e
  .split at e
   .rw[Mw T,Mv T,Re T rfl];exact e
   .cases e
  .cases e
end
section
variable {K:Aj}(T:K.e Pt=some (PySem.W.tabObj #[]))
include T
end
end
def wC(J:vh)(I:vh):RD "is_link" ss 122 ["knots","p","q"] (λV=>Ig V J/\KR V I):={_,λV B c _ _ _ _ _ _ _ U hN g=>(qb (zc (mG<|Vz qc<|tR HU (qv 1)<|tR oA (qv 2)<|Vy oA<|L_ B.ba<|qv 0) (qd<|qt aP) qy)<|qd<|qt<|gg (C_ c.2 U<|jz<|I_ (qv 0)<|qv 1)<|ig<|ak (X9 _ _ _ g) (I_ (qv 0)<|qv 2) (C_ c.1 U<|jz<|I_ (qv 0)<|qv 1)<|vz _)}
def IC(wd:List<|GT)(c:aap):Prop:=c.1<c.2/\∃t n,wd[c.1]?=some (some<|.lf t n)/\wd[c.2]?=some (some<|.lf (!t) n)
def ad0(wd:List<|GT)(c:Int×Int):Prop:=∃d,c=G5 d/\IC wd d
def ad0.nat{r:Nat}(h:ad0 wd ((p:Int),(r:Int))):IC wd (p,r):=by obtain⟨d,e,h⟩:=h;rw[hZ (p:=(p,r)) e];exact h
inductive iE(ys:_T)(L:qm)(Q:YK):Prop
 |mk:∀a,∀wd:List (GT),∀c:Int×Int,(ys=[.ref a,.int c.1,.int c.2])->(L a=⇑(wm wd))->(∀b:Bool,(b=true↔ad0 wd c)->Q (.bl b) L)->iE ys L Q
def bK{A:Prop}(h:¬A):false=true↔A:={nofun,λx=>(h x).r}
def Yh:_f iE (wC (bE 120) jU).1 3:=by
 rintro ys L Q ⟨a,I,⟨c1,J⟩,rfl,o,q⟩;cases c1 with
 |negSucc n=>exact jj (q false (bK λ⟨d,e,_⟩=>by have:Int.negSucc n=(d.1:Int):=A8 Prod.fst e;lia))
 |ofNat p=>
  refine ur (b:=decide<|(p:Int)<J) (λh1=>?_) λh1=>jj<|q false<|bK λh0=>?_
  .have h1:=of_decide_eq_true h1;refine qa o<|ur (b:=!decide (J<((wm I).l:Int))) (λh2=>jj<|q false<|bK λh0=>?_) λh2=>?_
   .obtain⟨d,e,_,t,n,_,U⟩:=h0;have e:J=(d.2:Int):=A8 Prod.snd e;have:=zy U;rw[iJ,AJ 's'] at h2;cases h2
   .have h2:J<((wm I).l:Int):=by
     obtain h|h:=Decidable.em (J<((wm I).l:Int))
     .exact h
     .rw[Ay h] at h2;cases h2
    rw[iJ] at h2;obtain⟨r,rfl⟩:=Int.eq_ofNat_of_zero_le (a:=J) 's';have g:I[p]?=some I[p]:=Ah 's';have l:I[r]?=some I[r]:=Ah 's';generalize I[p]=k at g;generalize I[r]=C at l;refine qa o<|qg (j7 g) {k,rfl,?_};have no:(∀t n,k=some (.lf t n)->C≠some (.lf (!t) n))->aR Q (.bl false) L:=λh=>jj (q false (bK λz=>by obtain⟨_,t,n,T,U⟩:=ad0.nat z;exact h t n (AV<|g.symm.trans T)<|AV<|l.symm.trans U))
    cases k with
    |none=>exact no nofun
    |some k=>
     cases k with
     |nd e i j=>exact no nofun
     |lf t n=>
      refine qa o<|qg (j7 l)<|qa o<|qg (j7 g) {.leaf t n,rfl,(show 1<=120 by decide),?_};cases C with
      |none=>exact .inl {rfl,{_,rfl},no nofun}
      |some C=>
       cases C with
       |nd e i j=>
        refine .inr {rfl,rfl,1,1,_,_,∅,vv<|.cons (EZ _)<|.cons (EY _)<|.cons (EY _) .nil,vv<|.cons (EZ _)<|.cons (EZ _) .nil,?_};show aR Q (.bl<|_&&(_&&false)) L;rw[DZ,DZ];exact no nofun
       |lf u m=>
        refine .inr<|oZ (u:=.leaf u m) (v:=.leaf (!t) n) (show 1<=128 by decide) ?_;show aR Q (.bl<|Da.eq _ _) L;refine jj<|q _ ?_;rw[LX,AS,decide_eq_true_eq,decide_eq_true_eq];constructor
        .rintro⟨rfl,rfl⟩;exact{(p,r),rfl,DW.j h1,t,m,g,l}
        .intro z;obtain⟨_,t',n',T,U⟩:=ad0.nat z;cases g.symm.t T;cases l.symm.t U;exact{(rfl),rfl}
  .obtain⟨d,e,z,_⟩:=h0;have T:(p:Int)=(d.1:Int):=A8 Prod.fst e;have U:J=(d.2:Int):=A8 Prod.snd e;exact of_decide_eq_false h1 's'
inductive m4(C:Addr)(ys:_T)(L:qm)(Q:YK)(E:Addr->qm->Prop):Prop
 |mk:∀b z,(ys=[.bl b,.str z])->((b=true->Q .GM L))->((b=false->E C L))->m4 C ys L Q E
def Yi:GT->Da
 |none=>.s<|cT .GM
 |some k=>Mg k
theorem uV{L:qm}:∀l:List (GT),Paired (j6 L 1) (wm l)<|l.map Yi
 |[]=>.nil
 |none::r=>.cons (.inl {(rfl),rfl})<|uV r
 |some k::r=>.cons (Xl k)<|uV r
theorem KW.uniq :∀{u v:Wd} {p:Nat},KW (wm wd) p u->KW (wm wd) p v->u=v
 |.leaf t n,.leaf o C,p,h,k=>by have a:=h.SZ;rw[k.SZ] at a;cases a;rfl
 |.leaf t n,.node e l r,p,h,k=>by have a:=h.SZ;obtain⟨i,j,b,_⟩:=k.SC;rw[b] at a;cases a
 |.node e l r,.leaf t n,p,h,k=>by have a:=k.SZ;obtain⟨i,j,b,_⟩:=h.SC;rw[b] at a;cases a
 |.node e l r,.node T l' r',p,h,k=>by obtain⟨i,j,a,I,J⟩:=h.SC;obtain⟨i',j',b,U,g⟩:=k.SC;rw[b] at a;cases a;rw[I.uniq U,J.uniq g]
def G9(x y:Y)(L:qm)(Q:YK):Prop:=match x,y with
 |.tup xs,.tup ys=>xs≠[]/\xs.l+ys.l<=1000/\Q (.tup<|xs++ys) L
 |_,_=>False
def pS :kz X (binaryOp .Add) (fz X.g3 G9):=FB Sh λx y H Q x3 y3 L Q3 C T g z k=>by
 unfold G9 at z;split at z
 .rename_i j ys;obtain⟨n,l,z⟩:=z;obtain⟨a,I,rfl,o,J⟩:=C;obtain⟨b,r,rfl,s2,t⟩:=T;have l1:=J.l;have l2:=t.l;refine{a,b,I,r,rfl,rfl,o,s2,λe=>n ?_,small 's',λe=>?_,λ_ p U=>?_}
  .subst e;exact BH l1
  .subst e;have:=BH l2;subst this;rw[AE] at z;exact k _ H _ L (EU _) g (show RV X.g3 H (.tup j) (.ref a) from{(a),I,rfl,o,J}) z
  .exact k _ _ _ L (EV U) (g.skip U) (show RV X.g3 (upd H p<|.tup<|I++r) (.tup<|j++ys) (.ref p) from{p,_,rfl,dR.of zg,(J.app t).ts<|EV U}) z
 .exact z.r
inductive Kz where
 |lf (t:Bool) (n:Str)|nd (e:Bool) (i j:Int)
abbrev _q:=Option Kz
def yn:_q->Y
 |none=>.GM
 |some (.lf t n)=>.tup [.str<|kL t,.str n]
 |some (.nd e i j)=>.tup [.str<|kN e,.int i,.int j]
abbrev dO(zs:List<|_q):_T:=zs.y yn
def wc:_q->aal
 |some (.nd _ i j)=>[i,j]
 |_=>[]
def w4:GT->_q
 |none=>none
 |some (.lf t n)=>some<|.lf t n
 |some (.nd e i j)=>some<|.nd e (i:Int) (j:Int)
def Yj(k:GT):yn (w4 k)=qG k:=by cases k with|none=>rfl|some k=>cases k<;>rfl
def y_(wd:List<|GT):wm wd=dO (wd.y w4):=by unfold dO;rw[BI];exact Dd λk _=>(Yj k).L
def Yk(k:GT):wc (w4 k)=(jq k).y λn:Nat=>(n:Int):=by cases k with|none=>rfl|some k=>cases k<;>rfl
def cM(zs:List<|_q):aal:=zs.h wc
def yf(zs:List<|_q)(k:_q):cM (zs++[k])=cM zs++wc k:=by unfold cM;rw[AC,Bo,C4,AE]
def oh(wd:List<|GT):cM (wd.y w4)=(kq wd).y λn:Nat=>(n:Int):=by
 induction wd with
 |nil=>rfl
 |cons k r I=>
  show wc (w4 k)++cM (r.y w4)=_;rw[I,Yk,<-Ax];rfl
def iw(k:_q):(wc k).l<=2:=by cases k with|none=>exact A7 _|some k=>cases k with|lf t n=>exact A7 _|nd e i j=>exact Ap _
def sw(zs:List<|_q):(cM zs).l<=2*zs.l:=by
 induction zs with
 |nil=>exact Ap _
 |cons k r I=>
  have e:cM (k::r)=wc k++cM r:=Bo ..;have:=iw k;rw[e,Ab,AK];lia
inductive cf(ys:_T)(L:qm)(Q:YK):Prop
 |mk:∀k:_q,(ys=[yn k])->(∀p,L p=none->Q (.ref p) (qk L p<|.lst<|(wc k).y Y.int))->cf ys L Q
def Yl:_f cf (qK aW).1 1:=by
 rintro ys L Q ⟨k,rfl,q⟩;cases k with
 |none=>exactλp I=>jj<|q p I
 |some k=>
  cases k with|lf t n=>exact{true,t,_,rfl,λp I=>jj<|q p I}|nd e i j=>exact{false,e,_,rfl,λp I=>jj<|q p I}
theorem xL{ns:aal}:∀i,i<=ns.l->(PyProof.Rows.firstMet (λi=>ns.getD i 0) i).l=i->PyProof.Rows.firstMet (λi=>ns.getD i 0) i=ns.u i/\(ns.u i).c
 |0,_,_=>{(rfl),CO}
 |i+1,J,h=>by
  have e:=Ah J;have U:ns.getD i 0=ns[i]:=by rw[Bs,e];rfl
  have le:=PyProof.Rows.firstMet_length_le (λi=>ns.getD i 0) i;rw[Eg,U] at h ⊢;unfold PyProof.Rows.step_dedup at h ⊢;split at h
  .lia
  .rename_i c;rw[Ab] at h;obtain⟨a,b⟩:=xL (ns:=ns) i (Nat.le_of_succ_le J)<|Nat.succ.inj h;rw[a] at c;have c:ns[i]∉ns.u i:=by simpa using c
   rw[Az (by rw[a];simpa using c),a,Bh,e];refine{rfl,Aw.d {b,'r',λx g y I z=>c ?_}};have I:y=ns[i]:=by simpa using I
   rw[<-I,<-z];exact g
def Ym(ns:aal):decide ((t8 ns:Int)=(ns.l:Int))=decide ns.c:=by refine CL.d {λh=>?_,λh=>by rw[XC h]};have:=(xL ns.l (Ap _)<|A6.mp h).2;rwa[Bp] at this
inductive dz(ys:_T)(L:qm)(Q:YK):Prop
 |mk:∀a,∀l:aal,(ys=[.ref a])->(L a=⇑(l.y Y.int))->(l.l<=1000)->(Q (.bl<|decide l.c) L)->dz ys L Q
def Yn:_f dz nQ.1 1:=by rintro ys L Q ⟨a,l,rfl,I,J,q⟩;refine qo I {_,rfl,'s',qa I ?_};show aR Q (.bl<|nb false<|decide<|(t8 l:Int)=((l.y Y.int).l:Int)) L;rw[Ac,Ym];exact jj q
def p_:_q->Bool
 |none=>false
 |some _=>true
def f'(zs:List<|_q)(p:Nat):Int->Bool
 |.ofNat m=>decide (m<p)&&p_ (zs[m]?.getD none)
 |.negSucc _=>false
def nu(zs:List<|_q)(p:Nat):Bool:=((wc<|zs[p]?.getD none).y<|f' zs p).all id&&decide (wc<|zs[p]?.getD none).c
inductive kM(ys:_T)(L:qm)(Q:YK):Prop
 |mk:∀a,∀zs:List (_q),∀p:Nat,∀pi:Int,(ys=[.ref a,.int pi])->(pi=(p:Int))->(L a=⇑(dO zs))->(p<zs.l)->(Q (.bl<|nu zs p) L)->kM ys L Q
def Yo:_f kM (m7 cf dz).1 4:=by
 rintro ys L Q ⟨a,I,p,pi,rfl,rfl,r,hp,q⟩;have U:=Ah hp;have t:nu I p=(((wc I[p]).y<|f' I p).all id&&decide (wc I[p]).c):=by unfold nu;rw[U];rfl
 rw[t] at q;clear t;generalize I[p]=k at U q;refine qa r<|qg (j7 U) {k,rfl,λp1 h1=>?_};refine wW h1 λC g g1=>?_;have pl:=iw k;refine xi g1 λkeep kp=>bu (λi J=>J=(((wc k).u i).y<|f' I p).y Y.bl) ([Ac]≈Bz pl ∅) (kp _ rfl) rfl ?_ ?_
 .rintro i y J T rfl;rw[Al] at T;obtain⟨A,em,rfl⟩:=Au.j T;have z:∀b,b=f' I p A->jA (λJ L'=>L'=C/\J=(((wc k).u<|i+1).y<|f' I p).y Y.bl) ((((wc k).u i).y<|f' I p).y Y.bl++[.bl b]) C:=λb e=>{_,ET _,rfl,by rw[Bh,em,Ax,Ax,e];rfl};cases A with
  |negSucc n=>exact z false rfl
  |ofNat m=>
   refine ur (b:=decide<|(m:Int)<(p:Int)) (λh=>?_) λh=>?_
   .have h:=DW.j<|of_decide_eq_true h;have h3:I[m]?=some I[m]:=Ah 's';refine qa (g _ _ r)<|qg (j7 h3) ?_;have e:f' I p (.ofNat m)=p_ I[m]:=by show(decide (m<p)&&p_ (I[m]?.getD none))=_;rw[h3,AJ h];rfl
    generalize I[m]=j at e ⊢;cases j with|none=>exact z _ e.L|some j=>cases j<;>exact z _ e.L
   .refine z false ?_;have:¬m<p:=λc=>of_decide_eq_false h<|DW.mpr c;show _=(decide (m<p)&&_);rw[Ay this];rfl
 rintro J rfl p2 h2;rw[Ac,Bp];have l:=By (o:=.lst<|((wc k).y<|f' I p).y Y.bl) h2;refine{rfl,qa q9<|qg (gQ _) ?_};cases hb:((wc k).y<|f' I p).all id with
 |false=>
  rw[hb] at q;exact eM (g.t l) q
 |true=>
  rw[hb] at q;exact{p1,wc k,rfl,l _ _ g1,'s',eM (g.t l) q}
def uf(zs:List<|_q):Bool:=((List.range zs.l).y<|nu zs).all id&&(zs.y p_).any id
inductive jY(ys:_T)(L:qm)(Q:YK):Prop
 |mk:∀a,∀zs:List (_q),(ys=[.ref a])->(L a=⇑(dO zs))->(zs.l<=1000)->(Q (.bl<|uf zs) L)->jY ys L Q
def Yp:_f jY (nX kM).1 2:=by
 rintro ys L Q ⟨a,I,rfl,j,hz,q⟩;have big:=a_;have U:(dO I).l=I.l:=Ac ..;refine qa j {{Bb _,by rw[U];lia},?_};rw[U,Bx];refine lO (λi J=>J=((List.range i).y<|nu I).y Y.bl) (big _ 's') rfl ?_ ?_
 .rintro i J t rfl;exact{a,I,i,_,rfl,BW _,j,t,_,ET _,rfl,by rw[Dk,Ax,Ax];rfl}
 rintro J rfl C h1;have g:=By (o:=.lst<|((List.range I.l).y<|nu I).y Y.bl) h1;refine{rfl,qa q9<|qg (gQ _) ?_};unfold uf at q;generalize qk L C (.lst<|((List.range I.l).y<|nu I).y Y.bl)=l at g ⊢;cases p:((List.range I.l).y<|nu I).all id with
 |false=>
  rw[p] at q;exact eM g q
 |true=>
  rw[p,Bool.true_and] at q;refine xi (g _ _ j) λkeep T=>bu (λi J=>J=((I.u i).y p_).y Y.bl) ([U]≈big _ 's') (T _ rfl) rfl ?_ ?_
  .rintro i y J r rfl;rw[Al] at r;obtain⟨k,ek,rfl⟩:=Au.j r;have z:jA (λJ L'=>L'=l/\J=((I.u<|i+1).y p_).y Y.bl) (((I.u i).y p_).y Y.bl++[.bl<|p_ k]) l:={_,ET _,rfl,by rw[Bh,ek,Ax,Ax];rfl};cases k with
   |none=>exact z
   |some k=>cases k<;>exact z
  rintro J rfl p2 h2;rw[U,Bp];have s2:=By (o:=.lst<|(I.y p_).y Y.bl) h2;exact{rfl,qa q9<|qg (gQ _)<|eM (g.t s2) q}
inductive dH(ys:_T)(L:qm)(Q:YK):Prop
 |mk:∀a,∀zs:List (_q),(ys=[.ref a])->(L a=⇑(dO zs))->(zs.l<=1000)->(∀p,L p=none->Q (.ref p) (qk L p<|.lst<|(cM zs).y Y.int))->dH ys L Q
def Yq:_f dH (qY cf).1 3:=by
 rintro ys L Q ⟨a,J,rfl,l,hz,q⟩;have big:=a_;intro p r;have t:qh L (qk L p<|.lst []):=By r;refine xi (t _ _ l) λkeep kp=>wq {λi U I=>∃j,U=[some<|Y.ref a,some<|Y.ref p,j]/\qh L I/\I p=⇑((cM<|J.take i).y Y.int),{_,rfl,t,q9},?_,?_,?_}
 .rintro i U I ⟨j,rfl,s,_⟩;exact kp I (by rw[s _ _ l,t _ _ l])
 .rintro i y U I C ⟨j,rfl,s,g⟩;rw[Al] at C;obtain⟨k,ek,rfl⟩:=Au.j C;have et:J.u (i+1)=J.u i++[k]:=by rw[Bh,ek];rfl
  have pl:=sw<|J.take i;have pk:=iw k;rw[A2] at pl;refine qa g {k,rfl,λd hd=>?_};have n1:=ku g hd;refine qo ((qe n1).t g)<|qo q9 {?_,?_}
  .rw[Ac,Ac];exact Br<|big _ 's'
  .refine{_,ET _,_,rfl,(s.t<|By hd).upd r,?_};rw[q9,et,yf,Ax]
 .rintro U I ⟨j,rfl,s,g⟩;rw[Ac,Bp] at g;refine{qk L p<|.lst<|(cM J).y Y.int,λb o e=>?_,q p r};by_cases T:b=p
  .subst T;rw[q9] at e;rw[<-e];exact g
  .rw[qe T] at e;exact s _ _ e
variable {zs:List<|Option Kz}
def Cb(wd:List<|GT)(P:Int):Prop:=∃p:Nat,P=(p:Int)/\(∃k,wd[p]?=some (some k))/\p∉kq wd
inductive kH(ys:_T)(L:qm)(Q:YK):Prop
 |mk:∀a,∀wd:List (GT),∀P:Int,(ys=[.ref a,.int P])->(L a=⇑(wm wd))->(wd.l<=1000)->(∀b:Bool,(b=true↔Cb wd P)->Q (.bl b) L)->kH ys L Q
def Yr:_f kH (kA dH).1 2:=by
 rintro ys L Q ⟨a,I,P,rfl,j,o,q⟩;cases P with
 |negSucc n=>exact jj<|q false (bK λ⟨p,e,_⟩=>by cases e)
 |ofNat p=>
  refine qa j<|ur (b:=decide<|(p:Int)<((wm I).l:Int)) (λh=>?_) λh=>jj<|q false<|bK λ⟨r,e,⟨k,J⟩,_⟩=>?_
  .rw[iJ] at h;have t:=DW.j<|of_decide_eq_true h;have J:=Ah t;generalize I[p]=k at J;refine qa j<|qg (j7 J) ?_;cases k with
   |none=>exact jj (q false (bK λ⟨r,e,⟨k,U⟩,_⟩=>by cases A6.j e;rw[J] at U;cases U))
   |some k=>
    have key:∀g,L g=none->aR Q (.bl<|nb true<|rW (cT<|.int (p:Int))<|(nY<|kq I).y cT) (qk L g<|.lst<|nY<|kq I):=λg h1=>by
     refine eM (By h1)<|q _ ?_;rw[jW];refine{λh=>{p,rfl,{(k),J},λc=>?_},λ⟨r,e,_,h⟩=>?_}
     .rw[AJ c] at h;cases h
     .cases A6.j e;rw[Ay h];rfl
    have e:(cM<|I.map w4).y Y.int=nY (kq I):=by rw[oh,<-oC]
    have C:dH [.ref a] L λy l=>fE l y λys=>gj (.int (p:Int))=true/\ys.all gj=true/\aR Q (.bl<|nb true<|rW (cT<|.int (p:Int))<|ys.map cT) l:=
     ⟨a,I.y w4,rfl,by rw[<-y_];exact j,by rw[Ac];exact o,λg h1=>by rw[e];exact qa q9 {rfl,uX _,key g h1}⟩
    cases k<;>exact C
  .cases A6.j e;exact of_decide_eq_false h ([iJ]≈(DW.d<|zy J))
def ID(wd:List<|GT):Prop:=∀x k,wd[x]?=some (some k)->∃w,KW (wm wd) x w/\w.J<=120
def Mx(wd:List<|GT)(c:aap):Prop:=(∃w,KW (wm wd) c.1 w/\KW (wm wd) c.2 w.turn)/\c.1∉kq wd/\c.2∉kq wd
def alo(wd:List<|GT)(c:Int×Int):Prop:=∃d,c=G5 d/\Mx wd d
def alo.cb{c:Int×Int}(h:alo wd c):Cb wd c.1/\Cb wd c.2:=by obtain⟨d,rfl,⟨w,h1,h2⟩,I,J⟩:=h;exact{{(d.1),rfl,h1.ex,I},{(d.2),rfl,h2.ex,J}}
inductive fe(ys:_T)(L:qm)(Q:YK):Prop
 |mk:∀a,∀wd:List (GT),∀c:Int×Int,(ys=[.ref a,.int c.1,.int c.2])->(L a=⇑(wm wd))->(wd.l<=1000)->(ID wd)->(∀b:Bool,(b=true↔alo wd c)->Q (.bl b) L)->fe ys L Q
def zY:_f fe (yM kH (k8 120)<|bE 120).1 3:=by
 rintro ys L Q ⟨a,I,⟨t,C⟩,rfl,J,l,W,q⟩;refine{a,I,t,rfl,J,l,λb1 h1=>?_};cases b1 with
 |false=>exact jj (q false (bK λz=>by have:=h1.d z.cb.1;cases this))
 |true=>
  refine{a,I,C,rfl,J,l,λb2 h2=>?_};cases b2 with
  |false=>exact jj (q false (bK λz=>by have:=h2.d z.cb.2;cases this))
  |true=>
   obtain⟨p,rfl,⟨k,T⟩,n1⟩:=h1.j rfl;obtain⟨r,rfl,⟨k',U⟩,n2⟩:=h2.j rfl;obtain⟨u,g,o⟩:=W p k T;obtain⟨v,j,dv⟩:=W r k' U;refine{a,wm I,r,v,rfl,J,j,dv,?_};refine{a,wm I,p,u,rfl,J,g,o,{u,rfl,o,?_}};refine oZ (u:=v) (v:=u.turn) 's' ?_;show aR Q (.bl<|Da.eq _ _) L;refine jj (q _ {λe=>{(p,r),rfl,{u,g,by rw[<-Mc _ _ e];exact j},n1,n2},λ⟨d,e,⟨w,g1,g2⟩,_⟩=>?_});cases hZ (p:=(p,r)) e;rw[j.uniq g2,g.uniq g1,pH]
def Ys{j k:GT}(h:w4 j=w4 k):j=k:=by
 cases j with
 |none=>cases k with|none=>rfl|some k=>cases k<;>cases h
 |some j=>
  cases k with
  |none=>cases j<;>cases h
  |some k=>
   cases j with
   |lf t n=>cases k with
    |lf u m=>injection h with h;injection h with a b;rw[a,b]
    |nd e i j=>injection h with h;cases h
   |nd e i j=>cases k with
    |lf u m=>injection h with h;cases h
    |nd I J U=>injection h with h;injection h with a b c;rw[a,A6.j b,A6.j c]
inductive Rz where
 |link (p q:Int)|ei (r:Int) (A:Rz)|bo (r:Int) (A B:Rz)|cu (p q:Int) (A B:Rz)
def je:Rz->Y
 |.link p q=>.tup [.str "link",.int p,.int q]
 |.ei r A=>.tup [.str "either",.int r,je A]
 |.bo r A B=>.tup [.str "both",.int r,je A,je B]
 |.cu p q A B=>.tup [.str "cut",.int p,.int q,je A,je B]
def wu:Rz->List Rz
 |.link _ _=>[]
 |.ei _ A=>[A]
 |.bo _ A B=>[A,B]
 |.cu _ _ A B=>[A,B]
def aw:Rz->aal
 |.link p q=>[p,q]
 |.ei r _=>[r]
 |.bo r _ _=>[r]
 |.cu _ _ _ _=>[]
def ze:Rz->aal
 |.link p q=>[p,q]
 |.ei r A=>r::ze A
 |.bo r A B=>r::(ze A++ze B)
 |.cu _ _ A B=>ze A++ze B
def aQ:Rz->List Rz
 |.link p q=>[.link p q]
 |.ei r A=>.ei r A::aQ A
 |.bo r A B=>.bo r A B::(aQ A++aQ B)
 |.cu p q A B=>.cu p q A B::(aQ A++aQ B)
def jn:Rz->Nat
 |.link _ _=>1
 |.ei _ A=>jn A+1
 |.bo _ A B=>max (jn A) (jn B)+1
 |.cu _ _ A B=>max (jn A) (jn B)+1
def zo:Ru->Rz
 |.link p q=>.link p q
 |.ei r A=>.ei r<|zo A
 |.bo r A B=>.bo r (zo A)<|zo B
 |.cu p q A B=>.cu p q (zo A)<|zo B
theorem xh:∀A:Ru,je (zo A)=qx A
 |.link _ _=>rfl
 |.ei r A=>by show Y.tup [_,_,je<|zo A]=_;rw[xh A];rfl
 |.bo r A B=>by show Y.tup [_,_,je<|zo A,je<|zo B]=_;rw[xh A,xh B];rfl
 |.cu p q A B=>by show Y.tup [_,_,_,je<|zo A,je<|zo B]=_;rw[xh A,xh B];rfl
theorem wr:∀A:Ru,ze (zo A)=(told A).y λn:Nat=>(n:Int)
 |.link _ _=>rfl
 |.ei r A=>by show _::ze (zo A)=_;rw[wr A];rfl
 |.bo r A B=>by show _::(ze (zo A)++ze (zo B))=_;rw[wr A,wr B,<-Ax];rfl
 |.cu p q A B=>by show ze (zo A)++ze (zo B)=_;rw[wr A,wr B,<-Ax];rfl
theorem dW:∀A:Ru,aQ (zo A)=(ko A).y zo
 |.link _ _=>rfl
 |.ei r A=>by show _::aQ (zo A)=_;rw[dW A];rfl
 |.bo r A B=>by show _::(aQ (zo A)++aQ (zo B))=_;rw[dW A,dW B,<-Ax];rfl
 |.cu p q A B=>by show _::(aQ (zo A)++aQ (zo B))=_;rw[dW A,dW B,<-Ax];rfl
theorem jb:∀A:Ru,jn (zo A)=zq A
 |.link _ _=>rfl
 |.ei r A=>A8 (· + 1)<|jb A
 |.bo r A B=>by show max (jn<|zo A) (jn<|zo B)+1=_;rw[jb A,jb B];rfl
 |.cu p q A B=>by show max (jn<|zo A) (jn<|zo B)+1=_;rw[jb A,jb B];rfl
def Yt(A:Ru):wu (zo A)=(jd A).y zo:=by cases A<;>rfl
def yh(A:Rz):ze A=aw A++(wu A).h ze:=by cases A<;>simp[ze,aw,wu]
def si(A:Rz):aQ A=A::(wu A).h aQ:=by cases A<;>simp[aQ,wu]
def tW{A B:Rz}(h:B∈wu A):jn B<jn A:=by
 cases A with
 |link p q=>cases h
 |ei r C=>cases Ak.j h;exact B8 _
 |bo r C D=>
  have:jn (.bo r C D)=max (jn C) (jn D)+1:=rfl;obtain rfl|h:=Ao.j h
  .lia
  .cases Ak.j h;lia
 |cu p q C D=>
  have:jn (.cu p q C D)=max (jn C) (jn D)+1:=rfl;obtain rfl|h:=Ao.j h
  .lia
  .cases Ak.j h;lia
def ky(A:Rz):Nat:=(aQ A).l
def iO(A:Rz):((wu A).y ky).sum+1=ky A:=by cases A<;>simp[ky,aQ,wu]
def Yu(A:Rz):0<ky A:=by have:=iO A;lia
def x0(A:Ru):ky (zo A)=aH A:=by unfold ky;rw[dW,Ac,iN]
def Yv(A:Ru):aw (zo A)=(fw A).y λn:Nat=>(n:Int):=by cases A<;>rfl
def Yw:Rz->aal
 |.link p q=>[p,q]
 |.ei r _=>[r]
 |.bo r _ _=>[r]
 |.cu p q _ _=>[p,q]
inductive kC(ys:_T)(L:qm)(Q:YK):Prop
 |mk:∀A:Rz,(ys=[je A])->(∀p,L p=none->Q (.ref p) (qk L p<|.lst<|(Yw A).y Y.int))->kC ys L Q
def Yx:_f kC m8.1 1:=by
 rintro ys L Q ⟨A,rfl,q⟩;cases A with
 |link a b=>exact{λz=>absurd z.1 (by show ¬1=0;decide),λp I=>jj<|q p I}
 |ei r A=>exact{λz=>absurd z.1 (by show ¬1=0;decide),λp I=>jj<|q p I}
 |bo r A B=>exact{λz=>absurd z.1 (by show ¬1=0;decide),λp I=>jj<|q p I}
 |cu a b A B=>exact{λz=>absurd z.1 (by show ¬1=0;decide),λp I=>jj<|q p I}
inductive bY(ys:_T)(L:qm)(Q:YK):Prop
 |mk:∀A:Rz,(ys=[je A])->(∀p,L p=none->Q (.ref p) (qk L p<|.lst<|(wu A).y je))->bY ys L Q
def Yy:_f bY tF.1 1:=by
 rintro ys L Q ⟨A,rfl,q⟩;cases A with
 |link a b=>exact{λz=>absurd z.1 (by show ¬3=0;decide),λp I=>jj<|q p I}
 |ei r A=>exact{λz=>absurd z.1 (by show ¬2=0;decide),λp I=>jj<|q p I}
 |bo r A B=>exact{λz=>absurd z.1 (by show ¬2=0;decide),λp I=>jj<|q p I}
 |cu a b A B=>exact{λz=>absurd z.1 (by show ¬3=0;decide),λp I=>jj<|q p I}
inductive cz(ys:_T)(L:qm)(Q:YK):Prop
 |mk:∀A:Rz,(ys=[je A])->(∀p,L p=none->Q (.ref p) (qk L p<|.lst<|(aw A).y Y.int))->cz ys L Q
def Yz:_f cz (sR kC).1 1:=by
 rintro ys L Q ⟨A,rfl,q⟩;cases A with
 |link a b=>exact{_,rfl,λp I=>jj<|q p I}
 |ei r A=>exact{_,rfl,λp I=>jj<|q p I}
 |bo r A B=>exact{_,rfl,λp I=>jj<|q p I}
 |cu a b A B=>exactλp I=>jj<|q p I
inductive bJ(n:Nat)(ys:_T)(L:qm)(Q:YK):Prop
 |mk:∀A:Rz,(ys=[je A])->(jn A<=n)->(ky A<=1000)->(∀p,L p=none->Q (.ref p) (qk L p<|.lst<|(aQ A).y je))->bJ n ys L Q
def yL(A:Rz):0<jn A:=by cases A<;>simp[jn]
def YA:∀ys L Q,¬bJ 0 ys L Q:=by rintro ys L Q ⟨A,_,h,_⟩;have:=yL A;lia
def YB{A B:Rz}(h:B∈wu A):ky B<ky A:=by have e:=iO A;obtain⟨a,b,I⟩:=Cm h;rw[I,Ax,List.sum_append,AR,ER] at e;lia
def YC(n:Nat):_f (bJ (n+1)) (pU bY<|bJ n).1 3:=by
 rintro ys L Q ⟨A,rfl,hd,T,q⟩;have big:=a_;intro l r;refine{A,rfl,λpa J=>?_};have U:=ku q9 J;have s0:qh L (qk (qk L l<|.lst [je A]) pa<|.lst<|(wu A).y je):=(By r).t<|By J;have sz:∀i,(((wu A).u i).h aQ).l<=1000:=λi=>by
  have e:=A8 List.length<|si A;have h2:(((wu A).u i).h aQ).l+(((wu A).G i).h aQ).l=((wu A).h aQ).l:=by rw[<-Ab,<-AC,A1]
  unfold ky at T;simp only[AK] at e;lia
 refine xi q9 λkeep kp=>wq {λi j I=>∃o,j=[some<|je A,↑l,o]/\qh L I/\I l=⇑((A::((wu A).u i).h aQ).y je)/\I pa=⇑((wu A).y je),{_,rfl,s0,(qe U).t q9,q9},?_,?_,?_}
 .rintro i j I ⟨o,rfl,s,g,g2⟩;exact kp I (by rw[g2,q9])
 .rintro i y j I hy ⟨o,rfl,s,g,g2⟩;rw[Al] at hy;obtain⟨B,eB,rfl⟩:=Au.j hy;have mB:=AD eB;have et:(wu A).u (i+1)=(wu A).u i++[B]:=by rw[Bh,eB];rfl
  have zB:=YB mB;have dB:=tW mB;have zi:=sz i;refine qa g {B,rfl,'s','s',λp t=>?_};have np:=ku g t;have C:=ku g2 t;refine qo ((qe np).t g)<|qo q9 {?_,?_}
  .rw[Ac,Ac,AK];unfold ky at zB T;exact Br<|big _ 's'
  .refine{_,ET _,_,rfl,(s.t<|By t).upd r,?_,(qe<|AN U).t<|(qe C).t g2};rw[q9,et,AC,DA,<-Ax];rfl
 .rintro j I ⟨o,rfl,s,g,_⟩;rw[Ac,Bp,<-si] at g;exact eM (qh.put s g)<|q l r
def rV(wd:List<|GT):On:=wd.y λk=>k.getD<|.lf false ""
def ue{x:Nat}{k:Kn}(h:wd[x]?=some (some k)):(rV wd)[x]?=some k:=by unfold rV;rw[Al,h];rfl
def oz(wd:List<|GT):Ru->Prop
 |.link p q=>IC wd (p,q)
 |.ei r _=>∃i j,wd[r]?=some (some<|.nd true i j)
 |.bo r _ _=>∃i j,wd[r]?=some (some<|.nd false i j)
 |.cu p q _ _=>Mx wd (p,q)
inductive g0(ys:_T)(L:qm)(Q:YK):Prop
 |mk:∀a,∀wd:List (GT),∀A:Ru,(ys=[.ref a,qx A])->(L a=⇑(wm wd))->(oz wd A)->(∀p rs L',qh L L'->L p=none->L' p=⇑(rs.y Y.ref)->Paired (λr t=>L r=none/\L' r=⇑(nY t)) rs (ag (rV wd) A)->Q (.ref p) L')->g0 ys L Q
def YD:_f g0 (qC cf).1 3:=by
 rintro ys L Q ⟨a,wd,A,rfl,ha,ft,q⟩;cases A with
 |link=>exactλp hp=>jj<|q p [] _ (By hp) hp q9 .nil
 |cu u v A B=>
  intro J h1 l h2 C h3;have I:=ku q9 h2;have T:=ku ((qe I).t q9) h3;have a1:=ku q9 h3;exact jj<|q C [J,l] _ (((By h1).t<|By h2).t<|By h3) (kc<|kc h3) q9<|.cons {h1,(qe T).t<|(qe I).t q9}<|.cons {kc h2,(qe a1).t q9} .nil
 |ei r A=>
  obtain⟨i,j,h1⟩:=ft;have h2:=ue h1;refine qa ha<|qg (j7 h1) {some<|.nd true i j,rfl,λJ g1=>?_};intro l g2;have I:=ku q9 g2;refine jj<|q l [J] _ ((By g1).t<|By g2) (kc g2) q9 ?_;show Paired _ [J] [jq (rV wd)[r]?];rw[h2];exact .cons {g1,(qe I).t q9} .nil
 |bo r A B=>
  obtain⟨i,j,h1⟩:=ft;have h2:=ue h1;refine qa ha<|qg (j7 h1) {some<|.nd false i j,rfl,λJ g1=>?_};have s1:qh L (qk L J<|.lst<|nY [i,j]):=By g1;refine xi q9 λkeep kp=>Ka {show 2<sizeLine by decide,λm o g=>∃rs,o=rs.y Y.ref/\qh (qk L J<|.lst<|nY [i,j]) g/\Paired (λr t=>L r=none/\g r=⇑(nY t)) rs (([i,j].y λx=>[x]).u m),{[],rfl,ET _,.nil},?_,?_,?_}
  .rintro m o g ⟨rs,_,s,_⟩;exact kp g ([q9]≈s _ _ q9)
  .rintro m y o g hy ⟨rs,rfl,s,pr⟩;obtain⟨x,ex,rfl⟩:=lW (hs:=[i,j]) hy;intro l g2;refine{_,ET _,rs++[l],by rw[Ax];rfl,s.t<|By g2,?_};have et:([i,j].y λx=>[x]).u (m+1)=([i,j].y λx=>[x]).u m++[[x]]:=by rw[Bh,Al,ex];rfl
   rw[et];exact m9 (EX pr λb t U=>{U.1,(qe<|ku U.2 g2).t U.2}) {s1.none<|s.none g2,q9}
  .rintro o g ⟨rs,rfl,s,pr⟩ C g3;refine jj<|q C rs _ ((s1.t s).t<|By g3) (s1.none<|s.none g3) q9 ?_;show Paired _ rs ((jq (rV wd)[r]?).y λx=>[x]);rw[h2];exact EX pr λb t U=>{U.1,(qe<|ku U.2 g3).t U.2}
def rK(I:Addr)(E3:X3):aa:=(xr (Gb<|yB<|qf 0) (KN I E3<|aV<|qf 1) w5)
def My(E3:X3)(I:vh)(p1:vh)(p2:fH)(p3:vh):aa:=(zj (jx (jg I<|aV<|qf 0)<|ql 2)
 (zj (jx xP<|ql 3)
 (zj (jx (aZ<|aV<|qf 1)<|ql 4)
 (zj (y9 (A' (qf 4)<|aZ zk) (zj (jx (fg Gf (qf 4) zk)<|ql 5)
 (zj (gA (ah<|jg p1<|aV<|qf 5) (ql 6) (zj (jo<|ay p2 E3<|qi (J6 (zx (ut false) (qf 6)<|qf 2)<|zx (Gm true) (qf 6)<|qf 3)<|aV<|iW "a place is told twice, or is gone or out of range")
 (gm (qf 3) (qf 6)<|yC<|.bl true)))
 (jo<|fg iF (qf 4)<|qi (jg p3<|aV<|qf 5) zk))))
 (jo<|ay p2 E3<|qi (zx (f_ false) (sJ IA<|aV<|qf 3)<|gC 2)<|aV<|iW "a place is told by no rule")))))
abbrev w6:=m4
def yH :∀ys L Q E,w6 C ys L Q E->x6 (rK C<|uG E) 2 ys L Q:=by
 rintro ys L Q E ⟨b,z,rfl,h1,h2⟩;cases b with
 |true=>exact jj<|h1 rfl
 |false=>exact{Ar rfl,L,ET L,h2 rfl}
def tI(wd:List<|GT):aal:=(dh wd).y λn:Nat=>(n:Int)
structure TkZ(tk:aal)(kvs:List<|jk×Y):Prop where
 val:∀x:Int,(wo kvs<|.inl x).Z=decide (x∈tk)
 len:kvs.l=tk.l
def TkZ.put{tk:aal}(h:TkZ tk kvs){x:Int}(I:x∉tk)(y:Y):TkZ (tk++[x]) (iS kvs (.inl x) y):=by
 refine{λz=>?_,?_}
 .rw[pF];by_cases e:z=x
  .subst e;rw[AF rfl,AJ<|Ai _<|Ak.mpr rfl];rfl
  .rw[Az λq=>e<|Fi q,h.val];refine CL.d {λq=>An _ q,λq=>?_};obtain q|q:=Am.j q
   .exact q
   .exact absurd (Ak.j q) e
 .rw[XW (by rw[h.val,Ay I]),Ab,h.len,Ab];rfl
structure StZ(A:Rz)(tk:aal)(st:List Rz):Prop where
 pt:(tk++st.h ze).C (ze A)
 sz:(st.y ky).sum<=ky A
 dp:∀B∈st,jn B<=jn A
def StZ.start(A:Rz):StZ A [] [A]:={'r','r',λB I=>by rw[Ak.j I];exact Ap _}
def StZ.step{A B:Rz}{tk:aal}{st:List Rz}(h:StZ A tk<|st++[B]):StZ A (tk++aw B) (st++wu B):=by
 refine{?_,?_,λC I=>?_}
 .refine List.Perm.trans ?_ h.pt;rw[AC,AC];have:[B].h ze=aw B++(wu B).h ze:=by rw[<-yh];simp
  rw[this];refine B4.d λz=>?_;simp only[CD];lia
 .have:=h.sz;have:=iO B;simp at *;lia
 .rcases Am.j I with I|I
  .exact h.dp C<|An _ I
  .have:=tW I;have:=h.dp B<|Ai _<|Ak.mpr rfl;lia
def q_(wd:List<|GT)(A:Rz):Prop:=(ze A).C<|tI wd
def YE(wd:List<|GT):nY (dh wd)=(tI wd).y Y.int:=oC _
def YF(x:Int)(l:aal):rW (cT<|.int x) ((l.y Y.int).y cT)=decide (x∈l):=by
 induction l with
 |nil=>rfl
 |cons y r I=>
  have e:rW (cT<|.int x) (((y::r).y Y.int).y cT)=(iz (cT<|.int y) (cT<|.int x)||rW (cT<|.int x) ((r.y Y.int).y cT)):=rfl;have J:iz (cT<|.int y) (cT<|.int x)=decide (y=x):=rfl;rw[e,I,J,<-Bool.decide_or];exact CL.d ([Ao]≈({λh=>h.imp Eq.symm id,λh=>h.imp Eq.symm id}))
def ym(wd:List<|GT):(tI wd).c:=fJ (by unfold dh o_;exact Ct.S _)
def YG(wd:List<|GT):(tI wd).l<=wd.l:=by unfold tI dh;rw[Ac];exact LN ..
theorem rG:∀(l m:aal),l.c->(∀x∈l,x∈m)->l.length<=m.l
 |[],_,_,_=>A7 _
 |x::r,m,h,s=>by obtain⟨h1,h2⟩:=AA.j h;have I:=s x<|Ag ..;have:=rG r (m.erase x) h2 λy J=>(List.mem_erase_of_ne λz=>h1 (by rw[<-z];exact J)).d<|s y<|Ae _ J;rw[List.length_erase_of_mem I] at this;have:=EE I;rw[AK];lia
def YH{l m:aal}(J:l.c)(U:m.c)(s:∀x∈l,x∈m)(e:l.l=m.l):l.C m:=(AU J U).d λx=>{s x,λg=>by
 by_cases c:x∈l
 .exact c
 .have:=rG (x::l) m (AA.d {(c),J}) λy I=>by
   obtain rfl|I:=Ao.j I
   .exact g
   .exact s y I
  rw[AK] at this;lia}
def YI(l:aal):(l.y Y.int).all gj=true:=by rw[DU];exact BR.d λ_ _=>rfl
def wE:Rz->Da
 |.link p q=>.tup [.s<|.str "link",.s<|.int p,.s<|.int q]
 |.ei r A=>.tup [.s<|.str "either",.s<|.int r,wE A]
 |.bo r A B=>.tup [.s<|.str "both",.s<|.int r,wE A,wE B]
 |.cu p q A B=>.tup [.s<|.str "cut",.s<|.int p,.s<|.int q,wE A,wE B]
theorem iD{L:qm}:∀{R:Rz} {n:Nat},jn R<=n->j6 L n (je R) (wE R)
 |.link p q,n+1,_=>vv<|.cons (EZ _)<|.cons (EY _)<|.cons (EY _) .nil
 |.ei r A,n+1,h=>vv (.cons (EZ _) (.cons (EY _) (.cons (iD (by simp[jn] at h;lia)) .nil)))
 |.bo r A B,n+1,h=>vv (.cons (EZ _) (.cons (EY _) (.cons (iD (by simp[jn] at h;lia)) (.cons (iD (by simp[jn] at h;lia)) .nil))))
 |.cu p q A B,n+1,h=>vv (.cons (EZ _) (.cons (EY _) (.cons (EY _) (.cons (iD (by simp[jn] at h;lia)) (.cons (iD (by simp[jn] at h;lia)) .nil)))))
 |R,0,h=>by have:=yL R;lia
theorem Mz{L:qm}{n:Nat}:∀{st:List Rz},(∀A∈st,jn A<=n)->Paired (j6 L n) (st.y je) (st.y wE)
 |[],_=>.nil
 |A::r,h=>.cons (iD<|h A<|Ag ..)<|Mz λB I=>h B<|Ae _ I
inductive gx(C:Addr)(ys:_T)(L:qm)(Q:YK)(E:Addr->qm->Prop):Prop
 |mk:∀a,∀wd:List (GT),∀A:Rz,(ys=[.ref a,je A])->(L a=⇑(wm wd))->(wd.l<=120)->(jn A<=120)->(ky A<=1000)->((q_ wd A->Q .GM L))->((¬q_ wd A->E C L))->gx C ys L Q E
inductive MA(L5:qm)(wd:List<|GT)(tk:aal)(A B:Rz)(a p2 d u:Addr)(i:Nat)(τ:jm)(L':qm):Prop
 |mk (kvs:List<|jk×Y) (c6:_C):τ=[↑a,some<|je A,↑p2,↑d,↑u,some<|je B,c6]->Kp d L5 L'->L' d=some (._c kvs)->TkZ (tk++(aw B).u i) kvs->(tk++(aw B).u i).c->(∀x∈tk++(aw B).u i,x∈tI wd)->MA L5 wd tk A B a p2 d u i τ L'
theorem YJ :∀ys L Q E,gx C ys L Q E->x6 (My (uG E) gU cz (w6 C) bY) 7 ys L Q:=by
 rintro ys L Q E ⟨a,j,A,rfl,ha,kl,rd,rz,yes,no⟩;have big:=a_;have tl:=YG j;have tn:=ym j;refine{a,_,rfl,ha,'s',λp2 h2=>?_};rw[YE];intro d hd u hu;have t:=ku q9 hu;have s2:qh L (qk L p2<|.lst<|(tI j).y Y.int):=By h2;have e2:qk L p2 (.lst<|(tI j).y Y.int) p2=⇑((tI j).y Y.int):=q9;have a1:=kc hu;generalize qk L p2 (.lst<|(tI j).y Y.int)=L2 at hd hu s2 e2 a1 ⊢;have S0:qh L2 (qk (qk L2 d<|._c []) u<|.lst [je A]):=(By hd).t<|By hu;refine{λm τ U=>∃J tk st c5 c6,τ=[↑a,some<|je A,↑p2,↑d,↑u,c5,c6]/\qh L2 U/\U d=some (._c J)/\U u=⇑(st.y je)/\TkZ tk J/\StZ A tk st/\tk.c/\(∀x∈tk,x∈tI j)/\m=(st.y ky).sum,{_,[],[],[A],_,_,rfl,S0,(qe t).t q9,q9,{λ_=>rfl,rfl},StZ.start A,CO,nofun,rfl},?_};rintro m τ U ⟨J,tk,st,c5,c6,rfl,s,g1,g3,K,I,nd,sub,rfl⟩;intro p hp;refine aq (n:=120) (m:=0) ∅ (By hp _ _ g3) q9 (Mz λB hB=>AQ (I.dp B hB) rd) (.nil:Paired (j6 _ 0) _ []) ?_;have s':qh L2 (qk U p<|.lst []):=s.t<|By hp;replace g1:=(qe (o:=.lst [])<|ku g1 hp).t g1;replace g3:=(qe (o:=.lst [])<|ku g3 hp).t g3;generalize qk U p (.lst [])=Lc at s' g1 g3 ⊢;have en:Da.eqs (st.y wE) []=decide (st=[]):=by cases st<;>rfl
 rw[en];have a4:=K.len;obtain rfl|⟨mX,B,rfl⟩:=List.eq_nil_or_concat st
 .refine dg rfl ?_;have pt:tk.C (ze A):=by have:=I.pt;simpa using this
  refine x4 g1<|qa (s' _ _ e2) {_,_,rfl,λe=>eM (s2.t s')<|yes<|pt.symm.trans<|YH nd tn sub ?_,λe=>{L,s2.t s',no λo=>?_}}
  .have:=A6.j<|of_decide_eq_true e;rw[Ac] at this;lia
  .have h:=of_decide_eq_false e;rw[Ac] at h;have:=(pt.t o).f;exact h (by rw[a4,this])
 .rw[List.concat_eq_append] at *;rw[Ay 'r'];refine gE rfl {λa2 U=>∃m',m'<((mX++[B]).y ky).sum/\∃J tk st c5 c6,a2=[↑a,some<|je A,↑p2,↑d,↑u,c5,c6]/\qh L2 U/\U d=some (._c J)/\U u=⇑(st.y je)/\TkZ tk J/\StZ A tk st/\tk.c/\(∀x∈tk,x∈tI j)/\m'=(st.y ky).sum,λa2 U h=>h,?_};rw[Ax] at g3;refine Ky g3 {B,rfl,λp5 h5=>?_};have I1:=I.step;have s5:qh L2 (qk (qk Lc u<|.lst<|mX.map je) p5<|.lst<|(aw B).y Y.int):=(s'.upd a1).t<|By h5;have f1:qk (qk Lc u<|.lst<|mX.map je) p5 (.lst<|(aw B).y Y.int) d=some (._c J):=(qe<|ku ((qe t).t g1) h5).t<|(qe t).t g1;have f3:qk (qk Lc u<|.lst<|mX.map je) p5 (.lst<|(aw B).y Y.int) u=⇑(mX.y je):=(qe<|ku q9 h5).t q9;have f5:qk (qk Lc u<|.lst<|mX.map je) p5 (.lst<|(aw B).y Y.int) p5=⇑((aw B).y Y.int):=q9;have a5:=AN<|ku ((qe t).t g1) h5;generalize qk (qk Lc u<|.lst<|mX.map je) p5 (.lst<|(aw B).y Y.int)=L5 at s5 f1 f3 f5 ⊢;refine xi f5 λkeep kp=>wq {MA L5 j tk A B a p2 d u,{J,_,rfl,λ_ _ _ h=>h,f1,by rw[Du,AE];exact K,by rw[Du,AE];exact nd,by rw[Du,AE];exact sub},?_,?_,?_}
  .rintro i τ U ⟨J,c6,rfl,k,_⟩;exact kp U (by rw[k _ _ a5 f5,f5])
  .rintro i y τ U T ⟨J,c6,rfl,k,g,K,nd,sub⟩;rw[Al] at T;obtain⟨x,ex,rfl⟩:=Au.j T;have eo:(aw B).u (i+1)=(aw B).u i++[x]:=by rw[Bh,ex];rfl
   have xo:=AD ex;have xn:q_ j A->x∉tk++(aw B).u i:=λo z=>by
    have nA:=I1.pt.nodup_iff.d<|o.nodup_iff.mpr tn;have n1:=(Aw.j nA).1;have e3:aw B=(aw B).u i++x::(aw B).G (i+1):=by have hi:=zy ex;rw[Ah hi] at ex;rw[<-AV ex,CS,A1]
    rw[e3,<-AB] at n1;exact(Aw.j n1).2.2 x z x (Ag ..) rfl
   have xt:q_ j A->x∈tI j:=λo=>o.mem_iff.mp<|I1.pt.mem_iff.mp<|An _<|Ai _ xo;have a3:=ku e2 hd;have sL:qh L U:=λb o e=>k _ _ (ku (s2 _ _ e) hd)<|s5 _ _<|s2 _ _ e;refine qa (k _ _ a3<|s5 _ _ e2) {rfl,YI _,?_};rw[YF];by_cases c:x∈tI j
   .rw[AJ c];refine x4 g {_,_,A8 (λb=>[Y.bl b,Y.str _]) (?_:nb true (wo J<|.inl x).Z=!decide (x∈tk++(aw B).u i)),λe=>?_,λe=>{L,sL,no λo=>?_}}
    .rw[K.val];rfl
    .have e:x∉tk++(aw B).u i:=λh=>by rw[AJ h] at e;cases e
     have K1:=K.put e<|.bl true;have n1:(tk++(aw B).u (i+1)).c:=by rw[eo,<-AB];exact Aw.d {nd,'r',λy hm z hz h=>e (by rw[<-Ak.j hz,<-h];exact hm)}
     have s1:∀y∈tk++(aw B).u (i+1),y∈tI j:=λy T=>by
      rw[eo,<-AB] at T;obtain T|T:=Am.j T
      .exact sub y T
      .rw[Ak.j T];exact c
     have:=rG _ _ nd sub;have:=K.len;refine x4 g {big _ 's',?_};refine{_,ET _,_,_,rfl,k.upd,q9,?_,n1,s1};rw[eo,<-AB];exact K1
    .exact xn o (Decidable.not_not.j λh=>by rw[Ay h] at e;cases e)
   .rw[Ay c];exact{_,_,rfl,nofun,λ_=>{L,sL,no λo=>c<|xt o}}
  .rintro τ U ⟨J,c6,rfl,k,g,K,nd,sub⟩;rw[Ac,Bp] at K nd sub;have gu:=k _ _ (AN t) f3;refine qa gu {B,rfl,λp8 h8=>?_};have ac:=ku gu h8;refine qo ((qe ac).t gu)<|qo q9 {?_,?_}
   .have h1:=I1.sz;have len:∀l:List Rz,l.l<=(l.y ky).sum:=λl=>by induction l with|nil=>exact Ap _|cons x r ih=>have:=Yu x;simp;lia
    have h3:=len<|mX++wu B;rw[Ab] at h3;rw[Ac,Ac];exact Br<|big _ 's'
   .have lt:((mX++wu B).y ky).sum<((mX++[B]).y ky).sum:=by have:=iO B;simp;lia
    refine{_,ET _,_,lt,J,tk++aw B,mX++wu B,_,_,rfl,λb o e=>?_,?_,?_,K,I1,nd,sub,rfl}
    .have nb:=ku e a1;have nd:=ku e hd;exact(qe nb).t ((qe<|ku (k _ _ nd<|s5 _ _ e) h8).t<|k _ _ nd<|s5 _ _ e)
    .exact(qe t).t ((qe<|ku g h8).t g)
    .rw[q9,Ax]
def yg(wd:List<|GT):Rz->Prop
 |.link p q=>ad0 wd (p,q)
 |.ei r _=>∃n:Nat,r=n/\∃i j,wd[n]?=some (some<|.nd true i j)
 |.bo r _ _=>∃n:Nat,r=n/\∃i j,wd[n]?=some (some<|.nd false i j)
 |.cu p q _ _=>alo wd (p,q)
inductive eQ(ys:_T)(L:qm)(Q:YK):Prop
 |mk:∀a,∀wd:List (GT),∀B:Rz,(ys=[.ref a,je B])->(L a=⇑(wm wd))->(wd.l<=1000)->(ID wd)->((∀x∈aw B,x∈tI wd))->(∀b:Bool,(b=true↔yg wd B)->Q (.bl b) L)->eQ ys L Q
def jN{x:Int}(h:x∈tI wd):∃(n:Nat) (k:Kn),x=n/\wd[n]?=some (some k):=by
 obtain⟨n,I,rfl⟩:=AM.j h;obtain⟨_,k,e,J⟩:=LM I;cases k with
 |none=>cases J
 |some k=>exact{(n),k,rfl,e}
def YL:_f eQ (Mn iE fe).1 2:=by
 rintro ys L Q ⟨a,l,B,rfl,U,o,W,own,q⟩;cases B with
 |link p r=>exact{a,l,(p,r),rfl,U,λb g=>jj<|q b g}
 |cu p r C D=>exact{a,l,(p,r),rfl,U,o,W,λb g=>jj<|q b g}
 |ei r C=>
  obtain⟨n,k,rfl,J⟩:=jN<|own r<|Ag ..;refine qa U<|qg (j7 J) ?_;cases k with
  |lf t x=>cases t<;>exact jj (q false (bK λ⟨m,e,i,j,I⟩=>by cases A6.j e;rw[J] at I;cases I))
  |nd e i j=>
   cases e with|true=>exact jj (q true {λ_=>{(n),rfl,i,j,J},λ_=>rfl})|false=>exact jj (q false (bK λ⟨m,e,T,j',I⟩=>by cases A6.j e;rw[J] at I;cases I))
 |bo r C D=>
  obtain⟨n,k,rfl,J⟩:=jN<|own r<|Ag ..;refine qa U<|qg (j7 J) ?_;cases k with
  |lf t x=>cases t<;>exact jj (q false (bK λ⟨m,e,i,j,I⟩=>by cases A6.j e;rw[J] at I;cases I))
  |nd e i j=>
   cases e with|false=>exact jj (q true {λ_=>{(n),rfl,i,j,J},λ_=>rfl})|true=>exact jj (q false (bK λ⟨m,e,T,j',I⟩=>by cases A6.j e;rw[J] at I;cases I))
def ou(E3:X3)(I:vh)(p1:vh)(p2:vh)(p3:fH)(p4:fH):aa:=(zj (jx (jg I<|aV<|qf 1)<|ql 2)
 (zj (gA (KH<|qi (jg p2<|aV<|qf 1)<|qi (jg p1<|cg (qf 0)<|qf 1) zk) (dY 2<|jy (ql 3)<|jy (ql 4) cK) (zj (jx (ay p3 E3<|cg (qf 0)<|qf 3)<|ql 5)
 (zj (jo<|ay p4 E3<|qi (sJ GV<|qi (h_ 1 (ah<|qf 4) (ql 6) GF<|zx (ut false) (qf 6)<|qf 5) zk)<|aV<|iW "a rule takes what is no end of its arm")
 (jo<|fg iF (qf 2)<|qi (h_ 1 (ah<|qf 5) (ql 6) (yB<|zx (ut true) (qf 6)<|qf 4)<|qf 6) zk))))
 (bN<|qf 2)))
theorem jE:∀F T:List (aah),((F.zip T).h js).l<=(F.y List.length).sum
 |[],_=>A7 _
 |_::_,[]=>A7 _
 |f::F,t::T=>by have:=jE F T;have h:(js (f,t)).l<=f.l:=CV _ _;rw[List.zip_cons_cons,Bo,Ab,AR,ER];lia
def ol{F T:List<|aah}{x:Nat}(h:x∈(F.zip T).h js):∃f∈F,x∈f:=by obtain⟨⟨f,t⟩,I,J⟩:=Bf.j h;exact{f,(Di I).1,(eh.j J).1}
theorem fV(ks:On):∀A:Ru,(xc ks A).l<=(told A).l
 |.link _ _=>Ap _
 |.ei r A=>by have:=fV ks A;have h:=jE [xc ks A] [jq ks[r]?];show([r]++_).l<=(r::told A).l;rw[Ab,AK];simp at h ⊢;lia
 |.bo r A B=>by
  have:=fV ks A;have:=fV ks B;have h:=jE [xc ks A,xc ks B]<|(jq ks[r]?).y λx=>[x];have e:(told<|.bo r A B).l=1+((told A).l+(told B).l):=by simp[told];lia
  rw[e];show([r]++_).l<=_;rw[Ab];simp at h ⊢;lia
 |.cu p q A B=>by have:=fV ks A;have:=fV ks B;have h:=jE [xc ks A,xc ks B] [[p],[q]];show([]++_).l<=(told A++told B).l;rw[Cy,Ab];simp at h ⊢;lia
theorem cr(ks:On):∀A:Ru,∀x∈xc ks A,x∈told A
 |.link _ _,_,h=>h
 |.ei r A,x,h=>by
  obtain h|h:=Am.j (show x∈[r]++_ from h)
  .exact Ao.d<|.inl<|Ak.mp h
  .obtain⟨f,J,I⟩:=ol h;rw[Ak.j J] at I;exact Ae _<|cr ks A x I
 |.bo r A B,x,h=>by
  obtain h|h:=Am.j (show x∈[r]++_ from h)
  .exact Ao.d<|.inl<|Ak.mp h
  .obtain⟨f,J,I⟩:=ol h;obtain rfl|J:=Ao.j J
   .exact Ae _<|An _<|cr ks A x I
   .rw[Ak.j J] at I;exact Ae _<|Ai _<|cr ks B x I
 |.cu p q A B,x,h=>by
  obtain⟨f,J,I⟩:=ol<|show x∈([xc ks A,xc ks B].zip [[p],[q]]).h js from h;obtain rfl|J:=Ao.j J
  .exact An _<|cr ks A x I
  .rw[Ak.j J] at I;exact Ai _<|cr ks B x I
def s_(ks:On)(A:Ru):Prop:=∀z∈(jd A).zip (ag ks A),∀x∈z.2,x∈xc ks z.1
def lJ(ks:On):Ru->Prop
 |.link p q=>s_ ks<|.link p q
 |.ei r A=>lJ ks A/\s_ ks (.ei r A)
 |.bo r A B=>(lJ ks A/\lJ ks B)/\s_ ks (.bo r A B)
 |.cu p q A B=>(lJ ks A/\lJ ks B)/\s_ ks (.cu p q A B)
def lJ.arms{A:Ru}:lJ ks A↔(∀B∈jd A,lJ ks B)/\s_ ks A:=by cases A<;>simp[lJ,jd]
theorem lJ.rls{ks:On}:∀{A:Ru},lJ ks A->∀B∈ko A,s_ ks B
 |.link p q,h,B,I=>by cases Ak.j I;exact h
 |.ei r A,h,B,I=>by
  obtain rfl|I:=Ao.j I
  .exact h.2
  .exact lJ.rls h.1 B I
 |.bo r A C,h,B,I=>by
  obtain rfl|I:=Ao.j I
  .exact h.2
  .exact(Am.j I).r (lJ.rls h.1.1 B) (lJ.rls h.1.2 B)
 |.cu p q A C,h,B,I=>by
  obtain rfl|I:=Ao.j I
  .exact h.2
  .exact(Am.j I).r (lJ.rls h.1.1 B) (lJ.rls h.1.2 B)
def y8{A:Ru}(h:oz wd A):(ag (rV wd) A).l=(jd A).l:=by
 cases A with
 |link p q=>rfl
 |ei r A=>rfl
 |bo r A B=>
  obtain⟨i,j,e⟩:=h;show((jq (rV wd)[r]?).y λx=>[x]).l=2;rw[ue e];rfl
 |cu p q A B=>rfl
def YM{A B:Ru}(h:∀C∈ko A,oz wd C)(I:B∈jd A):∀C∈ko B,oz wd C:=λC J=>h C ([rJ]≈(Ae _<|Bf.mpr {(B),I,J}))
inductive km(C:Addr)(n:Nat)(ys:_T)(L:qm)(Q:YK)(E:Addr->qm->Prop):Prop
 |mk:∀a,∀wd:List (GT),∀A:Ru,(ys=[.ref a,qx A])->(L a=⇑(wm wd))->((∀B∈ko A,oz wd B))->((told A).l<=1000)->(zq A<=n)->((lJ (rV wd) A->∀p,L p=none->Q (.ref p) (qk L p<|.lst<|nY<|xc (rV wd) A)))->((¬lJ (rV wd) A->E C L))->km C n ys L Q E
def xB :∀ys L Q E,¬km C 0 ys L Q E:=by rintro ys L Q E ⟨a,I,A,_,_,_,_,h,_⟩;have:=qT A;lia
def wJ(n:Nat):∀ys L Q E,km C (n+1) ys L Q E->x6 (ou (uG E) cz g0 bY (km C n)<|w6 C) 6 ys L Q:=by
 rintro ys L Q E ⟨a,wd,A,rfl,ha,ft,tl,hd,yes,no⟩;have big:=a_;obtain⟨I,p⟩:∃I,I=rV wd:={_,rfl};have fA:=ft A<|aj A;have tk:=y8 fA;rw[<-p] at yes no tk;have e1:(aw<|zo A).y Y.int=nY (fw A):=by rw[Yv,<-oC]
 have e3:(wu<|zo A).y je=(jd A).y qx:=by rw[Yt,BI];exact Dd λB _=>xh B
 have eA:[qx A]=[je<|zo A]:=by rw[xh]
 refine{zo A,eA,λl hl=>{zo A,eA,λpa a1=>?_}};rw[e1] at a1 ⊢;rw[e3];have T:=AN<|ku q9 a1;have ac:=ku ha hl;have sa:qh L (qk (qk L l<|.lst<|nY<|fw A) pa<|.lst<|(jd A).y qx):=(By hl).t<|By a1;refine{a,wd,A,rfl,sa _ _ ha,fA,λpt rs L1 s1 a2 gt pr=>?_};rw[<-p] at pr;have gl:=s1 _ _<|(qe<|AN T).t q9;have gp:=s1 _ _ q9;have ga:=s1 _ _<|sa _ _ ha;have ar:pt≠l:=λz=>by rw[z] at a2;rw[(qe<|AN T).t q9] at a2;cases a2
 obtain⟨Z,eZ⟩:∃Z,Z=((jd A).y<|xc I).zip (ag I A):={_,rfl};have eF:xc I A=fw A++Z.h js:=by rw[eZ];exact Xu I A
 have zl:∀i,(fw A++(Z.u i).h js).l<=1000:=λi=>by
  have h1:=fV I A;have h2:((Z.u i).h js).l+((Z.G i).h js).l=(Z.h js).l:=by rw[<-Ab,<-AC,A1]
  rw[eF,Ab] at h1;rw[Ab];lia
 refine qa gp (qa gt (Wu (λi τ U=>∃c3 c4 c5,τ=[↑a,some<|qx A,↑l,c3,c4,c5]/\Kp l L1 U/\U l=⇑(nY<|fw A++(Z.u i).h js)/\∀j B t,j<i->(jd A)[j]?=some B->(ag I A)[j]?=some t->lJ I B/\∀x∈t,x∈xc I B) {_,_,_,rfl,λ_ _ _ h=>h,by rw[Du,C4,AE];exact gl,nofun} (λi τ U ⟨_,_,_,_,k,_⟩=>{by show U pa=_;rw[k _ _ T gp,gp],by show U pt=_;rw[k _ _ ar gt,gt]}) ?_ ?_))
 .rintro i x y τ U ex ey ⟨c3,c4,c5,rfl,k,g,al⟩;rw[Al] at ex ey;obtain⟨B,eB,rfl⟩:=Au.j ex;obtain⟨r,er,rfl⟩:=Au.j ey;obtain⟨t,et,a3,gr⟩:=Paired.getP pr er;have mB:=AD eB;have lB:=(vF mB).length_le;have dB:=eY mB;have a4:r≠l:=λz=>by rw[z,(qe<|AN T).t q9] at a3;cases a3
  have FL:=fV I B;have aL:=XS t<|AD et;have ei:Z.u (i+1)=Z.u i++[(xc I B,t)]:=by
   have:Z[i]?=some (xc I B,t):=by rw[eZ,B5];exact{by rw[Al,eB];rfl,et}
   rw[Bh,this];rfl
  have zi:=zl i;have au:=zl<|i+1;have zm:(B,t)∈(jd A).zip (ag I A):=AD<|B5.mpr {(eB),et};have sL:qh L U:=λb o e=>k _ _ (ku e hl)<|s1 _ _<|sa _ _ e;refine{a,wd,B,rfl,k _ _ ac ga,YM ft mB,'s','s',λeo p5 h5=>?_,λeo=>{L,sL,no λo=>eo (by rw[<-p];exact(lJ.arms.j o).1 B mB)}};rw[<-p] at eo ⊢;have k5:Kp l L1 (qk U p5<|.lst<|nY<|xc I B):=k.new h5;have g5:qk U p5 (.lst<|nY<|xc I B) l=⇑(nY<|fw A++(Z.u i).h js):=(qe<|ku g h5).t g;have e5:qk U p5 (.lst<|nY<|xc I B) p5=⇑(nY<|xc I B):=q9;have a5:=sL.t<|By (o:=.lst<|nY<|xc I B) h5;generalize qk U p5 (.lst<|nY<|xc I B)=L5 at k5 g5 e5 a5 ⊢;refine xi (k5 _ _ a4 gr) λkeep kp=>bu (λi J=>J=((t.u i).y λm=>decide<|m∈xc I B).y Y.bl) ([we]≈big _ 's') (kp _ rfl) rfl ?_ ?_
  .rintro j y J hy rfl;obtain⟨m,em,rfl⟩:=lW hy;refine qa e5 {rfl,uX _,?_};rw[jW];exact{_,ET _,rfl,by rw[Bh,em,Ax,Ax];rfl}
  rintro J rfl p6 h6;rw[we,Bp];refine{rfl,qa q9<|qg (gQ _) ?_};refine{_,_,rfl,λeb=>?_,λeb=>{L,a5.t<|By h6,no λo=>?_}}
  case' refine_2=>
   have:=(lJ.arms.j o).2 _ zm;rw[DU,List.all_eq_false] at eb;obtain⟨m,hm,hb⟩:=eb;exact hb<|AJ<|this m hm
  have sub:∀m∈t,m∈xc I B:=λm hm=>by rw[DU,BR] at eb;exact of_decide_eq_true<|eb m hm
  obtain⟨J,av⟩:∃J,J=(t.y λm=>decide<|m∈xc I B).y Y.bl:={_,rfl};rw[<-av];have k6:=k5.new (o:=.lst J) h6;have g6:=(qe (o:=.lst J)<|ku g5 h6).t g5;have e6:=(qe (o:=.lst J)<|ku e5 h6).t e5;generalize qk L5 p6 (.lst J)=L6 at k6 g6 e6 ⊢;refine qa g6 (xi e6 λkeep kp=>bu (λi J=>J=nY (js ((xc I B).u i,t))) ([we]≈big _ 's') (kp _ rfl) rfl ?_ ?_)
  .rintro j y J hy rfl;obtain⟨m,em,rfl⟩:=lW hy;have e2:js ((xc I B).u<|j+1,t)=js ((xc I B).u j,t)++js ([m],t):=by unfold js;rw[Bh,em,<-Cu];rfl
   refine qa (k6 _ _ a4 gr) {rfl,uX _,?_};rw[jW];by_cases c:m∈t
   .refine dg (by rw[AJ c];rfl) {_,ET _,rfl,?_};have e3:js ([m],t)=[]:=by unfold js;rw[B9,Az (by rw[AJ c];decide)];rfl
    rw[e2,e3,AE]
   .refine gE (by rw[Ay c];rfl) {_,ET _,rfl,?_};have e3:js ([m],t)=[m]:=by unfold js;rw[B9,AF (by rw[Ay c];rfl)];rfl
    rw[e2,e3,hG];rfl
  rintro J rfl p7 h7;rw[we,Bp];refine qo ((qe<|ku g6 h7).t g6)<|qo q9 {?_,?_}
  .rw[ei,AC,<-AB,Ab,DA] at au;rw[we,we];exact Br<|big _ 's'
  .refine{_,ET _,_,_,_,rfl,(k6.new h7).upd,?_,λj C u hj eC eu=>?_}
   .rw[q9,ei,AC,DA,<-AB,hG<|fw A++_]
   .by_cases c:j=i
    .subst c;rw[eB] at eC;rw[et] at eu;cases eC;cases eu;exact{(eo),sub}
    .exact al j C u 's' eC eu
 .rintro τ U ⟨c3,c4,c5,rfl,k,g,al⟩;have h1:=pQ pr;have lm:min ((jd A).y qx).l (rs.y Y.ref).l=(jd A).l:=by rw[Ac,Ac];lia
  have lz:Z.u (jd A).l=Z:=by refine A4 ?_;rw[eZ,EK,Ac];lia
  rw[lm] at g al;rw[lz,<-eF] at g;refine eM (qh.put (λb o e=>?_) g)<|yes (lJ.arms.d {λB hB=>?_,?_}) l hl
  .exact k b o (ku e hl)<|s1 _ _<|sa _ _ e
  .obtain⟨j,hj,e⟩:=Co.j hB;exact(al j B _ hj (by rw[Ah hj,e])<|Ah 's').1
  .rintro⟨B,t⟩ hz;obtain⟨j,hj,e⟩:=Co.j hz;have e:((jd A).zip<|ag I A)[j]?=some (B,t):=by rw[Ah hj,e]
   obtain⟨e1,e2⟩:=B5.j e;exact(al j B t (zy e1) e1 e2).2
def xQ(E3:X3)(I:fH)(p1:vh)(p2:vh)(p3:vh)(p4:fH)(p5:vh)(p6:vh)(p7:fH):aa:=(zj (jx (a6 0 0)<|ql 1)
 (zj (jx (a6 0 1)<|ql 2)
 (zj (jo<|ay I E3<|qi (jg p1<|aV<|qf 1)<|aV<|iW "the knots are not sound, or all of them are gone")
 (zj (jo<|ay I E3<|qi (jg p2<|qi (jg p3<|aV<|qf 1) zk)<|aV<|iW "a place is a part of two knots")
 (zj (jo<|ay p4 E3<|cg (qf 1)<|qf 2)
 (zj (jo<|ay I E3<|qi (sJ GV<|qi (h_ 1 (ah<|jg p5<|aV<|qf 2) (ql 3) GF<|jg p6<|cg (qf 1)<|qf 3) zk)<|aV<|iW "a rule does not fit its knots")
 (zj (jo<|ay p7 E3<|cg (qf 1)<|qf 2)
 (bN<|yC<|.bl true))))))))
def YN:_q->GT
 |none=>none
 |some (.lf t n)=>some<|.lf t n
 |some (.nd e i j)=>some<|.nd e i.B j.B
def KnW(wd:List<|GT):Prop:=∀(p:Nat) (e:Bool) (i j:Nat),wd[p]?=some (some<|.nd e i j)->i<p/\j<p/\(∃k,wd[i]?=some (some k))/\∃k,wd[j]?=some (some k)
def pG(h:uf zs=true){k:_q}(e:zs[p]?=some k):(∀x∈wc k,f' zs p x=true)/\(wc k).c:=by unfold uf at h;rw[AS] at h;have h:=BR.j h.1 (nu zs p)<|AM.mpr {p,Bg.d<|zy e,rfl};have h:nu zs p=true:=h;unfold nu at h;rw[e,AS] at h;exact{λx I=>BR.mp h.1 _<|AM.mpr {(x),I,rfl},of_decide_eq_true h.2}
def iB{x:Int}(h:f' zs p x=true):∃m:Nat,x=m/\m<p/\∃k,zs[m]?=some (some k):=by
 cases x with
 |negSucc n=>cases h
 |ofNat m=>
  have h:(decide (m<p)&&p_ (zs[m]?.getD none))=true:=h;rw[AS] at h;refine{m,rfl,of_decide_eq_true h.1,?_};have h:=h.2;cases c:zs[m]? with
  |none=>rw[c] at h;cases h
  |some k=>
   rw[c] at h;cases k with|none=>cases h|some k=>exact{(k),rfl}
def YO(h:uf zs=true):∃wd:List (GT),zs=wd.y w4/\KnW wd:=by
 refine{zs.y YN,?_,λp e i j I=>?_}
 .rw[BI];refine(List.map_id zs).symm.trans (Dd λk l=>?_);obtain⟨p,I,e⟩:=Co.j l;have e:zs[p]?=some k:=by rw[Ah I,e]
  obtain⟨f,_⟩:=pG h e;cases k with
  |none=>rfl
  |some k=>
   cases k with
   |lf t n=>rfl
   |nd b i j=>
    obtain⟨m,rfl,_⟩:=iB<|f i<|Ag ..;obtain⟨o,rfl,_⟩:=iB<|f j<|Ae _<|Ag ..;rfl
 .rw[Al] at I;obtain⟨k,r,J⟩:=Au.j I;obtain⟨f,_⟩:=pG h r;cases k with
  |none=>cases J
  |some k=>
   cases k with
   |lf t n=>cases J
   |nd b C T=>
    obtain⟨m,rfl,h1,k1,U⟩:=iB<|f C<|Ag ..;obtain⟨o,rfl,h2,k2,g⟩:=iB<|f T<|Ae _<|Ag ..;cases J;refine{h1,h2,?_,?_}
    .rw[Bx,Al,U];cases k1<;>exact{_,rfl}
    .rw[Bx,Al,g];cases k2<;>exact{_,rfl}
theorem KnW.word{wd:List<|GT}(h:KnW wd):∀(n x:Nat) (k:Kn),x<n->wd[x]?=some (some k)->∃w,KW (wm wd) x w/\w.J<=n
 |0,x,_,I,_=>absurd I<|EL x
 |n+1,x,.lf t nm,_,e=>{.leaf t nm,KW.lf e,by show 1<=n+1;lia}
 |n+1,x,.nd b i j,I,e=>by obtain⟨h1,h2,⟨J,U⟩,⟨g,l⟩⟩:=h x b i j e;obtain⟨u,o,r⟩:=KnW.word h n i J 's' U;obtain⟨v,p,C⟩:=KnW.word h n j g 's' l;exact{.node b u v,KW.nd e o p,by show max u.J v.J+1<=n+1;lia}
def KnW.wdOk(h:KnW wd)(I:wd.l<=120):ID wd:=λx k e=>by obtain⟨w,h1,h2⟩:=h.word 120 x k (AL (zy e) I) e;exact{(w),h1,h2}
theorem hW{wd:List<|GT}:∀{A:Rz},(∀B∈aQ A,yg wd B)->∃R:Ru,A=zo R/\∀B∈ko R,oz wd B
 |.link p q,h=>by obtain⟨⟨a,b⟩,e,hd⟩:=h _<|Ag ..;cases e;exact{.link a b,rfl,λB I=>by cases Ak.j I;exact hd}
 |.ei r A,h=>by
  obtain⟨n,rfl,hd⟩:=h _<|Ag ..;obtain⟨R,rfl,J⟩:=hW (A:=A) λB I=>h B<|Ae _ I;exact{.ei n R,rfl,λB I=>by
   obtain rfl|I:=Ao.j I
   .exact hd
   .exact J B I}
 |.bo r A C,h=>by
  obtain⟨n,rfl,hd⟩:=h _<|Ag ..;obtain⟨R,rfl,J⟩:=hW (A:=A) λB I=>h B<|Ae _<|An _ I;obtain⟨S,rfl,U⟩:=hW (A:=C) λB I=>h B<|Ae _<|Ai _ I;exact{.bo n R S,rfl,λB I=>by
   obtain rfl|I:=Ao.j I
   .exact hd
   .exact(Am.j I).r (J B) (U B)}
 |.cu p q A C,h=>by
  obtain⟨⟨a,b⟩,e,hd⟩:=h _<|Ag ..;obtain⟨R,rfl,J⟩:=hW (A:=A) λB I=>h B<|Ae _<|An _ I;obtain⟨S,rfl,U⟩:=hW (A:=C) λB I=>h B<|Ae _<|Ai _ I;cases e;exact{.cu a b R S,rfl,λB I=>by
   obtain rfl|I:=Ao.j I
   .exact hd
   .exact(Am.j I).r (J B) (U B)}
def YP{B:Ru}(h:oz wd B):yg wd (zo B):=by cases B with|link p q=>exact{(p,q),rfl,h}|ei r A=>exact{(r),rfl,h}|bo r A C=>exact{(r),rfl,h}|cu p q A C=>exact{(p,q),rfl,h}
theorem fF:∀{A B:Rz},B∈aQ A->∀x∈aw B,x∈ze A
 |.link p q,B,h,x,I=>by cases Ak.j h;exact I
 |.ei r A,B,h,x,I=>by
  obtain rfl|h:=Ao.j h
  .rw[Ak.j I];exact Ag ..
  .exact Ae _<|fF h x I
 |.bo r A C,B,h,x,I=>by
  obtain rfl|h:=Ao.j h
  .rw[Ak.j I];exact Ag ..
  .rcases Am.j h with h|h
   .exact Ae _<|An _<|fF h x I
   .exact Ae _<|Ai _<|fF h x I
 |.cu p q A C,B,h,x,I=>by
  obtain rfl|h:=Ao.j h
  .cases I
  .rcases Am.j h with h|h
   .exact An _<|fF h x I
   .exact Ai _<|fF h x I
def gf(zs:List<|_q)(A:Rz):Prop:=uf zs=true/\(cM zs).c/\∃wd R,zs=wd.y w4/\A=zo R/\q_ wd (zo R)/\(∀B∈ko R,oz wd B)/\lJ (rV wd) R
def gf.nat{A:Rz}(h:gf (wd.y w4) A):q_ wd A/\(∀B∈aQ A,yg wd B)/\∀R,A=zo R->lJ (rV wd) R:=by
 obtain⟨_,_,o,R,e,rfl,h1,h2,h3⟩:=h;cases (List.map_inj_right λ_ _=>Ys).j e;refine{h1,λB l=>?_,λS e=>?_}
 .rw[dW] at l;obtain⟨C,T,rfl⟩:=AM.j l;exact YP<|h2 C T
 .have inj:∀{A B:Ru},zo A=zo B->A=B:=λ{A}=>by
   induction A with
   |link p q=>intro B e;cases B<;>cases e<;>rfl
   |ei r A ih=>intro B e;cases B with
    |ei s B=>injection e with U g;rw[A6.j U,ih g]
    |_=>cases e
   |bo r A C I J=>intro B e;cases B with
    |bo s B D=>injection e with U g j;rw[A6.j U,I g,J j]
    |_=>cases e
   |cu p q A C I J=>intro B e;cases B with
    |cu s t B D=>injection e with U g j e4;rw[A6.j U,A6.j g,I j,J e4]
    |_=>cases e
  rw[<-inj e];exact h3
inductive eL(C:Addr)(ys:_T)(L:qm)(Q:YK)(E:Addr->qm->Prop):Prop
 |mk:∀a,∀zs:List (_q),∀A:Rz,(ys=[.tup [.ref a,je A]])->(L a=⇑(dO zs))->(zs.l<=120)->(jn A<=120)->(ky A<=1000)->((ze A).l<=1000)->((gf zs A->Q (.bl true) L))->((¬gf zs A->E C L))->eL C ys L Q E
def YQ :∀ys L Q E,eL C ys L Q E->x6 (xQ (uG E) (w6 C) jY dz dH (gx C) (bJ 120) eQ<|km C 120) 3 ys L Q:=by
 rintro ys L Q E ⟨a,g,A,rfl,J,r,rd,t,tl,yes,no⟩;have big:=a_;have pl:=sw g;refine{a,g,rfl,J,'s',{_,_,rfl,λe=>?_,λe=>{L,ET _,no λh=>by rw[h.1] at e;cases e}}};refine{a,g,rfl,J,'s',λp1 h1=>?_};have j:=By (o:=.lst<|(cM g).y Y.int) h1;refine{p1,cM g,rfl,q9,'s',{_,_,rfl,λT=>?_,λT=>{L,j,no λh=>of_decide_eq_false T h.2.1}}};obtain⟨U,rfl,a1⟩:=YO e;rw[Ac] at r;have W:=a1.wdOk r;rw[<-y_] at J;generalize qk L p1 (.lst<|(cM<|U.map w4).y Y.int)=L1 at j ⊢;refine{a,U,A,rfl,j _ _ J,r,rd,t,λon=>?_,λon=>{L,j,no λh=>on h.nat.1}};refine{A,rfl,rd,t,λp2 h2=>?_};have s2:=j.t<|By (o:=.lst<|(aQ A).y je) h2;refine xi q9 λkeep kp=>bu (λi us=>∃bs:List Bool,us=bs.y Y.bl/\(bs.all id=true↔∀B∈(aQ A).u i,yg U B)) (by rw[Ac];unfold ky at t;exact big _ 's') (kp _ rfl) {[],rfl,λ_=>nofun,λ_=>rfl} ?_ ?_
 .rintro i y us hy ⟨bs,rfl,l⟩;rw[Al] at hy;obtain⟨B,eB,rfl⟩:=Au.j hy;refine{a,U,B,rfl,s2 _ _ J,'s',W,λx hx=>on.mem_iff.mp<|fF (AD eB) x hx,λb eb=>{_,ET _,rfl,bs++[b],by rw[Ax];rfl,?_}};rw[List.all_append,AS,l,Bh,eB];constructor
  .rintro⟨h1,h2⟩ u I;obtain I|I:=Am.j I
   .exact h1 u I
   .rw[Ak.j I];rw[Df,AS] at h2;exact eb.j h2.1
  .intro h;refine{λu I=>h u<|An _ I,?_};rw[Df,AS];exact{eb.d<|h B<|Ai _ Ag,rfl}
 rintro us ⟨bs,rfl,l⟩ p3 h3;rw[Ac,Bp] at l;have p:=s2.t<|By (o:=.lst<|bs.map Y.bl) h3;refine{rfl,qa q9<|qg (gQ _) ?_};refine{_,_,rfl,λeb=>?_,λeb=>{L,p,no λh=>by rw[l.d h.nat.2.1] at eb;cases eb}};obtain⟨R,rfl,fR⟩:=hW<|l.mp eb;rw[wr,Ac] at tl;rw[jb] at rd;refine{a,U,R,by rw[xh],p _ _ J,fR,tl,rd,λeo p4 h4=>?_,λeo=>{L,p,no λh=>eo<|h.nat.2.2 R rfl}};exact eM (p.t<|By h4)<|yes {e,of_decide_eq_true T,U,R,rfl,rfl,on,fR,eo}
def YR(ks:On)(B:Ru)(X:Rz):Prop:=(ze X).C (ze<|zo B)->(∀C∈aQ X,yg (ks.y some) C)->(∀S,X=zo S->lJ ks S)->False
structure aF(ks:On)(B:Ru)(X:Rz):Prop where
 no:YR ks B X
 dp:jn X<=zq B+1
 sz:ky X<=2*aH B+1
 tl:(ze X).l<=2*(told B).l+1
def zh(A:Ru):(ze<|zo A).l=(told A).l:=by rw[wr,Ac]
def oK(r:Int)(A:Rz):ky (.ei r A)=ky A+1:=rfl
def dT(r:Int)(A B:Rz):ky (.bo r A B)=ky A+ky B+1:=by unfold ky;show((aQ A++aQ B).l+1)=_;rw[Ab]
def kZ(p q:Int)(A B:Rz):ky (.cu p q A B)=ky A+ky B+1:=by unfold ky;show((aQ A++aQ B).l+1)=_;rw[Ab]
def lF(A:Ru):0<(told A).l:=by have:=kh A;lia
theorem aF.ei{A:Ru}{X:Rz}(h:aF ks A X)(r:Nat):aF ks (.ei r A) (.ei r X):=by
 refine{λI J U=>h.no (CT I) (λC g=>J C<|Ae _ g) λS e=>(U (.ei r S) (by rw[e];rfl)).1,?_,?_,?_}
 .have:=h.dp;show jn X+1<=zq A+1+1;lia
 .have:=h.sz;rw[oK];show _<=2*(aH A+1)+1;lia
 .have:=h.tl;show(ze X).l+1<=2*((told A).l+1)+1;lia
def aF.bo1{A B:Ru}{X:Rz}(h:aF ks A X)(r:Nat):aF ks (.bo r A B) (.bo r X<|zo B):=by
 refine{λI J U=>h.no ((Bt _).j<|CT I) (λC g=>J C<|Ae _<|An _ g) λS e=>(U (.bo r S B) (by rw[e];rfl)).1.1,?_,?_,?_}
 .have:=h.dp;show max (jn X) (jn<|zo B)+1<=max (zq A) (zq B)+1+1;rw[jb];lia
 .have:=h.sz;rw[dT,x0];show _<=2*(aH A+aH B+1)+1;lia
 .have:=h.tl;show(ze X++ze (zo B)).l+1<=2*((told A++told B).l+1)+1;rw[Ab,Ab,zh];lia
def aF.bo2{A B:Ru}{X:Rz}(h:aF ks B X)(r:Nat):aF ks (.bo r A B) (.bo r (zo A) X):=by
 refine{λI J U=>h.no ((Bv _).j<|CT I) (λC g=>J C<|Ae _<|Ai _ g) λS e=>(U (.bo r A S) (by rw[e];rfl)).1.2,?_,?_,?_}
 .have:=h.dp;show max (jn<|zo A) (jn X)+1<=max (zq A) (zq B)+1+1;rw[jb];lia
 .have:=h.sz;rw[dT,x0];show _<=2*(aH A+aH B+1)+1;lia
 .have:=h.tl;show(ze (zo A)++ze X).l+1<=2*((told A++told B).l+1)+1;rw[Ab,Ab,zh];lia
def aF.cu1{A B:Ru}{X:Rz}(h:aF ks A X)(p q:Nat):aF ks (.cu p q A B) (.cu p q X<|zo B):=by
 refine{λI J U=>h.no ((Bt _).j I) (λC g=>J C<|Ae _<|An _ g) λS e=>(U (.cu p q S B) (by rw[e];rfl)).1.1,?_,?_,?_}
 .have:=h.dp;show max (jn X) (jn<|zo B)+1<=max (zq A) (zq B)+1+1;rw[jb];lia
 .have:=h.sz;rw[kZ,x0];show _<=2*(aH A+aH B+1)+1;lia
 .have:=h.tl;show(ze X++ze (zo B)).l<=2*(told A++told B).l+1;rw[Ab,Ab,zh];lia
def aF.cu2{A B:Ru}{X:Rz}(h:aF ks B X)(p q:Nat):aF ks (.cu p q A B) (.cu p q (zo A) X):=by
 refine{λI J U=>h.no ((Bv _).j I) (λC g=>J C<|Ae _<|Ai _ g) λS e=>(U (.cu p q A S) (by rw[e];rfl)).1.2,?_,?_,?_}
 .have:=h.dp;show max (jn<|zo A) (jn X)+1<=max (zq A) (zq B)+1+1;rw[jb];lia
 .have:=h.sz;rw[kZ,x0];show _<=2*(aH A+aH B+1)+1;lia
 .have:=h.tl;show(ze (zo A)++ze X).l<=2*(told A++told B).l+1;rw[Ab,Ab,zh];lia
def aF.len{B:Ru}{X:Rz}(h:(ze X).l≠(told B).l)(I:jn X<=zq B+1)(sz:ky X<=2*aH B+1)(tl:(ze X).l<=2*(told B).l+1):aF ks B X:=
 ⟨λJ _ _=>h (by rw[<-zh];exact J.f),I,sz,tl⟩
def iK{x y:Int}{l:aal}(h:(x::l).C<|y::l):x=y:=by
 have:=B4.j h x;rw[List.count_cons_self,List.count_cons] at this;by_cases c:y=x
 .exact c.L
 .rw[Az (~~~c)] at this;lia
def MB{A B:Ru}(nd:(told A++told B).c)(hi:i∈told A)(h:i∈xc ks B):False:=
 (Aw.j nd).2.2 i hi i (cr ks B i h) rfl
def aF.swapB{A B:Ru}{r:Nat}{E:aah}(s:SR ks (.bo r A B) E)(nd:(told<|.bo r A B).c):aF ks (.bo r A B) (.bo r (zo B)<|zo A):=by
 refine{λ_ _ I=>?_,?_,?_,?_}
 .cases s with
  |@bo _ i j _ _ g l _ h1 J o U p C T=>
   have t:=(lJ.arms.j<|I (.bo r B A) rfl).2;have z:(B,[i])∈(jd<|.bo r B A).zip (ag ks<|.bo r B A):=by show(B,[i])∈[B,A].zip ((jq ks[r]?).y λx=>[x]);rw[h1];exact Ag ..
   exact MB (AA.j nd).2 (J.sub i U)<|t _ z i<|Ag ..
 .show max (jn<|zo B) (jn<|zo A)+1<=max (zq A) (zq B)+1+1;rw[jb,jb];lia
 .rw[dT,x0,x0];show _<=2*(aH A+aH B+1)+1;lia
 .show(ze (zo B)++ze (zo A)).l+1<=2*((told A++told B).l+1)+1;rw[Ab,Ab,zh,zh];lia
def aF.swapC{A B:Ru}{E:aah}(s:SR ks (.cu p q A B) E)(nd:(told<|.cu p q A B).c):aF ks (.cu p q A B) (.cu p q (zo B)<|zo A):=by
 refine{λ_ _ I=>?_,?_,?_,?_}
 .cases s with
  |@cu _ _ _ _ U g _ w J j h3 l o r C T=>
   have t:=(lJ.arms.j<|I (.cu p q B A) rfl).2;exact MB nd (J.sub p h3)<|t (B,[p]) (Ag ..) p<|Ag ..
 .show max (jn<|zo B) (jn<|zo A)+1<=max (zq A) (zq B)+1+1;rw[jb,jb];lia
 .rw[kZ,x0,x0];show _<=2*(aH A+aH B+1)+1;lia
 .show(ze (zo B)++ze (zo A)).l<=2*(told A++told B).l+1;rw[Ab,Ab,zh,zh];lia
def pW{l m:aal}(h:l.C<|m++m)(nd:l.c):m=[]:=by cases m with|nil=>rfl|cons x m=>exact absurd rfl<|(Aw.j<|h.nodup_iff.mp nd).2.2 x (Ag ..) x<|Ag ..
def wY{A:Ru}(h:(told A).c):(ze<|zo A).c:=by rw[wr];exact fJ h
def pL(A:Ru):ze (zo A)≠[]:=λe=>by have:=lF A;rw[<-zh,e] at this;exact absurd this<|Cs 0
def aF.twB{A B C:Ru}{r:Nat}(nd:(told<|.bo r A B).c)(I:C=A\/C=B):aF ks (.bo r A B) (.bo r (zo C)<|zo C):=by
 refine{λJ _ _=>pL C<|pW (CT J).L (AA.j<|wY nd).2,?_,?_,?_}
 .show max (jn<|zo C) (jn<|zo C)+1<=max (zq A) (zq B)+1+1;rw[jb];obtain rfl|rfl:=I<;>lia
 .rw[dT,x0];show _<=2*(aH A+aH B+1)+1;obtain rfl|rfl:=I<;>lia
 .show(ze (zo C)++ze (zo C)).l+1<=2*((told A++told B).l+1)+1;rw[Ab,Ab,zh];obtain rfl|rfl:=I<;>lia
def aF.twC{A B C:Ru}(nd:(told<|.cu p q A B).c)(I:C=A\/C=B):aF ks (.cu p q A B) (.cu p q (zo C)<|zo C):=by
 refine{λJ _ _=>pL C<|pW J.L<|wY nd,?_,?_,?_}
 .show max (jn<|zo C) (jn<|zo C)+1<=max (zq A) (zq B)+1+1;rw[jb];obtain rfl|rfl:=I<;>lia
 .rw[kZ,x0];show _<=2*(aH A+aH B+1)+1;obtain rfl|rfl:=I<;>lia
 .show(ze (zo C)++ze (zo C)).l<=2*(told A++told B).l+1;rw[Ab,Ab,zh];obtain rfl|rfl:=I<;>lia
def u5:bootBuiltins "abs"=some (.builtin "abs"):='z'
def Gn(xs:_T)(L:qm)(Q:YK):Prop:=match xs with
 |[.int i]=>Q (.int<|if i<0 then -i else i) L
 |_=>False
def G' :jt X (.builtin "abs") (g_ X.g3 Gn):=FC Rw λU H Q g L j I J z k=>by
 unfold Gn at z;split at z
 .rename_i i;obtain⟨x,rfl,r⟩:=I.inv1;cases r;exact{i,rfl,k _ H _ L (EU _) J 'o' z}
 .exact z.r
def i9(x:Y)(vs:_T)(L:qm)(Q:YK):Prop:=match x,vs with
 |.ref a,[]=>fD L a λ_=>Q .GM<|qk L a<|.lst []
 |_,_=>False
def YS :iR X "list.clear" (i_ X.g3 i9):=FE SN λx U H Q y o L p g j J z k=>by
 unfold i9 at z;split at z
 .rename_i a;obtain⟨t,e,z⟩:=v4 z;obtain⟨l,I,r⟩:=J a _ e;cases (show U=[] from j);exact{a,l,g,rfl,I,k _ _ _ _ (E6 I) (J.setL I<|show xw _ _ [] [] from rfl) 'o' z}
 .exact z.r
def YT(I:QE X o to)(J:attributeBase o "clear" X.o (eval o X.o)=eval o X.o:=by rfl)(U:(apos.endLine==eT.line)=true:=by rfl):
 QE X (.Call (.Attribute o "clear" apos) [] [] eT) (fg i9 to zk):=HY PySem.F.slot_list_clear PySem.F.type_list_clear YS I J U
def cG:RD "_law_other_number" cL 0 ["_law_rule","_law_far","_law_at"] (λ_=>True):={_,λV B c _ _ _ _ _ _ _ J hN I=>(qb (zc (E_ I (J_ 0) qz) (qd<|qt<|qw<|jl qz<|jl (J_ 0)<|aI (qj aG (nU nF qc)<|kj G' rfl B.bj u5<|jz<|qv 1) (J_ 0)<|J_ 0) qy)<|qb (S_ 2 hN qc)<|vm (zc (bC<|bA (E_ I (J_ 0) qz)<|wv<|E_ I (qj zn (qv 1) qc) qc) (qd<|S_ 2 hN qc) qy)<|vm (zc (E_ I (qv 1)<|I_ (qv 0)<|qv 2) (qd<|S_ 1 hN<|qj ju (qv 1) qc) qy)<|qd<|qt<|qj pS (qj pS (xu (gM _ _ _) (qv 0) wg<|vk<|qv 2)<|qw<|jz<|qv 1)<|xu (gM _ _ _) (qv 0) (vk<|qj ju (qv 2) qc) wg)}
def dF(J:vh)(I:vh):RD "_law_spoilt_rule" dE 1 ["_law_rule","_law_way","_law_far","_law_arms_here"] (λV=>alt V J/\Lb V I):={_,λV B c _ _ _ _ _ _ _ g hN U=>(qb (S_ 3 hN<|C_ c.1 g<|jz<|qv 0)<|qb (zc (E_ U (qv 1) qc) (qd<|qt<|C_ c.2 g<|vo (qv 0)<|qv 2) qy)<|qb (zc (E_ U (qv 1) qc) (qb (zc (E_ U (J_ 0) qz) (qd<|qt<|qw<|aI qz (J_ 0)<|J_ 0) qy)<|qb (zc (E_ U (J_ 0) qz) (qd<|qt<|J_ 0) qy)<|qd<|qt<|qj pS (xu (gM _ _ _) (qv 0) wg<|vk<|qj aG (L_ B.ba<|qv 0) qc)<|qw<|vo (I_ (qv 0)<|nU nF qc)<|I_ (qv 0)<|nU nF qc) qy)<|qb (zc (E_ U (J_ 0) qz) (qd<|qt<|qw<|aI qz (J_ 0)<|qv 0) qy)<|qb (zc (E_ U (qv 1) qc) (qb (zc (E_ U (J_ 0) qz) (qd<|qt<|qw<|aI qz (J_ 0)<|qv 0) qy)<|qd<|qt<|qj pS (xu (gM _ _ _) (qv 0) wg<|vk<|qj aG (L_ B.ba<|qv 0) qc)<|qw<|vo (I_ (qv 0)<|qj aG (nU nF qc)<|qj zn (qv 2) qc)<|I_ (qv 0)<|qj aG (nU nF qc)<|qj zn (qv 2) qc) qy)<|qb (zc (E_ U (J_ 0) qz) (qd<|qt<|qw<|aI qz (J_ 0)<|I_ (qv 3)<|qj zn (qv 2) qc) qy)<|qd<|qt<|qw<|jl qz<|aI (J_ 0) (J_ 3)<|I_ (qv 3)<|nU nF qc)}
def gK(g:vh)(J:vh)(I:vh):RR "_law_changed" gy 3 ["_law_rule","_law_number","_law_way","_law_far"] ["_law_rule","_law_number","_law_way","_law_far","_law_arms_here","_law_at","_law_kept"] J (λV=>alt V g/\Ld V I):={_,λV B c _ _ U _ _ _ _ _ _ j hN l=>(qb (S_ 4 hN<|C_ c.1 j<|jz<|qv 0)<|qb (zc (bC<|bA (N_ l (qv 4)<|zd vj)<|wv<|xb FJ (qj zn (qv 1) qc) qc<|vz _) (qb (S_ 5 hN<|qj zn (qj xa (qv 1) qc)<|L_ B.ba<|qv 4)<|qb (S_ 6 hN<|qj aG (L_ B.ba<|qv 0)<|L_ B.ba<|qv 4)<|qb (aU (qv 4) (qv 5)<|C_ U j<|jl (I_ (qv 4)<|qv 5)<|aI (qj zn (qj mS (qv 1) qc) qc) (qv 2)<|qv 3)<|qd<|qt<|qj pS (xu (gM _ _ _) (qv 0) wg<|vk<|qv 6)<|bT Mm rfl B.b_tuple pC<|jz<|qv 4) qy)<|qd<|qt<|C_ c.2 j<|aI (qv 0) (qv 2)<|qv 3)}
def oS(r:Int)(A:Ru):je (.ei r<|zo A)=.tup [.str "either",.int r,qx A]:=by show Y.tup [_,_,je<|zo A]=_;rw[xh]
def fM(r:Int)(A B:Ru):je (.bo r (zo A)<|zo B)=.tup [.str "both",.int r,qx A,qx B]:=by show Y.tup [_,_,je<|zo A,je<|zo B]=_;rw[xh,xh]
def oG(p q:Int)(A B:Ru):je (.cu p q (zo A)<|zo B)=.tup [.str "cut",.int p,.int q,qx A,qx B]:=by show Y.tup [_,_,_,je<|zo A,je<|zo B]=_;rw[xh,xh]
def aF.oei{r:Nat}{A:Ru}{f:Int}(h:f≠r):aF ks (.ei r A) (.ei f<|zo A):=by
 refine{λI _ _=>h<|iK I,?_,?_,?_}
 .show jn (zo A)+1<=zq A+1+1;rw[jb];lia
 .rw[oK,x0];show _<=2*(aH A+1)+1;lia
 .show(ze<|zo A).l+1<=2*((told A).l+1)+1;rw[zh];lia
def aF.obo{r:Nat}{A B:Ru}{f:Int}(h:f≠r):aF ks (.bo r A B) (.bo f (zo A)<|zo B):=by
 refine{λI _ _=>h<|iK I,?_,?_,?_}
 .show max (jn<|zo A) (jn<|zo B)+1<=max (zq A) (zq B)+1+1;rw[jb,jb];lia
 .rw[dT,x0,x0];show _<=2*(aH A+aH B+1)+1;lia
 .show(ze (zo A)++ze (zo B)).l+1<=2*((told A++told B).l+1)+1;rw[Ab,Ab,zh,zh];lia
def aF.ocu{A B:Ru}{f:Int}(h:f<0):aF ks (.cu p q A B) (.cu p f (zo A)<|zo B):=by
 refine{λ_ I _=>?_,?_,?_,?_}
 .obtain⟨⟨a,b⟩,e,_⟩:=I _<|Ag ..;have:f=(b:Int):=A8 Prod.snd e;lia
 .show max (jn<|zo A) (jn<|zo B)+1<=max (zq A) (zq B)+1+1;rw[jb,jb];lia
 .rw[kZ,x0,x0];show _<=2*(aH A+aH B+1)+1;lia
 .show(ze (zo A)++ze (zo B)).l<=2*(told A++told B).l+1;rw[Ab,Ab,zh,zh];lia
def aF.olk{a b:Int}(h:a=p/\b≠q\/a≠p/\b=q):aF ks (.link p q) (.link a b):=by
 refine{λI _ _=>?_,Cn 1,by show 1<=3;decide,by show 2<=5;decide};have I:=I;rcases h with⟨rfl,h⟩|⟨h,rfl⟩
 .exact h<|iK<|CT I
 .exact h<|iK<|(List.Perm.swap _ _ _).t (I.t<|List.Perm.swap _ _ _) |>.cons_inv
inductive oN(ys:_T)(L:qm)(Q:YK):Prop
 |mk:∀ks:On,∀B:Ru,∀far:Int,(ys=[qx B,.int far])->(∀X,aF ks B X->Q (je X) L)->oN ys L Q
def YU:_f oN cG.1 3:=by
 rintro ys L Q ⟨ks,B,I,rfl,q⟩;cases B with
 |cu p r A C=>
  have h:=q _ (aF.ocu (f:=-1-(if I<0 then -I else I)) (by split<;>lia));rw[oG] at h;exact jj h
 |link p r=>
  refine{λJ U=>∃z:Bool,J=[some<|qx<|.link p r,some<|.int I,some<|.int<|if z then 2 else 1]/\U=L,{(∅:(0:Int)<2),qr (λc=>{(true),rfl,rfl}) λc=>{(false),rfl,rfl}},?_};rintro J j ⟨z,rfl,rfl⟩;cases z with
  |true=>
   refine{λJ U=>∃f:Int,f≠r/\J=[some<|qx<|.link p r,some<|.int f,some<|.int 2]/\U=j,qr (λc=>{I+1,'s',rfl,rfl}) λc=>{(I),c,rfl,rfl},?_};rintro J U ⟨f,g,rfl,rfl⟩;have h:=q _<|aF.olk (ks:=ks) (p:=p) (q:=r) (a:=p) (b:=f)<|.inl {(rfl),g};exact{λz=>absurd z.2 (by show ¬2=3;decide),A9 _ _,Ar rfl,λz=>absurd z.1 (by show ¬3=0;decide),A9 _ _,Ar rfl,jj h}
  |false=>
   refine{λJ U=>∃f:Int,f≠p/\J=[some<|qx<|.link p r,some<|.int f,some<|.int 1]/\U=j,qr (λc=>{I+1,'s',rfl,rfl}) λc=>{(I),c,rfl,rfl},?_};rintro J U ⟨f,g,rfl,rfl⟩;have h:=q _<|aF.olk (ks:=ks) (p:=p) (q:=r) (a:=f) (b:=r)<|.inr {(g),rfl};exact{λz=>absurd z.2 (by show ¬1=3;decide),A9 _ _,Ar rfl,λz=>absurd z.1 (by show ¬2=0;decide),A9 _ _,Ar rfl,jj h}
 |ei r A=>
  refine{λJ U=>J=[some<|qx<|.ei r A,some<|.int I,some<|.int 1]/\U=L,{(rfl),rfl},?_};rintro J j ⟨rfl,rfl⟩;refine{λJ U=>∃f:Int,f≠r/\J=[some<|qx<|.ei r A,some<|.int f,some<|.int 1]/\U=j,qr (λc=>{I+1,'s',rfl,rfl}) λc=>{(I),c,rfl,rfl},?_};rintro J U ⟨f,g,rfl,rfl⟩;have h:=q _<|aF.oei (ks:=ks) (A:=A) g;rw[oS] at h;exact{λz=>absurd z.2 (by show ¬1=3;decide),A9 _ _,Ar rfl,λz=>absurd z.1 (by show ¬2=0;decide),A9 _ _,Ar rfl,jj h}
 |bo r A C=>
  refine{λJ U=>J=[some<|qx<|.bo r A C,some<|.int I,some<|.int 1]/\U=L,{(rfl),rfl},?_};rintro J j ⟨rfl,rfl⟩;refine{λJ U=>∃f:Int,f≠r/\J=[some<|qx<|.bo r A C,some<|.int f,some<|.int 1]/\U=j,qr (λc=>{I+1,'s',rfl,rfl}) λc=>{(I),c,rfl,rfl},?_};rintro J U ⟨f,g,rfl,rfl⟩;have h:=q _<|aF.obo (ks:=ks) (A:=A) (B:=C) g;rw[fM] at h;exact{λz=>absurd z.2 (by show ¬1=4;decide),A9 _ _,Ar rfl,λz=>absurd z.1 (by show ¬2=0;decide),A9 _ _,Ar rfl,jj h}
inductive jM(ys:_T)(L:qm)(Q:YK):Prop
 |mk:∀ks:On,∀B:Ru,∀E:aah,∀way far:Int,(ys=[qx B,.int way,.int far])->(SR ks B E)->((told B).c)->(0<=way)->(∀X L',aF ks B X->qh L L'->Q (je X) L')->jM ys L Q
def aF.up{B:Ru}{r:Nat}:aF ks B (.ei r<|zo B):=by
 have e:(ze<|.ei r<|zo B).l=(told B).l+1:=by show(ze<|zo B).l+1=_;rw[zh]
 exact aF.len 's' (by show jn (zo B)+1<=_;rw[jb];exact Ap _) (by rw[oK,x0];lia) 's'
def aF.dn{A:Ru}{r:Nat}:aF ks (.ei r A) (zo A):=by have e:(told<|.ei r A).l=(told A).l+1:=rfl;refine aF.len (by rw[zh];lia) (by rw[jb];show _<=zq A+1+1;lia) (by rw[x0];show _<=2*(aH A+1)+1;lia) (by rw[zh];lia)
def aF.arm{A B C:Ru}{r:Nat}(h:C=A\/C=B):aF ks (.bo r A B) (.ei r<|zo C):=by
 have e:(told<|.bo r A B).l=(told A).l+(told B).l+1:=by show(told A++told B).l+1=_;rw[Ab]
 have I:(ze<|.ei r<|zo C).l=(told C).l+1:=by show(ze<|zo C).l+1=_;rw[zh]
 have:=lF A;have:=lF B;refine aF.len (by obtain rfl|rfl:=h<;>lia) (by show jn (zo C)+1<=max (zq A) (zq B)+1+1;rw[jb];obtain rfl|rfl:=h<;>lia) (by rw[oK,x0];show _<=2*(aH A+aH B+1)+1;obtain rfl|rfl:=h<;>lia) (by obtain rfl|rfl:=h<;>lia)
def aF.dbl{A:Ru}{r:Nat}:aF ks (.ei r A) (.bo r (zo A)<|zo A):=by
 have e:(told<|.ei r A).l=(told A).l+1:=rfl;have I:(ze<|.bo r (zo A)<|zo A).l=(told A).l+(told A).l+1:=by show(ze (zo A)++ze (zo A)).l+1=_;rw[Ab,zh]
 have:=lF A;exact aF.len 's' (by show max (jn<|zo A) (jn<|zo A)+1<=zq A+1+1;rw[jb];lia) (by rw[dT,x0];show _<=2*(aH A+1)+1;lia) 's'
def aF.bth{A B:Ru} :aF ks (.cu p q A B) (.bo p (zo A)<|zo B):=by
 have e:(told<|.cu p q A B).l=(told A).l+(told B).l:=by show(told A++told B).l=_;rw[Ab]
 have I:(ze<|.bo p (zo A)<|zo B).l=(told A).l+(told B).l+1:=by show(ze (zo A)++ze (zo B)).l+1=_;rw[Ab,zh,zh]
 exact aF.len 's' (by show max (jn<|zo A) (jn<|zo B)+1<=max (zq A) (zq B)+1+1;rw[jb,jb];lia) (by rw[dT,x0,x0];show _<=2*(aH A+aH B+1)+1;lia) 's'
def aF.rev(h:p<q):aF ks (.link p q) (.link q p):=by refine{λ_ I _=>?_,Cn 1,by show 1<=3;decide,by show 2<=5;decide};obtain⟨⟨a,b⟩,e,h2,_⟩:=I _<|Ag ..;have J:(q:Int)=a:=A8 Prod.fst e;have U:(p:Int)=b:=A8 Prod.snd e;have h2:=h2;lia
def YV:_f jM (dF hE oN).1 4:=by
 rintro ys L Q ⟨ks,B,E,U,I,rfl,s,nd,hw,q⟩;refine{B,rfl,λp t=>?_};refine wW t λg T g1=>?_;have q:∀X,aF ks B X->aR Q (je X) g:=λX o=>jj<|q X g o T;refine qr (λc0=>{ks,B,I,rfl,λX o=>q X o}) λc0=>?_;refine qr (λc1=>?_) λc1=>?_
 .cases B with
  |link a b=>
   cases s with|link h1 h2 h3 h4 h5=>exact q _<|aF.rev h1
  |ei r A=>have h:=q _<|aF.dn (r:=r) (A:=A);rw[xh] at h;exact h
  |bo r A C=>
   have h:=q _<|aF.swapB s nd;rw[fM] at h;exact{λz=>absurd z.2 (by show ¬2=4;decide),A9 _ _,Ar rfl,h}
  |cu a b A C=>
   have h:=q _<|aF.swapC s nd;rw[oG] at h;exact{λz=>absurd z.2 (by show ¬3=5;decide),A9 _ _,Ar rfl,h}
 .cases B with
  |link a b=>exact q _<|aF.up (ks:=ks) (B:=.link a b) (r:=a)
  |ei r A=>
   refine qr (λj=>?_) λj=>?_
   .have h:=q _<|aF.up (ks:=ks) (B:=.ei r A) (r:=r);rw[oS] at h;exact h
   .have h:=q _<|aF.dbl (ks:=ks) (A:=A) (r:=r);rw[fM] at h;exact qa g1<|qa g1 h
  |bo r A C=>
   have J:I % 2=0\/I % 2=1:='s'
   refine qr (λj=>?_) λj=>?_
   .have key:∀D:Ru,D=A\/D=C->bw [Y.str "both",.int (r:Int),qx A,qx C] (-1-I % 2)=some (qx D)->x6 (bN<|zx G9 (Ge G4 (qf 0) kI<|yO<|zx gL (sJ sD<|qi (qf 0) zk)<|yC<|.int 2)<|vi<|qi (zx aO (qf 0)<|zx gL (Fo Fp<|yC<|.int 1)<|zx wf (qf 2)<|yC<|.int 2)<|qi (zx aO (qf 0)<|zx gL (Fo Fp<|yC<|.int 1)<|zx wf (qf 2)<|yC<|.int 2) zk) 1 [qx<|.bo r A C,.int U,.int I] g Q:=λD l e=>by have h:=q _<|aF.twB (ks:=ks) nd l;rw[fM] at h;refine{λz=>absurd z.2 (by show ¬2=4;decide),(∅:(0:Int)<2),?_};walk_at "w";rw[e];refine{(∅:(0:Int)<2),?_};walk_at "w";rw[e];exact{A9 _ _,Ar rfl,h}
    obtain J|J:=J
    .exact key C (.inr rfl) (by rw[J];rfl)
    .exact key A (.inl rfl) (by rw[J];rfl)
   .have key:∀D:Ru,D=A\/D=C->bw ((jd<|.bo r A C).y qx) (I % 2)=some (qx D)->aR Q (je<|.ei r<|zo D) g:=λD l e=>q _<|aF.arm l;obtain J|J:=J
    .have h:=key A (.inl rfl) (by rw[J];rfl);rw[oS] at h;exact{(∅:(0:Int)<2),qa g1 (qg (by rw[J];rfl) h)}
    .have h:=key C (.inr rfl) (by rw[J];rfl);rw[oS] at h;exact{(∅:(0:Int)<2),qa g1 (qg (by rw[J];rfl) h)}
  |cu a b A C=>
   refine qr (λj=>?_) λj=>?_
   .have J:I % 2=0\/I % 2=1:='s'
    have key:∀D:Ru,D=A\/D=C->bw [Y.str "cut",.int (a:Int),.int (b:Int),qx A,qx C] (-1-I % 2)=some (qx D)->x6 (bN<|zx G9 (Ge G4 (qf 0) kI<|yO<|zx gL (sJ sD<|qi (qf 0) zk)<|yC<|.int 2)<|vi<|qi (zx aO (qf 0)<|zx gL (Fo Fp<|yC<|.int 1)<|zx wf (qf 2)<|yC<|.int 2)<|qi (zx aO (qf 0)<|zx gL (Fo Fp<|yC<|.int 1)<|zx wf (qf 2)<|yC<|.int 2) zk) 1 [qx<|.cu a b A C,.int U,.int I] g Q:=λD l e=>by have h:=q _<|aF.twC (ks:=ks) nd l;rw[oG] at h;refine{λz=>absurd z.2 (by show ¬3=5;decide),(∅:(0:Int)<2),?_};walk_at "w";rw[e];refine{(∅:(0:Int)<2),?_};walk_at "w";rw[e];exact{A9 _ _,Ar rfl,h}
    obtain J|J:=J
    .exact key C (.inr rfl) (by rw[J];rfl)
    .exact key A (.inl rfl) (by rw[J];rfl)
   .have h:=q _<|aF.bth (ks:=ks) (A:=A) (B:=C) (p:=a) (q:=b);rw[fM] at h;exact qa g1<|qa g1 h
inductive bM(n:Nat)(ys:_T)(L:qm)(Q:YK):Prop
 |mk:∀ks:On,∀A:Ru,∀E:aah,∀fv way far:Int,(ys=[qx A,.int fv,.int way,.int far])->(SR ks A E)->((told A).c)->(zq A<=n)->(zq A<=120)->(0<=way)->(∀X L',aF ks A X->qh L L'->Q (je X) L')->bM n ys L Q
def zF:∀ys L Q,¬bM 0 ys L Q:=by rintro ys L Q ⟨U,A,E,fv,I,J,_,_,_,h,_⟩;have:=qT A;lia
def YW(n:Nat):_f (bM (n+1)) (gK hE (bM n) jM).1 7:=by
 rintro ys L Q ⟨ks,A,E,fv,J,U,rfl,s,nd,hd,g,hw,q⟩;refine{A,rfl,λp hp=>?_};refine wW hp λL1 s1 g1=>?_;intro p2 T;refine aq (n:=120) (m:=0) ∅ (By T _ _ g1) q9 (iq λB hB=>AQ (Br<|eY hB) g) (.nil:Paired (j6 _ 0) _ []) ?_;have s2:=s1.t<|By (o:=.lst []) T;have g2:=By (o:=.lst []) T _ _ g1;generalize qk L1 p2 (.lst [])=L2 at s2 g2 ⊢;have stop:jM [qx A,.int J,.int U] L2 (aR Q):={ks,A,E,J,U,rfl,s,nd,hw,λX L' t I=>eM (s2.t I)<|q X _ t<|ET _};cases A with
 |link a b=>exact stop
 |ei r B=>
  refine{(∅:(0:Int)<5),qr (λc=>?_) λc=>stop};have hd:zq B+1<=n+1:=hd;have g:zq B+1<=120:=g;have e0:fv / 5 % 1=0:=Int.emod_one _;cases s with
  |@ei _ i j _ EA _ h1 hA=>
   refine{{∅,∅},qa g2 {(∅:(0:Int)<1),qa g2 (qa g2 (qg (v:=qx B) (by show bw [qx B] (fv / 5 % 1)=_;rw[e0];rfl) {.inr {∅,∅},(∅:(0:Int)<2147483647),ks,B,EA,_,J,U,rfl,hA,(AA.j nd).2,'s','s',hw,λX L' t I=>?_}))}};exact qo (I _ _ g2) (qg (v:=0) (by show vB 1 (fv / 5 % 1)=_;rw[e0];rfl) {λz=>absurd z.2 (by show ¬2=3;decide),qo q9 {A9 _ _,Ar rfl,jj<|q _ _ (t.ei r)<|(s2.t I).upd hp}})
 |bo r B C=>
  refine{(∅:(0:Int)<5),qr (λc=>?_) λc=>stop};have hd:max (zq B) (zq C)+1<=n+1:=hd;have g:max (zq B) (zq C)+1<=120:=g;obtain⟨nB,nC,_⟩:=Aw.j (AA.j nd).2;have l:fv / 5 % 2=0\/fv / 5 % 2=1:='s'
  cases s with
  |@bo _ i j _ _ EA EB _ h1 hA hB=>
   obtain l|l:=l
   .refine{{∅,∅},qa g2 {(∅:(0:Int)<2),qa g2 (qa g2 (qg (v:=qx B) (by show bw [qx B,qx C] (fv / 5 % 2)=_;rw[l];rfl) {.inr {∅,∅},(∅:(0:Int)<2147483647),ks,B,EA,_,J,U,rfl,hA,nB,'s','s',hw,λX L' t I=>?_}))}};have h:=q _ _ (t.bo1 (B:=C) r)<|(s2.t I).upd hp (o:=.lst [je X,qx C]);rw[show je (.bo r X<|zo C)=_ from A8 (λz=>Y.tup [.str "both",.int (r:Int),je X,z])<|xh C] at h;exact qo (I _ _ g2) (qg (v:=0) (by show vB 2 (fv / 5 % 2)=_;rw[l];rfl) {λz=>absurd z.2 (by show ¬2=4;decide),qo q9 {A9 _ _,Ar rfl,jj h}})
   .refine{{∅,∅},qa g2 {(∅:(0:Int)<2),qa g2 (qa g2 (qg (v:=qx C) (by show bw [qx B,qx C] (fv / 5 % 2)=_;rw[l];rfl) {.inr {∅,∅},(∅:(0:Int)<2147483647),ks,C,EB,_,J,U,rfl,hB,nC,'s','s',hw,λX L' t I=>?_}))}};have h:=q _ _ (t.bo2 (A:=B) r)<|(s2.t I).upd hp (o:=.lst [qx B,je X]);rw[show je (.bo r (zo B) X)=_ from A8 (λz=>Y.tup [.str "both",.int (r:Int),z,je X])<|xh B] at h;exact qo (I _ _ g2) (qg (v:=1) (by show vB 2 (fv / 5 % 2)=_;rw[l];rfl) {λz=>absurd z.2 (by show ¬2=4;decide),qo q9 {A9 _ _,Ar rfl,jj h}})
 |cu a b B C=>
  refine{(∅:(0:Int)<5),qr (λc=>?_) λc=>stop};have hd:max (zq B) (zq C)+1<=n+1:=hd;have g:max (zq B) (zq C)+1<=120:=g;obtain⟨nB,nC,_⟩:=Aw.j<|show(told B++told C).c from nd;have l:fv / 5 % 2=0\/fv / 5 % 2=1:='s'
  cases s with
  |@cu _ _ _ _ EA EB _ w hA hB=>
   obtain l|l:=l
   .refine{{∅,∅},qa g2 {(∅:(0:Int)<2),qa g2 (qa g2 (qg (v:=qx B) (by show bw [qx B,qx C] (fv / 5 % 2)=_;rw[l];rfl) {.inr {∅,∅},(∅:(0:Int)<2147483647),ks,B,EA,_,J,U,rfl,hA,nB,'s','s',hw,λX L' t I=>?_}))}};have h:=q _ _ (t.cu1 (B:=C) a b)<|(s2.t I).upd hp (o:=.lst [je X,qx C]);rw[show je (.cu a b X<|zo C)=_ from A8 (λz=>Y.tup [.str "cut",.int (a:Int),.int (b:Int),je X,z])<|xh C] at h;exact qo (I _ _ g2) (qg (v:=0) (by show vB 2 (fv / 5 % 2)=_;rw[l];rfl) {λz=>absurd z.2 (by show ¬3=5;decide),qo q9 {A9 _ _,Ar rfl,jj h}})
   .refine{{∅,∅},qa g2 {(∅:(0:Int)<2),qa g2 (qa g2 (qg (v:=qx C) (by show bw [qx B,qx C] (fv / 5 % 2)=_;rw[l];rfl) {.inr {∅,∅},(∅:(0:Int)<2147483647),ks,C,EB,_,J,U,rfl,hB,nC,'s','s',hw,λX L' t I=>?_}))}};have h:=q _ _ (t.cu2 (A:=B) a b)<|(s2.t I).upd hp (o:=.lst [qx B,je X]);rw[show je (.cu a b (zo B) X)=_ from A8 (λz=>Y.tup [.str "cut",.int (a:Int),.int (b:Int),z,je X])<|xh B] at h;exact qo (I _ _ g2) (qg (v:=1) (by show vB 2 (fv / 5 % 2)=_;rw[l];rfl) {λz=>absurd z.2 (by show ¬3=5;decide),qo q9 {A9 _ _,Ar rfl,jj h}})
def YX{E:aah}(h:SR ks R E):(told R).c->lJ ks R:=by
 have tk:∀{A:Ru} {E:aah},SR ks A E->(told A).c->s_ ks A:=λ{A E} s nd z hz x hx=>by
  obtain⟨j,hj,e⟩:=Co.j hz;have e:((jd A).zip<|ag ks A)[j]?=some z:=by rw[Ah hj,e]
  obtain⟨e1,e2⟩:=B5.j e;obtain⟨EB,sB,sub⟩:=FA s.arms e1 e2;exact(Xw sB<|(vF<|AD e1).nodup nd).mem_iff.mpr (sub x hx)
 induction h with
 |link h1 h2 h3 I J=>exactλnd=>tk (.link h1 h2 h3 I J) nd
 |ei h1 l h3 I J o r ih=>exactλnd=>{ih (AA.j nd).2,tk (.ei h1 l h3 I J o r) nd}
 |bo h1 l t I J o r U g=>
  intro nd;obtain⟨C,T,_⟩:=Aw.j (AA.j nd).2;exact{{U C,g T},tk (.bo h1 l t I J o r) nd}
 |@cu p q A B EA EB E w l t h3 I J o r h8 U g=>
  intro nd;obtain⟨C,T,_⟩:=Aw.j<|show(told A++told B).c from nd;exact{{U C,g T},tk (.cu l t h3 I J o r h8) nd}
def ae(ks:On)(m:Nat):List (GT):=ks.y some++List.replicate m none
def xg{x:Nat}{k:Kn}:(ae ks m)[x]?=some (some k)↔ks[x]?=some k:=by
 unfold ae;by_cases c:x<ks.l
 .rw[AG ([Ac]≈c),Al,Ah c];exact{λh=>by cases h;rfl,λh=>by cases h;rfl}
 .rw[AH (by rw[Ac];lia),BY,BC 's'];constructor
  .intro h;split at h<;>cases h
  .intro h;cases h
def MC(ks:On)(m:Nat):rV (ae ks m)=ks++List.replicate m (.lf false ""):=by unfold rV ae;rw[Ax,BI,List.map_replicate];exact A8 (· ++ _)<|List.map_id ks
def xm(ks:On)(m:Nat):(ae ks m).l=ks.l+m:=by unfold ae;rw[Ab,Ac,B7]
def YY(h:KnW wd)(ne:∀(p:Nat) (e:Bool) (i j:Nat),wd[p]?=some (some<|.nd e i j)->i≠j){x:Nat}{k:Kn}(ex:wd[x]?=some (some k)):uf (wd.y w4)=true:=by
 unfold uf;rw[AS];refine{BR.d λb g=>?_,List.any_eq_true.mpr {true,AM.d {_,AM.d {_,AD ex,rfl},by cases k<;>rfl},rfl}};obtain⟨p,I,rfl⟩:=AM.j g;have I:=Bg.j I;rw[Ac] at I;have J:=Ah I;generalize wd[p]=U at J;have e:(wd.y w4)[p]?.getD none=w4 U:=by rw[Al,J];rfl
 unfold nu;rw[e];cases U with
 |none=>rfl
 |some U=>
  cases U with
  |lf t n=>rfl
  |nd b i j=>
   obtain⟨h1,h2,⟨T,l⟩,⟨k2,r⟩⟩:=h p b i j J;have o:∀{m:Nat} {k:Kn},m<p->wd[m]?=some (some k)->f' (wd.y w4) p (m:Int)=true:=λ{m k} C em=>by show(decide (m<p)&&p_ ((wd.y w4)[m]?.getD none))=true;rw[AJ C,Al,em];cases k<;>rfl
   show(([(i:Int),(j:Int)].y<|f' (wd.y w4) p).all id&&decide [(i:Int),(j:Int)].c)=true;rw[AR,AR,o h1 l,o h2 r,AJ<|AA.mpr {λz=>ne p b i j J<|A6.mp<|Ak.mp z,'r'}];rfl
def oR{x:Nat}:(x:Int)∈tI wd↔∃k,wd[x]?=some (some k):=by
 constructor
 .intro h;obtain⟨n,k,e,I⟩:=jN h;cases A6.j e;exact{(k),I}
 .rintro⟨k,I⟩;exact AM.d {x,Mh I rfl<|zy I,rfl}
structure bD(ks:On)(R:Ru)(E:aah):Prop where
 T:nR ks R E
 tp:(told R).C (List.range ks.l)
section
variable {E:aah}
def bD.mem(W:bD ks R E){x:Nat}:x∈told R↔x<ks.l:=by rw[W.tp.mem_iff,Bg]
def bD.rs(W:bD ks R E):vA ks (told R)=ks.y some:=XE λp I=>W.mem.mpr I
def bD.knW(W:bD ks R E)(m:Nat):KnW (ae ks m):=λp e i j h=>by
 have S:=W.T.knS;rw[W.rs] at S;have I:(ks.y some)[p]?=some (some<|.nd e i j):=by rw[Al,xg.j h];rfl
 obtain⟨J,U,g⟩:=S.at_ I (m:=i)<|Ag ..;obtain⟨l,o,r⟩:=S.at_ I (m:=j)<|Ae _<|Ag ..;exact{J,l,{U,xg.d<|wx g},{o,xg.d<|wx r}}
theorem bD.pu(W:bD ks R E)(m:Nat):sG (ae ks m):=by
 have S:=W.T.knS.pu;rw[W.rs] at S;have up:∀{p:Nat} {k:Kn},(ae ks m)[p]?=some (some k)->(ks.y some)[p]?=some (some k):=λh=>by rw[Al,xg.j h];rfl
 exact{λp e i j h=>S.ne p e i j<|up h,λp q k l x h1 h2=>S.un p q k l x (up h1)<|up h2}
def bD.onc(W:bD ks R E)(m:Nat):q_ (ae ks m) (zo R):=by
 unfold q_;rw[wr];refine(AU (fJ W.T.nd)<|ym _).d λx=>{λh=>?_,λh=>?_}
 .obtain⟨n,I,rfl⟩:=AM.j h;exact oR.d {_,xg.d<|Ah<|W.mem.mp I}
 .obtain⟨n,k,rfl,J⟩:=jN h;exact AM.d {n,W.mem.d<|zy<|xg.mp J,rfl}
theorem Ha(m:Nat):∀{w:Wd} {p:Nat},f9 ks p w->KW (wm<|ae ks m) p w
 |.leaf t n,p,h=>by
  have h:KW (wm<|ks.map some) p (.leaf t n):=by rw[v9];exact h
  exact KW.lf<|xg.mpr<|wx h.SZ
 |.node e l r,p,h=>by
  have h:KW (wm<|ks.map some) p (.node e l r):=by rw[v9];exact h
  obtain⟨i,j,a,b,c⟩:=h.SC;rw[v9] at b c;exact KW.nd (xg.d<|wx a) (Ha m b)<|Ha m c
theorem bD.cut(W:bD ks R E)(m:Nat){x:Nat}(h:x∈KM (xd R)):x∉kq (ae ks m):=λz=>by obtain⟨p,k,e,I⟩:=iI z;refine W.T.cut h ?_;rw[W.rs];exact eU (p:=p) (k:=k) (by rw[Al,xg.j e];rfl) I
def bD.fit(W:bD ks R E)(m:Nat){B:Ru}(h:B∈ko R):oz (ae ks m) B:=by
 obtain⟨⟨I,s⟩,tB,_,_,g⟩:=W.T.sr.rls B h;cases s with
 |@link p q t n _ h1 h2 h3=>exact{h1,t,n,xg.d h2,xg.d h3}
 |@ei r i j A J _ h1=>exact{i,j,xg.d h1}
 |@bo r i j A B J I _ h1=>exact{i,j,xg.d h1}
 |@cu p q A B J I _ w C hB h3 h4 l o=>
  have U:=pN<|g (p,q)<|Ag ..;exact{{w,Ha m l,Ha m o},W.cut m U.1,W.cut m U.2}
def bD.pos(W:bD ks R E):0<ks.l:=by have h:=lF R;have:=W.tp.f;rw[Bm] at this;lia
def bD.sdt(W:bD ks R E)(m:Nat):gf ((ae ks m).y w4) (zo R):=by refine{YY (W.knW m) (W.pu m).ne<|xg.mpr<|Ah W.pos,by rw[oh];exact fJ (W.pu m).nodup,_,R,rfl,rfl,W.onc m,λB I=>W.fit m I,?_};rw[MC];exact YX (W.T.sr.more _) W.T.nd
def bD.norule(W:bD ks R E){X:Rz}(h:aF ks R X):¬gf ((ae ks 0).y w4) X:=λs=>by
 obtain⟨o,f,e⟩:=s.nat;refine h.no (o.t (W.onc 0).L) (λC I=>?_) λS J=>?_
 .have:=f C I;rwa[show ae ks 0=ks.y some from AE _] at this
 .have:=e S J;rwa[MC,show ks++List.replicate 0 _=ks from AE _] at this
end
def YZ{B:Ru}(h:yg wd<|zo B):oz wd B:=by
 cases B with
 |link p q=>obtain⟨⟨a,b⟩,e,h⟩:=h;cases hZ (p:=(p,q)) e;exact h
 |ei r A=>obtain⟨n,e,h⟩:=h;cases A6.j e;exact h
 |bo r A C=>obtain⟨n,e,h⟩:=h;cases A6.j e;exact h
 |cu p q A C=>obtain⟨⟨a,b⟩,e,h⟩:=h;cases hZ (p:=(p,q)) e;exact h
def gf.fit(h:gf (wd.y w4)<|zo R){B:Ru}(I:B∈ko R):oz wd B:=YZ (h.nat.2.1 (zo B) ([dW]≈AM.d {(B),I,rfl}))
def gf.tk(h:gf (wd.y w4)<|zo R){B:Ru}(I:B∈ko R):s_ (rV wd) B:=(h.nat.2.2 R rfl).rls B I
theorem eX:∀{R:Ru} {x:Nat},x∈told R->∃B∈ko R,x∈fw B
 |.link p q,x,h=>{_,Ag ..,h}
 |.ei r A,x,h=>by
  obtain rfl|h:=Ao.j h
  .exact{_,Ag ..,Ag ..}
  .obtain⟨B,I,J⟩:=eX h;exact{B,Ae _ I,J}
 |.bo r A C,x,h=>by
  obtain rfl|h:=Ao.j h
  .exact{_,Ag ..,Ag ..}
  .rcases Am.j h with h|h
   .obtain⟨B,I,J⟩:=eX h;exact{B,Ae _<|An _ I,J}
   .obtain⟨B,I,J⟩:=eX h;exact{B,Ae _<|Ai _ I,J}
 |.cu p q A C,x,h=>by
  obtain h|h:=Am.j h
  .obtain⟨B,I,J⟩:=eX h;exact{B,Ae _<|An _ I,J}
  .obtain⟨B,I,J⟩:=eX h;exact{B,Ae _<|Ai _ I,J}
section
variable {E:aah}
def bD.own(W:bD ks R E){x:Nat}(U:x<ks.l):∃B I,B∈ko R/\x∈fw B/\SR ks B I/\(told B).c:=by obtain⟨B,J,h⟩:=eX<|W.mem.mpr U;obtain⟨⟨I,s⟩,_,sub,_⟩:=W.T.sr.rls B J;exact{B,I,J,h,s,sub.nodup W.T.nd}
def bD.gone(W:bD ks R E){x:Nat}(I:x<ks.l):¬gf (((ae ks 0).O x none).y w4) (zo R):=λs=>by have o:=s.nat.1;unfold q_ at o;rw[wr] at o;obtain⟨k,e⟩:=oR.j<|o.mem_iff.mp<|AM.mpr {x,W.mem.d I,rfl};rw[Bj (by rw[xm];lia)] at e;cases e
def yb{x y:Nat}{k:GT}(h:x≠y){I:Kn}(e:ks[y]?=some I):((ae ks 0).O x k)[y]?=some (some I):=by rw[AX h];exact xg.d e
def lh{x:Nat}{k:GT}(h:x<ks.l):((ae ks 0).O x k)[x]?=some k:=Bj (by rw[xm];lia)
def bD.leaf(W:bD ks R E){x:Nat}{t':Bool}{n:Str}(U:ks[x]?=some (.lf t n))(ne:¬(t'=t/\n'=n)):¬gf (((ae ks 0).O x<|some<|.lf t' n').y w4) (zo R):=λs=>by
 have l:=zy U;obtain⟨B,EB,o,I,T,_⟩:=W.own l;have f:=s.fit o;cases T with
 |@link p q t0 n0 _ h1 h2 h3=>
  obtain⟨_,t1,n1,g,J⟩:=f;obtain rfl|I:=Ao.j I
  .rw[lh l] at g;cases g;rw[yb 's' h3] at J;rw[U] at h2;cases h2;injection J with J;injection J with J;injection J with a b
   exact ne {by (cases t<;>cases t'<;>first|rfl|(cases a)),b.L}
  .cases Ak.j I;rw[lh l] at J;cases J;rw[yb 's' h2] at g;cases g;rw[U] at h3;cases h3;exact ne {(rfl),rfl}
 |@ei r i j A EA _ h1=>rw[Ak.j I,h1] at U;cases U
 |@bo r i j A C EA EC _ h1=>rw[Ak.j I,h1] at U;cases U
 |cu=>cases I
def bD.node(W:bD ks R E){x:Nat}{e:Bool}(J:ks[x]?=some (.nd e i j)):∃B U,B∈ko R/\SR ks B U/\(told B).c/\((e=true/\∃A,B=.ei x A)\/(e=false/\∃A C,B=.bo x A C)):=by
 obtain⟨B,U,l,I,g,o⟩:=W.own<|zy J;refine{B,U,l,g,o,?_};cases g with
 |@link p q T n0 _ h1 h2 h3=>
  obtain rfl|I:=Ao.j I
  .rw[h2] at J;cases J
  .rw[Ak.j I,h3] at J;cases J
 |@ei r i j A t _ h1=>cases Ak.j I;rw[h1] at J;cases J;exact .inl {rfl,_,rfl}
 |@bo r i j A C t EC _ h1=>cases Ak.j I;rw[h1] at J;cases J;exact .inr {rfl,_,_,rfl}
 |cu=>cases I
def bD.kind(W:bD ks R E){x:Nat}{e:Bool}(I:ks[x]?=some (.nd e i j)):¬gf (((ae ks 0).O x<|some<|.nd (!e) i j).y w4) (zo R):=λs=>by have J:=zy I;obtain⟨B,g,U,l,_,h⟩:=W.node I;have f:=s.fit U;rcases h with⟨rfl,A,rfl⟩|⟨rfl,A,C,rfl⟩<;>(obtain⟨a,b,z⟩:=f;rw[lh J] at z;cases z)
def bD.swp(W:bD ks R E){x:Nat}(I:ks[x]?=some (.nd false i j)):¬gf (((ae ks 0).O x<|some<|.nd false j i).y w4) (zo R):=λs=>by
 have J:=zy I;obtain⟨B,r,U,g,l,h⟩:=W.node I;have t:=s.tk U;rcases h with⟨h,_⟩|⟨_,A,C,rfl⟩
 .cases h
 cases g with
 |@bo _ T j' _ _ EA EC _ h1 hA o h4 p=>
  rw[I] at h1;cases h1;have z:(A,[j])∈(jd<|.bo x A C).zip (ag (rV<|(ae ks 0).O x<|some<|.nd false j i)<|.bo x A C):=by show(A,[j])∈[A,C].zip ((jq (rV _)[x]?).y λx=>[x]);rw[ue<|lh J];exact Ag ..
  exact(Aw.j (AA.j l).2).2.2 j (cr _ A j<|t _ z j<|Ag ..) j (o.sub j p) rfl
def Y0{x:Nat}{e:Bool}{i j o:Int}(I:x<zs.l)(J:o<0\/(x:Int)<=o)(h:o=i\/o=j){A:Rz}:¬gf (zs.O x<|some<|.nd e i j) A:=λs=>by have f:=(pG s.1 (p:=x) (k:=some<|.nd e i j)<|Bj I).1 o (by obtain rfl|rfl:=h;exact Ag ..;exact Ae _<|Ag ..);obtain⟨m,rfl,h1,_⟩:=iB f;lia
def asg{x:Nat}{e:Bool}{i:Int}(I:x<zs.l){A:Rz}:¬gf (zs.O x<|some<|.nd e i i) A:=λs=>by have f:=(pG s.1 (p:=x) (k:=some<|.nd e i i)<|Bj I).2;exact(AA.j f).1 (Ag ..)
def bD.more(W:bD ks R E)(k:Kn):¬gf ((ae ks 0++[some k]).y w4) (zo R):=λs=>by have o:=s.nat.1;unfold q_ at o;rw[wr] at o;have h:ks.l⁻¹∈tI (ae ks 0++[some k]):=oR.d {k,by rw[AH ([xm]≈Ap _),xm,ED,C3];rfl};obtain⟨n,I,e⟩:=AM.j<|o.mem_iff.mpr h;cases A6.j e;exact absurd (W.mem.j I)<|Cs _
def Y1{A:Rz}:¬gf [] A:=λs=>by have:=s.1;cases this
def Y2{A:Rz}:¬gf (List.replicate n none) A:=λs=>by have h:=s.1;unfold uf at h;rw[AS] at h;obtain⟨b,I,h⟩:=List.any_eq_true.mp h.2;rw[List.map_replicate] at I;rw[List.eq_of_mem_replicate I] at h;cases h
end
def db:RD "_law_other_leaf" dS 0 ["_law_knot","_law_far","_law_sign"] (λ_=>True):={_,λV B c _ _ _ _ _ _ _ J hN I=>(qb (zc (E_ I (qj zn (qv 1) qc) qc) (qd<|qt<|qw<|vo (yK [ ("plain" ,"turned") ,("turned" ,"plain") ] (bV aC aC<|bV aC aC u3) rfl rfl (A9 _ _) (Ar rfl) (J_ 0) (H_ (uU _)<|GL _) λ_ _=>rfl)<|J_ 0) qy)<|qb (S_ 2 hN<|cq (E_ I (I_ (J_ 0) qc) qz) qz qz)<|qd<|qt<|qw<|vo (J_ 0)<|qj ju (qv 2)<|xu (tJ _ _ _) (J_ 0) (vk qc) wg)}
def dD:RD "_law_other_parts" dJ 0 ["_law_knot","_law_p","_law_far","_law_odd"] (λ_=>True):={_,λV B c _ _ _ _ _ _ _ J hN I=>(qb (zc (bC<|bA (E_ I (J_ 0) qz)<|wv<|E_ I (qj zn (qv 2) qc) qc) (qd<|qt<|qw<|aI qz (J_ 0)<|J_ 0) qy)<|qb (zc (E_ I (qj zn (qv 2) qc) qc) (qd<|qt<|qw<|aI (J_ 0) (J_ 0)<|J_ 0) qy)<|qb (S_ 3 hN<|qj aG (nU nF qc)<|kj G' rfl B.bj u5<|jz<|qv 2)<|vm (zc (E_ I (qj zn (qv 2) qc) qc) (qd<|S_ 3 hN<|qj ju (qv 1)<|kj G' rfl B.bj u5<|jz<|qv 2) qy)<|qb (zc (E_ I (qj zn (qj xa (qv 2) qc) qc) qc) (qd<|qt<|qw<|aI (J_ 0) (qv 3)<|J_ 0) qy)<|qd<|qt<|qw<|aI (J_ 0) (J_ 0)<|qv 3)}
def Y3:aa:=(zj (xr (bU (zx wf (qf 2)<|ja 4)<|ja 1) (bN<|vi<|qi (a6 0 0)<|cg (a6 0 1)<|a6 0 1) w5)
 (zj (jx (zx gL (Fo Fp<|ja 1)<|sJ Gn<|aV<|qf 2)<|ql 3)
 (i3 (xr (bU (zx wf (qf 2)<|ja 4)<|ja 2) (jx (zx kU (qf 1)<|sJ Gn<|aV<|qf 2)<|ql 3) w5)
 (zj (xr (bU (zx wf (zx bz (qf 2)<|ja 4)<|ja 2)<|ja 0) (bN<|vi<|qi (a6 0 0)<|cg (qf 3)<|a6 0 2) w5)
 (bN<|vi<|qi (a6 0 0)<|cg (a6 0 1)<|qf 3)))))
def Y4:aa:=(zj (xr (bU (zx wf (zx bz (qf 2)<|ja 4)<|ja 2)<|ja 0) (bN<|vi<|qi (a6 0 0)<|cg (qf 3)<|a6 0 2) w5)
 (bN<|vi<|qi (a6 0 0)<|cg (a6 0 1)<|qf 3))
inductive oI(ys:_T)(L:qm)(Q:YK):Prop
 |mk:∀(t:Bool) (n:Str) (far:Int),(ys=[aA<|.lf t n,.int far])->(fK n)->(∀t' n',¬(t'=t/\n'=n)->Q (yn<|some<|.lf t' n') L)->oI ys L Q
def slice_le(x:Str)(l u:aan):(Txt.slice x l u).l<=x.l:=by
 have e:∀z:Str,z.l=z.cps.toList.l:=λz=>by rw[Ba];rfl
 rw[e,l8,A2,BQ,e x];lia
def Y5:_f oI db.1 3:=by
 rintro ys L Q ⟨t,n,J,rfl,⟨U,p,_⟩,q⟩;refine{(∅:(0:Int)<2),qr (λc=>?_) λc=>?_}
 .have h:=q (!t) n λz=>by cases t<;>cases z.1
  cases t<;>exact jj h
 .have g:n.cps.z≠[]:=λe=>by have:n.cps.toList.l=n.l:=len_list _;rw[e] at this;exact absurd U (by rw[<-this];decide)
  obtain⟨a,r,I⟩:=C0 g;have key:∀(b:Nat) (z:Str),b≠a->aR Q (.tup [.str<|kL t,.str<|({#[b]}:Str)++z]) L:=λb z l=>jj (q t _ λw=>by have:=A8 (λs:Str=>s.cps.toList) w.2;have this:=this;rw[LH,I] at this;exact l (CG this).1)
  have o:bw n.cps.z 0=some a:=by rw[I];exact jh (j:=0) rfl
  refine{small 's',qg o ?_};have C:=slice_le n (some 1) none;refine qr (λc=>?_) λc=>?_
  .have ea:a=97:=by have:=A8 (λs:Str=>s.cps.toList) c;exact(CG this).1
   exact{small 's',AQ (show 1+(Txt.slice n (some 1) none).l<=1000 by lia) ∅,key 98 _ 's'}
  .have ea:97≠a:=λe=>c (by rw[<-e];rfl);exact{small 's',AQ (show 1+(Txt.slice n (some 1) none).l<=1000 by lia) ∅,key 97 _ ea}
def Y6(e:Bool)(i j:Nat)(p:Nat)(k:Kz):Prop:=(e=false/\k=.nd e j i)\/k=.nd e i i\/∃(o x y:Int),(o<0\/(p:Int)<=o)/\(o=x\/o=y)/\k=.nd e x y
inductive lD(ys:_T)(L:qm)(Q:YK):Prop
 |mk:∀(e:Bool) (i j p:Nat) (far:Int),(ys=[aA<|.nd e i j,.int (p:Int),.int far])->(∀k,Y6 e i j p k->Q (yn<|some k) L)->lD ys L Q
def Y7:_f lD dD.1 4:=by
 rintro ys L Q ⟨e,i,j,p,I,rfl,q⟩;have odd:∀o:Int,(o<0\/(p:Int)<=o)->x6 Y4 4 [aA<|.nd e i j,.int (p:Int),.int I,.int o] L Q:=λo J=>
  ⟨⟨∅,∅⟩,(∅:(0:Int)<2),qr (λ_=>jj<|q _<|.inr<|.inr {o,o,_,J,.inl rfl,rfl}) λ_=>jj<|q _<|.inr<|.inr {o,_,o,J,.inr rfl,rfl}⟩
 have rest:x6 Y3 4 [aA<|.nd e i j,.int (p:Int),.int I] L Q:=by
  refine{(∅:(0:Int)<4),qr (λ_=>jj<|q _<|.inr<|.inl rfl) λ_=>?_};refine{λU g=>∃o:Int,(o<0\/(p:Int)<=o)/\U=[some<|aA<|.nd e i j,some<|.int (p:Int),some<|.int I,some<|.int o]/\g=L,{(∅:(0:Int)<4),qr (λ_=>{_,.inr ?_,rfl,rfl}) λ_=>{_,.inl ?_,rfl,rfl}},?_}
  .split<;>lia
  .split<;>lia
  .rintro U g ⟨o,J,rfl,rfl⟩;exact odd o J
 cases e with|false=>exact{(∅:(0:Int)<4),qr (λ_=>jj<|q _<|.inl {(rfl),rfl}) λ_=>rest}|true=>exact rest
section
open PySem.W
section
variable {w:aat}
end
end
section
open PySem.W
section
variable {a:Addr}{kvs:List<|jk×V}
def Y8{P:aas}{w:aat}{u:HO}(k:gB P w H h)(e:Rd H a<|.dK kvs)(ok:vd P w (upd H a u) h a u):gB P w (upd H a u) h:=λb o z=>by
 by_cases c:b=a
 .subst c;rw[zg] at z;cases z;exact ok
 .rw[qp c] at z;refine(k b o z)._e (λ_ _ _ q=>q) (λd q=>?_) λd I q=>?_ <;>
  .rw[qp λz=>?_];exact q;subst z;obtain e|⟨_,e⟩:=e<;>exact nomatch q.symm.t e
def MD{u:HO}(I:'v')(e:Rd H a<|.dK kvs)(q:vd X.i X.w (upd H a u) s.v a u)(U:∀o x,X.H₀ a=some (._b o x)->u=._b o x):za X pins σ (upd H a u) s:=by
 have ne:∀{b},H b=none->b≠a:=λn z=>by rw[z] at n;obtain e|⟨_,e⟩:=e<;>rw[n] at e<;>cases e
 have J:∀{b o},H b=some o->(∀g x,o≠._b g x)->o≠.dK kvs->b≠a:=λn j l z=>by
  rw[z] at n;obtain e|⟨_,e⟩:=e<;>rw[n] at e
  .exact l<|AV e
  .exact j _ _<|AV e
 refine{I.ok,I.os,I.bare,{I.base.keep,I.base.slot,λb o z n r=>?_,I.base.there,λb t z=>?_,λb o x z=>?_,λb C z=>?_},I.loc,I.cell,?_,λx c z=>?_,λp T=>?_,Y8 I.KB e q,I.len,I.tk}
 .have:=I.base.U b o z n r;rw[qp<|ne this];exact this
 .have:=I.base._h b t z;rw[qp (J this (λ_ _ z=>by cases z) λz=>by cases z)];exact this
 .by_cases c:b=a
  .subst c;rw[zg,U o x z]
  .rw[qp c];exact I.base._i b o x z
 .obtain⟨m,this⟩:=I.base._t b C z;exact{m,by rw[qp (J this (λ_ _ z=>by cases z) λz=>by cases z)];exact this}
 .rw[qp<|ne I.U];exact I.U
 .rw[qp<|ne<|I.Pi x c z];exact I.Pi x c z
 .obtain⟨h1,h2,h3⟩:=I.pin p T;exact{h1,by rw[qp<|ne h2];exact h2,h3}
def IE(a:Addr)(o:Obj)(kvs:List<|jk×V):It:=
 ⟨λi H=>H a=some (._b o<|.dK kvs)/\i<kvs.l,λi H x H'=>H'=H/\∃k v,kvs[i]?=some (k,v)/\x=kV k,λi H=>H a=some (._b o<|.dK kvs)/\kvs.l<=i⟩
def Y9(P:aas)(w:aat)(o:Obj)(vs:List<|jk×aaq)(ep:Nat):Prop:=∃es,o.ExactDict/\o.data=.dict es ep/\KeysOf (w9 P w) es/\Pairs (w9 P w) es.z vs/\(vs.y (·.1)).c
def Y_{P:aas}{w:aat}{k:jk}(h:(w9 P w).is k u=true):j9 (kV k) u:=by cases k with|inl i=>exact PySem.Value.isInt_shape h|inr x=>exact PySem.Value.isStrOf_shape h
theorem Za{P:aas}{w:aat}{K:Aj}{o:Obj}{vs:List<|jk×aaq}(D:Y9 P w o vs ep)(r:KV kvs vs):y0 P w K tg (IE a o kvs) [it] it (λi h=>h.IsKeyIter it a i vs.l ep) where
 mem:='r'
 obj:=λi h st b J=>by
  have e:b=it:=by simpa using J
  subst e;obtain⟨o,e,c,d⟩:=st;exact{o,e,λv z=>by rw[d] at z;cases z}
 keep:=λi h l st k=>st.at λo e=>k it 'r' o e
 item:=by intro X t hw C hc i U s σ H E I j st T;subst t hw C;obtain⟨hz,hi⟩:=T;obtain⟨ho,_⟩:s.heap.x a=some o/\vd X.i X.w H s.v a (.dK kvs):=I.KB a _ hz;obtain⟨es,q⟩:=D;have hm:s.heap.DictAt (w9 X.i X.w) a vs ep:={(o),es,ho,q};obtain⟨⟨k,v⟩,ek⟩:∃p,kvs[i]?=some p:={_,Ah hi};obtain⟨⟨k',u⟩,eu,e1,_⟩:=Paired.getP r ek;cases (show k=k' from e1);obtain⟨f0,f1,f2,f3,f4,f5⟩:=j it 'r';refine wpAny_pyNext_dict_item st hm eu λkey l hk g sb=>?_;have I1:=I.turned (t':=s.D) (λb o J e=>(sb.2 b J).t e) f0 f1 f3 f4 f5;exact{key,rfl,letGo_keyiter (s':={s with heap:=l}) g {kV k,H,I1,Y_ hk,{(rfl),k,v,ek,rfl},g,λb J=>(j b J).1}}
 done:=by intro X t hw C hc i U s σ H E I j st T;subst t hw C;obtain⟨hz,hi⟩:=T;obtain⟨ho,_⟩:s.heap.x a=some o/\vd X.i X.w H s.v a (.dK kvs):=I.KB a _ hz;obtain⟨es,q⟩:=D;obtain⟨f0,f1,f2,f3,f4,f5⟩:=j it 'r';have hl:=r.l;exact wpAny_pyNext_dict_end (I.ok.hd hc) st {(o),es,ho,q} (BC 's') λl eb=>{rfl,I.turned (t':=s.D) (λb o J e=>eb b o J e) f0 f1 f3 f4 f5}
 self:=λ_ _ _ _ _ st h=>wpAny_pyIter_keyiter st h
end
end
def Zb{xs:List<|jk×V}(p:Paired (λ(p:jk×Y) (q:jk×V)=>p.1=q.1/\RV G H p.2 q.2) kvs xs):xs.y (·.1)=kvs.y (·.1):=by induction p with|nil=>rfl|cons h t I=>rw[AR,AR,I,h.1]
section
variable {d y:Str}{id il:Nat}{c:Int}{p6 p7 p8 p9 pos:Pos}
end
section
variable {T:aai}{iter:Expr}{g:TG}{te:TE}
def Zc(n:Nat)(td:TE)(g:TG)(tc:TT)(te:TE):TE:=λσ H Q=>td σ H λx H1=>∃a kvs,x=.ref a/\H1 a=some (.dK kvs)/\∀o,GB n (λ_ H R=>R (IE a o kvs) H) g tc te σ (upd H1 a<|._b o<|.dK kvs) λy H'=>H' a=some (._b o<|.dK kvs)/\Q y (upd H' a<|.dK kvs)
def Zd(T:aai){pos:Pos}(S:ji X scope)(hc:X.calm=true)(hd:PE X iter td)(hg:∀C fp s₀ H₀,PG 'x' target g)(r:qA g X.N.l T.l)
 (hf:∀C fp s₀ H₀,PF 'x' ml tc) (he:∀C fp s₀ H₀,PE 'x' pj te)
 (hs:∀x,foldedSetIterable iter X.o x=pure x:=by intro _;rfl):PE X (.ListComp pj [{target,iter,ml,0}] scope pos) (Zc T.l td g tc te):=by
 intro J s t H Q I h;rw[eval_ListComp];refine wpAny_comprehension_free (use:=none) rfl hs (S.clo I) S.kind S.names<|bS (hd J s t H _ I h) λv j y H1 p r1 q1=>?_;obtain⟨a,U,rfl,e,q⟩:=q1;cases r1;obtain⟨zl,a1,vs,rel,dd⟩:=Hx p.KB e;obtain⟨ep,o,es,ho,hD⟩:=dd.dictAt;have nf:∀o x,X.H₀ a≠some (._b o x):=λo x z=>by have:=p.base._i a o x z;rw[e] at this;cases this
 have IF:za X J t (upd H1 a<|._b o<|.dK U) j:=MD p (.inl e) {ho,(p.KB a _ e)._e (λ_ _ _ q=>q) (λd q=>by rw[qp (Gr q e λz=>by cases z)];exact q) λd xs q=>by rw[qp (Gr q e λz=>by cases z)];exact q} λo x z=>absurd z<|nf o x;refine wpAny_pyIter_dict a1 {(o),es,ho,hD} ?_;have IG:=IF.kept (h':=j.heap.I {cls:=.type "dict_keyiterator",data:=.fields #[.ref a,.int 0 0,.int vs.l 0,.int ep 0]}) (t':=j.D) λb o e=>wh _ e;obtain⟨W,w0,turn⟩:=q o;refine ip (T:=T) (RR:=λa2 C=>compPost 'a' X.A X.xe none (EP X J t Q) a2 C) (g:=g) (tc:=tc) (te:=te) (Q:=λy H'=>H' a=some (._b o<|.dK U)/\Q y (upd H' a<|.dK U)) S hc hg r hf he
  ⟨↥j,[↥j],_,_,_,rfl,IG,Za (it:=↥j) ⟨es,hD⟩ rel,⟨_,ya _ rfl,rfl,rfl⟩,λb hb=>?_,W,w0,turn⟩ ?_
 .have e:b=↥j:=by simpa using hb
  subst e;exact IF.fpOk (Ap _)<|IF.KB.fresh<|Ap _
 .rintro D C s' H' m' I' l hn ⟨ea,q'⟩;refine{m',hn,λh' a3=>{.ref D,_,?_,rfl,q'}};have I2:=I'.turned (t':=s'.D) (it:=C) (λb o hb e=>(a3.2 b hb).t e) l.1 (AN<|AN l.2.1) l.2.2.2.1 l.2.2.2.2.1 l.2.2.2.2.2;exact MD (u:=.dK U) I2 (.inr {(o),ea}) ((I2.KB a _ ea).2._e (λ_ _ _ q=>q) (λd q=>by rw[qp (Gr q ea λz=>by cases z)];exact q) λd xs q=>by rw[qp (Gr q ea λz=>by cases z)];exact q) λo x z=>absurd z<|nf o x
end
structure Unf(a:Addr)(H H':Hp):Prop where
 at_:∃o kvs,H a=some (._b o<|.dK kvs)\/H a=some (.dK kvs)
 ne:∀b u,b≠a->H b=some u->H' b=some u
def Unf.st{a:Addr}(f:Unf a H H'){b:Addr}{u:HO}(h:H b=some u)(n:∀kvs,u≠.dK kvs)(m:∀o kvs,u≠._b o (.dK kvs)):H' b=some u:=by
 refine f.ne b u (λz=>?_) h;obtain⟨o,kvs,e|e⟩:=f.at_
 .rw[z,e] at h;exact m o kvs (AV h).L
 .rw[z,e] at h;exact n kvs (AV h).L
def dR.un{K:Aj}{a:Addr}(f:Unf a H H'){b:Addr}(s:dR K H b xs):dR K H' b xs:=by
 rcases s with(h|⟨o,h⟩)|h
 .exact .inl<|.inl (f.st h (λ_ z=>by cases z) λ_ _ z=>by cases z)
 .exact .inl<|.inr {o,f.st h (λ_ z=>by cases z) λ_ _ z=>by cases z}
 .exact .inr h
def SqF.un{K:Aj}{a:Addr}(f:Unf a H H'){b:Addr}(s:SqF K H b xs):SqF K H' b xs:=by
 rcases s with⟨o,h⟩|h
 .exact .inl {o,f.st h (λ_ z=>by cases z) λ_ _ z=>by cases z}
 .exact .inr h
mutual
theorem RV.un{G:G3}{a:Addr}{H H':Hp}(f:Unf a H H'):∀{y:Y} {v:V},RV G H y v->RV G H' y v
 |.GM,_,h=>h
 |.bl _,_,h=>h
 |.int _,_,h=>h
 |.str _,_,h=>h
 |.ref _,_,h=>h
 |.ty _,_,h=>h
 |.cd _,_,h=>h
 |.tup _,_,⟨b,I,e,s,r⟩=>{b,I,e,dR.un f s,xw.un f r}
 |.sq _,_,⟨b,I,e,s,r⟩=>{b,I,e,SqF.un f s,xw.un f r}
theorem xw.un{G:G3}{a:Addr}{H H':Hp}(f:Unf a H H'):∀{ys:_T} {xs:HT},xw G H ys xs->xw G H' ys xs
 |[],_,h=>h
 |_::_,_,⟨x,I,e,r,s⟩=>{x,I,e,RV.un f r,xw.un f s}
end
theorem RO.un{a:Addr}(f:Unf a H H'){b:Addr}(I:b≠a):∀{o:LO},RO G H b o->RO G H' b o
 |.lst _,⟨J,h,r⟩=>{J,f.ne b _ I h,r.un f}
 |._c _,⟨J,h,r⟩=>{J,f.ne b _ I h,EX r λ_ _ ⟨a,b⟩=>{a,b.un f}}
 |.ins _ _,⟨U,J,h,r⟩=>{U,J,f.ne b _ I h,EX r λ_ _ ⟨a,b⟩=>{a,b.un f}}
 |.exc _,⟨o,h,c⟩=>{o,f.ne b _ I h,c}
 |.tb _,⟨g,h1,h2,h3⟩=>{g,f.ne b _ I h1,h2,λpos j z=>by obtain⟨l,p,t,C,T,e2,e3⟩:=h3 pos j z;exact{l,p,t,C,T,f.st e2 (λ_ z=>by cases z) (λ_ _ z=>by cases z),e3}}
def uL(L:qm)(a:Addr):qm:=λb=>if b=a then none else L b
def IH(n id:Nat)(g:mZ)(tc:jB)(te:xq)(τ:jm)(L:qm)(Q:YK):Prop:=match yc τ id with
 |↑a=>nw L a λkvs=>∃ks:aal,kvs.y (·.1)=ks.y Sum.inl/\n_ (ks.y Y.int) (λ_=>True) n g tc te τ (uL L a) λy L'=>L' a=none->Q y (qk L' a<|._c kvs)
 |_=>False
section
variable {T:aai}{d:Str}{id:Nat}
theorem Ze(T:aai){pos:Pos}(S:ji X scope)(hc:X.calm=true)(hg:Fq X scope T target g)
 (hf:∀C fp s₀ H₀,QF 'x' ml tA) (he:∀C fp s₀ H₀,QE 'x' pj te) (pd:PE X (.Name d p1)<|Gu id)
 (hs:∀x,foldedSetIterable (.Name d p1) X.o x=pure x:=by intro _;rfl):QE X (.ListComp pj [{target,.Name d p1,ml,0}] scope pos) (IH T.l id g tA te):=by
 obtain⟨g2,h1,h2,h3⟩:=hg.ex;intro a1 s σ H Q I ⟨τ,L,Q3,rs,rl,z,k⟩;refine Zd (tc:=m_ X.g3 tA) (te:=tV X.g3 te) T S hc pd h1 h2 hf he hs a1 s σ H Q I ?_;unfold IH at z;split at z
 .rename_i a ea;obtain⟨a2,e,ks,ek,z⟩:=dM z;obtain⟨J,e2,pr⟩:=rl a _ e;obtain⟨v,ev,rv⟩:=rs.get id _<|oM _ _ ea;cases (show v=V.ref a from rv);refine{_,ev,a,J,rfl,e2,λo=>?_};have j:=(Zb pr).t ek;have U1:Unf a H (upd H a<|._b o<|.dK J):={{o,J,.inr e2},λb u hb h=>by rw[qp hb];exact h};have a3:j8 X.g3 (upd H a<|._b o<|.dK J) (uL L a):=λb u h=>by
   unfold uL at h;by_cases c:b=a
   .rw[AF c] at h;cases h
   .rw[Az c] at h;exact(rl b u h).un U1 c
  have a4:vf X.g3 (upd H a<|._b o<|.dK J) σ τ:={rs.len,λi y h=>by obtain⟨v,h1,h2⟩:=rs.get i y h;exact{v,h1,h2.un U1}};have jj:tj X.g3 (upd H a<|._b o<|.dK J) (λy L'=>L' a=none->Q3 y (qk L' a<|._c a2)) (λy U=>U a=some (._b o<|.dK J)/\Q y (upd U a<|.dK J)):=λv U y L' t r rv q=>by
   have l:=t a _ rfl zg;have q:=q (by
    cases c:L' a with
    |none=>rfl
    |some o=>
     have:=r a o c;cases o with
     |lst ys=>obtain⟨_,h,_⟩:=this;rw[l] at h;cases h
     |_c ys=>obtain⟨_,h,_⟩:=this;rw[l] at h;cases h
     |ins C fs=>obtain⟨_,_,h,_⟩:=this;rw[l] at h;cases h
     |exc C=>obtain⟨_,h,_⟩:=this;rw[l] at h;cases h
     |tb q=>obtain⟨_,h,_⟩:=this;rw[l] at h;cases h)
   have U2:Unf a U (upd U a<|.dK J):={{o,J,.inl l},λb u hb h=>by rw[qp hb];exact h};refine{l,k v _ y (qk L' a<|._c a2) (λc u i h=>?_) (λb u h=>?_) (rv.un U2) q}
   .have hc:c≠a:=λz=>by rw[z,e2] at h;cases h;cases i
    rw[qp hc];exact t c u i ([qp hc]≈h)
   .by_cases c:b=a
    .subst c;rw[q9] at h;cases h;exact{J,zg,EX pr λ_ _ ⟨p,q⟩=>{p,((q.un U1).ts t).un U2}}
    .rw[qe c] at h;exact(r b u h).un U2 c
  obtain⟨ac,L1,R3,al,a5,wz,kk⟩:=HW (wi:=λ_ L R=>R (ks.y Y.int) (λ_=>True) L) (tA:=tA) (te:=te) (n:=T.l) h3 σ (upd H a<|._b o<|.dK J) (λy U=>U a=some (._b o<|.dK J)/\Q y (upd U a<|.dK J)) {τ,uL L a,_,a4,a3,z,jj};refine kk (IE a o J) _ _ _ L1 (EU _) a5 {λi H L t _ _ hi=>{t a _ rfl zg,?_},λi H L x U y t r _ ey hy=>?_,λH L t _ _=>{t a _ rfl zg,?_}} wz
  .have:=A8 List.length j;rw[Ac,Ac] at this;rw[Ac] at hi;lia
  .obtain⟨rfl,kx,vx,e3,rfl⟩:=hy;rw[Al] at ey;obtain⟨m,em,rfl⟩:=Au.j ey;have e4:=A8 (·[i]?) j;simp only[Al,e3,em,DL] at e4;cases AV e4;exact{EU _,r,rfl}
  .have:=A8 List.length j;rw[Ac,Ac] at this;rw[Ac];lia
 .exact z.r
end
def rT:aa:=(zj (jx xP<|ql 3)
 (zj (gA (ah<|qf 0) (ql 4) (xr (bU (gC 4)<|ja 3) (zj (gm (qf 3) (a6 4 1)<|yC<|.bl true)
 (gm (qf 3) (a6 4 2)<|yC<|.bl true)) w5))
 (zj (gA (ah<|qf 1) (dY 2<|jy (ql 5)<|jy (ql 6) cK) (zj (gm (qf 3) (qf 5)<|yC<|.bl true)
 (gm (qf 3) (qf 6)<|yC<|.bl true)))
 (zj (jx (aZ zk)<|ql 7)
 (zj (gA (bx<|aV<|gC 0) (ql 5)<|xr (bU (sJ sD<|qi (zx aO (qf 0)<|qf 5) zk)<|ja 3) (sN 8<|jo<|fg iF (qf 7)<|qi (IH 1 3 (ql 9) (iY (yB<|zx H0 (qf 9)<|qf 5)<|yB<|zx (ut true) (qf 9)<|Ge G4 (zx aO (qf 0)<|qf 5) (yO<|ja 1) kI)<|FO (qf 5)<|qf 9) zk) w5)
 (zj (xr (bU (qf 7)<|aZ zk) (zj (jo<|fg xp (qf 0)<|aV<|a6 0 0)
 HN) w5)
 (zj (jx (zx aO (qf 7)<|zx wf (qf 2)<|gC 7)<|dY 2<|jy (ql 5)<|jy (ql 8) cK)
 (zj (jx (zx aO (qf 0)<|qf 5)<|ql 4)
 (xr (bU (zx wf (zx bz (qf 2)<|ja 7)<|ja 2)<|ja 0) (dX (qf 0) (qf 5)<|vi<|qi (a6 4 0)<|cg (qf 8)<|a6 4 2)<|dX (qf 0) (qf 5)<|vi<|qi (a6 4 0)<|cg (a6 4 1)<|qf 8)))))))))
def qS{f:α->List β}{l:List α}{a b:α}{x:β}(h:(l.h f).c)(ea:l[p]?=some a)(eb:l[q]?=some b)(I:x∈f a)(J:x∈f b):p=q:=by
 have key:∀{p q:Nat} {a b:α},l[p]?=some a->l[q]?=some b->x∈f a->x∈f b->¬p<q:=λ{p q a b} ea eb I J c=>by have e:=(A1 q l).L;have h:=h;rw[e,AC] at h;have U:=Bf.d {a,AD (i:=p) ([De c]≈ea),I};have g:=Bf.d {b,AD (i:=0) ([Ee]≈eb),J};exact(Aw.j h).2.2 x U x g rfl
 have:=key ea eb I J;have:=key eb ea J I;lia
theorem bZ:∀{R:Ru} {d:aap},d∈xd R->∃A C,Ru.cu d.1 d.2 A C∈ko R
 |.link p q,d,h=>by cases h
 |.ei r A,d,h=>by obtain⟨B,C,I⟩:=bZ (R:=A) h;exact{B,C,Ae _ I}
 |.bo r A D,d,h=>by
  obtain h|h:=Am.j h
  .obtain⟨B,C,I⟩:=bZ h;exact{B,C,Ae _<|An _ I}
  .obtain⟨B,C,I⟩:=bZ h;exact{B,C,Ae _<|Ai _ I}
 |.cu p q A D,d,h=>by
  obtain rfl|h:=Ao.j h
  .exact{A,D,Ag ..}
  .rcases Am.j h with h|h
   .obtain⟨B,C,I⟩:=bZ h;exact{B,C,Ae _<|An _ I}
   .obtain⟨B,C,I⟩:=bZ h;exact{B,C,Ae _<|Ai _ I}
def tU(ks:On)(ct:aad)(x:Nat):Prop:=x∈kq (ae ks 0)\/x∈KM ct
def bD.shr{E:aah}(W:bD ks R E)(pc:ct.C<|xd R){x l o:Nat}{e:Bool}(r:ks[p]?=some (.nd e i j))(U:tU ks ct x)(n1:x≠i)(n2:x≠j)(h:x=l\/x=o):¬gf (((ae ks 0).O p<|some<|.nd e l o).y w4) (zo R):=λs=>by
 have t:=zy r;have g:x∈jq (some<|Kn.nd e l o):=by obtain rfl|rfl:=h;exact Ag ..;exact Ae _<|Ag ..
 obtain U|U:=U
 .obtain⟨q,k,eq,I⟩:=iI U;have T:p≠q:=λz=>by
   rw[<-z,xg.d r] at eq;cases eq;have I:=I;obtain I|I:=Ao.j I
   .exact n1 I
   .exact n2<|Ak.mp I
  have nd:=s.2.1;rw[oh] at nd;have nd:(kq<|(ae ks 0).O p<|some<|.nd e l o).c:=by exact(Dx.j nd).imp λh z=>h<|A8 _ z
  exact T<|qS nd (lh t) (yb T<|xg.mp eq) g I
 .obtain⟨d,hd,J⟩:=Bf.j U;obtain⟨A,C,hB⟩:=bZ<|pc.mem_iff.mp hd;obtain⟨_,f1,f2⟩:=s.fit hB;have m:=eU (lh t) g;obtain rfl|J:=Ao.j J
  .exact f1 m
  .rw[Ak.j J] at m;exact f2 m
structure UsK(P:Nat->Prop)(m:Nat)(kvs:List<|jk×Y):Prop where
 keys:∃us:aah,kvs.y (·.1)=us.y (λx:Nat=>(Sum.inl (x:Int):jk))/\∀x∈us,P x
 len:kvs.l<=m
def UsK.put{P:Nat->Prop}(h:UsK P m kvs){x:Nat}(j:P x)(y:Y):UsK P (m+1) (iS kvs (.inl (x:Int)) y):=by
 obtain⟨U,e,g⟩:=h.keys;have l:=pO kvs (.inl (x:Int)) y;refine{?_,by have:=h.len;lia};unfold iS;split
 .refine{U,?_,g};rw[BI,<-e];refine Dd λJ _=>?_;show(if J.1=_ then _ else J).1=J.1;split<;>rfl
 .refine{U++[x],by rw[Ax,Ax,e];rfl,λz I=>?_};obtain I|I:=Am.j I
  .exact g z I
  .rw[Ak.j I];exact j
def UsK.ints{P:Nat->Prop}(h:UsK P m kvs):∃us:aah,kvs.y (·.1)=(us.y λx:Nat=>(x:Int)).y Sum.inl/\(∀x∈us,P x)/\us.l<=m:=by obtain⟨us,e,I⟩:=h.keys;refine{us,by rw[e,BI];rfl,I,?_};have:=A8 List.length e;rw[Ac,Ac] at this;have:=h.len;lia
def UsK.more{P:Nat->Prop}(h:UsK P m kvs)(I:m<=n):UsK P n kvs:={h.keys,AQ h.len I}
def kY(ks:On):wm (ae ks 0)=x8 ks:=by rw[show ae ks 0=ks.y some from AE _,v9]
def oH(ks:On)(p:Nat)(k:GT):dO (((ae ks 0).O p k).y w4)=(x8 ks).O p (qG k):=by rw[<-y_,<-kY];exact DB ..
def jP(ks:On)(k:Kn):dO ((ae ks 0++[some k]).y w4)=x8 ks++[aA k]:=by rw[<-y_,<-lH,kY];rfl
def Hb(ks:On):dO ((ae ks 0).y w4)=x8 ks:=by rw[<-y_,kY]
def ME(ks:On)(ct:aad)(z:aap):Prop:=∃e i j,ks[z.1]?=some (.nd e i j)/\tU ks ct z.2/\z.2≠i/\z.2≠j
inductive bF(ys:_T)(L:qm)(Q:YK):Prop
 |mk:∀a c,∀far:Int,∀ks:On,∀R:Ru,∀E:aah,∀ct:aae,(ys=[.ref a,.ref c,.int far])->(L a=⇑(x8 ks))->(L c=⇑(ao ct))->(bD ks R E)->(ct.C<|xd R)->(∀L' zs,Kp a L L'->L' a=⇑(dO zs)->¬gf zs (zo R)->zs.length<=ks.l+1->Q .GM L')->bF ys L Q
inductive MF(L:qm)(ks:On)(ct:aad)(a c d:Addr)(far:Int)(i:Nat)(τ:jm)(L':qm):Prop
 |mk (kvs:List<|jk×Y) (c4:_C):τ=[↑a,↑c,some<|.int far,↑d,c4,none,none,none,none]->Kp d L L'->L' d=some (._c kvs)->UsK (tU ks ct) (2*i) kvs->MF L ks ct a c d far i τ L'
inductive MG(L:qm)(ks:On)(ct:aad)(a c d:Addr)(far:Int)(c4:_C)(i:Nat)(τ:jm)(L':qm):Prop
 |mk (kvs:List<|jk×Y) (c5 c6:_C):τ=[↑a,↑c,some<|.int far,↑d,c4,c5,c6,none,none]->Kp d L L'->L' d=some (._c kvs)->UsK (tU ks ct) (2*ks.l+2*i) kvs->MG L ks ct a c d far c4 i τ L'
inductive MJ(L:qm)(ks:On)(ct:aad)(us:Nat)(a c d sm:Addr)(far:Int)(c4 c6:_C)(kvs:List<|jk×Y)(i:Nat)(τ:jm)(L':qm):Prop
 |mk (ps:aad) (c5 c8:_C):τ=[↑a,↑c,some<|.int far,↑d,c4,c5,c6,↑sm,c8]->(∀b o,b≠d->L b=some o->L' b=some o)->L' sm=⇑(ao ps)->L' d=some (._c kvs)->(∀z∈ps,ME ks ct z)->ps.length<=i*us->MJ L ks ct us a c d sm far c4 c6 kvs i τ L'
def Zf:_f bF rT 9:=by
 rintro ys L Q ⟨a,c,a3,I,R,E,ct,rfl,ha,hc,W,pc,q⟩;have big:∀m:Nat,m<=100000->m<sizeLine:=λm h=>Bz h ∅;have kl:=W.T.len;have zl:(x8 I).l=I.l:=Ac ..;have cl:ct.l<=1000:=by have:=pc.f;have:=a7 R;have:=aS R;have:=W.tp.f;rw[Bm] at this;lia
 intro d hd;have s0:qh L (qk L d<|._c []):=By hd;have part:∀{p i j:Nat} {e:Bool},I[p]?=some (.nd e i j)->tU I ct i/\tU I ct j:=λh=>{.inl<|eU (xg.d h)<|Ag ..,.inl<|eU (xg.d h)<|Ae _<|Ag ..};have a1:=ku ha hd;have ac:=ku hc hd;refine xi (s0 _ _ ha) λkeep kp=>wq {MF L I ct a c d a3,{[],_,rfl,λb o _ h=>s0 _ _ h,q9,{{[],rfl,nofun},Ap _}},?_,?_,?_}
 .rintro i τ C ⟨J,c4,rfl,k,_⟩;exact kp _ (by rw[k _ _ a1 ha,s0 _ _ ha])
 .rintro i y τ C hy ⟨J,c4,rfl,k,g,U⟩;have hi:i<I.l:=by rw[<-zl];exact zy hy
  rw[Al] at hy;obtain⟨kn,ek,rfl⟩:=Au.j hy;have ul:=U.len;cases kn with
  |lf t n=>exact{_,ET _,_,_,rfl,k,g,U.more 's'}
  |nd e x z=>
   obtain⟨u1,u2⟩:=part ek;have U1:=U.put u1<|.bl true;have U2:=U1.put u2<|.bl true;have au:=U1.len;refine x4 g {big _ 's',x4 q9 {big _ 's',?_}};exact{_,ET _,_,_,rfl,k.upd.upd,q9,U2.more 's'}
 rintro τ L1 ⟨J,c4,rfl,k1,g1,U1⟩;rw[zl] at U1;have al:=k1 _ _ ac hc;refine xi al λkeep kp=>wq {MG L I ct a c d a3 c4,{_,_,_,rfl,k1,g1,U1.more 's'},?_,?_,?_}
 .rintro i τ C ⟨J,c5,c6,rfl,k,_⟩;exact kp _ (by rw[k _ _ ac hc,al])
 .rintro i y τ C hy ⟨J,c5,c6,rfl,k,g,U⟩;have hi:i<ct.l:=by have:=zy hy;rwa[Ac] at this
  rw[Al] at hy;obtain⟨⟨u,v⟩,ek,rfl⟩:=Au.j hy;obtain⟨m1,m2⟩:=pN<|AD ek;have ul:=U.len;have U1:=U.put (x:=u) (.inr m1)<|.bl true;have U2:=U1.put (x:=v) (.inr m2)<|.bl true;have au:=U1.len;refine x4 g {big _ 's',x4 q9 {big _ 's',?_}};exact{_,ET _,_,_,_,rfl,k.upd.upd,q9,U2.more 's'}
 rintro τ L2 ⟨J,c5,c6,rfl,k2,g2,U2⟩;have pl:(ao ct).l=ct.l:=Ac ..;rw[pl] at U2;obtain⟨us,eu,hu,lu⟩:=U2.ints;intro sm a4;have a5:=ku g2 a4;have k3:∀b o,b≠d->L b=some o->qk L2 sm (.lst []) b=some o:=λb o hb h=>by have:=k2 b o hb h;rw[qe<|ku this a4];exact this
 have av:L sm=none:=by cases h:L sm with|none=>rfl|some o=>have:=k2 sm o (AN a5) h;rw[a4] at this;cases this
 have aL:=k3 a _ a1 ha;have ba:qk L2 sm (.lst []) d=some (._c J):=(qe a5).t g2;refine qa aL {{Bb _,by rw[zl];lia},?_};rw[zl,Bx];refine u8 (MJ L I ct us.l a c d sm a3 c4 c6 J) {[],_,_,rfl,k3,q9,ba,nofun,A7 _} ?_ ?_
 .rintro i τ C hi ⟨ps,c5,c8,rfl,k,g,gd,hg,lp⟩;have ga:=k a _ a1 ha;have ek:=Ah hi;refine qa ga (qg (v:=aA I[i]) ([BW]≈j7 ek) ?_);generalize I[i]=kn at ek;cases kn with
  |lf t n=>exact{_,ET _,ps,_,_,rfl,k,g,gd,hg,'s'}
  |nd e x z=>
   refine qa g ?_;refine x4 gd {_,eu,bu (λj zs=>∃r,zs=ao r/\(∀z∈r,ME I ct z)/\r.l<=j) ([Ac,Ac]≈big _ 's') trivial {[],rfl,nofun,Ap _} ?_ ?_}
   .rintro j y zs hy ⟨r,rfl,hq,lq⟩;rw[BI,Al] at hy;obtain⟨w,ew,rfl⟩:=Au.j hy;have bb:uL C d a=⇑(x8 I):=by unfold uL;rw[Az a1];exact ga
    refine qr (λh1=>?_) λh1=>{_,ET _,rfl,r,rfl,hq,'s'};refine qa bb (qg (v:=aA<|.nd e x z) ([BW]≈j7 ek) ?_);refine{λz=>absurd z.1 (by show ¬1=0;decide),rfl,rfl,?_};show fY (nb true<|rW (cT<|.int (w:Int))<|(nY [x,z]).y cT) _ _;rw[jW];by_cases m:w∈[x,z]
    .rw[AJ m];exact{_,ET _,rfl,r,rfl,hq,'s'}
    .rw[Ay m];refine{_,ET _,rfl,r++[(i,w)],?_,λv hv=>?_,by rw[Ab];exact DG lq}
     .rw[<-mC];exact A8 (λv:Int=>ao r++[Y.tup [.int v,.int (w:Int)]])<|BW _
     .rcases Am.j hv with hv|hv
      .exact hq v hv
      .rw[Ak.j hv];exact{e,x,z,ek,hu w<|AD ew,λ(h:w=x)=>m ([h]≈Ag ..),λ(h:w=z)=>m ([h]≈(Ae _<|Ag ..))}
   .rintro zs ⟨r,rfl,hq,lq⟩ D hD nD;rw[Ac,Ac] at lq;have ar:D≠d:=λh=>by rw[h,q9] at nD;cases nD
    have bc:C D=none:=by unfold uL at hD;rw[Az ar] at hD;exact hD
    obtain⟨L5,e5⟩:∃L5,L5=qk (qk (uL C d) D<|.lst<|ao r) d (._c J):={_,rfl};rw[<-e5];have k5:∀b o,C b=some o->L5 b=some o:=λb o h=>by
     by_cases hb:b=d
     .rw[hb,gd] at h;rw[e5,hb,q9];exact h
     .rw[e5,qe hb,qe<|ku h bc];unfold uL;rw[Az hb];exact h
    have gD:L5 D=⇑(ao r):=by rw[e5,qe ar,q9]
    refine qo (k5 _ _ g)<|qo gD {?_,?_}
    .have:(ao ps).l=ps.l:=Ac ..;have:(ao r).l=r.l:=Ac ..;have:(i+1)*us.l<=96*2192:=Nat.mul_le_mul 's' 's';refine Br<|Bz (m:=96*2192) ?_ ∅;lia
    .refine{_,ET _,ps++r,_,_,rfl,λb o hb h=>?_,?_,?_,λv hv=>?_,?_}
     .have:=k b o hb h;rw[qe λz=>by rw[z,av] at h;cases h];exact k5 _ _ this
     .rw[q9];exact A8 (λz=>some<|LO.lst z) (Ax ..).L
     .rw[qe a5];exact k5 _ _ gd
     .exact(Am.j hv).r (hg v) (hq v)
     .rw[Ab];lia
 .rintro τ L4 ⟨ps,c5,c8,rfl,k,g,gd,hg,lp⟩;intro p hp;refine aq (n:=1) (m:=0) ∅ (By hp _ _ g) q9 (oy ps) (.nil:Paired (j6 _ 0) _ []) ?_;replace k:∀b o,b≠d->L b=some o->qk L4 p (.lst []) b=some o:=λb o hb h=>By hp _ _<|k b o hb h;replace g:=By (o:=.lst []) hp _ _ g;generalize qk L4 p (.lst [])=L5 at k g ⊢;have ga:=k a _ a1 ha;have a2:∀(zs:List<|_q) (C:qm),C=qk L5 a (.lst<|dO zs)->¬gf zs (zo R)->zs.length<=I.l+1->aR Q .GM C:=λzs C e n l=>jj (q C zs (λb o hb h=>by rw[e,qe hb];exact k b o (λz=>by rw[z,hd] at h;cases h) h) (by rw[e,q9]) n l);cases ps with
  |nil=>
   obtain⟨k0,e0⟩:∃k0,I[0]?=some k0:={_,Ah W.pos};refine gE rfl (qa ga (qa ga (qg (v:=aA k0) (show bw (x8 I) 0=some (aA k0) from jh (j:=0) (by unfold x8;rw[Al,e0];rfl))<|qo ga {big _ 's',?_})));exact a2 ((ae I 0++[some k0]).y w4) _ (by rw[jP]) (W.more k0) ([Ac,Ab,xm]≈Ap _)
  |cons z0 zr=>
   refine dg rfl ?_;obtain⟨m,⟨pp,x⟩,em,lm,ez⟩:=dm (l:=z0::zr) (BZ _) a3;have zp:(ao<|z0::zr).l=(z0::zr).l:=Ac ..;obtain⟨e,i,j,ek,hx,n1,n2⟩:=hg _<|AD ez;have hl:=zy ek;refine qa g {(show(0:Int)<((ao<|z0::zr).l:Int) by rw[zp,AK];lia),qa g (qg (v:=G2 (pp,x)) ([zp,em]≈jh (by unfold ao;rw[Al,ez];rfl)) ?_)};refine qa ga<|qg (v:=aA<|.nd e i j) (j7 ek) ?_;have ix:vB (x8 I).l pp⁻¹=some pp:=dU ([zl]≈hl);have ln:∀k:GT,(((ae I 0).O pp k).y w4).l<=I.l+1:=λk=>by rw[Ac,Bq,xm];lia
   refine{{∅,∅},(∅:(0:Int)<2),qr (λ_=>?_) λ_=>?_}
   .refine qo ga<|qg ix ?_;exact a2 _ _ (by rw[oH I pp<|some<|.nd e x j];rfl) (W.shr pc ek hx n1 n2<|.inl rfl)<|ln _
   .refine qo ga<|qg ix ?_;exact a2 _ _ (by rw[oH I pp<|some<|.nd e i x];rfl) (W.shr pc ek hx n1 n2<|.inr rfl)<|ln _
def cH(I:vh):RD "_law_name_changed" cJ 2 ["_law_knots","_law_rule","_law_far","_law_links","_law_cuts","_law_told","_law_p","_law_one","_law_two","_law_sign","_law_name_here"] (λV=>Ih V I):={_,λV B c _ _ _ _ _ _ _ U hN J=>(qb (fb (C_ c U<|jz<|qv 1)<|bB (n:=3) rfl<|zf (G_ 3 hN)<|zf (G_ 4 hN)<|zf (G_ 5 hN) wn)<|qb (S_ 6 hN<|I_ (I_ (qv 4)<|qj zn (qv 2)<|L_ B.ba<|qv 4)<|qj zn (qj xa (qv 2) qc) qc)<|qb (jH yp (E_ J (L_ B.ba<|I_ (qv 0)<|qv 6) qc)<|qd<|S_ 6 hN<|I_ (I_ (qv 0)<|qv 6)<|qj ju qc<|qj zn (qv 2) qc)<|qd<|aB yp rfl (xz<|qv 3) (bB (n:=2) rfl<|zf (G_ 7 hN)<|zf (G_ 8 hN) wn)<|qd<|zc (xb (GJ _ _ _) (qv 6) (qw<|vo (qv 7)<|qv 8) 'k') (qb (S_ 9 hN<|cq (E_ J (I_ (I_ (I_ (qv 0)<|qv 6) qc) qc) qz) qz qz)<|qb (S_ 10 hN<|qj ju (qv 9)<|xu (tJ _ _ _) (I_ (I_ (qv 0)<|qv 6) qc) (vk qc) wg)<|qb (aU (qv 0) (qv 7)<|qw<|vo (I_ (I_ (qv 0)<|qv 7) qc)<|qv 10)<|qd<|aU (qv 0) (qv 8)<|qw<|vo (I_ (I_ (qv 0)<|qv 8) qc)<|qv 10) qy)}
inductive yW(ks:On)(p:Nat):Nat->Prop
 |rfl:yW ks p p
 |lft {a i j:Nat} {e:Bool}:ks[a]?=some (.nd e i j)->yW ks p i->yW ks p a
 |rgt {a i j:Nat} {e:Bool}:ks[a]?=some (.nd e i j)->yW ks p j->yW ks p a
def yW.trans{a:Nat}(h:yW ks q a)(k:yW ks p q):yW ks p a:=by induction h with|rfl=>exact k|lft e _ I=>exact .lft e I|rgt e _ I=>exact .rgt e I
def yW.told{E:aah}(T:nR ks R E){a:Nat}(h:yW ks p a):a∈told R->p∈told R:=by induction h with|rfl=>exact id|lft e _ I=>exactλJ=>I (T.clos J e).1|rgt e _ I=>exactλJ=>I (T.clos J e).2
def yW.name{a:Nat}(h:yW ks p a){n:Str}(e1:ks[p]?=some (.lf t n))(o:wd[p]?=some (some<|.lf t n'))(nd:∀(x:Nat) (e:Bool) (i j:Nat),ks[x]?=some (.nd e i j)->wd[x]?=some (some<|.nd e i j)):
 ∀{w:Wd},KW (wm wd) a w->KW (wm<|ks.map some) a w->n'=n:=by
 induction h with
 |rfl=>
  intro w h1 h2;cases w with
  |leaf C T=>
   have a:=h1.SZ;have b:=wx h2.SZ;rw[o] at a;rw[e1] at b;cases a;cases b;rfl
  |node e l r=>obtain⟨i,j,z,_⟩:=h1.SC;rw[o] at z;cases z
 |@lft a i j e J _ g=>
  intro w h1 h2;cases w with
  |leaf C T=>have z:=wx h2.SZ;rw[J] at z;cases z
  |node e l r=>
   obtain⟨i1,j1,U,l1,r1⟩:=h1.SC;obtain⟨i2,j2,I,l2,r2⟩:=h2.SC;rw[nd _ _ _ _ J] at U;cases U;have I:=wx I;rw[J] at I;cases I;exact g l1 l2
 |@rgt a i j e J _ g=>
  intro w h1 h2;cases w with
  |leaf C T=>have z:=wx h2.SZ;rw[J] at z;cases z
  |node e l r=>
   obtain⟨i1,j1,U,l1,r1⟩:=h1.SC;obtain⟨i2,j2,I,l2,r2⟩:=h2.SC;rw[nd _ _ _ _ J] at U;cases U;have I:=wx I;rw[J] at I;cases I;exact g r1 r2
theorem KW.mono{wd I:List<|GT}(h:∀(x:Nat) (k:Kn),wd[x]?=some (some k)->I[x]?=some (some k)):∀{w:Wd} {p:Nat},KW (wm wd) p w->KW (wm I) p w
 |.leaf t n,p,k=>KW.lf<|h _ _ k.SZ
 |.node e l r,p,k=>by obtain⟨i,j,a,b,c⟩:=k.SC;exact KW.nd (h _ _ a) (KW.mono h b)<|KW.mono h c
theorem cj:∀{R B:Ru} {c:aap},B∈ko R->c∈jp B->c∈jp R
 |.link p q,B,c,h,I=>by cases Ak.j h;exact I
 |.ei r A,B,c,h,I=>by
  obtain rfl|h:=Ao.j h
  .exact I
  .exact cj (R:=A) h I
 |.bo r A C,B,c,h,I=>by
  obtain rfl|h:=Ao.j h
  .exact I
  .exact Am.d ((Am.j h).imp (cj · I) (cj · I))
 |.cu p q A C,B,c,h,I=>by
  obtain rfl|h:=Ao.j h
  .exact I
  .exact Am.d ((Am.j h).imp (cj · I) (cj · I))
section
variable {E:aah}
def bD.KM(W:bD ks R E):(KM<|jp R).c:=W.T.sr.SL.nodup_iff.d<|W.T.nd.filter _
def MK{l:aad}{x:Nat}(h:x∈KM l):∃c∈l,x=c.1\/x=c.2:=by obtain⟨c,I,J⟩:=Bf.j h;refine{c,I,?_};simpa using J
def bD.one(W:bD ks R E){c d:aap}(hc:c∈jp R)(hd:d∈jp R){x:Nat}(h1:x=c.1\/x=c.2)(h2:x=d.1\/x=d.2):c=d:=by
 obtain⟨p,U,g⟩:=Co.j hc;obtain⟨q,j,eq⟩:=Co.j hd;have J:(jp R)[p]?=some c:=by rw[Ah U,g]
 have I:(jp R)[q]?=some d:=by rw[Ah j,eq]
 have:=qS W.KM J I (x:=x) (~~~h1) (~~~h2);subst this;rw[J] at I;exact AV I
def c_(ks:On)(u v:Nat)(t:Bool)(n:Str):List (GT):=((ae ks 0).O u<|some<|.lf t n).O v<|some<|.lf (!t) n
theorem bD.names(W:bD ks R E){d:aap}(hd:d∈xd R){st u v:Nat}(hs:st=d.1\/st=d.2)(un:yW ks p st)(hl:(u,v)∈jp R)(hp:p=u\/p=v){n:Str}(o:ks[u]?=some (.lf t n))(ev:ks[v]?=some (.lf (!t) n))(ne:n'≠n)(r:u≠v):¬gf ((c_ ks u v t n').y w4) (zo R):=λs=>by
 obtain⟨A,B,g⟩:=bZ hd;obtain⟨⟨w',g1,g2⟩,_,_⟩:=s.fit g;have lu:=zy o;have lv:=zy ev;have au:(c_ ks u v t n')[u]?=some (some<|.lf t n'):=by unfold c_;rw[AX<|AN r,Bj (by rw[xm];lia)]
 have av:(c_ ks u v t n')[v]?=some (some<|.lf (!t) n'):=by unfold c_;rw[Bj (by rw[Bq,xm];lia)]
 have J:∀(x:Nat) (k:Kn),x≠u->x≠v->ks[x]?=some k->(c_ ks u v t n')[x]?=some (some k):=λx k h1 h2 h=>by unfold c_;rw[AX<|AN h2,AX<|AN h1];exact xg.d h
 have U:∀(x:Nat) (e:Bool) (i j:Nat),ks[x]?=some (.nd e i j)->(c_ ks u v t n')[x]?=some (some<|.nd e i j):=λx e i j h=>J x _ (λz=>by rw[z,o] at h;cases h) (λz=>by rw[z,ev] at h;cases h) h;obtain⟨⟨EC,sC⟩,_,sub,_⟩:=W.T.sr.rls _ g;have nC:=sub.nodup W.T.nd;have l:=a9 g<|uI<|Ag ..;have hB:=a9 g<|uI<|Ae _<|Ag ..;obtain⟨a2,TA⟩:=W.T.inner l;obtain⟨a3,C⟩:=W.T.inner hB;have lf:∃t0 n0,ks[p]?=some (.lf t0 n0)/\n0=n/\(c_ ks u v t n')[p]?=some (some<|.lf t0 n'):=by
  obtain rfl|rfl:=hp
  .exact{(t),n,o,rfl,au}
  .exact{!t,n,ev,rfl,av}
 obtain⟨t0,n0,ep,rfl,ap⟩:=lf;have arm:∀{A:Ru} {EA:aah},A∈ko R->nR ks A EA->p∈told A->u∈told A/\v∈told A:=λ{A EA} l T h=>by have L:=T.sr.SL;have m:=L.mem_iff.d (AW.d {h,by rw[ep];rfl});obtain⟨c,hc,hx⟩:=MK m;have e:=W.one (cj l hc) hl hx hp;rw[e] at hc;have k:=pN hc;exact{(AW.j<|L.mem_iff.mp k.1).1,(AW.j<|L.mem_iff.mp k.2).1}
 have keep:∀{B:Ru} {EB:aah},nR ks B EB->u∉told B->v∉told B->∀{x:Nat} {w:Wd},x∈told B->f9 ks x w->KW (wm<|c_ ks u v t n') x w:=λ{B EB} T n1 n2 {x w} hx hw=>
  KW.mono (λy k h=>by obtain⟨m,e⟩:=iA h;exact J y k (λz=>n1 (by rw[<-z];exact m)) (λz=>n2 (by rw[<-z];exact m)) e) (T.word hx hw)
 cases sC with
 |@cu _ _ _ _ EA EB _ w sA sB h3 h4 h5 h6=>
  have I:=(Aw.j<|show(told A++told B).c from nC).2.2;have a1:=sA.sub _ h3;have b1:=sB.sub _ h4;have k5:KW (wm<|ks.map some) d.1 w:=by rw[v9];exact h5
  have k6:KW (wm<|ks.map some) d.2 w.turn:=by rw[v9];exact h6
  obtain rfl|rfl:=hs
  .obtain⟨m1,m2⟩:=arm l TA<|un.told TA a1;have e:=(keep C (λz=>I u m1 u z rfl) (λz=>I v m2 v z rfl) b1 h6).uniq g2;have ew:w=w':=by rw[<-E7 w,e,E7]
   rw[<-ew] at g1;exact ne<|un.name ep ap U g1 k5
  .obtain⟨m1,m2⟩:=arm hB C<|un.told C b1;have e:=(keep TA (λz=>I u z u m1 rfl) (λz=>I v z v m2 rfl) a1 h5).uniq g1;rw[<-e] at g2;exact ne<|un.name ep ap U g2 k6
theorem cX:∀{R:Ru} {d:aap},d∈jp R->Ru.link d.1 d.2∈ko R
 |.link p q,d,h=>by rw[Ak.j h];exact Ag ..
 |.ei r A,d,h=>Ae _<|cX (R:=A) h
 |.bo r A D,d,h=>Ae _<|Am.mpr<|(Am.j h).imp cX cX
 |.cu p q A D,d,h=>Ae _<|Am.mpr<|(Am.j h).imp cX cX
def bD.lk(W:bD ks R E){d:aap}(h:d∈jp R):d.1<d.2/\∃t n,ks[d.1]?=some (.lf t n)/\ks[d.2]?=some (.lf (!t) n):=by obtain⟨h1,t,n,I,J⟩:=W.fit 0<|cX h;exact{h1,t,n,xg.j I,xg.j J}
end
def Zg(ks:On)(u v:Nat)(t:Bool)(n:Str):dO ((c_ ks u v t n).y w4)=((x8 ks).O u<|aA<|.lf t n).O v (aA<|.lf (!t) n):=by unfold c_;rw[<-y_,<-kY];unfold wm;rw[DB,DB];rfl
inductive MN(ks:On)(lk:aad)(a la ca ta:Addr)(R:Ru)(far:Int)(m:Nat)(Lw:qm)(i:Nat)(τ:jm)(L':qm):Prop
 |mk (c7 c8 c9 c10:_C):τ=[↑a,some<|qx R,some<|.int far,↑la,↑ca,↑ta,some<|.int (m:Int),c7,c8,c9,c10]->Kp a Lw L'->((L' a=⇑(x8 ks)/\∀c∈lk.u i,¬(m=c.1\/m=c.2))\/∃(j:Nat) (c:aap) (t:Bool) (n n':Str),j<i/\lk[j]?=some c/\(m=c.1\/m=c.2)/\ks[c.1]?=some (.lf t n)/\ks[c.2]?=some (.lf (!t) n)/\n'≠n/\L' a=⇑(dO<|(c_ ks c.1 c.2 t n').y w4))->MN ks lk a la ca ta R far m Lw i τ L'
inductive cW(ys:_T)(L:qm)(Q:YK):Prop
 |mk:∀a,∀far:Int,∀ks:On,∀R:Ru,∀E:aah,(ys=[.ref a,qx R,.int far])->(L a=⇑(x8 ks))->(bD ks R E)->(xd R≠[])->(∀L' zs,Kp a L L'->L' a=⇑(dO zs)->¬gf zs (zo R)->zs.length<=ks.l+1->Q .GM L')->cW ys L Q
def Zh:_f cW (cH cQ).1 11:=by
 rintro ys L Q ⟨a,I,l,R,E,rfl,ha,W,nc,q⟩;have big:∀m:Nat,m<=100000->m<sizeLine:=λm h=>Bz h ∅;have zl:(x8 l).l=l.l:=Ac ..;refine{R,rfl,W.T.small,λla ca ta lk ct bf L1 s1 a1 bg bh gl gc gt pl pc hv=>?_};have ga:=s1 _ _ ha;have a2:0<ct.l:=by rw[pc.f];exact List.length_pos_iff.mpr nc
 have pp:(ao ct).l=ct.l:=Ac ..;obtain⟨m,d,em,lm,ed⟩:=dm a2 I;refine qa gc {(show(0:Int)<((ao ct).l:Int) by rw[pp];lia),qa gc (qg (v:=G2 d) ([pp,em]≈jh (by unfold ao;rw[Al,ed];rfl)) ?_)};have hd:=pc.mem_iff.j<|AD ed;have hm:I / 64 % 2=0\/I / 64 % 2=1:='s'
 have av:I % 2=0\/I % 2=1:='s'
 obtain⟨A,B,hC⟩:=bZ hd;have a3:d.1<l.l/\d.2<l.l:=by obtain⟨⟨w,g1,g2⟩,_⟩:=W.fit 0 hC;obtain⟨k1,e1⟩:=g1.ex;obtain⟨k2,e2⟩:=g2.ex;exact{zy<|xg.mp e1,zy<|xg.mp e2}
 obtain⟨st,a4,aL⟩:∃st,(st=d.1\/st=d.2)/\bw [Y.int d.1⁻¹,.int d.2⁻¹] (I / 64 % 2)=some (.int st⁻¹):=by
  obtain hm|hm:=hm
  .exact{d.1,.inl rfl,by rw[hm];rfl}
  .exact{d.2,.inr rfl,by rw[hm];rfl}
 have ba:st<l.l:=by obtain rfl|rfl:=a4;exact a3.1;exact a3.2
 refine{{∅,∅},(∅:(0:Int)<2),?_};walk_at "w";rw[aL];refine{λm τ L'=>∃p:Nat,τ=[↑a,some<|qx R,some<|.int I,↑la,↑ca,↑ta,some<|.int (p:Int),none,none,none,none]/\L'=L1/\yW l p st/\p<l.l/\m=p,{_,st,rfl,rfl,.rfl,ba,rfl},?_};rintro m τ Lw ⟨p,rfl,rfl,un,hp,rfl⟩;have C:=Ah hp;refine qa ga<|qg (j7 C) ?_;generalize l[m]=kn at C;cases kn with
 |nd e i j=>
  refine{λa5 L'=>∃m',m'<m/\∃p:Nat,a5=[↑a,some<|qx R,some<|.int I,↑la,↑ca,↑ta,some<|.int (p:Int),none,none,none,none]/\L'=Lw/\yW l p st/\p<l.l/\m'=p,λa5 L' h=>h,?_};have ok:=W.knW 0 m e i j<|xg.mpr C;refine qa ga<|qg (j7 C) {(∅:(0:Int)<2),?_};walk_at "w";obtain h2|h2:=av
  .rw[show bw [Y.str<|kN e,.int i⁻¹,.int j⁻¹] (1+I % 2)=some (.int i⁻¹) by rw[h2];rfl];exact{_,ET _,i,ok.1,i,rfl,rfl,un.t<|.lft C .rfl,'s',rfl}
  .rw[show bw [Y.str<|kN e,.int i⁻¹,.int j⁻¹] (1+I % 2)=some (.int j⁻¹) by rw[h2];rfl];exact{_,ET _,j,ok.2.1,j,rfl,rfl,un.t<|.rgt C .rfl,'s',rfl}
 |lf t n=>
  have bb:la≠a:=λz=>by rw[z,ha] at a1;cases a1
  have nO:=W.T.ok _ _ C;have bc:=(Xn pl).nodup_iff.mpr W.KM;refine xi gl λkeep kp=>wq {MN l lk a la ca ta R I m Lw,{_,_,_,_,rfl,λ_ _ _ h=>h,.inl {(ga),nofun}},?_,?_,?_}
  .rintro i τ L' ⟨c7,c8,c9,ac,rfl,k,_⟩;exact kp _ (by rw[k _ _ bb gl,gl])
  .rintro i y τ L' hy ⟨c7,c8,c9,ac,rfl,k,h⟩;rw[Al] at hy;obtain⟨⟨u,v⟩,eu,rfl⟩:=Au.j hy;have et:lk.u (i+1)=lk.u i++[(u,v)]:=by rw[Bh,eu];rfl
   refine{rfl,rfl,?_};show fY (rW (cT<|.int (m:Int))<|(nY [u,v]).y cT) _ _;rw[jW];by_cases J:m∈[u,v]
   .rw[AJ J];have J:m=u\/m=v:=by simpa using J
    rcases h with⟨g,_⟩|⟨j,c,t',n',al,hj,ej,hc,_⟩
    .obtain⟨bi,t0,U,e1,e2⟩:=W.lk<|pl.mem_iff.mp<|AD eu;have hn:U=n:=by
      obtain z|z:=J
      .rw[z] at C;rw[C] at e1;cases e1;rfl
      .rw[z] at C;rw[C] at e2;cases e2;rfl
     subst hn;obtain⟨ch,r,er⟩:=C0 (show U.cps.z≠[] from λe=>by have:U.cps.toList.l=U.l:=len_list _;rw[e] at this;exact absurd nO.1 (by rw[<-this];decide))
     have e0:bw U.cps.z 0=some ch:=by rw[er];exact jh (j:=0) rfl
     have ar:∀(b:Nat) (z:Str),b≠ch->(⟨#[b]⟩:Str)++z≠U:=λb z hb w=>by have:=A8 (λs:Str=>s.cps.toList) w;have this:=this;rw[LH,er] at this;exact hb (CG this).1
     have n8:=nO.2.1;have sl:=slice_le U (some 1) none;have sm:U.l<=sizeLine:=Br<|big _ 's';have bd:1+(Txt.slice U (some 1) none).l<=sizeLine:=Br<|big _ 's';have lu:=zy e1;have lv:=zy e2;have done:∀(n':Str) (L5:qm),n'≠U->L5=qk (qk L' a<|.lst<|(x8 l).O u<|aA<|.lf t0 n') a (.lst<|((x8 l).O u<|aA<|.lf t0 n').O v<|aA<|.lf (!t0) n')->Kp a Lw L5/\L5 a=⇑(dO<|(c_ l u v t0 n').y w4):=λn' L5 _ e=>by rw[e];exact{k.upd.upd,by rw[q9,Zg]}
     refine qa g<|qg (j7 C) {sm,qg e0 ?_};refine qr (λc=>?_) λc=>?_
     case' refine_1=>
      have hb:∀z:Str,("b" : Str)++z≠U:=λz=>ar 98 z (by have:=A8 (λs:Str=>s.cps.toList) c;have:=(CG this).1;lia)
     case' refine_2=>
      have hb:∀z:Str,("a" : Str)++z≠U:=λz=>ar 97 z λe=>c (by rw[<-e];rfl)
     all_goals
      refine qa g<|qg (j7 C) {sm,bd,?_};refine qa g (qg (j7 e1) (qo g (qg (dU ([zl]≈lu)) ?_)));refine qa q9 (qg (v:=aA<|.lf (!t0) U) (jh (by rw[AX 's'];unfold x8;rw[Al,e2];rfl)) (qo q9 (qg (dU ([Bq,zl]≈lv)) ?_)));obtain⟨k5,g5⟩:=done _ _ (hb _) rfl;exact{_,ET _,_,_,_,_,rfl,k5,.inr {i,(u,v),t0,U,_,B8 _,eu,J,e1,e2,hb _,g5}}
    .have:=qS bc ej eu (x:=m) (~~~hc) (~~~J);lia
   .rw[Ay J];refine{_,ET _,_,_,_,_,rfl,k,?_};rcases h with⟨g,h⟩|⟨j,c,t',n',al,hj,ej,hc,h⟩
    .refine .inl {g,λc hc=>?_};rw[et] at hc;obtain hc|hc:=Am.j hc
     .exact h c hc
     .rw[Ak.j hc];exactλz=>J (~~~z)
    .exact .inr {j,c,t',n',al,'s',ej,hc,h}
  .rintro τ L' ⟨c7,c8,c9,ac,rfl,k,h⟩;have pp:(ao lk).l=lk.l:=Ac ..;rw[pp,Bp] at h;have kk:Kp a L L':=λb o hb h=>k b o hb<|s1 _ _ h;rcases h with⟨_,h⟩|⟨j,c,t',U,n',_,ej,hc,e1,e2,ne,g⟩
   .exfalso;have m1:=W.T.sr.SL.mem_iff.d (AW.d {W.mem.d hp,by rw[C];rfl});obtain⟨c,hc,hx⟩:=MK m1;exact h c (pl.mem_iff.d hc) hx
   .have au:=pl.mem_iff.j<|AD ej;refine jj (q L' _ kk g (W.names hd a4 un au hc e1 e2 ne (by have:=(W.lk au).1;lia)) ?_);unfold c_;rw[Ac,Bq,Bq,xm];lia
def Zi(ta ti:xq)(τ:jm)(L:qm)(Q:YK):Prop:=vV ta ti τ L Q\/zx aO ta ti τ L Q
def hJ(h1:QE X e<|vV ta ti)(h2:QE X e<|zx aO ta ti):QE X e (Zi ta ti):=λJ s U H Q I ⟨g,L,j,rs,l,z,k⟩=>z.elim (λz=>h1 J s U H Q I {(g),L,j,rs,l,z,k}) λz=>h2 J s U H Q I {(g),L,j,rs,l,z,k}
def vW(I:vh):RR "_law_moved" lI 1 ["_law_rule","_law_at"] ["_law_rule","_law_at","_law_places"] I (λ_=>True):={_,λV B c _ _ J _ _ _ _ _ _ g hN U=>(qb (zc (E_ U (J_ 0) qz) (qd<|qt<|qw<|aI qz (kj T4 rfl B.b_min W3<|vo (hJ (fc U (qv 1) (J_ 0) λ_ _=>rfl)<|I_ (qv 1)<|J_ 0)<|hJ (fc U (qv 1) (J_ 0) λ_ _=>rfl)<|I_ (qv 1)<|J_ 0)<|kj Kc rfl B.bp JY<|vo (hJ (fc U (qv 1) (J_ 0) λ_ _=>rfl)<|I_ (qv 1)<|J_ 0)<|hJ (fc U (qv 1) (J_ 0) λ_ _=>rfl)<|I_ (qv 1)<|J_ 0) qy)<|qb (eV ["_law_x"] (i:=2) hN rfl (Or.inl rfl) (E4 'o') rfl (LS<|xu (gM _ _ _) (qv 0) (vk qc) wg) (vL 3) (λ_ _ _ _=>dC<|bv<|Kd .int rfl B.bh rfl B.b_int Tb<|qv 3) λ_ _ _ _=>(hJ (fc U (qv 1) (qv 3) λ_ _=>rfl)<|I_ (qv 1)<|qv 3))<|qd<|qt<|bT Mm rfl B.b_tuple pC<|jz<|qj ju (qj ju (zd<|jz<|J_ 0)<|qv 2)<|fq ["_law_x"] (E4 'o') rfl (LS<|xu (gM _ _ _) (qv 0) (vk qc) wg) (vL 3) (λ_ _ _ _=>dC<|bv<|Kd .tuple rfl B.bh rfl B.b_tuple pC<|qv 3) λ_ _ _ _=>(C_ J g<|vo (qv 3)<|qv 1))}
def AtS(L:qm)(d:Addr)(x y:Nat):Prop:=(∃kvs,L d=some (._c kvs)/\wo kvs (.inl (x:Int))=some (.int (y:Int)))\/∃l,L d=⇑l/\bw l (x:Int)=some (.int (y:Int))
def AtS.sub{d:Addr}{x y:Nat}(h:AtS L d x y)(s:qh L L'):AtS L' d x y:=h.imp (λ⟨k,a,b⟩=>{k,s _ _ a,b}) λ⟨l,a,b⟩=>{l,s _ _ a,b}
def AtS.get{d:Addr}{x y:Nat}{Q:YK}(h:AtS L d x y)(q:Q (.int (y:Int)) L):(nw L d λkvs=>rQ L Q<|wo kvs<|.inl (x:Int))\/fE L (.ref d) λys=>rQ L Q (bw ys (x:Int)):=h.imp (λ⟨_,a,b⟩=>x4 a<|qg b q) λ⟨_,a,b⟩=>qa a<|qg b q
inductive aN(n:Nat)(ys:_T)(L:qm)(Q:YK):Prop
 |mk:∀R:Ru,∀d,∀f:aao,(ys=[qx R,.ref d])->((∀B∈ko R,∀x∈plR B,AtS L d x<|f x))->(zq R<=n)->(Q (qx<|iT f R) L)->aN n ys L Q
def Zj:∀ys L Q,¬aN 0 ys L Q:=by rintro ys L Q ⟨A,_,_,_,_,h,_⟩;have:=qT A;lia
def Zk:∀ys L Q,pV 120 ys L Q->aN 120 ys L Q:=λ_ _ _ ⟨R,d,I,f,e,hd,J,U,q⟩=>{R,d,f,e,λB g x j=>.inl {I,hd,J B g x j},U,q}
theorem Zl(n:Nat):_f (aN (n+1)) (vW<|aN n).1 3:=by
 rintro ys L Q ⟨R,d,f,rfl,l,hr,q⟩;have big:=a_;by_cases J:∃a b,R=.link a b
 .obtain⟨a,b,rfl⟩:=J;have v1:=l _ (aj _) a<|Ag ..;have v2:=l _ (aj _) b<|Ae _<|Ag ..;refine v1.get ?_;refine v2.get ?_;refine v1.get ?_;refine v2.get ?_;refine jj ?_;have e1:min (f a:Int) (f b:Int)=(min (f a) (f b))⁻¹:=WN _ _;have e2:max (f a:Int) (f b:Int)=(max (f a) (f b))⁻¹:=WO _ _;have q:Q (.tup [.str "link",.int (min (f a) (f b))⁻¹,.int (max (f a) (f b))⁻¹]) L:=q;rw[<-e1,<-e2] at q;exact q
 have hk:G7 R ≠ "link" := by cases R with|link a b=>exact absurd {(a),b,rfl} J|ei r A=>show(Str.ofString "either") ≠ "link";decide +kernel|bo r A B=>show(Str.ofString "both") ≠ "link";decide +kernel|cu p s A B=>show(Str.ofString "cut") ≠ "link";decide +kernel
 have t:Q (.tup<|[.str<|G7 R]++nY ((plR R).y f)++(jd R).y λB=>qx<|iT f B) L:=by cases R with|link a b=>exact absurd {(a),b,rfl} J|ei r A=>exact q|bo r A B=>exact q|cu p s A B=>exact q
 have vp:∀x∈plR R,AtS L d x (f x):=l R<|aj R;have va:∀B∈jd R,zq B<=n/\∀C∈ko B,∀x∈plR C,AtS L d x (f x):=λB hB=>{by have:=eY hB;lia,λC hC=>l C<|a9 (uI hB) hC};have lp:(plR R).l<=2:=by cases R<;>simp[plR]
 have lA:(jd R).l<=2:=by cases R<;>simp[jd]
 rw[u4 R];generalize plR R=P at vp t lp;generalize jd R=g at va t lA;generalize G7 R=U at hk t;clear q l J hr;have e0:bw (Y.str U::(nY P++g.y qx)) 0=some (Y.str U):=jh (xs:=Y.str U::(nY P++g.y qx)) (j:=0) rfl;have T:(nY P++g.y qx).l=P.l+g.l:=by rw[Ab,we,Ac]
 walk_at "w";rw[e0];refine dg (Ay hk) ?_;refine{Mq _ _,?_};rw[wZ];refine bu (λi I=>I=nY ((P.u i).y f)) ([T]≈big _ 's') trivial rfl ?_ ?_
 .rintro i y I hy rfl;rcases Mr hy with⟨c,x,ex,rfl⟩|⟨c,B,eB,rfl⟩
  .refine(vp x<|AD ex).get {_,ET _,rfl,?_};rw[Bh,ex,Ax,hG];rfl
  .have e1:P.u (i+1)=P.u i:=by rw[A4 's',A4 c]
   have z:jA (λI L'=>L'=L/\I=nY ((P.u<|i+1).y f)) (nY<|(P.u i).y f) L:={_,ET _,rfl,by rw[e1]};rw[u4 B];exact z
 rintro I rfl p1 h1;rw[T,A4 's'];walk_at "w";rw[e0];intro p2 h2;have s1:=By (o:=.lst<|nY<|P.map f) h1;have s2:=s1.t<|By (o:=.lst [Y.str U]) h2;refine{_,_,q9,By h2 _ _ q9,?_,λp3 h3=>?_}
 .rw[we,Ac];exact Br (big _ (by show 1+P.l<=20000;lia))
 have s3:=s2.t<|By (o:=.lst<|[Y.str U]++nY (P.y f)) h3;have g3:∀{o},qk (qk (qk L p1<|.lst<|nY<|P.map f) p2<|.lst [Y.str U]) p3 o p3=some o:=q9;refine{Mq _ _,?_};rw[wZ];have g3:=g3 (o:=.lst<|[Y.str U]++nY (P.y f));generalize qk (qk (qk L p1<|.lst<|nY<|P.map f) p2<|.lst [Y.str U]) p3 (.lst<|[Y.str U]++nY (P.y f))=L3 at s3 g3 ⊢;refine bu (λi I=>I=(g.u<|i-P.l).y λB=>qx<|iT f B) ([T]≈big _ 's') trivial (by rw[Nat.zero_sub];rfl) ?_ ?_
 .rintro i y I hy rfl;rcases Mr hy with⟨c,x,ex,rfl⟩|⟨c,B,eB,rfl⟩
  .exact{_,ET _,rfl,by rw[Nat.sub_eq_zero_of_le c,Nat.sub_eq_zero_of_le<|Br c]}
  .obtain⟨h1,h2⟩:=va B<|AD eB;have z:aN n [qx B,.ref d] L3 λz L4=>jA (λI L'=>L'=L3/\I=(g.u<|i+1-P.l).y λB=>qx<|iT f B) (((g.u<|i-P.l).y λB=>qx<|iT f B)++[z]) L4:=by refine{B,d,f,rfl,λC hC x hx=>(h2 C hC x hx).sub s3,h1,_,ET _,rfl,?_};rw[Nat.succ_sub c,Bh,eB,Ax];rfl
   rw[u4 B] at z ⊢;exact z
 rintro I rfl p4 h4;rw[T,Bu,Bp];refine{_,_,(qe<|ku g3 h4).t g3,q9,?_,λp5 h5=>?_}
 .rw[Ab,we,Ac,Ac];exact Br (big _ (by show 1+P.l+g.l<=20000;lia))
 exact qo q9<|eM ((s3.t<|By h4).t<|By h5) t
def mK(I:vh):aa:=(zj (sN 4<|jx (h_ 1 (bx<|aV<|gC 0) (ql 6) GF<|zx gL (zx gL (gC 0)<|ja 1)<|qf 6)<|ql 2)
 (zj (jx (aZ zk)<|ql 3)
 (zj (gA (ah<|qf 2) (ql 4) (zj (jx (zx aO (qf 0)<|qf 4)<|ql 5)
 (jo<|fg xp (qf 3)<|qi (Gc (bU (gC 5)<|ja 2) (qf 5)<|vi<|qi (a6 5 0)<|qi (zx aO (qf 2)<|a6 5 1)<|qi (zx aO (qf 2)<|a6 5 2) zk) zk)))
 (i3 (Mt 5 (bU (h_ 1 (ah<|qf 0) (ql 6) (bU (gC 6)<|ja 3)<|qf 6)<|aZ zk) (jo<|fg xp (qf 3)<|aV<|a6 0 0) w5)
 (bN<|vi<|qi (qf 3)<|qi (jg I<|cg (qf 1)<|qf 2) zk)))))
theorem iC(f:aao):∀R:Ru,zq (iT f R)=zq R
 |.link _ _=>rfl
 |.ei _ A=>A8 (· + 1)<|iC f A
 |.bo _ A B=>by show max (zq<|iT f A) (zq<|iT f B)+1=_;rw[iC f A,iC f B];rfl
 |.cu _ _ A B=>by show max (zq<|iT f A) (zq<|iT f B)+1=_;rw[iC f A,iC f B];rfl
theorem mF(f:aao):∀R:Ru,aH (iT f R)=aH R
 |.link _ _=>rfl
 |.ei _ A=>A8 (· + 1)<|mF f A
 |.bo _ A B=>by show aH (iT f A)+aH (iT f B)+1=_;rw[mF f A,mF f B];rfl
 |.cu _ _ A B=>by show aH (iT f A)+aH (iT f B)+1=_;rw[mF f A,mF f B];rfl
def MO(L:qm)(Q:YK):Prop:=∀D zs X L',qh L L'->L' D=⇑(dO zs)->¬gf zs X->zs.length<=120->jn X<=120->ky X<=1000->(ze X).l<=1000->Q (.tup [.ref D,je X]) L'
def Go(n:Nat):Kn->Kn
 |.lf t m=>.lf t m
 |.nd e i j=>.nd e (n-1-i)<|n-1-j
def mQ(ks:On):List (GT):=(List.range ks.l).y λm=>(ks[ks.l-1-m]?).y<|Go ks.l
def MQ{k:Kn}(h:ks[p]?=some k):(mQ ks)[ks.l-1-p]?=some (some<|Go ks.l k):=by have I:=zy h;unfold mQ;rw[Al,Cq 's',DL,show ks.l-1-(ks.l-1-p)=p by lia,h];rfl
def tw(ks:On):(mQ ks).l=ks.l:=by unfold mQ;rw[Ac,Bm]
def bD.back{E:aah}(W:bD ks R E){e:Bool}(h:ks[p]?=some (.nd e i j))(A:Rz):¬gf ((mQ ks).y w4) A:=λs=>by obtain⟨o1,_,_,_⟩:=W.knW 0 p e i j<|xg.mpr h;have f:=(pG s.1 (p:=ks.l-1-p) (k:=some<|.nd e (ks.l-1-i)⁻¹ (ks.l-1-j)⁻¹) (by rw[Al,MQ h];rfl)).1 _<|Ag ..;obtain⟨m,em,I,_⟩:=iB f;lia
def bD.back2{E:aah}(W:bD ks R E)(k:Kn):¬gf ((mQ ks++[some k]).y w4) (zo<|iT (λp=>ks.length-1-p) R):=λs=>by have o:=s.nat.1;unfold q_ at o;rw[wr] at o;have h:ks.l⁻¹∈tI (mQ ks++[some k]):=oR.d {k,by rw[AH ([tw]≈Ap _),tw,C3];rfl};obtain⟨n,I,e⟩:=AM.j<|o.mem_iff.mpr h;cases A6.j e;obtain⟨x,_,ex⟩:=AM.j<|(cO _ R).mem_iff.mp I;have:=W.pos;have ex:=ex;lia
inductive kR(ys:_T)(L:qm)(Q:YK):Prop
 |mk:∀a,∀ks:On,∀R:Ru,∀E:aah,(ys=[.ref a,qx R])->(L a=⇑(x8 ks))->(bD ks R E)->(MO L Q)->kR ys L Q
def Zm:_f kR (mK<|aN 120) 6:=by
 rintro ys L Q ⟨a,I,R,E,rfl,ha,W,q⟩;have big:∀m:Nat,m<=100000->m<sizeLine:=λm h=>Bz h ∅;have kl:=W.T.len;have zl:(x8 I).l=I.l:=Ac ..;have rd:=kh R;have rz:=aS R;have tl:=W.tp.f;rw[Bm] at tl;obtain⟨f,ef⟩:∃f:aao,f=λp=>I.length-1-p:={_,rfl};refine qa ha {{Bb _,by rw[zl];lia},?_};rw[zl,Bx];refine lO (λi r=>i<=I.l/\r=nY ((List.range i).y f)) (big _ 's') {A7 _,rfl} ?_ ?_
 .rintro i r hi ⟨_,rfl⟩;refine qa ha ?_;refine{_,ET _,rfl,hi,?_};rw[Dk,Ax,hG];have:((x8 I).l)⁻¹-1-(0+(i:Int))=(f i:Int):=by rw[zl,ef];lia
  exact A8 (λv:Int=>nY ((List.range i).y f)++[Y.int v]) this
 rintro r ⟨_,rfl⟩ la al;refine wW al λC s1 g1=>?_;have at_:∀x,x<I.l->bw (nY<|(List.range I.l).y f) (x:Int)=some (.int (f x:Int)):=λx hx=>jh (by unfold nY;rw[Al,Al,Cq hx];rfl)
 intro J a1;have ga:=s1 _ _ ha;have U:=ku g1 a1;have a5:=ku ga a1;have gl:=(qe (o:=.lst []) U).t g1;have bl:=tw I;refine xi gl λkeep kp=>wq {λi τ L'=>∃c4 c5,τ=[↑a,some<|qx R,↑la,↑J,c4,c5]/\L'=qk C J (.lst<|wm<|(mQ I).u i),{_,_,rfl,rfl},?_,?_,?_}
 .rintro i τ L' ⟨c4,c5,rfl,rfl⟩;exact kp _ (by rw[qe U,qe U])
 .rintro i y τ L' hy ⟨c4,c5,rfl,rfl⟩;obtain⟨m,em,rfl⟩:=lW hy;rw[Al] at em;obtain⟨i',ei,rfl⟩:=Au.j em;have hi:i<I.l:=by have:=zy ei;rwa[Bm] at this
  rw[Cq hi] at ei;cases ei;have fi:f i<I.l:=by rw[ef];lia
  have ek:=Ah fi;have eb:(mQ I)[i]?=some (some<|Go I.l I[f i]):=by
   have:I.l-1-f i=i:=by rw[ef];lia
   have h:=MQ ek;rw[this] at h;exact h
  have et:(mQ I).u (i+1)=(mQ I).u i++[some<|Go I.l I[f i]]:=by rw[Bh,eb];rfl
  have l1:(wm<|(mQ I).u i).l<=1000:=by rw[iJ,A2];lia
  refine qa ((qe a5).t ga)<|qg (j7 ek) ?_;generalize I[f i]=kn at ek et;have a2:∀{v:Y},v=qG (some<|Go I.l kn)->jA (λτ L'=>∃c4 c5,τ=[↑a,some<|qx R,↑la,↑J,c4,c5]/\L'=qk C J (.lst<|wm<|(mQ I).u<|i+1)) [↑a,some<|qx R,↑la,↑J,some<|.int (f i:Int),some<|aA kn] (qk (qk C J<|.lst<|wm<|(mQ I).u i) J<|.lst<|wm ((mQ I).u i)++[v]):=λe=>{_,ET _,_,_,rfl,by rw[vn,e,lH,et]};cases kn with
  |lf t n=>exact qa q9<|qo q9 {big _ 's',a2 rfl}
  |nd e x z=>
   obtain⟨o1,o2,_,_⟩:=W.knW 0 _ e x z<|xg.mpr ek;have v1:=at_ x 's'
   have v2:=at_ z 's'
   have ac:qk C J (.lst<|wm<|(mQ I).u i) la=_:=(qe U).t g1;exact qa q9 (qa ac (qg v1 (qa ac (qg v2 (qo q9 {big _ 's',a2 (by rw[ef];rfl)})))))
 rintro τ L2 ⟨c4,c5,rfl,rfl⟩;have ll:(nY<|(List.range I.l).y f).l=I.l:=by rw[we,Ac,Bm]
 rw[ll,show(mQ I).u I.l=mQ I from A4 's'];have a3:qk C J (.lst<|wm<|mQ I) a=⇑(x8 I):=(qe a5).t ga;have s2:qh L (qk C J<|.lst<|wm<|mQ I):=s1.t<|By a1;have a4:qk C J (.lst<|wm<|mQ I) la=_:=(qe U).t g1;have g2:qk C J (.lst<|wm<|mQ I) J=⇑(wm<|mQ I):=q9;have ar:=s1.none a1;generalize qk C J (.lst<|wm<|mQ I)=L2 at a3 s2 a4 g2 ⊢;refine{λτ L'=>∃(r:List<|_q) (c4 c5:_C),τ=[↑a,some<|qx R,↑la,↑J,c4,c5]/\qh L L'/\L' la=⇑(nY<|(List.range I.l).y f)/\L' J=⇑(dO r)/\¬gf r (zo<|iT f R)/\r.l<=120,?_,?_}
 .refine xi a3 λkeep kp=>bu (λi us=>∃l:List (GT),us=wm l/\(l≠[]->∃(p:Nat) (e:Bool) (x z:Nat),I[p]?=some (Kn.nd e x z))) ([zl]≈big _ 's') (kp _ rfl) {[],rfl,λh=>(h rfl).r} ?_ ?_
  .rintro i y us hy ⟨l,rfl,hf⟩;rw[Al] at hy;obtain⟨kn,ek,rfl⟩:=Au.j hy;cases kn with
   |lf t n=>exact{_,ET _,rfl,l,rfl,hf}
   |nd e x z=>exact{_,ET _,rfl,l++[some<|.nd e x z],by rw[<-lH];rfl,λ_=>{(i),e,x,z,ek}}
  rintro us ⟨l,rfl,hf⟩ p1 h1 p2 h2;refine aq (n:=1) (m:=0) ∅ (By h2 _ _ q9) q9 (uV l) (.nil:Paired (j6 _ 0) _ []) ?_;have g:=(By (o:=.lst<|wm l) h1).t<|By (o:=.lst []) h2;generalize qk (qk L2 p1<|.lst<|wm l) p2 (.lst [])=L4 at g ⊢;cases l with
  |nil=>
   obtain⟨k0,e0⟩:∃k0,I[0]?=some k0:={_,Ah W.pos};refine gE rfl (qa (g _ _ g2) (qa (g _ _ a3) (qg (v:=aA k0) (show bw (x8 I) 0=some (aA k0) from jh (j:=0) (by unfold x8;rw[Al,e0];rfl)) (qo (g _ _ g2) {big _ (by rw[iJ];lia),?_}))));have n5:=U;exact{(mQ I++[some k0]).y w4,_,_,rfl,(s2.t g).upd ar,(qe n5).t<|g _ _ a4,by rw[q9,<-y_,<-lH];rfl,by rw[ef];exact W.back2 k0,by rw[Ac,Ab,bl];show I.l+1<=120;lia}
  |cons k0 fr=>
   obtain⟨p,e,x,z,ek⟩:=hf<|A9 _ _;exact dg rfl {(mQ I).y w4,_,_,rfl,s2.t g,g _ _ a4,by rw[<-y_];exact g _ _ g2,W.back ek _,by rw[Ac,bl];lia}
 .rintro τ L4 ⟨r,c4,c5,rfl,g,g4,g5,no,lz⟩;refine{R,la,f,rfl,λB hB x hx=>.inr {_,g4,at_ x<|W.T.sr.pl B hB x hx},'s',?_};have h:=q J r (zo<|iT f R) L4 g g5 no lz (by rw[jb,iC];lia) (by rw[x0,mF];lia) (by rw[zh,(cO f R).f,Ac];lia);rw[xh] at h;exact jj h
def gb(I:vh)(J:vh):RD "_law_doubled" gv 2 ["_law_knots","_law_rule","_law_far","_law_cuts","_law_ends","_law_name_here","_law_small","_law_leaves","_law_arms_here","_law_left","_law_right"] (λV=>Ih V I/\La V J):={_,λV B c _ _ _ _ _ _ _ g hN U=>(qb (S_ 3 hN<|I_ (C_ c.1 g<|jz<|qv 1) qc)<|qb (S_ 4 hN<|C_ c.2 g<|vo (qv 0)<|qv 3)<|qb (zc (bC<|vO (E_ U (qj zn (qv 2) qc) qc)<|uC<|xb oA (L_ B.ba<|qv 4) qc<|vz _) (qb (S_ 5 hN<|I_ (J_ 0) qc)<|qb (S_ 6 hN<|qw<|aI qz qc qc)<|qb (S_ 7 hN<|zd<|vo (qw<|vo qz<|qv 5)<|qw<|vo qz<|qv 5)<|qb (zc (xb FJ (qj zn (qv 2) qc) qc<|vz _) (qb (S_ 8 hN<|zd<|vo (qv 6)<|qw<|aI qz qc qc)<|vm (zc (E_ U (qj zn (qj xa (qv 2) qc) qc) qc) (qd<|aU (qv 8) qc<|qw<|aI qz qc<|qv 6) qy)<|vm (zc (E_ U (qj zn (qj xa (qv 2) qc) qc) qc) (qd<|zb<|zK<|qv 8) qy)<|qb (zc (E_ U (qj zn (qj xa (qv 2) qc) qc) qc) (qd<|qt<|qw<|vo (qj ju (qj ju (qv 7)<|qv 7)<|zd<|vo (qw<|aI qz qc qc)<|qw<|aI qz qc qc)<|qw<|jl qz<|aI qc (J_ 8)<|J_ 8) qy)<|qb (zc (E_ U (qj zn (qj xa (qv 2) qc) qc) qc) (qd<|qt<|qw<|vo (qj ju (qj ju (qv 7)<|qv 7)<|zd<|jz<|qw<|aI qz qc qc)<|qw<|jl qz<|aI qc (J_ 8)<|J_ 8) qy)<|qd<|qt<|qw<|vo (qj ju (qv 7)<|qv 7)<|qw<|jl qz<|jl qc<|aI qc (J_ 8)<|J_ 8) qy)<|qb (zc (xb oA (qj zn (qv 2) qc) qc<|vz _) (qd<|qt<|qw<|vo (qv 7)<|qw<|jl qz<|jl (qj zn (qj xa (qv 2) qc) qc)<|aI (qj aG qc<|qj zn (qj xa (qv 2) qc) qc) (qv 6)<|qv 6) qy)<|qd<|qt<|qw<|vo (qj ju (qv 7)<|zd<|jz<|qw<|aI qz qc qc)<|qw<|jl qz<|aI qc (qv 6)<|qv 6) qy)<|qb (S_ 9 hN<|I_ (qv 4)<|qj zn (qj xa (qv 2) qc)<|L_ B.ba<|qv 4)<|qb (S_ 10 hN<|I_ (qv 4)<|qj zn (qj ju (qj xa (qv 2) qc) qc)<|L_ B.ba<|qv 4)<|qd<|qt<|qw<|vo (qj ju (qv 0)<|zd<|jz<|qw<|aI qz (qv 9)<|qv 10)<|qw<|jl qz<|aI (L_ B.ba<|qv 0) (qv 1)<|qv 1)}
def Zn:aa:=(zj (jx (zx aO (a6 0 0)<|ja 1)<|ql 5)
 (zj (jx (vi<|qi (iW "link")<|cg (ja 0)<|ja 1)<|ql 6)
 (zj (jx (aZ<|qi (FO (iW "plain")<|qf 5)<|qi (FO (iW "turned")<|qf 5) zk)<|ql 7)
 (zj (xr (yB<|zx Kq (zx wf (qf 2)<|ja 16)<|ja 7) (zj (jx (aZ<|qi (qf 6)<|qi (vi<|qi (iW "link")<|cg (ja 2)<|ja 3) zk)<|ql 8)
 (i3 (xr (bU (zx wf (zx bz (qf 2)<|ja 32)<|ja 3)<|ja 2) (dX (qf 8) (ja 0)<|vi<|qi (iW "either")<|cg (ja 4)<|qf 6) w5)
 (i3 (xr (bU (zx wf (zx bz (qf 2)<|ja 16)<|ja 2)<|ja 1) (jo<|fg kF (qf 8) zk) w5)
 (zj (xr (bU (zx wf (zx bz (qf 2)<|ja 32)<|ja 3)<|ja 2) (bN<|vi<|qi (zx kU (zx kU (qf 7)<|qf 7)<|aZ<|qi (vi<|qi (iW "either")<|cg (ja 0)<|ja 2)<|qi (vi<|qi (iW "both")<|cg (ja 1)<|ja 3) zk)<|qi (vi<|qi (iW "both")<|qi (ja 5)<|cg (a6 8 0)<|a6 8 1) zk) w5)
 (zj (xr (bU (zx wf (zx bz (qf 2)<|ja 32)<|ja 3)<|ja 0) (bN<|vi<|qi (zx kU (zx kU (qf 7)<|qf 7)<|aZ<|qi (vi<|qi (iW "both")<|cg (ja 0)<|ja 1) zk)<|qi (vi<|qi (iW "both")<|qi (ja 4)<|cg (a6 8 0)<|a6 8 1) zk) w5)
 (bN<|vi<|qi (zx kU (qf 7)<|qf 7)<|qi (vi<|qi (iW "cut")<|qi (ja 0)<|qi (ja 1)<|cg (a6 8 0)<|a6 8 1) zk)))))) w5)
 (zj (xr (yB<|zx H0 (zx wf (qf 2)<|ja 8)<|ja 4) (bN<|vi<|qi (qf 7)<|qi (vi<|qi (iW "cut")<|qi (zx wf (zx bz (qf 2)<|ja 16)<|ja 2)<|qi (zx gL (ja 1)<|zx wf (zx bz (qf 2)<|ja 16)<|ja 2)<|cg (qf 6)<|qf 6) zk) w5)
 (bN<|vi<|qi (zx kU (qf 7)<|aZ<|qi (vi<|qi (iW "both")<|cg (ja 0)<|ja 1) zk)<|qi (vi<|qi (iW "both")<|qi (ja 2)<|cg (qf 6)<|qf 6) zk))))))
def o4{X:Rz}(h:¬(ze X).c):¬gf zs X:=λs=>by obtain⟨_,_,I,R,_,rfl,o,_⟩:=s;exact h<|o.nodup_iff.mpr<|ym I
def yj{B:Ru}(I:B∈ko R)(h:¬s_ (rV wd) B):¬gf (wd.y w4) (zo R):=λs=>h<|s.tk I
def iV(n:Str):List (GT):=[some<|.lf false n,some<|.lf true n]
abbrev yz:Ru:=.link 0 1
abbrev k_:Ru:=.link 2 3
def bD.leaf0{E:aah}(W:bD ks R E):∃t n,ks[0]?=some (.lf t n):=by have h:=W.pos;have e:=Ah h;generalize ks[0]'h=k at e;cases k with|lf t n=>exact{(t),n,e}|nd b i j=>have:=(W.knW 0 0 b i j<|xg.mpr e).1;exact absurd this<|EL _
inductive fO(ys:_T)(L:qm)(Q:YK):Prop
 |mk:∀a,∀ks:On,∀R:Ru,∀E:aah,∀far:Int,(ys=[.ref a,qx R,.int far])->(L a=⇑(x8 ks))->(bD ks R E)->(MO L Q)->fO ys L Q
theorem yu:_f fO (gb cQ oD).1 11:=by
 rintro ys L Q ⟨a,I,R,E,U,rfl,ha,W,q⟩;have big:∀m:Nat,m<=100000->m<sizeLine:=λm h=>Bz h ∅;have kl:=W.T.len;have zl:(x8 I).l=I.l:=Ac ..;have rd:=kh R;have rz:=aS R;have tl:=W.tp.f;rw[Bm] at tl;refine{R,rfl,W.T.small,λla ca ta lk ct ba L1 s1 _ _ _ gl gc gt pl pc hv=>?_};have cl:ct.l<=1000:=by have:=pc.f;have:=a7 R;lia
 refine{a,ca,ae I 0,ct,rfl,by rw[kY];exact s1 _ _ ha,gc,by rw[xm];lia,cl,λp hp=>?_};have el:∀x∈cI (ae I 0) (bR (ae I 0) ct) (ae I 0).l,x<I.l:=λx hx=>by have:=Bg.j (AW.j hx).1;rwa[xm] at this
 have e1:(cI (ae I 0) (bR (ae I 0) ct) (ae I 0).l).l<=I.l:=by exact AQ (CV _ _) ([Bm,xm]≈Ap _)
 generalize cI (ae I 0) (bR (ae I 0) ct) (ae I 0).l=es at el e1 hp ⊢;refine wW hp λL2 s2 gp=>?_;have s2:=s1.t s2;have ga:=s2 _ _ ha;obtain⟨t0,nm,e0⟩:=W.leaf0;have A:∀D:v5,D.rt=aR Q->Zn D [↑a,some<|qx R,some<|.int U,↑ca,↑p,none,none,none,none,none,none] L2:=λD eD=>by
  refine qa ga (qg (v:=aA<|.lf t0 nm) (show bw (x8 I) 0=_ from jh (j:=0) (by unfold x8;rw[Al,e0];rfl)) ?_);intro lv au;have s3:=s2.t<|By (o:=.lst<|dO<|(iV nm).y w4) au;have g3:qk L2 lv (.lst<|dO<|(iV nm).y w4) lv=⇑(dO<|(iV nm).y w4):=q9;have ac:qk L2 lv (.lst<|dO<|(iV nm).y w4)=qk L2 lv (.lst [.tup [.str "plain",.str nm],.tup [.str "turned",.str nm]]):=rfl;rw[<-ac];generalize qk L2 lv (.lst<|dO<|(iV nm).y w4)=r at s3 g3 ⊢;refine{(∅:(0:Int)<16),qr (λc1=>?_) λc1=>?_}
  .intro ar a3;have a4:=ku g3 a3;have s4:=s3.t<|By (o:=.lst [qx yz,qx k_]) a3;have al:=s3.none a3;have g4:=(qe (o:=.lst [qx yz,qx k_]) a4).t g3;have h4:qk r ar (.lst [qx yz,qx k_]) ar=⇑[qx yz,qx k_]:=q9;have e4:qk r ar (.lst [qx yz,qx k_])=qk r ar (.lst [.tup [.str "link",.int 0,.int 1],.tup [.str "link",.int 2,.int 3]]):=rfl;rw[<-e4];generalize qk r ar (.lst [qx yz,qx k_])=L4 at s4 g4 h4 ⊢;obtain⟨B1,J⟩:∃B1:Ru,B1=if U / 32 % 3=2 then .ei 4 yz else yz:={_,rfl}
   let St:jm->qm->Prop:=λτ L'=>τ=[↑a,some<|qx R,some<|.int U,↑ca,↑p,some<|.str nm,some<|qx yz,↑lv,↑ar,none,none]/\qh L L'/\L' lv=⇑(dO<|(iV nm).y w4)
   refine{λτ L'=>St τ L'/\L' ar=⇑[qx B1,qx k_],{{∅,∅},(∅:(0:Int)<3),qr (λc=>?_) λc=>?_},?_}
   .rw[AF c] at J;refine qo h4 ?_;refine{{rfl,s4.upd al,(qe a4).t g4},?_};rw[J];exact q9
   .rw[Az c] at J;rw[J];exact{{(rfl),s4,g4},h4}
   rintro τ L5 ⟨⟨rfl,s5,g5⟩,h5⟩;refine{λτ L'=>St τ L'/\∃x y:Ru,L' ar=⇑[qx x,qx y]/\((x=B1/\y=k_)\/(x=k_/\y=B1)),{{∅,∅},(∅:(0:Int)<2),qr (λc=>?_) λc=>{{(rfl),s5,g5},_,_,h5,.inl {(rfl),rfl}}},?_}
   .refine qa h5<|qo h5 ?_;exact{{rfl,s5.upd al,(qe a4).t g5},k_,B1,q9,.inr {(rfl),rfl}}
   rintro τ C ⟨⟨rfl,s6,g6⟩,x,y,h6,a5⟩;have en:∀z:Nat,je (zo<|.bo z x y)=.tup [.str "both",.int (z:Int),qx x,qx y]:=λz=>fM _ x y;have ec:je (zo<|.cu 0 1 x y)=.tup [.str "cut",.int (0)⁻¹,.int (1)⁻¹,qx x,qx y]:=oG _ _ x y;have sz:∀z:Nat,jn (zo<|.bo z x y)<=120/\ky (zo<|.bo z x y)<=1000/\(ze<|zo<|.bo z x y).l<=1000/\jn (zo<|.cu 0 1 x y)<=120/\ky (zo<|.cu 0 1 x y)<=1000/\(ze<|zo<|.cu 0 1 x y).l<=1000:=λz=>by rcases a5 with⟨rfl,rfl⟩|⟨rfl,rfl⟩<;>(rw[J];split<;>exact{Ar rfl,Ar rfl,Ar rfl,Ar rfl,Ar rfl,Ar rfl})
   have two:∀g L7,C g=none->L7=qk C g (.lst<|dO<|(iV nm++iV nm).y w4)->qh C L7/\L7 g=⇑(dO<|(iV nm++iV nm).y w4):=λg L7 h e=>by rw[e];exact{By h,q9}
   refine{{∅,∅},(∅:(0:Int)<3),qr (λc=>?_) λc=>?_}
   .rw[AF c] at J;refine{_,_,g6,g6,Ar rfl,λg h1=>?_};obtain⟨l,g7⟩:=two g _ h1 rfl;show aZ _ _ (qk C g<|.lst<|dO<|(iV nm++iV nm).y w4) _;generalize qk C g (.lst<|dO<|(iV nm++iV nm).y w4)=L7 at l g7 ⊢;intro p2 h2;refine{_,_,(By h2) _ _ g7,q9,Ar rfl,λp3 h3=>?_};have s9:=(By h2).t<|By (o:=.lst<|dO<|(iV nm++iV nm++[some<|Kn.nd true 0 2,some<|Kn.nd false 1 3]).y w4) h3;have s8:=(s6.t l).t s9;have h8:=s9 _ _<|l _ _ h6;refine qa h8<|qa h8 ?_;rw[eD];have z:=q p3 ((iV nm++iV nm++[some<|Kn.nd true 0 2,some<|Kn.nd false 1 3]).y w4) (zo<|.bo 5 x y) _ s8 q9 (yj (B:=.ei 4 yz) ?_ λt=>?_) (Ar rfl) (sz 5).1 (sz 5).2.1 (sz 5).2.2.1
    .rw[en] at z;exact jj z
    .rcases a5 with⟨rfl,rfl⟩|⟨rfl,rfl⟩
     .rw[J];exact Ae _<|An _<|Ag ..
     .rw[J];exact Ae _<|Ai _<|Ag ..
    .exact absurd (t (yz,[0,2]) (Ag ..) 2<|Ae _<|Ag ..) (by show ¬2∈[0,1];decide)
   rw[Az c] at J;subst J;have bad:∀(wd:List<|GT) (B:Ru),B∈ko B->(jd B).zip (ag (rV wd) B)=[(x,[0]),(y,[1])]->¬s_ (rV wd) B:=λwd B _ e t=>by
    rcases a5 with⟨rfl,rfl⟩|⟨rfl,rfl⟩
    .exact absurd (t (k_,[1]) ([e]≈(Ae _<|Ag ..)) 1<|Ag ..) (by show ¬1∈[2,3];decide)
    .exact absurd (t (k_,[0]) ([e]≈Ag ..) 0<|Ag ..) (by show ¬0∈[2,3];decide)
   refine{{∅,∅},(∅:(0:Int)<3),qr (λc=>?_) λc=>?_}
   .refine{_,_,g6,g6,Ar rfl,λg h1=>?_};obtain⟨l,g7⟩:=two g _ h1 rfl;show aZ _ _ (qk C g<|.lst<|dO<|(iV nm++iV nm).y w4) _;generalize qk C g (.lst<|dO<|(iV nm++iV nm).y w4)=L7 at l g7 ⊢;intro p2 h2;refine{_,_,(By h2) _ _ g7,q9,Ar rfl,λp3 h3=>?_};have s9:=(By h2).t<|By (o:=.lst<|dO<|(iV nm++iV nm++[some<|Kn.nd false 0 1]).y w4) h3;have s8:=(s6.t l).t s9;have h8:=s9 _ _<|l _ _ h6;refine qa h8<|qa h8 ?_;rw[eD];have z:=q p3 ((iV nm++iV nm++[some<|Kn.nd false 0 1]).y w4) (zo<|.bo 4 x y) _ s8 q9 (yj (aj _)<|bad _ _ (aj _) rfl) (Ar rfl) (sz 4).1 (sz 4).2.1 (sz 4).2.2.1;rw[en] at z;exact jj z
   .refine{_,_,g6,g6,Ar rfl,λg h1=>?_};obtain⟨l,g7⟩:=two g _ h1 rfl;show qi _ _ _ (qk C g<|.lst<|dO<|(iV nm++iV nm).y w4) _;generalize qk C g (.lst<|dO<|(iV nm++iV nm).y w4)=L7 at l g7 ⊢;refine qa (l _ _ h6)<|qa (l _ _ h6) ?_;rw[eD];have z:=q g ((iV nm++iV nm).y w4) (zo<|.cu 0 1 x y) _ (s6.t l) g7 (yj (aj _)<|bad _ _ (aj _) rfl) (Ar rfl) (sz 0).2.2.2.1 (sz 0).2.2.2.2.1 (sz 0).2.2.2.2.2;rw[ec] at z;exact jj z
  .refine{(∅:(0:Int)<8),qr (λc2=>?_) λc2=>?_}
   .refine{{∅,∅},(∅:(0:Int)<2),{∅,∅},(∅:(0:Int)<2),?_};rw[eD];exact jj (q lv _ (.cu (U / 16 % 2) (1-U / 16 % 2) (zo yz)<|zo yz) r s3 g3 (o4 (by show ¬List.Nodup [(0:Int),1,0,1];decide)) (Ar rfl) (Ar rfl) (Ar rfl)<|Ar rfl)
   .intro p2 h2;refine{_,_,(By h2) _ _ g3,q9,Ar rfl,λp3 h3=>?_};rw[eD];exact jj<|q p3 ((iV nm++[some<|Kn.nd false 0 1]).y w4) (zo<|.bo 2 yz yz) _ ((s3.t<|By h2).t<|By h3) q9 (o4 ∅) (Ar rfl) (Ar rfl) (Ar rfl)<|Ar rfl
 refine{(∅:(0:Int)<4),qr (λc=>A _ rfl) λc=>qa gp<|qr (λc=>A _ rfl) λc=>?_};have ne:0<es.l:=by have c:=c;rw[we] at c;lia
 have hz:(0:Int)<((nY es).l)⁻¹:=by rw[we];lia
 obtain⟨m,x,em,lm,ex⟩:=dm ne<|U / 4;obtain⟨m',x',av,bb,aL⟩:=dm ne<|U / 4+1;have a1:bw (nY es) (U / 4 % ((nY es).l)⁻¹)=some (.int (x:Int)):=by rw[we,em];exact jh (by unfold nY;rw[Al,ex];rfl)
 have a2:bw (nY es) ((U / 4+1) % ((nY es).l)⁻¹)=some (.int (x':Int)):=by rw[we,av];exact jh (by unfold nY;rw[Al,aL];rfl)
 refine{{∅,∅},qa gp {hz,qa gp<|qg a1 ?_}};refine{{∅,∅},qa gp {hz,qa gp<|qg a2 ?_}};intro p2 h2;refine{_,_,(By h2) _ _ ga,q9,Br (big _ (by rw[zl];show I.l+1<=100000;lia)),λp3 h3=>?_};have s9:=(By h2).t<|By (o:=.lst<|dO<|(ae I 0++[some<|Kn.nd false x x']).y w4) h3;rw[jP] at s9;refine qa (s9 _ _ ga) ?_;have z:=q p3 ((ae I 0++[some<|Kn.nd false x x']).y w4) (.bo I.l⁻¹ (zo R)<|zo R) _ (s2.t s9) ([jP]≈q9) (o4 λh=>pL R<|pW (CN _) (AA.j h).2) (by rw[Ac,Ab,xm];show I.l+1<=120;lia) (by show max (jn<|zo R) (jn<|zo R)+1<=120;rw[jb];lia) (by rw[dT,x0];lia) (by show(ze (zo R)++ze (zo R)).l+1<=1000;rw[Ab,zh];lia);rw[fM] at z;have e:((x8 I).l)⁻¹=I.l⁻¹:=by rw[zl]
 rw[<-e] at z;exact jj z
def iU(I:vh)(p1:vh)(p2:vh)(p3:vh)(p4:vh):aa:=(zj (sN 6<|jx (h_ 1 (bx<|aV<|gC 0) (ql 7) (bU (sJ sD<|qi (zx aO (qf 0)<|qf 7) zk)<|ja 2)<|qf 7)<|ql 4)
 (zj (sN 6<|jx (h_ 1 (bx<|aV<|gC 0) (ql 7) (bU (sJ sD<|qi (zx aO (qf 0)<|qf 7) zk)<|ja 3)<|qf 7)<|ql 5)
 (xr (bU (qf 2)<|ja 4) (dX (qf 0) (zx wf (qf 3)<|gC 0)<|yC .GM) (xr (bU (qf 2)<|ja 5) (zj (jx (zx aO (qf 4)<|zx wf (qf 3)<|gC 4)<|ql 6)
 (dX (qf 0) (qf 6)<|jg I<|qi (zx aO (qf 0)<|qf 6)<|qi (zx bz (qf 3)<|ja 7) zk)) (xr (iY (bU (qf 2)<|ja 6)<|A' (qf 5)<|aZ zk) (zj (jx (zx aO (qf 5)<|zx wf (qf 3)<|gC 5)<|ql 6)
 (dX (qf 0) (qf 6)<|vi<|qi (Kw [("both","either"),("either","both")]<|zx aO (zx aO (qf 0)<|qf 6)<|ja 0)<|qi (zx aO (zx aO (qf 0)<|qf 6)<|ja 1)<|qi (zx aO (zx aO (qf 0)<|qf 6)<|ja 2) zk)) (xr (iY (bU (qf 2)<|ja 7)<|A' (qf 5)<|aZ zk) (zj (jx (zx aO (qf 5)<|zx wf (qf 3)<|gC 5)<|ql 6)
 (dX (qf 0) (qf 6)<|jg p1<|qi (zx aO (qf 0)<|qf 6)<|qi (qf 6)<|qi (zx bz (qf 3)<|ja 7) zk))<|xr (iY (bU (qf 2)<|ja 9)<|A' (zx aO (jg p2<|aV<|qf 1)<|ja 1)<|aZ zk) (jo<|jg p3<|qi (qf 0)<|cg (qf 1)<|qf 3)<|xr (bU (qf 2)<|ja 12) (jo<|jg p4<|qi (qf 0)<|qi (zx aO (jg p2<|aV<|qf 1)<|ja 1)<|aV<|qf 3)<|xr (iY (bU (qf 2)<|ja 10)<|bU (zx wf (qf 3)<|ja 2)<|ja 0) (jo<|fg i9 (qf 0) zk)<|xr (bU (qf 2)<|ja 10) (gA (bx<|aV<|gC 0) (ql 6)<|dX (qf 0) (qf 6)<|yC .GM)<|jo<|fg xp (qf 0)<|qi (vi<|qi (iW "plain")<|qi (zx aO (zx aO (qf 0)<|a6 4 0)<|ja 1) zk) zk))))))
def Zo(I:vh)(p1:vh)(p2:vh)(p3:vh):aa:=(xr (iY (bU (qf 2)<|ja 7)<|A' (qf 5)<|aZ zk) (zj (jx (zx aO (qf 5)<|zx wf (qf 3)<|gC 5)<|ql 6)
 (dX (qf 0) (qf 6)<|jg I<|qi (zx aO (qf 0)<|qf 6)<|qi (qf 6)<|qi (zx bz (qf 3)<|ja 7) zk))<|xr (iY (bU (qf 2)<|ja 9)<|A' (zx aO (jg p1<|aV<|qf 1)<|ja 1)<|aZ zk) (jo<|jg p2<|qi (qf 0)<|cg (qf 1)<|qf 3)<|xr (bU (qf 2)<|ja 12) (jo<|jg p3<|qi (qf 0)<|qi (zx aO (jg p1<|aV<|qf 1)<|ja 1)<|aV<|qf 3)<|xr (iY (bU (qf 2)<|ja 10)<|bU (zx wf (qf 3)<|ja 2)<|ja 0) (jo<|fg i9 (qf 0) zk)<|xr (bU (qf 2)<|ja 10) (gA (bx<|aV<|gC 0) (ql 6)<|dX (qf 0) (qf 6)<|yC .GM)<|jo<|fg xp (qf 0)<|qi (vi<|qi (iW "plain")<|qi (zx aO (zx aO (qf 0)<|a6 4 0)<|ja 1) zk) zk)
def Zp(I:vh)(p1:vh)(p2:vh):aa:=(xr (iY (bU (qf 2)<|ja 9)<|A' (zx aO (jg I<|aV<|qf 1)<|ja 1)<|aZ zk) (jo<|jg p1<|qi (qf 0)<|cg (qf 1)<|qf 3)<|xr (bU (qf 2)<|ja 12) (jo<|jg p2<|qi (qf 0)<|qi (zx aO (jg I<|aV<|qf 1)<|ja 1)<|aV<|qf 3)<|xr (iY (bU (qf 2)<|ja 10)<|bU (zx wf (qf 3)<|ja 2)<|ja 0) (jo<|fg i9 (qf 0) zk)<|xr (bU (qf 2)<|ja 10) (gA (bx<|aV<|gC 0) (ql 6)<|dX (qf 0) (qf 6)<|yC .GM)<|jo<|fg xp (qf 0)<|qi (vi<|qi (iW "plain")<|qi (zx aO (zx aO (qf 0)<|a6 4 0)<|ja 1) zk) zk)
def Zq(I:vh)(p1:vh):aa:=(xr (bU (qf 2)<|ja 12) (jo<|jg I<|qi (qf 0)<|qi (zx aO (jg p1<|aV<|qf 1)<|ja 1)<|aV<|qf 3)<|xr (iY (bU (qf 2)<|ja 10)<|bU (zx wf (qf 3)<|ja 2)<|ja 0) (jo<|fg i9 (qf 0) zk)<|xr (bU (qf 2)<|ja 10) (gA (bx<|aV<|gC 0) (ql 6)<|dX (qf 0) (qf 6)<|yC .GM)<|jo<|fg xp (qf 0)<|qi (vi<|qi (iW "plain")<|qi (zx aO (zx aO (qf 0)<|a6 4 0)<|ja 1) zk) zk)
def Zr:aa:=(xr (bU (qf 2)<|ja 10) (gA (bx<|aV<|gC 0) (ql 6)<|dX (qf 0) (qf 6)<|yC .GM)<|jo<|fg xp (qf 0)<|qi (vi<|qi (iW "plain")<|qi (zx aO (zx aO (qf 0)<|a6 4 0)<|ja 1) zk) zk)
def Zs:aa:=(jo<|fg xp (qf 0)<|qi (vi<|qi (iW "plain")<|qi (zx aO (zx aO (qf 0)<|a6 4 0)<|ja 1) zk) zk)
inductive uP(ys:_T)(L:qm)(Q:YK):Prop
 |mk:∀a,∀way far:Int,∀ks:On,∀R:Ru,∀E:aah,(ys=[.ref a,qx R,.int way,.int far])->(L a=⇑(x8 ks))->(bD ks R E)->(∀L' zs,Kp a L L'->L' a=⇑(dO zs)->¬gf zs (zo R)->zs.length<=ks.l+1->Q .GM L')->uP ys L Q
def xE{r:Addr}{l:aah}{Q:YK}(h:L r=⇑(nY l))(q:∀b L',(b=true↔l≠[])->qh L L'->Q (.bl b) L'):∀p,L p=none->f_ true (.ref r) (.ref p) (qk L p<|.lst []) Q:=λp I=>by refine aq (n:=0) (m:=0) ∅ (By I _ _ h) q9 ([oC]≈tL _) (.nil:Paired (j6 _ 0) _ []) ?_;refine q _ _ ?_<|By I;cases l with|nil=>exact{nofun,λh=>(h rfl).r}|cons x r=>exact{λ_=>nofun,λ_=>rfl}
theorem Zt:_f uP (iU oI lD cQ cW bF) 7:=by
 rintro ys L Q ⟨a,a3,a2,J,R,E,rfl,ha,W,q⟩;have big:∀m:Nat,m<=100000->m<sizeLine:=λm h=>Bz h ∅;have kl:=W.T.len;have pos:=W.pos;have zl:(x8 J).l=J.l:=Ac ..;have gen:∀(b:Nat) (I:Nat->_T->Prop),True:=λ_ _=>trivial;refine qa ha {{Bb _,by rw[zl];lia},?_};rw[zl,Bx];refine lO (λi us=>i<=J.l/\∃l:aah,us=nY l/\(∀p∈l,∃t n,J[p]?=some (.lf t n))/\(0<i->l≠[])/\l.l<=i) (big _ 's') {A7 _,[],rfl,nofun,λh=>absurd h<|Cs 0,Ap _} ?_ ?_
 .rintro i us hi ⟨_,l,rfl,hl,hn,lz⟩;have C:=Ah hi;refine qa ha (qg (v:=aA J[i]) ([BW]≈j7 C) ?_);generalize J[i]=kn at C;cases kn with
  |lf t n=>
   refine{_,ET _,rfl,hi,l++[i],by rw[hG];exact A8 (λv:Int=>nY l++[Y.int v])<|BW _,λp hp=>?_,λ_=>'r',by rw[Ab];exact DG lz};obtain hp|hp:=Am.j hp
   .exact hl p hp
   .rw[Ak.j hp];exact{(t),n,C}
  |nd e x z=>
   refine{_,ET _,rfl,hi,l,rfl,hl,λ_=>?_,'s'};cases i with
   |zero=>obtain⟨t,n,e0⟩:=W.leaf0;rw[C] at e0;cases e0
   |succ i=>exact hn<|BZ _
 rintro us ⟨_,lf,rfl,bb,ac,lz⟩ ll bg;have ac:=ac pos;refine wW bg λL1 s1 g1=>?_;refine qa (s1 _ _ ha) {{Bb _,by rw[zl];lia},?_};rw[zl,Bx];refine lO (λi us=>i<=J.l/\∃l:aah,us=nY l/\(∀p∈l,∃e x z,J[p]?=some (Kn.nd e x z))) (big _ 's') {A7 _,[],rfl,nofun} ?_ ?_
 .rintro i us hi ⟨_,l,rfl,hl⟩;have C:=Ah hi;refine qa (s1 _ _ ha) (qg (v:=aA J[i]) ([BW]≈j7 C) ?_);generalize J[i]=kn at C;cases kn with
  |lf t n=>exact{_,ET _,rfl,hi,l,rfl,hl}
  |nd e x z=>
   refine{_,ET _,rfl,hi,l++[i],by rw[hG];exact A8 (λv:Int=>nY l++[Y.int v])<|BW _,λp hp=>?_};obtain hp|hp:=Am.j hp
   .exact hl p hp
   .rw[Ak.j hp];exact{(e),x,z,C}
 rintro us ⟨_,a4,rfl,bh⟩ il bc;have s2:=s1.t<|By (o:=.lst<|nY a4) bc;have g2:=By (o:=.lst<|nY a4) bc _ _ g1;have h2:qk L1 il (.lst<|nY a4) il=⇑(nY a4):=q9;generalize qk L1 il (.lst<|nY a4)=L2 at s2 g2 h2 ⊢;have stop:∀(U:qm) (zs:List<|_q) (Le:qm),qh L U->Le=qk U a (.lst<|dO zs)->¬gf zs (zo R)->zs.length<=J.l+1->aR Q .GM Le:=λU zs Le s e n l=>jj (q Le zs (λb o hb h=>by rw[e,qe hb];exact s b o h) (by rw[e,q9]) n l);have ln:∀(p:Nat) (k:GT),(((ae J 0).O p k).y w4).l<=J.l+1:=λp k=>by rw[Ac,Bq,xm];lia
 have hz:(0:Int)<((x8 J).l)⁻¹:=by rw[zl];lia
 have sz:∀(p:Nat) (k:_q),((x8 J).O p<|yn k)=dO (((ae J 0).y w4).O p k):=λp k=>by rw[<-Hb];exact DB.L
 have a5:∀{l:aah},l≠[]->∀f:Int,∃p∈l,(0:Int)<((nY l).l)⁻¹/\bw (nY l) (f % ((nY l).l)⁻¹)=some (.int p⁻¹):=λ{l} hl f=>by obtain⟨m,x,em,lm,ex⟩:=dm (List.length_pos_iff.mpr hl) f;exact{x,AD ex,by rw[we];lia,by rw[we,em];exact jh (by unfold nY;rw[Al,ex];rfl)}
 have al:∀(D:v5) (c6:_C) (U:qm),qh L2 U->(∀τ U,D.nx τ U=aR Q .GM U)->Zq bF cQ D [↑a,some<|qx R,some<|.int a3,some<|.int a2,↑ll,↑il,c6] U:=λD c6 U s eD=>by
  have sA:=s2.t s;have ga:=sA _ _ ha;have gl:=s _ _ g2;have aL:∀(τ:jm) (zs:List<|_q) (Le:qm),Le=qk U a (.lst<|dO zs)->¬gf zs (zo R)->zs.length<=J.l+1->D.nx τ Le:=λτ zs Le e n l=>by rw[eD];exact stop U zs Le sA e n l
  have app:Zs D [↑a,some<|qx R,some<|.int a3,some<|.int a2,↑ll,↑il,c6] U:=by obtain⟨x,r,er⟩:=C0 ac;obtain⟨t,n,C⟩:=bb x ([er]≈Ag ..);refine qa ga (qa gl (qg (v:=.int x⁻¹) ([er]≈jh (j:=0) rfl) (qa ga (qg (j7 C) (qo ga {big _ (by rw[zl];lia),?_})))));exact aL _ ((ae J 0++[some<|Kn.lf false n]).y w4) _ (by rw[jP];rfl) (W.more _) ([Ac,Ab,xm]≈Ap _)
  have all:Zr D [↑a,some<|qx R,some<|.int a3,some<|.int a2,↑ll,↑il,c6] U:=by
   refine qr (λc=>?_) λc=>app;refine qa ga {{Bb _,by rw[zl];lia},?_};rw[zl,Bx];refine u8 (λi τ Le=>∃(zs:List<|_q) (c6:_C),τ=[↑a,some<|qx R,some<|.int a3,some<|.int a2,↑ll,↑il,c6]/\zs.l=J.l/\(∀j,j<i->zs[j]?=some none)/\Le=qk U a (.lst<|dO zs)) {(ae J 0).y w4,c6,rfl,by rw[Ac,xm,ED],λj h=>absurd h<|EL j,by rw[Hb];exact(Wq ga).L} ?_ ?_
   .rintro i τ Le hi ⟨zs,c6,rfl,lz,ba,rfl⟩;have zz:(dO zs).l=J.l:=by rw[<-lz];exact Ac ..
    refine qo q9 (qg (v:=i) ([zz,BW]≈dU hi) {_,ET _,zs.O i none,_,rfl,by rw[Bq];exact lz,λj hj=>?_,?_})
    .by_cases c:i=j
     .rw[<-c,Bj 's']
     .rw[AX c];exact ba j 's'
    .rw[vn];rw[show dO (zs.O i none)=(dO zs).O i (yn none) from DB ..];rfl
   .rintro τ Le ⟨zs,c6,rfl,lz,ba,rfl⟩;refine aL _ zs _ rfl ?_ 's';have:zs=List.replicate J.l none:=Dw λj=>by
     rw[BY];by_cases c:j<J.l
     .rw[AF c];exact ba j c
     .rw[Az c];exact BC 's'
    rw[this];exact Y2
  refine qr (λc=>?_) λc=>?_
  .refine{R,rfl,W.T.small,λla ca ta lk ct bi L3 s3 _ _ _ _ gc _ _ pc _=>?_};refine{a,ca,a2,J,R,E,ct,rfl,s3 _ _ ga,gc,W,pc,λLe zs k g n l=>?_};rw[eD];exact jj<|q Le zs (λb o hb h=>k b o hb<|s3 _ _<|sA _ _ h) g n l
  .refine qr (λbj=>{(∅:(0:Int)<2),qr (λce=>?_) λce=>all}) λbj=>all;refine qa ga<|qo ga ?_;exact aL _ [] _ rfl Y1<|A7 _
 have ar:∀(D:v5) (c6:_C) (U:qm),qh L2 U->(∀τ U,D.nx τ U=aR Q .GM U)->Zp cQ cW bF D [↑a,some<|qx R,some<|.int a3,some<|.int a2,↑ll,↑il,c6] U:=λD c6 U s eD=>by
  refine qr (λc=>?_) λc=>al D c6 U s eD;refine{R,rfl,W.T.small,λla ca ta lk ct bi L3 s3 _ _ _ _ gc _ _ pc _=>?_};intro p hp;refine aq (n:=1) (m:=0) ∅ (By hp _ _ gc) q9 (oy ct) (.nil:Paired (j6 _ 0) _ []) ?_;have s5:=(s.t s3).t<|By (o:=.lst []) hp;generalize qk L3 p (.lst [])=L5 at s5 ⊢;cases ct with
  |nil=>exact dg rfl<|al D c6 L5 s5 eD
  |cons d ct=>
   have sA:=s2.t s5;refine gE rfl {a,a2,J,R,E,rfl,sA _ _ ha,W,(λz=>by rw[z] at pc;cases List.Perm.eq_nil pc),λLe zs k g n l=>?_};rw[eD];exact jj<|q Le zs (λb o hb h=>k b o hb<|sA _ _ h) g n l
 have au:∀{p:Nat},p∈a4->∃e x z,J[p]?=some (Kn.nd e x z):=λ{p} h=>bh p h;have av:∀(p:Nat) (k:GT),((ae J 0).y w4).O p (w4 k)=((ae J 0).O p k).y w4:=λp k=>DB.symm;have bd:∀(p:Nat) (k:_q),(((ae J 0).y w4).O p k).l<=J.l+1:=λp k=>by rw[Bq,Ac,xm];lia
 have bf:∀(D:v5) (c6:_C) (U:qm),qh L2 U->(∀τ U,D.nx τ U=aR Q .GM U)->Zo lD cQ cW bF D [↑a,some<|qx R,some<|.int a3,some<|.int a2,↑ll,↑il,c6] U:=λD c6 U s eD=>by
  refine qr (λc=>?_) λc=>ar D c6 U s eD;refine xE (s _ _ h2) λb L5 hb s5=>?_;have s5:=s.t s5;cases b with
  |false=>exact ar D c6 L5 s5 eD
  |true=>
   obtain⟨p,hp,pz,a1⟩:=a5 (hb.j rfl) a2;obtain⟨e,x,z,C⟩:=au hp;have sA:=s2.t s5;have ga:=sA _ _ ha;have h5:=s5 _ _ h2;refine qa h5 {pz,qa h5<|qg a1 ?_};refine qa ga<|qg (j7 C) {{∅,∅},e,x,z,p,_,rfl,λk hk=>?_};refine qo ga (qg (dU ([zl]≈zy C)) ?_);rw[eD];refine stop L5 _ _ sA (by rw[sz p<|some k]) ?_<|bd p<|some k;have hl:p<((ae J 0).y w4).l:=by rw[Ac,xm];exact AL (zy C)<|Bd ..
   rcases hk with⟨rfl,rfl⟩|rfl|⟨o,i',j',ho,bn,rfl⟩
   .rw[show some (Kz.nd false (z:Int) (x:Int))=w4 (some<|Kn.nd false z x) from rfl,av];exact W.swp C
   .exact asg hl
   .exact Y0 hl ho bn
 have ga:=s2 _ _ ha;refine qr (λc4=>?_) λc4=>?_
 .obtain⟨m,x,em,lm,ex⟩:=dm pos a2;have e1:a2 % ((x8 J).l)⁻¹=m⁻¹:=by rw[zl];exact em
  refine qa ga {hz,qo ga (qg (v:=m) ([e1,zl]≈dU lm) ?_)};exact stop L2 _ _ s2 (by rw[oH J m none];rfl) (W.gone lm)<|ln m none
 refine qr (λc5=>?_) λc5=>?_
 .obtain⟨p,hp,pz,a1⟩:=a5 ac a2;obtain⟨t,n,C⟩:=bb p hp;refine qa g2 {pz,qa g2<|qg a1 ?_};refine qa ga<|qg (j7 C) {{∅,∅},t,n,_,rfl,W.T.ok _ _ C,λt' n' hn=>?_};refine qo ga (qg (dU ([zl]≈zy C)) ?_);refine stop L2 _ _ s2 (by rw[sz p<|some<|.lf t' n']) ?_<|bd p _;rw[show some (Kz.lf t' n')=w4 (some<|Kn.lf t' n') from rfl,av];exact W.leaf C hn
 refine qr (λc6=>?_) λc6=>bf _ _ L2 (ET _) λ_ _=>rfl;refine xE h2 λb L5 hb s5=>?_;cases b with
 |false=>exact bf _ _ L5 s5 λ_ _=>rfl
 |true=>
  obtain⟨p,hp,pz,a1⟩:=a5 (hb.j rfl) a2;obtain⟨e,x,z,C⟩:=au hp;have sA:=s2.t s5;have ga:=sA _ _ ha;have h5:=s5 _ _ h2;refine qa h5 {pz,qa h5<|qg a1 ?_};have go:aR Q .GM (qk L5 a<|.lst<|(x8 J).O p<|aA<|.nd (!e) x z):=stop L5 _ _ sA (by rw[oH J p<|some<|.nd (!e) x z];rfl) (W.kind C)<|ln p _;have ix:vB (x8 J).l p⁻¹=some p:=dU ([zl]≈zy C);cases e with
  |false=>exact qa ga<|qg (j7 C)<|qa ga<|qg (j7 C)<|qa ga<|qg (j7 C)<|qo ga<|qg ix go
  |true=>exact qa ga<|qg (j7 C)<|qa ga<|qg (j7 C)<|qa ga<|qg (j7 C)<|qo ga<|qg ix go
def Zu(K:Aj)(I:Addr)(J:Addr)(U:Addr)(g:Addr)(j:Addr)(l:Addr)(Ch:Addr)(o:Addr)(Cl:Addr)(p:Addr)(r:Addr)(t:fH):aa:=(zj (jx (yC .GM)<|ql 2)
 (zj (jx (sJ jL<|aV<|qf 0)<|ql 3)
 (zj (Li K I 4 (λE3=>jo<|ay t E3<|qi (FO (qf 3)<|qf 1) zk)<|jx (qf 4)<|ql 2)
 (zj (xr (HM (Gb<|yB<|yo K (.ref J)<|qf 2)<|HM (Gb<|yB<|yo K (.type "ValueError")<|qf 2)<|A' (qf 3)<|qf 0) (bN<|yC<|.bl false) w5)
 (zj (xr (yB<|u9 K [(.ref U),(.ref g),(.ref j),(.ref l)]<|qf 2) (bN<|yC<|.bl false) w5)
 (bN<|J7<|u9 K [(.ref Ch),(.ref o),(.ref Cl),(.ref p),(.ref r)]<|qf 2))))))
def Zv(I:vh)(p1:vh)(p2:vh)(p3:vh)(p4:vh)(p5:vh)(p6:fH):aa:=(zj (jx (zx wf (zx aO (zx Io (qf 0)<|aZ<|aV<|ja 0)<|ja 0)<|zx HZ (ja 10)<|ja 9)<|ql 1)
 (zj (jx (zx wf (zx aO (zx Io (qf 0)<|aZ<|cg (ja 0)<|ja 0)<|ja 1)<|ja 2147483647)<|ql 2)
 (zj (jx (jg I<|qi (Ge KI (qf 0) (yO<|ja 2) kI)<|cg (qf 1)<|ja 84)<|dY 2<|jy (ql 3)<|jy (ql 4) cK)
 (zj (jx (zx wf (zx Ko (qf 2)<|ja 16807)<|ja 2147483647)<|ql 5)
 (zj (jx (zx gL (zx wf (qf 5)<|zx kU (gC 3)<|ja 6)<|ja 3)<|ql 6)
 (i3 (xr (bU (zx wf (zx bz (qf 5)<|ja 1009)<|ja 5)<|ja 0) (jx (zx kU (Kv (qi (zx HZ (ja 10)<|ja 30)<|qi (Fo Fp<|zx HZ (ja 10)<|ja 30) zk)<|zx wf (zx bz (qf 5)<|ja 7919)<|ja 2)<|qf 5)<|ql 6) w5)
 (zj (jx (zx wf (qf 2)<|ja 14)<|ql 7)
 (zj (jx (sJ jL<|aV<|qf 3)<|ql 8)
 (zj (jx (qf 4)<|ql 9)
 (i3 (xr (bU (qf 7)<|ja 11) (jx (jg p1<|qi (qf 8)<|qi (qf 4)<|qi (zx bz (qf 2)<|ja 14) zk)<|dY 2<|jy (ql 8)<|jy (ql 9) cK)<|xr (bU (qf 7)<|ja 13) (jx (jg p2<|cg (qf 8)<|qf 4)<|dY 2<|jy (ql 8)<|jy (ql 9) cK)<|xr (yB<|zx H0 (qf 7)<|ja 4) (jx (jg p3<|qi (qf 4)<|qi (zx wf (zx Ko (qf 5)<|ja 48271)<|ja 2147483647)<|cg (qf 7)<|qf 6)<|ql 9)<|jo<|jg p4<|qi (qf 8)<|qi (qf 4)<|qi (qf 7)<|qi (sJ Gn<|aV<|qf 6) zk)
 (zj (xr (Gb<|yB<|jg p5<|cg (qf 8)<|qf 9) (bN<|yC<|.bl false) w5)
 (zj (xr (yB<|zx (FU true) (ay p6 Ii<|qi (vi<|qi (sJ jL<|aV<|qf 3)<|aV<|qf 4) zk)<|yC<|.bl true) (bN<|yC<|.bl false) w5)
 (bN<|zx (FU false) (ay p6 Ii<|qi (vi<|qi (zx kU (qf 3)<|aZ<|aV<|yC .GM)<|aV<|qf 4) zk)<|yC<|.bl true)))))))))))))
structure XF22(K:Aj)(o C n1 n2 n3 n4 n5 n6 n7 n8 n9:Addr):Prop where
 hd:Fm K C
 em:PySem.W.exmOne K (.ref C) (.ref o)=some true
 o1:PySem.W.kitAny K (.ref C) [.ref n1,.ref n2,.ref n3,.ref n4]=some false
 o2:PySem.W.kitAny K (.ref C) [.ref n5,.ref n6,.ref n7,.ref n8,.ref n9]=some false
 on:PySem.W.kitOne K (.ref C) (.ref C)=some true
 ve:PySem.W.kitOne K (.ref C) (.type "ValueError")=some true
def XF22.dn{K:Aj}{o I J U g j l p r t:Addr}(T:K.e Pt=some (PySem.W.tabObj #[]))(x:XF22 K o C I J U g j l p r t):XF22 'b' o C I J U g j l p r t:={Yg T x.hd,Ye T x.em,mM T x.o1,mM T x.o2,iH T x.on,iH T x.ve}
def vJ:_q->Da
 |none=>.s .GM
 |some (.lf t n)=>.tup [.s<|.str<|kL t,.s<|.str n]
 |some (.nd e i j)=>.tup [.s<|.str<|kN e,.s<|.int i,.s<|.int j]
theorem jG{L:qm}:∀l:List (_q),Paired (j6 L 1) (dO l)<|l.map vJ
 |[]=>.nil
 |none::r=>.cons (.inl {(rfl),rfl})<|jG r
 |some (.lf t n)::r=>.cons (vv<|.cons (EZ _)<|.cons (EZ _) .nil)<|jG r
 |some (.nd e i j)::r=>.cons (vv<|.cons (EZ _)<|.cons (EY _)<|.cons (EY _) .nil)<|jG r
theorem MT:∀l:List (_q),Da.eqs (l.y vJ) (l.y vJ)=true
 |[]=>rfl
 |k::r=>by
  have:Da.eq (vJ k) (vJ k)=true:=by cases k with|none=>rfl|some k=>cases k<;>simp[vJ,Da.eq,Da.eqs,iz]
  rw[AR,Da.eqs,this,MT r];rfl
inductive fG(ys:_T)(L:qm)(Q:YK):Prop
 |mk:∀a,∀zs:List (_q),∀A:Rz,(ys=[.ref a,je A])->(L a=⇑(dO zs))->(zs.l<=120)->(jn A<=120)->(ky A<=1000)->((ze A).l<=1000)->(¬gf zs A)->(Q (.bl true) L)->fG ys L Q
def zQ{K:Aj}{o J U g j l p r t T:Addr}(xf:XF22 K o C J U g j l p r t T):_f fG (Zu K o C J U g j l p r t T<|eL C) 5:=by rintro ys L Q ⟨a,I,A,rfl,ha,kl,rd,rz,tl,no,q⟩;refine qa ha λh hh=>?_;refine wW hh λL1 s1 gh=>?_;refine{h,I,A,rfl,gh,kl,rd,rz,tl,λs=>(no s).r,λ_=>{xf.em,λe he=>?_}};refine oQ q9 {xf.hd,true,xf.on,?_};refine oQ q9 {xf.hd,true,xf.ve,?_};have s2:=s1.t<|By (o:=.exc C) he;refine{rfl,rfl,2,2,_,_,∅,cV (By (o:=.exc C) he _ _ gh)<|jG I,cV (s2 _ _ ha)<|jG I,?_};refine dg (by rw[show Da.eq (.lst<|I.map vJ) (.lst<|I.map vJ)=true from MT I];rfl) ?_;refine oQ q9 {xf.hd,false,xf.o1,?_};refine oQ q9 {xf.hd,false,xf.o2,?_};exact eM s2 q
def Zw :_f (oB Pt _R) (Zv (lC Pt) fO kR (bM 120) uP fG<|eL C) 10:=by
 rintro ys L Q ⟨J,rfl,bc,hL,q⟩;have hP:L Pt=some (.tb _R):=by rw[hL];exact q9
 have big:=a_;intro p0 ac;refine qa q9 {rfl,rfl,small (by rw[Ac];show J.l+1<=1000;lia),λp hp=>?_};obtain⟨c,ec⟩:∃c:Int,bw (J.y Y.int++[Y.int 0]) 0=some (Y.int c):=by cases J with|nil=>exact{0,rfl}|cons a r=>exact{a,jh (j:=0) rfl}
 refine qa q9<|qg ec {{∅,∅,∅},(∅:(0:Int)<10 ^ (9:Int).B),?_};have a4:=((By (o:=.lst [Y.int 0]) ac).t<|By (o:=.lst<|J.map Y.int++[Y.int 0]) hp) _ _ hP;show ql 1 (Y.int<|c % (10:Int) ^ (9:Int).B) _ _ _;generalize c % (10:Int) ^ (9:Int).B=s;generalize qk (qk L p0 _) p _=L1 at a4 ⊢;intro p1 al;refine qa q9 {rfl,rfl,small (by rw[Ac];show J.l+2<=1000;lia),λp2 a3=>?_};obtain⟨c,ec⟩:∃c:Int,bw (J.y Y.int++[Y.int 0,Y.int 0]) 1=some (Y.int c):=by
  cases J with
  |nil=>exact{0,rfl}
  |cons a r=>
   cases r with|nil=>exact{0,jh (j:=1) rfl}|cons b t=>exact{b,jh (j:=1) rfl}
 refine qa q9<|qg ec {(∅:(0:Int)<2147483647),?_};show ql 2 (Y.int<|c % 2147483647) _ _ _;have a5:=((By (o:=.lst [Y.int 0,Y.int 0]) al).t<|By (o:=.lst<|J.map Y.int++[Y.int 0,Y.int 0]) a3) _ _ a4;have ar:0<=c % 2147483647:=DO _ ∅;have au:c % 2147483647<2147483647:=Ef _ ∅;generalize c % 2147483647=fv at ar au ⊢;generalize qk (qk L1 p1 _) p2 _=L2 at a5 ⊢;obtain⟨ms,av,bd⟩:∃ms:aal,rf (J.y Y.int) (some 2) none=ms.y Y.int/\ms.l<=J.l:=by unfold rf;refine{(J.G<|Os (J.y Y.int).l 0<|some 2).u<|Os (J.y Y.int).l (J.y Y.int).l none-Os (J.y Y.int).l 0 (some 2),by rw[List.map_take,List.map_drop],?_};rw[A2,BQ];lia
 intro pm aL;rw[av];refine{pm,ms,s,84,rfl,q9,'s',∅,By aL _ _ a5,λw I R E hw T tp=>?_};have W:bD I R E:={(T),tp};have gw:qk (qk L2 pm<|.lst<|ms.map Y.int) w (.lst<|x8 I) w=⇑(x8 I):=q9;generalize qk (qk L2 pm<|.lst<|ms.map Y.int) w (.lst<|x8 I)=ba at gw ⊢;have kl:=T.len;have zl:(x8 I).l=I.l:=Ac ..;have rd:=kh R;have rz:=aS R;have tl:=W.tp.f;rw[Bm] at tl;refine{.inr {∅,∅},(∅:(0:Int)<2147483647),?_};show ql 5 (Y.int<|fv*16807 % 2147483647) _ _ _;generalize fv*16807 % 2147483647=mx;refine qa gw {(show(0:Int)<((x8 I).l)⁻¹+6 by lia),?_};refine{λτ L'=>∃a2:Int,τ=[some<|.sq<|J.map Y.int,some<|.int s,some<|.int fv,↑w,some<|qx R,some<|.int mx,some<|.int a2,none,none,none]/\L'=ba,{{∅,∅},(∅:(0:Int)<5),qr (λc=>?_) λc=>{_,rfl,rfl}},?_}
 .have hm:mx / 7919 % 2=0\/mx / 7919 % 2=1:='s'
  obtain⟨v,ev⟩:∃v:Int,bw [Y.int<|(10:Int) ^ (30:Int).B,.int<|-(10:Int) ^ (30:Int).B] (mx / 7919 % 2)=some (.int v):=by
   obtain hm|hm:=hm
   .exact{_,by rw[hm];rfl}
   .exact{_,by rw[hm];rfl}
  refine{{∅,∅,∅},{∅,∅,∅},{∅,∅},(∅:(0:Int)<2),?_};walk_at "w";rw[ev];exact{_,rfl,rfl}
 rintro τ L4 ⟨a2,rfl,rfl⟩;refine{(∅:(0:Int)<14),?_};have w0:0<=fv % 14:=DO _ ∅;show ql 7 (Y.int<|fv % 14) _ _ _;obtain⟨U,ew⟩:∃U,U=fv % 14:={_,rfl};rw[<-ew] at w0 ⊢;refine qa gw λD hD=>?_;have bb:=ku gw hD;have a1:=(By (o:=.lst<|x8 I) hD) _ _ gw;have gD:qk L4 D (.lst<|x8 I) D=⇑(x8 I):=q9;generalize qk L4 D (.lst<|x8 I)=L5 at a1 gD ⊢;refine{λτ L'=>∃D zs X,τ=[some<|.sq<|J.map Y.int,some<|.int s,some<|.int fv,↑w,some<|qx R,some<|.int mx,some<|.int a2,some<|.int U,↑D,some<|je X]/\L' w=⇑(x8 I)/\L' D=⇑(dO zs)/\¬gf zs X/\zs.l<=120/\jn X<=120/\ky X<=1000/\(ze X).l<=1000,?_,?_}
 .refine qr (λc=>?_) λc=>?_
  .exact{{∅,∅},D,I,R,E,_,rfl,gD,W,λD' zs X L' s g n l1 l2 l3 l4=>{D',zs,X,rfl,s _ _ a1,g,n,l1,l2,l3,l4}}
  refine qr (λc=>?_) λc=>?_
  .exact{D,I,R,E,rfl,gD,W,λD' zs X L' s g n l1 l2 l3 l4=>{D',zs,X,rfl,s _ _ a1,g,n,l1,l2,l3,l4}}
  refine qr (λc=>?_) λc=>?_
  .refine{.inr {∅,∅},(∅:(0:Int)<2147483647),I,R,E,_,U,a2,rfl,T.sr,T.nd,'s','s',w0,λX L' hX s=>?_};have:=hX.dp;have:=hX.sz;have:=hX.tl;exact{D,(ae I 0).y w4,X,rfl,s _ _ a1,by rw[Hb];exact s _ _ gD,W.norule hX,by rw[Ac,xm];lia,'s','s','s'}
  .refine{D,U,_,I,R,E,rfl,gD,W,λL' zs k g n l=>?_};exact{D,zs,zo R,by rw[xh];rfl,k _ _ bb a1,g,n,'s',by rw[jb];lia,by rw[x0];lia,by rw[zh];lia}
 rintro τ L6 ⟨D',zs,X,rfl,g1,g2,no,l1,l2,l3,l4⟩;refine{D',zs,X,rfl,g2,l1,l2,l3,l4,no,?_};refine qa g1 λp hp=>?_;refine wW hp λL7 s1 gp=>?_;have eR:Y.tup [Y.ref p,qx R]=.tup [.ref p,je<|zo R]:=by rw[xh]
 have sd:jn (zo R)<=120/\ky (zo R)<=1000/\(ze<|zo R).l<=1000:={by rw[jb];lia,by rw[x0];lia,by rw[zh];lia};refine{p,(ae I 0).y w4,zo R,A8 (λz=>[z]) eR,by rw[Hb];exact gp,by rw[Ac,xm];lia,sd.1,sd.2.1,sd.2.2,λ_=>?_,λh=>(h<|W.sdt 0).r};intro p2 a3;refine{_,_,By a3 _ _<|s1 _ _ g1,q9,Br (big _ (by rw[zl];show I.l+1<=20000;lia)),λp3 bf=>?_};have e3:[Y.tup [Y.ref p3,qx R]]=[.tup [.ref p3,je<|zo R]]:=by rw[xh]
 refine{p3,(ae I 1).y w4,zo R,e3,?_,by rw[Ac,xm];lia,sd.1,sd.2.1,sd.2.2,λ_=>jj<|q _,λh=>(h<|W.sdt 1).r};rw[q9,<-y_];unfold ae;rw[<-v9];rw[show wm (I.y some++List.replicate 1 none)=wm (I.y some)++[Y.GM] from Ax ..]
end L2
end
set_option maxRecDepth 100000
set_option maxHeartbeats 8000000
namespace K22
open PySem L2
abbrev ng:Str:="_law_knots"
abbrev nh:Str:="_law_p"
abbrev ni:Str:="_law_rule"
abbrev nj:Str:="_law_knot"
abbrev nl:Str:="_law_script"
theorem Zx{us:aaf}{n:Nat}(h:us.l=n+1):∃a r,us=a::r/\r.l=n:=by cases us with|nil=>cases h|cons a r=>exact{a,r,rfl,Nat.succ.inj h}
abbrev nk(K:PySem.W.Frag)(x:Str):=PySem.W.nsIn K mainGlobals x
structure DD(K:Aj):Prop where
 D0:j5 K "is_leaf" sW
 D1:j5 K "turned" xZ
 D2:j5 K "word_at" tO
 D3:j5 K "holds_leaf" jX
 D4:j5 K "places_there" gN
 D5:j5 K "parts_of" rP
 D6:j5 K "parts_in" rA
 D7:j5 K "each_once" nL
 D8:j5 K "parts_fit" nJ
 D9:j5 K "are_knots" mW
 D10:j5 K "is_link" ss
 D11:j5 K "can_be_cut" jV
 D12:j5 K "is_cut" vS
 D13:j5 K "places_of" mO
 D14:j5 K "arms_of" sk
 D15:j5 K "rules_in" rH
 D16:j5 K "told_by" tD
 D17:j5 K "taken_by" pM
 D18:j5 K "demand" UV
 D19:j5 K "ends_by" UW
 D20:j5 K "demand_told_once" io
 D21:j5 K "fits" KP
 D22:j5 K "checked_tree" qO
 D23:j5 K "_law_mix" qW
 D24:j5 K "_law_name" nK
 D25:j5 K "_law_word" mV
 D26:j5 K "_law_flip" mR
 D27:j5 K "_law_weight" i0
 D28:j5 K "_law_mirror" r6
 D29:j5 K "_law_join" nW
 D30:j5 K "_law_fold" nE
 D31:j5 K "_law_cut" yZ
 D33:j5 K "_law_moved" lI
 D34:j5 K "_law_renamed" o3
 D35:j5 K "_law_tree" m6
 D36:j5 K "_law_arms" nG
 D37:j5 K "_law_gathered" fj
 D38:j5 K "_law_free" vZ
 D39:j5 K "_law_other_number" cL
 D40:j5 K "_law_spoilt_rule" dE
 D41:j5 K "_law_changed" gy
 D42:j5 K "_law_other_leaf" dS
 D43:j5 K "_law_other_parts" dJ
 D44:j5 K "_law_name_changed" cJ
 D45:j5 K "_law_shared" re
 D46:j5 K "_law_doubled" gv
 D47:j5 K "_law_backwards" mJ
 D48:j5 K "_law_spoilt_knots" iP
 D49:j5 K "_law_refused" o8
 D50:j5 K "law" yJ
structure B_(V:V_):Prop extends B0_ V,DD V.K where
 hp:∃h:aau,V.K.In h/\h.Ns mainGlobals V.mg
 D32:_r V.K "_law_order" _d V.Pt
 md:V.mg "BadTree"=some (.ref V.Ca)
 my:V.mg "OnceError"=some (.ref V.Ce)
 mw:V.mg "BadChoices"=some (.ref V.Ci)
 mz:V.mg "BadText"=some (.ref V.Cg)
 mv:V.mg "BadWeb"=some (.ref V.Cf)
 mf:V.mg "NoCut"=some (.ref V.Ck)
 maa:V.mg "NoExchange"=some (.ref V.Ch)
 mh:V.mg "NoTree"=some (.ref V.Cj)
 mm:V.mg "NoWord"=some (.ref V.Cl)
 mj:V.mg "OtherWeb"=some (.ref V.Cc)
 mn:V.mg "TooMany"=some (.ref V.Cd)
 x_BadTree:F8 V.K V.Ca
 xf:L2.XF22 V.K V.Ce V.Ca V.Ci V.Cg V.Cf V.Ck V.Ch V.Cj V.Cl V.Cc V.Cd
local macro_rules|`(tactic| walk_at "s")=>`(tactic| exact{rfl,rfl,rfl,'z',rfl,'z','z'})
local macro_rules|`(tactic| walk_at "l")=>`(tactic| (rintro _ _ _ h;cases h;subst_vars;rfl))
local macro_rules|`(tactic| walk_at "x")=>`(tactic| (intro _;walk_at "l"))
local macro_rules|`(tactic| walk_at "b")=>`(tactic| (intro _ _ _ _ _ _ us hl;(repeat (obtain⟨_,_,e,h⟩:=Zx hl;clear hl;subst e;have hl:=h;clear h));cases List.eq_nil_of_length_eq_zero hl;rfl))
section
variable {f:Addr}{fd:FuncData}{x q:Str}{st:Stmt}{ps:aai}(V:V_)(k:Nat)(N:aai)
theorem W_{sp:vh}{t:aa}(F:Fun V.K x q st f fd)(j:_f sp t N.l)(h:Gj V k N q st f t)(U:aT N ps 'e':=by walk_at "s")(len:∀ys L Q,sp ys L Q->ys.length=ps.l:=by walk_at "l"):Fn3 V.P V.w V.K V.mg V.Y (k+1) f fd ps sp:=
 Uj F U len λJ A I s H E g=>{t,h J A I s H E g U.nd<|GC g,j}
theorem M_{sp:vh}{t:aa}(I:∃h:aau,V.K.In h/\h.Ns mainGlobals V.mg)(D:j5 V.K x st)(J:_f sp t N.l)(h:∀f,Gj V k N x st f t)(U:aT N ps 'e':=by walk_at "s")(len:∀ys L Q,sp ys L Q->ys.length=ps.l:=by walk_at "l")(g:Gk x st ps:=by walk_at "b"):Q_ V (k+1) x ps sp:=by obtain⟨_,X,G⟩:=I;obtain⟨f,fd,F,b,m⟩:=D.use X G g;exact Cal.of (W_ V k N F J (h f) U len) b F.kp m
theorem R_{sp:Nat->vh}{t:Nat->aa}(I:∃h:aau,V.K.In h/\h.Ns mainGlobals V.mg)(D:j5 V.K x st)(no:∀ys L Q,¬sp 0 ys L Q)(J:∀n ys L Q,sp (n+1) ys L Q->x6 (t n) N.l ys L Q)(h:∀n f,Q_ V (n+k) x ps (sp n)->Gj V (n+k) N x st f (t n))(n:Nat)(U:aT N ps 'e':=by walk_at "s")(len:∀n ys L Q,sp n ys L Q->ys.length=ps.l:=by walk_at "x")(g:Gk x st ps:=by walk_at "b"):Q_ V (n+k) x ps (sp n):=by
 obtain⟨_,X,G⟩:=I;obtain⟨f,fd,F,b,m⟩:=D.use X G g
 induction n with|zero=>exact Cal.of (Fn3.never no) b F.kp m|succ n j=>rw[Nat.add_right_comm];exact Cal.of (W_ V (n+k) N F (J n) (h n f j) U<|len _) b F.kp m
theorem X_{sp:fH}{t:X3->aa}(U:∃h:aau,V.K.In h/\h.Ns mainGlobals V.mg)(D:j5 V.K x st)(g:∀ys L Q E,sp ys L Q E->x6 (t<|uG E) N.l ys L Q)(h:∀f,∀(eS:aaq) (A:Around) (outer:List Env) (s:aar) (H:Hp) (E:XK) (E3:X3),aX k (A.deeper<|PyProof.Rows.envOfC x 'e' ↥s f eS)->cD (fU (e_ V.P V.w) V.P V.w V.K V.mg V.Y N x 'e' f eS A outer s H E) (Ft ⟨V.K,V.P,V.w⟩ E3)->N.Nodup->(A.deeper<|PyProof.Rows.envOfC x 'e' ↥s f eS).units+128<cLine->sg (fU (e_ V.P V.w) V.P V.w V.K V.mg V.Y N x 'e' f eS A outer s H E) (xj st) (t E3))(I:aT N ps 'e':=by walk_at "s")(len:∀ys L Q E,sp ys L Q E->ys.length=ps.l:=by walk_at "x")(j:Gk x st ps:=by walk_at "b"):fk V.P V.w V.K V.mg V.Y (k+1) x ps sp:=by obtain⟨_,X,G⟩:=U;obtain⟨f,fd,F,b,m⟩:=D.use X G j;exact{_,_,KO F I len (λeS A outer s H E E3 J l=>h f eS A outer s H E E3 J l I.nd<|GC J) g,b,F.kp,m}
theorem Zy{sp:Nat->fH}{t:Nat->X3->aa}(U:∃h:aau,V.K.In h/\h.Ns mainGlobals V.mg)(D:j5 V.K x st)(no:∀ys L Q E,¬sp 0 ys L Q E)(g:∀n ys L Q E,sp (n+1) ys L Q E->x6 (t n<|uG E) N.l ys L Q)(h:∀n f,fk V.P V.w V.K V.mg V.Y (n+k) x ps (sp n)->∀(eS:aaq) (A:Around) (outer:List Env) (s:aar) (H:Hp) (E:XK) (E3:X3),aX (n+k) (A.deeper<|PyProof.Rows.envOfC x 'e' ↥s f eS)->cD (fU (e_ V.P V.w) V.P V.w V.K V.mg V.Y N x 'e' f eS A outer s H E) (Ft ⟨V.K,V.P,V.w⟩ E3)->N.Nodup->(A.deeper<|PyProof.Rows.envOfC x 'e' ↥s f eS).units+128<cLine->sg (fU (e_ V.P V.w) V.P V.w V.K V.mg V.Y N x 'e' f eS A outer s H E) (xj st) (t n E3))(n:Nat)(I:aT N ps 'e':=by walk_at "s")(len:∀n ys L Q E,sp n ys L Q E->ys.length=ps.l:=by intro _;walk_at "x")(j:Gk x st ps:=by walk_at "b"):fk V.P V.w V.K V.mg V.Y (n+k) x ps (sp n):=by
 obtain⟨_,X,G⟩:=U;obtain⟨f,fd,F,b,m⟩:=D.use X G j
 induction n with|zero=>exact{_,_,ahv.never no,b,F.kp,m}|succ n l=>rw[Nat.add_right_comm];exact{_,_,KO F I (len _) (λeS A outer s H E E3 J o=>h n f l eS A outer s H E E3 J o I.nd<|GC J)<|g n,b,F.kp,m}
theorem T_{sp:vh}{t:aa}(U:∃h:aau,V.K.In h/\h.Ns mainGlobals V.mg)(D:_r V.K x st V.Pt)(g:_f sp t N.l)(h:∀f,∀(eS:aaq) (A:Around) (outer:List Env) (s:aar) (H:Hp) (E:XK),FQ V.K eS V.Pt->aX k (A.deeper<|PyProof.Rows.envOfC x 'e' ↥s f eS)->N.Nodup->(A.deeper<|PyProof.Rows.envOfC x 'e' ↥s f eS).units+128<cLine->sg (fU CX0 V.P V.w V.K V.mg V.Y N x 'e' f eS A outer s H E).nox (xj st) t)(I:aT N ps 'e':=by walk_at "s")(len:∀ys L Q,sp ys L Q->ys.length=ps.l:=by walk_at "l")(j:Gk x st ps:=by walk_at "b"):Q_ V (k+1) x ps sp:=by obtain⟨_,X,G⟩:=U;obtain⟨f,fd,F,b,m⟩:=D.use X G j;exact Cal.of (WX F I len λeS A outer s H E C J=>{t,h f eS A outer s H E C J I.nd<|GC J,g}) b F.kp m
end
section
variable {V:V_}(B:B_ V)
include B
theorem d1:Gi V (aW):=M_ V _ _ B.hp B.D0 Wn<|(tE).2 V B.V ⟨⟩
theorem d2:Ig V (bE 120):=R_ V _ _ B.hp B.D1 Wp Wo (λn=>(xC _ _).2 V B.V (d1 B) n) 120
theorem d3:KQ V (k8 120):=R_ V _ _ B.hp B.D2 qB Wv (λn=>(sj _ _).2 V B.V (d1 B) n) 120
theorem d4:KR V (jU):=M_ V _ _ B.hp B.D3 XD<|(kD _).2 V B.V<|d1 B
theorem d5:UX V (gU):=M_ V _ _ B.hp B.D4 WM<|(hU).2 V B.V ⟨⟩
theorem d6:GS V (cf):=M_ V _ _ B.hp B.D5 Yl<|(qK _).2 V B.V<|d1 B
theorem d7:KS V (dH):=M_ V _ _ B.hp B.D6 Yq<|(qY _).2 V B.V<|d6 B
theorem d8:KU V (dz):=M_ V _ _ B.hp B.D7 Yn<|(nQ).2 V B.V ⟨⟩
theorem d9:KY V (kM):=M_ V _ _ B.hp B.D8 Yo<|(m7 _ _).2 V B.V {(d6 B),(d8 B)}
theorem d10:UY V (jY):=M_ V _ _ B.hp B.D9 Yp<|(nX _).2 V B.V<|d9 B
theorem Zz:KZ V (iE):=M_ V _ _ B.hp B.D10 Yh<|(wC _ _).2 V B.V {(d2 B),(d4 B)}
theorem ZA:K2 V (kH):=M_ V _ _ B.hp B.D11 Yr<|(kA _).2 V B.V<|d7 B
theorem ZB:K3 V (fe):=M_ V _ _ B.hp B.D12 zY<|(yM _ _ _).2 V B.V {(ZA B),(d3 B),(d2 B)}
theorem ZC:K4 V (kC):=M_ V _ _ B.hp B.D13 Yx<|(m8).2 V B.V ⟨⟩
theorem II:K5 V (bY):=M_ V _ _ B.hp B.D14 Yy<|(tF).2 V B.V ⟨⟩
theorem ZD:UZ V (bJ 120):=R_ V _ _ B.hp B.D15 YA YC (λn=>(pU _ _).2 V B.V (II B) n) 120
theorem MU:U0 V (cz):=M_ V _ _ B.hp B.D16 Yz<|(sR _).2 V B.V<|ZC B
theorem ZE:U3 V (g0):=M_ V _ _ B.hp B.D17 YD<|(qC _).2 V B.V<|d6 B
theorem FV:U4 V (w6 V.Ca):=X_ V 0 ["holds","words"] (t:=(λI=>rK V.Ca I)) B.hp B.D18 yH λ_ _ _ _ _ _ _ _ U J hN g=>(qd<|zc (mG<|bv<|qv 0) (qd<|UU B.x_BadTree rfl B.md rfl J rfl<|jz<|qv 1) qy)
theorem ZF:U5 V (km V.Ca 120):=Zy V 4 ["knots","rule","ends","arm","taken","arm_ends"] (sp:=(km V.Ca)) (t:=(λn g=>ou g (cz) (g0) (bY) (km V.Ca n)<|w6 V.Ca)) B.hp B.D19 xB wJ (λ_ _ I _ _ _ _ _ _ _ J U hN j=>(qb (S_ 2 hN<|C_ (MU B) J<|jz<|qv 1)<|qb (aB PassesOwn.leaving rfl (UJ rfl B.br<|vo (C_ (II B) J<|jz<|qv 1)<|C_ (ZE B) J<|vo (qv 0)<|qv 1) (bB rfl<|zf (G_ 3 hN)<|zf (df (i:=4) hN rfl<|Or.inr rfl) wn)<|qb (fZ (i:=5) hN rfl (Or.inr rfl)<|gR (I.mono 's') J rfl U rfl<|vo (qv 0)<|qv 3)<|qb (zb<|gR ((FV B).mono 's') J rfl U rfl<|vo (kj GW rfl B.bi tf<|jz<|fq ["place"] (E4 'o') rfl (xz<|qv 4) (aD b_ (λ_ _ _ _=>Or.inl rfl) λ_ _ _ _=>rfl) (λ_ _ _ _=>gS) λ_ _ _ _=>(ak (GJ _ _ _) (qv 6) (qv 5) 'k')) qz)<|qd<|zb<|cR (qv 2)<|jz<|fq ["place"] (E4 'o') rfl (xz<|qv 5) (aD b_ (λ_ _ _ _=>Or.inl rfl) λ_ _ _ _=>rfl) (λ_ _ _ _=>dC<|xb (pP _ _ _) (qv 6) (qv 4) 'k') λ_ _ _ _=>(qv 6))<|qd<|qt<|qv 2)) 120
theorem ZG:U6 V (gx V.Ca):=X_ V 2 ["knots","rule","there","told","due","here","place"] (t:=(λg=>My g (gU) (cz) (w6 V.Ca)<|bY)) B.hp B.D20 YJ λ_ _ _ _ _ _ _ _ I U hN J=>(qb (S_ 2 hN<|C_ (d5 B) I<|jz<|qv 0)<|qb (S_ 3 hN kW)<|qb (S_ 4 hN<|zd<|jz<|qv 1)<|qb (jH PassesOwn.leaving (N_ J (qv 4)<|zd vj)<|qb (S_ 5 hN<|Km<|qv 4)<|qb (aB PassesOwn.leaving rfl (xz<|C_ (MU B) I<|jz<|qv 5) (G_ 6 hN)<|qb (zb<|gR ((FV B).mono ∅) I rfl U rfl<|vo (gg (ak (GJ _ _ _) (qv 6) (qv 2) 'k')<|ig<|ak (Mk J) (qv 6) (qv 3) 'k') qz)<|qd<|aK J (qv 3) (qv 6) aP)<|qd<|zb<|cR (qv 4)<|jz<|C_ (II B) I<|jz<|qv 5)<|qd<|zb<|gR ((FV B).mono ∅) I rfl U rfl<|vo (ak (sQ _ _ _ J) (kj XQ rfl B.ba yq<|jz<|qv 3) (L_ B.ba<|qv 2)<|vz _) qz)
theorem ZH:U7 V (eQ):=M_ V _ _ B.hp B.D21 YL<|(Mn _ _).2 V B.V {(Zz B),(ZB B)}
theorem IJ:U8 V (eL V.Ca):=X_ V 124 ["tree","knots","rule"] (t:=(λU=>xQ U (w6 V.Ca) (jY) (dz) (dH) (gx V.Ca) (bJ 120) (eQ)<|km V.Ca 120)) B.hp B.D22 YQ λ_ _ _ _ _ _ _ _ I J hN g=>(qb (fZ (i:=1) hN rfl (Or.inr rfl)<|J_ 0)<|qb (S_ 2 hN<|J_ 0)<|qb (zb<|gR ((FV B).mono ∅) I rfl J rfl<|vo (C_ (d10 B) I<|jz<|qv 1) qz)<|qb (zb<|gR ((FV B).mono ∅) I rfl J rfl<|vo (C_ (d8 B) I<|jz<|C_ (d7 B) I<|jz<|qv 1) qz)<|qb (zb<|gR ((ZG B).mono ∅) I rfl J rfl<|vo (qv 1)<|qv 2)<|qb (zb<|gR ((FV B).mono ∅) I rfl J rfl<|vo (kj GW rfl B.bi tf<|jz<|fq ["inner"] (E4 'o') rfl (xz<|C_ (ZD B) I<|jz<|qv 2) (aD b_ (λ_ _ _ _=>Or.inl rfl) λ_ _ _ _=>rfl) (λ_ _ _ _=>gS) λ_ _ _ _=>(C_ (ZH B) I<|vo (qv 1)<|qv 3)) qz)<|qb (zb<|gR ((ZF B).mono ∅) I rfl J rfl<|vo (qv 1)<|qv 2)<|qd<|qt aP)
theorem MV:K6 V (rL):=M_ V _ _ B.hp B.D23 Wr<|(qX).2 V B.V ⟨⟩
theorem ZI:K7 V (kK):=M_ V _ _ B.hp B.D24 W7<|(vY).2 V B.V ⟨⟩
theorem MW:U9 V (k8 120):=R_ V _ _ B.hp B.D25 uF yN (λn=>(nH _).2 V B.V ⟨⟩ n) 120
theorem IK:U_ V (ax 120):=R_ V _ _ B.hp B.D26 Wx WA (λn=>(LI _).2 V B.V ⟨⟩ n) 120
theorem ZJ:Va V (cY 120):=R_ V _ _ B.hp B.D27 qQ Wt (λn=>(i6 _).2 V B.V ⟨⟩ n) 120
theorem ZK:Vb V (bH 5):=R_ V 122 [ng,"_law_word_here","_law_left","_law_right","_law_turn","_law_same","_law_low","_law_high"] B.hp B.D28 WJ (WK (FS:=ax 120) λ_ _ _ h=>h) (λ_ _ I _ _ _ _ _ _ J hN U=>(qb (zc (E_ U (L_ B.ba<|qv 1) qc) (qb (zb<|zu (qv 0)<|jz<|C_ (IK B) J<|jz<|qv 1)<|qb (zb<|zu (qv 0)<|jz<|qv 1)<|qd<|qt<|zd<|aI (qw<|aI qz (qj aG (L_ B.ba<|qv 0) qc)<|qj aG (L_ B.ba<|qv 0) qc) (qj aG (L_ B.ba<|qv 0) qc)<|qj aG (L_ B.ba<|qv 0) qc) qy)<|qb (S_ 2 hN<|C_ I J<|vo (qv 0)<|J_ 1)<|qb (S_ 3 hN<|C_ I J<|vo (qv 0)<|J_ 1)<|qb (zb<|zu (qv 0)<|jz<|qw<|aI (I_ (C_ (IK B) J<|jz<|qv 1) qc) (J_ 2)<|J_ 3)<|qb (zb<|zu (qv 0)<|jz<|qw<|aI (J_ 1) (J_ 2)<|J_ 3)<|qb (Kk (i:=4) (j:=5) rfl hN rfl rfl ∅ rfl rfl (vo (qj aG (L_ B.ba<|qv 0) qc)<|qj aG (L_ B.ba<|qv 0) qc) rfl)<|qb (S_ 6 hN<|cq (E_ U (J_ 1) qz) (qv 4)<|qv 5)<|qb (S_ 7 hN<|cq (E_ U (J_ 1) qz) (qv 5)<|qv 4)<|qd<|qt<|zd<|aI (qw<|aI qz (qv 7)<|qw<|jl qz<|aI (qv 6) (J_ 2)<|J_ 3) (qv 4)<|qv 5)) 5
theorem ZL:K8 V (oE):=M_ V _ _ B.hp B.D29 W'<|(LY).2 V B.V ⟨⟩
theorem ZM:K9 V (jS):=M_ V _ _ B.hp B.D30 Xa<|(LZ).2 V B.V ⟨⟩
theorem ZN:K_ V (oO):=M_ V 127 [ng,"_law_forest","_law_one","_law_two","_law_first",nh,"_law_word_here","_law_second","_law_q","_law_at","_law_end",ni,"_law_same","_law_ends"] B.hp B.D31 (Xf (FS:=ax 120) (MS:=bH 5) (λ_ _ _ h=>h) λ_ _ _ h=>h) λ_ _ _ _ _ _ _ I hN J=>(qb (S_ 4 hN<|fB (qv 1)<|jz<|qj zn (qv 3)<|L_ B.ba<|qv 1)<|qb (fZ (i:=5) hN rfl (Or.inr rfl)<|I_ (J_ 4)<|qj zn (qj xa (qv 3) qc)<|L_ B.ba<|J_ 4)<|qb (S_ 6 hN<|C_ (MW B) I<|vo (qv 0)<|qv 5)<|qb (fb (qw<|vo lZ lZ)<|bB rfl<|zf (G_ 7 hN)<|zf (df (i:=8) hN rfl<|Or.inr rfl) wn)<|qb (aB yp rfl (aM rfl B.bf<|jz<|L_ B.ba<|qv 1) (G_ 9 hN)<|qd<|aB yp rfl (xz<|I_ (I_ (qv 1)<|qv 9) qc) (G_ 10 hN)<|qd<|zc (bC<|bA (uM<|qv 7)<|wv<|E_ J (C_ (MW B) I<|vo (qv 0)<|qv 10)<|C_ (IK B) I<|jz<|qv 6) (qd<|fb (qw<|vo (I_ (qv 1)<|qv 9)<|qv 10)<|bB rfl<|zf (G_ 7 hN)<|zf (df (i:=8) hN rfl<|Or.inr rfl) wn) qy)<|qb (zc (bC<|bA (uM<|qv 7)<|wv<|xb FJ (C_ (ZJ B) I<|jz<|qv 6) qc<|vz _) (qb (zb<|zu (qv 1)<|jz<|qv 4)<|qd uT) qy)<|vm (zc (uM<|qv 7) (qb (fb (C_ (ZK B) I<|vo (qv 0)<|qv 6)<|VS rfl<|zf (G_ 11 hN)<|zf (df (i:=8) hN rfl<|Or.inr rfl)<|zf (G_ 12 hN) wn)<|qd<|S_ 7 hN<|zd<|vo (qv 11)<|zd<|vo (qv 8)<|qv 12)<|qd<|zb<|VU J (qv 1)<|jz<|qv 7)<|qb (eV ["_law_x"] (i:=13) hN rfl (Or.inl rfl) (E4 'o') rfl (xz<|qj ju (J_ 4)<|J_ 7) (aD b_ (λ_ _ _ _=>Or.inl rfl) λ_ _ _ _=>rfl) (λ_ _ _ _=>dC<|xb (pP _ _ _) (qv 14) (qw<|vo (qv 5)<|qv 8) 'k') λ_ _ _ _=>(qv 14))<|qd<|zc (E_ J (qj zn (qv 2) qc) qc) (qd<|zb<|zu (qv 1)<|jz<|zd<|vo (qw<|jl qz<|jl (qv 5)<|aI (qv 8) (J_ 4)<|J_ 7)<|qv 13)<|qd<|zb<|zu (qv 1)<|jz<|zd<|vo (qw<|jl qz<|jl (qv 8)<|aI (qv 5) (J_ 7)<|J_ 4)<|qv 13)
theorem ZO:Vc V (iM V.Pt):=T_ V 1 [ng,"_law_seed","_law_ranks",nh,nj,"_law_rank"] B.hp B.D32 X4 λ_ _ _ _ _ _ _ C I hN J=>(qb (fZ (i:=2) hN rfl (Or.inr rfl)<|zd vj)<|qb (aB yp rfl (uD rfl B.bn<|qv 0) (bB rfl<|zf (G_ 3 hN)<|zf (G_ 4 hN) wn)<|qb (S_ 5 hN<|qj zn (C_ (MV B) I<|aI (qv 1) (qv 3) qc) qc)<|vm (zc (E_ J (L_ B.ba<|qv 4) qc) (qd<|S_ 5 hN<|qj ju (qj ju (qv 5) qc)<|kj Kc rfl B.bp JY<|vo (I_ (qv 2)<|J_ 4)<|I_ (qv 2)<|J_ 4) qy)<|qd<|zb<|zu (qv 2)<|jz<|qv 5)<|qd<|qt<|WW rfl B.bq (zM rfl rfl B.bg rfl B.bf<|L_ B.ba<|qv 0) {rfl,rfl,rfl,'z',rfl,rfl,∅,∅,∅} C (W4 I) rfl rfl rfl {_,rfl,rfl} rfl λ_ _ _ _ _ _ _=>rfl)
theorem MX:Vd V (aN 120):=R_ V _ _ B.hp B.D33 Zj Zl (λn=>(vW _).2 V B.V ⟨⟩ n) 120
theorem ZP:K' V (fN V.Pt):=M_ V 121 [ng,ni,"_law_seed","_law_at","_law_made",nh,nj] B.hp B.D34 (X6 (MS:=aN 120) Zk) λ_ _ _ _ _ _ _ J hN I=>(qb (S_ 3 hN kW)<|qb (S_ 4 hN<|zd vj)<|qb (aB yp rfl (xz<|C_ (ZO B) J<|vo (qv 0)<|qv 2) (G_ 5 hN)<|qb (aK I (qv 3) (qv 5)<|L_ B.ba<|qv 4)<|qb (S_ 6 hN<|I_ (qv 0)<|qv 5)<|qd<|zb<|zu (qv 4)<|jz<|cq (E_ I (L_ B.ba<|qv 6) qc) (qv 6)<|qw<|aI (J_ 6) (fc I (qv 3) (J_ 6) λ_ _=>rfl)<|fc I (qv 3) (J_ 6) λ_ _=>rfl)<|qd<|qt<|qw<|vo (qv 4)<|C_ (MX B) J<|vo (qv 1)<|qv 3)
theorem ZQ:Ve V (lC V.Pt):=M_ V _ _ B.hp B.D35 X7<|(Ms _ _ _ _ _ _).2 V B.V {(MV B),(ZI B),(ZM B),(ZL B),(ZN B),(ZP B)}
theorem IL:alt V (hE):=M_ V _ _ B.hp B.D36 XX<|(m5).2 V B.V ⟨⟩
theorem Hc:Ih V (cQ):=M_ V _ _ B.hp B.D37 XY<|(fu _).2 V B.V<|IL B
theorem ZR:La V (oD):=M_ V 0 [ng,"_law_cuts","_law_used",nj,nh,"_law_q"] B.hp B.D38 X0 λ_ _ _ _ _ _ _ J hN I=>(qb (fZ (i:=2) hN rfl (Or.inr rfl) kW)<|qb (aB yp rfl (xz<|qv 0) (G_ 3 hN)<|qd<|zc (bC<|bA (uJ<|qv 3)<|wv<|E_ I (L_ B.ba<|qv 3) qc) (qb (aK I (qv 2) (J_ 3) aP)<|qd<|aK I (qv 2) (J_ 3) aP) qy)<|qb (aB yp rfl (xz<|qv 1) (bB rfl<|zf (G_ 4 hN)<|zf (G_ 5 hN) wn)<|qb (aK I (qv 2) (qv 4) aP)<|qd<|aK I (qv 2) (qv 5) aP)<|qd<|lE "_law_p'"<|qt<|fq [nh] (E4 'o') rfl (aM rfl B.bf<|jz<|L_ B.ba<|qv 0) (aD b_ (λ_ _ _ _=>Or.inl rfl) λ_ _ _ _=>rfl) (λ_ _ _ _=>dC<|bC<|bA (uJ<|I_ (qv 0)<|qv 6)<|wv<|xb (Mk I) (qv 6) (qv 2) 'k') λ_ _ _ _=>(qv 6))
theorem ZS:Lb V (oN):=M_ V _ _ B.hp B.D39 YU<|(cG).2 V B.V ⟨⟩
theorem ZT:Ld V (jM):=M_ V _ _ B.hp B.D40 YV<|(dF _ _).2 V B.V {(IL B),(ZS B)}
theorem ZU:Vf V (bM 120):=R_ V _ _ B.hp B.D41 zF YW (λn=>(gK _ _ _).2 V B.V {(IL B),(ZT B)} n) 120
theorem ZV:Vg V (oI):=M_ V _ _ B.hp B.D42 Y5<|(db).2 V B.V ⟨⟩
theorem ZW:Vh V (lD):=M_ V _ _ B.hp B.D43 Y7<|(dD).2 V B.V ⟨⟩
theorem ZX:Vi V (cW):=M_ V _ _ B.hp B.D44 Zh<|(cH _).2 V B.V<|Hc B
theorem ZY:Vj V (bF):=M_ V 0 [ng,"_law_cuts","_law_far","_law_used",nj,nh,"_law_q","_law_some","_law_x"] B.hp B.D45 Zf λ_ _ _ _ _ _ _ J hN I=>(qb (S_ 3 hN kW)<|qb (aB yp rfl (xz<|qv 0) (G_ 4 hN)<|qd<|zc (E_ I (L_ B.ba<|qv 4) qc) (qb (aK I (qv 3) (J_ 4) aP)<|qd<|aK I (qv 3) (J_ 4) aP) qy)<|qb (aB yp rfl (xz<|qv 1) (bB rfl<|zf (df (i:=5) hN rfl<|Or.inr rfl)<|zf (G_ 6 hN) wn)<|qb (aK I (qv 3) (qv 5) aP)<|qd<|aK I (qv 3) (qv 6) aP)<|qb (S_ 7 hN<|zd vj)<|qb (aB yp rfl (aM rfl B.bf<|jz<|L_ B.ba<|qv 0) (df (i:=5) hN rfl<|Or.inr rfl)<|qd<|zc (E_ I (L_ B.ba<|I_ (qv 0)<|qv 5) qc) (qd<|lE "_law_x'"<|zb<|cR (qv 7)<|jz<|Ze ["_law_x"] (E4 'o') rfl (aD b_ (λ_ _ _ _=>Or.inl rfl) λ_ _ _ _=>rfl) (λ_ _ _ _=>dC<|bC<|bA (xb oA (qv 9) (qv 5)<|vz _)<|wv<|xb (pP _ _ _) (qv 9) (xu (gM _ _ _) (I_ (qv 0)<|qv 5) (vk qc) wg) 'k') (λ_ _ _ _=>(qw<|vo (qv 5)<|qv 9))<|pv 3) qy)<|qb (zc (E_ I (qv 7)<|zd vj) (qb (zb<|zu (qv 0)<|jz<|J_ 0)<|qd uT) qy)<|qb (fb (I_ (qv 7)<|qj zn (qv 2)<|L_ B.ba<|qv 7)<|bB rfl<|zf (df (i:=5) hN rfl<|Or.inr rfl)<|zf (G_ 8 hN) wn)<|qb (S_ 4 hN<|I_ (qv 0)<|qv 5)<|qd<|zc (E_ I (qj zn (qj xa (qv 2) qc) qc) qc) (qd<|aU (qv 0) (qv 5)<|qw<|aI (J_ 4) (qv 8)<|J_ 4)<|qd<|aU (qv 0) (qv 5)<|qw<|aI (J_ 4) (J_ 4)<|qv 8)
theorem ZZ:Vk V (fO):=M_ V _ _ B.hp B.D46 yu<|(gb _ _).2 V B.V {(Hc B),(ZR B)}
theorem Z0:Vl V (kR):=M_ V 121 [ng,ni,"_law_at","_law_made",nh,nj] B.hp B.D47 Zm λ_ _ _ _ _ _ _ J hN I=>(qb (lE "_law_p'"<|eV [nh] (i:=2) b_ rfl (Or.inl rfl) (E4 'o') rfl (aM rfl B.bf<|jz<|L_ B.ba<|qv 0) (aD b_ (λ_ _ _ _=>Or.inl rfl) λ_ _ _ _=>rfl) (λ_ _ _ _=>gS) λ_ _ _ _=>(qj aG (qj aG (L_ B.ba<|qv 0) qc)<|qv 6))<|qb (S_ 3 hN<|zd vj)<|qb (aB yp rfl (xz<|qv 2) (G_ 4 hN)<|qb (S_ 5 hN<|I_ (qv 0)<|qv 4)<|qd<|zb<|zu (qv 3)<|jz<|cq (E_ I (L_ B.ba<|qv 5) qc) (qv 5)<|qw<|aI (J_ 5) (I_ (qv 2)<|J_ 5)<|I_ (qv 2)<|J_ 5)<|vm (Yc "_law_knot'" (E_ I (fq [nj] (E4 'o') rfl (xz<|qv 0) (aD b_ (λ_ _ _ _=>Or.inl rfl) λ_ _ _ _=>rfl) (λ_ _ _ _=>dC<|E_ I (L_ B.ba<|qv 6) qc) λ_ _ _ _=>(qv 6))<|zd vj) (qd<|zb<|zu (qv 3)<|jz<|J_ 0) qy)<|qd<|qt<|qw<|vo (qv 3)<|C_ (MX B) J<|vo (qv 1)<|qv 2)
theorem Z1:Vm V (uP):=M_ V 3 [ng,ni,"_law_way","_law_far","_law_leaves","_law_inner",nh] B.hp B.D48 Zt λ_ _ _ _ _ _ _ J hN I=>(qb (lE "_law_p'"<|eV [nh] (i:=4) b_ rfl (Or.inl rfl) (E4 'o') rfl (aM rfl B.bf<|jz<|L_ B.ba<|qv 0) (aD b_ (λ_ _ _ _=>Or.inl rfl) λ_ _ _ _=>rfl) (λ_ _ _ _=>dC<|E_ I (L_ B.ba<|I_ (qv 0)<|qv 7) qc) λ_ _ _ _=>(qv 7))<|qb (lE "_law_p'"<|eV [nh] (i:=5) b_ rfl (Or.inl rfl) (E4 'o') rfl (aM rfl B.bf<|jz<|L_ B.ba<|qv 0) (aD b_ (λ_ _ _ _=>Or.inl rfl) λ_ _ _ _=>rfl) (λ_ _ _ _=>dC<|E_ I (L_ B.ba<|I_ (qv 0)<|qv 7) qc) λ_ _ _ _=>(qv 7))<|qd<|zc (E_ I (qv 2) qc) (qd<|aU (qv 0) (qj zn (qv 3)<|L_ B.ba<|qv 0) lZ)<|qd<|zc (E_ I (qv 2) qc) (qb (S_ 6 hN<|I_ (qv 4)<|qj zn (qv 3)<|L_ B.ba<|qv 4)<|qd<|aU (qv 0) (qv 6)<|C_ (ZV B) J<|vo (I_ (qv 0)<|qv 6)<|qj xa (qv 3) qc)<|qd<|zc (bC<|bA (E_ I (qv 2) qc)<|wv<|N_ I (qv 5)<|zd vj) (qb (S_ 6 hN<|I_ (qv 5)<|qj zn (qv 3)<|L_ B.ba<|qv 5)<|qd<|aU (qv 0) (qv 6)<|qw<|aI (yK [ ("both" ,"either") ,("either" ,"both") ] (bV aC aC<|bV aC aC u3) rfl rfl (A9 _ _) (Ar rfl) (I_ (I_ (qv 0)<|qv 6) qc) (H_ (H_ (uU _)<|uU _)<|GL _) λ_ _=>rfl) (I_ (I_ (qv 0)<|qv 6) qc)<|I_ (I_ (qv 0)<|qv 6) qc)<|qd<|zc (bC<|bA (E_ I (qv 2) qc)<|wv<|N_ I (qv 5)<|zd vj) (qb (S_ 6 hN<|I_ (qv 5)<|qj zn (qv 3)<|L_ B.ba<|qv 5)<|qd<|aU (qv 0) (qv 6)<|C_ (ZW B) J<|aI (I_ (qv 0)<|qv 6) (qv 6)<|qj xa (qv 3) qc)<|qd<|zc (bC<|bA (E_ I (qv 2) qc)<|wv<|N_ I (I_ (C_ (Hc B) J<|jz<|qv 1) qc)<|zd vj) (qd<|zb<|C_ (ZX B) J<|aI (qv 0) (qv 1)<|qv 3)<|qd<|zc (E_ I (qv 2) qc) (qd<|zb<|C_ (ZY B) J<|aI (qv 0) (I_ (C_ (Hc B) J<|jz<|qv 1) qc)<|qv 3)<|qd<|zc (bC<|bA (E_ I (qv 2) qc)<|wv<|E_ I (qj zn (qv 3) qc) qc) (qd<|zb<|YT<|qv 0)<|qd<|zc (E_ I (qv 2) qc) (qd<|aB yp rfl (aM rfl B.bf<|jz<|L_ B.ba<|qv 0) (G_ 6 hN)<|qd<|aU (qv 0) (qv 6) lZ)<|qd<|zb<|zu (qv 0)<|jz<|qw<|vo qz<|I_ (I_ (qv 0)<|J_ 4) qc)
theorem Z2:Vn V (fG):=M_ V 125 [ng,ni,"_law_found","_law_handed","error"] B.hp B.D49 (zQ B.xf) λ_ _ _ _ _ _ _ I hN J=>(qb (S_ 2 hN lZ)<|qb (S_ 3 hN<|bT dy rfl B.bg fW<|jz<|qv 0)<|qb (Vr (i:=4) rfl rfl rfl hN rfl rfl rfl B.my (Vq ((IJ B).mono ∅) I rfl rfl λ_ _=>(jz<|qw<|vo (qv 3)<|qv 1)) λ_=>(qd<|S_ 2 hN<|qv 4))<|qb (zc (bC<|vO (mG<|bv<|xK rfl B.bh (qv 2) (dt rfl B.md) rfl)<|vO (mG<|bv<|xK rfl B.bh (qv 2) (JX rfl B.b_ValueError rc) rfl)<|uC<|N_ J (qv 3)<|qv 0) (qd<|qt aP) qy)<|qb (zc (bv<|sS rfl B.bh (qv 2) (am (dt rfl B.mw)<|am (dt rfl B.mz)<|am (dt rfl B.mv)<|am (dt rfl B.mf) Lj) rfl<|Ar rfl) (qd<|qt aP) qy)<|qd<|qt<|Uc<|sS rfl B.bh (qv 2) (am (dt rfl B.maa)<|am (dt rfl B.mh)<|am (dt rfl B.mm)<|am (dt rfl B.mj)<|am (dt rfl B.mn) Lj) rfl<|Ar rfl)
theorem dL{f:Addr}{fd:FuncData}(F:Fun V.K "law" "law" yJ f fd):Fn3 V.P V.w V.K V.mg V.Y 130 f fd [nl] (oB V.Pt _R):=
 W_ V 129 [nl,"_law_seed","_law_number",ng,ni,"_law_mixed","_law_far","_law_way","_law_spoilt","_law_other"] F Zw λ_ _ _ _ _ _ I hN J=>(qb (S_ 1 hN<|qj zn (I_ (qj (Lo _ _ _) (qv 0)<|zd<|jz qc) qc)<|qj HR qc qc)<|qb (S_ 2 hN<|qj zn (I_ (qj (Lo _ _ _) (qv 0)<|zd<|vo qc qc) qc) qc)<|qb (fb (C_ (ZQ B) I<|aI (xu (tJ _ _ _) (qv 0) (vk qc) wg) (qv 1) qc)<|bB rfl<|zf (G_ 3 hN)<|zf (G_ 4 hN) wn)<|qb (S_ 5 hN<|qj zn (qj mS (qv 2) qc) qc)<|qb (S_ 6 hN<|qj aG (qj zn (qv 5)<|qj ju (L_ B.ba<|qv 3) qc) qc)<|vm (zc (E_ J (qj zn (qj xa (qv 5) qc) qc) qc) (qd<|S_ 6 hN<|qj ju (Us (vo (qj HR qc qc)<|nU nF<|qj HR qc qc) (qj zn (qj xa (qv 5) qc) qc) (Ku (Ku (uU _)<|GL _)<|GL _) λ_ _=>rfl)<|qv 5) qy)<|qb (S_ 7 hN<|qj zn (qv 2) qc)<|qb (S_ 8 hN<|bT dy rfl B.bg fW<|jz<|qv 3)<|qb (S_ 9 hN<|qv 4)<|vm (zc (E_ J (qv 7) qc) (qd<|fb (C_ (ZZ B) I<|aI (qv 8) (qv 4)<|qj xa (qv 2) qc)<|bB rfl<|zf (G_ 8 hN)<|zf (G_ 9 hN) wn)<|qd<|zc (E_ J (qv 7) qc) (qd<|fb (C_ (Z0 B) I<|vo (qv 8)<|qv 4)<|bB rfl<|zf (G_ 8 hN)<|zf (G_ 9 hN) wn)<|qd<|zc (xb oA (qv 7) qc<|vz _) (qd<|S_ 9 hN<|C_ (ZU B) I<|jl (qv 4)<|aI (qj zn (qj mS (qv 5) qc) qc) (qv 7)<|qv 6)<|qd<|zb<|C_ (Z1 B) I<|jl (qv 8)<|aI (qv 4) (qv 7)<|kj G' rfl B.bj u5<|jz<|qv 6)<|qb (zc (mG<|bv<|C_ (Z2 B) I<|vo (qv 8)<|qv 9) (qd<|qt aP) qy)<|qb (zc (xb XJ (gR ((IJ B).mono ∅) I rfl Lk rfl<|jz<|qw<|vo (bT dy rfl B.bg fW<|jz<|qv 3)<|qv 4) aP<|vz _) (qd<|qt aP) qy)<|qd<|qt<|ak XI (gR ((IJ B).mono ∅) I rfl Lk rfl<|jz<|qw<|vo (qj ju (qv 3)<|zd<|jz lZ)<|qv 4) aP<|vz _)
end
theorem all_mk{l:PySem.W.OpenLaw}{w:aat}{K:Aj}{h:aau}{mg:aac}{fa:Addr}{U:Addr}{bc:Option Addr}{bd:Nat}{bf:Array<|aam}{ba bb:Tok}{I:Addr}{au:Nat}{g j o p r t C T:Tok}{J:Addr}{av:Nat}{a1 a2 a3 a4 a5 ac al ar:Tok}{Ca:Addr}{Ce:Addr}{Ci:Addr}{Cg:Addr}{Cf:Addr}{Ck:Addr}{Ch:Addr}{Cj:Addr}{Cl:Addr}{Cc:Addr}{Cd:Addr}{Pt:Addr}(X:K.In h)(G:h.Ns mainGlobals mg)(bg:mg "law"=↑fa)
 (D:DD K)
 (D32:_r K "_law_order" _d Pt)
 (zA9:nk K "LEAF_KINDS"=some (↑U))
 (zB0:K.e U=some ⟨.type "tuple",bc,.seq #[.str "plain" ba,.str "turned" bb] bd,bf⟩)
 (zA2:nk K "TURNED_KINDS"=some (↑I))
 (zA3:K.e I=some ⟨.type "dict",none,.dict ((([("plain",g,"turned",r),("turned",j,"plain",t),("both",o,"either",C),("either",p,"both",T)]:List<|Str×Tok×Str×Tok).y<|GD w).m) au,#[]⟩)
 (zA4:(I==sysModules)=false)
 (zA5:nk K "PLACE_COUNTS"=some (↑J))
 (zA6:K.e J=some ⟨.type "dict",none,.dict ((([("link",a1,2,a5),("either",a2,1,ac),("both",a3,1,al),("cut",a4,2,ar)]:List<|Str×Tok×Int×Tok).y<|G6 w).m) av,#[]⟩)
 (zA7:(J==sysModules)=false)
 (aCBadTree:nk K "BadTree"=some (↑Ca))
 (aCOnceError:nk K "OnceError"=some (↑Ce))
 (aCBadChoices:nk K "BadChoices"=some (↑Ci))
 (aCBadText:nk K "BadText"=some (↑Cg))
 (aCBadWeb:nk K "BadWeb"=some (↑Cf))
 (aCNoCut:nk K "NoCut"=some (↑Ck))
 (aCNoExchange:nk K "NoExchange"=some (↑Ch))
 (aCNoTree:nk K "NoTree"=some (↑Cj))
 (aCNoWord:nk K "NoWord"=some (↑Cl))
 (aCOtherWeb:nk K "OtherWeb"=some (↑Cc))
 (aCTooMany:nk K "TooMany"=some (↑Cd))
 (qCBadTree:PySem.W.excIn K Ca [.type "ValueError",.type "Exception",.type "BaseException",.type "object"] "ValueError.__new__"=true)
 (xf:L2.XF22 K Ce Ca Ci Cg Cf Ck Ch Cj Cl Cc Cd)
 (zenumerate:nk K "enumerate"=some none)
 (zlen:nk K "len"=some none)
 (zset:nk K "set"=some none)
 (zall:nk K "all"=some none)
 (zrange:nk K "range"=some none)
 (zany:nk K "any"=some none)
 (zlist:nk K "list"=some none)
 (zzip:nk K "zip"=some none)
 (zmax:nk K "max"=some none)
 (zsorted:nk K "sorted"=some none)
 (zmin:nk K "min"=some none)
 (zisinstance:nk K "isinstance"=some none)
 (zint:nk K "int"=some none)
 (ztuple:nk K "tuple"=some none)
 (zabs:nk K "abs"=some none)
 (zValueError:nk K "ValueError"=some none):
 ∃fd:FuncData,(∀(s:aar) (v:aaq),BindsTo s fd ⟨[v],[]⟩ [(nl,v)])/\∀base:aau,K.In base->base.Ns mainGlobals mg->dI l.i w K mg base CX0 130 fa fd [nl] (spTopT _R K Pt):=by
 obtain⟨fL,kV,bh,pm,an,bi,ct,aL,FL⟩:=D.D50.ex;have e:=bg.symm.t<|Bw X G aL;cases e;refine{PySem.W.fnOf "law" "law" (ww yJ) (xj yJ) (z9 yJ) .none kV bh pm an bi ct,λs v=>.of_eq rfl,λbase _ _=>?_};have B:B_ ⟨l.i,w,K,mg,base,Pt,Ca,Ce,Ci,Cg,Cf,Ck,Ch,Cj,Cl,Cc,Cd⟩:={{Bk X G zenumerate,Bk X G zlen,Bk X G zset,Bk X G zall,Bk X G zrange,Bk X G zany,Bk X G zlist,Bk X G zzip,Bk X G zmax,Bk X G zsorted,Bk X G zmin,Bk X G zisinstance,Bk X G zint,Bk X G ztuple,Bk X G zabs,Bk X G zValueError,{U,Bw X G zA9,λH=>{U,[V.str "plain",V.str "turned"],rfl,.inr {_,_,_,zB0,rfl,rfl,by show 2<=sizeLine;decide,.cons {_,rfl}<|.cons {_,rfl}<|.nil},{_,_,rfl,rfl,{_,_,rfl,rfl,rfl}}}},{I,Bw X G zA2,λH=>{I,rfl,Tc _ zA3 zA4 (by show 4<=1000;decide) (by show List.Nodup ([Sum.inr "plain",Sum.inr "turned",Sum.inr "both",Sum.inr "either"]:List jk);decide +kernel)}},{J,Bw X G zA5,XN _ zA6 zA7 (by show 4<=1000;decide) (by show List.Nodup ([Sum.inr "link",Sum.inr "either",Sum.inr "both",Sum.inr "cut"]:List jk);decide +kernel)}},D,{(h),X,G},D32,Bw X G aCBadTree,Bw X G aCOnceError,Bw X G aCBadChoices,Bw X G aCBadText,Bw X G aCBadWeb,Bw X G aCNoCut,Bw X G aCNoExchange,Bw X G aCNoTree,Bw X G aCNoWord,Bw X G aCOtherWeb,Bw X G aCTooMany,zS qCBadTree,xf};exact dI.imp (dL B FL) λvs H Q E q=>WY q
theorem def_inT{K:Aj}{x:Str}{st:Stmt}{f Pt:Addr}{oc:aaq}{od an:Option Addr}{pR:Array<|aam}{kV hQ pm eS ct:aaq}(a:nk K x=some (↑f))
 (l:K.e f=some ⟨oc,od,.func<|PySem.W.fnOf x x (ww st) (xj st) 'e' .none kV hQ pm an eS ct,pR⟩) (c:PySem.W.codeIn K eS x=true) (k:PySem.W.keepIn K (.ref f)=true) (C:FQ K eS Pt):_r K x st Pt:=
 ⟨f,kV,hQ,pm,an,eS,ct,a,⟨⟨oc,od,kV,hQ,pm,an,eS,ct,pR,rfl,l,c,C⟩,k⟩⟩
end K22
namespace H22
noncomputable section
open PySem PySem.W PySem.W.X L2 PyProof.Rows
abbrev rr:=PySem.Challenge.rw_oncewise_k22_spoilt_trees
abbrev p:aas:=PySem.Challenge.pw_oncewise_k22_spoilt_trees
abbrev top:=L2.top
abbrev MY(i k:Nat):Stmt:=(VJ<|top i).getD k<|.Pass {0,0,0,0}
abbrev s(x:aav):Str:=Str.ofString x
noncomputable abbrev S (x:aav) (t:Tok):aaq:=.str (Str.ofString x) t
noncomputable abbrev I (i:Int) (t:Tok):aaq:=.int i t
noncomputable abbrev R (a:Addr):aaq:=.ref a
abbrev E(P:Params)(k:aav)(t:Tok)(v:aaq):DictEntry:={PyData.keyHash P<|Str.ofString k,.str (Str.ofString k) t,v}
noncomputable abbrev O (c:aaq) (d:Data):Obj:={c,none,d,#[]}
abbrev FN(n q:aav)(st:Stmt)(I kV hQ pm:aaq)(an:Option Addr)(cd ct:aaq):FuncData:=fnOf (Str.ofString n) (Str.ofString q) (ww st) (xj st) 'e' I kV hQ pm an cd ct
abbrev FG(n q:aav)(st:Stmt):FuncData:={fnOf (Str.ofString n) (Str.ofString q) (ww st) (xj st) 'e' .none .none .none .none none .none .none with globals:=0}
abbrev lt(l:List (Int×Nat)):Array Value:=(l.h λx=>[I x.1 0,I 0 0,R x.2]).m
abbrev tu(l:aag):Params->Obj:=λ_=>O (.type "tuple")<|.seq l 0
abbrev tn(k:Nat)(l:List String):Params->Obj:=tu ((l.zipIdx k).y λx=>S x.1 x.2).m
abbrev fo(f:FuncData):Params->Obj:=λ_=>O (.type "function")<|.func f
abbrev go(f:FuncData):Params->Obj:=λ_=>O .none<|.func f
abbrev co(n q:aav)(t l a b c fl v:Nat)(o:Bool)(m k:Nat)(x y z u:aaq)(d:Nat):Params->Obj:=λ_=>O (.type "code")<|.fields #[S n t,S q<|t+1,S "/claim/cut.py"<|t+2,I l 0,I a 0,I b 0,I c 0,I fl 0,R v,.bool o,I m 0,R k,x,y,z,u,I d 0,I l 0,S "/claim/cut.py"<|d+1]
abbrev lL:aaq:=S "law_oncewise_k22_spoilt_trees" 587
abbrev r_:aaq:=S "oncewise.webs" 410
abbrev t_:aaq:=S "oncewise.trees" 495
abbrev MZ:aaq:=S "oncewise.words" 377
abbrev fX(n:aav)(i:Nat)(m:aaq)(r:Nat):Params->Obj:=fo<|FN n n (top i) .none .none .none m none (R r) .none
abbrev gX(n:aav)(i:Nat):Params->Obj:=go<|FG n n<|top i
abbrev cF(n:aav)(t l a v d:Nat):Params->Obj:=co n n t l a 0 0 3 v true 181 (v+1) .none (R<|v+2) (R<|v+3) (R<|v+4) d
abbrev cC(n:aav)(t l v d:Nat):Params->Obj:=co n n t l 0 0 0 0 v false 181 (v+1) .none .none .none .none d
abbrev cS(n:aav)(a ns k t v:Nat):Params->Obj:=λ_=>{.type "type",none,.cls<|ClassData.mk (s n) [R 24] [R a,R 24,.type "ValueError",.type "Exception",.type "BaseException",.type "object"] ns (s n) true [] [] false none false,#[some<|R k,none,some<|S n t,some<|S n v,some<|.builtin "ValueError.__new__",some<|.bool true]}
abbrev dA(P:Params)(a b:Nat)(l:Int)(c d r e:Nat):Obj:=O (.type "dict")<|.dict #[E P "__module__" a<|S "oncewise.errors" 187,E P "__firstlineno__" b<|I l c,E P "__static_attributes__" d<|R r,E P "__doc__" e .none] 2
abbrev dB(P:Params)(a q:Nat)(n:aav)(J b:Nat)(l:Int)(c d r:Nat):Obj:=O (.type "dict")<|.dict #[E P "__module__" a<|S "oncewise.errors" 187,E P "__qualname__" q<|S n J,E P "__firstlineno__" b<|I l c,E P "__static_attributes__" d<|R r] 4
abbrev fR(a b:Nat):Params->Obj:=λ_=>{.type "frame",none,.plain,#[some<|R a,some<|R 3,some<|R b,none,some<|S "oncewise.errors" 187,none,some<|R 0]}
abbrev bI(a:Nat):Params->Obj:=λ_=>O (.type "builtin_function_or_method")<|.fields #[.builtin "object.__init_subclass__",R a]
abbrev sU(a:Nat):Params->Obj:=λ_=>O (.type "super")<|.fields #[R a,R a,R a]
abbrev Ob:=Params->Obj
def ev{α:Type}:Bool->List α->List α
 |_,[]=>[]
 |true,x::r=>x::ev false r
 |false,_::r=>ev true r
def bt:Nat->List Obj->BT
 |0,_=>.nil
 |_,[]=>.nil
 |n+1,x::r=>.node x (bt n<|ev true r)<|bt n<|ev false r
def env0:Env:={scope:=p.main.scope,locals:=mainNs,globals:=mainNs,cells:=[],code:=.ref 13,frame:=some 14}
abbrev cE:Code:=.body (behindTheImports p) env0
abbrev q0:Pos:={0,0,0,0}
abbrev an:aam:=some<|.ref 6
abbrev Pc(n:Nat)(S I:aat->OsState->SharedT)(l:aak)(q J:Pos)(w:aat):Prop:=(λos=>segRunT treeTable p w 11 an 1 n (S w os)<|piecesOf l env0 cE q [topFrame q0])=λos=>some (Flow.next,I w os,cE,J)
abbrev b0:=PySem.W.boot_o_0
abbrev b1:=PySem.W.boot_o_1
abbrev b2:=PySem.W.boot_o_2
abbrev b3:=PySem.W.boot_o_3
abbrev b4:=PySem.W.boot_o_4
abbrev b5:=PySem.W.boot_o_5
abbrev b6:=PySem.W.boot_o_6
abbrev b7:=PySem.W.boot_o_7
abbrev b8:=PySem.W.boot_o_8
abbrev b9:=PySem.W.boot_o_9
abbrev Gp:=PySem.W.boot_o_10
def jw:=tu #[]
def wy:Ob:=λ_=>O .none<|.fields #[]
def Gq:=cC "<module>" 182 1 11 185
def Hd:Ob:=λ_=>{(.type "frame"),none,.plain,#[(some<|R 13),(some<|R 3),(some<|R 3),none,(some<|S "__main__" 164),none,(some<|R 0)]}
def M5:=tu #[(.type "ValueError")]
def IM:Ob:=λP=>O (.type "dict")<|.dict #[(E P "__module__" 196<|S "oncewise.errors" 187),(E P "__firstlineno__" 200<|I 2 199),(E P "__static_attributes__" 201<|R 22),(E P "__weakref__" 203<|R 25),(E P "__doc__" 204 .none)] 3
def M6:=bI 24
def M7:Ob:=λP=>dB P 196 198 "OnceError" 197 200 2 199 201 22
def IP:Ob:=λ_=>O (.type "getset_descriptor")<|.fields #[S "__weakref__" 202,R 24,(.builtin "ExceptionGroup.__weakref__"),.none]
def M8:=fR 20 17
def uh:Ob:=λ_=>O (.type "builtin_function_or_method")<|.fields #[(.builtin "type.__prepare__"),(.type "type")]
def M9:=cC "OnceError" 191 2 18 194
def Na:=sU 24
def Nb:=bI 37
def Nc:=cC "NoWord" 209 4 31 212
def IQ:=cS "NoWord" 37 36 28 207 215
def IR:Ob:=λP=>dA P 214 218 4 217 219 35 220
def wD:=tu #[R 24]
def Nd:=fR 33 30
def Nf:=sU 37
def Ng:Ob:=λP=>dB P 214 216 "NoWord" 215 218 4 217 219 35
def Nh:=bI 49
def IS:=cS "BadText" 49 48 40 223 231
def Ni:=cC "BadText" 225 6 43 228
def IT:Ob:=λP=>dA P 230 234 6 233 235 47 236
def Nj:=sU 49
def Nk:Ob:=λP=>dB P 230 232 "BadText" 231 234 6 233 235 47
def Nl:=fR 45 42
def Nm:=bI 61
def Nn:=cC "BadWeb" 241 8 55 244
def IU:=cS "BadWeb" 61 60 52 239 247
def IV:Ob:=λP=>dA P 246 250 8 249 251 59 252
def No:=fR 57 54
def Np:Ob:=λP=>dB P 246 248 "BadWeb" 247 250 8 249 251 59
def Nq:=sU 61
def Nr:=bI 73
def IW:=cS "BadTree" 73 72 64 255 263
def Nt:=cC "BadTree" 257 10 67 260
def IX:Ob:=λP=>dA P 262 266 10 265 267 71 268
def Nu:Ob:=λP=>dB P 262 264 "BadTree" 263 266 10 265 267 71
def Nv:=sU 73
def Nw:=fR 69 66
def Nx:=bI 85
def Ny:=cC "BadChoices" 273 12 79 276
def IY:=cS "BadChoices" 85 84 76 271 279
def IZ:Ob:=λP=>dA P 278 282 12 281 283 83 284
def Nz:=fR 81 78
def NA:=sU 85
def NB:Ob:=λP=>dB P 278 280 "BadChoices" 279 282 12 281 283 83
def I0:Ob:=λP=>O (.type "dict")<|.dict #[(E P "__module__" 294<|S "oncewise.errors" 187),(E P "__firstlineno__" 298<|I 14 297),(E P "__init__" 307<|R 101),(E P "__static_attributes__" 309<|R 102),(E P "__doc__" 310 .none)] 2
def NC:=go<|FG "__init__" "NoTree.__init__"<|MY 7 0
def ND:=tn 302 ["self","words","choices"]
def NE:=sU 104
def I9:=fo<|FN "__init__" "NoTree.__init__" (MY 7 0) .none .none .none (S "oncewise.errors" 187) none (R 100) .none
def NF:=cC "NoTree" 289 14 91 292
def Ja:=cS "NoTree" 104 103 88 287 295
def Jb:=co "__init__" "NoTree.__init__" 299 16 3 0 0 3 95 true 181 96 .none (R 97) (R 98) (R 99) 305
def NG:Ob:=λ_=>O .none<|.fields #[I 16 0,I 4 0,R 100]
def NH:=bI 104
def NI:Ob:=λP=>O (.type "dict")<|.dict #[(E P "__module__" 294<|S "oncewise.errors" 187),(E P "__qualname__" 296<|S "NoTree" 295),(E P "__firstlineno__" 298<|I 14 297),(E P "__init__" 307<|R 101),(E P "__static_attributes__" 309<|R 102)] 5
def NJ:=tn 308 ["choices"]
def NK:=fR 93 90
def Jc:Ob:=λP=>dA P 320 324 19 323 325 114 326
def NL:=fR 112 109
def NM:=sU 116
def NN:Ob:=λP=>dB P 320 322 "NoCut" 321 324 19 323 325 114
def NO:=cC "NoCut" 315 19 110 318
def Jd:=cS "NoCut" 116 115 107 313 321
def NP:=bI 116
def NQ:Ob:=λP=>dA P 336 340 21 339 341 126 342
def NR:=cS "NoExchange" 128 127 119 329 337
def NS:Ob:=λP=>dA P 352 356 23 355 357 138 358
def NT:=cS "OtherWeb" 140 139 131 345 353
def NU:Ob:=λP=>dA P 368 372 25 371 373 150 374
def NV:=fX "is_leaf" 15 MZ 162
def NW:=tn 379 ["plain","turned"]
def NX:=cF "turned" 402 32 1 164 407
def NY:Ob:=λ_=>{(.type "type"),none,(.cls<|ClassData.mk (s "OnceError") [(.type "ValueError")] [R 24,(.type "ValueError"),(.type "Exception"),(.type "BaseException"),(.type "object")] 23 (s "OnceError") true [] [R 37,R 49,R 61,R 73,R 85,R 104,R 116,R 128,R 140,R 152] false none false),#[(some<|R 15),none,(some<|S "OnceError" 189),(some<|S "OnceError" 197),(some<|.builtin "ValueError.__new__"),(some<|.bool true)]}
def NZ:=cS "TooMany" 152 151 143 361 369
def N0:Ob:=λP=>O (.type "dict")<|.dict #[(E P "plain" 382<|S "turned" 383),(E P "turned" 384<|S "plain" 385),(E P "both" 386<|S "either" 387),(E P "either" 388<|S "both" 389)] 4
def N1:=cF "is_leaf" 395 30 1 157 399
def N2:=fX "turned" 16 MZ 169
def N3:=fX "parts_fit" 24 r_ 214
def N4:=cF "holds_leaf" 421 43 1 178 425
def N5:=cF "parts_of" 434 47 1 190 438
def N6:=fX "is_link" 26 r_ 226
def N7:=fX "parts_in" 22 r_ 202
def N8:=co "are_knots" "are_knots" 463 62 1 0 0 3 216 true 181 217 .none .none .none (R 218) 466
def N9:=cF "each_once" 450 56 1 204 454
def N':=fX "word_at" 18 r_ 176
def Oa:=fX "is_cut" 28 r_ 240
def Oc:=cF "can_be_cut" 478 69 2 228 483
def Od:=fX "places_there" 20 r_ 188
def Oe:=cF "word_at" 412 38 2 171 418
def Of:=cF "is_cut" 486 71 3 235 492
def Og:=fX "holds_leaf" 19 r_ 183
def Oh:=fX "parts_of" 21 r_ 195
def Oi:=fX "are_knots" 25 r_ 219
def Oj:=co "places_there" "places_there" 428 45 1 0 0 3 185 true 181 186 .none .none .none (R 187) 431
def Ol:=cF "is_link" 469 65 3 221 475
def Om:=fX "each_once" 23 r_ 209
def Oo:Ob:=λP=>O (.type "dict")<|.dict #[(E P "link" 497<|I 2 498),(E P "either" 499<|I 1 500),(E P "both" 501<|I 1 502),(E P "cut" 503<|I 2 504)] 4
def Op:=cF "parts_in" 441 51 1 197 447
def Oq:=fX "can_be_cut" 27 r_ 233
def Ot:=co "parts_fit" "parts_fit" 457 58 2 0 0 3 211 true 181 212 .none .none .none (R 213) 460
def Ou:=cF "arms_of" 517 79 1 250 521
def Ov:=fX "ends_by" 37 t_ 286
def Ow:=fX "rules_in" 33 t_ 262
def Ox:=fX "taken_by" 35 t_ 274
def Oy:=co "checked_tree" "checked_tree" 581 124 1 0 0 3 302 true 181 303 .none .none .none (R 304) 584
def Oz:=cF "demand" 546 97 2 276 551
def OA:=fX "_law_mix" 42 lL 312
def OB:=fX "places_of" 31 t_ 248
def OC:=fX "_law_word" 44 lL 324
def OD:=cF "demand_told_once" 560 107 2 288 570
def OE:=cF "told_by" 533 86 1 264 537
def OF:=fX "fits" 39 t_ 300
def OG:=co "_law_name" "_law_name" 598 136 2 0 0 3 314 true 181 315 .none .none .none (R 316) 601
def OH:=fX "arms_of" 32 t_ 255
def OI:=cF "_law_mix" 589 134 3 307 595
def OJ:=cF "places_of" 510 77 1 243 514
def OK:=cF "_law_word" 604 145 2 319 610
def OL:=cF "fits" 573 118 2 295 578
def OM:=co "taken_by" "taken_by" 540 88 2 0 0 3 271 true 181 272 .none .none .none (R 273) 543
def ON:=fX "checked_tree" 40 t_ 305
def OO:=fX "demand" 36 t_ 281
def OP:=cF "rules_in" 524 81 1 257 530
def OQ:=fX "demand_told_once" 38 t_ 293
def OR:=fX "told_by" 34 t_ 269
def OS:=co "ends_by" "ends_by" 554 100 2 0 0 3 283 true 181 284 .none .none .none (R 285) 557
def OT:=fX "_law_name" 43 lL 317
def OU:=fX "_law_join" 48 lL 350
def OV:=fX "_law_moved" 52 lL 374
def OW:=fX "_law_gathered" 56 lL 402
def OX:=fX "_law_weight" 46 lL 338
def OY:=cF "_law_arms" 714 260 1 390 718
def OZ:=cF "_law_flip" 613 150 1 326 618
def O0:=fX "_law_cut" 50 lL 362
def Je:=cF "_law_order" 666 210 2 364 675
def O1:=cF "_law_mirror" 628 159 2 340 639
def O6:=fX "_law_tree" 54 lL 388
def O7:=cF "_law_fold" 648 180 4 352 657
def O8:=cF "_law_renamed" 684 223 3 376 694
def O9:=cF "_law_tree" 697 231 3 383 711
def O_:=fX "_law_arms" 55 lL 395
def O':=fX "_law_flip" 45 lL 331
def Pa:=cF "_law_gathered" 721 266 1 397 730
def Pb:=cF "_law_weight" 621 155 1 333 625
def Pd:=fX "_law_order" 51 lL 369
def Pe:=co "_law_cut" "_law_cut" 660 188 4 0 0 3 359 true 181 360 .none .none .none (R 361) 663
def Pf:=fX "_law_mirror" 47 lL 345
def Pg:=fX "_law_fold" 49 lL 357
def Ph:=co "_law_moved" "_law_moved" 678 218 2 0 0 3 371 true 181 372 .none .none .none (R 373) 681
def Pj:=co "_law_join" "_law_join" 642 172 4 0 0 3 347 true 181 348 .none .none .none (R 349) 645
def Pk:=fX "_law_renamed" 53 lL 381
def Pl:=fX "_law_other_number" 58 lL 414
def Pm:=fX "_law_refused" 68 lL 478
def Pn:=fX "_law_shared" 64 lL 454
def Po:=co "_law_free" "_law_free" 733 280 2 0 0 3 404 true 181 405 .none .none .none (R 406) 736
def Pp:=co "_law_spoilt_knots" "_law_spoilt_knots" 836 408 4 0 0 3 468 true 181 469 .none .none .none (R 470) 839
def Pq:=fX "_law_backwards" 66 lL 466
def Pr:=cF "_law_other_leaf" 771 326 2 430 777
def Ps:=fX "_law_other_parts" 62 lL 442
def Pu:=cF "_law_name_changed" 790 342 3 444 804
def Pw:=cF "_law_spoilt_rule" 748 299 3 416 755
def Px:=cF "_law_doubled" 813 375 3 456 827
def Py:=fX "_law_changed" 60 lL 428
def Pz:=fX "_law_free" 57 lL 407
def PB:=fX "_law_spoilt_knots" 67 lL 471
def PD:=fX "_law_other_leaf" 61 lL 435
def PH:=cF "_law_changed" 758 318 4 423 768
def PJ:=fX "_law_name_changed" 63 lL 449
def PK:=co "_law_backwards" "_law_backwards" 830 399 2 0 0 3 463 true 181 464 .none .none .none (R 465) 833
def PL:=cF "_law_other_parts" 780 331 3 437 787
def PM:=co "_law_shared" "_law_shared" 807 353 3 0 0 3 451 true 181 452 .none .none .none (R 453) 810
def PN:=fX "_law_spoilt_rule" 59 lL 421
def PP:=fX "_law_doubled" 65 lL 461
def PQ:=cF "_law_other_number" 739 290 2 409 745
def PR:=cF "_law_refused" 842 433 2 473 850
def PU:Ob:=λP=>O (.type "dict")<|.dict #[(E P "__name__" 165<|S "law_oncewise_k22_spoilt_trees" 587),(E P "__doc__" 166 .none),(E P "__package__" 167 .none),(E P "__loader__" 168<|.builtin "__main__.__loader__#opaque"),(E P "__spec__" 169 .none),(E P "__annotations__" 170<|R 6),(E P "__builtins__" 171<|R 4),(E P "__file__" 173<|S "/claim/cut.py" 172),(E P "__cached__" 174 .none),(E P "OnceError" 206<|R 24),(E P "NoWord" 222<|R 37),(E P "BadText" 238<|R 49),(E P "BadWeb" 254<|R 61),(E P "BadTree" 270<|R 73),(E P "BadChoices" 286<|R 85),(E P "NoTree" 312<|R 104),(E P "NoCut" 328<|R 116),(E P "NoExchange" 344<|R 128),(E P "OtherWeb" 360<|R 140),(E P "TooMany" 376<|R 152),(E P "LEAF_KINDS" 381<|R 155),(E P "TURNED_KINDS" 394<|R 156),(E P "is_leaf" 401<|R 163),(E P "turned" 409<|R 170),(E P "word_at" 420<|R 177),(E P "holds_leaf" 427<|R 184),(E P "places_there" 433<|R 189),(E P "parts_of" 440<|R 196),(E P "parts_in" 449<|R 203),(E P "each_once" 456<|R 210),(E P "parts_fit" 462<|R 215),(E P "are_knots" 468<|R 220),(E P "is_link" 477<|R 227),(E P "can_be_cut" 485<|R 234),(E P "is_cut" 494<|R 241),(E P "PLACE_COUNTS" 509<|R 242),(E P "places_of" 516<|R 249),(E P "arms_of" 523<|R 256),(E P "rules_in" 532<|R 263),(E P "told_by" 539<|R 270),(E P "taken_by" 545<|R 275),(E P "demand" 553<|R 282),(E P "ends_by" 559<|R 287),(E P "demand_told_once" 572<|R 294),(E P "fits" 580<|R 301),(E P "checked_tree" 586<|R 306),(E P "_law_mix" 597<|R 313),(E P "_law_name" 603<|R 318),(E P "_law_word" 612<|R 325),(E P "_law_flip" 620<|R 332),(E P "_law_weight" 627<|R 339),(E P "_law_mirror" 641<|R 346),(E P "_law_join" 647<|R 351),(E P "_law_fold" 659<|R 358),(E P "_law_cut" 665<|R 363),(E P "_law_order" 677<|R 370),(E P "_law_moved" 683<|R 375),(E P "_law_renamed" 696<|R 382),(E P "_law_tree" 713<|R 389),(E P "_law_arms" 720<|R 396),(E P "_law_gathered" 732<|R 403),(E P "_law_free" 738<|R 408),(E P "_law_other_number" 747<|R 415),(E P "_law_spoilt_rule" 757<|R 422),(E P "_law_changed" 770<|R 429),(E P "_law_other_leaf" 779<|R 436),(E P "_law_other_parts" 789<|R 443),(E P "_law_name_changed" 806<|R 450),(E P "_law_shared" 812<|R 455),(E P "_law_doubled" 829<|R 462),(E P "_law_backwards" 835<|R 467),(E P "_law_spoilt_knots" 841<|R 472),(E P "_law_refused" 852<|R 479),(E P "law" 868<|R 486)] 74
def PV:=cF "law" 853 445 1 480 866
def PX:=fX "law" 69 lL 485
def azh:List Ob:=[b0,b1,b2,b3,b4,b5,b6,b7,b8,b9,Gp,jw,wy,Gq,Hd]
def avb:List Ob:=[b0,b1,b2,PU,b4,b5,b6,b7,b8,b9,Gp,jw,λ_=>O .none<|.fields<|lt [(2,20),(4,33),(6,45),(8,57),(10,69),(12,81),(14,93),(19,112),(21,124),(23,136),(25,148),(30,162),(32,169),(38,176),(43,183),(45,188),(47,195),(51,202),(56,209),(58,214),(62,219),(65,226),(69,233),(71,240),(77,248),(79,255),(81,262),(86,269),(88,274),(97,281),(100,286),(107,293),(118,300),(124,305),(134,312),(136,317),(145,324),(150,331),(155,338),(159,345),(172,350),(180,357),(188,362),(210,369),(218,374),(223,381),(231,388),(260,395),(266,402),(280,407),(290,414),(299,421),(318,428),(326,435),(331,442),(342,449),(353,454),(375,461),(399,466),(408,471),(433,478),(445,485)],Gq,Hd,M5,uh,M7,jw,wy,M9,M8,jw,IM,NY,IP,Na,M6,wD,uh,Ng,jw,wy,Nc,Nd,jw,IR,IQ,Nf,Nb,wD,uh,Nk,jw,wy,Ni,Nl,jw,IT,IS,Nj,Nh,wD,uh,Np,jw,wy,Nn,No,jw,IV,IU,Nq,Nm,wD,uh,Nu,jw,wy,Nt,Nw,jw,IX,IW,Nv,Nr,wD,uh,NB,jw,wy,Ny,Nz,jw,IZ,IY,NA,Nx,wD,uh,NI,jw,NG,NF,NK,jw,wy,ND,jw,NC,Jb,I9,NJ,I0,Ja,NE,NH,wD,uh,NN,jw,wy,NO,NL,jw,Jc,Jd,NM,NP,wD,uh,λP=>dB P 336 338 "NoExchange" 337 340 21 339 341 126,jw,wy,cC "NoExchange" 331 21 122 334,fR 124 121,jw,NQ,NR,sU 128,bI 128,wD,uh,λP=>dB P 352 354 "OtherWeb" 353 356 23 355 357 138,jw,wy,cC "OtherWeb" 347 23 134 350,fR 136 133,jw,NS,NT,sU 140,bI 140,wD,uh,λP=>dB P 368 370 "TooMany" 369 372 25 371 373 150,jw,wy,cC "TooMany" 363 25 146 366,fR 148 145,jw,NU,NZ,sU 152,bI 152,NW,N0,jw,wy,tn 398 ["word"],jw,gX "is_leaf" 15,N1,NV,jw,wy,tn 405 ["word","kind"],jw,gX "turned" 16,NX,N2,jw,wy,tn 415 ["knots","place","knot"],jw,gX "word_at" 18,Oe,N',jw,wy,tn 424 ["knot"],jw,gX "holds_leaf" 19,N4,Og,jw,wy,gX "places_there" 20,Oj,Od,jw,wy,tn 437 ["knot"],jw,gX "parts_of" 21,N5,Oh,jw,wy,tn 444 ["knots","parts","knot"],jw,gX "parts_in" 22,Op,N7,jw,wy,tn 453 ["places"],jw,gX "each_once" 23,N9,Om,jw,wy,gX "parts_fit" 24,Ot,N3,jw,wy,gX "are_knots" 25,N8,Oi,jw,wy,tn 472 ["knots","p","q"],jw,gX "is_link" 26,Ol,N6,jw,wy,tn 481 ["knots","place"],jw,gX "can_be_cut" 27,Oc,Oq,jw,wy,tn 489 ["knots","p","q"],jw,gX "is_cut" 28,Of,Oa,Oo,jw,wy,tn 513 ["rule"],jw,gX "places_of" 31,OJ,OB,jw,wy,tn 520 ["rule"],jw,gX "arms_of" 32,Ou,OH,jw,wy,tn 527 ["rule","rules","arm"],jw,gX "rules_in" 33,OP,Ow,jw,wy,tn 536 ["rule"],jw,gX "told_by" 34,OE,OR,jw,wy,gX "taken_by" 35,OM,Ox,jw,wy,tn 549 ["holds","words"],jw,gX "demand" 36,Oz,OO,jw,wy,gX "ends_by" 37,OS,Ov,jw,wy,tn 563 ["knots","rule","there","told","due","here","place"],jw,gX "demand_told_once" 38,OD,OQ,jw,wy,tn 576 ["knots","rule"],jw,gX "fits" 39,OL,OF,jw,wy,gX "checked_tree" 40,Oy,ON,jw,wy,tn 592 ["_law_cell","_law_k","_law_factor"],jw,gX "_law_mix" 42,OI,OA,jw,wy,gX "_law_name" 43,OG,OT,jw,wy,tn 607 ["_law_knots","_law_p","_law_knot"],jw,gX "_law_word" 44,OK,OC,jw,wy,tn 616 ["_law_word_here","_law_sides"],jw,gX "_law_flip" 45,OZ,O',jw,wy,tn 624 ["_law_word_here"],jw,gX "_law_weight" 46,Pb,OX,jw,wy,tn 631 ["_law_knots","_law_word_here","_law_left","_law_right","_law_turn","_law_same","_law_low","_law_high"],jw,gX "_law_mirror" 47,O1,Pf,jw,wy,gX "_law_join" 48,Pj,OU,jw,wy,tn 651 ["_law_knots","_law_tree_here","_law_one","_law_two","_law_left","_law_right"],jw,gX "_law_fold" 49,O7,Pg,jw,wy,gX "_law_cut" 50,Pe,O0,jw,wy,tn 669 ["_law_knots","_law_seed","_law_p","_law_knot","_law_rank"],tn 674 ["_law_ranks"],gX "_law_order" 51,Je,Pd,jw,wy,gX "_law_moved" 52,Ph,OV,jw,wy,tn 687 ["_law_knots","_law_rule","_law_seed","_law_at","_law_made","_law_p","_law_knot"],jw,gX "_law_renamed" 53,O8,Pk,jw,wy,tn 700 ["_law_cells","_law_seed","_law_room","_law_knots","_law_forest","_law_k","_law_cell","_law_one","_law_two","_law_deed","_law_at"],jw,gX "_law_tree" 54,O9,O6,jw,wy,tn 717 ["_law_rule"],jw,gX "_law_arms" 55,OY,O_,jw,wy,tn 724 ["_law_rule","_law_links","_law_cuts","_law_told","_law_stack","_law_one"],jw,gX "_law_gathered" 56,Pa,OW,jw,wy,gX "_law_free" 57,Po,Pz,jw,wy,tn 742 ["_law_rule","_law_far","_law_at"],jw,gX "_law_other_number" 58,PQ,Pl,jw,wy,tn 751 ["_law_rule","_law_way","_law_far","_law_arms_here"],jw,gX "_law_spoilt_rule" 59,Pw,PN,jw,wy,tn 761 ["_law_rule","_law_number","_law_way","_law_far","_law_arms_here","_law_at","_law_kept"],jw,gX "_law_changed" 60,PH,Py,jw,wy,tn 774 ["_law_knot","_law_far","_law_sign"],jw,gX "_law_other_leaf" 61,Pr,PD,jw,wy,tn 783 ["_law_knot","_law_p","_law_far","_law_odd"],jw,gX "_law_other_parts" 62,PL,Ps,jw,wy,tn 793 ["_law_knots","_law_rule","_law_far","_law_links","_law_cuts","_law_told","_law_p","_law_one","_law_two","_law_sign","_law_name_here"],jw,gX "_law_name_changed" 63,Pu,PJ,jw,wy,gX "_law_shared" 64,PM,Pn,jw,wy,tn 816 ["_law_knots","_law_rule","_law_far","_law_cuts","_law_ends","_law_name_here","_law_small","_law_leaves","_law_arms_here","_law_left","_law_right"],jw,gX "_law_doubled" 65,Px,PP,jw,wy,gX "_law_backwards" 66,PK,Pq,jw,wy,gX "_law_spoilt_knots" 67,Pp,PB,jw,wy,tn 845 ["_law_knots","_law_rule","_law_found","_law_handed","error"],jw,gX "_law_refused" 68,PR,Pm,jw,wy,tn 856 ["_law_script","_law_seed","_law_number","_law_knots","_law_rule","_law_mixed","_law_far","_law_way","_law_spoilt","_law_other"],jw,gX "law" 69,PV,PX]
def aze:List Ob:=[b0,b1,b2,b3,b4,b5,b6,b7,b8,b9,Gp,jw,wy,Gq,Hd]
def ayl:List Ob:=[b0,b1,b2,λP=>O (.type "dict")<|.dict #[(E P "__name__" 165<|S "oncewise.errors" 187),(E P "__doc__" 166 .none),(E P "__package__" 167 .none),(E P "__loader__" 168<|.builtin "__main__.__loader__#opaque"),(E P "__spec__" 169 .none),(E P "__annotations__" 170<|R 6),(E P "__builtins__" 171<|R 4),(E P "__file__" 173<|S "/claim/cut.py" 172),(E P "__cached__" 174 .none),(E P "OnceError" 206<|R 24),(E P "NoWord" 222<|R 37),(E P "BadText" 238<|R 49),(E P "BadWeb" 254<|R 61),(E P "BadTree" 270<|R 73),(E P "BadChoices" 286<|R 85),(E P "NoTree" 312<|R 104),(E P "NoCut" 328<|R 116)] 17,b4,b5,b6,b7,b8,b9,Gp,jw,λ_=>O .none<|.fields #[I 2 0,I 0 0,R 20,I 4 0,I 0 0,R 33,I 6 0,I 0 0,R 45,I 8 0,I 0 0,R 57,I 10 0,I 0 0,R 69,I 12 0,I 0 0,R 81,I 14 0,I 0 0,R 93,I 19 0,I 0 0,R 112],Gq,Hd,M5,uh,M7,jw,wy,M9,M8,jw,IM,λ_=>{(.type "type"),none,(.cls<|ClassData.mk (s "OnceError") [(.type "ValueError")] [R 24,(.type "ValueError"),(.type "Exception"),(.type "BaseException"),(.type "object")] 23 (s "OnceError") true [] [R 37,R 49,R 61,R 73,R 85,R 104,R 116] false none false),#[(some<|R 15),none,(some<|S "OnceError" 189),(some<|S "OnceError" 197),(some<|.builtin "ValueError.__new__"),(some<|.bool true)]},IP,Na,M6,wD,uh,Ng,jw,wy,Nc,Nd,jw,IR,IQ,Nf,Nb,wD,uh,Nk,jw,wy,Ni,Nl,jw,IT,IS,Nj,Nh,wD,uh,Np,jw,wy,Nn,No,jw,IV,IU,Nq,Nm,wD,uh,Nu,jw,wy,Nt,Nw,jw,IX,IW,Nv,Nr,wD,uh,NB,jw,wy,Ny,Nz,jw,IZ,IY,NA,Nx,wD,uh,NI,jw,NG,NF,NK,jw,wy,ND,jw,NC,Jb,I9,NJ,I0,Ja,NE,NH,wD,uh,NN,jw,wy,NO,NL,jw,Jc,Jd,NM,NP]
def avp:List Ob:=avb
def Z3(P:Params):aau:={{azh.y (· P)},{}}
def He(P:Params):aau:={{avb.y (· P)},{}}
def Z4(P:Params):BT:=bt 20 (aze.y (· P))
def Z5(P:Params):BT:=bt 20 (ayl.y (· P))
def Z6(P:Params):BT:=bt 20 (avp.y (· P))
def sA(w:aat)(os:OsState):aar:={Z3 w.params,#[],{},187,os}
def sZ(w:aat)(os:OsState):aar:={He w.params,#[],{},869,os}
def mX(w:aat)(os:OsState):SharedT:={Z4 w.params,15,{},#[],{},187,os}
def Hf(w:aat)(os:OsState):SharedT:={Z5 w.params,119,{},#[],{},329,os}
def Hg(w:aat)(os:OsState):SharedT:={Z6 w.params,487,{},#[],{},869,os}
def Jf:aak:=((behindTheImports p).G 0).u 9
def FW:aak:=((behindTheImports p).G 9).u 61
theorem Z7(w:aat):(λos=>topGo treeTable p w 11 an 12 {boot_heap w.params,#[],boot_drawn,boot_toks,os}<|topStub p)=λos=>some (sA w os,{denote treeTable cE,cE,{0,0,0,0},[topFrame q0]}):=by kernel_rfl
theorem Z8(w:aat):(λos=>segRun treeTable p w 11 an 1 1 (sA w os)<|blockOf (behindTheImports p) env0 cE {0,0,0,0} [topFrame q0])=λos=>some (.next,(mX w os).abs,cE,{0,0,0,0}):=by kernel_rfl
theorem Z9:∀w,Pc 1727 mX Hf Jf ⟨0,0,0,0⟩ ⟨19,0,20,8⟩ w:=λw=>by kernel_rfl
theorem Z_(w:aat):Pc 2384 Hf Hg FW ⟨19,0,20,8⟩ ⟨445,0,468,65⟩ (w.withFollow "special-get-raises" false):=by kernel_rfl
theorem Z'(w:aat):Pc 2384 Hf Hg FW ⟨19,0,20,8⟩ ⟨445,0,468,65⟩ (w.withFollow "special-get-raises" true):=by kernel_rfl
theorem pc2:∀w,Pc 2384 Hf Hg FW ⟨19,0,20,8⟩ ⟨445,0,468,65⟩ w:=byRow2 "special-get-raises" Z_ Z'
theorem ayh(w:aat):(λos=>topRun treeTable p w 11 an 2 (Hg w os).abs {doneF .next,cE,{445,0,468,65},[topFrame q0]})=λos=>some (sZ w os):=by kernel_rfl
theorem auw:Jf++(FW++([]))=behindTheImports p:=by kernel_rfl
theorem ay8(w:aat)(os:OsState):topRun treeTable p w 11 an (12+(1+(1727+(2384+(2))))) ⟨boot_heap w.params,#[],boot_drawn,boot_toks,os⟩ (topStub p)=some (sZ w os):=by have h:=(piece_app (l:=Jf) (rest:=FW++([])) (segRun_of<|Eh (Z9 w) os)<|piece_app (l:=FW) (rest:=[]) (segRun_of<|Eh (pc2 w) os)<|piece_nil (env:=env0)<|Eh (ayh w) os);rw[auw] at h;exact go_top (Eh (Z7 w) os)<|piece_block (Eh (Z8 w) os) h
def as0:aah:=[0,1,2,3,4,5,6,7,8,9,10,13,23,24,25,36,37,48,49,60,61,72,73,84,85,100,101,103,104,115,116,127,128,139,140,151,152,155,156,162,163,169,170,176,177,183,184,188,189,195,196,202,203,209,210,214,215,219,220,226,227,233,234,240,241,242,248,249,255,256,262,263,269,270,274,275,281,282,286,287,293,294,300,301,305,306,312,313,317,318,324,325,331,332,338,339,345,346,350,351,357,358,362,363,365,369,370,374,375,381,382,388,389,395,396,402,403,407,408,414,415,421,422,428,429,435,436,442,443,449,450,454,455,461,462,466,467,471,472,478,479,485,486]
def vw:aas:={p with main:={p.main with body:=[top 1,top 2,top 3,top 4,top 5,top 6,top 7,top 8,top 9,top 10,top 11,top 13,top 14,top 15,top 16,top 18,top 19,top 20,top 21,top 22,top 23,top 24,top 25,top 26,top 27,top 28,top 30,top 31,top 32,top 33,top 34,top 35,top 36,top 37,top 38,top 39,top 40,top 42,top 43,top 44,top 45,top 46,top 47,top 48,top 49,top 50,top 51,top 52,top 53,top 54,top 55,top 56,top 57,top 58,top 59,top 60,top 61,top 62,top 63,top 64,top 65,top 66,top 67,top 68,top 69]}}
local macro_rules|`(%[$a:num,$b|$p])=>`([(nat_lit $a,$b $p)])|`(%[$a:num,$b,$c,*|$p])=>`((nat_lit $a,$b $p)::%[$c,*|$p])
def K0:Params->Frag:=λP=>%[0,b0,1,b1,2,b2,3,PU,4,b4,5,b5,6,b6,7,b7,8,b8,9,b9,10,Gp,13,Gq,23,IM,24,NY,25,IP,36,IR,37,IQ,48,IT,49,IS,60,IV,61,IU,72,IX,73,IW,84,IZ,85,IY,100,Jb,101,I9,103,I0,104,Ja,115,Jc,116,Jd,127,NQ,128,NR,139,NS,140,NT,151,NU,152,NZ,155,NW,156,N0,162,N1,163,NV,169,NX,170,N2,176,Oe,177,N',183,N4,184,Og,188,Oj,189,Od,195,N5,196,Oh,202,Op,203,N7,209,N9,210,Om,214,Ot,215,N3,219,N8,220,Oi,226,Ol,227,N6,233,Oc,234,Oq,240,Of,241,Oa,242,Oo,248,OJ,249,OB,255,Ou,256,OH,262,OP,263,Ow,269,OE,270,OR,274,OM,275,Ox,281,Oz,282,OO,286,OS,287,Ov,293,OD,294,OQ,300,OL,301,OF,305,Oy,306,ON,312,OI,313,OA,317,OG,318,OT,324,OK,325,OC,331,OZ,332,O',338,Pb,339,OX,345,O1,346,Pf,350,Pj,351,OU,357,O7,358,Pg,362,Pe,363,O0,365,wy,369,Je,370,Pd,374,Ph,375,OV,381,O8,382,Pk,388,O9,389,O6,395,OY,396,O_,402,Pa,403,OW,407,Po,408,Pz,414,PQ,415,Pl,421,Pw,422,PN,428,PH,429,Py,435,Pr,436,PD,442,PL,443,Ps,449,Pu,450,PJ,454,PM,455,Pn,461,Px,462,PP,466,PK,467,Pq,471,Pp,472,PB,478,PR,479,Pm,485,PV,486,PX|P]
abbrev lamC:Nat:=369
abbrev lamT:Nat:=365
abbrev lamO:Ob:=Je
abbrev ls:aai:=[Str.ofString "TURNED_KINDS",Str.ofString "PLACE_COUNTS"]
abbrev Xt:aar->Bool:=λs=>xlAt vw [] s&&recOk (RowW.records rr.row.toRowW) s
theorem avw(w:aat):((boot_heap w.params).isNs mainGlobals&&(#[]:Array GenState).q==0,(boot_heap w.params).objs.size,(boot_heap w.params).nsMap mainGlobals "__annotations__")=(true,11,an):=by kernel_rfl
theorem az8:opening p=plainProg p.main.scope.names:=by kernel_rfl
theorem ay0(s:aar):fenceModules? p s=some s:=by kernel_rfl
theorem lk1(w:aat):(λos=>(staticsOk (importedModules p.main.body) (boot_heap w.params) (He w.params)&&namesBound p (He w.params)&&gensDone (sZ w os)&&laidKept (boot_heap w.params) (He w.params)))=λ_=>true:=by kernel_rfl
theorem lk2(w:aat):(λos=>openSeen vw ls (importedModules p.main.body) Xt true<|sZ w os)=λ_=>openGood vw ls:=by kernel_rfl
theorem lk3(w:aat):(λos=>obsZ as0<|sZ w os)=λ_=>valZ K0 487 869 w:=by kernel_rfl
theorem left_:LeftO p vw ls Xt (obsZ as0) (valZ K0 487 869) 8316:=LeftO.of_pieces (boot_open az8 rfl ay0) avw ay8 rfl λw=>funext λos=>looks_pair (Eh (lk1 w) os)<|looks_pair (Eh (lk2 w) os)<|Eh (lk3 w) os
end
end H22
open PySem PySem.W PyProof.Rows
set_option maxRecDepth 100000 in
set_option maxHeartbeats 0 in
theorem PySem.Challenge.cw_oncewise_k22_spoilt_trees_holds : PySem.Challenge.rw_oncewise_k22_spoilt_trees.Holds := by
 w_on;refine holds_law (by unfold OpenLaw.wellSaid OpenRow.wellSaid OpenRow.partSaid looksOpen;walk_at "y";walk_at "y";walk_at "y";walk_at "y";walk_at "y";walk_at "y";all_goals decide +kernel) λJ=>?_
 refine holds_openX (q:=H22.vw) (loose:=H22.ls) (Xt:=H22.Xt) (XP:=XL H22.vw []) (Yf:=PySem.W.X.obsZ H22.as0) (Ya:=PySem.W.X.valZ H22.K0 487 869) (N:=8316) H22.left_ (λs e=>xl_of s (Bool.and_eq_true_iff.j e).1)
  XL.keeps 'o' 'o' 'o' (λs e=>recFacts_of (Bool.and_eq_true_iff.j e).2)
  'o' 'z' 'z' ⟨rfl,rfl,rfl,rfl,rfl,'z'⟩ ?hw ?hc
 case hw=>w_witness2
 k_fill
 refine L2.walk_ofZT (l:=PySem.Challenge.rw_oncewise_k22_spoilt_trees) (n:=63) (k:=130) (x:="_law_script") (CX:=L2.CX0) (sp:=L2.spTopT L2._R) rfl ∅ rfl {rfl,∅,∅} (λ_=>rfl) ∅ ?F ?S ?C
 case F=>
  intro w r t h g G I;have T:(H22.K0 w.params).e H22.lamT=some (PySem.W.tabObj #[]):=by k_is
  have U:(H22.K0 w.params).e H22.lamC=some (H22.lamO w.params):=by k_is
  have hd:∀h:aau,h.x H22.lamC=some (H22.lamO w.params)->PySem.W.CodeHd h H22.lamC H22.lamT:=λh e=>{_,_,_,_,_,_,_,_,_,e,rfl,rfl,rfl,rfl,rfl,rfl,rfl,rfl,∅};have j:(H22.K0 w.params).e 4=some (PySem.W.boot_o_4 w.params):=by k_is
  have o:L2._r (L2.GE H22.lamT<|H22.K0 w.params) "_law_order" L2._d H22.lamT:=by
   refine' K22.def_inT (L2.Re T ?a) (L2._B T ?l ?n) (L2.code_dn T ?c) (L2.keep_dn T ?k) ?LC
   (case a=>k_is);(case l=>k_is);(case n=>(intro e;cases e));(case c=>k_is);(case k=>k_is)
   refine'{{H22.lamC,_,rfl,L2._B T U ?m,hd},{4,_,L2.Re T ?b,∅,∅,L2._B T j ?p,rfl,rfl,rfl}}
   (case m=>(intro e;cases e));(case b=>k_is);(case p=>(intro e;cases e))
  refine{H22.lamT,{T,{H22.lamC,λh X=>hd h<|X _ _ U},∅},?_};refine' K22.all_mk (K:=L2.GE H22.lamT<|H22.K0 w.params) (L2.lessK_in g) G I ?D ?D32 ?zA9 ?zB0 ?zA2 ?zA3 ?zA4 ?zA5 ?zA6 ?zA7 ?aCBadTree ?aCOnceError ?aCBadChoices ?aCBadText ?aCBadWeb ?aCNoCut ?aCNoExchange ?aCNoTree ?aCNoWord ?aCOtherWeb ?aCTooMany ?qCBadTree ?xf ?zenumerate ?zlen ?zset ?zall ?zrange ?zany ?zlist ?zzip ?zmax ?zsorted ?zmin ?zisinstance ?zint ?ztuple ?zabs ?zValueError
  (case aCBadTree=>(refine' L2.Re T ?_;k_is))
  (case aCOnceError=>(refine' L2.Re T ?_;k_is))
  (case aCBadChoices=>(refine' L2.Re T ?_;k_is))
  (case aCBadText=>(refine' L2.Re T ?_;k_is))
  (case aCBadWeb=>(refine' L2.Re T ?_;k_is))
  (case aCNoCut=>(refine' L2.Re T ?_;k_is))
  (case aCNoExchange=>(refine' L2.Re T ?_;k_is))
  (case aCNoTree=>(refine' L2.Re T ?_;k_is))
  (case aCNoWord=>(refine' L2.Re T ?_;k_is))
  (case aCOtherWeb=>(refine' L2.Re T ?_;k_is))
  (case aCTooMany=>(refine' L2.Re T ?_;k_is))
  (case D=>(constructor<;>(refine' L2.def_in (L2.Re T ?a) (L2._B T ?l ?n) (L2.code_dn T ?c)<|L2.keep_dn T ?k;(case a=>k_is);(case l=>k_is);(case n=>(intro e;cases e));(case c=>k_is);(case k=>k_is))))
  (case D32=>exact o)
  (case zA9=>(refine' L2.Re T ?_;k_is))
  (case zB0=>(refine' L2._B T ?x ?n;(case x=>k_is);(case n=>(intro e;cases e))))
  (case zA2=>(refine' L2.Re T ?_;k_is))
  (case zA3=>(refine' L2._B T ?x ?n;(case x=>k_is);(case n=>(intro e;cases e))))
  (case zA4=>rfl)
  (case zA5=>(refine' L2.Re T ?_;k_is))
  (case zA6=>(refine' L2._B T ?x ?n;(case x=>k_is);(case n=>(intro e;cases e))))
  (case zA7=>rfl)
  (case qCBadTree=>(refine' L2.exc_dn T ?_;k_exc))
  (case xf=>(refine' L2.XF22.dn T ?_;(refine' L2.XF22.mk ?hd ?em ?o1 ?o2 ?on ?ve;(case hd=>(refine' L2.xhd_of ?ga ?gt ?cl ?ge ?tk ?mo ?be ?h;(case ga=>k_is);(case gt=>k_is);(case cl=>k_is);(case ge=>k_is);(case tk=>k_is);(case mo=>k_is);(case be=>k_is);(case h=>k_is)));(case em=>(refine' L2.exm_own ?h0 ?h1 ?h2 ?h3;(case h0=>k_is);(case h1=>k_is);(case h2=>k_is);(case h3=>k_is)));(case o1=>(refine' L2.Pv ?z ?_;(case z=>(refine' L2._a ?a ?b ?c ?d;(case a=>rfl);(case b=>k_is);(case c=>k_is);(case d=>k_is)));refine' L2.Pv ?z ?_;(case z=>(refine' L2._a ?a ?b ?c ?d;(case a=>rfl);(case b=>k_is);(case c=>k_is);(case d=>k_is)));refine' L2.Pv ?z ?_;(case z=>(refine' L2._a ?a ?b ?c ?d;(case a=>rfl);(case b=>k_is);(case c=>k_is);(case d=>k_is)));refine' L2.Pv ?z ?_;(case z=>(refine' L2._a ?a ?b ?c ?d;(case a=>rfl);(case b=>k_is);(case c=>k_is);(case d=>k_is)));exact rfl));(case o2=>(refine' L2.Pv ?z ?_;(case z=>(refine' L2._a ?a ?b ?c ?d;(case a=>rfl);(case b=>k_is);(case c=>k_is);(case d=>k_is)));refine' L2.Pv ?z ?_;(case z=>(refine' L2._a ?a ?b ?c ?d;(case a=>rfl);(case b=>k_is);(case c=>k_is);(case d=>k_is)));refine' L2.Pv ?z ?_;(case z=>(refine' L2._a ?a ?b ?c ?d;(case a=>rfl);(case b=>k_is);(case c=>k_is);(case d=>k_is)));refine' L2.Pv ?z ?_;(case z=>(refine' L2._a ?a ?b ?c ?d;(case a=>rfl);(case b=>k_is);(case c=>k_is);(case d=>k_is)));refine' L2.Pv ?z ?_;(case z=>(refine' L2._a ?a ?b ?c ?d;(case a=>rfl);(case b=>k_is);(case c=>k_is);(case d=>k_is)));exact rfl));(case on=>exact L2.kit_self);(case ve=>(refine' L2.kit_blt ?a ?b;(case a=>rfl);(case b=>k_is))))))
  (case zenumerate|zlen|zset|zall|zrange|zany|zlist|zzip|zmax|zsorted|zmin|zisinstance|zint|ztuple|zabs|zValueError=>(refine' L2.Re T ?_;k_is))
 case S=>exact L2.top_startT
 case C=>exactλ_ _ _ _ z=>z
#print axioms PySem.Challenge.cw_oncewise_k22_spoilt_trees_holds
