import PyProof.Rows.All
import Wide.All
import OpenK.AllK
import Wide.FinOn
import Lean
import PyProof.EqAt
import PyProof.EqKinds
import PyProof.TupleCall
import PyProof.NeKinds
import PySem.Challenge.RW_oncewise_k51_a_step_done
import OpenK.ZGo
set_option genSizeOf false
set_option genInjectivity false
set_option bootstrap.genMatcherCode false
set_option compiler.extract_closed false
set_option hygiene false
local macro_rules|`(tactic| walk_at "t")=>`(tactic| (first|assumption|exact Nat.succ_pos _|exact qw.tk (by assumption)|exact Nat.lt_of_lt_of_le (qw.tk (by assumption)) (Nat.le_add_right _ _)|exact Nat.lt_of_lt_of_le (qw.tk (by assumption)) (by assumption)))
set_option hygiene true
local macro_rules|`(tactic| walk_at "w")=>`(tactic| conv=>whnf)
local macro_rules|`(tactic| walk_at "y")=>`(tactic| ((refine PySem.W.look_both ?_ ?_);(refine PySem.W.look_both ?_ ?_);(refine PySem.W.look_both ?_ ?_);(refine PySem.W.look_both ?_ ?_);(refine PySem.W.look_both ?_ ?_);(refine PySem.W.look_both ?_ ?_)))
set_option Elab.async false
set_option linter.all false
set_option maxRecDepth 100000
abbrev Aa:=@PySem.wpAny_bind
abbrev Ab:=@PyProof.Rows.wpS_bind
abbrev Ac:=@List.length_append
abbrev Ad:=@PyProof.Rows.wpS_pure
abbrev Ae:=@List.length_map
abbrev Af:=@List.mem_cons_of_mem
abbrev Ag:=@PySem.wpAny_pure
abbrev Ah:=@PySem.W.Frag
abbrev Ai:=@List.mem_append_right
abbrev Aj:=@List.mem_append
abbrev Ak:=@List.getElem?_eq_getElem
abbrev Al:=@List.mem_singleton
abbrev Am:=@Nat.le_refl
abbrev An:=@List.mem_cons
abbrev Ao:=@List.mem_append_left
abbrev Ap:=@List.getElem?_append_right
abbrev Aq:=@List.getElem?_map
abbrev Ar:=@List.nodup_append
abbrev Au:=@List.size_toArray
abbrev Av:=@List.mem_cons_self
abbrev Aw:=@List.append_assoc
abbrev Ax:=@Option.map_eq_some_iff
abbrev Ay:=@decide_eq_false
abbrev Az:=@if_neg
abbrev AA:=@if_pos
abbrev AB:=@List.getElem?_append_left
abbrev AC:=@List.mem_of_getElem?
abbrev AD:=@List.append_nil
abbrev AE:=@List.nodup_cons
abbrev AF:=@List.map_cons
abbrev AG:=@Bool.false_ne_true
abbrev AH:=@List.map_append
abbrev AI:=@decide_eq_true
abbrev AJ:=@Ne.symm
abbrev AK:=@List.getElem?_eq_some_iff
abbrev AL:=@List.mem_filter
abbrev AM:=@List.length_cons
abbrev AN:=@PyProof.Rows.wpS_forRange
abbrev AO:=@Nat.lt_of_lt_of_le
abbrev AQ:=@Array.length_toList
abbrev AR:=@List.length_take
abbrev AS:=@List.pairwise_append
abbrev AU:=@PyProof.Rows.wpS_mono
abbrev AV:=@List.take_of_length_le
abbrev AW:=@PySem.wpAny_field
abbrev AX:=@PySem.wpAny_mono
abbrev AY:=@Int.natCast_nonneg
abbrev AZ:=@List.perm_ext_iff_of_nodup
abbrev A0:=@Nat.le_trans
abbrev A1:=@PySem.wpAny_holding
abbrev A2:=@List.flatMap_append
abbrev A3:=@List.mem_range
abbrev A4:=@Nat.ne_of_lt
abbrev A5:=@List.filter_append
abbrev A6:=@Bool.and_eq_true
abbrev A7:=@Nat.le_add_right
abbrev A8:=@List.take_append_drop
abbrev A9:=@Array.toList_append
abbrev Ba:=@List.getElem_of_mem
abbrev Bb:=@Option.some.inj
abbrev Bc:=@Array.getElem?_toList
abbrev Bd:=@List.perm_append_comm
abbrev Be:=@Nat.zero_le
abbrev Bf:=@List.take_succ
abbrev Bg:=@PySem.W.mg_none_of
abbrev Bh:=@List.getElem?_set_ne
abbrev Bi:=@List.perm_append_right_iff
abbrev Bj:=@List.mem_flatMap
abbrev Bk:=@List.length_filter_le
abbrev Bl:=@PySem.wpAny_seqItems
abbrev Bm:=@List.length_drop
abbrev Bo:=@List.take_length
abbrev Bp:=@Array.size_push
abbrev Bq:=@List.flatMap_cons
abbrev Br:=@List.filter_nil
abbrev Bt:=@Int.ofNat_inj
abbrev Bu:=@List.perm_append_left_iff
abbrev Bv:=@PySem.W.kia_one
abbrev Bw:=@List.getElem_take
abbrev Bx:=@PySem.W.mg_of
abbrev Bz:=@PySem.wpAny_newObj_type
abbrev BA:=@PySem.wpAny_rule
abbrev BB:=@List.getD_eq_getElem?_getD
abbrev BC:=@List.filter_cons_of_neg
abbrev BD:=@List.filter_cons_of_pos
abbrev BE:=@Int.toNat_natCast
abbrev BF:=@List.getElem?_set_self
abbrev BG:=@congrArg
abbrev BH:=@List.find?_cons
abbrev BI:=@List.Perm.refl
abbrev BJ:=@List.lookup_cons
abbrev BK:=@List.not_mem_nil
abbrev BL:=@PySem.mem_of_lookup
abbrev BM:=@List.mem_of_mem_take
abbrev BN:=@List.length_set
abbrev BO:=@Nat.le_of_lt
abbrev BP:=@Int.le_of_lt
abbrev BQ:=@Nat.le_succ_of_le
abbrev BR:=@Array.size_append
abbrev BS:=@Bool.eq_iff_iff
abbrev BU:=@Nat.min_eq_left
abbrev BV:=@Int.le_trans
abbrev BW:=@Bool.false_eq_true
abbrev BX:=@PySem.W.hideAll_none
abbrev BY:=@Nat.add_sub_cancel_left
abbrev BZ:=@List.length_range
abbrev B0:=@List.mem_map
abbrev B1:=@List.drop_eq_getElem_cons
abbrev B3:=@List.getElem?_eq_none
abbrev B4:=@Nat.le_of_ble_eq_true
abbrev B5:=@Nat.lt_succ_self
abbrev B6:=@Int.zero_add
abbrev B7:=@Nat.lt_succ_of_lt
abbrev B8:=@List.getElem_drop
abbrev B9:=@Nat.succ_pos
abbrev Cm:=@List.perm_middle
abbrev Cn:=@List.perm_append_singleton
abbrev Co:=@List.append_of_mem
abbrev Cp:=@Option.toList_some
abbrev Cq:=@List.length_replicate
abbrev Cr:=@List.forIn_cons
abbrev Cs:=@List.nil_append
abbrev Ct:=@PySem.W.look_both
abbrev Cu:=@List.map_map
abbrev Cv:=@List.pairwise_map
abbrev Cw:=@List.any_cons
abbrev Cy:=@List.Pairwise.imp_of_mem
abbrev Cz:=@PyProof.Rows.slot_tuple_getitem
abbrev CA:=@Nat.min_eq_right
abbrev CB:=@List.getElem_mem
abbrev CC:=@Nat.max_eq_right
abbrev CD:=@Int.mul_le_mul_of_nonneg_right
abbrev CF:=@List.take_append_of_le_length
abbrev CG:=@List.eq_nil_of_length_eq_zero
abbrev CH:=@PySem.W.of_hideAll
abbrev CI:=@Nat.lt_of_le_of_lt
abbrev CK:=@PySem.W.funFrames_hide
abbrev CL:=@List.getElem_cons_drop
abbrev CM:=@Nat.max_eq_left
abbrev CN:=@Nat.lt_irrefl
abbrev CO:=@List.cons.inj
abbrev CP:=@List.length_singleton
abbrev CQ:=@Nat.sub_eq_zero_of_le
abbrev CS:=@PyProof.Rows.callWith_type1
abbrev CT:=@Option.isSome_map
abbrev CU:=@Bool.not_eq_true'
abbrev CV:=@Array.toList_push
abbrev CW:=@List.flatten_cons
abbrev CY:=@Nat.le_succ
abbrev CZ:=@List.mem_of_mem_drop
abbrev C0:=@Array.toList_reverse
abbrev C1:=@Nat.le_sub_one_of_lt
abbrev C2:=@Nat.ne_of_gt
abbrev C3:=@Nat.sub_self
abbrev C4:=@List.flatMap_nil
abbrev C5:=@List.nodup_range
abbrev C6:=@List.filter_cons
abbrev C7:=@List.sublist_append_right
abbrev C8:=@List.pairwise_iff_getElem
abbrev C9:=@PySem.W.hideAll_get
abbrev De:=@List.filterMap_cons
abbrev Df:=@List.reverse_append
abbrev Dg:=@List.flatten_append
abbrev Di:=@List.mem_map_of_mem
abbrev Dj:=@List.perm_iff_count
abbrev Dk:=@List.length_zip
abbrev Dl:=@Array.size_extract
abbrev Dm:=@List.getElem?_replicate
abbrev Dn:=@List.getElem?_cons_succ
abbrev Do:=@List.length_eraseIdx_le
abbrev Dp:=@List.eraseIdx_cons_succ
abbrev Dq:=@Int.le_refl
abbrev Dr:=@List.eraseIdx_append_of_length_le
abbrev Ds:=@List.map_nil
abbrev Dt:=@List.forIn_nil
abbrev Du:=@Bool.not_not
abbrev Dv:=@List.mem_range'_1
abbrev Dw:=@List.drop_drop
abbrev Dx:=@List.drop_left
abbrev Dy:=@List.count_append
abbrev Dz:=@List.Sublist.refl
abbrev DA:=@List.singleton_append
abbrev DB:=@Nat.succ_le_succ
abbrev DC:=@List.all_eq_true
abbrev DD:=@List.cons_append
abbrev DE:=@List.drop_append_of_le_length
abbrev DF:=@List.getElem?_of_mem
abbrev DG:=@List.exists_mem_of_length_pos
abbrev DH:=@List.of_mem_zip
abbrev DI:=@List.length_nil
abbrev DJ:=@Nat.le_add_left
abbrev DK:=@List.getElem?_range
abbrev DL:=@List.length_pos_iff
abbrev DM:=@List.perm_singleton
abbrev DN:=@Nat.lt_or_ge
abbrev DO:=@List.mem_filterMap
abbrev DP:=@Option.isSome_some
abbrev DQ:=@List.drop_zero
abbrev DR:=@PySem.F.excBase_ValueError
abbrev DS:=@Int.emod_lt_of_pos
abbrev DU:=@Nat.lt_or_eq_of_le
abbrev DV:=@List.getElem?_take
abbrev DW:=@List.getElem?_drop
abbrev DX:=@List.nodup_nil
abbrev DY:=@List.Perm.cons_inv
abbrev DZ:=@PySem.F.slot_dict_getitem
abbrev Eb:=@List.getElem?_zip_eq_some
abbrev Ec:=@PySem.W.kitx_list
abbrev Ed:=@List.take_sublist
abbrev Ee:=@List.nodup_range'
abbrev Ef:=@List.ext_getElem?
abbrev Eg:=@List.reverse_perm
abbrev Eh:=@List.getElem?_take_of_lt
abbrev Ei:=@List.all_cons
abbrev Ej:=@List.getElem_append_left
abbrev Ek:=@List.sublist_append_left
abbrev El:=@List.getElem_inj
abbrev Em:=@List.zipIdx_cons
abbrev Eo:=@List.range'_succ
abbrev Ep:=@List.getElem?_set_self'
abbrev Er:=@congrFun
abbrev Es:=@PySem.W.cellsFrom_some
abbrev Et:=@List.drop_of_length_le
abbrev Eu:=@List.length_pos_of_mem
abbrev Ew:=@Nat.zero_add
abbrev Ex:=@List.Perm.append_right
abbrev Ey:=@Bool.or_eq_true
abbrev Ez:=@Int.emod_nonneg
abbrev EC:=@beq_false_of_ne
abbrev ED:=@Int.add_mul
abbrev EE:=@Bool.and_true
abbrev EF:=@List.sum_cons
abbrev EG:=@Nat.add_assoc
abbrev EH:=@List.map_take
abbrev EI:=@Nat.sub_le
abbrev EJ:=@Prod.ext
abbrev qy:=@PySem.Heap.get?_push_of_some
abbrev r4:=@PySem.Heap.lt_size
abbrev sy:=@PySem.Heap.get?_push_size
abbrev vb:=@PySem.PassesOwn.never
abbrev wh:=@PySem.Heap.SameBut.update
abbrev xT:=@PySem.Heap.get?_update_other
abbrev ya:=@PySem.Heap.get?_update_self
abbrev At:=@PySem.F.slot_tuple_iterator_next
abbrev Bs:=@PySem.MeetsSeq.plain_remove_loop
abbrev Db:=@PySem.W.look_both
abbrev DT:=@PySem.Calls.spliced_cons
abbrev Ev:=@PySem.Around.under_plainId
abbrev EQ:=@PySem.F.plain_extend_loop
abbrev Fa:=@PySem.Calls.spliced_nil
abbrev Fe:=@PySem.Heap.size_push
abbrev Ff:=@PySem.F.slot_zip_next
noncomputable section
namespace L2
open PySem PyProof.Rows
theorem iY{M:Model}{U:Ctx}{p:Pos}{t:Sem Fin}{fs:List Frame}{s s':Shared}{e:End}(h:Runs M U p t fs s e s'):s.toks<=s'.toks:=by induction h with|fresh _ g=>exact A0 (CY _) g|call _ _ I J=>exact A0 I J|resumeFresh _ _ _ _ I J=>exact A0 I J|resumeSuspended _ _ _ _ I J=>exact A0 I J|segRet _ _ I J=>exact A0 I J|segGen _ _ I J=>exact A0 I J|segSuspGen _ _ _ _ I J=>exact A0 I J|_=>first|exact Am _|assumption
theorem ut{M:Model}{J:Ctx}{p:Pos}{g:Nat}{r:Resume}{s s':Shared}{res:GenResult}(h:Wakes M J p g r s res s'):s.toks<=s'.toks:=by
 unfold Wakes at h;split at h
 ·exact h.elim
 ·split at h
  ·obtain⟨e,U,I,_,_,rfl⟩:=h;have q:=iY I;exact q
  ·obtain⟨_,rfl⟩:=h;exact Am _
  ·obtain⟨_,rfl⟩:=h;exact Am _
 ·obtain⟨e,U,I,_,_,rfl⟩:=h;have q:=iY I;exact q
 ·obtain⟨_,rfl⟩:=h;exact Am _
 ·obtain⟨_,rfl⟩:=h;exact Am _
theorem ahd{α:Type}{M:Model}{j:Ctx}(t:Sem α):∀{Q:α->Pos->Shared->Prop} {E:Value->Pos->Shared->Prop} {p:Pos} {s:Shared} (n:Nat),n<=s.toks->Sem.wp M j t Q E p s->Sem.wp M j t (λa U s'=>Q a U s'/\n<=s'.toks) (λe U s'=>E e U s'/\n<=s'.toks) p s:=by induction t with|pure a=>intro Q E p s n I h;exact⟨h,I⟩|raise e=>intro Q E p s n I h;exact⟨h,I⟩|load a part k J=>rintro Q E p s n I ⟨o,h1,h2⟩;exact⟨o,h1,J o n I h2⟩|update a part f k J=>rintro Q E p s n I ⟨h1,h2⟩;exact⟨h1,J () n I h2⟩|fresh k J=>intro Q E p s n I h;exact J s.toks n (A0 I<|CY _) h|choose C m k J=>rintro Q E p s n I ⟨h1,h2⟩;exact⟨h1,J _ n I h2⟩|call c hd g l k J=>rintro Q E p s n I ⟨r,s',h1,h2⟩;exact⟨r,s',h1,J r n (A0 I<|iY h1) h2⟩|genState g k J=>rintro Q E p s n I ⟨st,h1,h2⟩;exact⟨st,h1,J _ n I h2⟩|resume g r l k J=>rintro Q E p s n I ⟨res,s',h1,h2⟩;exact⟨res,s',h1,J _ n (A0 I<|ut h1) h2⟩|rule tag k J=>intro Q E p s n I h;exact J () n I h|«at» pos k J=>intro Q E p s n I h;exact J () n I h|alloc o k J=>intro Q E p s n I h;exact J _ n I h|loadIfAlive a k J=>intro Q E p s n I h;exact J _ n I h|point l k J=>intro Q E p s n I h;exact J _ n I h|ask k J=>intro Q E p s n I h;exact J _ n I h|os q l k J=>intro Q E p s n I h;exact J _ n I h|handled own k J=>intro Q E p s n I h;exact J _ n I h|newGen c k J=>intro Q E p s n I h;exact J _ n I h|stack k J=>intro Q E p s n I h;exact J _ n I h|thread k J=>intro Q E p s n I h;exact J _ n I h|unsupported w=>intro Q E p s n I h;exact h.elim|finish e=>intro Q E p s n I h;exact h.elim|register a k J=>intro Q E p s n I h;exact h.elim|yield v g l k J=>intro Q E p s n I h;exact h.elim|fork c k J=>intro Q E p s n I h;exact h.elim|await a f d l k J=>intro Q E p s n I h;exact h.elim
theorem uu{α:Type}{M:Model}{A:Around}{t:Sem α}{Q:α->Shared->Prop}{E:Value->Shared->Prop}{s:Shared}(h:wpAny M A t Q E s):wpAny M A t (λa s'=>Q a s'/\s.toks<=s'.toks) (λe s'=>E e s'/\s.toks<=s'.toks) s:=
 λJ p I=>ahd t s.toks (Am _)<|h J p I
theorem jq{α:Type}{M:Model}{A:Around}{t:Sem α}{Q:α->Shared->Prop}{E:Value->Shared->Prop}{s:Shared}(I:0<s.toks)(h:wpAny M A t (λa s'=>0<s'.toks->Q a s') (λe s'=>0<s'.toks->E e s') s):wpAny M A t Q E s:=
 AX (uu h) (λ_ _ z=>z.1<|AO I z.2) λ_ _ z=>z.1<|AO I z.2
end L2
variable {M:PySem.Model}{d i j m n na p q t' x1:Nat}{t t1 t2:Bool}{s s':PySem.Shared}{e kt o target tg value:PySem.Expr}{α β κ:Type}{A:PySem.Around}{E Q xe:PySem.Value->PySem.Shared->Prop}{eA us vs:List PySem.Value}{cd eK hE oc pm u v:PySem.Value}{base h h':PySem.Heap}{ch fp:List PySem.Addr}{C D O Pt a7 a8 c' dx f fa i1 i2 it ka l l1 l2 pa pb r9:PySem.Addr}{kx name px eH x:PySem.Str}{pins:List<|PySem.Addr×PySem.Obj}{apos fx pR np p1 p2 p3 p4 p5 pos gg tp:PySem.Pos}{st:PySem.Stmt}{mE es kb:List PySem.Expr}{body:List PySem.Stmt}{B lo:Int}{mA mg:PySem.Str->Option PySem.Value}{fd:PySem.FuncData}{ps:List PySem.Str}{fy scope:PySem.Scope}{outer:List PySem.Env}{ct lk ir qs:List<|Nat×Nat}{an od:Option PySem.Addr}{mR:Array<|Option PySem.Value}{prog:PySem.Program}{env:PySem.Env}{rks:List Int}
namespace L2
open PySem PySem.Spec PyProof.Rows
abbrev jk:=Sum Int Str
def l8:jk->Value->Bool
 |.inl k,v=>Value.isInt k v
 |.inr x,v=>Value.isStrOf x v
def asb(w:World):jk->Int
 |.inl k=>hashInt k
 |.inr x=>hashStr w x
theorem vd:∀{k:jk} {v:Value},l8 k v=true->(∃i t,k=Sum.inl i/\v=Value.int i t)\/(∃x t,k=Sum.inr x/\v=Value.str x t)
 |.inl i,v,h=>by obtain⟨t,e⟩:=Value.isInt_shape (k:=i) (v:=v) h;exact .inl ⟨i,t,rfl,e⟩
 |.inr x,v,h=>by obtain⟨t,e⟩:=Value.isStrOf_shape (x:=x) (v:=v) h;exact .inr ⟨x,t,rfl,e⟩
theorem yb(i:Int)(t:Tok):l8 (.inl i) (.int i t)=true:=by simp[l8,Value.isInt]
theorem yP(x:Str)(t:Tok):l8 (.inr x) (.str x t)=true:=by simp[l8,Value.isStrOf]
theorem am8(a b:Int):decide ((Sum.inl a:jk)=Sum.inl b)=(a==b):=by
 by_cases e:a=b
 ·subst e;simp
 ·have h:¬(Sum.inl a:jk)=Sum.inl b:=λq=>e<|Sum.inl.inj q;rw[Ay h];exact(beq_eq_false_iff_ne.mpr e).symm
theorem amd(a b:Str):decide ((Sum.inr a:jk)=Sum.inr b)=decide (a=b):=by
 by_cases e:a=b
 ·subst e;simp
 ·have h:¬(Sum.inr a:jk)=Sum.inr b:=λq=>e<|Sum.inr.inj q;rw[Ay h,Ay e]
theorem ak5(a:Int)(b:Str):decide ((Sum.inl a:jk)=Sum.inr b)=false:=Ay λq=>nomatch q
theorem ajv(a:Str)(b:Int):decide ((Sum.inr a:jk)=Sum.inl b)=false:=Ay λq=>nomatch q
def v9(prog:Program)(w:World):PySem.KeyKind prog w jk where
 is:=l8
 hash:=asb w
 inj:=λv a b g U=>by
  rcases vd g with⟨i,t,rfl,rfl⟩|⟨x,t,rfl,rfl⟩
  ·rcases vd U with⟨j,u,rfl,e⟩|⟨y,u,rfl,e⟩
   ·injection e with I _;rw[I]
   ·exact nomatch e
  ·rcases vd U with⟨j,u,rfl,e⟩|⟨y,u,rfl,e⟩
   ·exact nomatch e
   ·injection e with I _;rw[I]
 byValue:=λk v h=>by rcases vd h with⟨i,t,rfl,rfl⟩|⟨x,t,rfl,rfl⟩<;>rfl
 pyHash:=λJ h=>by
  rcases vd J with⟨i,t,rfl,rfl⟩|⟨x,t,rfl,rfl⟩
  ·exact wpAny_pyHash_int h
  ·exact wpAny_pyHash_str h
 eqBool:=λl J h=>by
  rcases vd l with⟨i,t,rfl,rfl⟩|⟨x,t,rfl,rfl⟩
  ·rcases vd J with⟨j,u,rfl,rfl⟩|⟨y,u,rfl,rfl⟩
   ·rw[am8] at h;exact wpAny_eqBool_int h
   ·rw[ak5] at h;exact SeqAt.EqAt.int_str i t y u _ _ _ _ h
  ·rcases vd J with⟨j,u,rfl,rfl⟩|⟨y,u,rfl,rfl⟩
   ·rw[ajv] at h;exact SeqAt.EqAt.str_int x t j u _ _ _ _ h
   ·rw[amd] at h;exact wpAny_eqBool_str h
 «strs» := λk x t v h=>by
  rcases vd h with⟨i,u,rfl,e⟩|⟨y,u,rfl,e⟩
  ·exact nomatch e
  ·injection e with I _
   subst I;cases v<;>rfl
theorem sw(prog:Program)(w:World)(i:Int)(t:Tok):(v9 prog w).is (.inl i) (.int i t)=true:=yb i t
theorem uO(prog:Program)(w:World)(x:Str)(t:Tok):(v9 prog w).is (.inr x) (.str x t)=true:=yP x t
set_option genInjectivity true in
inductive V where
 |non|bl (b:Bool)|int (i:Int)|str (x:Str)|byt (b:Array UInt8)|flt (b:UInt64)|ref (a:Addr)|ty (n:String)
 deriving DecidableEq
def zr:V->Value->Prop
 |.non,u=>u=Value.none
 |.bl b,u=>u=Value.bool b
 |.int i,u=>∃t,u=Value.int i t
 |.str x,u=>∃t,u=Value.str x t
 |.byt b,u=>∃t,u=Value.bytes b t
 |.flt b,u=>∃t,u=Value.float b t
 |.ref a,u=>u=Value.ref a
 |.ty n,u=>u=Value.type n
abbrev zw:List V->List Value->Prop:=Paired zr
theorem zw.length{xs:List V}(r:zw xs us):xs.length=us.length:=Paired.length r
theorem zw.get:∀{xs:List V} {us:List Value} {i:Nat} {x:V},zw xs us->xs[i]?=some x->∃u,us[i]?=some u/\zr x u
 |_,_,_,_,.nil,e=>by simp at e
 |_,_,0,_,.cons r _,e=>by simp at e;subst e;exact⟨_,rfl,r⟩
 |_,_,i+1,x,.cons _ t,e=>by obtain⟨u,h1,h2⟩:=zw.get (i:=i) (x:=x) t (by simpa using e);exact⟨u,by simpa using h1,h2⟩
theorem zw.set{x:V}{u:Value}(r:zr x u):∀{xs:List V} {us:List Value} (i:Nat),zw xs us->zw (xs.set i x) (us.set i u)
 |_,_,_,.nil=>.nil
 |_,_,0,.cons _ t=>.cons r t
 |_,_,i+1,.cons q t=>.cons q<|zw.set r i t
theorem zw.append:∀{xs ys:List V} {us I:List Value},zw xs us->zw ys I->zw (xs++ys) (us++I):=by
 intro xs ys us I h s
 induction h with|nil=>exact s|cons r t J=>exact .cons r J
theorem zw.take:∀{xs:List V} {us:List Value} (n:Nat),zw xs us->zw (xs.take n) (us.take n)
 |_,_,0,_=>.nil
 |_,_,_+1,.nil=>.nil
 |_,_,n+1,.cons r t=>.cons r<|zw.take n t
theorem zw.drop:∀{xs:List V} {us:List Value} (n:Nat),zw xs us->zw (xs.drop n) (us.drop n)
 |_,_,0,r=>r
 |_,_,_+1,.nil=>.nil
 |_,_,n+1,.cons _ t=>zw.drop n t
def i5:Option V->Option Value->Prop
 |some v,some u=>zr v u
 |none,none=>True
 |_,_=>False
def KV :List (κ×V)->List (κ×Value)->Prop:=Paired λ(p:κ×V) (q:κ×Value)=>p.1=q.1/\zr p.2 q.2
def kV:jk->V
 |.inl i=>.int i
 |.inr x=>.str x
inductive HO where
 |lst (xs:List V)
 |tup (xs:List V)
 |dK (kvs:List<|jk×V)|dT (kvs:List<|List jk×V)
 |set (S:Int->Bool) (n:Nat)
 |ins (C dx:Addr) (fs:List<|Str×V)
 |own (x:Addr)
 |xd (fs:List<|Str×V)
 |met (f x:Addr)
 |rng (lo hi:Int)
 |frz (o:Obj) (u:HO)
 |tbl (ps:Array Value)
 |ext (φ:Heap->Prop)
abbrev Hp:=Addr->Option HO
def upd(H:Hp)(a:Addr)(o:HO):Hp:=λb=>if b=a then some o else H b
theorem zh{H:Hp}{a:Addr}{o:HO}:upd H a o a=some o:=by unfold upd;rw[AA rfl]
theorem ql{H:Hp}{a b:Addr}{o:HO}(h:b≠a):upd H a o b=H b:=by unfold upd;rw[Az h]
theorem xA{H:Hp}{a:Addr}{o u:HO}:upd (upd H a o) a u=upd H a u:=by funext b;unfold upd;split<;>rfl
theorem ans{H:Hp}{a b:Addr}{o u:HO}(h:H a=some o)(h':H b=some u)(d:o≠u):a≠b:=by intro e;subst e;rw[h] at h';exact d<|Bb h'
theorem zn{H:Hp}{a b:Addr}{o:HO}(h:H a=some o)(h':H b=none):a≠b:=by intro e;subst e;rw[h] at h';cases h'
section
variable (P:Program)(w:World)
def xi(H:Hp)(h:Heap)(a:Addr):HO->Prop
 |.lst xs=>xs.length<=sizeLine/\∃(eA:List Value) (n:Nat),zw xs eA/\h.get? a=some { cls:=.type "list",data:=.seq eA.toArray n }
 |.tup xs=>xs.length<=sizeLine/\∃eA:List Value,zw xs eA/\IsTup h a eA.toArray
 |.dK kvs=>kvs.length<=sizeLine/\(a==sysModules)=false/\∃vs,KV kvs vs/\h.DictOf (v9 P w) a vs
 |.dT kvs=>kvs.length<=sizeLine/\(a==sysModules)=false/\∃xs:List (List jk×Addr×Value),
  Paired (λ(p:List jk×V) (q:List jk×Addr×Value)=>p.1=q.1/\H q.2.1=some (.tup<|p.1.map kV)/\zr p.2 q.2.2) kvs xs/\
  ∃o es J,h.get? a=some o/\o.ExactDict/\o.data=.dict es J/\es.toList=xs.map (entryOfKey<|tupleKind<|v9 P w)/\(xs.map (·.1)).Nodup
 |.set S n=>h.SetOf (intKind P w) a S n
 |.ins C dx fs=>H dx=some (.own a)/\fs.length<=1000/\dx≠a/\h.get? a=some (PySem.W.instObj C dx)/\
  ∃mA,h.Ns1 dx mA/\(∀f,i5 (fs.lookup f)<|mA f)/\PySem.Within mA (fs.map (·.1))
 |.own _=>∃o,h.get? a=some o
 |.xd fs=>∃mA,h.Ns1 a mA/\∀f,i5 (fs.lookup f)<|mA f
 |.rng lo hi=>∃t u v,h.get? a=some { cls:=.type "range",data:=.fields #[.int lo t,.int hi u,.int 1 v] }
 |.frz o u=>h.get? a=some o/\xi H h a u
 |.tbl ps=>h.get? a=some { cls:=.none,data:=.fields ps }
 |.met f x=>h.get? a=some (PySem.W.methodObj (.ref f)<|.ref x)
 |.ext I=>I h/\(∃o,h.get? a=some o)/\∀h1 h2:Heap,I h1->(∀o,h1.get? a=some o->h2.get? a=some o)->I h2
def dm(H:Hp)(h:Heap):Prop:=∀a o,H a=some o->xi P w H h a o
end
section
variable {P:Program}{w:World}{H H':Hp}{a:Addr}{o:HO}
theorem xi.lt(x:xi P w H h a o):a<h.objs.size:=by
 cases o with
 |lst J=>obtain⟨_,_,_,_,e⟩:=x;exact r4 e
 |tup J=>obtain⟨_,_,_,p⟩:=x;exact p.lt
 |dK I=>obtain⟨_,_,_,_,o,_,_,e,_⟩:=x;exact r4 e
 |dT I=>obtain⟨_,_,_,_,o,_,_,e,_⟩:=x;exact r4 e
 |set S n=>obtain⟨o,_,_,_,e,_⟩:=x;exact r4 e
 |ins C U fs=>obtain⟨_,_,_,e,_⟩:=x;exact r4 e
 |own y=>obtain⟨_,e⟩:=x;exact r4 e
 |xd fs=>obtain⟨_,⟨_,_,_,e,_⟩,_⟩:=x;exact r4 e
 |rng lo g=>obtain⟨_,_,_,e⟩:=x;exact r4 e
 |frz ob u=>obtain⟨e,_⟩:=x;exact r4 e
 |tbl j=>exact r4<|show h.get? a=some _ from x
 |met f y=>exact r4<|show h.get? a=some _ from x
 |ext l=>obtain⟨_,⟨_,e⟩,_⟩:=x;exact r4 e
theorem Paired.mapP{F G:α->β->Prop}:∀{l₁:List α} {l₂:List β},Paired F l₁ l₂->(∀a b,F a b->G a b)->Paired G l₁ l₂:=by
 intro l₁ l₂ h f
 induction h with|nil=>exact .nil|cons r t I=>exact .cons (f _ _ r) I
abbrev ER:=@Paired.mapP
theorem xi.stay(x:xi P w H h a o)(k:∀b u,(b=a\/H b=some (.own a))->h.get? b=some u->h'.get? b=some u)
 (ho:∀b,H b=some (.own a)->H' b=some (.own a)) (ht:∀b xs,H b=some (.tup xs)->H' b=some (.tup xs)):xi P w H' h' a o:=by
 induction o with
 |lst xs=>obtain⟨z,U,n,r,e⟩:=x;exact⟨z,U,n,r,k _ _ (.inl rfl) e⟩
 |tup xs=>obtain⟨z,U,r,ob,e,c⟩:=x;exact⟨z,U,r,ob,k _ _ (.inl rfl) e,c⟩
 |dK g=>obtain⟨z,y,vs,r,ob,I,J,e,c⟩:=x;exact⟨z,y,vs,r,ob,I,J,k _ _ (.inl rfl) e,c⟩
 |dT g=>
  obtain⟨z,y,xs,r,ob,I,J,e,c⟩:=x;exact⟨z,y,xs,ER r λp q z=>⟨z.1,ht _ _ z.2.1,z.2.2⟩,ob,I,J,k _ _ (.inl rfl) e,c⟩
 |set S n=>obtain⟨ob,I,J,t,e,c⟩:=x;exact⟨ob,I,J,t,k _ _ (.inl rfl) e,c⟩
 |ins C dx fs=>
  obtain⟨d,z,ne,e,j,⟨l,I,J,e2,c⟩,r⟩:=x;exact⟨ho _ d,z,ne,k _ _ (.inl rfl) e,j,⟨l,I,J,k _ _ (.inr d) e2,c⟩,r⟩
 |own y=>obtain⟨ob,e⟩:=x;exact⟨ob,k _ _ (.inl rfl) e⟩
 |xd fs=>obtain⟨j,⟨l,I,J,e,c⟩,r⟩:=x;exact⟨j,⟨l,I,J,k _ _ (.inl rfl) e,c⟩,r⟩
 |rng lo hi=>obtain⟨t,u,v,e⟩:=x;exact⟨t,u,v,k _ _ (.inl rfl) e⟩
 |frz ob u ih=>obtain⟨e,q⟩:=x;exact⟨k _ _ (.inl rfl) e,ih q⟩
 |tbl T=>
  have e:h.get? a=some { cls:=.none,data:=.fields T }:=x;show h'.get? a=some { cls:=.none,data:=.fields T };exact k a _ (.inl rfl) e
 |met f y=>
  have e:h.get? a=some (PySem.W.methodObj (.ref f)<|.ref y):=x;show h'.get? a=some (PySem.W.methodObj (.ref f)<|.ref y);exact k a _ (.inl rfl) e
 |ext φ=>obtain⟨p,⟨o,e⟩,st⟩:=x;exact⟨st _ _ p λo q=>k _ _ (.inl rfl) q,⟨o,k _ _ (.inl rfl) e⟩,st⟩
theorem dm.lt(x:dm P w H h)(e:H a=some o):a<h.objs.size:=(x a o e).lt
theorem dm.fresh(x:dm P w H h)(e:h.objs.size<=a):H a=none:=by cases q:H a with|none=>rfl|some u=>exact absurd (AO (x.lt q) e)<|CN _
theorem dm.kept(x:dm P w H h)(k:∀b u,h.get? b=some u->h'.get? b=some u):dm P w H h':=λa o e=>
 (x a o e).stay (λb u _ q=>k b u q) (λ_ q=>q) λ_ _ q=>q
theorem dm.laid(x:dm P w H h)(k:∀b u,h.get? b=some u->h'.get? b=some u)(U:h.objs.size<=a)(new:xi P w (upd H a o) h' a o):dm P w (upd H a o) h':=λb u e=>by
 have I:=x.fresh U;by_cases J:b=a
 ·subst J;rw[zh] at e;cases e;exact new
 ·rw[ql J] at e;exact(x b u e).stay (λc v _ q=>k c v q) (λc q=>by rw[ql<|zn q I];exact q) λc g q=>by rw[ql<|zn q I];exact q
end
def Rd(H:Hp)(a:Addr)(u:HO):Prop:=H a=some u\/∃o,H a=some (.frz o u)
theorem Rd.ok{P:Program}{w:World}{H:Hp}{a:Addr}{u:HO}(r:Rd H a u)(x:dm P w H h):xi P w H h a u:=by
 rcases r with r|⟨o,r⟩
 ·exact x a u r
 ·obtain⟨_,q⟩:=x a _ r;exact q
def Mut:Option HO->Prop
 |some (.lst _)=>True
 |some (.dK _)=>True
 |some (.dT _)=>True
 |some (.set _ _)=>True
 |some (.ins _ _ _)=>True
 |some (.ext _)=>True
 |_=>False
section
variable {P:Program}{w:World}{H:Hp}{x e:Addr}{o':HO}
theorem dm.write(ok:dm P w H h)(g:Mut<|H x)(t:e=x\/H e=some (.own x))(k:∀b u,b≠e->h.get? b=some u->h'.get? b=some u)(p:∃u,h'.get? e=some u)
 (new:xi P w (upd H x o') h' x o'):dm P w (upd H x o') h':=λb u q=>by
 have J:∀c y,H c=some (.own y)->c≠x:=λc y r z=>by subst z;rw[r] at g;exact g
 have U:∀c j,H c=some (.tup j)->c≠x:=λc j r z=>by subst z;rw[r] at g;exact g
 by_cases l:b=x
 ·subst l;rw[zh] at q;cases q;exact new
 ·rw[ql l] at q;by_cases I:b=e
  ·have C:H b=some (.own x):=by
    rcases t with z|z
    ·exact absurd (I.trans z) l
    ·rw[I];exact z
   rw[q] at C;cases C;obtain⟨v,T⟩:=p;exact⟨v,by rw[I];exact T⟩
  ·refine(ok b u q).stay (λc v o r=>k c v ?_ r) (λc r=>by rw[ql<|J c b r];exact r) λc j r=>by rw[ql<|U c j r];exact r
   rcases o with rfl|o
   ·exact I
   ·rintro rfl;rcases t with z|z
    ·exact J c b o z
    ·rw[o] at z;cases z;exact l rfl
end
structure Un(fs ex:List Addr)(H H':Hp)(h h':Heap):Prop where
 keep:∀b o,h.get? b=some o->H b=none->b∉fs->b∉ex->h'.get? b=some o
 slot:∀b o,h.get? b=some o->H b=none->b∈fs->b∉ex->∃sl,h'.get? b=some { o with slots:=sl }
 free:∀b o,h.get? b=some o->H b=none->b∉ex->H' b=none
 there:∀b o,h.get? b=some o->b∉ex->∃o',h'.get? b=some o'
 tups:∀b xs,H b=some (.tup xs)->H' b=some (.tup xs)
 frzs:∀b o u,H b=some (.frz o u)->H' b=some (.frz o u)
 tbls:∀b ps,H b=some (.tbl ps)->∃more,H' b=some (.tbl<|ps++more)
section
variable {fs fs' ex ex':List Addr}{H H1 H2:Hp}{h1 h2:Heap}{a x e:Addr}{o:HO}
theorem Un.any(u:Un fs ex H H1 h h1){b:Addr}{ob:Obj}(q:h.get? b=some ob)(n:H b=none)(I:b∉ex):∃U,h1.get? b=some { ob with slots:=U }:=by
 by_cases J:b∈fs
 ·exact u.slot b ob q n J I
 ·exact⟨ob.slots,u.keep b ob q n J I⟩
theorem Un.kept(k:∀b u,h.get? b=some u->h'.get? b=some u):Un fs ex H H h h':=
 ⟨λb ob q _ _ _=>k b ob q,λb ob q _ _ _=>⟨ob.slots,k b ob q⟩,λ_ _ _ n _=>n,λb ob q _=>⟨ob,k b ob q⟩,λ_ _ q=>q,λ_ _ _ q=>q,λ_ I q=>⟨#[],by rw[q];simp⟩⟩
theorem Un.refl:Un fs ex H H h h:=Un.kept λ_ _ q=>q
theorem Un.laid(k:∀b u,h.get? b=some u->h'.get? b=some u)(J:h.objs.size<=a)(I:H a=none):Un fs ex H (upd H a o) h h' where
 keep:=λb u q _ _ _=>k b u q
 slot:=λb u q _ _ _=>⟨u.slots,k b u q⟩
 free:=λb u q n _=>by rw[ql<|A4<|AO (r4 q) J];exact n
 there:=λb u q _=>⟨u,k b u q⟩
 tups:=λb U q=>by rw[ql<|zn q I];exact q
 frzs:=λb u U q=>by rw[ql<|zn q I];exact q
 tbls:=λb g q=>⟨#[],by rw[ql<|zn q I,q];simp⟩
theorem Un.write(J:Mut<|H x)(p:e=x\/H e=some (.own x))(k:∀b u,b≠e->h.get? b=some u->h'.get? b=some u)(U:∃u,h'.get? e=some u):Un fs ex H (upd H x o) h h':=by
 have j:∀b,H b=none->b≠x:=λb n z=>by subst z;rw[n] at J;exact J
 have l:∀b,H b=none->b≠e:=λb n z=>by
  subst z;rcases p with r|r
  ·exact j b n r
  ·rw[n] at r;cases r
 have g:∀b u,H b=some u->¬Mut (some u)->b≠x:=λb u q nm z=>by subst z;rw[q] at J;exact nm J
 refine⟨λb u q n _ _=>k b u (l b n) q,λb u q n _ _=>⟨u.slots,k b u (l b n) q⟩,λb u q n _=>by rw[ql<|j b n];exact n,λb u q _=>?_,
  λb t q=>by rw[ql<|g b _ q λz=>z];exact q,λb u t q=>by rw[ql<|g b _ q λz=>z];exact q,λb C q=>⟨#[],by rw[ql<|g b _ q λz=>z,q];simp⟩⟩
 by_cases I:b=e
 ·subst I;exact U
 ·exact⟨u,k b u I q⟩
end
def trk(h:Heap)(H:Hp):List Addr:=(List.range h.objs.size).filter λa=>(H a).isSome
def pO(h:Heap)(H:Hp):Heap:=PySem.W.hideAll h<|trk h H
theorem aal(h:Heap)(H:Hp):(pO h H).objs.size=h.objs.size:=PySem.W.hideAll_size _ _
theorem abj{H:Hp}{b:Addr}{o:Obj}(e:h.get? b=some o)(n:H b=none):(pO h H).get? b=some o:=
 C9 _ e λI=>by have q:(H b).isSome=true:=(AL.mp I).2;rw[n] at q;simp at q
theorem agy{H:Hp}{b:Addr}{o:Obj}(e:(pO h H).get? b=some o):h.get? b=some o/\H b=none:=by
 have I:h.get? b=some o:=CH (trk h H) e;refine⟨I,?_⟩;cases q:H b with
 |none=>rfl
 |some x=>
  have J:b∈trk h H:=AL.mpr ⟨A3.mpr<|r4 I,by simp[q]⟩;have z:(pO h H).get? b=none:=BX (trk h H) J;rw[z] at e;cases e
end L2
variable {xs zs:List L2.V}{H H' H₀:L2.Hp}
namespace L2
open PySem PySem.Spec PyProof.Rows
structure Mod(K:Ah)(mg:Str->Option Value)(base:Heap):Prop where
 kin:K.In base
 glob:base.Ns mainGlobals mg
 blt:∃mb,base.Ns builtinsNs mb/\∀x:Str,x ≠ "__name__" -> mb x=bootBuiltins x
 nolimit:base.NoLimit
structure Cx where
 prog:Program
 w:World
 K:Ah
 mg:Str->Option Value
 base:Heap
 A:Around
 N:List Str
 s₀:Shared
 H₀:Hp
 env:Env
 outer:List Env
 stack:List Env
 ex:List Addr
 fn:Str->Bool
 calm:Bool
 pn:List (Addr×Obj)
 xe:Value->Shared->Prop
def bY(l:List Env):List Addr:=l.filterMap (·.frame)
abbrev Cx.fs(X:Cx):List Addr:=bY X.outer
def Vis(I:Scope)(x:Str):Prop:=I.names.lookup x=some .local\/I.names.lookup x=some .cell\/I.names.lookup x=some .free
def Loc(I:Scope)(x:Str):Prop:=I.names.lookup x=some .local\/I.names.lookup x=some .cell
def at6(env:Env)(h:Heap)(m:Str->Option Value)(x:Str)(u:Value):Prop:=
 (env.kindOf x=some .local/\m x=some u)\/((env.kindOf x=some .cell\/env.kindOf x=some .free)/\∃c,env.cells.lookup x=some c/\h.IsCell c (some u))
structure Cx.Ok(X:Cx):Prop where
 mod:Mod X.K X.mg X.base
 kind:X.env.scope.kind=.function
 glob:X.env.globals=mainGlobals
 blt:X.env.builtins=builtinsNs
 above:X.s₀.heap.objs.size<=X.env.locals
 inj:∀x y c,X.env.cells.lookup x=some c->X.env.cells.lookup y=some c->x=y
 has:∀x,(X.env.kindOf x=some .cell\/X.env.kindOf x=some .free)->∃c,X.env.cells.lookup x=some c
 cab:∀x c,X.fn x=true->X.env.cells.lookup x=some c->X.s₀.heap.objs.size<=c
 hd:X.calm=true->X.A.handled=none
 frames:X.A.frames=some X.stack
 stk:X.stack=X.outer\/(X.stack=X.env::X.outer/\X.env.frame=some X.env.locals)
 exf:∀b∈X.ex,b≠X.env.locals/\∀x c,X.env.cells.lookup x=some c->c≠b
 bs:∀b o,X.base.get? b=some o->X.s₀.heap.get? b=some o/\X.H₀ b=none
 bsz:X.base.objs.size<=X.s₀.heap.objs.size
 noex:∀b o,X.base.get? b=some o->b∉X.ex
 exfs:∀b∈X.ex,b∉X.fs
 funs:X.s₀.heap.FunFrames X.base X.outer
 frf:∀b∈X.fs,X.H₀ b=none
structure qw(X:Cx)(pins:List<|Addr×Obj)(σ:List<|Option V)(H:Hp)(s:Shared):Prop where
 ok:X.Ok
 os:s.os=X.s₀.os
 bare:AllBare s.gens
 base:Un X.fs X.ex X.H₀ H X.s₀.heap s.heap
 loc:∃m,s.heap.Ns X.env.locals m/\∀(i:Nat) (x:Str) (v:V),X.N[i]?=some x->σ[i]?=some (some v)->Vis X.env.scope x->∃u,zr v u/\at6 X.env s.heap m x u
 cell:∀x c,X.env.cells.lookup x=some c->∃v,s.heap.IsCell c v
 free:H X.env.locals=none
 freeC:∀x c,X.env.cells.lookup x=some c->H c=none
 pin:∀p∈X.pn++pins,s.heap.get? p.1=some p.2/\H p.1=none/\p.1≠X.env.locals/\p.1∉X.fs/\∀v,p.2.data≠.cell v
 hok:dm X.prog X.w H s.heap
 len:σ.length=X.N.length
 tk:0<s.toks
section
variable {X:Cx}{σ:List<|Option V}
theorem Cx.Ok.nofr(ok:X.Ok){b:Addr}{o:Obj}(e:X.base.get? b=some o):b∉X.fs:=λI=>by have:=(ok.funs.mem I).1;rw[e] at this;cases this
theorem qw.bs(I:qw X pins σ H s):∀b o,X.base.get? b=some o->s.heap.get? b=some o/\H b=none:=λb o e=>
 ⟨I.base.keep b o (I.ok.bs b o e).1 (I.ok.bs b o e).2 (I.ok.nofr e)<|I.ok.noex b o e,I.base.free b o (I.ok.bs b o e).1 (I.ok.bs b o e).2<|I.ok.noex b o e⟩
theorem qw.bk(I:qw X pins σ H s):∀b o,X.base.get? b=some o->s.heap.get? b=some o:=λb o e=>(I.bs b o e).1
theorem qw.mod(I:qw X pins σ H s):Mod X.K X.mg X.base:=I.ok.mod
theorem qw.kIn(I:qw X pins σ H s):X.K.In s.heap:=I.ok.mod.kin.keeps I.bk
theorem qw.nolimit(I:qw X pins σ H s):s.heap.NoLimit:=I.ok.mod.nolimit.keeps I.bk
theorem qw.lt(I:qw X pins σ H s):X.env.locals<s.heap.objs.size:=let ⟨_,J,_⟩:=I.loc;J.lt
theorem qw.sz(I:qw X pins σ H s):X.s₀.heap.objs.size<=s.heap.objs.size:=A0 I.ok.above<|BO I.lt
theorem qw.nofs(I:qw X pins σ H s){a:Addr}(h:s.heap.objs.size<=a):a∉X.fs:=λJ=>by obtain⟨_,o,U,_⟩:=I.ok.funs.mem J;exact absurd (AO (r4 U)<|A0 I.sz h)<|CN _
theorem qw.cne(I:qw X pins σ H s):∀x c,X.env.cells.lookup x=some c->c≠X.env.locals:=λx c e z=>by obtain⟨v,o,g,hd⟩:=I.cell x c e;obtain⟨m,⟨j,l,p,J,U,_⟩,_⟩:=I.loc;rw[z,J] at g;cases g;rw[U] at hd;cases hd
theorem qw.funs(I:qw X pins σ H s):s.heap.FunFrames X.base X.outer:=by
 have all:∀(l:List Env),(∀b∈bY l,b∈X.fs)->X.s₀.heap.FunFrames X.base l->s.heap.FunFrames X.base l:=by
  intro l
  induction l with
  |nil=>intro _ _;trivial
  |cons p r t=>
   intro j C;obtain⟨T,⟨L,o,J,hn,ho,hd⟩,hr⟩:=C;have U:L∈X.fs:=j L (by unfold bY;rw[De,J];exact Av);obtain⟨sl,e⟩:=I.base.slot L o ho (I.ok.frf L U) U λz=>I.ok.exfs L z U;exact⟨T,⟨L,_,J,hn,e,hd⟩,t (λb g=>j b (by unfold bY;rw[De,J];exact Af _ g)) hr⟩
 exact all X.outer (λ_ g=>g) I.ok.funs
theorem qw.stack(I:qw X pins σ H s):s.heap.FunFrames X.base X.stack:=by
 rcases I.ok.stk with e|⟨e,J⟩
 ·rw[e];exact I.funs
 ·rw[e];obtain⟨m,U,_⟩:=I.loc;refine .cons (by rw[I.ok.kind];decide) J U ?_ I.funs;exact Heap.get?_none_of_le<|A0 I.ok.bsz I.ok.above
theorem qw.stkSub(I:qw X pins σ H s):∀b∈bY X.stack,b∈X.env.locals::X.fs:=λb J=>by
 rcases I.ok.stk with e|⟨e,U⟩
 ·rw[e] at J;exact Af _ J
 ·rw[e] at J;unfold bY at J;rw[De,U] at J;exact J
theorem qw.stkFree(I:qw X pins σ H s):∀b∈bY X.stack,H b=none:=λb J=>by
 rcases An.mp (I.stkSub b J) with e|J
 ·rw[e];exact I.free
 ·obtain⟨_,o,U,_⟩:=I.ok.funs.mem J;exact I.base.free b o U (I.ok.frf b J) λz=>I.ok.exfs b z J
theorem qw.step{g':Array GenState}{d':Drawn}(I:qw X pins σ H s)
 (U:∀b∈ch,(b∈X.ex\/X.s₀.heap.objs.size<=b)/\b≠X.env.locals/\(∀x c,X.env.cells.lookup x=some c->c≠b)/\∀p∈X.pn++pins,p.1≠b)
 (keep:∀b o,b≠X.env.locals->b∉X.fs->b∉ch->s.heap.get? b=some o->H b=none->h'.get? b=some o)
 (slot:∀b o,b≠X.env.locals->b∈X.fs->b∉ch->s.heap.get? b=some o->H b=none->∃sl,h'.get? b=some { o with slots:=sl }) (free:∀b o,b∉ch->s.heap.get? b=some o->H b=none->H' b=none)
 (there:∀b o,b∉ch->s.heap.get? b=some o->∃o',h'.get? b=some o')
 (tups:∀b xs,H b=some (.tup xs)->H' b=some (.tup xs)) (frzs:∀b o u,H b=some (.frz o u)->H' b=some (.frz o u)) (tbls:∀b ps,H b=some (.tbl ps)->∃more,H' b=some (.tbl<|ps++more))
 (ns:∀m,s.heap.Ns X.env.locals m->h'.Ns X.env.locals m) (hok:dm X.prog X.w H' h') (hg:AllBare g') (ht:0<t':=by walk_at "t"):
 qw X pins σ H' { s with heap:=h',gens:=g',drawn:=d',toks:=t' }:=by
 have aZ:∀b o,X.s₀.heap.get? b=some o->b≠X.env.locals:=λb o e=>A4<|AO (r4 e) I.ok.above;have t:∀b o,X.s₀.heap.get? b=some o->b∉X.ex->b∉ch:=λb o e J T=>by
  rcases (U b T).1 with z|z
  ·exact J z
  ·exact absurd (AO (r4 e) z)<|CN _
 have g:∀x c,X.env.cells.lookup x=some c->∀v,s.heap.IsCell c v->h'.IsCell c v:=λx c e v ψ=>by
  obtain⟨o,ho,hd⟩:=ψ
  have j:c∉ch:=λz=>(U c z).2.2.1 x c e rfl;by_cases hc:c∈X.fs
  ·obtain⟨sl,q⟩:=slot c o (I.cne x c e) hc j ho<|I.freeC x c e;exact⟨_,q,hd⟩
  ·exact⟨o,keep c o (I.cne x c e) hc j ho<|I.freeC x c e,hd⟩
 refine⟨I.ok,I.os,hg,⟨λb o e n T J=>?_,λb o e n T J=>?_,λb o e n J=>?_,λb o e J=>?_,λb xs e=>tups b xs<|I.base.tups b xs e,λb o xs e=>frzs b o xs<|I.base.frzs b o xs e,λb ps e=>?_⟩,?_,λx c e=>?_,?_,λx c e=>?_,λp hp=>?_,hok,I.len,ht⟩
 ·exact keep b o (aZ b o e) T (t b o e J) (I.base.keep b o e n T J)<|I.base.free b o e n J
 ·obtain⟨sl,C⟩:=I.base.slot b o e n T J;obtain⟨a1,e2⟩:=slot b _ (aZ b o e) T (t b o e J) C<|I.base.free b o e n J;exact⟨a1,e2⟩
 ·obtain⟨o',C⟩:=I.base.there b o e J;exact free b o' (t b o e J) C<|I.base.free b o e n J
 ·obtain⟨o',C⟩:=I.base.there b o e J;exact there b o' (t b o e J) C
 ·obtain⟨m1,C⟩:=I.base.tbls b ps e;obtain⟨m2,e2⟩:=tbls b _ C;exact⟨m1++m2,by rw[e2,Array.append_assoc]⟩
 ·obtain⟨m,hn,hl⟩:=I.loc;refine⟨m,ns m hn,λi x v C e2 e3=>?_⟩;obtain⟨u,r,l⟩:=hl i x v C e2 e3;refine⟨u,r,?_⟩;rcases l with l|⟨k,c,e,z⟩
  ·exact .inl l
  ·exact .inr ⟨k,c,e,g x c e _ z⟩
 ·obtain⟨v,z⟩:=I.cell x c e;exact⟨v,g x c e v z⟩
 ·obtain⟨m,⟨o,_,_,ho,_⟩,_⟩:=I.loc;exact free _ o (λz=>(U _ z).2.1 rfl) ho I.free
 ·obtain⟨v,o,ho,hd⟩:=I.cell x c e;exact free c o (λz=>(U c z).2.2.1 x c e rfl) ho<|I.freeC x c e
 ·obtain⟨e,n,ne,nf,d⟩:=I.pin p hp;have j:p.1∉ch:=λz=>(U p.1 z).2.2.2 p hp rfl;exact⟨keep p.1 p.2 ne nf j e n,free p.1 p.2 j e n,ne,nf,d⟩
theorem qw.un(I:qw X pins σ H s)(u:Un X.fs [] H H' s.heap h')(hok:dm X.prog X.w H' h')(T:0<t':=by walk_at "t"):qw X pins σ H' { s with heap:=h',toks:=t' }:=by obtain⟨m,⟨o,es,ep,l,r⟩,_⟩:=id I.loc;obtain⟨sl,p⟩:=u.any l I.free (by simp);exact I.step (g':=s.gens) (d':=s.drawn) (ch:=[]) (λ_ z=>nomatch z) (λb o _ U _ e n=>u.keep b o e n U (by simp)) (λb o _ U _ e n=>u.slot b o e n U (by simp)) (λb o _ e n=>u.free b o e n (by simp)) (λb o _ e=>u.there b o e (by simp)) u.tups u.frzs u.tbls (λm' t=>by obtain⟨o',g,j,J,C⟩:=t;rw[l] at J;cases J;exact⟨_,g,j,p,C⟩) hok I.bare
theorem qw.call{g':Array GenState}{d':Drawn}(I:qw X pins σ H s)(u:Un (bY X.stack) ch H H' s.heap h')(hok:dm X.prog X.w H' h')(T:AllBare g')
 (U:∀b∈ch,(b∈X.ex\/X.s₀.heap.objs.size<=b)/\b≠X.env.locals/\(∀x c,X.env.cells.lookup x=some c->c≠b)/\∀p∈X.pn++pins,p.1≠b) (ht:0<t':=by walk_at "t"):
 qw X pins σ H' { s with heap:=h',gens:=g',drawn:=d',toks:=t' }:=by
 obtain⟨m,⟨o,es,ep,C,r⟩,_⟩:=id I.loc;obtain⟨sl,j⟩:=u.any C I.free λz=>(U _ z).2.1 rfl;exact I.step (ch:=ch) U (λb o j hb J e n=>u.keep b o e n (λz=>(An.mp<|I.stkSub b z).elim j hb) J) (λb o _ _ J e n=>u.any e n J) (λb o J e n=>u.free b o e n J) (λb o J e=>u.there b o e J) u.tups u.frzs u.tbls (λm' hm=>by obtain⟨o',l,t,g,r'⟩:=hm;rw[C] at g;cases g;exact⟨_,l,t,j,r'⟩) hok T
theorem qw.turned(I:qw X pins σ H s)(k:∀b o,b≠it->s.heap.get? b=some o->h'.get? b=some o)(j:H it=none)(g:it≠X.env.locals)
 (h1:it∈X.ex\/X.s₀.heap.objs.size<=it) (h2:∀x c,X.env.cells.lookup x=some c->c≠it) (h3:∀p∈X.pn++pins,p.1≠it) (ht:0<t':=by walk_at "t"):qw X pins σ H { s with heap:=h',toks:=t' }:=by
 have U:∀b u,H b=some u->b≠it:=λb u e z=>by rw[z,j] at e;cases e
 refine I.step (g':=s.gens) (d':=s.drawn) (ch:=[it]) (λb l=>?_) (λb o _ _ J e _=>k b o (λz=>J (by simp[z])) e) (λb o _ _ J e _=>⟨o.slots,k b o (λz=>J (by simp[z])) e⟩) (λ_ _ _ _ n=>n)
  (λb o J e=>⟨o,k b o (λz=>J (by simp[z])) e⟩) (λ_ _ e=>e) (λ_ _ _ e=>e) (λb ps e=>⟨#[],by rw[e];simp⟩) (λm t=>?_) (λb u e=>?_) I.bare
 ·have e:b=it:=by simpa using l
  subst e;exact⟨h1,g,h2,h3⟩
 ·obtain⟨o,C,T,ho,r⟩:=t;exact⟨o,C,T,k _ o (AJ g) ho,r⟩
 ·refine(I.hok b u e).stay (λc v J q=>k c v ?_ q) (λ_ q=>q) λ_ _ q=>q;rcases J with z|z
  ·rw[z];exact U b u e
  ·exact U c _ z
theorem qw.tok(I:qw X pins σ H s)(t:Nat)(J:0<t:=by walk_at "t"):qw X pins σ H { s with toks:=t }:=I.un (h':=s.heap) (t':=t) Un.refl I.hok
theorem qw.kept(I:qw X pins σ H s)(k:∀b u,s.heap.get? b=some u->h'.get? b=some u)(J:0<t':=by walk_at "t"):qw X pins σ H { s with heap:=h',toks:=t' }:=I.un (Un.kept k)<|I.hok.kept k
theorem qw.laid{a:Addr}{o:HO}(I:qw X pins σ H s)(k:∀b u,s.heap.get? b=some u->h'.get? b=some u)(J:s.heap.objs.size<=a)(new:xi X.prog X.w (upd H a o) h' a o)(U:0<t':=by walk_at "t"):
 qw X pins σ (upd H a o) { s with heap:=h',toks:=t' }:=I.un (Un.laid k J<|I.hok.fresh J)<|I.hok.laid k J new
theorem qw.write{x e:Addr}{o:HO}(I:qw X pins σ H s)(U:Mut<|H x)(g:e=x\/H e=some (.own x))(k:∀b u,b≠e->s.heap.get? b=some u->h'.get? b=some u)(J:∃u,h'.get? e=some u)
 (new:xi X.prog X.w (upd H x o) h' x o) (j:0<t':=by walk_at "t"):qw X pins σ (upd H x o) { s with heap:=h',toks:=t' }:=I.un (Un.write U g k J)<|I.hok.write U g k J new
theorem qw.weak{hQ:List<|Option V}(I:qw X pins σ H s)(U:hQ.length=σ.length)(w:∀(i:Nat) v,hQ[i]?=some (some v)->σ[i]?=some (some v)):qw X pins hQ H s:=
 ⟨I.ok,I.os,I.bare,I.base,let ⟨m,g,J⟩:=I.loc;⟨m,g,λi x v j l o=>J i x v j (w i v l) o⟩,I.cell,I.free,I.freeC,I.pin,I.hok,U.trans I.len,I.tk⟩
theorem qw.pins_of{J:List<|Addr×Obj}(I:qw X pins σ H s)(h:∀p∈J,s.heap.get? p.1=some p.2/\H p.1=none/\p.1≠X.env.locals/\p.1∉X.fs/\∀v,p.2.data≠.cell v):qw X J σ H s:=
 ⟨I.ok,I.os,I.bare,I.base,I.loc,I.cell,I.free,I.freeC,λp U=>(Aj.mp U).elim (λz=>I.pin p<|Ao _ z)<|h p,I.hok,I.len,I.tk⟩
theorem lU{N:List Str}(hN:N.Nodup)(a:N[i]?=some x)(b:N[j]?=some x):i=j:=by obtain⟨h1,I⟩:=AK.mp a;obtain⟨h2,J⟩:=AK.mp b;exact(El hN).mp (I.trans J.symm)
theorem oS{v:V}{Q:Unit->Shared->Prop}(I:qw X pins σ H s)(hN:X.N.Nodup)(hi:X.N[i]?=some x)(t:Loc X.env.scope x)(r:zr v u)
 (h:∀s',qw X pins (σ.set i<|some v) H s'->(∃a,Heap.SameBut a s.heap s'.heap/\(a=X.env.locals\/X.env.cells.lookup x=some a))->(X.env.kindOf x=some .local->∃m',s'.heap.Ns X.env.locals m'/\m' x=some u)->Q () s') (hf:X.fn x=true\/X.env.scope.names.lookup x=some .local:=by first|exact .inl rfl|exact .inr rfl|assumption):wpAny M A (storeName X.env x u) Q E s:=by
 obtain⟨m,hn,hl⟩:=id I.loc;have a3:(X.env.scope.kind==.class||(X.env.scope.kind==.module&&X.env.locals != X.env.globals))=false:=by rw[I.ok.kind];rfl
 have a1:i<σ.length:=by rw[I.len];exact(AK.mp hi).1
 have cne:=I.cne;have U:∀{a:Addr} {h':Heap},(∃o,s.heap.get? a=some o/\H a=none)->Heap.SameBut a s.heap h'->dm X.prog X.w H h':=λ{a h'} ha J b ob e=>by
  obtain⟨_,_,C⟩:=ha;refine(I.hok b ob e).stay (λc w' l q=>(J.2 c ?_).trans q) (λ_ q=>q) λ_ _ q=>q;rintro rfl;rcases l with rfl|l
  ·rw[C] at e;cases e
  ·rw[C] at l;cases l
 rcases t with T|T
 ·refine wpAny_storeName_local T hn (λh' a4 J=>?_) a3;obtain⟨oL,_,_,av,_⟩:=id hn;refine h _ ⟨I.ok,I.os,I.bare,⟨λb o e n hb t=>?_,λb o e n hb t=>?_,I.base.free,λb o e t=>?_,I.base.tups,I.base.frzs,I.base.tbls⟩,⟨_,a4,λj y v' g e2 e3=>?_⟩,λy c e=>?_,I.free,I.freeC,λp hp=>?_,U ⟨oL,av,I.free⟩ J,by simpa using I.len,by first|exact I.tk|exact B9 _⟩ ⟨_,J,.inl rfl⟩ λ_=>⟨_,a4,by simp⟩
  ·exact(J.2 b<|A4<|AO (r4 e) I.ok.above).trans (I.base.keep b o e n hb t)
  ·obtain⟨sl,g⟩:=I.base.slot b o e n hb t;exact⟨sl,(J.2 b<|A4<|AO (r4 e) I.ok.above).trans g⟩
  ·obtain⟨o',g⟩:=I.base.there b o e t;exact⟨o',(J.2 b<|A4<|AO (r4 e) I.ok.above).trans g⟩
  ·by_cases hj:j=i
   ·subst hj;rw[hi] at g;cases g;rw[BF a1] at e2;cases e2;exact⟨u,r,.inl ⟨T,by simp⟩⟩
   ·rw[Bh<|AJ hj] at e2;obtain⟨u',r',q⟩:=hl j y v' g e2 e3;refine⟨u',r',?_⟩;rcases q with⟨k,e⟩|⟨k,c,e,z⟩
    ·refine .inl ⟨k,?_⟩;have:y≠x:=λe=>hj<|lU hN g<|e▸hi;simp[this,e]
    ·exact .inr ⟨k,c,e,z.sameBut J<|cne y c e⟩
  ·obtain⟨w',z⟩:=I.cell y c e;exact⟨w',z.sameBut J<|cne y c e⟩
  ·obtain⟨e,n,ne,nf,d⟩:=I.pin p hp;exact⟨(J.2 p.1 ne).trans e,n,ne,nf,d⟩
 ·have a2:X.fn x=true:=by
   rcases hf with z|z
   ·exact z
   ·rw[z] at T;cases T
  obtain⟨c,l⟩:=I.ok.has x<|.inl T;obtain⟨w',z⟩:=I.cell x c l;refine wpAny_storeName_cell I.ok.kind T l z λh' a5 J=>?_;obtain⟨oc,ac,al⟩:=id z;refine h { s with heap:=h' } ⟨I.ok,I.os,I.bare,⟨λb o e n hb t=>?_,λb o e n hb t=>?_,I.base.free,λb o e t=>?_,I.base.tups,I.base.frzs,I.base.tbls⟩,⟨m,hn.sameBut J<|AJ<|cne x c l,λj y v' g e2 e3=>?_⟩,λy c' e=>?_,I.free,I.freeC,λp hp=>?_,U ⟨oc,ac,I.freeC x c l⟩ J,by simpa using I.len,I.tk⟩ ⟨c,J,.inr l⟩ (λz=>by have e:=(show X.env.kindOf x=some .cell from T).symm.trans z;cases e)
  ·exact(J.2 b<|A4<|AO (r4 e)<|I.ok.cab x c a2 l).trans (I.base.keep b o e n hb t)
  ·obtain⟨sl,g⟩:=I.base.slot b o e n hb t;exact⟨sl,(J.2 b<|A4<|AO (r4 e)<|I.ok.cab x c a2 l).trans g⟩
  ·obtain⟨o',g⟩:=I.base.there b o e t;exact⟨o',(J.2 b<|A4<|AO (r4 e)<|I.ok.cab x c a2 l).trans g⟩
  ·by_cases hj:j=i
   ·subst hj;rw[hi] at g;cases g;rw[BF a1] at e2;cases e2;exact⟨u,r,.inr ⟨.inl T,c,l,a5⟩⟩
   ·rw[Bh<|AJ hj] at e2;obtain⟨u',r',q⟩:=hl j y v' g e2 e3;refine⟨u',r',?_⟩;rcases q with q|⟨k,c',e,z'⟩
    ·exact .inl q
    ·refine .inr ⟨k,c',e,z'.sameBut J ?_⟩;rintro rfl;exact hj<|lU hN g<|I.ok.inj _ _ _ e l▸hi
  ·by_cases au:c'=c
   ·subst au;exact⟨_,a5⟩
   ·obtain⟨w2,z2⟩:=I.cell y c' e;exact⟨w2,z2.sameBut J au⟩
  ·obtain⟨e,n,ne,nf,d⟩:=I.pin p hp;refine⟨(J.2 p.1 ?_).trans e,n,ne,nf,d⟩;intro q;rw[q,ac] at e;have q':oc=p.2:=Bb e;exact d w' (by rw[<-q'];exact al)
theorem dy{v:V}{Q:Unit->Shared->Prop}(I:qw X pins σ H s)(hN:X.N.Nodup)(hi:X.N[i]?=some x)(J:Loc X.env.scope x)(r:zr v u)
 (h:∀s',qw X pins (σ.set i<|some v) H s'->Q () s') (U:X.fn x=true\/X.env.scope.names.lookup x=some .local:=by first|exact .inl rfl|exact .inr rfl|assumption):wpAny M A (storeName X.env x u) Q E s:=
 oS I hN hi J r (λs' g _ _=>h s' g) U
theorem qw.call'(I:qw X pins σ H s)(U:s'.os=s.os)(u:Un (bY X.stack) ch H H' s.heap s'.heap)(hok:dm X.prog X.w H' s'.heap)(g:AllBare s'.gens)
 (J:∀b∈ch,(b∈X.ex\/X.s₀.heap.objs.size<=b)/\b≠X.env.locals/\(∀x c,X.env.cells.lookup x=some c->c≠b)/\∀p∈X.pn++pins,p.1≠b) (j:0<s'.toks:=by walk_at "t"):qw X pins σ H' s':=by
 obtain⟨o,g',d',t',l⟩:=s';have e:l=s.os:=U;subst e;exact I.call (g':=g') (t':=t') (d':=d') u hok g J j
end
abbrev XK:=Value->Option Addr->Hp->Prop
abbrev St:=List<|Option V
abbrev VK:=V->Hp->Prop
abbrev TE:=St->Hp->VK->Prop
abbrev TT:=St->Hp->(Bool->Hp->Prop)->Prop
abbrev TA:=St->Hp->(List V->Hp->Prop)->Prop
structure m9 where
 nx:St->Hp->Prop
 rt:VK
 bk:St->Hp->Prop:=λ_ _=>False
 ct:St->Hp->Prop:=λ_ _=>False
abbrev TS:=m9->St->Hp->Prop
def EP(X:Cx)(pins:List<|Addr×Obj)(σ:St)(Q:VK)(u:Value)(s':Shared):Prop:=∃v H',qw X pins σ H' s'/\zr v u/\Q v H'
def TP(X:Cx)(pins:List<|Addr×Obj)(σ:St)(Q:Bool->Hp->Prop)(b:Bool)(s':Shared):Prop:=∃H',qw X pins σ H' s'/\Q b H'
def AP(X:Cx)(pins:List<|Addr×Obj)(σ:St)(Q:List V->Hp->Prop)(us:List Value)(s':Shared):Prop:=∃vs H',qw X pins σ H' s'/\zw vs us/\Q vs H'
def SP(X:Cx)(pins:List<|Addr×Obj)(D:m9)(f:Flow)(s':Shared):Prop:=
 match f with
 |.next=>∃hQ H',qw X pins hQ H' s'/\D.nx hQ H'
 |.brk=>∃hQ H',qw X pins hQ H' s'/\D.bk hQ H'
 |.cont=>∃hQ H',qw X pins hQ H' s'/\D.ct hQ H'
 |.ret u=>∃v hQ H',qw X pins hQ H' s'/\zr v u/\D.rt v H'
def PE(X:Cx)(e:Expr)(t:TE):Prop:=
 ∀(pins:List<|Addr×Obj) (s:Shared) (σ:St) (H:Hp) (Q:VK),qw X pins σ H s->t σ H Q->wpAny (model X.prog X.w) X.A (eval e X.env) (EP X pins σ Q) X.xe s
def PT(X:Cx)(e:Expr)(t:TT):Prop:=
 ∀(pins:List<|Addr×Obj) (s:Shared) (σ:St) (H:Hp) (Q:Bool->Hp->Prop),qw X pins σ H s->t σ H Q->wpAny (model X.prog X.w) X.A (isTrue e X.env<|eval e X.env) (TP X pins σ Q) X.xe s
def PW(X:Cx)(e:Expr)(t:TT):Prop:=
 ∀(whole:Sem Value) (pins:List<|Addr×Obj) (s:Shared) (σ:St) (H:Hp) (Q:Bool->Hp->Prop),qw X pins σ H s->t σ H Q->wpAny (model X.prog X.w) X.A (isTrue e X.env whole) (TP X pins σ Q) X.xe s
theorem PW.pt{X:Cx}{t:TT}(h:PW X e t):PT X e t:=h _
def PA(X:Cx)(es:List Expr)(t:TA):Prop:=
 ∀(pos:Pos) (pins:List<|Addr×Obj) (s:Shared) (σ:St) (H:Hp) (Q:List V->Hp->Prop),qw X pins σ H s->t σ H Q->wpAny (model X.prog X.w) X.A (spliced<|backTo pos<|starEach es X.env) (AP X pins σ Q) X.xe s
def PS(X:Cx)(st:Stmt)(t:TS):Prop:=
 ∀(pins:List<|Addr×Obj) (s:Shared) (σ:St) (H:Hp) (D:m9),qw X pins σ H s->t D σ H->wpAny (model X.prog X.w) X.A (exec st X.env) (SP X pins D) X.xe s
def gl(X:Cx)(st:List Stmt)(t:TS):Prop:=
 ∀(pins:List<|Addr×Obj) (s:Shared) (σ:St) (H:Hp) (D:m9),qw X pins σ H s->t D σ H->wpAny (model X.prog X.w) X.A (execs st X.env) (SP X pins D) X.xe s
theorem aH{t:Sem α}{Q I:α->Shared->Prop}(h:wpAny M A t Q E s)(J:∀a s,Q a s->I a s):wpAny M A t I E s:=AX h J λ_ _ x=>x
theorem ar{t:Sem Value}{X:Cx}{σ:St}{Q:VK}{I:Value->Shared->Prop}(h:wpAny M A t (EP X pins σ Q) E s)(J:∀v s x H,qw X pins σ H s->zr x v->Q x H->I v s):wpAny M A t I E s:=aH h λv s ψ=>(by obtain⟨x,H,a,b,c⟩:=ψ;exact J v s x H a b c)
theorem yk{t:Sem<|List Value}{X:Cx}{σ:St}{Q:List V->Hp->Prop}{I:List Value->Shared->Prop}(h:wpAny M A t (AP X pins σ Q) E s)(J:∀v s x H,qw X pins σ H s->zw x v->Q x H->I v s):wpAny M A t I E s:=aH h λv s ψ=>(by obtain⟨x,H,a,b,c⟩:=ψ;exact J v s x H a b c)
end L2
variable {r:L2.V->Option Int->Option Int->L2.Hp->L2.VK->Prop}{X:L2.Cx}{σ:L2.St}
namespace L2
open PySem PySem.Spec PyProof.Rows
section
def ak9(i:Nat):TE:=λσ H Q=>∃v,σ[i]?=some (some v)/\Q v H
def tC(v:V):TE:=λ_ H Q=>Q v H
abbrev Fb(x:Str):Prop:=(x==("__debug__":Str))=false
abbrev Fc(x:Str):Prop:=(x==("__classdict__":Str))=false
theorem akh(hN:X.N[i]?=some x)(p:Vis X.env.scope x)(hd:Fb x:=by decide)(j:Fc x:=by decide):PE X (.Name x pos) (ak9 i):=by
 intro g s t H Q I h;obtain⟨v,e,h⟩:=h;obtain⟨m,C,T⟩:=I.loc;obtain⟨u,r,l⟩:=T i x v hN e p;have x9:EP X g t Q u s:=⟨v,H,I,r,h⟩;rcases l with⟨U,hm⟩|⟨U,c,o,J⟩
 ·exact wpAny_Name (wpAny_loadName_local I.ok.kind U C hm x9) hd
 ·rcases U with U|U
  ·exact wpAny_Name (wpAny_loadName_cell I.ok.kind U o J x9) hd
  ·exact wpAny_Name (wpAny_loadName_free I.ok.kind U o J x9 j) hd
theorem al1{i j pos}:PE X (.Constant (.int i) j pos) (tC<|.int i):=λ_ _ _ H _ I h=>wpAny_Constant_int ⟨.int i,H,I.tok _,⟨_,rfl⟩,h⟩
theorem apf{b j pos}:PE X (.Constant (.bool b) j pos) (tC<|.bl b):=λ_ _ _ H _ I h=>Constant_bool ⟨.bl b,H,I,rfl,h⟩
theorem ajy{j pos}:PE X (.Constant .none j pos) (tC .non):=λ_ _ _ H _ I h=>Constant_none ⟨.non,H,I,rfl,h⟩
theorem dH{x j pos}:PE X (.Constant (.str x) j pos) (tC<|.str x):=λ_ _ _ H _ I h=>Calls.Constant_str ⟨.str x,H,I.tok _,⟨_,rfl⟩,h⟩
def Gl(X:Cx)(x:Str):Prop:=X.env.kindOf x=some .globalImplicit
theorem gR(I:qw X pins σ H s)(J:Gl X x)(U:X.mg x=some u)(h:Q u s)
 (hd:Fb x:=by decide):wpAny (model X.prog X.w) X.A (eval (.Name x pos) X.env) Q E s:=
 Calls.Name_function_global I.ok.kind J (Calls.loadGlobal_global (by rw[I.ok.glob];exact I.mod.glob.keeps I.bk) U h) hd
theorem fA(I:qw X pins σ H s)(J:Gl X x)(U:X.mg x=none)(g:bootBuiltins x=some u)(h:Q u s)
 (j:x ≠ "__name__" := by decide) (hd:Fb x:=by decide):wpAny (model X.prog X.w) X.A (eval (.Name x pos) X.env) Q E s:=by
 obtain⟨l,h1,h2⟩:=I.mod.blt;exact Calls.Name_function_global I.ok.kind J (Calls.loadGlobal_builtin (by rw[I.ok.glob];exact I.mod.glob.keeps I.bk) U (by rw[I.ok.blt];exact h1.keeps I.bk) ((h2 x j).trans g) h) hd
theorem afd{v:V}(J:Gl X x)(U:X.mg x=some u)(r:zr v u)(hd:Fb x:=by decide):PE X (.Name x pos) (tC v):=
 λ_ _ _ H _ I h=>gR I J U ⟨v,H,I,r,h⟩ hd
theorem ahp{v:V}(J:Gl X x)(U:X.mg x=none)(g:bootBuiltins x=some u)(r:zr v u)(j:x ≠ "__name__" := by decide)(hd:Fb x:=by decide):PE X (.Name x pos) (tC v):=
 λ_ _ _ H _ I h=>fA I J U g ⟨v,H,I,r,h⟩ j hd
variable {a b:Expr}{ta tb:TE}
def PC(X:Cx)(op:CmpOp)(a b:Expr)(t:TE):Prop:=
 ∀(pins:List<|Addr×Obj) (s:Shared) (σ:St) (H:Hp) (Q:VK),qw X pins σ H s->t σ H Q->
  wpAny (model X.prog X.w) X.A (eval a X.env) (λv I=>wpAny (model X.prog X.w) X.A (eval b X.env) (λu J=>wpAny (model X.prog X.w) X.A (compareOp op v u) (EP X pins σ Q) X.xe J) X.xe I) X.xe s
theorem sT(b:Expr){op:CmpOp}(h:op≠.In)(h2:op≠.NotIn):behindInMarks op b=false:=by
 have I:(op==CmpOp.In)=false:=by cases op<;>first|rfl|exact absurd rfl h
 have J:(op==CmpOp.NotIn)=false:=by cases op<;>first|rfl|exact absurd rfl h2
 cases b<;>simp[behindInMarks,I,J]
def anx(ta:TE):TE:=λσ H Q=>ta σ H λx H1=>Q (.bl<|decide<|x=.non) H1
def aj8(ta:TE):TE:=λσ H Q=>ta σ H λx H1=>Q (.bl<|!decide (x=.non)) H1
theorem zr.none_iff{x:V}(r:zr x v):(v==Value.none)=decide (x=.non):=by
 cases x with
 |non=>cases r;rfl
 |bl _=>cases r;rfl
 |int _=>obtain⟨t,rfl⟩:=r;rfl
 |str _=>obtain⟨t,rfl⟩:=r;rfl
 |byt _=>obtain⟨t,rfl⟩:=r;rfl
 |flt _=>obtain⟨t,rfl⟩:=r;rfl
 |ref _=>cases r;rfl
 |ty _=>cases r;rfl
theorem ad9{j gg}(U:PE X a ta):PC X .Is a (.Constant .none j gg) (anx ta):=by intro J s g H Q I h;refine ar (U J s g H _ I h) λv t x l o p r=>?_;exact Constant_none (is_none_gen ⟨.bl _,l,o,by rw[p.none_iff];rfl,r⟩)
theorem ai4{j gg}(U:PE X a ta):PC X .IsNot a (.Constant .none j gg) (aj8 ta):=by intro J s g H Q I h;refine ar (U J s g H _ I h) λv t x l o p r=>?_;exact Constant_none (isnot_none_gen ⟨.bl _,l,o,by rw[p.none_iff];rfl,r⟩)
def tB(t:TE):TT:=λσ H Q=>t σ H λx H1=>∃c,x=.bl c/\Q c H1
theorem aln{op:CmpOp}{t:TE}(h:PC X op a b t)(h1:behindInMarks op b=false:=by first|exact sT _ (by decide) (by decide)|rfl):PE X (.Compare a [op] [b] pos) t:=λJ s U H Q I hw=>wpAny_Compare1 (h J s U H Q I hw) h1
theorem acj{op:CmpOp}{t:TE}(h:PC X op a b t)(h1:behindInMarks op b=false:=by first|exact sT _ (by decide) (by decide)|rfl):PT X (.Compare a [op] [b] pos) (tB t):=by intro J s U H Q I hw;refine wpAny_isTrue_Compare1 (aH (h J s U H _ I hw) λv p h1=>aH h1 λu r h2=>aH h2 λc C ψ=>?_) h1;obtain⟨x,g,j,l,o⟩:=ψ;obtain⟨d,rfl,q⟩:=o;cases l;exact wpAny_truthy_bool ⟨g,j,q⟩
theorem aku{t:TE}(h:PE X e t)(U:∀whole,isTrue e X.env whole=(do let v <-whole;standAt e.pos;holding [v] (truthy v)):=by intro _;rfl):PT X e (tB t):=by intro J s g H Q I hw;refine isTrue_plain (ar (h J s g H _ I hw) λv r x j l o p=>?_)<|U _;obtain⟨d,rfl,q⟩:=p;cases o;exact wpAny_truthy_bool ⟨j,l,q⟩
variable {tA p0:TT}{rest:List Expr}
def art(t u:TT):TT:=λσ H Q=>t σ H λc H1=>if c=true then u σ H1 Q else Q false H1
def tOr(t u:TT):TT:=λσ H Q=>t σ H λc H1=>if c=true then Q true H1 else u σ H1 Q
def aso(t:TT):TT:=λσ H Q=>t σ H λc H1=>Q (!c) H1
theorem ah3(U:PT X a tA):PW X (.BoolOp .And [a] pos) tA:=by intro j J s g H Q I h;refine isTrue_and<|aH (U J s g H Q I h) λc l e=>?_;cases c with|true=>exact isTrue_and_nil e|false=>exact e
theorem ak1(U:PT X a tA):PW X (.BoolOp .Or [a] pos) tA:=by intro j J s g H Q I h;refine isTrue_or<|aH (U J s g H Q I h) λc l e=>?_;cases c with|false=>exact isTrue_or_nil e|true=>exact e
theorem ak6(o:PT X a tA)(p:PW X (.BoolOp .And (b::rest) pos) p0):PW X (.BoolOp .And (a::b::rest) pos) (art tA p0):=by intro r J s U H Q I h;refine isTrue_and<|aH (o J s U H _ I h) λc t ψ=>?_;obtain⟨g,j,l⟩:=ψ;cases c with|true=>exact p r J t U g Q j l|false=>exact⟨g,j,l⟩
theorem ap7(o:PT X a tA)(p:PW X (.BoolOp .Or (b::rest) pos) p0):PW X (.BoolOp .Or (a::b::rest) pos) (tOr tA p0):=by intro r J s U H Q I h;refine isTrue_or<|aH (o J s U H _ I h) λc t ψ=>?_;obtain⟨g,j,l⟩:=ψ;cases c with|true=>exact⟨g,j,l⟩|false=>exact p r J t U g Q j l
theorem ak3(U:PT X a tA):PT X (.UnaryOp .Not a pos) (aso tA):=by intro J s g H Q I h;exact isTrue_not<|U J s g H (λc j=>Q (!c) j) I h
def aof(ta tb:TE):TE:=λσ H Q=>ta σ H λx H1=>∃c,x=.bl c/\if c=true then tb σ H1 Q else Q (.bl false) H1
def ang(ta:TE):TE:=λσ H Q=>ta σ H λx H1=>∃c,x=.bl c/\Q (.bl<|!c) H1
theorem al5{op}{t:TE}(h:PE X a t):PE X (.BoolOp op [a] pos) t:=λJ s U H Q I hw=>BoolOp_one<|h J s U H Q I hw
theorem ajj(o:PE X a ta)(p:PE X (.BoolOp .And (b::rest) pos) tb):PE X (.BoolOp .And (a::b::rest) pos) (aof ta tb):=by
 intro J s g H Q I h;refine BoolOp_and<|ar (o J s g H _ I h) λv r x j l t U=>?_;obtain⟨c,rfl,U⟩:=U;cases t;refine wpAny_truthy_bool ?_;cases c with
 |true=>exact p J r g j Q l U
 |false=>exact⟨.bl false,j,l,rfl,U⟩
theorem ajq(g:PE X a ta):PE X (.UnaryOp .Not a pos) (ang ta):=by intro J s j H Q I h;refine UnaryOp_<|ar (g J s j H _ I h) λv r x l o p U=>?_;obtain⟨c,rfl,U⟩:=U;cases p;exact not_of<|wpAny_truthy_bool ⟨.bl<|!c,l,o,rfl,U⟩
def tIf(t:TT)(ta tb:TE):TE:=λσ H Q=>t σ H λc H1=>if c=true then ta σ H1 Q else tb σ H1 Q
theorem acr{c:Expr}(hc:PT X c tA)(p:PE X a ta)(r:PE X b tb):PE X (.IfExp c a b pos) (tIf tA ta tb):=by intro J s U H Q I h;refine wpAny_IfExp<|aH (hc J s U H _ I h) λd g ψ=>?_;obtain⟨j,l,o⟩:=ψ;cases d with|true=>exact p J g U j Q l o|false=>exact r J g U j Q l o
end
def aI(K:Ah)(H:Hp)(a:Addr)(xs:List V):Prop:=
 Rd H a (.lst xs)\/
  ∃(o:Obj) (eA:Array Value) (n:Nat),K.lookup a=some o/\o.cls=.type "list" /\ o.dict=none/\o.data=.seq eA n/\eA.size<=sizeLine/\zw xs eA.toList
def dU(K:Ah)(H:Hp)(a:Addr)(xs:List V):Prop:=
 Rd H a (.tup xs)\/
  ∃(o:Obj) (eA:Array Value) (n:Nat),K.lookup a=some o/\o.cls=.type "tuple" /\ o.data=.seq eA n/\eA.size<=sizeLine/\zw xs eA.toList
def atg:Value->Option V
 |.none=>some .non
 |.bool b=>some<|.bl b
 |.int i _=>some<|.int i
 |.str x _=>some<|.str x
 |.bytes b _=>some<|.byt b
 |.float b _=>some<|.flt b
 |.ref a=>some<|.ref a
 |.type n=>some<|.ty n
 |_=>none
theorem zr.abs{x:V}(r:zr x u):atg u=some x:=by
 cases x with
 |non=>cases r;rfl
 |bl _=>cases r;rfl
 |int _=>obtain⟨t,rfl⟩:=r;rfl
 |str _=>obtain⟨t,rfl⟩:=r;rfl
 |byt _=>obtain⟨t,rfl⟩:=r;rfl
 |flt _=>obtain⟨t,rfl⟩:=r;rfl
 |ref _=>cases r;rfl
 |ty _=>cases r;rfl
theorem zr.inj{x y:V}(r:zr x u)(q:zr y u):x=y:=Bb<|r.abs.symm.trans q.abs
theorem zw.inj:∀{xs ys:List V} {us:List Value},zw xs us->zw ys us->xs=ys:=by
 intro xs ys us h k
 induction h generalizing ys with
 |nil=>cases k;rfl
 |cons r t I=>
  cases k with|cons J U=>rw[r.inj J,I U]
section
variable {a:Addr}{ys:List V}
theorem aI.of{K:Ah}(h:H a=some (.lst xs)):aI K H a xs:=.inl<|.inl h
theorem dU.of{K:Ah}(h:H a=some (.tup xs)):dU K H a xs:=.inl<|.inl h
theorem qw.list(I:qw X pins σ H s)(h:aI X.K H a xs):∃eA:List Value,zw xs eA/\PlainL s.heap a eA.toArray/\xs.length<=sizeLine:=by
 rcases h with h|⟨o,eA,n,J,U,hd,g,j,r⟩
 ·obtain⟨z,eA,n,r,e⟩:=h.ok I.hok;exact⟨eA,r,⟨_,n,e,rfl,rfl,rfl⟩,z⟩
 ·refine⟨eA.toList,r,⟨o,n,I.kIn a o J,U,hd,by simpa using g⟩,?_⟩;have e:=r.length;simp only[AQ] at e;lia
theorem qw.tuple(I:qw X pins σ H s)(h:dU X.K H a xs):∃eA:List Value,zw xs eA/\IsTup s.heap a eA.toArray/\xs.length<=sizeLine:=by
 rcases h with h|⟨o,eA,n,J,U,g,j,r⟩
 ·obtain⟨z,eA,r,p⟩:=h.ok I.hok;exact⟨eA,r,p,z⟩
 ·refine⟨eA.toList,r,⟨o,I.kIn a o J,U,n,by simpa using g⟩,?_⟩;have e:=r.length;simp only[AQ] at e;lia
theorem qw.list_inj(I:qw X pins σ H s)(h:aI X.K H a xs)(h':aI X.K H a ys):xs=ys:=by
 obtain⟨U,r,⟨o,n,e,_,_,d⟩,_⟩:=I.list h;obtain⟨J,l,⟨p,t,g,_,_,j⟩,_⟩:=I.list h';rw[e] at g;cases g;rw[d] at j;injection j with d1 _
 have:U=J:=by simpa using BG Array.toList d1
 subst this;exact r.inj l
theorem qw.tuple_inj(I:qw X pins σ H s)(h:dU X.K H a xs)(h':dU X.K H a ys):xs=ys:=by
 obtain⟨U,r,⟨o,e,_,n,d⟩,_⟩:=I.tuple h;obtain⟨J,l,⟨p,g,_,t,j⟩,_⟩:=I.tuple h';rw[e] at g;cases g;rw[d] at j;injection j with d1 _
 have:U=J:=by simpa using BG Array.toList d1
 subst this;exact r.inj l
end
abbrev Cx.wish(X:Cx)(E:Value->Shared->Prop):Cx:={ X with xe:=E }
abbrev Cx.nox(X:Cx):Cx:=X.wish λ_ _=>False
theorem Cx.Ok.wish(ok:X.Ok)(E:Value->Shared->Prop):(X.wish E).Ok:=
 ⟨ok.mod,ok.kind,ok.glob,ok.blt,ok.above,ok.inj,ok.has,ok.cab,ok.hd,ok.frames,ok.stk,ok.exf,ok.bs,ok.bsz,ok.noex,ok.exfs,ok.funs,ok.frf⟩
theorem Cx.Ok.unwish(ok:(X.wish E).Ok):X.Ok:=
 ⟨ok.mod,ok.kind,ok.glob,ok.blt,ok.above,ok.inj,ok.has,ok.cab,ok.hd,ok.frames,ok.stk,ok.exf,ok.bs,ok.bsz,ok.noex,ok.exfs,ok.funs,ok.frf⟩
theorem qw.wish(I:qw X pins σ H s)(E:Value->Shared->Prop):qw (X.wish E) pins σ H s:=⟨I.ok.wish E,I.os,I.bare,I.base,I.loc,I.cell,I.free,I.freeC,I.pin,I.hok,I.len,I.tk⟩
theorem qw.unwish(I:qw (X.wish E) pins σ H s):qw X pins σ H s:=⟨I.ok.unwish,I.os,I.bare,I.base,I.loc,I.cell,I.free,I.freeC,I.pin,I.hok,I.len,I.tk⟩
theorem SP.unwish{D:m9}{f:Flow}(h:SP (X.wish E) pins D f s'):SP X pins D f s':=by
 cases f with
 |next=>obtain⟨J,U,I,q⟩:=h;exact⟨J,U,I.unwish,q⟩
 |brk=>obtain⟨J,U,I,q⟩:=h;exact⟨J,U,I.unwish,q⟩
 |cont=>obtain⟨J,U,I,q⟩:=h;exact⟨J,U,I.unwish,q⟩
 |ret u=>obtain⟨v,J,U,I,r,q⟩:=h;exact⟨v,J,U,I.unwish,r,q⟩
theorem gl.nox{st:List Stmt}{t:TS}(h:gl X.nox st t):gl X st t:=λJ s U H D I hw=>
 AX (h J s U H D (I.wish _) hw) (λ_ _ q=>q.unwish) λ_ _ z=>False.elim z
section
variable {rest:List Stmt}{t u:TS}{te:TE}
def ane:TS:=λD σ H=>D.nx σ H
def as7(t u:TS):TS:=λD σ H=>t { D with nx:=u D } σ H
theorem ahq:gl X [] ane:=λ_ _ J H _ I h=>wpAny_execs_nil ⟨J,H,I,h⟩
theorem u0(h1:PS X st t)(h2:gl X rest u):gl X (st::rest) (as7 t u):=by
 intro J s g H D I h;refine wpAny_execs_cons<|aH (h1 J s g H { D with nx:=u D } I h) λf j q=>?_;cases f with
 |next=>
  obtain⟨U,l,o,q⟩:=q;exact h2 J j U l D o q
 |ret v=>exact q
 |brk=>exact q
 |cont=>exact q
theorem yF(h1:PS X st t):gl X [st] t:=by intro J s U H D I h;refine wpAny_execs_cons<|aH (h1 J s U H D I h) λf g q=>?_;cases f with|next=>exact wpAny_execs_nil q|ret v=>exact q|brk=>exact q|cont=>exact q
def aol:TS:=λD σ H=>D.ct σ H
theorem sQ:PS X (.Continue pos) aol:=λ_ _ J H _ I h=>wpAny_Continue ⟨J,H,I,h⟩
theorem qw.quiet(I:qw X pins σ H s):interactive X.env=false:=by simp[interactive,I.ok.kind]
def apw(te:TE):TS:=λD σ H=>te σ H λ_ H1=>D.nx σ H1
theorem afl(g:PE X e te)(hs:swapsWith e none pos.line X.env=pure false:=by rfl):PS X (.Expr e pos) (apw te):=by intro J s U H D I h;exact wpAny_Expr_any (ar (g J s U H _ I h) λv p x j l r o=>⟨U,j,l,o⟩) I.quiet hs
def asn(te:TE):TS:=λD σ H=>te σ H D.rt
theorem akk(g:PE X e te):PS X (.Return (some e) pos) (asn te):=by intro J s U H D I h;exact wpAny_Return_some<|ar (g J s U H _ I h) λv r x j l o p=>⟨x,U,j,l,o,p⟩
def ao3:TS:=λD _ H=>D.rt .non H
theorem ags:PS X (.Return none pos) ao3:=λ_ _ J H _ I h=>wpAny_Return_none ⟨.non,J,H,I,rfl,h⟩
def asp(c:TT)(t u:TS):TS:=λD σ H=>c σ H λb H1=>if b=true then t D σ H1 else u D σ H1
theorem an7{c:Expr}{a b:List Stmt}{tc:TT}(hc:PT X c tc)(p:gl X a t)(r:gl X b u):PS X (.If c a b pos) (asp tc t u):=by intro J s U H D I h;refine wpAny_If<|aH (hc J s U H _ I h) λd g ψ=>?_;obtain⟨j,l,o⟩:=ψ;cases d with|true=>exact p J g U j D l o|false=>exact r J g U j D l o
end
abbrev TG:=V->St->Hp->(St->Hp->Prop)->Prop
abbrev TGs:=List V->St->Hp->(St->Hp->Prop)->Prop
def PG(X:Cx)(target:Expr)(t:TG):Prop:=
 ∀(pins:List<|Addr×Obj) (s:Shared) (σ:St) (H:Hp) (v:V) (u:Value) (Q:St->Hp->Prop),qw X pins σ H s->zr v u->t v σ H Q->
  wpAny (model X.prog X.w) X.A (assign target X.env u) (λ_ s'=>∃hQ H',qw X pins hQ H' s'/\Q hQ H') X.xe s
def PGs(X:Cx)(ts:List Expr)(t:TGs):Prop:=
 ∀(pins:List<|Addr×Obj) (s:Shared) (σ:St) (H:Hp) (vs:List V) (us:List Value) (Q:St->Hp->Prop),qw X pins σ H s->zw vs us->t vs σ H Q->
  wpAny (model X.prog X.w) X.A (assignInOrder ((assignEach ts X.env).map (·.2)) us) (λ_ s'=>∃hQ H',qw X pins hQ H' s'/\Q hQ H') X.xe s
abbrev ajs:=V->V->V->Hp->(Hp->Prop)->Prop
def an2(X:Cx)(t:ajs):Prop:=
 ∀(pins:List<|Addr×Obj) (s:Shared) (σ:St) (H:Hp) (o i v:V) (I J u:Value) (Q:Hp->Prop),qw X pins σ H s->zr o I->zr i J->zr v u->t o i v H Q->
  wpAny (model X.prog X.w) X.A (setItem I J u) (λ_ s'=>∃H',qw X pins σ H' s'/\Q H') X.xe s
def lK(i:Nat):TG:=λv σ H Q=>Q (σ.set i<|some v) H
theorem yK(hN:X.N.Nodup)(hi:X.N[i]?=some x)(U:Loc X.env.scope x)(g:X.fn x=true\/X.env.scope.names.lookup x=some .local:=by first|exact .inl rfl|exact .inr rfl|assumption):PG X (.Name x pos) (lK i):=by intro J s l H v u Q I r h;exact wpAny_assign_Name<|dy I hN hi U r (λo j=>⟨_,H,j,h⟩) g
def atb:TGs:=λvs σ H Q=>vs=[]/\Q σ H
def anc(t:TG)(u:TGs):TGs:=λvs σ H Q=>∃v r,vs=v::r/\t v σ H λhQ H'=>u r hQ H' Q
theorem aff:PGs X [] atb:=by intro J s U H g j Q I r h;obtain⟨e,h⟩:=h;subst e;cases r;exact assignInOrder_nil ⟨U,H,I,h⟩
theorem ad6{t:TG}{u:TGs}(h1:PG X e t)(h2:PGs X es u)
 (hs:(assignEach (e::es) X.env).map (·.2)=assign e X.env::(assignEach es X.env).map (·.2):=by rfl):PGs X (e::es) (anc t u):=by
 intro J s g H T us Q I r h;obtain⟨v,vr,j,h⟩:=h;subst j;cases r with
 |cons r rr=>
  rw[hs];refine assignInOrder_cons<|aH (h1 J s g H _ _ _ I r h) λ_ l ψ=>?_;obtain⟨U,o,p,C⟩:=ψ;exact h2 J l U o _ _ Q p rr C
def ash(K:Ah)(n:Nat)(t:TGs):TG:=λv σ H Q=>∃a xs,v=.ref a/\dU K H a xs/\xs.length=n/\t xs σ H Q
theorem al3{k:Nat}{t:TGs}(hc:X.calm=true)(h:PGs X es t)
 (l:(assignEach es X.env).length=n:=by rfl) (U:(assignEach es X.env).findIdx? (·.1)=none:=by rfl):PG X (.Tuple es k pos) (ash X.K n t):=by
 intro J s g H v u Q I r hw;obtain⟨a,p,C,T,hl,hw⟩:=hw;subst C;cases r;obtain⟨a1,j,ht,hz⟩:=I.tuple T;refine assign_Tuple_tuple (I.ok.hd hc) ht (by simp[l,<-hl,j.length]) U λh' hx=>?_;have I1:qw X J g H { s with heap:=h' }:=I.kept (t':=s.toks) λb o e=>hx b o (A4<|r4 e) e;exact h J _ g H p _ Q I1 (by simpa using j) hw
def ars(to ti:TE)(t:ajs):TG:=λv σ H Q=>to σ H λo H1=>ti σ H1 λi H2=>t o i v H2 λI=>Q σ I
theorem ake{i:Expr}{to ti:TE}{t:ajs}(l:PE X o to)(hi:PE X i ti)(hs:an2 X t)
 (p:∀v,assign (.Subscript o i pos) X.env v=(do
  let U <-holding [v] (eval o X.env)
  let g <-holding [v,U] (eval i X.env)
  standAt pos
  holding [v,U,g] (setItem U g v)
  release [v,U,g] []):=by intro _;rfl):PG X (.Subscript o i pos) (ars to ti t):=by
 intro J s j H v u Q I r h;rw[p];refine Aa<|A1<|ar (l J s j H _ I h) λU C x T I1 r1 q1=>?_;refine Aa<|A1<|ar (hi J C j T _ I1 q1) λg s2 y H2 I2 r2 q2=>?_;refine Aa<|wpAny_standAt<|Aa<|A1<|aH (hs J s2 j H2 x y v U g u _ I2 r1 r2 r q2) λ_ s3 ψ=>?_;obtain⟨H3,I3,q3⟩:=ψ;exact wpAny_release ⟨j,H3,I3,q3⟩
def alv(te:TE)(g:TG):TS:=λD σ H=>te σ H λx H1=>g x σ H1 D.nx
theorem ack{te:TE}{g:TG}(j:PE X e te)(l:PG X tg g)(hs:swapsWithSole [tg] e pos.line X.env=pure false:=by rfl)(hw:swappedStores [tg] e X.env=pure none:=by rfl)
 (h1:(assignEach [tg] X.env).map (·.2)=[assign tg X.env]:=by rfl):PS X (.Assign [tg] e pos) (alv te g):=by
 intro J s U H D I h;refine wpAny_Assign_stores (ar (j J s U H _ I h) λv o x p r t C=>?_) hs hw;rw[h1];exact aH (l J o U p x v _ r t C) λ_ T q=>q
theorem ady{te:TE}(hN:X.N.Nodup)(hi:X.N[i]?=some x)(U:Loc X.env.scope x)(g:PE X e te)(hs:swapsWith e (some<|.Name x gg) pos.line X.env=pure false:=by rfl)(j:X.fn x=true\/X.env.scope.names.lookup x=some .local:=by first|exact .inl rfl|exact .inr rfl|assumption):
 PS X (.Assign [.Name x gg] e pos) (alv te<|lK i):=by
 intro J s l H D I h;refine wpAny_Assign_Name (ar (g J s l H _ I h) λv T y o p r t=>?_) hs;exact dy p hN hi U r (λs2 C=>⟨_,o,C,t⟩) j
def at4(i j:Nat)(ta:TA):TS:=λD σ H=>ta σ H λvs H1=>∃v w,vs=[v,w]/\D.nx ((σ.set i<|some v).set j<|some w) H1
theorem am2{y:Str}{a b:Expr}{ta:TA}{px py pt:Pos}{t k2 U}(hc:X.calm=true)(hN:X.N.Nodup)(hi:X.N[i]?=some x)(hj:X.N[j]?=some y)(C:i≠j)
 (hx:X.env.scope.names.lookup x=some .local) (hy:X.env.scope.names.lookup y=some .local) (ha:PA X [a,b] ta)
 (hw:swappedStores [.Tuple [.Name x px,.Name y py] t pt] (.Tuple [a,b] k2 U) X.env=pure (some [x,y]))
 (hs:swapsWithSole [.Tuple [.Name x px,.Name y py] t pt] (.Tuple [a,b] k2 U) pos.line X.env=pure false:=by rfl):
 PS X (.Assign [.Tuple [.Name x px,.Name y py] t pt] (.Tuple [a,b] k2 U) pos) (at4 i j ta):=by
 intro J s σ H D I h;rw[exec_Assign_arm];refine Aa<|wpAny_standAt ?_;rw[hs];refine Aa<|Ag ?_;rw[Az (by decide)];refine Aa<|Tuple_<|yk (ha _ J s σ H _ I h) λus g vs H1 I1 r1 T=>?_;obtain⟨v,w,e1,T⟩:=T;subst e1;obtain⟨l,r,rfl,rv,a1⟩:∃l r,us=[l,r]/\zr v l/\zr w r:=by
  cases r1 with
  |cons p q=>
   cases q with
   |cons p' q'=>
    cases q';exact⟨_,_,rfl,p,p'⟩
 refine Bz ?_ (by show 2<=sizeLine;decide);have I2:qw X J σ H1 { g with heap:=g.heap.push { cls:=.type "tuple",data:=.seq [l,r].toArray } }:=I1.kept (t':=g.toks) λb o e=>qy _ e;rw[hw];refine Aa<|Ag ?_;show wpAny (model X.prog X.w) X.A (do rule "assign.swapped-stores";let items <-unpackItems (.ref g.heap.objs.size) 2 none;assignInOrder [λv=>bindName X.env y v,λv=>bindName X.env x v] items.reverse;pure Flow.next) _ _ _;refine Aa<|BA<|Aa<|unpackItems_tuple (items:=#[l,r]) (I.ok.hd hc) (IsTup.new g.heap _) λh' a2=>?_;have I3:=I2.kept (h':=h') (t':=g.toks) λb o e=>a2 b o (A4<|r4 e) e;show wpAny _ _ (assignInOrder [λv=>bindName X.env y v,λv=>bindName X.env x v] [r,l] >>= λ_=>pure Flow.next) _ _ _;refine Aa<|assignInOrder_cons<|wpAny_bindName<|dy I3 hN hj (.inl hy) a1 (λs2 I4=>?_)<|.inr hy;refine assignInOrder_cons<|wpAny_bindName<|dy I4 hN hi (.inl hx) rv (λs3 I5=>assignInOrder_nil<|Ag ?_)<|.inr hx;rw[List.set_comm _ _<|AJ C] at I5;exact⟨_,H1,I5,T⟩
def akj(c:TT)(tb:TS):TS:=λD σ H=>∃W:Nat->St->Hp->Prop,(∃m,W m σ H)/\∀m σ H,W m σ H->
 c σ H λb H1=>if b=true then ∃N:St->Hp->Prop,(∀hQ H',N hQ H'->∃I,I<m/\W I hQ H')/\tb { D with nx:=N,ct:=N,bk:=D.nx } σ H1 else D.nx σ H1
theorem ad8{c:Expr}{tc:TT}{tb:TS}(hp:PassesOwn (model X.prog X.w) X.A X.env X.xe)(hc:PT X c tc)(hb:gl X body tb):PS X (.While c body [] pos) (akj tc tb):=by
 intro J s σ H D I h;obtain⟨W,⟨m0,w0⟩,turn⟩:=h;refine wpAny_While<|codeAny_whileLoop (λn s'=>∃j H',qw X J j H' s'/\W n j H') ?_ m0 ⟨σ,H,I,w0⟩;rintro n s1 ⟨g,H1,I1,w1⟩;refine wpAny_passesOwn hp<|aH (hc J s1 g H1 _ I1<|turn n g H1 w1) λb s2 ψ=>?_;obtain⟨H2,I2,o⟩:=ψ;cases b with
 |true=>
  obtain⟨N,hN,o⟩:=o;rw[AA rfl];refine wpAny_passesOwn hp<|aH (hb J s2 g H2 _ I2 o) λf s3 p=>?_;cases f with
  |next=>
   obtain⟨U,l,r,t⟩:=p;obtain⟨C,T,w3⟩:=hN U l t;exact⟨C,T,U,l,r,w3⟩
  |cont=>
   obtain⟨U,l,r,t⟩:=p;obtain⟨C,T,w3⟩:=hN U l t;exact⟨C,T,U,l,r,w3⟩
  |brk=>exact p
  |ret v=>exact p
 |false=>
  rw[Az AG];exact wpAny_execs_nil ⟨g,H2,I2,o⟩
structure It where
 go:Nat->Hp->Prop
 yld:Nat->Hp->V->Hp->Prop
 stop:Nat->Hp->Prop
def kB(X:Cx)(pins:List<|Addr×Obj)(H:Hp)(b:Addr):Prop:=
 H b=none/\b≠X.env.locals/\b∉X.fs/\(b∈X.ex\/X.s₀.heap.objs.size<=b)/\(∀x c,X.env.cells.lookup x=some c->c≠b)/\∀p∈X.pn++pins,p.1≠b
theorem qw.fpOk{b:Addr}(I:qw X pins σ H s)(J:s.heap.objs.size<=b)(U:H' b=none):kB X pins H' b:=by
 refine⟨U,C2<|AO I.lt J,I.nofs J,.inr<|A0 I.sz J,λx c e z=>?_,λp g z=>?_⟩
 ·obtain⟨v,q⟩:=I.cell x c e;exact absurd (AO q.lt (by rw[z];exact J))<|CN _
 ·exact absurd (AO (r4 (I.pin p g).1) (by rw[z];exact J))<|CN _
structure acx(P:Program)(w:World)(K:Ah)(tg:Expr)(J:It)(fp:List Addr)(it:Addr)(tn:Nat->Heap->Prop):Prop where
 mem:it∈fp
 obj:∀i h,tn i h->∀b∈fp,∃o,h.get? b=some o/\∀v,o.data≠.cell v
 keep:∀i h h',tn i h->(∀b∈fp,∀o,h.get? b=some o->h'.get? b=some o)->tn i h'
 item:∀(X:Cx),X.prog=P->X.w=w->X.K=K->X.calm=true->∀(i:Nat) (pins:List<|Addr×Obj) (s:Shared) (σ:St) (H:Hp) (E:Value->Shared->Prop),qw X pins σ H s->(∀b∈fp,kB X pins H b)->tn i s.heap->J.go i H->
  wpAny (model P w) X.A (pyNext<|.ref it) (λr s1=>∃u,r=some u/\
   wpAny (model P w) X.A (letOwnedTupleGo tg (.ref it) u) (λ_ s2=>∃x H',qw X pins σ H' s2/\zr x u/\J.yld i H x H'/\tn (i+1) s2.heap/\∀b∈fp,H' b=none) E s1) E s
 done:∀(X:Cx),X.prog=P->X.w=w->X.K=K->X.calm=true->∀(i:Nat) (pins:List<|Addr×Obj) (s:Shared) (σ:St) (H:Hp) (E:Value->Shared->Prop),qw X pins σ H s->(∀b∈fp,kB X pins H b)->tn i s.heap->J.stop i H->
  wpAny (model P w) X.A (pyNext<|.ref it) (λr s1=>r=none/\qw X pins σ H s1) E s
 self:∀(A:Around) (i:Nat) (s:Shared) (Q:Value->Shared->Prop) (E:Value->Shared->Prop),tn i s.heap->Q (.ref it) s->wpAny (model P w) A (pyIter<|.ref it) Q E s
abbrev TI:=St->Hp->(It->Hp->Prop)->Prop
def PIE(X:Cx)(pins:List<|Addr×Obj)(σ:St)(tg:Expr)(R:It->Hp->Prop)(I:Value)(U:Shared):Prop:=
 ∃(it:Addr) (fp:List Addr) (g:Nat->Heap->Prop) (J:It) (H':Hp),I=.ref it/\qw X pins σ H' U/\acx X.prog X.w X.K tg J fp it g/\g 0 U.heap/\(∀b∈fp,kB X pins H' b)/\R J H'
def PI(X:Cx)(tg iter:Expr)(wi:TI):Prop:=
 ∀(pins:List<|Addr×Obj) (s:Shared) (σ:St) (H:Hp) (R:It->Hp->Prop),qw X pins σ H s->wi σ H R->
  wpAny (model X.prog X.w) X.A (eval iter X.env) (λv I=>wpAny (model X.prog X.w) X.A (pyIter v) (PIE X pins σ tg R) X.xe I) X.xe s
theorem abk{o:Obj}{n:String}{vs:Array Value}{Q:Unit->Shared->Prop}(J:s.heap.get? it=some o)(hc:o.cls=.type n)(hd:o.data=.fields vs)
 (U:["enumerate","zip","dict_itemiterator","dict_reverseitemiterator","odict_iterator","itertools.zip_longest","itertools.pairwise"].contains n=false) (I:Q () s):wpAny M A (letOwnedTupleGo tg (.ref it) u) Q E s:=by
 unfold letOwnedTupleGo;cases tg<;>first
  |exact Ag I
  |(cases u<;>first
   |exact Ag I
   |(refine Aa (wpAny_load J ?_)
     rw[hc,hd];show wpAny M A (if (["enumerate","zip","dict_itemiterator","dict_reverseitemiterator","odict_iterator","itertools.zip_longest","itertools.pairwise"].contains n&&vs[0]?==some (rawInt _))=true then _ else _) Q E s;rw[Az (by intro h;rw[U,Bool.false_and] at h;cases h)];exact Ag I))
def Itl(K:Ah)(a:Addr):It:=
 ⟨λi H=>∃xs x,aI K H a xs/\xs[i]?=some x,λi H x H'=>H'=H/\∀xs,aI K H a xs->xs[i]?=some x,λi H=>∃xs,aI K H a xs/\xs.length<=i⟩
def Itt(K:Ah)(a:Addr):It:=
 ⟨λi H=>∃xs x,dU K H a xs/\xs[i]?=some x,λi H x H'=>H'=H/\∀xs,dU K H a xs->xs[i]?=some x,λi H=>∃xs,dU K H a xs/\xs.length<=i⟩
def Itr(lo:Int)(n:Nat):It:=⟨λi _=>i<n,λi H x H'=>H'=H/\x=.int (lo+i),λi _=>n<=i⟩
theorem zS{P:Program}{w:World}{K:Ah}(a it:Addr):acx P w K tg (Itl K a) [it] it (λi h=>h.IsListIter it a i) where
 mem:=by simp
 obj:=λi h st b U=>by
  have e:b=it:=by simpa using U
  subst e;obtain⟨o,e,c,d⟩:=st;exact⟨o,e,λv z=>by rw[d] at z;cases z⟩
 keep:=λi h j st k=>st.at λo e=>k it (by simp) o e
 item:=by intro X t hw C hc i J s σ H E I l st T;subst t hw C;obtain⟨xs,x,r,hx⟩:=T;obtain⟨a1,rv,p,hz⟩:=I.list r;obtain⟨u,hu,ru⟩:=rv.get hx;obtain⟨f0,f1,f2,f3,f4,f5⟩:=l it (by simp);refine wpAny_pyNext_list_item st p.isList (x:=u) (by simpa using hu) λj g sb=>?_;have I1:qw X J σ H { s with heap:=j }:=I.turned (t':=s.toks) (λb o U e=>(sb.2 b U).trans e) f0 f1 f3 f4 f5;obtain⟨o,e,c,d⟩:=id g;exact⟨u,rfl,abk (s:={ s with heap:=j }) e c d (by decide) ⟨x,H,I1,ru,⟨rfl,λys hy=>by rw[I.list_inj hy r];exact hx⟩,g,λb U=>(l b U).1⟩⟩
 done:=by intro X t hw C hc i J s σ H E I l st T;subst t hw C;obtain⟨xs,r,hx⟩:=T;obtain⟨a1,rv,p,hz⟩:=I.list r;obtain⟨f0,f1,f2,f3,f4,f5⟩:=l it (by simp);have hl:=rv.length;exact wpAny_pyNext_list_end (I.ok.hd hc) st p.isList (by simp;lia) λj eb=>⟨rfl,I.turned (t':=s.toks) (λb o U e=>eb b o U e) f0 f1 f3 f4 f5⟩
 self:=λ_ _ _ _ _ st h=>wpAny_pyIter_listiter st h
theorem ui{P:Program}{w:World}{K:Ah}(a it:Addr):acx P w K tg (Itt K a) [it] it (λi h=>h.IsTupleIter it a i) where
 mem:=by simp
 obj:=λi h st b U=>by
  have e:b=it:=by simpa using U
  subst e;obtain⟨o,e,c,d⟩:=st;exact⟨o,e,λv z=>by rw[d] at z;cases z⟩
 keep:=λi h l st k=>st.at λo e=>k it (by simp) o e
 item:=by intro X C hw T hc i J s σ H E I r st hg;subst C hw T;obtain⟨xs,x,t,hx⟩:=hg;obtain⟨g,rv,p,hz⟩:=I.tuple t;obtain⟨u,hu,ru⟩:=rv.get hx;obtain⟨f0,f1,f2,f3,f4,f5⟩:=r it (by simp);refine wpAny_pyNext_tuple_item st (show s.heap.IsTuple a g.toArray from p) (x:=u) (by simpa using hu) λl j sb=>?_;have I1:qw X J σ H { s with heap:=l }:=I.turned (t':=s.toks) (λb o U e=>(sb.2 b U).trans e) f0 f1 f3 f4 f5;obtain⟨o,e,c,d⟩:=id j;exact⟨u,rfl,abk (s:={ s with heap:=l }) e c d (by decide) ⟨x,H,I1,ru,⟨rfl,λys hy=>by rw[I.tuple_inj hy t];exact hx⟩,j,λb U=>(r b U).1⟩⟩
 done:=by intro X C hw T hc i J s σ H E I r st hg;subst C hw T;obtain⟨xs,t,hx⟩:=hg;obtain⟨g,rv,p,hz⟩:=I.tuple t;obtain⟨f0,f1,f2,f3,f4,f5⟩:=r it (by simp);have hl:=rv.length;exact wpAny_pyNext_tuple_end (I.ok.hd hc) st (show s.heap.IsTuple a g.toArray from p) (by simp;lia) λl eb=>⟨rfl,I.turned (t':=s.toks) (λb o U e=>eb b o U e) f0 f1 f3 f4 f5⟩
 self:=λ_ _ _ _ _ st h=>wpAny_pyIter_tupleiter st h
theorem vG{P:Program}{w:World}{K:Ah}(it:Addr)(lo:Int)(n:Nat):acx P w K tg (Itr lo n) [it] it (λi h=>IsRangeIter h it (lo+(i:Nat)*1) ((n:Int)-(i:Nat)) 1) where
 mem:=by simp
 obj:=λi h st b U=>by
  have e:b=it:=by simpa using U
  subst e;exact⟨_,st,λv z=>by have z':Data.fields _=Data.cell v:=z;cases z'⟩
 keep:=λi h j st k=>k it (by simp) _ st
 item:=by intro X p hw r C i J s σ H E I l st T;subst p hw r;obtain⟨f0,f1,f2,f3,f4,f5⟩:=l it (by simp);have W:=Walks.range (prog:=X.prog) (w:=X.w) (I.ok.hd C) it lo 1 n;refine jq I.tk<|W.item i s _ _ T st λv j tk hv g kk ht=>?_;obtain⟨t,rfl⟩:=hv;have I1:qw X J σ H { s with heap:=j,toks:=tk }:=I.turned (λb o U e=>kk b o (by simpa using U) e) f0 f1 f3 f4 f5;refine⟨_,rfl,abk (s:={ s with heap:=j,toks:=tk }) (n:="range_iterator") g rfl rfl (by decide) ⟨.int<|lo+i,H,I1,⟨t,?_⟩,⟨rfl,rfl⟩,g,λb U=>(l b U).1⟩⟩;rw[Int.mul_one]
 done:=by intro X p hw r C i J s σ H E I l st T;subst p hw r;obtain⟨f0,f1,f2,f3,f4,f5⟩:=l it (by simp);exact wpAny_pyNext_range_end (I.ok.hd C) st (by have:n<=i:=T;lia) λj eb=>⟨rfl,I.turned (t':=s.toks) (λb o U e=>eb b o U e) f0 f1 f3 f4 f5⟩
 self:=λ_ _ _ _ _ st h=>wpAny_pyIter_rangeiter st h
end L2
variable {wi:L2.TI}
namespace L2
open PySem PySem.Spec PyProof.Rows
def aou(K:Ah)(tl:TE):TI:=λσ H R=>tl σ H λx H1=>∃a,x=.ref a/\(∃xs,aI K H1 a xs)/\R (Itl K a) H1
def atd(K:Ah)(tl:TE):TI:=λσ H R=>tl σ H λx H1=>∃a,x=.ref a/\(∃xs,dU K H1 a xs)/\R (Itt K a) H1
theorem agu{l:Expr}{tl:TE}(j:PE X l tl):PI X tg l (aou X.K tl):=by
 intro J s r H R I h;refine ar (j J s r H _ I h) λv U x t g C T=>?_;obtain⟨a,e,⟨xs,hq⟩,q⟩:=T;subst e;cases C;obtain⟨a1,rv,p,hz⟩:=g.list hq;refine wpAny_pyIter_list p.isList ?_;refine⟨U.heap.objs.size,[U.heap.objs.size],_,_,t,rfl,g.kept (t':=U.toks) λb o e=>qy _ e,zS a _,⟨_,sy _ rfl,rfl,rfl⟩,λb hb=>?_,q⟩;have e:b=U.heap.objs.size:=by simpa using hb
 subst e;exact g.fpOk (Am _)<|g.hok.fresh<|Am _
theorem ako{l:Expr}{tl:TE}(r:PE X l tl):PI X tg l (atd X.K tl):=by
 intro J s t H R I h;refine ar (r J s t H _ I h) λv U x C g T q1=>?_;obtain⟨a,e,⟨xs,hq⟩,q⟩:=q1;subst e;cases T;obtain⟨j,rv,p,hz⟩:=g.tuple hq;refine wpAny_pyIter_tuple (show U.heap.IsTuple a j.toArray from p) ?_;refine⟨U.heap.objs.size,[U.heap.objs.size],_,_,C,rfl,g.kept (t':=U.toks) λb o e=>qy _ e,ui a _,⟨_,sy _ rfl,rfl,rfl⟩,λb hb=>?_,q⟩;have e:b=U.heap.objs.size:=by simpa using hb
 subst e;exact g.fpOk (Am _)<|g.hok.fresh<|Am _
theorem adg{R:It->Hp->Prop}{hi:Int}{t u v:Tok}{tk:Nat}(I:qw X pins σ H s)(h1 : -(2 ^ 62)<=lo)(h2:lo<2 ^ 62)(h3 : -(2 ^ 62)<=hi)(U:hi<2 ^ 62)
 (q:R (Itr lo (hi-lo).toNat) H) (p:0<tk:=by walk_at "t"):wpAny (model X.prog X.w) X.A (pyIter<|.ref s.heap.objs.size) (PIE X pins σ tg R) E { s with heap:=s.heap.push { cls:=.type "range",data:=.fields #[.int lo t,.int hi u,.int 1 v] },toks:=tk }:=by
 refine wpAny_pyIter_range (IsRange.new ..) (small_one h1 h2 h3 U) ?_;have J:qw X pins σ H { s with heap:=s.heap.push { cls:=.type "range",data:=.fields #[.int lo t,.int hi u,.int 1 v] },toks:=tk }:=I.kept λb o e=>qy _ e;refine⟨(s.heap.push { cls:=.type "range",data:=.fields #[.int lo t,.int hi u,.int 1 v] }).objs.size,[(s.heap.push { cls:=.type "range",data:=.fields #[.int lo t,.int hi u,.int 1 v] }).objs.size],_,_,H,rfl,
  J.kept (t':=tk) λb o e=>qy _ e,vG _ lo (hi-lo).toNat,?_,λb g=>?_,q⟩
 ·have j:lo+((0:Nat):Int)*1=lo:=by simp
  have l:(((hi-lo).toNat:Nat):Int)-((0:Nat):Int)=Builtin.Range.rangeSize lo hi 1:=by rw[rangeSize_one];split<;>lia
  show IsRangeIter _ _ (lo+((0:Nat):Int)*1) ((((hi-lo).toNat:Nat):Int)-((0:Nat):Int)) 1;rw[j,l];exact sy _ rfl
 ·have e:b=(s.heap.push { cls:=.type "range",data:=.fields #[.int lo t,.int hi u,.int 1 v] }).objs.size:=by simpa using g
  subst e;exact J.fpOk (Am _)<|J.hok.fresh<|Am _
def aq2(ta:TA):TI:=λσ H R=>ta σ H λvs H1=>∃j:Int,vs=[.int j] /\ -(2 ^ 62)<=j/\j<2 ^ 62/\R (Itr 0 j.toNat) H1
theorem aai{a:Expr}{ta:TA}{p:Pos}(g:Gl X "range")(l:X.mg "range"=none)(o:PA X [a] ta)(hs:starEach [a] X.env=[(false,eval a X.env)]:=by rfl):PI X tg (.Call (.Name "range" p) [a] [] pos) (aq2 ta):=by
 intro J s C H R I h;refine Call_<|fA I g l boot_range<|CS (yk (o pos J s C H _ I h) λus s1 vs H1 T r1 U=>?_) hs rfl;obtain⟨j,e,U,q2,q⟩:=U;subst e;cases r1 with
 |cons r rr=>
  cases rr;obtain⟨t,rfl⟩:=r;exact call_range_1<|adg T (by lia) (by lia) U q2 (by simpa using q)
def aqs(wi:TI)(g:TG)(tb:TS):TS:=λD σ H=>wi σ H λJ H1=>∃W:Nat->Nat->St->Hp->Prop,(∃m,W 0 m σ H1)/\∀i m σ H,W i m σ H->
 (J.stop i H/\D.nx σ H)\/(J.go i H/\∃N:St->Hp->Prop,(∀hQ H',N hQ H'->∃U,U<m/\W (i+1) U hQ H')/\∀x H',J.yld i H x H'->g x σ H' λI H2=>tb { D with nx:=N,ct:=N,bk:=D.nx } I H2)
def mJ(fp:List Addr)(h:Heap):List (Addr×Obj):=fp.filterMap λb=>(h.get? b).map λo=>(b,o)
theorem dO{b:Addr}{o:Obj}(I:b∈fp)(e:h.get? b=some o):(b,o)∈mJ fp h:=DO.mpr ⟨b,I,by rw[e];rfl⟩
theorem aan{p:Addr×Obj}(I:p∈mJ fp h):p.1∈fp/\h.get? p.1=some p.2:=by
 obtain⟨b,J,e⟩:=DO.mp I;cases q:h.get? b with
 |none=>rw[q] at e;cases e
 |some o=>
  rw[q] at e;have U:(b,o)=p:=Bb e;subst U;exact⟨J,q⟩
theorem qw.pinned(I:qw X pins σ H s)(g:∀b∈fp,kB X pins H b)(j:∀b∈fp,∃o,s.heap.get? b=some o/\∀v,o.data≠.cell v):qw X (pins++mJ fp s.heap) σ H s:=
 I.pins_of λp l=>(Aj.mp l).elim (λz=>I.pin p<|Ai _ z) λz=>by obtain⟨J,e⟩:=aan z;obtain⟨r,f1,f2,_⟩:=g p.1 J;obtain⟨o,U,d⟩:=j p.1 J;rw[e] at U;cases U;exact⟨e,r,f1,f2,d⟩
theorem qw.unpinned{pl:List<|Addr×Obj}(I:qw X (pins++pl) σ H s):qw X pins σ H s:=I.pins_of λp J=>I.pin p<|Ai _<|Ao _ J
theorem ajw{iter:Expr}{g:TG}{tb:TS}(hp:PassesOwn (model X.prog X.w) X.A X.env X.xe)(hc:X.calm=true)(hi:PI X tg iter wi)(hg:PG X tg g)(l:gl X body tb)
 (hs:∀x,foldedSetIterable iter X.env x=pure x:=by intro _;rfl):PS X (.For tg iter body [] pos) (aqs wi g tb):=by
 intro U s σ H D I h;refine wpAny_For (aH (hi U s σ H _ I h) λv s1 h1=>aH h1 λau s2 h2=>?_) hs;obtain⟨it,fp,tn,J,H2,e,I2,T,a4,f2,W,⟨m0,w0⟩,turn⟩:=h2;subst e;have p:∀{H':Hp},(∀b∈fp,H' b=none)->∀b∈fp,kB X U H' b:=λhn b l=>⟨hn b l,(f2 b l).2⟩;refine codeAny_forLoop_any (λn s'=>∃i t H',qw X U t H' s'/\tn i s'.heap/\(∀b∈fp,H' b=none)/\W i n t H') ?_ m0 ⟨0,σ,H2,I2,a4,λb l=>(f2 b l).1,w0⟩;rintro n s3 ⟨i,C,H3,I3,a2,a3,w3⟩;rcases turn i n C H3 w3 with⟨stop,qn⟩|⟨go,N,hN,step⟩
 ·refine wpAny_passesOwn hp<|aH (T.done X rfl rfl rfl hc i U s3 C H3 X.xe I3 (p a3) a2 stop) λr s4 ψ=>?_;obtain⟨hr,I4⟩:=ψ;subst hr;exact wpAny_execs_nil ⟨C,H3,I4,qn⟩
 ·refine wpAny_passesOwn hp<|aH (T.item X rfl rfl rfl hc i U s3 C H3 X.xe I3 (p a3) a2 go) λr s4 ψ=>?_;obtain⟨u,hr,h4⟩:=ψ;subst hr;refine wpAny_passesOwn hp<|aH h4 λ_ s5 ψ=>?_;obtain⟨x,H5,I5,r5,y5,a1,a5⟩:=ψ;have ac:=I5.pinned (p a5)<|T.obj _ _ a1;refine wpAny_passesOwn hp<|aH (hg _ s5 C H5 x u _ ac r5<|step x H5 y5) λ_ s6 ψ=>?_;obtain⟨al,H6,I6,q6⟩:=ψ;refine wpAny_passesOwn hp<|aH (l _ s6 al H6 _ I6 q6) λf s7 q7=>?_;have again:∀{j:St} {H7:Hp},qw X (U++mJ fp s5.heap) j H7 s7->N j H7->∃m,m<n/\∃i t H',qw X U t H' s7/\tn i s7.heap/\(∀b∈fp,H' b=none)/\W i m t H':=λ{j H7} I7 n7=>by obtain⟨m',hm,w7⟩:=hN j H7 n7;refine⟨m',hm,i+1,j,H7,I7.unpinned,T.keep _ _ _ a1 λb l o e=>(I7.pin (b,o)<|Ai _<|Ai _<|dO l e).1,λb l=>?_,w7⟩;obtain⟨o,e,d⟩:=T.obj _ _ a1 b l;exact(I7.pin (b,o)<|Ai _<|Ai _<|dO l e).2.1
  cases f with
  |next=>obtain⟨j,H7,I7,n7⟩:=q7;exact again I7 n7
  |cont=>obtain⟨j,H7,I7,n7⟩:=q7;exact again I7 n7
  |brk=>obtain⟨j,H7,I7,q7⟩:=q7;exact⟨j,H7,I7.unpinned,q7⟩
  |ret v=>obtain⟨x7,j,H7,I7,r7,q7⟩:=q7;exact⟨x7,j,H7,I7.unpinned,r7,q7⟩
abbrev R2:=V->V->Hp->VK->Prop
def we(X:Cx)(f:Value->Value->Sem Value)(r:R2):Prop:=
 ∀(pins:List<|Addr×Obj) (s:Shared) (σ:St) (H:Hp) (x y:V) (v u:Value) (Q:VK),qw X pins σ H s->zr x v->zr y u->r x y H Q->
  wpAny (model X.prog X.w) X.A (f v u) (EP X pins σ Q) X.xe s
def jo(X:Cx)(f:Value)(r:List V->Hp->VK->Prop):Prop:=
 ∀(pins:List<|Addr×Obj) (s:Shared) (σ:St) (H:Hp) (xs:List V) (us:List Value) (Q:VK),qw X pins σ H s->zw xs us->r xs H Q->
  wpAny (model X.prog X.w) X.A (call f us) (EP X pins σ Q) X.xe s
def tOp(r:R2)(ta tb:TE):TE:=λσ H Q=>ta σ H λx H1=>tb σ H1 λy H2=>r x y H2 Q
def rI(C:Int->Int->Prop)(g:Int->Int->V):R2:=λx y H Q=>∃i j,x=.int i/\y=.int j/\C i j/\Q (g i j) H
def rI0(g:Int->Int->V):R2:=λx y H Q=>∃i j,x=.int i/\y=.int j/\Q (g i j) H
section
variable {a b c:Expr}{ta tb tc:TE}
theorem am3(j:PE X a ta)(l:PE X b tb){R:V->V->Hp->Prop}(I:qw X pins σ H s)
 (h:ta σ H λx H1=>tb σ H1 λy H2=>R x y H2) {f:Value->Value->Sem Value}
 (o:∀v u g x y H2,qw X pins σ H2 g->zr x v->zr y u->R x y H2->wpAny (model X.prog X.w) X.A (f v u) Q X.xe g):
 wpAny (model X.prog X.w) X.A (eval a X.env) (λv J=>wpAny (model X.prog X.w) X.A (eval b X.env) (λu U=>wpAny (model X.prog X.w) X.A (f v u) Q X.xe U) X.xe J) X.xe s:=by
 refine ar (j pins s σ H _ I h) λv p x H1 r t C=>?_;refine ar (l pins p σ H1 _ r C) λu g y H2 T r2 q2=>?_;exact o v u g x y H2 T t r2 q2
theorem aoj{op:Operator}{r:R2}(U:we X (binaryOp op) r)(g:PE X a ta)(j:PE X b tb):PE X (.BinOp a op b pos) (tOp r ta tb):=by intro J s l H Q I h;exact wpAny_BinOp<|am3 g j I h λv u o x y p t C T q=>U J o l p x y v u Q t C T q
theorem opI{f:Value->Value->Sem Value}{C:Int->Int->Prop}{g:Int->Int->Int}
 (rule:∀(i j:Int) (t u:Tok) (s:Shared) (Q:Value->Shared->Prop) (E:Value->Shared->Prop),C i j->Q (.int (g i j) s.toks) { s with toks:=s.toks+1 }->wpAny (model X.prog X.w) X.A (f (.int i t)<|.int j u) Q E s):
 we X f (rI C λi j=>.int<|g i j):=by
 intro J s r H x y v u Q I U l h;obtain⟨i,j,rfl,rfl,o,q⟩:=h;obtain⟨t,rfl⟩:=U;obtain⟨p,rfl⟩:=l;exact rule i j t p s _ _ o ⟨.int<|g i j,H,I.tok _,⟨_,rfl⟩,q⟩
theorem anw{f:Value->Value->Sem Value}{g:Int->Int->Int}
 (rule:∀(i j:Int) (t u:Tok) (s:Shared) (Q:Value->Shared->Prop) (E:Value->Shared->Prop),Q (.int (g i j) s.toks) { s with toks:=s.toks+1 }->wpAny (model X.prog X.w) X.A (f (.int i t)<|.int j u) Q E s):
 we X f (rI0 λi j=>.int<|g i j):=by
 intro J s p H x y v u Q I U l h;obtain⟨i,j,rfl,rfl,q⟩:=h;obtain⟨t,rfl⟩:=U;obtain⟨o,rfl⟩:=l;exact rule i j t o s _ _ ⟨.int<|g i j,H,I.tok _,⟨_,rfl⟩,q⟩
theorem amn{f:Value->Value->Sem Value}{g:Int->Int->Bool}
 (rule:∀(i j:Int) (t u:Tok) (s:Shared) (Q:Value->Shared->Prop) (E:Value->Shared->Prop),Q (.bool<|g i j) s->wpAny (model X.prog X.w) X.A (f (.int i t)<|.int j u) Q E s):
 we X f (rI0 λi j=>.bl<|g i j):=by
 intro J s p H x y v u Q I U l h;obtain⟨i,j,rfl,rfl,q⟩:=h;obtain⟨t,rfl⟩:=U;obtain⟨o,rfl⟩:=l;exact rule i j t o s _ _ ⟨.bl<|g i j,H,I,rfl,q⟩
def amc(i j:Int):Prop:=0<j/\j<1073741824
def abt(i j:Int):Prop:=(-(2 ^ 64)<i/\i<2 ^ 64)\/(-(2 ^ 64)<j/\j<2 ^ 64)
theorem abt.ok{i j:Int}(h:abt i j):IntMulOk i j:=by
 rcases h with⟨h1,h2⟩|⟨h1,h2⟩
 ·exact .of_left<|intBits_le_64 h1 h2
 ·exact .of_right<|intBits_le_64 h1 h2
theorem akb:we X (binaryOp .Add) (rI0 λi j=>.int<|i+j):=anw λ_ _ _ _ _ _ _ q=>add_int q
theorem alk:we X (binaryOp .Sub) (rI0 λi j=>.int<|i-j):=anw λ_ _ _ _ _ _ _ q=>sub_int q
theorem aks:we X (binaryOp .Mult) (rI abt λi j=>.int<|i*j):=opI λ_ _ _ _ _ _ _ I q=>mul_int q I.ok
theorem age:we X (binaryOp .FloorDiv) (rI amc λi j=>.int<|i / j):=opI λi j _ _ _ _ _ I q=>by have h1:(0:Int)<j:=I.1;have h2:j<1073741824:=I.2;exact floordiv_int (by lia) (by rw[Int.fdiv_eq_ediv_of_nonneg i (by lia)];exact q)<|.inl<|PyProof.noPylong_small (by lia)
theorem akm:we X (binaryOp .Mod) (rI (λ_ j=>0<j) λi j=>.int<|i % j):=opI λi j _ _ _ _ _ I q=>by have h1:(0:Int)<j:=I;exact mod_int' (by lia) (by rw[Int.fmod_eq_emod_of_nonneg i (by lia)];exact q)
end
def agv:V->V->Bool
 |.non,.non=>true|.non,.int _=>true|.int _,.non=>true|.non,.bl _=>true|.bl _,.non=>true|.non,.str _=>true|.str _,.non=>true
 |.int _,.int _=>true|.bl _,.bl _=>true|.str _,.str _=>true|.byt _,.byt _=>true
 |.int _,.str _=>true|.str _,.int _=>true|.bl _,.str _=>true|.str _,.bl _=>true
 |_,_=>false
def rEq:R2:=λx y H Q=>agv x y=true/\Q (.bl<|decide<|x=y) H
def rNe:R2:=λx y H Q=>agv x y=true/\Q (.bl<|!decide (x=y)) H
theorem xH{i j:Int}:decide (V.int i=V.int j)=(i==j):=by rw[BS];simp
theorem ac0{i j:Bool}:decide (V.bl i=V.bl j)=(i==j):=by rw[BS];simp
theorem xF{i j:Str}:decide (V.str i=V.str j)=(i==j):=by rw[BS];simp
theorem yE{i j:Array UInt8}:decide (V.byt i=V.byt j)=(i.toList==j.toList):=by rw[BS];cases i;cases j;simp
section
variable {a b c:Expr}{ta tb tc:TE}
theorem jt{Q:VK}{k J:Bool}(I:qw X pins σ H s)(q:Q (.bl k) H)(e:k=J):EP X pins σ Q (.bool J) s:=by subst e;exact⟨.bl k,H,I,rfl,q⟩
theorem aio:we X (compareOp .Eq) rEq:=by
 intro o s p H x y v u Q I l J h;obtain⟨g,q⟩:=h;cases x with
 |non=>
  cases l;cases y with
  |non=>cases J;exact PySem.EqNone.eq_none_none<|jt I q (by simp)
  |bl j=>cases J;exact PySem.EqNone.eq_none_bool<|jt I q (by simp)
  |int j=>obtain⟨U,rfl⟩:=J;exact PySem.EqNone.eq_none_int<|jt I q (by simp)
  |str j=>obtain⟨U,rfl⟩:=J;exact PySem.EqNone.eq_none_str<|jt I q (by simp)
  |_=>exact absurd (show false=true from g) AG
 |bl i=>
  cases l;cases y with
  |non=>cases J;exact PySem.EqNone.eq_bool_none<|jt I q (by simp)
  |bl j=>cases J;exact eq_bool<|jt I q ac0
  |str j=>obtain⟨U,rfl⟩:=J;exact PySem.EqMixed.eq_bool_str<|jt I q (by simp)
  |_=>exact absurd (show false=true from g) AG
 |int i=>
  obtain⟨t,rfl⟩:=l;cases y with
  |non=>cases J;exact PySem.EqNone.eq_int_none<|jt I q (by simp)
  |int j=>obtain⟨U,rfl⟩:=J;exact eq_int<|jt I q xH
  |str j=>obtain⟨U,rfl⟩:=J;exact PySem.EqMixed.eq_int_str<|jt I q (by simp)
  |_=>exact absurd (show false=true from g) AG
 |str i=>
  obtain⟨t,rfl⟩:=l;cases y with
  |non=>cases J;exact PySem.EqNone.eq_str_none<|jt I q (by simp)
  |bl j=>cases J;exact PySem.EqMixed.eq_str_bool<|jt I q (by simp)
  |int j=>obtain⟨U,rfl⟩:=J;exact PySem.EqMixed.eq_str_int<|jt I q (by simp)
  |str j=>obtain⟨U,rfl⟩:=J;exact eq_str<|jt I q xF
  |_=>exact absurd (show false=true from g) AG
 |byt i=>
  obtain⟨t,rfl⟩:=l;cases y with
  |byt j=>obtain⟨U,rfl⟩:=J;exact PySem.W.eq_bytes<|jt I q yE
  |_=>exact absurd (show false=true from g) AG
 |_=>cases y<;>exact absurd (show false=true from g) AG
theorem air:we X (compareOp .NotEq) rNe:=by
 intro o s p H x y v u Q I l J h;obtain⟨g,q⟩:=h;cases x with
 |non=>
  cases l;cases y with
  |non=>cases J;exact PySem.EqNone.ne_none_none<|jt I q (by simp)
  |bl j=>cases J;exact PySem.EqNone.ne_none_bool<|jt I q (by simp)
  |int j=>obtain⟨U,rfl⟩:=J;exact PySem.EqNone.ne_none_int<|jt I q (by simp)
  |str j=>obtain⟨U,rfl⟩:=J;exact PySem.EqNone.ne_none_str<|jt I q (by simp)
  |_=>exact absurd (show false=true from g) AG
 |bl i=>
  cases l;cases y with
  |non=>cases J;exact PySem.EqNone.ne_bool_none<|jt I q (by simp)
  |bl j=>cases J;exact ne_bool<|jt I q<|BG not ac0
  |str j=>obtain⟨U,rfl⟩:=J;exact PySem.EqMixed.ne_bool_str<|jt I q (by simp)
  |_=>exact absurd (show false=true from g) AG
 |int i=>
  obtain⟨t,rfl⟩:=l;cases y with
  |non=>cases J;exact PySem.EqNone.ne_int_none<|jt I q (by simp)
  |int j=>obtain⟨U,rfl⟩:=J;exact ne_int<|jt I q<|BG not xH
  |str j=>obtain⟨U,rfl⟩:=J;exact PySem.EqMixed.ne_int_str<|jt I q (by simp)
  |_=>exact absurd (show false=true from g) AG
 |str i=>
  obtain⟨t,rfl⟩:=l;cases y with
  |non=>cases J;exact PySem.EqNone.ne_str_none<|jt I q (by simp)
  |bl j=>cases J;exact PySem.EqMixed.ne_str_bool<|jt I q (by simp)
  |int j=>obtain⟨U,rfl⟩:=J;exact PySem.EqMixed.ne_str_int<|jt I q (by simp)
  |str j=>obtain⟨U,rfl⟩:=J;exact ne_str<|jt I q<|BG not xF
  |_=>exact absurd (show false=true from g) AG
 |byt i=>
  obtain⟨t,rfl⟩:=l;cases y with
  |byt j=>obtain⟨U,rfl⟩:=J;exact PySem.W.ne_bytes<|jt I q<|BG not yE
  |_=>exact absurd (show false=true from g) AG
 |_=>cases y<;>exact absurd (show false=true from g) AG
theorem aod:we X (compareOp .Lt) (rI0 λi j=>.bl<|decide<|i<j):=amn λ_ _ _ _ _ _ _ q=>lt_int q
theorem apv:we X (compareOp .LtE) (rI0 λi j=>.bl<|decide<|i<=j):=amn λ_ _ _ _ _ _ _ q=>le_int q
theorem aob:we X (compareOp .Gt) (rI0 λi j=>.bl<|decide<|j<i):=amn λ_ _ _ _ _ _ _ q=>gt_int q
theorem ke(b:Expr){op:CmpOp}(h:op≠.In:=by decide)(h2:op≠.NotIn:=by decide):behindInMarks op b=false:=by
 have I:(op==CmpOp.In)=false:=by cases op<;>first|rfl|exact absurd rfl h
 have J:(op==CmpOp.NotIn)=false:=by cases op<;>first|rfl|exact absurd rfl h2
 cases b<;>simp[behindInMarks,I,J]
theorem af9{op:CmpOp}{r:R2}(U:we X (compareOp op) r)(g:PE X a ta)(j:PE X b tb)(l:behindInMarks op b=false):PE X (.Compare a [op] [b] pos) (tOp r ta tb):=by intro J s o H Q I h;exact wpAny_Compare1 (am3 g j I h λv u p x y t C T ry q=>U J p o t x y v u Q C T ry q) l
def aci(t:TE):TT:=λσ H Q=>t σ H λx H'=>∃k,x=.bl k/\Q k H'
theorem agh{op:CmpOp}{r:R2}(g:we X (compareOp op) r)(j:PE X a ta)(l:PE X b tb)(o:behindInMarks op b=false):PT X (.Compare a [op] [b] pos) (aci<|tOp r ta tb):=by
 intro J s U H Q I h;refine wpAny_isTrue_Compare1 (ar (j J s U H _ I h) λv p x t C T q1=>ar (l J p U t _ C q1) λu s2 y H2 I2 r2 q2=>
  aH (g J s2 U H2 x y v u _ I2 T r2 q2) λc s3 ⟨z,H3,I3,r3,k,e,q3⟩=>?_) o
 subst e;cases r3;exact wpAny_truthy_bool ⟨H3,I3,q3⟩
theorem iz:(sizeLine:Nat)<2 ^ 63:=by rw[sizeLine_eq];decide
theorem vH:we X (binaryOp .Add) (λx y H Q=>∃i j,x=.str i/\y=.str j/\i.length+j.length<=sizeLine/\Q (.str<|i++j) H):=by intro J s p H x y v u Q I U g h;obtain⟨i,j,rfl,rfl,l,q⟩:=h;obtain⟨t,rfl⟩:=U;obtain⟨o,rfl⟩:=g;exact jq I.tk<|add_str (λo tk r=>⟨.str<|i++j,H,I.tok _,⟨_,rfl⟩,q⟩) l
theorem lT{x:V}(r:zw [x] us):∃u,us=[u]/\zr x u:=by cases r with|cons I J=>cases J;exact⟨_,rfl,I⟩
theorem acy{x y:V}(r:zw [x,y] us):∃u I,us=[u,I]/\zr x u/\zr y I:=by
 cases r with
 |cons J U=>
  cases U with|cons g j=>cases j;exact⟨_,_,rfl,J,g⟩
theorem zC(hc:X.calm=true):jo X (.builtin "max") (λxs H Q=>∃i j,xs=[.int i,.int j]/\Q (.int<|if j > i then j else i) H):=by
 intro U s g H xs l Q I r h;obtain⟨i,j,rfl,q⟩:=h;obtain⟨u,o,rfl,⟨t,rfl⟩,⟨p,rfl⟩⟩:=acy r;refine jq I.tk<|max_two_ints (I.ok.hd hc) λC tk k T=>⟨_,H,I.kept k,?_,q⟩;by_cases J:j > i
 ·rw[AA J,AA J];exact⟨_,rfl⟩
 ·rw[Az J,Az J];exact⟨_,rfl⟩
theorem zL(hc:X.calm=true):jo X (.builtin "min") (λxs H Q=>∃i j,xs=[.int i,.int j]/\Q (.int<|if j<i then j else i) H):=by
 intro U s g H xs l Q I r h;obtain⟨i,j,rfl,q⟩:=h;obtain⟨u,o,rfl,⟨t,rfl⟩,⟨p,rfl⟩⟩:=acy r;refine jq I.tk<|min_two_ints (I.ok.hd hc) λC tk k T=>⟨_,H,I.kept k,?_,q⟩;by_cases J:j<i
 ·rw[AA J,AA J];exact⟨_,rfl⟩
 ·rw[Az J,Az J];exact⟨_,rfl⟩
end
structure amp(h:Heap)(x dx C:Addr)(mA:Str->Option Value):Prop where
 obj:h.get? x=some (PySem.W.instObj C dx)
 ns:h.Ns1 dx mA
 ne:dx≠x
theorem zH(n:h.Ns1 dx mA):∃od,h.get? dx=some od/\∀name,PySem.W.lookIn name od=some (mA name):=by
 obtain⟨o,J,r,U,hd,g,_,j⟩:=n;refine⟨o,U,λname=>?_⟩;have e:=j name;unfold nsFind findBy at e;rw[<-Array.find?_toList] at e;unfold PySem.W.lookIn;rw[hd];dsimp only;split
 ·rename_i y q;rw[q] at e;exact BG some e
 ·rename_i q;rw[q] at e;have a:J.toList.any (·.refKey)=false:=by rw[List.any_eq_false];intro y l;obtain⟨z,t,I⟩:=g y<|Array.mem_toList_iff.mp l;simp[DictEntry.refKey,I]
  have p:¬J.toList.any (·.refKey)=true:=by rw[a];exact AG
  rw[Az p];exact BG some e
theorem amp.look{x:Addr}(I:amp h x dx C mA):∃od,PySem.W.InstAt h x (PySem.W.instObj C dx) C (some od)/\∀name,PySem.W.lookIn name od=some (mA name):=
 let ⟨od,J,U⟩:=zH I.ns
 ⟨od,⟨I.obj,rfl,rfl,J⟩,U⟩
section
variable {w:World}{K:Ah}{x:Addr}
end
theorem i5.some_of{v:V}{o:Option Value}(r:i5 (some v) o):∃u,o=some u/\zr v u:=by cases o with|none=>exact(show False from r).elim|some u=>exact⟨u,rfl,r⟩
abbrev EW:=@i5.some_of
section
variable {P:Program}{w:World}{a:Addr}{fs fs':List<|Str×V}
theorem aia(hok:dm P w H h)(e:H a=some (.ins C dx fs)):∃mA,amp h a dx C mA/\(∀f,i5 (fs.lookup f)<|mA f)/\PySem.Within mA (fs.map (·.1))/\fs.length<=1000/\H dx=some (.own a):=by obtain⟨d,z,ne,ob,mA,n,r,q⟩:=(show xi P w H h a (.ins C dx fs) from hok a _ e);exact⟨mA,⟨ob,n,ne⟩,r,q,z,d⟩
end
structure Cls(K:Ah)(C:Addr):Prop where
 pg:PySem.W.plainGet K C Str.empty=true
 hd:PySem.W.hasDictIn K C=true
 po:PySem.W.plainOver K C=true
 sa:PySem.W.findIn K (.ref C) "__setattr__"=some (some<|.builtin "object.__setattr__")
theorem Cls.get{K:Ah}(c:Cls K C)(f:Str):PySem.W.plainGet K C f=true:=c.pg
section
variable {a:Addr}{fs:List<|Str×V}{f:Str}{v:V}
end
section
variable {f:Str}{tpos:Pos}{ta tv:TE}
end
section
variable {c:Value}{b:Bool}
inductive jZ(K:Ah)(H:Hp):V->Value->Prop where
 |non:jZ K H .non (.type "NoneType")
 |bl (x:Bool):jZ K H (.bl x) (.type "bool")
 |int (i:Int):jZ K H (.int i) (.type "int")
 |str (x:Str):jZ K H (.str x) (.type "str")
 |flt (x:UInt64):jZ K H (.flt x) (.type "float")
 |lst {a:Addr} {xs:List V} (e:H a=some (.lst xs)):jZ K H (.ref a) (.type "list")
 |frz {a:Addr} {o:Obj} {xs:List V} (e:H a=some (.frz o<|.lst xs)):jZ K H (.ref a) (.type "list")
 |tup {a:Addr} {xs:List V} (e:H a=some (.tup xs)):jZ K H (.ref a) (.type "tuple")
 |dK {a:Addr} {kvs:List<|jk×V} (e:H a=some (.dK kvs)):jZ K H (.ref a) (.type "dict")
 |dT {a:Addr} {kvs:List<|List jk×V} (e:H a=some (.dT kvs)):jZ K H (.ref a) (.type "dict")
 |ins {a C dx:Addr} {fs:List<|Str×V} (e:H a=some (.ins C dx fs)) (cl:Cls K C) (ha:PySem.W.findIn K (.ref C) "__class__"=some (some<|.builtin "object.__class__"))
  (hn:PySem.W.specialIn K (.builtin "object.__class__") "__get__"=some (some<|.builtin "getset_descriptor.__get__")) (htk:PySem.W.takesIn K (.builtin "object.__class__")=some true)
  (hm:PySem.W.mroIn K C (.type "object")=some true):jZ K H (.ref a) (.ref C)
theorem bB{x:V}{t:Value}(I:qw X pins σ H s)(U:zr x u)(ty:jZ X.K H x t)(e:PySem.W.kitOne X.K t c=some b)(h:∀tk,Q (.bool b) { s with toks:=tk }):
 wpAny (model X.prog X.w) A (call (.builtin "isinstance") [u,c]) Q E s:=by
 cases ty with
 |non=>cases (show u=Value.none from U);exact Bv PySem.W.kitx_none I.kIn True.intro e (λz=>nomatch z) h
 |bl y=>cases (show u=Value.bool y from U);exact Bv PySem.W.kitx_bool I.kIn True.intro e (λz=>nomatch z) h
 |int i=>obtain⟨t,q⟩:=(show ∃t,u=Value.int i t from U);cases q;exact Bv PySem.W.kitx_int I.kIn True.intro e (λz=>nomatch z) h
 |str y=>obtain⟨t,q⟩:=(show ∃t,u=Value.str y t from U);cases q;exact Bv PySem.W.kitx_str I.kIn True.intro e (λz=>nomatch z) h
 |flt y=>obtain⟨t,q⟩:=(show ∃t,u=Value.float y t from U);cases q;exact Bv PySem.W.kitx_float I.kIn True.intro e (λz=>nomatch z) h
 |@lst a j ea=>
  cases (show u=Value.ref a from U);obtain⟨_,_,n,_,h1⟩:=(show xi X.prog X.w H s.heap a (.lst j) from I.hok a _ ea);exact Bv Ec I.kIn ⟨_,h1,rfl⟩ e (λz=>nomatch z) h
 |@frz a ob j ea=>
  cases (show u=Value.ref a from U);obtain⟨_,_,_,n,_,h1⟩:=(show xi X.prog X.w H s.heap a (.frz ob<|.lst j) from I.hok a _ ea);exact Bv Ec I.kIn ⟨_,h1,rfl⟩ e (λz=>nomatch z) h
 |@tup a j ea=>
  cases (show u=Value.ref a from U);obtain⟨_,_,_,p⟩:=(show xi X.prog X.w H s.heap a (.tup j) from I.hok a _ ea);obtain⟨o,h1,h2,_⟩:=p;exact Bv PySem.W.kitx_tuple I.kIn ⟨o,h1,h2⟩ e (λz=>nomatch z) h
 |@dK a g ea=>
  cases (show u=Value.ref a from U);obtain⟨_,_,vs,_,p⟩:=(show xi X.prog X.w H s.heap a (.dK g) from I.hok a _ ea);obtain⟨o,r,T,h1,h2,_⟩:=p;exact Bv PySem.W.kitx_dict I.kIn ⟨o,h1,h2.1⟩ e (λz=>nomatch z) h
 |@dT a g ea=>
  cases (show u=Value.ref a from U);obtain⟨_,_,j,_,o,r,T,h1,h2,_⟩:=(show xi X.prog X.w H s.heap a (.dT g) from I.hok a _ ea);exact Bv PySem.W.kitx_dict I.kIn ⟨o,h1,h2.1⟩ e (λz=>nomatch z) h
 |@ins a C dx fs ea cl ha hn l hm=>
  cases (show u=Value.ref a from U);obtain⟨mA,O,_⟩:=aia I.hok ea;obtain⟨od,J,_⟩:=O.look;exact Bv (PySem.W.kitx_own (cl.get _) cl.hd ha hn l hm) I.kIn J e (λz=>nomatch z) h
end
structure w4(k:Nat)(A:Around):Prop where
 hd:A.handled=none
 dp:A.depth+3*k+5<recursionLimit
 un:A.units+16*k+200<cLine
theorem w4.mono{k:Nat}(r:w4 k A)(h:j<=k):w4 j A:=⟨r.hd,by have:=r.dp;lia,by have:=r.un;lia⟩
theorem w4.deeper{k:Nat}(r:w4 (k+1) A)(env:Env):w4 k (A.deeper env):=
 ⟨r.hd,by have:=r.dp;show A.depth+1+3*k+5<_;lia,by have:=r.un;show A.units+3+16*k+200<_;lia⟩
theorem w4.depth{k:Nat}(r:w4 k A):A.depth<recursionLimit:=by have:=r.dp;lia
def as5:TA:=λ_ H Q=>Q [] H
def apb(ta:TE)(tr:TA):TA:=λσ H Q=>ta σ H λx H1=>tr σ H1 λxs H2=>Q (x::xs) H2
section
variable {te:TE}{t:TA}
theorem dw:PA X [] as5:=λ_ _ _ _ H Q I h=>Fa ⟨[],H,I,.nil,h⟩
abbrev E8(e:Expr)(es:List Expr)(X:Cx):Prop:=starEach (e::es) X.env=(false,eval e X.env)::starEach es X.env
theorem aA(g:PE X e te)(j:PA X es t)(hs:E8 e es X:=by rfl):PA X (e::es) (apb te t):=by intro pos J s U H Q I h;rw[hs];show wpAny _ _ (spliced<|(false,eval e X.env)::backTo pos (starEach es X.env)) _ _ s;refine DT<|ar (g J s U H _ I h) λu l x o p r C=>?_;exact yk (j pos J l U o _ p C) λus s2 T H2 I2 r2 q2=>⟨x::T,H2,I2,.cons r r2,q2⟩
def arf(t:TA):TE:=λσ H Q=>t σ H λxs H1=>xs.length<=sizeLine/\∀p,H1 p=none->Q (.ref p) (upd H1 p<|.tup xs)
def asc(t:TA):TE:=λσ H Q=>t σ H λxs H1=>xs.length<=sizeLine/\∀p,H1 p=none->Q (.ref p) (upd H1 p<|.lst xs)
theorem aer{x1}(h:PA X es t):PE X (.Tuple es x1 pos) (arf t):=by intro J s l H Q I o;refine wpAny_Tuple_spliced (aH (h pos J s l H _ I o) λp U ⟨C,g,j,r,z,q⟩=>⟨by rw[<-r.length];exact z,?_⟩);have T:g U.heap.objs.size=none:=j.hok.fresh<|Am _;refine⟨.ref U.heap.objs.size,upd g U.heap.objs.size<|.tup C,j.laid (t':=U.toks) (λb u e=>qy _ e) (Am _) ?_,rfl,q _ T⟩;exact⟨z,p,r,⟨_,sy _ rfl,rfl,_,rfl⟩⟩
theorem amq(h:PA X es t):PE X (.List es pos) (asc t):=by intro J s l H Q I o;refine wpAny_List_spliced (aH (h pos J s l H _ I o) λp U ⟨C,g,j,r,z,q⟩=>⟨by rw[<-r.length];exact z,?_⟩);have T:g U.heap.objs.size=none:=j.hok.fresh<|Am _;refine⟨.ref U.heap.objs.size,upd g U.heap.objs.size<|.lst C,j.laid (t':=U.toks) (λb u e=>qy _ e) (Am _) ?_,rfl,q _ T⟩;exact⟨z,p,0,r,sy _ rfl⟩
end
abbrev Sp:=List V->Hp->VK->XK->Prop
abbrev wT:=List Env->Hp->Shared->XK->Value->Shared->Prop
structure ai5(P:Program)(w:World)(K:Ah)(mg:Str->Option Value)(base:Heap)(A:Around)(outer:List Env)(s:Shared)(H:Hp):Prop where
 frames:A.frames=some outer
 mod:Mod K mg base
 bs:∀b o,base.get? b=some o->s.heap.get? b=some o/\H b=none
 bsz:base.objs.size<=s.heap.objs.size
 funs:s.heap.FunFrames base outer
 frf:∀b∈bY outer,H b=none
 hok:dm P w H s.heap
 bare:AllBare s.gens
 tk:0<s.toks
def CE(outer:List Env)(P:Program)(w:World)(H:Hp)(s:Shared)(Q:VK)(u:Value)(s':Shared):Prop:=
 ∃v H',s'.os=s.os/\AllBare s'.gens/\Un (bY outer) [] H H' s.heap s'.heap/\dm P w H' s'.heap/\zr v u/\Q v H'/\0<s'.toks
def CR(CX:wT)(outer:List Env)(P:Program)(w:World)(H:Hp)(s:Shared)(Q:VK)(E:XK)(r:Result)(s':Shared):Prop:=
 match r with
 |.ok (.ret u)=>CE outer P w H s Q u s'
 |.ok _=>False
 |.error e=>CX outer H s E e s'
structure bP(P:Program)(w:World)(K:Ah)(mg:Str->Option Value)(base:Heap)(CX:wT)(k:Nat)(f:Addr)(fd:FuncData)(ps:List Str)(sp:Sp):Prop where
 len:∀vs H Q E,sp vs H Q E->vs.length=ps.length
 run:∀(A:Around) (outer:List Env) (s:Shared) (H:Hp) (args:Args) (us:List Value) (vs:List V) (Q:VK) (E:XK),w4 k A->ai5 P w K mg base A outer s H->BindsTo s fd args (ps.zip us)->zw vs us->sp vs H Q E->
  codeAny (model P w) A (.call (.ref f) args) (CR CX outer P w H s Q E) s
theorem bP.mono{P:Program}{w:World}{K:Ah}{CX:wT}{k:Nat}{sp:Sp}(F:bP P w K mg base CX j f fd ps sp)(h:j<=k):
 bP P w K mg base CX k f fd ps sp:=⟨F.len,λA I s H args J U Q E g=>F.run A I s H args J U Q E<|g.mono h⟩
theorem bP.imp{P:Program}{w:World}{K:Ah}{CX:wT}{k:Nat}{sp J:Sp}(F:bP P w K mg base CX k f fd ps sp)
 (h:∀vs H Q E,J vs H Q E->sp vs H Q E):bP P w K mg base CX k f fd ps J:=
 ⟨λvs H Q E q=>F.len vs H Q E<|h _ _ _ _ q,λA I s H args U vs Q E g j l o p=>F.run A I s H args U vs Q E g j l o<|h _ _ _ _ p⟩
theorem qw.env0(I:qw X pins σ H s):ai5 X.prog X.w X.K X.mg X.base X.A X.stack s H:=
 ⟨I.ok.frames,I.ok.mod,I.bs,A0 I.ok.bsz I.sz,I.stack,I.stkFree,I.hok,I.bare,I.tk⟩
theorem qw.after{Q:VK}(I:qw X pins σ H s)(h:CE X.stack X.prog X.w H s Q u s'):EP X pins σ Q u s':=by obtain⟨v,j,os,bare,un,J,r,q,o⟩:=h;obtain⟨l,g,d,t,U⟩:=s';obtain rfl:U=s.os:=os;exact⟨v,j,I.call (h':=l) (g':=g) (d':=d) (t':=t) (ch:=[]) un J bare λb z=>absurd z (by simp),r,q⟩
def aiz(sp:Sp)(pC:List V)(E:XK)(t:TA):TE:=λσ H Q=>t σ H λvs H1=>sp (vs++pC) H1 Q E
def da(K:Ah)(fd:FuncData)(ps:List Str)(ds:List Value):Prop:=
 ∀(s:Shared) (us:List Value),K.In s.heap->(us++ds).length=ps.length->BindsTo s fd ⟨us,[]⟩ (ps.zip<|us++ds)
theorem da.all{K:Ah}(h:∀us:List Value,us.length=ps.length->bindArgs fd ⟨us,[]⟩=pure (ps.zip us)):da K fd ps []:=λs us _ I=>by rw[AD] at I ⊢;exact .of_eq<|h us I
def um(CX:wT)(X:Cx)(E:XK):Prop:=∀(pins:List<|Addr×Obj) (σ:St) (H:Hp) (s:Shared) (e:Value) (s':Shared),qw X pins σ H s->CX X.stack H s E e s'->X.xe e s'
section
variable {CX:wT}{k:Nat}{sp:Sp}{pC:List V}{ds:List Value}{E:XK}{m:Str}{p:Pos}{ta:TE}{t:TA}
theorem al0{Q:VK}{vs:List V}(F:bP X.prog X.w X.K X.mg X.base CX k f fd ps sp)(g:w4 k X.A)(j:da X.K fd ps ds)(hd:zw pC ds)(l:um CX X E)
 (I:qw X pins σ H s) (r:zw vs us) (h:sp (vs++pC) H Q E):wpAny (model X.prog X.w) X.A (call (.ref f) us) (EP X pins σ Q) X.xe s:=by
 have U:zw (vs++pC) (us++ds):=r.append hd;have o:(us++ds).length=ps.length:=by rw[<-U.length];exact F.len _ _ _ _ h
 refine wpAny_call<|codeAny_mono (F.run X.A X.stack s H ⟨us,[]⟩ (us++ds) (vs++pC) Q E g I.env0 (j s us I.kIn o) U h) λr p J=>?_;cases r with
 |error e=>exact l pins σ H s e p I J
 |ok t=>
  cases t with|ret u=>exact I.after J|next=>exact False.elim J|brk=>exact False.elim J|cont=>exact False.elim J
abbrev E9(p:Pos)(es:List Expr)(X:Cx):Prop:=(backTo p<|starEach es X.env).any (·.1)=false
theorem agc(F:bP X.prog X.w X.K X.mg X.base CX k f fd ps sp)(l:w4 k X.A)(o:Gl X x)(C:X.mg x=some (.ref f))(T:PySem.W.keepIn X.K (.ref f)=true)(hb:da X.K fd ps ds)(hd:zw pC ds)(hx:um CX X E)
 (ha:PA X (e::es) t) (U:Fb x:=by decide) (he:E8 e es X:=by rfl) (g:E9 pos es X:=by rfl):
 PE X (.Call (.Name x p) (e::es) [] pos) (aiz sp pC E t):=by
 intro J s σ H Q I h;refine wpAny_Call_Name_kw<|gR I o C ?_ U;refine PySem.W.callWith_K (h₀:=X.base) I.ok.mod.kin T (yk (ha pos J s σ H _ I h) λus s1 vs H1 j r q=>⟨j.kIn,?_⟩) he g;exact al0 F l hb hd hx j r q
end
section
variable {CX:wT}{k:Nat}{ks:List Str}{sp:Sp}{E:XK}{m:Str}{p:Pos}{kws:List Keyword}{te ta:TE}{t tk:TA}{nm:Option Str}
variable {g:List Value->List Value->List Value}{gV:List V->List V->List V}
end
structure aG(N P:List Str)(sc:Scope):Prop where
 kind:sc.kind=.function
 co:sc.isCoroutine=false
 gen:sc.isGenerator=false
 nd:N.Nodup
 pre:N.take P.length=P
 par:∀x∈P,sc.names.lookup x=some .local\/sc.names.lookup x=some .cell
 nofree:∀y∈sc.names,y.2≠.free
theorem pH{kindOf:Str->Option NameKind}{x:Str}:∀{I:List<|Str×Value} {m:Str->Option Value},(∀v,(x,v)∉I)->bindL kindOf I m x=m x
 |[],_,_=>rfl
 |(n,v)::r,m,h=>by
  unfold bindL;rw[pH λw hw=>h w<|Af _ hw];split
  ·have:x≠n:=by rintro rfl;exact h v Av
   simp[this]
  ·rfl
theorem o5{kindOf:Str->Option NameKind}{x:Str}:∀{I:List<|Str×Value} {m:Str->Option Value},(∀v,(x,v)∉I)->bindC kindOf I m x=m x
 |[],_,_=>rfl
 |(n,v)::r,m,h=>by
  unfold bindC;rw[o5 λw hw=>h w<|Af _ hw];split
  ·rfl
  ·have:x≠n:=by rintro rfl;exact h v Av
   simp[this]
theorem oj{kindOf:Str->Option NameKind}{x:Str}{v:Value}:∀{P:List Str} {vs:List Value} {i:Nat} {m:Str->Option Value},P.Nodup->P[i]?=some x->vs[i]?=some v->kindOf x=some .local->
 bindL kindOf (P.zip vs) m x=some v
 |[],_,_,_,_,h,_,_=>by simp at h
 |_::_,[],_,_,_,_,h,_=>by simp at h
 |p::P,w::vs,0,m,nd,h1,h2,I=>by simp at h1 h2;subst h1;subst h2;show bindL kindOf ((p,w)::P.zip vs) m p=_;unfold bindL;rw[pH λv J=>(AE.mp nd).1 (DH J).1,AA I];simp
 |p::P,w::vs,i+1,m,nd,h1,h2,I=>by show bindL kindOf ((p,w)::P.zip vs) m x=_;unfold bindL;exact oj (i:=i) (AE.mp nd).2 (by simpa using h1) (by simpa using h2) I
theorem oY{kindOf:Str->Option NameKind}{x:Str}{v:Value}:∀{P:List Str} {vs:List Value} {i:Nat} {m:Str->Option Value},P.Nodup->P[i]?=some x->vs[i]?=some v->kindOf x≠some .local->
 bindC kindOf (P.zip vs) m x=some v
 |[],_,_,_,_,h,_,_=>by simp at h
 |_::_,[],_,_,_,_,h,_=>by simp at h
 |p::P,w::vs,0,m,nd,h1,h2,I=>by simp at h1 h2;subst h1;subst h2;show bindC kindOf ((p,w)::P.zip vs) m p=_;unfold bindC;rw[o5 λv J=>(AE.mp nd).1 (DH J).1,Az I];simp
 |p::P,w::vs,i+1,m,nd,h1,h2,I=>by show bindC kindOf ((p,w)::P.zip vs) m x=_;unfold bindC;exact oY (i:=i) (AE.mp nd).2 (by simpa using h1) (by simpa using h2) I
def start(N:List Str)(vs:List V):St:=vs.map some++List.replicate (N.length-vs.length) none
def cM(CX:wT)(P:Program)(w:World)(K:Ah)(mg:Str->Option Value)(base:Heap)(N:List Str)(eH:Str)(scope:Scope)(f:Addr)(cd:Value)(A:Around)(outer:List Env)(s:Shared)(H:Hp)(E:XK):Cx where
 prog:=P
 w:=w
 K:=K
 mg:=mg
 base:=base
 A:=A.deeper<|envOfC eH scope s.heap.objs.size f cd
 N:=N
 s₀:=s
 H₀:=H
 env:=envOfC eH scope s.heap.objs.size f cd
 outer:=outer
 stack:=envOfC eH scope s.heap.objs.size f cd::outer
 ex:=[]
 calm:=true
 fn:=λ_=>true
 pn:=[]
 xe:=λe s'=>wpAny (model P w) (A.deeper<|envOfC eH scope s.heap.objs.size f cd) (leaving (envOfC eH scope s.heap.objs.size f cd) e) (λ_ I=>CX outer H s E e I) (λJ I=>CX outer H s E J I) s'
theorem rX{I:Scope}(h:I.names.lookup x=some .cell):∃c,(cellsFrom n I.names []).lookup x=some c:=by have q:=Es I.names n []<|.inl h;exact Option.isSome_iff_exists.mp q
theorem yS{CX:wT}{P:Program}{w:World}{K:Ah}{N:List Str}{o:Shared}{E:XK}{vs:List V}
 (S:aG N ps scope) (hd:A.handled=none) (I:ai5 P w K mg base A outer s H) (hl:vs.length=ps.length) (r:zw vs us)
 (x:InCallC s s.heap.objs.size (bindL (envOfC eH scope s.heap.objs.size f cd).kindOf (ps.zip us) λ_=>none) (cellsFrom (s.heap.objs.size+1) scope.names []) (bindC (envOfC eH scope s.heap.objs.size f cd).kindOf (ps.zip us) λ_=>none) o) (T:0<o.toks):
 qw (cM CX P w K mg base N eH scope f cd A outer s H E) [] (start N vs) H o:=by
 have a1:ps.length<=N.length:=by have:=BG List.length S.pre;rw[AR] at this;lia
 obtain⟨h1,tk,rfl,t⟩:=x.done;have J:∀b:Addr,b∉(cM CX P w K mg base N eH scope f cd A outer s H E).ex:=λb z=>absurd (show b∈([]:List Addr) from z) (by simp);refine⟨⟨I.mod,S.kind,rfl,rfl,Am _,λy z c h1 h2=>?_,λy U=>?_,λy c _ h=>?_,λ_=>hd,Around.frames_deeper I.frames,.inr ⟨rfl,rfl⟩,λb z=>absurd z<|J b,I.bs,I.bsz,λb _ _=>J b,λb z=>absurd z<|J b,I.funs,I.frf⟩,
  rfl,I.bare,Un.kept t,⟨_,x.toInCall.ns,λi y v h1 h2 h3=>?_⟩,λy c h=>⟨_,x.cell y c h⟩,I.hok.fresh<|Am _,λy c h=>?_,λp g=>absurd (show p∈([]:List<|Addr×Obj) from g) (by simp),I.hok.kept t,?_,T⟩
 ·exact name_of_addr x.apart (BL h1)<|BL h2
 ·have U:scope.names.lookup y=some .cell\/scope.names.lookup y=some .free:=U;rcases U with U|U
  ·exact rX U
  ·exact absurd rfl<|S.nofree _<|BL U
 ·exact BO<|x.above y c<|BL h
 ·have l:i<vs.length:=by
   unfold start at h2;by_cases l:i<vs.length
   ·exact l
   ·rw[Ap (by simpa using l)] at h2;rw[Dm] at h2;split at h2<;>cases h2
  have ha:vs[i]?=some v:=by unfold start at h2;rw[AB (by simpa using l),Aq] at h2;cases e:vs[i]? with|none=>rw[e] at h2;cases h2|some a=>rw[e] at h2;cases h2;rfl
  obtain⟨u,C,rv⟩:=r.get ha;have g:ps[i]?=some y:=by rw[<-S.pre,Eh (by lia)];exact h1
  have j:ps.Nodup:=by rw[<-S.pre];exact S.nd.sublist<|Ed _ _
  refine⟨u,rv,?_⟩;rcases S.par y (AC g) with k|k
  ·exact .inl ⟨k,oj j g C k⟩
  ·obtain⟨c,e⟩:=rX (n:=s.heap.objs.size+1) k;refine .inr ⟨.inl k,c,e,?_⟩;have q:=x.cell y c e;rw[oY j g C (by show scope.names.lookup y≠_;rw[k];decide)] at q;exact q
 ·exact I.hok.fresh<|BO<|x.above y c<|BL h
 ·unfold start;show _=N.length;rw[Ac,Ae,Cq];lia
theorem ab0{CX:wT}{P:Program}{w:World}{K:Ah}{k:Nat}{U:Arguments}{dV kV ct:Value}
 {N:List Str} {sp:Sp} (lk:K.lookup f=some ⟨oc,od,.func<|PySem.W.fnOf name eH U body scope dV kV hE pm an eK ct,mR⟩) (a1:PySem.W.codeIn K eK eH=true) (S:aG N ps scope)
 (len:∀vs H Q E,sp vs H Q E->vs.length=ps.length)
 (j:∀(A:Around) (outer:List Env) (s:Shared) (H:Hp) (vs:List V) (Q:VK) (E:XK),w4 k (A.deeper<|envOfC eH scope s.heap.objs.size f eK)->sp vs H Q E->
  ∃t,gl (cM CX P w K mg base N eH scope f eK A outer s H E) body t/\t { nx:=λ_ H'=>Q .non H',rt:=Q } (start N vs) H):
 bP P w K mg base CX (k+1) f (PySem.W.fnOf name eH U body scope dV kV hE pm an eK ct) ps sp:=by
 refine⟨len,λA outer s H args us vs Q E hr p hb r T=>?_⟩;have hl:=len _ _ _ _ T;have KX:K.In s.heap:=p.mod.kin.keeps λb o e=>(p.bs b o e).1;have a2:s.heap.NoLimit:=p.mod.nolimit.keeps λb o e=>(p.bs b o e).1;have l:∀y∈ps.zip us,scope.names.lookup y.1=some .local\/(scope.names.lookup y.1=some .cell/\((cellsFrom (s.heap.objs.size+1) scope.names []).lookup y.1).isSome=true):=λ ψ hy=>by
  obtain⟨n,v⟩:=ψ
  rcases S.par n (DH hy).1 with q|q
  ·exact .inl q
  ·exact .inr ⟨q,Es _ _ _<|.inl q⟩
 refine codeAny_call_function hr.depth (KX _ _ lk) rfl S.co S.gen rfl (PySem.W.codeRec_of KX a1)<|hb _ _ _ _ ?_;refine jq p.tk<|wpAny_newFunctionEnv_cells S.kind l λa4 he s1 x a3=>?_;subst he;refine⟨a2.keeps x.toInCall.keep,codeAny_func ?_⟩;obtain⟨t,ht,hq⟩:=j A outer s H vs Q E (hr.deeper _) T;have I:qw (cM CX P w K mg base N eH scope f eK A outer s H E) [] (start N vs) H s1:=yS S hr.hd p hl r x a3;refine AX (ht [] s1 (start N vs) H _ I hq) (λfl s' C=>?_) λe s' C=>C;have x9:∀{g:St} {H':Hp} {v:V} {u:Value},qw (cM CX P w K mg base N eH scope f eK A outer s H E) [] g H' s'->zr v u->Q v H'->CE outer P w H s Q u s':=
  λ{g H' v u} J rv q=>⟨v,H',J.os,J.bare,J.base,J.hok,rv,q,J.tk⟩
 cases fl with
 |ret u=>
  obtain⟨v,g,H',J,rv,q⟩:=C;exact x9 J rv q
 |next=>
  obtain⟨g,H',J,q⟩:=C;exact x9 (v:=V.non) (u:=Value.none) J rfl q
 |brk=>
  obtain⟨_,_,_,q⟩:=C;exact False.elim q
 |cont=>
  obtain⟨_,_,_,q⟩:=C;exact False.elim q
end L2
variable {sp:L2.Sp}
namespace L2
open PySem PySem.Spec PyProof.Rows
section
variable {p:Pos}{t:TA}{id T:String}{r:List V->Hp->VK->Prop}
def tCB(r:List V->Hp->VK->Prop)(t:TA):TE:=λσ H Q=>t σ H λvs H1=>r vs H1 Q
theorem hG(hc:jo X (.builtin id) r)(l:Gl X x)(o:X.mg x=none)(C:bootBuiltins x=some (.builtin id))(T:PA X (e::es) t)(hn:x ≠ "__name__" := by decide)(U:Fb x:=by decide)
 (he:E8 e es X:=by rfl) (g:E9 pos es X:=by rfl):PE X (.Call (.Name x p) (e::es) [] pos) (tCB r t):=by
 intro J s j H Q I h;refine wpAny_Call_Name_kw<|fA I l o C ?_ hn U;exact PyProof.Rows.callWith_builtin1 (yk (T pos J s j H _ I h) λus s1 vs H1 I1 r1 q1=>hc J s1 j H1 vs us Q I1 r1 q1) he g
theorem iy(hc:jo X (.type T) r)(l:Gl X x)(o:X.mg x=none)(C:bootBuiltins x=some (.type T))(ha:PA X (e::es) t)(hn:x ≠ "__name__" := by decide)(U:Fb x:=by decide)
 (he:E8 e es X:=by rfl) (g:E9 pos es X:=by rfl):PE X (.Call (.Name x p) (e::es) [] pos) (tCB r t):=by
 intro J s j H Q I h;refine wpAny_Call_Name_kw<|fA I l o C ?_ hn U;exact CS (yk (ha pos J s j H _ I h) λus s1 vs H1 I1 r1 q1=>hc J s1 j H1 vs us Q I1 r1 q1) he g
end
section
variable [DecidableEq κ]
def bU(kvs:List<|κ×V)(k:κ):Option V:=(kvs.find? λI=>decide<|I.1=k).map (·.2)
def fI(kvs:List<|κ×V)(k:κ)(v:V):List (κ×V):=
 if (kvs.any λI=>decide<|I.1=k)=true then kvs.map (λI=>if I.1=k then(I.1,v) else I) else kvs++[(k,v)]
theorem lz{p:κ×V}{r:List<|κ×V}{k:κ}(e:p.1=k):bU (p::r) k=some p.2:=by simp[bU,BH,e]
theorem nR{p:κ×V}{r:List<|κ×V}{k:κ}(e:¬p.1=k):bU (p::r) k=bU r k:=by simp[bU,BH,e]
theorem rV(k:κ):∀kvs:List (κ×V),(kvs.any λI=>decide<|I.1=k)=(bU kvs k).isSome
 |[]=>rfl
 |p::r=>by
  rw[Cw];by_cases e:p.1=k
  ·simp only[lz e,AI e,Bool.true_or,DP]
  ·rw[nR e,Ay e,Bool.false_or];exact rV k r
theorem dt(kvs:List<|κ×V)(k:κ)(v:V):(fI kvs k v).length<=kvs.length+1:=by
 unfold fI;split
 ·rw[Ae];lia
 ·rw[Ac,AM,DI];lia
theorem i5.isSome_eq{o:Option V}{u:Option Value}(r:i5 o u):o.isSome=u.isSome:=by
 cases o with
 |none=>cases u with|none=>rfl|some _=>exact(show False from r).elim
 |some _=>cases u with|none=>exact(show False from r).elim|some _=>rfl
theorem KV.val{kvs:List<|κ×V}{vs:List<|κ×Value}(r:KV kvs vs)(k:κ):i5 (bU kvs k) (valueAt vs k):=by
 unfold KV at r
 induction r with
 |nil=>exact True.intro
 |@cons p q g I h t U=>
  obtain⟨h1,h2⟩:=h;by_cases e:p.1=k
  ·have J:q.1=k:=h1.symm.trans e;have b:valueAt (q::I) k=some q.2:=by simp[valueAt,BH,J]
   rw[lz e,b];exact h2
  ·have J:¬q.1=k:=λz=>e<|h1.trans z;have b:valueAt (q::I) k=valueAt I k:=by simp[valueAt,BH,J]
   rw[nR e,b];exact U
theorem KV.any{kvs:List<|κ×V}{vs:List<|κ×Value}(r:KV kvs vs)(k:κ):(kvs.any λI=>decide<|I.1=k)=vs.any λI=>decide (I.1=k):=by
 unfold KV at r
 induction r with|nil=>rfl|cons h t J=>rw[Cw,Cw,J,h.1]
theorem KV.repl{kvs:List<|κ×V}{vs:List<|κ×Value}(r:KV kvs vs)(k:κ){y:V}(J:zr y u):
 KV (kvs.map λI=>if I.1=k then(I.1,y) else I) (vs.map λI=>if I.1=k then(I.1,u) else I):=by
 unfold KV at r ⊢
 induction r with
 |nil=>exact .nil
 |@cons p q g j h t U=>
  rw[AF,AF];refine .cons ?_ U;obtain⟨h1,h2⟩:=h;by_cases e:p.1=k
  ·rw[AA e,AA<|h1.symm.trans e];exact⟨h1,J⟩
  ·rw[Az e,Az λz=>e<|h1.trans z];exact⟨h1,h2⟩
theorem KV.put{kvs:List<|κ×V}{vs:List<|κ×Value}(r:KV kvs vs)(k:κ){y:V}(I:zr y u):KV (fI kvs k y) (stored vs k u):=by
 unfold fI stored;rw[r.any k];by_cases e:(vs.any λJ=>decide<|J.1=k)=true
 ·rw[AA e,AA e];exact r.repl k I
 ·rw[Az e,Az e];exact Paired.snoc r ⟨rfl,I⟩
theorem KV.length{kvs:List<|κ×V}{vs:List<|κ×Value}(r:KV kvs vs):kvs.length=vs.length:=Paired.length r
end
theorem jE{P:Program}{w:World}{k:jk}(r:zr (kV k) u):(v9 P w).is k u=true:=by
 cases k with
 |inl i=>obtain⟨t,e⟩:=(show ∃t,u=Value.int i t from r);subst e;exact sw P w i t
 |inr x=>obtain⟨t,e⟩:=(show ∃t,u=Value.str x t from r);subst e;exact uO P w x t
theorem o7{P:Program}{w:World}:∀{ks:List jk} {us:List Value},zw (ks.map kV) us->ItemsAre (v9 P w) ks us
 |[],_,r=>by rw[Ds] at r;cases r;exact .nil
 |k::ks,_,r=>by rw[AF] at r;cases r with|cons h t=>exact .cons (jE h)<|o7 t
abbrev KT(H:Hp):List (List jk×V)->List (List jk×Addr×Value)->Prop:=Paired λp q=>p.1=q.1/\H q.2.1=some (.tup<|p.1.map kV)/\zr p.2 q.2.2
theorem KT.val{kvs:List<|List jk×V}{xs:List<|List jk×Addr×Value}(r:KT H kvs xs)(k:List jk):i5 (bU kvs k) ((atKey xs k).map (·.2)):=by
 induction r with
 |nil=>exact True.intro
 |@cons p q g I h t U=>
  obtain⟨h1,_,h2⟩:=h;by_cases e:p.1=k
  ·have J:q.1=k:=h1.symm.trans e;have b:atKey (q::I) k=some q.2:=by simp[atKey,BH,J]
   rw[lz e,b];exact h2
  ·have J:¬q.1=k:=λz=>e<|h1.trans z;have b:atKey (q::I) k=atKey I k:=by simp[atKey,BH,J]
   rw[nR e,b];exact U
theorem KT.repl{kvs:List<|List jk×V}{xs:List<|List jk×Addr×Value}(r:KT H kvs xs)(k:List jk){y:V}(J:zr y u):
 KT H (kvs.map λI=>if I.1=k then(I.1,y) else I) (xs.map<|putAt k u):=by
 induction r with
 |nil=>exact .nil
 |@cons p q g j h t U=>
  rw[AF,AF];refine .cons ?_ U;obtain⟨h1,h2,h3⟩:=h;unfold putAt;by_cases e:p.1=k
  ·rw[AA e,AA<|h1.symm.trans e];exact⟨h1,h2,J⟩
  ·rw[Az e,Az λz=>e<|h1.trans z];exact⟨h1,h2,h3⟩
theorem KT.put{kvs:List<|List jk×V}{xs:List<|List jk×Addr×Value}(r:KT H kvs xs)(k:List jk){b:Addr}{y:V}(J:H b=some (.tup<|k.map kV))(I:zr y u):
 KT H (fI kvs k y) (storedH xs k b u):=by
 have e:(kvs.any λU=>decide<|U.1=k)=(atKey xs k).isSome:=by rw[rV,(r.val k).isSome_eq,CT]
 unfold fI storedH;rw[e];by_cases q:(atKey xs k).isSome=true
 ·rw[AA q,AA q];exact r.repl k I
 ·rw[Az q,Az q];exact Paired.snoc r ⟨rfl,J,I⟩
theorem KT.keeps{kvs:List<|List jk×V}{xs:List<|List jk×Addr×Value}(r:KT H kvs xs)(I:∀b ys,H b=some (.tup ys)->H' b=some (.tup ys)):KT H' kvs xs:=
 ER r λ_ _ z=>⟨z.1,I _ _ z.2.1,z.2.2⟩
section
variable {P:Program}{w:World}{a:Addr}
theorem aii{u:HO}(ok:dm P w H h)(e:Rd H a u):xi P w H h a u:=e.ok ok
theorem oP{kvs:List<|jk×V}(ok:dm P w H h)(e:Rd H a<|.dK kvs):kvs.length<=sizeLine/\(a==sysModules)=false/\∃vs,KV kvs vs/\h.DictOf (v9 P w) a vs:=
 show xi P w H h a (.dK kvs) from aii ok e
theorem aix{kvs:List<|jk×V}(ok:dm P w H h)(e:H a=some (.dK kvs)):kvs.length<=sizeLine/\(a==sysModules)=false/\∃vs,KV kvs vs/\h.DictOf (v9 P w) a vs:=oP ok<|.inl e
theorem lD{ks:List jk}(ok:dm P w H h)(e:H a=some (.tup<|ks.map kV)):(tupleKind<|v9 P w).is h ks a:=by obtain⟨_,I,r,o,h1,h2,n,h3⟩:=(show xi P w H h a (.tup<|ks.map kV) from ok a _ e);exact⟨o,I.toArray,n,h1,h2,h3,by simpa using o7 r⟩
theorem tO{kvs:List<|List jk×V}(ok:dm P w H h)(e:Rd H a<|.dT kvs):kvs.length<=sizeLine/\(a==sysModules)=false/\
 ∃xs,KT H kvs xs/\h.DictOfH (tupleKind<|v9 P w) a xs:=by
 obtain⟨z,y,xs,r,o,U,g,h1,h2,h3,j,C⟩:=(show xi P w H h a (.dT kvs) from aii ok e);refine⟨z,y,xs,r,o,U,g,h1,h2,h3,j,λx I=>?_,C⟩;have all:∀{l:List<|List jk×V} {m:List<|List jk×Addr×Value},KT H l m->∀x∈m,(tupleKind<|v9 P w).is h x.1 x.2.1:=by
  intro l m q
  induction q with
  |nil=>intro x I;exact nomatch I
  |@cons p q ps qs J t T=>
   intro x I;rcases An.mp I with e|I
   ·subst e;exact lD ok (by rw[<-J.1];exact J.2.1)
   ·exact T x I
 exact all r x I
theorem anj{kvs:List<|List jk×V}(ok:dm P w H h)(e:H a=some (.dT kvs)):kvs.length<=sizeLine/\(a==sysModules)=false/\
 ∃xs,KT H kvs xs/\h.DictOfH (tupleKind<|v9 P w) a xs:=tO ok<|.inl e
end
def rR(H:Hp)(a:Addr)(y:V)(r:Option V):Prop:=
 (∃kvs k,Rd H a (.dK kvs)/\y=kV k/\r=bU kvs k)\/∃kvs k b,Rd H a (.dT kvs)/\y=.ref b/\H b=some (.tup<|k.map kV)/\r=bU kvs k
def aom(H:Hp)(a:Addr)(y v:V)(H':Hp):Prop:=
 (∃kvs k,H a=some (.dK kvs)/\y=kV k/\kvs.length<sizeLine/\H'=upd H a (.dK<|fI kvs k v))\/
 ∃kvs k b,H a=some (.dT kvs)/\y=.ref b/\H b=some (.tup<|k.map kV)/\kvs.length<sizeLine/\H'=upd H a (.dT<|fI kvs k v)
theorem rR.k{a:Addr}{kvs:List<|jk×V}{k:jk}(e:H a=some (.dK kvs)):rR H a (kV k) (bU kvs k):=.inl ⟨kvs,k,.inl e,rfl,rfl⟩
section
variable {a:Addr}{y v:V}{r:Value}{o:Option V}
theorem qw.big(I:qw X pins σ H s):sysModules<s.heap.objs.size:=by have h:mainGlobals<s.heap.objs.size:=(I.mod.glob.keeps I.bk).lt;exact Nat.lt_trans (by decide) h
theorem zY(hu:A.units+1<cLine)(I:qw X pins σ H s)(g:rR H a y<|some v)(T:zr y u)(h:∀U s',qw X pins σ H s'->zr v U->Q U s'):
 wpAny (model X.prog X.w) A (getItem (.ref a) u) Q E s:=by
 rcases g with⟨j,k,e,r,l⟩|⟨j,k,b,e,r,eb,l⟩
 ·subst r;obtain⟨z,hd,vs,rel,t⟩:=oP I.hok e;obtain⟨U,hw,J⟩:=EW (v:=v) (o:=valueAt vs k) (by rw[l];exact rel.val k);exact wpAny_getItem_of (jE T) t.mapOf hw<|h U _ (I.tok _) J
 ·subst r;cases (show u=Value.ref b from T);obtain⟨z,hd,xs,rel,t⟩:=tO I.hok e;obtain⟨U,hw,J⟩:=EW (v:=v) (o:=(atKey xs k).map (·.2)) (by rw[l];exact rel.val k);obtain⟨p,hp,C⟩:=Ax.mp hw;refine wpAny_getItem_heap (tupleKind_room_in1 hu) (lD I.hok eb) t hp ?_;rw[C];exact h U _ (I.tok _) J
theorem at7(r:A.units+1<cLine)(I:qw X pins σ H s)(g:rR H a y o)(p:zr y u)(h:∀s',qw X pins σ H s'->Q (.bool o.isSome) s'):
 wpAny (model X.prog X.w) A (compareOp .In u<|.ref a) Q E s:=by
 rcases g with⟨J,k,e,U,l⟩|⟨J,k,b,e,U,eb,l⟩
 ·subst U;obtain⟨z,hd,t,rel,j⟩:=oP I.hok e;refine wpAny_in_of (jE p) hd j.mapOf ?_;rw[<-(rel.val k).isSome_eq,<-l];exact h _<|I.tok _
 ·subst U;cases (show u=Value.ref b from p);obtain⟨z,hd,C,rel,j⟩:=tO I.hok e;refine wpAny_in_heap (tupleKind_room_in1 r) (lD I.hok eb) hd j ?_;have q:=(rel.val k).isSome_eq;rw[CT] at q;rw[<-q,<-l];exact h _<|I.tok _
theorem ah9(r:A.units+1<cLine)(I:qw X pins σ H s)(g:rR H a y o)(p:zr y u)(h:∀s',qw X pins σ H s'->Q (.bool<|!o.isSome) s'):
 wpAny (model X.prog X.w) A (compareOp .NotIn u<|.ref a) Q E s:=by
 rcases g with⟨J,k,e,U,l⟩|⟨J,k,b,e,U,eb,l⟩
 ·subst U;obtain⟨z,hd,t,rel,j⟩:=oP I.hok e;refine wpAny_notIn_of (jE p) hd j.mapOf ?_;rw[<-(rel.val k).isSome_eq,<-l];exact h _<|I.tok _
 ·subst U;cases (show u=Value.ref b from p);obtain⟨z,hd,C,rel,j⟩:=tO I.hok e;refine wpAny_notIn_heap (tupleKind_room_in1 r) (lD I.hok eb) hd j ?_;have q:=(rel.val k).isSome_eq;rw[CT] at q;rw[<-q,<-l];exact h _<|I.tok _
theorem qI{ob:HO}(I:qw X pins σ H s)(J:Mut<|H a)(hs:Heap.SameBut a s.heap h')(U:∃q,h'.get? a=some q)(new:xi X.prog X.w (upd H a ob) h' a ob)(j:0<t':=by walk_at "t"):
 qw X pins σ (upd H a ob) { s with heap:=h',toks:=t' }:=
 I.write (x:=a) (e:=a) J (.inl rfl) (λb q g z=>(hs.2 b g).trans z) U new
theorem ab5{P:Program}{w:World}{kvs:List<|jk×V}{vs:List<|jk×Value}(z:kvs.length<=sizeLine)(hd:(a==sysModules)=false)(rel:KV kvs vs)(dd:h'.DictOf (v9 P w) a vs):
 xi P w H' h' a (.dK kvs):=⟨z,hd,vs,rel,dd⟩
theorem aaf{Q:Unit->Shared->Prop}(hu:A.units+1<cLine)(I:qw X pins σ H s)(g:aom H a y v H')(ry:zr y u)(rv:zr v r)(h:∀s',qw X pins σ H' s'->Q () s'):
 wpAny (model X.prog X.w) A (setItem (.ref a) u r) Q E s:=by
 rcases g with⟨J,k,e,o,l,p⟩|⟨J,k,b,e,o,eb,l,p⟩
 ·subst o p;obtain⟨z,hd,vs,rel,t⟩:=aix I.hok e;have C:vs.length<=sizeLine:=by rw[<-rel.length];exact z
  have T:(fI J k v).length<=sizeLine:=by have:=dt J k v;lia
  refine wpAny_setItem_pairs (hsz:=C) (jE ry) t λh' U hs=>h _ ?_;have he:∃q,h'.get? a=some q:=let ⟨q,_,_,j,_⟩:=U;⟨q,j⟩;exact qI I (by rw[e];exact True.intro) hs he<|ab5 T hd (rel.put k rv) U
 ·subst o p;cases (show u=Value.ref b from ry);obtain⟨z,hd,xs,rel,t⟩:=anj I.hok e;have C:xs.length<=sizeLine:=by rw[<-Paired.length rel];exact z
  have T:(fI J k v).length<=sizeLine:=by have:=dt J k v;lia
  refine wpAny_setItem_heap (hsz:=C) (tupleKind_room_in1 hu) (lD I.hok eb) t λh' U hs=>h _ ?_;obtain⟨q,es,ep,j,h2,h3,h4,_,h5⟩:=U;refine qI I (by rw[e];exact True.intro) hs ⟨q,j⟩ ⟨T,hd,_,(rel.put k eb rv).keeps λc ys ec=>?_,q,es,ep,j,h2,h3,h4,h5⟩;rw[ql<|ans ec e λz=>nomatch z];exact ec
end
section
variable {a:Addr}{kvs:List<|jk×V}{k:jk}
end
def ama(i:Expr):Prop:=∀I J,subscripted i false I J=operate [I,J] (getItem I J)
theorem aic{w:World}{slice:Expr}{T id:String}
 (t:typeLookup (.type T) "__getitem__" = pure (some<|.builtin id)) (hs:ama slice)
 (h:wpAny (model prog w) A (eval value env) (λo U=>wpAny (model prog w) A (eval slice env) (λi I=>I.TypeIs o T/\wpAny (model prog w) A (getItem o i) Q E I) E U) E s):
 wpAny (model prog w) A (eval (.Subscript value slice pos) env) Q E s:=by
 refine Subscript_<|AX h (λo U j=>AX j (λi I J=>?_) λ_ _ x=>x) λ_ _ x=>x;obtain⟨p,J⟩:=J;unfold subscriptTail;refine Aa ?_;rw[getitemInPython_of_ne p.not_modules];refine Aa<|wpAny_specialOf p t ?_;have x9:wpAny (model prog w) A (subscripted slice false o i) (λr g=>wpAny (model prog w) A (letTemporaryGo value o r >>= λ_=>pure r) Q E g) E I:=by rw[hs o i];exact wpAny_operating<|AX J (λr g l=>Aa<|wpAny_letTemporaryGo<|Ag l) λ_ _ x=>x
 first
  |exact Ag<|Aa x9
  |exact Aa<|Ag<|Aa x9
  |exact Aa x9
theorem tG{a:Addr}{y:V}{o:Option V}(I:qw X pins σ H s)(g:rR H a y o):s.TypeIs (.ref a) "dict" := by
 rcases g with⟨J,k,e,_,_⟩|⟨J,k,b,e,_,_,_⟩
 ·obtain⟨_,_,j,_,U⟩:=oP I.hok e;exact U.typeIs
 ·obtain⟨_,_,l,_,U⟩:=tO I.hok e;exact U.typeIs
def aoo(td ty:TE):TE:=λσ H Q=>td σ H λx H1=>ty σ H1 λy H2=>∃a v,x=.ref a/\rR H2 a y (some v)/\Q v H2
def aq0(td ty tv:TE):TS:=λD σ H=>tv σ H λv H1=>td σ H1 λx H2=>ty σ H2 λy J=>∃a I,x=.ref a/\aom J a y v I/\D.nx σ I
section
variable {i:Expr}{tpos:Pos}{td ty tv:TE}
theorem ago(p:X.A.units+1<cLine)(r:PE X o td)(hi:PE X i ty)(hs:ama i):PE X (.Subscript o i pos) (aoo td ty):=by intro J s j H Q I h;refine aic DZ.lookup hs<|ar (r J s j H _ I h) λu t x C T rx q1=>aH (hi J t j C _ T q1) λiv s2 ψ=>?_;obtain⟨y,H2,l,ry,a,v,ex,g,q2⟩:=ψ;subst ex;obtain rfl:u=Value.ref a:=rx;exact⟨tG l g,zY p l g ry λw' s3 I3 U=>⟨v,H2,I3,U,q2⟩⟩
theorem aib(j:X.A.units+1<cLine)(l:PE X o td)(hi:PE X i ty)(p:PE X value tv)(hs:swapsWith value (some<|.Subscript o i gg) pos.line X.env=pure false):
 PS X (.Assign [.Subscript o i gg] value pos) (aq0 td ty tv):=by
 intro J s U H D I h;refine wpAny_Assign_Subscript (ar (p J s U H _ I h) λr t v C T rv q1=>ar (l J t U C _ T q1) λu s2 x H2 I2 rx q2=>aH (hi J s2 U H2 _ I2 q2) λiv s3 ψ=>?_) hs;obtain⟨y,H3,I3,ry,a,H4,ex,g,q3⟩:=ψ;subst ex;obtain rfl:u=Value.ref a:=rx;exact aaf j I3 g ry rv λs4 I4=>⟨U,H4,I4,q3⟩
end
theorem sN{P:Program}{w:World}(h:Heap)(I:sysModules<h.objs.size):xi P w H (h.push { cls:=.type "dict",data:=.dict #[] }) h.objs.size (.dK []):=
 ⟨Be _,beq_eq_false_iff_ne.mpr<|AJ<|A4 I,[],.nil,Heap.DictOf.new h⟩
def ak2:TE:=λ_ H Q=>∀p,H p=none->Q (.ref p) (upd H p<|.dK [])
theorem aeu:PE X (.Dict [] [] pos) ak2:=λJ s U H Q I h=>
 wpAny_Dict_empty ⟨.ref s.heap.objs.size,_,I.laid (a:=s.heap.objs.size) (o:=.dK []) (t':=s.toks) (λ_ _ q=>qy _ q) (Am _)<|sN s.heap I.big,rfl,h _<|I.hok.fresh<|Am _⟩
def rH:List (TE×TE)->St->Hp->(List (V×V)->Hp->Prop)->Prop
 |[],_,H,Q=>Q [] H
 |(tk,tv)::r,σ,H,Q=>tk σ H λx H1=>tv σ H1 λy H2=>rH r σ H2 λps I=>Q ((x,y)::ps) I
abbrev VV:List (V×V)->List (Value×Value)->Prop:=Paired λp q=>zr p.1 q.1/\zr p.2 q.2
def PPs(X:Cx)(pos:Pos)(keys:List<|Option Expr)(values:List Expr)(I:List<|TE×TE):Prop:=
 ∀(pins:List<|Addr×Obj) (s:Shared) (σ:St) (H:Hp) (Q:List (V×V)->Hp->Prop),qw X pins σ H s->rH I σ H Q->
  wpAny (model X.prog X.w) X.A (evalPairs<|pairTrees keys values X.env pos) (λvs s'=>∃ps H',qw X pins σ H' s'/\VV ps vs/\Q ps H') X.xe s
theorem afq :PPs X pos [] [] []:=λJ s U H Q I h=>pairTrees_nil_walk ⟨[],H,I,.nil,h⟩
theorem iL{k v:Expr}{ks:List<|Option Expr}{vs:List Expr}{tk tv:TE}{U:List<|TE×TE}(j:PE X k tk)(l:PE X v tv)(o:PPs X pos ks vs U):
 PPs X pos (some k::ks) (v::vs) ((tk,tv)::U):=λJ s g H Q I h=>
 pairTrees_cons_walk (ar (j J s g H _ I h) λu p x r t C T=>ar (l J p g r _ t T) λw2 s2 y H2 I2 ry q2=>
  aH (o J s2 g H2 _ I2 q2) λws s3 ⟨ps,H3,I3,rel,q3⟩=>⟨(x,y)::ps,H3,I3,.cons ⟨C,ry⟩ rel,q3⟩)
def i7(kvs more:List<|jk×V):List (jk×V):=more.foldl (λI J=>fI I J.1 J.2) kvs
theorem KV.merge:∀{more:List<|jk×V} {I:List<|jk×Value} {kvs:List<|jk×V} {vs:List<|jk×Value},KV more I->KV kvs vs->KV (i7 kvs more) (merged vs I):=by
 intro more I kvs vs r;unfold KV at r
 induction r generalizing kvs vs with
 |nil=>intro q;exact q
 |@cons p q g j h t J=>
  intro U;have e:KV (fI kvs p.1 p.2) (stored vs q.1 q.2):=by have:=U.put p.1 h.2;rw[<-h.1];exact this
  exact J e
theorem fj:∀(more kvs:List<|jk×V),(i7 kvs more).length<=kvs.length+more.length
 |[],kvs=>by show kvs.length<=kvs.length+0;lia
 |p::r,kvs=>by have h1:=fj r<|fI kvs p.1 p.2;have h2:=dt kvs p.1 p.2;show(i7 (fI kvs p.1 p.2) r).length<=_;rw[AM];lia
theorem l5{P:Program}{w:World}:∀{kvs:List<|jk×V} {J:List<|Value×Value},VV (kvs.map λU=>(kV U.1,U.2)) J->∃I,Carries (v9 P w) J I/\KV kvs I
 |[],_,r=>by rw[Ds] at r;cases r;exact⟨[],True.intro,.nil⟩
 |p::kvs,_,r=>by
  rw[AF] at r;cases r with
  |@cons a b as bs h t=>
   obtain⟨I,c,q⟩:=l5 (P:=P) (w:=w) t;obtain⟨b1,b2⟩:=b;exact⟨(p.1,b2)::I,⟨jE h.1,rfl,c⟩,.cons ⟨rfl,h.2⟩ q⟩
def anm(I:List<|TE×TE):TE:=λσ H Q=>∀p,H p=none->rH I σ (upd H p<|.dK []) λps H2=>H2 p=some (.dK [])/\∃kvs:List (jk×V),ps=kvs.map (λJ=>(kV J.1,J.2))/\kvs.length<=15/\Q (.ref p) (upd H2 p<|.dK<|i7 [] kvs)
theorem ag3{keys:List<|Option Expr}{values:List Expr}{J:List<|TE×TE}(h:PPs X pos keys values J)(U:keys.all (·.isSome)=true)(t:keys.length=values.length)(h0:keys≠[])
 (p:keys.length<=15):PE X (.Dict keys values pos) (anm J):=by
 intro g s C H Q I q;have T:=I.hok.fresh<|Am s.heap.objs.size;have I1:=I.laid (a:=s.heap.objs.size) (o:=.dK []) (h':=s.heap.push { cls:=.type "dict",data:=.dict #[] }) (t':=s.toks) (λ_ _ q=>qy _ q) (Am _)<|sN s.heap I.big;refine wpAny_Dict_walk (knd:=v9 X.prog X.w) U t h0 p<|aH (h g _ C _ _ I1<|q _ T) λws s2 ψ=>?_;obtain⟨ps,H2,r,rel,e,j,ep,lk,q2⟩:=ψ;subst ep;obtain⟨rs,c,rk⟩:=l5 (P:=X.prog) (w:=X.w) rel;obtain⟨z,hd,a1,r0,dd⟩:=aix r.hok e;cases r0;refine⟨rs,c,dd,λh' l hs=>⟨.ref s.heap.objs.size,_,?_,rfl,q2⟩⟩;have hz:(i7 [] j).length<=sizeLine:=by have h1:=fj j [];rw[DI] at h1;rw[sizeLine_eq];lia
 have he:∃q,h'.get? s.heap.objs.size=some q:=let ⟨q,_,_,hq,_⟩:=l;⟨q,hq⟩;exact qI r (by rw[e];exact True.intro) hs he<|ab5 hz hd (rk.merge .nil) l
section
variable {a:Addr}{y d:V}{r:Value}{o:Option V}
end
section
variable {f:Expr}{td ty tx:TE}
end
section
variable {a:Addr}{kvs:List<|jk×V}
end
section
variable {a:Addr}{y:V}
end
end L2
namespace HT
open PySem PyProof.Rows
section
open PySem.SeqAt
open PySem.AutoSeq1 (wpAny_loadPart')
open PySem.MeetsSeq PySem.MeetsSeq2 PySem.MeetsSeq3
end
section
variable {w:World}
def sIx(n d:Nat):Option Int->Nat
 |none=>d
 |some v=>if v<0 then(v+(n:Int)).toNat else min v.toNat n
theorem sIx_none(n d:Nat):sIx n d none=d:=rfl
theorem sIx_nat(n d k:Nat):sIx n d (some (k:Int))=min k n:=by show(if (k:Int)<0 then((k:Int)+(n:Int)).toNat else min (k:Int).toNat n)=min k n;rw[Az (by lia),BE]
theorem sIx_le(n d:Nat)(hd:d<=n)(o:Option Int):sIx n d o<=n:=by
 cases o with
 |none=>exact hd
 |some v=>
  show(if v<0 then(v+(n:Int)).toNat else min v.toNat n)<=n;by_cases I:v<0
  ·rw[AA I];lia
  ·rw[Az I];exact Nat.min_le_right _ _
theorem xW(v:Int)(n d:Nat):(if v<0 then max (v+(n:Int)) 0 else min v (n:Int))=((sIx n d (some v):Nat):Int):=by
 show(if v<0 then max (v+(n:Int)) 0 else min v (n:Int))=(((if v<0 then(v+(n:Int)).toNat else min v.toNat n):Nat):Int);by_cases I:v<0
 ·simp only[AA I];lia
 ·simp only[Az I];lia
theorem ue(lo hi:Option Int)(n:Nat):Builtin.Slice.sliceAdjust lo hi 1 (n:Int)=(((sIx n 0 lo:Nat):Int),(sIx n n hi:Int)):=by
 have h1:¬((1:Int)<0):=by lia
 unfold Builtin.Slice.sliceAdjust;simp only[h1,if_false];refine EJ ?_ ?_
 ·cases lo with|none=>rfl|some v=>exact xW v n 0
 ·cases hi with|none=>rfl|some v=>exact xW v n n
theorem uh(i j:Nat):Builtin.Slice.slicePlaces (i:Int) (j:Int) 1=j-i:=by
 unfold Builtin.Slice.slicePlaces;have h1:(1:Int) > 0:=by lia
 simp only[h1,if_true,Int.ediv_one];split<;>lia
theorem nO{o:Option Int}{Q:Option Int->Shared->Prop}(p:IsPart v o)(h:Q o s):wpAny (model prog w) A (Builtin.Slice.slicePartIndex v) Q E s:=by cases p with|none=>exact slicePart_none h|int i t=>exact slicePart_int h
theorem iR{j:Addr}{U g:Value}{lo hi:Option Int}{Q:Int×Int×Nat->Shared->Prop}(hs:s.heap.IsSliceOf j U g .none)(pl:IsPart U lo)(l:IsPart g hi)
 (h:Q (((sIx n 0 lo:Nat):Int),1,sIx n n hi-sIx n 0 lo) s):wpAny (model prog w) A (Builtin.Slice.sliceApplied (.ref j)<|pure (n:Int)) Q E s:=by
 obtain⟨os,I,o,J⟩:=id hs;unfold Builtin.Slice.sliceApplied Builtin.Slice.sliceFields;refine Aa<|Aa<|AW I J (x:=U) rfl<|Aa<|AW I J (x:=g) rfl<|Aa<|AW I J (x:=.none) rfl<|Ag ?_;refine Aa<|slicePart_none ?_;show wpAny _ _ (if ((1:Int)==0)=true then _ else _) _ _ s;rw[Az (by decide)];refine Aa<|nO pl<|Aa<|nO l<|Aa<|Ag ?_;show wpAny _ _ (match Builtin.Slice.sliceAdjust lo hi 1 (n:Int) with|(lo,hi)=>pure (lo,(1:Int),Builtin.Slice.slicePlaces lo hi 1)) _ _ s;rw[ue lo hi n];show wpAny _ _ (pure (((sIx n 0 lo:Nat):Int),(1:Int),Builtin.Slice.slicePlaces ((sIx n 0 lo:Nat):Int) (sIx n n hi:Int) 1)) _ _ s;rw[uh];exact Ag h
theorem acl(xs:Array Value)(i k:Nat):((List.range k).filterMap λ(m:Nat)=>xs[((i:Int)+(m:Int)*1).toNat]?).toArray=((xs.toList.drop i).take k).toArray:=by
 have e:(λ(m:Nat)=>xs[((i:Int)+(m:Int)*1).toNat]?)=λm=>xs[i+m]?:=by
  funext m;have:((i:Int)+(m:Int)*1).toNat=i+m:=by lia
  rw[this]
 rw[e];have:=pick_run xs i k;rw[List.filterMap_map] at this;have I:((λx=>xs[x]?)∘λx=>i+x)=λm=>xs[i+m]?:=rfl;rw[I] at this;rw[this]
theorem getItem_tuple_cut{t U:Addr}{items:Array Value}{p r:Value}{lo hi:Option Int}(J:IsTup s.heap t items)(hs:s.heap.IsSliceOf U p r .none)(pl:IsPart p lo)(C:IsPart r hi)
 (hw:¬(sIx items.size 0 lo=0/\sIx items.size items.size hi=items.size))
 (h:Q (.ref s.heap.objs.size) { s with heap:=s.heap.push { cls:=.type "tuple",data:=.seq ((items.toList.drop<|sIx items.size 0 lo).take<|sIx items.size items.size hi-sIx items.size 0 lo).toArray } })
 (hsz:items.size<=sizeLine):wpAny (model prog w) A (getItem (.ref t)<|.ref U) Q E s:=by
 have I:sizeOk (.seq ((items.toList.drop<|sIx items.size 0 lo).take<|sIx items.size items.size hi-sIx items.size 0 lo).toArray):=by show((items.toList.drop<|sIx items.size 0 lo).take<|sIx items.size items.size hi-sIx items.size 0 lo).toArray.size<=sizeLine;rw[Au,AR,Bm,AQ];lia
 have hj:sIx items.size items.size hi<=items.size:=sIx_le _ _ (Am _) hi;obtain⟨os,g,j,T⟩:=id hs;have l:s.TypeIs (.ref U) "slice" := ⟨os,g,j⟩;unfold getItem
 try with_reducible refine A1 ?_
 first|refine Aa (Ag ?_)|skip
 refine Aa<|wpAny_sequenceKey J.typeIs (by decide) ?_;refine Aa (wpAny_callSpecial?_slot (name:=Str.ofString "__getitem__") J.typeIs Cz
  (wpAny_call_entry Cz J.typeIs entry_tuple_getitem ?_<|args_tuple_getitem _ _))
 show wpAny _ _ (Builtin.Tuple.tupleItemsOf (.ref t) >>= _) _ _ s;refine Aa<|tupleItemsOf_ J ?_;refine Aa<|wpAny_typeOf l ?_;rw[AA (by decide)];refine Aa<|iR hs pl C ?_;have o:¬((((sIx items.size 0 lo:Nat):Int)==0&&(1:Int)==1&&(sIx items.size items.size hi-sIx items.size 0 lo)==items.size)=true):=by intro q;rw[A6,A6] at q;have q1:((sIx items.size 0 lo:Nat):Int)=0:=eq_of_beq q.1.1;have q2:sIx items.size items.size hi-sIx items.size 0 lo=items.size:=eq_of_beq q.2;exact hw ⟨by lia,by lia⟩
 show wpAny _ _ (if (((sIx items.size 0 lo:Nat):Int)==0&&(1:Int)==1&&(sIx items.size items.size hi-sIx items.size 0 lo)==items.size)=true then _ else _) _ _ s;rw[Az o,acl]
 first
  |exact Aa (m:=Builtin.Tuple.tupleExact _)<|Bz (Ag ⟨_,rfl,Ag h⟩) I
  |exact Aa (m:=Builtin.Tuple.tupleExact _)<|Bz (Aa<|Ag<|Ag ⟨_,rfl,Ag h⟩) I
  |exact Aa<|Aa (m:=Builtin.Tuple.tupleExact _)<|Bz (Ag<|Ag ⟨_,rfl,Ag h⟩) I
  |exact Aa<|Aa (m:=Builtin.Tuple.tupleExact _)<|Bz (Ag ⟨_,rfl,Ag h⟩) I
end
end HT
namespace L2
open PySem PySem.Spec PyProof.Rows
abbrev TO:=St->Hp->(Option Int->Hp->Prop)->Prop
def PO(X:Cx)(e:Option Expr)(t:TO):Prop:=
 ∀(pins:List<|Addr×Obj) (s:Shared) (σ:St) (H:Hp) (Q:Option Int->Hp->Prop),qw X pins σ H s->t σ H Q->
  wpAny (model X.prog X.w) X.A (evalPart e X.env) (λu s'=>∃o H',qw X pins σ H' s'/\IsPart u o/\Q o H') X.xe s
def agf:TO:=λ_ H Q=>Q none H
def ant(t:TE):TO:=λσ H Q=>t σ H λx H1=>∃i,x=.int i/\Q (some i) H1
section
variable {te:TE}{lo hi:Option Expr}{tl th:TO}
theorem agj:PO X none agf:=by intro J s U H Q I h;rw[evalPart_none];exact Ag ⟨none,H,I,.none,h⟩
theorem agi(h:PE X e te):PO X (some e) (ant te):=by intro J s U H Q I hw;rw[evalPart_some];refine ar (h J s U H _ I hw) λu p x g j l o=>?_;obtain⟨i,rfl,q⟩:=o;obtain⟨t,rfl⟩:=l;exact⟨some i,g,j,.int i t,q⟩
def rU(X:Cx)(r:V->Option Int->Option Int->Hp->VK->Prop):Prop:=
 ∀(pins:List<|Addr×Obj) (s:Shared) (σ:St) (H:Hp) (x:V) (v I J:Value) (lo hi:Option Int) (U:Addr) (Q:VK),qw X pins σ H s->zr x v->s.heap.IsSliceOf U I J .none->IsPart I lo->IsPart J hi->r x lo hi H Q->
  ∃T id,typeLookup (.type T) "__getitem__" = pure (some<|.builtin id)/\s.TypeIs v T/\wpAny (model X.prog X.w) X.A (getItem v<|.ref U) (EP X pins σ Q) X.xe s
theorem rU.or{U:V->Option Int->Option Int->Hp->VK->Prop}(h:rU X r)(h':rU X U):rU X (λx lo hi H Q=>r x lo hi H Q\/U x lo hi H Q):=by
 intro J s g H x v j l lo hi o Q I p t pl C q;rcases q with q|q
 ·exact h J s g H x v j l lo hi o Q I p t pl C q
 ·exact h' J s g H x v j l lo hi o Q I p t pl C q
def tSl(r:V->Option Int->Option Int->Hp->VK->Prop)(te:TE)(tl th:TO):TE:=λσ H Q=>te σ H λx H1=>tl σ H1 λl H2=>th σ H2 λu I=>r x l u I Q
theorem aco(t:rU X r)(C:PE X e te)(hl:PO X lo tl)(hu:PO X hi th):PE X (.Subscript e (.Slice lo hi none p2) pos) (tSl r te tl th):=by intro J s g H Q I h;refine Subscript_<|aH (C J s g H _ I h) λv s1 ψ=>?_;obtain⟨x,H1,I1,r1,q1⟩:=ψ;refine wpAny_Slice<|aH (hl J s1 g H1 _ I1 q1) λj s2 ⟨l,H2,I2,pl,q2⟩=>aH (hu J s2 g H2 _ I2 q2) λo U ψ=>?_;obtain⟨u,p,I3,pu,q3⟩:=ψ;rw[evalPart_none];refine Ag ?_;have I4:qw X J g p { U with heap:=U.heap.push { cls:=.type "slice",data:=.fields #[j,o,.none] } }:=I3.kept (t':=U.toks) λb ob q=>qy _ q;obtain⟨T,id,hT,ht,hg⟩:=t J { U with heap:=U.heap.push { cls:=.type "slice",data:=.fields #[j,o,.none] } } g p x v j o l u U.heap.objs.size Q I4 r1 (Heap.IsSliceOf.new ..) pl pu q3;show wpAny (model X.prog X.w) X.A (subscriptTail e (.Slice lo hi none p2) v<|.ref U.heap.objs.size) (EP X J g Q) X.xe { U with heap:=U.heap.push { cls:=.type "slice",data:=.fields #[j,o,.none] } };exact tail_any (ops:=[.ref U.heap.objs.size,v]) ht hT hg (by with_unfolding_all rfl)
def uS(xs:List V)(lo hi:Option Int):List V:=(xs.drop<|HT.sIx xs.length 0 lo).take<|HT.sIx xs.length xs.length hi-HT.sIx xs.length 0 lo
theorem jR(xs:List V)(lo hi:Option Int):(uS xs lo hi).length<=xs.length:=by unfold uS;rw[AR,Bm];lia
def asf(K:Ah):V->Option Int->Option Int->Hp->VK->Prop:=λx lo hi H Q=>∃a xs,x=.ref a/\dU K H a xs/\
 ¬(HT.sIx xs.length 0 lo=0/\HT.sIx xs.length xs.length hi=xs.length)/\∀p,H p=none->Q (.ref p) (upd H p<|.tup<|uS xs lo hi)
theorem alh:rU X (asf X.K):=by
 intro l s σ H x v vl vu lo g sl Q I C T pl pu h;obtain⟨a,U,rfl,hx,hw,q⟩:=h;cases C;obtain⟨j,r,p,t⟩:=I.tuple hx;have J:j.toArray.size=U.length:=by rw[Au];exact r.length.symm
 refine⟨"tuple",_,Cz.lookup,p.typeIs,?_⟩;refine HT.getItem_tuple_cut p T pl pu (by rw[J];exact hw) ?_ (by rw[J];exact t);rw[J];refine⟨.ref s.heap.objs.size,_,I.laid (t':=s.toks) (o:=.tup<|uS U lo g) (λb ob q=>qy _ q) (Am _) ?_,rfl,q _<|I.hok.fresh<|Am _⟩;exact⟨A0 (jR U lo g) t,_,(r.drop<|HT.sIx U.length 0 lo).take<|HT.sIx U.length U.length g-HT.sIx U.length 0 lo,IsTup.new _ _⟩
end
def ym(n:Nat)(i:Int):Option Nat:=if 0<=i then(if i<n then some i.toNat else none) else if -(n:Int)<=i then some (i+n).toNat else none
def eZ(xs:List α)(i:Int):Option α:=(ym xs.length i).bind λj=>xs[j]?
theorem wW{i:Int}(h:ym n i=some j):seqIndex? i n=some j/\j<n /\ -(n:Int)<=i/\i<n:=by
 unfold ym at h;by_cases h0:0<=i
 ·rw[AA h0] at h;by_cases h1:i<n
  ·rw[AA h1] at h;have e:i.toNat=j:=Bb h;exact⟨by rw[seqIndex_of h0 h1,e],by lia,by lia,h1⟩
  ·rw[Az h1] at h;cases h
 ·rw[Az h0] at h;by_cases h1 : -(n:Int)<=i
  ·rw[AA h1] at h;have e:(i+n).toNat=j:=Bb h;exact⟨by rw[seqIndex_neg (by lia) h1,e],by lia,h1,by lia⟩
  ·rw[Az h1] at h;cases h
theorem qF{xs:List α}{i:Int}{v:α}(h:eZ xs i=some v):∃j,seqIndex? i xs.length=some j/\xs[j]?=some v/\j<xs.length /\ -(xs.length:Int)<=i/\i<xs.length:=by
 unfold eZ at h;cases e:ym xs.length i with
 |none=>rw[e] at h;cases h
 |some j=>
  rw[e] at h;obtain⟨h1,h2,h3,I⟩:=wW e;exact⟨j,h1,h,h2,h3,I⟩
theorem jw{xs:List α}{v:α}(h:xs[j]?=some v):eZ xs (j:Int)=some v:=by
 have I:j<xs.length:=(AK.mp h).1;have e:ym xs.length (j:Int)=some j:=by unfold ym;rw[AA (by lia),AA (by lia)];simp
 unfold eZ;rw[e];exact h
def rF(b:Expr):Prop:=∀o i,subscripted b false o i=operate [o,i] (getItem o i)
def IxR(X:Cx)(r:R2):Prop:=
 ∀(value slice:Expr) (pins:List<|Addr×Obj) (s:Shared) (σ:St) (H:Hp) (x y:V) (v u:Value) (Q:VK),qw X pins σ H s->zr x v->zr y u->r x y H Q->
  subscripted slice false v u=operate [v,u] (getItem v u)->wpAny (model X.prog X.w) X.A (subscriptTail value slice v u) (EP X pins σ Q) X.xe s
def MtR(X:Cx)(id:String)(r:V->List V->Hp->VK->Prop):Prop:=
 ∀(pins:List<|Addr×Obj) (s:Shared) (σ:St) (H:Hp) (x:V) (xs:List V) (v:Value) (us:List Value) (Q:VK),qw X pins σ H s->zr x v->zw xs us->r x xs H Q->
  wpAny (model X.prog X.w) X.A (call (.builtin id)<|v::us) (EP X pins σ Q) X.xe s
section
variable {a b:Expr}{ta tb:TE}
theorem ao6{r:R2}(U:IxR X r)(g:PE X a ta)(j:PE X b tb)(hs:rF b):PE X (.Subscript a b pos) (tOp r ta tb):=by intro J s l H Q I h;exact Subscript_<|am3 g j I h λv u o x y p t C T q=>U a b J o l p x y v u Q t C T q<|hs _ _
def asa(K:Ah):R2:=λx y H Q=>∃p xs i v,x=.ref p/\y=.int i/\aI K H p xs/\eZ xs i=some v/\Q v H
def ar2(K:Ah):R2:=λx y H Q=>∃p xs i v,x=.ref p/\y=.int i/\dU K H p xs/\eZ xs i=some v/\Q v H
def asm:R2:=λx y H Q=>∃z i c,x=.str z/\y=.int i/\z.length<=sizeLine/\eZ z.cps.toList i=some c/\Q (.str ⟨#[c]⟩) H
theorem ahg:IxR X (asa X.K):=by
 intro value slice J s o H x y v u Q I rx ry h C;obtain⟨p,xs,i,z,rfl,rfl,hq,he,q⟩:=h;cases rx;obtain⟨t,rfl⟩:=ry;obtain⟨U,r,pl,hz⟩:=I.list hq;obtain⟨j,h1,h2,h3,h4,h5⟩:=qF he;obtain⟨w,T,g⟩:=r.get h2;have hl:=r.length;have hn:=iz;have x9:EP X J o Q w s:=⟨z,H,I,g,q⟩;by_cases h0:0<=i
 ·have l:i.toNat=j:=by rw[seqIndex_of h0 h5] at h1;exact Bb h1
  exact item_listR pl.isList h0 (by lia) (by rw[l];simpa using T) x9 C
 ·have l:(i+(U.toArray.size:Int)).toNat=j:=by rw[seqIndex_neg (by lia) h4] at h1;rw[Au,<-hl];exact Bb h1
  exact subscriptTail_builtinR (x:=w) pl.isList.typeIs slot_list_getitem.lookup
   (wpAny_getItem_list_neg (Q:=λr s'=>r=w/\EP X J o Q r s') pl.isList (by lia) (by rw[Au]<;>lia) (by lia) (by rw[l];simpa using T) ⟨rfl,x9⟩) C
theorem amo:IxR X (ar2 X.K):=by
 intro value slice J s g H x y v u Q I l o h C;obtain⟨p,xs,i,z,rfl,rfl,T,he,q⟩:=h;cases l;obtain⟨t,rfl⟩:=o;obtain⟨a1,r,pl,hz⟩:=I.tuple T;obtain⟨j,h1,h2,h3,h4,h5⟩:=qF he;obtain⟨w,ew,U⟩:=r.get h2;have hl:=r.length;have hn:=iz;have x9:EP X J g Q w s:=⟨z,H,I,U,q⟩;exact subscriptTail_builtinR (x:=w) pl.typeIs slot_tuple_getitem.lookup
  (getItem_tuple (j:=j) (Q:=λr s'=>r=w/\EP X J g Q r s') pl (by lia) (by lia) (by rw[Au,<-hl];exact h1) (by simpa using ew) ⟨rfl,x9⟩) C
theorem aje:IxR X asm:=by
 intro value slice J s σ H x y v u Q I U g h l;obtain⟨z,i,c,rfl,rfl,hz,o,q⟩:=h;obtain⟨t,rfl⟩:=U;obtain⟨t',rfl⟩:=g;obtain⟨j,h1,h2,h3,p,r⟩:=qF o;have C:z.cps.toList.length=z.length:=by simp[Str.length]
 rw[C] at h1 p r;have hn:=iz;exact tail_any (typeIs_str s z t) slot_str_getitem.lookup (getItem_str (c:=c) (by have T:decide (i < -(2 ^ 63:Int))=false:=Ay (by lia);have e2:decide (i>=2 ^ 63)=false:=Ay (by lia);rw[T,e2,Bool.or_false]) (by rw[h1];simpa using h2) ⟨.str ⟨#[c]⟩,H,I.tok _,⟨_,rfl⟩,q⟩) l
theorem vC(eA:List Value)(n j:Nat)(u:Value):Obj.mapSeq (·.setIfInBounds j u) { cls:=.type "list",data:=.seq eA.toArray n }={ cls:=.type "list",data:=.seq (eA.set j u).toArray n }:=by simp[Obj.mapSeq]
theorem qw.lst{p:Addr}(I:qw X pins σ H s)(h:H p=some (.lst xs)):
 ∃(eA:List Value) (n:Nat),zw xs eA/\s.heap.get? p=some { cls:=.type "list",data:=.seq eA.toArray n }/\xs.length<=sizeLine:=by
 obtain⟨z,eA,n,r,e⟩:=I.hok p _ h;exact⟨eA,n,r,e,z⟩
theorem qw.lstUpd{p:Addr}{ys:List V}{its':List Value}{J:Nat}{f:Obj->Obj}(I:qw X pins σ H s)(h:H p=some (.lst xs))
 (g:s.heap.get? p=some { cls:=.type "list",data:=.seq eA.toArray n }) (U:f { cls:=.type "list",data:=.seq eA.toArray n }={ cls:=.type "list",data:=.seq its'.toArray J }) (r:zw ys its') (hz:ys.length<=sizeLine) (t:Nat) (l:0<t:=by walk_at "t"):
 qw X pins σ (upd H p<|.lst ys) { s with heap:=s.heap.update p f,toks:=t }:=by
 have e:(s.heap.update p f).get? p=some { cls:=.type "list",data:=.seq its'.toArray J }:=by rw[ya f g (by rw[U]<;>rfl),U]
 refine I.write (x:=p) (e:=p) (by rw[h];trivial) (.inl rfl) (λb u j q=>(xT _ _<|AJ j).trans q) ⟨_,e⟩ ?_;exact⟨hz,its',J,r,e⟩
def ano:V->V->V->Hp->(Hp->Prop)->Prop:=λo i v H Q=>∃p xs k j,o=.ref p/\i=.int k/\H p=some (.lst xs)/\ym xs.length k=some j/\Q (upd H p<|.lst<|xs.set j v)
theorem adz:an2 X ano:=by
 intro J s σ H o i v ov iv u Q I ro ri rv h;obtain⟨p,xs,k,j,rfl,rfl,T,hj,q⟩:=h;cases ro;obtain⟨t,rfl⟩:=ri;obtain⟨U,n,r,g,hz⟩:=I.lst T;obtain⟨h1,h2,h3,h4⟩:=wW hj;have l:=r.length;have hn:=iz;have I':qw X J σ (upd H p<|.lst<|xs.set j v) { s with heap:=s.heap.update p (Obj.mapSeq (·.setIfInBounds j u)) }:=
  I.lstUpd T g (vC U n j u) (r.set rv j) (by rw[BN];exact hz) s.toks
 by_cases h0:0<=k
 ·have C:k.toNat=j:=by rw[seqIndex_of h0 h4] at h1;exact Bb h1
  exact PySem.W.ki_setAt g h0 (by lia) (by rw[Au,<-l];exact h4) (by rw[C];exact⟨_,I',q⟩)
 ·have C:(k+(U.toArray.size:Int)).toNat=j:=by rw[seqIndex_neg (by lia) h3] at h1;rw[Au,<-l];exact Bb h1
  exact PySem.W.ki_setBack g (by lia) (by rw[Au,<-l];exact h3) (by lia) (by rw[C];exact⟨_,I',q⟩)
theorem pY(lo hi:Option Int)(n:Nat):(sliceBounds lo hi none n).1=((HT.sIx n 0 lo:Nat):Int)/\(sliceBounds lo hi none n).2.1=((HT.sIx n n hi:Nat):Int)/\(sliceBounds lo hi none n).2.2=1:=by
 refine⟨?_,?_,rfl⟩
 ·cases lo with
  |none=>simp[sliceBounds,HT.sIx]
  |some i=>
   simp only[sliceBounds,HT.sIx,Option.getD_none,show(1:Int) > 0 by decide,if_true];by_cases h:i<0
   ·simp only[h,if_true]<;>lia
   ·simp only[h,if_false]<;>lia
 ·cases hi with
  |none=>simp[sliceBounds,HT.sIx]
  |some i=>
   simp only[sliceBounds,HT.sIx,Option.getD_none,show(1:Int) > 0 by decide,if_true];by_cases h:i<0
   ·simp only[h,if_true]<;>lia
   ·simp only[h,if_false]<;>lia
theorem oC(eA:List Value)(lo hi:Option Int):slicePick eA.toArray lo hi none=((eA.drop<|HT.sIx eA.length 0 lo).take<|HT.sIx eA.length eA.length hi-HT.sIx eA.length 0 lo).toArray:=by obtain⟨h1,h2,h3⟩:=pY lo hi eA.toArray.size;unfold slicePick;rw[h1,h2,h3];simp only[sliceRange_one,pick_run,Au]<;>rfl
def aro(K:Ah):V->Option Int->Option Int->Hp->VK->Prop:=λx lo hi H Q=>∃a xs,x=.ref a/\aI K H a xs/\∀p,H p=none->Q (.ref p) (upd H p<|.lst<|uS xs lo hi)
theorem afh:rU X (aro X.K):=by intro j s σ H x v vl vu lo g sl Q I p t pl C h;obtain⟨a,J,rfl,T,q⟩:=h;cases p;obtain⟨a1,r,l,hz⟩:=I.list T;have U:=r.length;refine⟨"list",_,slot_list_getitem.lookup,l.isList.typeIs,?_⟩;refine wpAny_getItem_list_slice l.isList t pl C .none (by simp) ?_ (by rw[Au]<;>lia);rw[oC,<-U];refine⟨.ref s.heap.objs.size,_,I.laid (t':=s.toks) (o:=.lst<|uS J lo g) (λb ob q=>qy _ q) (Am _) ?_,rfl,q _<|I.hok.fresh<|Am _⟩;exact⟨A0 (jR J lo g) hz,_,0,(r.drop<|HT.sIx J.length 0 lo).take<|HT.sIx J.length J.length g-HT.sIx J.length 0 lo,sy _ rfl⟩
def ai:V->Bool
 |.non=>true
 |.bl _=>true
 |.int _=>true
 |.str _=>true
 |_=>false
def mW:V->V->Bool
 |.non,.non=>true
 |.bl a,.bl b=>a==b
 |.bl a,.int b=>(if a then 1 else 0)==b
 |.int a,.bl b=>a==(if b then 1 else 0)
 |.int a,.int b=>a==b
 |.str a,.str b=>a==b
 |_,_=>false
theorem mP{y x:V}(U:zr y u)(I:zr x v)(j:ai y=true)(g:ai x=true):SeqAt.EqAt A s u v (mW y x):=by
 cases y with
 |non=>
  cases U;cases x with
  |non=>cases I;exact SeqAt.EqAt.same _
  |bl b=>cases I;exact SeqAt.EqAt.none_bool b
  |int b=>obtain⟨t,rfl⟩:=I;exact SeqAt.EqAt.none_int b t
  |str b=>obtain⟨t,rfl⟩:=I;exact SeqAt.EqAt.none_str b t
  |_=>exact absurd (show false=true from g) AG
 |bl a=>
  cases U;cases x with
  |non=>cases I;exact SeqAt.EqAt.bool_none a
  |bl b=>cases I;exact SeqAt.EqAt.bool_bool a b
  |int b=>obtain⟨t,rfl⟩:=I;exact SeqAt.EqAt.bool_int a b t
  |str b=>obtain⟨t,rfl⟩:=I;exact SeqAt.EqAt.bool_str a b t
  |_=>exact absurd (show false=true from g) AG
 |int a=>
  obtain⟨J,rfl⟩:=U;cases x with
  |non=>cases I;exact SeqAt.EqAt.int_none a J
  |bl b=>cases I;exact SeqAt.EqAt.int_bool a J b
  |int b=>obtain⟨t,rfl⟩:=I;exact SeqAt.EqAt.int_int a J b t
  |str b=>obtain⟨t,rfl⟩:=I;exact SeqAt.EqAt.int_str a J b t
  |_=>exact absurd (show false=true from g) AG
 |str a=>
  obtain⟨J,rfl⟩:=U;cases x with
  |non=>cases I;exact SeqAt.EqAt.str_none a J
  |bl b=>cases I;exact SeqAt.EqAt.str_bool a J b
  |int b=>obtain⟨t,rfl⟩:=I;exact SeqAt.EqAt.str_int a J b t
  |str b=>obtain⟨t,rfl⟩:=I;exact SeqAt.EqAt.str_str a J b t
  |_=>exact absurd (show false=true from g) AG
 |_=>exact absurd (show false=true from j) AG
def uk(x:V)(u:Value):Bool:=match u with
 |.none=>mW .non x
 |.bool b=>mW (.bl b) x
 |.int i _=>mW (.int i) x
 |.str z _=>mW (.str z) x
 |_=>false
theorem ach{x y:V}(r:zr y u)(f:ai y=true):uk x u=mW y x:=by
 cases y with
 |non=>cases r;rfl
 |bl b=>cases r;rfl
 |int i=>obtain⟨t,rfl⟩:=r;rfl
 |str z=>obtain⟨t,rfl⟩:=r;rfl
 |_=>exact absurd (show false=true from f) AG
theorem gf{x:V}:∀{xs:List V} {us:List Value},zw xs us->xs.all ai=true->us.any (uk x)=xs.any λy=>mW y x
 |_,_,.nil,_=>rfl
 |y::xs,u::us,.cons r t,f=>by rw[Ei,A6] at f;rw[Cw,Cw,ach r f.1,gf t f.2]
theorem gm{x:V}(J:zr x v)(U:ai x=true):∀{xs:List V} {us:List Value},zw xs us->xs.all ai=true->∀u∈us,SeqAt.EqAt A s u v (uk x u):=by
 intro xs us h
 induction h with
 |nil=>intro _ u I;cases I
 |cons r t g=>
  intro f j I;rw[Ei,A6] at f;rcases An.mp I with rfl|I
  ·rw[ach r f.1];exact mP r J f.1 U
  ·exact g f.2 j I
def jP(x:V)(xs:List V):Bool:=xs.any λy=>mW y x
def rIn(K:Ah)(neg:Bool):R2:=λx y H Q=>∃p xs,y=.ref p/\(aI K H p xs\/dU K H p xs)/\ai x=true/\xs.all ai=true/\Q (.bl<|if neg then !jP x xs else jP x xs) H
theorem yN:we X (compareOp .In) (rIn X.K false):=by
 intro g s C H x y v u Q I j o h;obtain⟨p,T,rfl,U,l,fs,q⟩:=h;cases o;rcases U with U|U
 ·obtain⟨J,r,pl,t⟩:=I.list U;refine SeqAt.in_listAt (uk x) pl.isList (λw hw=>gm j l r fs w (by simpa using hw)) ⟨.bl _,H,I,rfl,?_⟩;rw[show J.toArray.any (uk x)=J.any (uk x) by simp,gf r fs];exact q
 ·obtain⟨J,r,pl,t⟩:=I.tuple U;refine SeqAt.in_tupleAt (uk x) pl (λw hw=>gm j l r fs w (by simpa using hw)) ⟨.bl _,H,I,rfl,?_⟩;rw[show J.toArray.any (uk x)=J.any (uk x) by simp,gf r fs];exact q
theorem qR:we X (compareOp .NotIn) (rIn X.K true):=by
 intro g s C H x y v u Q I j o h;obtain⟨p,T,rfl,U,l,fs,q⟩:=h;cases o;rcases U with U|U
 ·obtain⟨J,r,pl,t⟩:=I.list U;refine SeqAt.notIn_listAt (uk x) pl.isList (λw hw=>gm j l r fs w (by simpa using hw)) ⟨.bl _,H,I,rfl,?_⟩;rw[show J.toArray.any (uk x)=J.any (uk x) by simp,gf r fs];exact q
 ·obtain⟨J,r,pl,t⟩:=I.tuple U;refine SeqAt.notIn_tupleAt (uk x) pl (λw hw=>gm j l r fs w (by simpa using hw)) ⟨.bl _,H,I,rfl,?_⟩;rw[show J.toArray.any (uk x)=J.any (uk x) by simp,gf r fs];exact q
theorem pM:jo X (.builtin "len") (λxs H Q=>∃p ys,xs=[.ref p]/\(aI X.K H p ys\/dU X.K H p ys)/\Q (.int ys.length) H):=by
 intro l s C H xs T Q I r h;obtain⟨p,ys,rfl,U,q⟩:=h;obtain⟨u,rfl,o⟩:=lT r;cases o;have hn:=iz;rcases U with U|U
 ·obtain⟨g,j,pl,t⟩:=I.list U;have J:=j.length;exact Calls.call_len_list pl.isList (by simp only[Au]<;>lia) ⟨.int ys.length,H,I.tok _,⟨s.toks+1,by rw[Au,J]⟩,q⟩
 ·obtain⟨g,j,pl,t⟩:=I.tuple U;have J:=j.length;exact len_tuple pl (by simp only[Au]<;>lia) ⟨.int ys.length,H,I.tok _,⟨s.toks+1,by rw[Au,J]⟩,q⟩
theorem qW:jo X (.builtin "len") (λxs H Q=>∃z,xs=[.str z]/\z.length<=sizeLine/\Q (.int z.length) H):=by intro J s U H xs g Q I r h;obtain⟨z,rfl,j,q⟩:=h;obtain⟨u,rfl,t,rfl⟩:=lT r;have l:=iz;exact len_str (by lia) ⟨.int z.length,H,I.tok _,⟨_,rfl⟩,q⟩
theorem rP:jo X (.type "list") (λxs H Q=>∃p ys,xs=[.ref p]/\(aI X.K H p ys\/dU X.K H p ys)/\∀l,H l=none->Q (.ref l) (upd H l<|.lst ys)):=by
 intro t s σ H xs us Q I r h;obtain⟨p,ys,rfl,C,q⟩:=h;obtain⟨u,rfl,rx⟩:=lT r;cases rx;have x9:∀(J:List Value),zw ys J->ys.length<=sizeLine->∀(U:Heap) (g:Nat),(∀b o',s.heap.get? b=some o'->U.get? b=some o')->
  U.get? s.heap.objs.size=some { cls:=.type "list",dict:=none,data:=.seq J.toArray g,slots:=#[] }->EP X t σ Q (.ref s.heap.objs.size) { s with heap:=U }:=λJ j T U g kp e=>
  ⟨.ref s.heap.objs.size,_,I.laid (t':=s.toks) kp (Am _)<|show xi X.prog X.w _ U _ (.lst ys) from⟨T,J,g,j,e⟩,rfl,q _<|I.hok.fresh<|Am _⟩
 rcases C with C|C
 ·obtain⟨J,j,pl,T⟩:=I.list C;have a1:=j.length;obtain⟨o,ho,hc,n,hd⟩:=pl.isList;exact call_list_seq p (.inl rfl) ho hc hd (λU g kp e=>x9 J j T U g kp e) (by simp only[Au]<;>lia)
 ·obtain⟨J,j,pl,T⟩:=I.tuple C;have a1:=j.length;obtain⟨o,ho,hc,n,hd⟩:=pl;exact call_list_seq p (.inr rfl) ho hc hd (λU g kp e=>x9 J j T U g kp e) (by simp only[Au]<;>lia)
theorem nw:jo X (.type "tuple") (λxs H Q=>∃p ys,xs=[.ref p]/\((aI X.K H p ys/\∀l,H l=none->Q (.ref l) (upd H l<|.tup ys))\/(dU X.K H p ys/\Q (.ref p) H))):=by
 intro J s C H xs us Q I r h;obtain⟨p,ys,rfl,h⟩:=h;obtain⟨u,rfl,rx⟩:=lT r;cases rx;rcases h with⟨j,q⟩|⟨j,q⟩
 ·obtain⟨U,t,pl,T⟩:=I.list j;have a1:=t.length;refine call_tuple_list pl.isList (λg kp=>?_) (by simp only[Au]<;>lia);have I1:qw X J C H { s with heap:=g }:=I.kept (t':=s.toks) kp;have I2:qw X J C (upd H g.objs.size<|.tup ys) { s with heap:=g.push { cls:=.type "tuple",data:=.seq U.toArray } }:=
   I1.laid (t':=s.toks) (λb o e=>qy _ e) (Am _) (show xi X.prog X.w _ _ _ (.tup ys) from⟨T,U,t,IsTup.new _ _⟩)
  exact⟨.ref g.objs.size,_,I2,rfl,q _<|I1.hok.fresh<|Am _⟩
 ·obtain⟨U,t,pl,T⟩:=I.tuple j;exact call_tuple_same pl ⟨.ref p,H,I,rfl,q⟩
def tyV(K:Ah)(T:String)(x:V)(H:Hp):Prop:=match x with
 |.str _=>T = "str"
 |.int _=>T = "int"
 |.ref p=>(T = "list" /\ ∃xs,aI K H p xs)\/(T = "tuple" /\ ∃o,K.lookup p=some o/\o.cls=.type "tuple" /\ o.dict=none)\/
  (T = "dict" /\ ((∃kvs,H p=some (.dK kvs))\/∃kvs,H p=some (.dT kvs)))\/(T = "set" /\ ∃S n,H p=some (.set S n))
 |_=>False
theorem ajn{T:String}{x:V}(I:qw X pins σ H s)(r:zr x v)(ty:tyV X.K T x H):
 s.TypeIs v T/\∀a,v=.ref a->∃ob,s.heap.get? a=some ob/\ob.dict=none:=by
 cases x with
 |str z=>
  obtain⟨t,rfl⟩:=r;cases (show T = "str" from ty);exact⟨typeIs_str s z t,λ_ e=>nomatch e⟩
 |int i=>
  obtain⟨t,rfl⟩:=r;cases (show T = "int" from ty);exact⟨typeIs_int s i t,λ_ e=>nomatch e⟩
 |ref p=>
  cases r;rcases ty with⟨rfl,xs,j⟩|⟨rfl,o,J,l,hd⟩|⟨rfl,J⟩|⟨rfl,S,n,J⟩
  ·obtain⟨C,_,pl,_⟩:=I.list j;refine⟨pl.isList.typeIs,λa e=>?_⟩;cases e;obtain⟨o,n,e,c,hd,_⟩:=pl;exact⟨o,e,hd⟩
  ·refine⟨⟨o,I.kIn p o J,l⟩,λa e=>?_⟩;cases e;exact⟨o,I.kIn _ o J,hd⟩
  ·have z:∃o,s.heap.get? p=some o/\o.ExactDict:=by
    rcases J with⟨U,J⟩|⟨U,J⟩
    ·obtain⟨_,_,_,_,o,_,_,e,ex,_⟩:=I.hok p _ J;exact⟨o,e,ex⟩
    ·obtain⟨_,_,_,_,o,_,_,e,ex,_⟩:=I.hok p _ J;exact⟨o,e,ex⟩
   obtain⟨o,e,ex⟩:=z;refine⟨⟨o,e,ex.1⟩,λa g=>?_⟩;cases g;exact⟨o,e,ex.2.1⟩
  ·obtain⟨o,_,_,_,e,ex,_⟩:=I.hok p _ J;refine⟨⟨o,e,ex.1⟩,λa g=>?_⟩;cases g;exact⟨o,e,ex.2.1⟩
 |_=>exact False.elim ty
def tBM(K:Ah)(T:String)(r:V->List V->Hp->VK->Prop)(to:TE)(t:TA):TE:=λσ H Q=>to σ H λx H1=>tyV K T x H1/\t σ H1 λxs H2=>r x xs H2 Q
variable {to:TE}{t:TA}{T id:String}{r:V->List V->Hp->VK->Prop}
theorem aij(pa:PlainAttrs T)(slot:Slot T name id)(p:typeOf (.builtin id)=pure (.type "method_descriptor"))(hm:MtR X id r)(ho:PE X o to)(ha:PA X (e::es) t)
 (g:attributeBase o name X.env (eval o X.env)=eval o X.env:=by rfl)
 (l:((backTo fx<|starEach (e::es) X.env).all (λx=>!x.1)&&(backToKw fx<|keywordEach [] X.env).all (λx=>x.1.isSome)
  && decide ((e::es).length+([]:List Keyword).length+(if ([]:List Keyword).isEmpty then 0 else 1)<30))=true:=by rfl)
 (j:(apos.endLine==fx.line)=true:=by rfl) (hs:E8 e es X:=by rfl) (U:E9 fx es X:=by rfl):
 PE X (.Call (.Attribute o name apos) (e::es) [] fx) (tBM X.K T r to t):=by
 intro J s C H Q I h;refine wpAny_Call_method_late g l j rfl<|aH (ho J s C H _ I h) λv s1 ψ=>?_;obtain⟨x,H1,I1,r1,ty,q1⟩:=ψ;obtain⟨h1,h2⟩:=ajn I1 r1 ty;refine⟨T,id,pa,slot,p,h1,h2,?_⟩;have hA:=ha fx J s1 C H1 _ I1 q1;rw[hs] at hA ⊢;refine Calls.callWith_builtin (by show(false||(backTo fx<|starEach es X.env).any (·.1))=false;rw[U]<;>rfl)<|Calls.evalArgs_plain ?_;exact aH hA λus s2 ψ=>(by obtain⟨vs,H2,I2,r2,q2⟩:=ψ;exact hm J s2 C H2 x vs v us Q I2 r1 r2 q2)
end
def oh(X:Cx)(id:String)(r:V->List V->Hp->VK->Prop):Prop:=
 ∀(pins:List<|Addr×Obj) (s:Shared) (σ:St) (H:Hp) (x:V) (xs:List V) (v:Value) (us:List Value) (Q:VK),qw X pins σ H s->zr x v->zw xs us->r x xs H Q->
  wpAny (model X.prog X.w) X.A (call (.builtin id)<|v::us) (EP X pins σ Q) X.xe s
theorem zw.one{x:V}(h:zw [x] us):∃u,us=[u]/\zr x u:=by cases h with|cons r t=>cases t;exact⟨_,rfl,r⟩
theorem zw.two{x y:V}(h:zw [x,y] us):∃u v,us=[u,v]/\zr x u/\zr y v:=by cases h with|cons r t=>cases t with|cons q t=>cases t;exact⟨_,_,rfl,r,q⟩
theorem zw.eraseIdx:∀{xs:List V} {us:List Value} (i:Nat),zw xs us->zw (xs.eraseIdx i) (us.eraseIdx i)
 |_,_,_,.nil=>.nil
 |_,_,0,.cons _ t=>t
 |_,_,i+1,.cons r t=>.cons r<|zw.eraseIdx i t
theorem oR{α:Type}:∀(l:List α) (i:Nat),(l.eraseIdx i).length<=l.length
 |[],_=>Am _
 |_::_,0=>CY _
 |_::r,i+1=>DB<|oR r i
section
variable {b:Addr}{ys:List V}
theorem qw.lset{its':List Value}{f:Array Value->Array Value}(I:qw X pins σ H s)(J:H l=some (.lst xs))
 (e:s.heap.get? l=some { cls:=.type "list",data:=.seq eA.toArray n }) (U:f eA.toArray=its'.toArray) (g:zw ys its') (hz:ys.length<=sizeLine) (p:0<t':=by walk_at "t"):
 qw X pins σ (upd H l<|.lst ys) { s with heap:=s.heap.update l<|Obj.mapSeq f,toks:=t' }:=by
 have q:=PySem.IsL.update e f;rw[U] at q;refine I.write (x:=l) (e:=l) (by rw[J];exact trivial) (.inl rfl) (λr u j o=>(xT s.heap (Obj.mapSeq f)<|AJ j).trans o) ⟨_,q⟩ ?_;exact⟨hz,its',_,g,q⟩
theorem qw.lnew(I:qw X pins σ H s)(J:zw ys eA)(hz:ys.length<=sizeLine)(U:0<t':=by walk_at "t"):
 qw X pins σ (upd H s.heap.objs.size<|.lst ys) { s with heap:=s.heap.push { cls:=.type "list",data:=.seq eA.toArray },toks:=t' }:=
 I.laid (λ_ _ q=>qy _ q) (Am _) ⟨hz,eA,0,J,sy _ rfl⟩
theorem qw.fresh(I:qw X pins σ H s):H s.heap.objs.size=none:=I.hok.fresh<|Am _
theorem qw.lstM(I:qw X pins σ H s)(J:H l=some (.lst xs)):xs.length<=sizeLine/\∃(eA:List Value) (n:Nat),zw xs eA/\xs.length=eA.length/\s.heap.get? l=some { cls:=.type "list",data:=.seq eA.toArray n }:=by obtain⟨z,eA,n,r,e⟩:=I.hok l _ J;exact⟨z,eA,n,r,r.length,e⟩
end
def af8:V->List V->Hp->VK->Prop:=λx vs H Q=>∃l xs y,x=.ref l/\vs=[y]/\H l=some (.lst xs)/\xs.length<sizeLine/\Q .non (upd H l<|.lst<|xs++[y])
theorem yp:oh X "list.append" af8:=by intro U s t H x C v T Q I j o h;obtain⟨l,xs,y,rfl,rfl,g,hz,q⟩:=h;cases j;obtain⟨u,rfl,p⟩:=o.one;obtain⟨z,J,n,r,hl,e⟩:=I.lstM g;refine call_meets F.slot_list_append ⟨_,e,rfl⟩ F.entry_list_append (F.args_list_append_2 _ _) (PySem.list_append l J.toArray n u (by rw[Au];lia)) ⟨e,?_⟩;refine⟨.non,_,I.lset (its':=J++[u]) g e (by simp) (r.append<|.cons p .nil) ?_,rfl,q⟩;rw[Ac,CP];lia
def akz:V->List V->Hp->VK->Prop:=λx vs H Q=>∃l xs i k y,x=.ref l/\vs=[.int i]/\H l=some (.lst xs) /\ -(2 ^ 63)<=i/\i<2 ^ 63/\seqIndex? i xs.length=some k/\xs[k]?=some y/\Q y (upd H l<|.lst<|xs.eraseIdx k)
theorem aav:oh X "list.pop" akz:=by
 intro g s σ H x vs v us Q I o p h;obtain⟨l,C,i,k,y,rfl,rfl,j,h1,h2,T,hy,q⟩:=h;cases o;obtain⟨u,rfl,ru⟩:=p.one;obtain⟨t,rfl⟩:=ru;obtain⟨z,J,n,r,hl,e⟩:=I.lstM j;obtain⟨w,hw,U⟩:=r.get hy;refine call_meets F.slot_list_pop ⟨_,e,rfl⟩ F.entry_list_pop (F.args_list_pop_2 _ _)
  (MeetsSeq.list_pop_at l J.toArray n i t k w (fitsIndex_both h1 h2) (by rw[Au,<-hl];exact T) (by rw[<-Bc];exact hw) (by rw[Au];lia)) ⟨e,?_⟩
 refine⟨y,_,I.lset (its':=J.eraseIdx k) j e ?_ (r.eraseIdx k) ?_,U,q⟩
 ·show J.toArray.eraseIdxIfInBounds k=(J.eraseIdx k).toArray;rw[List.eraseIdxIfInBounds_toArray]
 ·have:=oR C k;lia
def atn:R2:=λx y H Q=>∃l b xs zs,x=.ref l/\y=.ref b/\H l=some (.lst xs)/\H b=some (.lst zs)/\xs.length+zs.length<=sizeLine/\∀p,H p=none->Q (.ref p) (upd H p<|.lst<|xs++zs)
theorem ams:we X (binaryOp .Add) atn:=by
 intro g s σ H x y v u Q I j o h;obtain⟨l,b,xs,zs,rfl,rfl,p,t,hz,q⟩:=h;cases j;cases o;obtain⟨z,U,n,r,hl,e⟩:=I.lstM p;obtain⟨z2,J,n2,C,T,e2⟩:=I.lstM t;refine PySem.P.add_list e e2 ?_ (by rw[Au,Au];lia);have ea:U.toArray++J.toArray=(U++J).toArray:=by simp
 rw[ea];exact⟨.ref _,_,I.lnew (t':=s.toks) (r.append C) (by rw[Ac];lia),rfl,q _ I.fresh⟩
section
variable {w:World}
set_option maxRecDepth 100000 in
end
end L2
namespace Att
open PySem PySem.W PySem.Calls PyProof.Rows
theorem jY{P:Params} :∀(I:List Int) (vs:List Value),WellAll P h vs (I.map WData.int)->IntsAre vs I:=by
 intro I
 induction I with
 |nil=>
  intro vs w;rw[Ds] at w;cases w;exact .nil
 |cons n I J=>
  intro vs w;rw[AF] at w;cases w with
  |cons a b=>
   cases a;exact .cons _ _<|J _ b
theorem yX{l:OpenLaw}(hn:l.most=some n){P:Params}{args:List WData}{J:List Value}
 (U:l.row.toRowW.claim.pre args=true) (t:WellAll P h J args):
 ∃a vs I,J=[Value.ref a]/\args=[WData.list<|I.map WData.int]/\h.get? a=some { cls:=.type "list",data:=.seq vs.toArray }/\IntsAre vs I/\I.length<=n:=by
 have C:WShape.hasAll [] args [.list .int]=true:=(pre_splitW U).1;have T:l.pre.holds [] { args:=args }=true:=(pre_splitW U).2;obtain⟨d,r,rfl,h1,h2⟩:=hasAllW_cons C;obtain rfl:=hasAllW_nil h2;obtain⟨xs,rfl,h3⟩:=hasW_list h1;obtain⟨I,rfl⟩:=items_int h3;have g:I.length<=n:=by
  unfold OpenLaw.pre at T;have o:(WTm.not<|.lt (.lit<|.int (n:Int))<|.len<|.arg 0).holds [] { args:=[.list<|I.map .int] }=true:=by have o:=(holds_andW T).1;rw[hn] at o;exact o
  have p:=condW_of o<|w_not<|w_lt w_lit<|w_len_list<|w_arg rfl;rw[Ae] at p;refine Nat.le_of_not_lt λq=>?_;have q':(n:Int)<((I.length:Nat):Int):=by lia
  first
   |(rw[AI q'] at p;exact absurd p (by decide))
   |(simp at p;lia)
 cases t with
 |cons w1 w2=>
  cases w2;cases w1 with|list ho j=>exact⟨_,_,I,rfl,rfl,ho,jY I _ j,g⟩
theorem yx(l:OpenLaw)(args:List WData):l.row.toRowW.claim.post args (.bool true) args=true:=
 postW_of (r:=l.row.toRowW) (X:=(true==true))
  (show WShape.has [] (.bool true) .bool=true by first|rfl|decide|simp[WShape.has,WShape.arms,WShape.armsAll])
  (show(WTm.eq .res<|.lit<|.bool true).value [] { args:=args,res:=some<|.bool true,after:=args }=some (.bool<|true==true) from w_eq_bool (w_res rfl) w_lit) rfl
theorem attach_callZ{l:OpenLaw}{q:Program}{loose:List Str}{XP:(Str->Option Value)->Heap->Prop}{as0:List Addr}{N t:Nat}{K:Params->Frag}{d:DefRec}
 (hn:l.most=some n) (C:d.params.defaults=[]) (ek:∀P,as0=(K P).map (·.1)) (T:0<t)
 (call:∀(w:World) (s₀ I:Shared) (mg mb:Str->Option Value) (fa:Addr) (o:Obj) (pm cd hE:Value) (a:Addr) (vs:List Value) (J:List Int),
  Ground q loose [] XP w s₀ mg mb I.heap->(K w.params).In I.heap->0<I.toks->
  I.heap.get? fa=some o->o.data=.func (docDef d.name d.params d.body d.scope pm cd hE)->I.heap.CodeRec cd d.name->mg d.name=some (.ref fa)->
  I.heap.get? a=some { cls:=.type "list",data:=.seq vs.toArray }->IntsAre vs J->J.length<=n->I.gens=#[]->
  codeAny (model l.prog w) callerA (.call (.ref fa) ⟨[.ref a],[]⟩) (λr s'=>r=.ok (.ret<|.bool true)/\OldK I.heap s'.heap/\s'.os=I.os/\AllBare s'.gens) I):
 WalkX q loose XP (PySem.W.X.obsZ as0) (PySem.W.X.valZ K N t) l.row.toRowW d [] (λf vs=>PySem.call f vs):=by
 intro w s₀ I mg mb G Y fa o pm cd hE dV kV ho hd a1 hD a2 hg args a5 as L g ac al a3 au;obtain rfl:dV=.none:=Dflts.none hD C;obtain rfl:kV=.none:=Dflts.noKw hD;obtain⟨a,vs,J,rfl,rfl,j,U,p⟩:=yX hn g a3;obtain⟨_,zi,_,zt⟩:=X.z_facts ek Y;have eP:∀J:List Int,ofPy (PyData.list<|J.map PyData.int)=WData.list (J.map WData.int):=λJ=>by
  simp only[ofPy];congr 1
  induction J with|nil=>simp[ofPys]|cons n r ih=>simp only[AF,ofPys,ofPy,ih]
 rw[<-eP] at L;have KX:=InK.keeps w s₀.heap I.heap zi L.keeps;have a4:0<I.toks:=AO T<|X.script_toks L zt;refine enter_call<|codeAny_mono (call w s₀ I mg mb fa o pm cd hE a vs J G KX a4 ho (fd_plain hd) a1 a2 j U p hg) λr s' hq=>?_;obtain⟨rfl,h2,h3,h4⟩:=hq;exact⟨.inl ⟨.bool true,.bool true,[],rfl,λ_=>rfl,.bool true,yx l _,λ_=>⟨List.Pairwise.nil,λ_ hm=>(nomatch hm)⟩⟩,h2,h3,h4⟩
section
variable {w:World}{K:Frag}
end
end Att
namespace L2
open PySem PySem.Spec PyProof.Rows
theorem o6:∀{vs:List Value} {I:List Int},IntsAre vs I->zw (I.map V.int) vs
 |_,_,.nil=>.nil
 |_,_,.cons n t h=>.cons ⟨t,rfl⟩<|o6 h
def vf(s:Stmt):Arguments:=match s with
 |.FunctionDef _ a _ _ _ _ _ _ _ _=>a
 |_=>{ posonlyargs:=[],args:=[],vararg:=none,kwonlyargs:=[],kw_defaults:=[],kwarg:=none,defaults:=[] }
def jg(s:Stmt):List Stmt:=match s with
 |.FunctionDef _ _ b _ _ _ _ _ _ _=>b
 |_=>[]
def qt(s:Stmt):Scope:=match s with
 |.FunctionDef _ _ _ _ _ _ I _ _ _=>I
 |_=>{ kind:=.function,names:=[],isGenerator:=false,isCoroutine:=false }
abbrev CX0:wT:=λ_ _ _ _ _ _=>False
abbrev E0:XK:=λ_ _ _=>False
theorem apn :um CX0 X E0:=λ_ _ _ _ _ _ _ h=>h.elim
structure Fun(K:Ah)(x eH:Str)(st:Stmt)(f:Addr)(fd:FuncData):Prop where
 ex:∃(oc:Value) (od:Option Addr) (kV hE pm:Value) (an:Option Addr) (eK ct:Value) (mR:Array<|Option Value),
  fd=PySem.W.fnOf x eH (vf st) (jg st) (qt st) .none kV hE pm an eK ct/\K.lookup f=some ⟨oc,od,.func fd,mR⟩/\PySem.W.codeIn K eK eH=true
 kp:PySem.W.keepIn K (.ref f)=true
section
variable {P:Program}{w:World}{K:Ah}
theorem Fun.ok{N:List Str}{k:Nat}(F:Fun K x eH st f fd)(S:aG N ps<|qt st)(len:∀vs H Q E,sp vs H Q E->vs.length=ps.length)
 (I:∀(eK:Value) (A:Around) (outer:List Env) (s:Shared) (H:Hp) (vs:List V) (Q:VK) (E:XK),w4 k (A.deeper<|envOfC eH (qt st) s.heap.objs.size f eK)->sp vs H Q E->
  ∃t,gl (cM CX0 P w K mg base N eH (qt st) f eK A outer s H E).nox (jg st) t/\t { nx:=λ_ H'=>Q .non H',rt:=Q } (start N vs) H):bP P w K mg base CX0 (k+1) f fd ps sp:=by
 obtain⟨o,p,kV,g,pm,an,eK,r,j,rfl,lk,J⟩:=F.ex;refine ab0 lk J S len λA outer s H vs Q E l U=>?_;obtain⟨t,h,q⟩:=I eK A outer s H vs Q E l U;exact⟨t,h.nox,q⟩
theorem aju{kV ct:Value}(l:K.lookup f=some ⟨oc,od,.func<|PySem.W.fnOf x eH (vf st) (jg st) (qt st) .none kV hE pm an eK ct,mR⟩)
 (c:PySem.W.codeIn K eK eH=true) (k:PySem.W.keepIn K (.ref f)=true):Fun K x eH st f (PySem.W.fnOf x eH (vf st) (jg st) (qt st) .none kV hE pm an eK ct):=⟨⟨oc,od,kV,hE,pm,an,eK,ct,mR,rfl,l,c⟩,k⟩
end
theorem o9(h:n<=1000):n<sizeLine:=CI h (by decide)
theorem pv(i:Nat)(hN:X.N[i]?=some x:=by rfl)(J:Vis X.env.scope x:=by first|exact Or.inl rfl|exact Or.inr (Or.inl rfl)|exact Or.inr<|Or.inr rfl)(hd:Fb x:=by decide)
 (I:Fc x:=by decide):PE X (.Name x pos) (ak9 i):=akh hN J hd I
section
variable [DecidableEq κ]
end
end L2
set_option maxHeartbeats 8000000
theorem aab{a b c:Nat}(h:a<b:=by assumption)(k:b<=c:=by assumption):a<c:=AO h k
theorem i3{a b c:Nat}(h:a<=b:=by assumption)(k:b<c:=by assumption):a<c:=CI h k
theorem alb{a b c:Nat}(h:a<=b:=by assumption)(k:b<=c:=by assumption):a<=c:=A0 h k
theorem tF{a b c:Nat}(h:a<b:=by assumption)(k:b<c:=by assumption):a<c:=Nat.lt_trans h k
theorem yV{a b c:Nat}(h:a<=b:=by assumption)(k:b<=c:=by decide):a<=c:=A0 h k
theorem ami{a b:Nat}(h:a<=b:=by assumption):a<b+1:=Nat.lt_succ_of_le h
theorem as9{a b:Nat}(h:a<=b:=by assumption):a<=b+1:=BQ h
theorem jC{a b:Nat}(h:a<b:=by assumption):a<=b:=BO h
theorem ao8{a b:Nat}(h:a<b:=by assumption):a≠b:=A4 h
theorem an9{a b:Nat}(h:b<a:=by assumption):a≠b:=C2 h
theorem af0{a:Nat}(h:a≠0:=by assumption):0<a:=Nat.pos_of_ne_zero h
theorem arb{a b c:Nat}(h:a<b:=by assumption)(k:b<=c:=by assumption):a<=c:=A0 (BO h) k
theorem apo{a b c:Nat}(h:a<b:=by assumption):a<b+c:=AO h<|A7 _ _
theorem tz{a b:Nat}(h:a=b:=by assumption):a<=b:=Nat.le_of_eq h
theorem zG{a b:Nat}(h:¬a<b:=by assumption):b<=a:=Nat.le_of_not_lt h
theorem ani{a b:Nat}(h:¬b<=a:=by assumption):a<b:=Nat.lt_of_not_le h
theorem aq4{a b:Nat}(h:a<b+1:=by assumption):a<=b:=Nat.le_of_lt_succ h
theorem att{a b c:Nat}(h:a<=b:=by assumption)(k:c<=d:=by assumption):a+c<=b+d:=Nat.add_le_add h k
theorem rS{a b:Nat}(h:0<a:=by assumption)(k:0<b:=by decide):a-b<a:=Nat.sub_lt h k
theorem anf{a b c:Nat}(h:a<=c:=by assumption):a-b<=c:=A0 (EI _ _) h
theorem pS{a b c:Nat}(h:a<c:=by assumption):a-b<c:=CI (EI _ _) h
theorem ye{a b:Nat}(h:a<=b:=by assumption)(k:a≠b:=by assumption):a<b:=Nat.lt_of_le_of_ne h k
namespace L2
open PySem PySem.Spec PyProof.Rows
def arz:R2:=λx y H Q=>match x,y with
 |.int i,.int j=>Q (.int<|i+j) H
 |.str a,.str b=>a.length+b.length<=sizeLine/\Q (.str<|a++b) H
 |.ref l,.ref b=>∃xs zs,H l=some (.lst xs)/\H b=some (.lst zs)/\xs.length+zs.length<=sizeLine/\∀p,H p=none->Q (.ref p) (upd H p<|.lst<|xs++zs)
 |_,_=>False
theorem ah0:we X (binaryOp .Add) arz:=by
 intro J s U H x y v u Q I g j h;cases x<;>cases y<;>first
  |exact False.elim h
  |exact akb J s U H _ _ v u Q I g j ⟨_,_,rfl,rfl,h⟩
  |exact vH J s U H _ _ v u Q I g j ⟨_,_,rfl,rfl,h.1,h.2⟩
  |(obtain⟨l,o,h1,h2,h3,p⟩:=h;exact ams J s U H _ _ v u Q I g j ⟨_,_,l,o,rfl,rfl,h1,h2,h3,p⟩)
def KD(K:Ah)(P:Program)(w:World)(a:Addr)(kvs:List<|jk×V):Prop:=
 (a==sysModules)=false/\kvs.length<=sizeLine/\∀h:Heap,K.In h->∃vs,KV kvs vs/\h.DictOf (v9 P w) a vs
def uIx(K:Ah)(P:Program)(w:World):R2:=λx y H Q=>match x,y with
 |.str z,.int i=>z.length<=sizeLine/\∃c,eZ z.cps.toList i=some c/\Q (.str ⟨#[c]⟩) H
 |.ref p,.int i=>∃xs v,(aI K H p xs\/dU K H p xs)/\eZ xs i=some v/\Q v H
 |.ref p,.str k=>∃kvs v,(Rd H p (.dK kvs)\/KD K P w p kvs)/\bU kvs (Sum.inr k)=some v/\Q v H
 |_,_=>False
theorem acn{slice:Expr}{a:Addr}{vs:List<|jk×Value}{k:jk}{J:Value}{v:V}{Q:VK}(I:qw X pins σ H s)(dd:s.heap.DictOf (v9 X.prog X.w) a vs)(U:l8 k u=true)
 (hw:valueAt vs k=some J) (r:zr v J) (q:Q v H) (hs:subscripted slice false (.ref a) u=operate [.ref a,u] (getItem (.ref a) u)):wpAny (model X.prog X.w) X.A (subscriptTail value slice (.ref a) u) (EP X pins σ Q) X.xe s:=
 tail_any dd.typeIs DZ.lookup (wpAny_getItem_of U dd.mapOf hw ⟨v,H,I.tok _,r,q⟩) hs
theorem atp:IxR X (uIx X.K X.prog X.w):=by
 intro value slice J s T H x y v u Q I t C q g;cases x with
 |str z=>
  cases y with
  |int i=>
   obtain⟨h1,c,h2,h3⟩:=q;exact aje value slice J s T H _ _ v u Q I t C ⟨z,i,c,rfl,rfl,h1,h2,h3⟩ g
  |_=>exact q.elim
 |ref p=>
  cases y with
  |int i=>
   obtain⟨xs,j,h1,h2,h3⟩:=q;rcases h1 with h1|h1
   ·exact ahg value slice J s T H _ _ v u Q I t C ⟨p,xs,i,j,rfl,rfl,h1,h2,h3⟩ g
   ·exact amo value slice J s T H _ _ v u Q I t C ⟨p,xs,i,j,rfl,rfl,h1,h2,h3⟩ g
  |str k=>
   obtain⟨a1,j,h1,h2,h3⟩:=q;have l:zr (kV<|Sum.inr k) u:=C;cases (show v=Value.ref p from t);rcases h1 with h1|h1
   ·obtain⟨z,hd,vs,rel,r⟩:=oP I.hok h1;obtain⟨w2,hw,U⟩:=EW (v:=j) (o:=valueAt vs<|Sum.inr k) (by rw[<-h2];exact rel.val _);exact acn I r (jE (P:=X.prog) (w:=X.w) l) hw U h3 g
   ·obtain⟨hd,z,r⟩:=h1;obtain⟨vs,rel,r⟩:=r s.heap I.kIn;obtain⟨w2,hw,U⟩:=EW (v:=j) (o:=valueAt vs<|Sum.inr k) (by rw[<-h2];exact rel.val _);exact acn I r (jE (P:=X.prog) (w:=X.w) l) hw U h3 g
  |_=>exact q.elim
 |_=>cases y<;>exact q.elim
def asg(K:Ah):List V->Hp->VK->Prop:=λxs H Q=>match xs with
 |[.str z]=>z.length<=sizeLine/\Q (.int z.length) H
 |[.ref p]=>∃ys,(aI K H p ys\/dU K H p ys)/\Q (.int ys.length) H
 |_=>False
theorem aam:jo X (.builtin "len") (asg X.K):=by
 intro J s U H j g Q I r h;obtain _|⟨x,_|⟨y,t⟩⟩:=j
 ·exact h.elim
 ·cases x with
  |str z=>exact qW J s U H _ g Q I r ⟨z,rfl,h.1,h.2⟩
  |ref p=>
   obtain⟨l,h1,h2⟩:=h;exact pM J s U H _ g Q I r ⟨p,l,rfl,h1,h2⟩
  |_=>exact h.elim
 ·cases x<;>exact h.elim
inductive Da where
 |s (v:V)
 |tup (xs:List Da)
 |lst (xs:List Da)
mutual
def Da.eq:Da->Da->Bool
 |.s v,.s w=>mW v w
 |.tup xs,.tup ys=>Da.eqs xs ys
 |.lst xs,.lst ys=>Da.eqs xs ys
 |_,_=>false
def Da.eqs:List Da->List Da->Bool
 |[],[]=>true
 |x::xs,y::ys=>Da.eq x y&&Da.eqs xs ys
 |_,_=>false
end
def kg(K:Ah)(H:Hp):Nat->V->Da->Prop
 |0,v,d=>d=.s v/\ai v=true
 |n+1,v,d=>(d=.s v/\ai v=true)\/(∃a xs ds,v=.ref a/\d=.tup ds/\dU K H a xs/\Paired (kg K H n) xs ds)\/(∃a xs ds,v=.ref a/\d=.lst ds/\aI K H a xs/\Paired (kg K H n) xs ds)
theorem Da.eqs_range:∀(ds es:List Da),((List.range<|min ds.length es.length).all (λj=>Da.eq (ds.getD j<|.s .non)<|es.getD j<|.s .non)&&ds.length==es.length)=Da.eqs ds es
 |[],[]=>by simp[Da.eqs]
 |[],e::es=>by simp[Da.eqs]
 |d::ds,[]=>by simp[Da.eqs]
 |d::ds,e::es=>by
  have I:=Da.eqs_range ds es;rw[Da.eqs,<-I];have:min (d::ds).length (e::es).length=min ds.length es.length+1:=by simp only[AM];lia
  rw[this,List.range_succ_eq_map,Ei,List.all_map];have h2:((d::ds).length==(e::es).length)=(ds.length==es.length):=by simp
  rw[h2,Bool.and_assoc];rfl
abbrev EO:=@Da.eqs_range
theorem Paired.at{F:α->β->Prop}:∀{xs:List α} {ys:List β} {j:Nat} {x:α} {y:β},Paired F xs ys->xs[j]?=some x->ys[j]?=some y->F x y:=by
 intro xs ys j x y h
 induction h generalizing j with
 |nil=>intro h _;simp at h
 |cons r t I=>
  intro h1 h2;cases j with|zero=>simp at h1 h2;subst h1 h2;exact r|succ j=>exact I (j:=j) (by simpa using h1) (by simpa using h2)
abbrev ET:=@Paired.at
theorem gW:∀{v:V},ai v=true->mW v v=true
 |.non,_=>rfl
 |.bl _,_=>by simp[mW]
 |.int _,_=>by simp[mW]
 |.str _,_=>by simp[mW]
theorem jf{a:Addr}(h:ai (.ref a)=true):False:=by simp[ai] at h
theorem qw.notBoth(I:qw X pins σ H s){a:Addr}{ys:List V}(h:dU X.K H a xs)(h':aI X.K H a ys):False:=by
 obtain⟨j,_,⟨o,e,c,_⟩,_⟩:=I.tuple h;obtain⟨U,_,⟨l,p,g,J,_⟩,_⟩:=I.list h';rw[e] at g;cases g;rw[c] at J;injection J with J
 exact absurd J (by decide)
theorem qZ(I:qw X pins σ H s):∀(n:Nat) {m:Nat} {x:V} {d e:Da},kg X.K H n x d->kg X.K H m x e->Da.eq d e=true
 |0,m,x,d,e,h1,h2=>by
  obtain⟨rfl,f⟩:=h1;cases m with
  |zero=>obtain⟨rfl,_⟩:=h2;exact gW f
  |succ m=>
   rcases h2 with⟨rfl,_⟩|⟨a,g,j,rfl,_⟩|⟨a,g,j,rfl,_⟩
   ·exact gW f
   ·exact(jf f).elim
   ·exact(jf f).elim
 |n+1,m,x,d,e,h1,h2=>by
  have both:∀{g:List V} {j l:List Da} {m:Nat},Paired (kg X.K H n) g j->Paired (kg X.K H m) g l->Da.eqs j l=true:=by
   intro g j l m p
   induction p generalizing l with
   |nil=>intro q;cases q;rfl
   |cons r t ih=>
    intro q;cases q with|cons r' t'=>rw[Da.eqs,qZ I n r r',ih t'];rfl
  rcases h1 with⟨rfl,f⟩|⟨a,g,j,rfl,rfl,C,T⟩|⟨a,g,j,rfl,rfl,C,T⟩
  ·cases m with
   |zero=>obtain⟨rfl,_⟩:=h2;exact gW f
   |succ m=>
    rcases h2 with⟨rfl,_⟩|⟨a,g,j,rfl,_⟩|⟨a,g,j,rfl,_⟩
    ·exact gW f
    ·exact(jf f).elim
    ·exact(jf f).elim
  ·cases m with
   |zero=>exact(jf h2.2).elim
   |succ m=>
    rcases h2 with⟨_,f⟩|⟨a',ys,l,o,rfl,J,U⟩|⟨a',ys,l,o,rfl,J,U⟩
    ·exact(jf f).elim
    ·cases o;cases I.tuple_inj C J;exact both T U
    ·cases o;exact(I.notBoth C J).elim
  ·cases m with
   |zero=>exact(jf h2.2).elim
   |succ m=>
    rcases h2 with⟨_,f⟩|⟨a',ys,l,o,rfl,J,U⟩|⟨a',ys,l,o,rfl,J,U⟩
    ·exact(jf f).elim
    ·cases o;exact(I.notBoth J C).elim
    ·cases o;cases I.list_inj C J;exact both T U
theorem jh{a:Addr}{eA:Array Value}(p:PlainL h a eA):h.IsList a eA:=let ⟨o,n,e,c,_,d⟩:=p;⟨o,e,c,n,d⟩
theorem gn{ys:List V}{ds es:List Da}(px:Paired (kg X.K H n) xs ds)(py:Paired (kg X.K H m) ys es)(I:zw xs us)(J:zw ys vs)
 (p:∀{x y:V} {d e:Da} {u v:Value},kg X.K H n x d->kg X.K H m y e->zr x u->zr y v->SeqAt.EqAt A.in1 s u v (Da.eq d e)):
 ∀j (h1:j<us.toArray.size) (h2:j<vs.toArray.size),SeqAt.EqAt A.in1 s us.toArray[j] vs.toArray[j] (Da.eq (ds.getD j<|.s .non)<|es.getD j<|.s .non):=by
 intro j h1 h2;have C:=px.length;have T:=py.length;have l3:=I.length;have l4:=J.length;rw[Au] at h1 h2;have U:xs[j]?=some xs[j]:=Ak (by lia);have g:ys[j]?=some ys[j]:=Ak (by lia);have l:ds[j]?=some ds[j]:=Ak (by lia);have o:es[j]?=some es[j]:=Ak (by lia);have r:us[j]?=some us[j]:=Ak (by lia);have t:vs[j]?=some vs[j]:=Ak (by lia);rw[BB,BB,l,o];exact p (ET px U l) (ET py g o) (ET I U r)<|ET J g t
theorem oO{a b:Addr}{ys:List V}{ds es:List Da}(I:qw X pins σ H s)(g:A.units<cLine)(j:dU X.K H a xs)(l:dU X.K H b ys)(px:Paired (kg X.K H n) xs ds)(py:Paired (kg X.K H m) ys es)
 (o:∀{x y:V} {d e:Da} {u v:Value},kg X.K H n x d->kg X.K H m y e->zr x u->zr y v->SeqAt.EqAt A.in1 s u v (Da.eq d e)):SeqAt.RcAt A s (.ref a) (.ref b) (Da.eqs ds es):=by
 obtain⟨r,J,p,_⟩:=I.tuple j;obtain⟨t,U,ty,_⟩:=I.tuple l;have q:=SeqAt.RcAt.tuples p ty g<|gn px py J U o;rw[Au,Au,<-J.length,<-U.length,px.length,py.length,EO] at q;exact q
theorem r6{a b:Addr}{ys:List V}{ds es:List Da}(I:qw X pins σ H s)(l:A.units<cLine)(p:aI X.K H a xs)(r:aI X.K H b ys)(px:Paired (kg X.K H n) xs ds)(py:Paired (kg X.K H m) ys es)
 (t:∀{x y:V} {d e:Da} {u v:Value},kg X.K H n x d->kg X.K H m y e->zr x u->zr y v->SeqAt.EqAt A.in1 s u v (Da.eq d e)):SeqAt.RcAt A s (.ref a) (.ref b) (Da.eqs ds es):=by
 obtain⟨C,U,o,_⟩:=I.list p;obtain⟨T,j,ty,_⟩:=I.list r;by_cases g:C.toArray.size=T.toArray.size
 ·have q:=SeqAt.RcAt.lists (jh o) (jh ty) g l<|gn px py U j t;have J:ds.length=es.length:=by rw[<-px.length,<-py.length,U.length,j.length];simpa using g
  have e:=EO ds es;rw[J,Nat.min_self] at e;rw[<-J] at e;rw[Au,<-U.length,px.length] at q;simp only[beq_self_eq_true,EE] at e;rw[e] at q;exact q
 ·have q:=SeqAt.RcAt.lists_lengths (jh o) (jh ty) (by simpa using g) l;have J:ds.length≠es.length:=by rw[<-px.length,<-py.length,U.length,j.length];intro z;exact g (by simpa using z)
  have e:=EO ds es;have f:(ds.length==es.length)=false:=by simpa using J
  rw[f,Bool.and_false] at e;rw[<-e];exact q
theorem l9(I:qw X pins σ H s):∀(n:Nat) {m:Nat} {A:Around} {x y:V} {d e:Da} {u v:Value},A.units+n<cLine->kg X.K H n x d->kg X.K H m y e->zr x u->zr y v->SeqAt.EqAt A s u v (Da.eq d e):=by
 have J:∀{A:Around} {x:V} {u:Value} {b:Addr} {p:List V},A.units<cLine->ai x=true->zr x u->(dU X.K H b p\/aI X.K H b p)->SeqAt.EqAt A s u (.ref b) false/\SeqAt.EqAt A s (.ref b) u false:=by
  intro A x u b p g f r h;have h':(∃C,s.heap.IsTuple b C)\/∃C,s.heap.IsList b C:=by
   rcases h with h|h
   ·obtain⟨C,_,t,_⟩:=I.tuple h;exact .inl ⟨_,t⟩
   ·obtain⟨C,_,t,_⟩:=I.list h;exact .inr ⟨_,jh t⟩
  cases x with
  |non=>cases r;rcases h' with⟨_,t⟩|⟨_,t⟩;exact⟨.none_tuple t g,.tuple_none t g⟩;exact⟨.none_list t g,.list_none t g⟩
  |bl k=>cases r;rcases h' with⟨_,t⟩|⟨_,t⟩;exact⟨.bool_tuple k t g,.tuple_bool k t g⟩;exact⟨.bool_list k t g,.list_bool k t g⟩
  |int k=>obtain⟨tk,rfl⟩:=r;rcases h' with⟨_,t⟩|⟨_,t⟩;exact⟨.int_tuple k tk t g,.tuple_int k tk t g⟩;exact⟨.int_list k tk t g,.list_int k tk t g⟩
  |str k=>obtain⟨tk,rfl⟩:=r;rcases h' with⟨_,t⟩|⟨_,t⟩;exact⟨.str_tuple k tk t g,.tuple_str k tk t g⟩;exact⟨.str_list k tk t g,.list_str k tk t g⟩
  |_=>simp[ai] at f
 intro n
 induction n with
 |zero=>
  intro m A x y d e u v g h1 h2 T j;obtain⟨rfl,f⟩:=h1;cases m with
  |zero=>obtain⟨rfl,l⟩:=h2;exact mP T j f l
  |succ m=>
   rcases h2 with⟨rfl,l⟩|⟨b,p,es,rfl,rfl,U,py⟩|⟨b,p,es,rfl,rfl,U,py⟩
   ·exact mP T j f l
   ·cases j;exact(J (by lia) f T<|.inl U).1
   ·cases j;exact(J (by lia) f T<|.inr U).1
 |succ n ih=>
  intro m A x y d e u v g h1 h2 T j;have a2:A.in1.units+n<cLine:=by show A.units+1+n<cLine;lia
  rcases h1 with⟨rfl,f⟩|⟨a,xs,ds,rfl,rfl,o,px⟩|⟨a,xs,ds,rfl,rfl,o,px⟩
  ·cases m with
   |zero=>obtain⟨rfl,l⟩:=h2;exact mP T j f l
   |succ m=>
    rcases h2 with⟨rfl,l⟩|⟨b,p,es,rfl,rfl,U,py⟩|⟨b,p,es,rfl,rfl,U,py⟩
    ·exact mP T j f l
    ·cases j;exact(J (by lia) f T<|.inl U).1
    ·cases j;exact(J (by lia) f T<|.inr U).1
  ·cases T;cases m with
   |zero=>obtain⟨rfl,l⟩:=h2;exact(J (by lia) l j<|.inl o).2
   |succ m=>
    rcases h2 with⟨rfl,l⟩|⟨b,p,es,rfl,rfl,U,py⟩|⟨b,p,es,rfl,rfl,U,py⟩
    ·exact(J (by lia) l j<|.inl o).2
    ·cases j;by_cases a1:a=b
     ·subst a1;cases I.tuple_inj o U;have e:Da.eq (.tup ds) (.tup es)=true:=qZ I (n+1) (m:=m+1) (x:=.ref a) (.inr<|.inl ⟨a,xs,ds,rfl,rfl,o,px⟩)<|.inr<|.inl ⟨a,xs,es,rfl,rfl,U,py⟩;rw[e];exact .same _
     ·exact .of_refs a1<|oO I (by lia) o U px py λh1 h2 r1 r2=>ih a2 h1 h2 r1 r2
    ·cases j;obtain⟨us,vx,tx,_⟩:=I.tuple o;obtain⟨vs,vy,ty,_⟩:=I.list U;exact .tuple_list tx (jh ty) (by lia)
  ·cases T;cases m with
   |zero=>obtain⟨rfl,l⟩:=h2;exact(J (by lia) l j<|.inr o).2
   |succ m=>
    rcases h2 with⟨rfl,l⟩|⟨b,p,es,rfl,rfl,U,py⟩|⟨b,p,es,rfl,rfl,U,py⟩
    ·exact(J (by lia) l j<|.inr o).2
    ·cases j;obtain⟨us,vx,tx,_⟩:=I.list o;obtain⟨vs,vy,ty,_⟩:=I.tuple U;exact .list_tuple (jh tx) ty (by lia)
    ·cases j;by_cases a1:a=b
     ·subst a1;cases I.list_inj o U;have e:Da.eq (.lst ds) (.lst es)=true:=qZ I (n+1) (m:=m+1) (x:=.ref a) (.inr<|.inr ⟨a,xs,ds,rfl,rfl,o,px⟩)<|.inr<|.inr ⟨a,xs,es,rfl,rfl,U,py⟩;rw[e];exact .same _
     ·exact .of_refs a1<|r6 I (by lia) o U px py λh1 h2 r1 r2=>ih a2 h1 h2 r1 r2
def uEq(K:Ah)(k:Nat):R2:=λx y H Q=>match x,y with
 |.ref a,.ref b=>∃n m d e,n<=k/\kg K H n (.ref a) d/\kg K H m (.ref b) e/\Q (.bl<|Da.eq d e) H
 |x,y=>agv x y=true/\Q (.bl<|decide<|x=y) H
theorem ald{k:Nat}(hu:X.A.units+k<cLine):we X (compareOp .Eq) (uEq X.K k):=by
 intro J s o H x y v u Q I p t h;cases x with
 |ref a=>
  cases y with
  |ref b=>
   obtain⟨n,m,d,e,hn,h1,h2,q⟩:=h;cases p;cases t;have x9:∀{k:Bool},k=Da.eq d e->SeqAt.RcAt X.A s (.ref a) (.ref b) k->wpAny (model X.prog X.w) X.A (compareOp .Eq (.ref a)<|.ref b) (EP X J o Q) X.xe s:=λ{k} e' r=>
    r X.prog X.w X.xe (EP X J o Q) (by rw[e'];exact⟨.bl _,H,I,rfl,q⟩)
   cases n with
   |zero=>exact(jf h1.2).elim
   |succ n=>
    cases m with
    |zero=>exact(jf h2.2).elim
    |succ m=>
     have j:X.A.in1.units+n<cLine:=by show X.A.units+1+n<cLine;lia
     rcases h1 with⟨_,f⟩|⟨a',xs,ds,C,rfl,l,T⟩|⟨a',xs,ds,C,rfl,l,T⟩
     ·exact(jf f).elim
     ·cases C;rcases h2 with⟨_,f⟩|⟨b',ys,es,U,rfl,g,py⟩|⟨b',ys,es,U,rfl,g,py⟩
      ·exact(jf f).elim
      ·cases U;exact x9 rfl<|oO I (by lia) l g T py λh1 h2 r1 r2=>l9 I n j h1 h2 r1 r2
      ·cases U;obtain⟨us,vx,tx,_⟩:=I.tuple l;obtain⟨vs,vy,ty,_⟩:=I.list g;exact x9 rfl<|.tuple_list tx (jh ty) (by lia)
     ·cases C;rcases h2 with⟨_,f⟩|⟨b',ys,es,U,rfl,g,py⟩|⟨b',ys,es,U,rfl,g,py⟩
      ·exact(jf f).elim
      ·cases U;obtain⟨us,vx,tx,_⟩:=I.list l;obtain⟨vs,vy,ty,_⟩:=I.tuple g;exact x9 rfl<|.list_tuple (jh tx) ty (by lia)
      ·cases U;exact x9 rfl<|r6 I (by lia) l g T py λh1 h2 r1 r2=>l9 I n j h1 h2 r1 r2
  |_=>exact aio J s o H _ _ v u Q I p t h
 |_=>cases y<;>exact aio J s o H _ _ v u Q I p t h
theorem aiw{c:Addr}(I:Gl X x)(J:X.mg x=some (.ref c))(hd:Fb x:=by decide):PE X (.Name x pos) (tC<|.ref c):=afd I J (v:=.ref c) rfl hd
theorem aik{T:String}(I:Gl X x)(J:X.mg x=none)(U:bootBuiltins x=some (.type T))(g:x ≠ "__name__" := by decide)(hd:Fb x:=by decide):PE X (.Name x pos) (tC<|.ty T):=ahp I J U (v:=.ty T) rfl g hd
structure Cal(P:Program)(w:World)(K:Ah)(mg:Str->Option Value)(base:Heap)(k:Nat)(x:Str)(ps:List Str)(sp:Sp):Prop where
 ex:∃f fd,bP P w K mg base CX0 k f fd ps sp/\da K fd ps []/\PySem.W.keepIn K (.ref f)=true/\mg x=some (.ref f)
theorem asz{k:Nat}{t:TA}{p:Pos}(c:Cal X.prog X.w X.K X.mg X.base k x ps sp)(U:w4 k X.A)(g:Gl X x)(j:PA X (e::es) t)(I:Fb x:=by decide)
 (l:E8 e es X:=by rfl) (J:E9 pos es X:=by rfl):PE X (.Call (.Name x p) (e::es) [] pos) (aiz sp [] E0 t):=by
 obtain⟨f,fd,F,b,o,m⟩:=c.ex;exact agc F U g m o b .nil apn j I l J
theorem Cal.mono{P:Program}{w:World}{K:Ah}{k:Nat}(c:Cal P w K mg base j x ps sp)(h:j<=k):Cal P w K mg base k x ps sp:=by obtain⟨f,fd,F,b,I,m⟩:=c.ex;exact⟨f,fd,F.mono h,b,I,m⟩
end L2
variable {ds:List L2.Da}
namespace L2
open PySem PySem.Spec PyProof.Rows
def nM(env:Env):List (Str×NameKind)->List (Str×Addr)->List (Str×Addr)
 |[],cs=>cs
 |(n,k)::r,cs=>nM env r<|if k==.free then(n,(env.cells.lookup n).getD 0)::cs else cs
def fY(scope:Scope)(env:Env):List (Str×Addr):=nM env scope.names []
theorem uP{env:Env}:∀{names:List<|Str×NameKind} {cs:List<|Str×Addr} {p:Str×Addr},p∈nM env names cs->p∈cs\/((p.1,NameKind.free)∈names/\p.2=(env.cells.lookup p.1).getD 0)
 |[],_,_,h=>.inl h
 |(n,k)::r,cs,p,h=>by
  rcases uP (names:=r) h with q|⟨q,e⟩
  ·by_cases I:(k==NameKind.free)=true
   ·rw[AA I] at q;rcases An.mp q with rfl|q
    ·have:k=.free:=by simpa using I
     exact .inr ⟨by rw[this];exact Av,rfl⟩
    ·exact .inl q
   ·rw[Az I] at q;exact .inl q
  ·exact .inr ⟨Af _ q,e⟩
theorem tK{env:Env}{x:Str}:∀{names:List<|Str×NameKind} {cs:List<|Str×Addr},((∃c,(x,c)∈cs)\/(x,NameKind.free)∈names)->∃c,(x,c)∈nM env names cs
 |[],_,.inl h=>h
 |[],_,.inr h=>by simp at h
 |(n,k)::r,cs,h=>by
  refine tK (names:=r) ?_;rcases h with⟨c,h⟩|h
  ·left;by_cases I:(k==NameKind.free)=true
   ·rw[AA I];exact⟨c,Af _ h⟩
   ·rw[Az I];exact⟨c,h⟩
  ·rcases An.mp h with e|h
   ·left;injection e with J U
    subst J;subst U;exact⟨_,Av⟩
   ·exact .inr h
theorem fg{x:Str}:∀{l:List<|Str×Addr} {c:Addr},(x,c)∈l->∃c',l.lookup x=some c'
 |(n,d)::r,c,h=>by
  rw[BJ];cases I:x==n with
  |true=>exact⟨d,rfl⟩
  |false=>
   rcases An.mp h with e|h
   ·injection e with J _;subst J;simp at I
   ·exact fg h
theorem kC(h:∀n,(n,NameKind.free)∈scope.names->∃c,env.cells.lookup n=some c):closureFor scope env=pure (fY scope env):=by
 unfold closureFor fY;have key:∀(names:List<|Str×NameKind) (I:List<|Str×Addr),(∀n,(n,NameKind.free)∈names->∃c,env.cells.lookup n=some c)->
  (forIn names I λx (r:List<|Str×Addr)=>(match x with|(name,kind)=>if kind==NameKind.free then do let a <-cellOf env name;pure (ForInStep.yield<|(name,a)::r) else pure (ForInStep.yield r):Sem<|ForInStep<|List<|Str×Addr))=pure (nM env names I):=by
  intro names
  induction names with
  |nil=>intro I _;rfl
  |cons p r o=>
   intro I J;obtain⟨n,k⟩:=p;rw[Cr];cases U:k==NameKind.free with
   |true=>
    have g:k=.free:=by simpa using U
    subst g;obtain⟨c,t⟩:=J n Av;have e:cellOf env n=pure c:=by unfold cellOf;rw[t]
    simp only[beq_self_eq_true,if_true,e];have j:nM env ((n,NameKind.free)::r) I=nM env r ((n,c)::I):=by show nM env r _=_;rw[t];rfl
    rw[j];exact o ((n,c)::I) λm l=>J m<|Af _ l
   |false=>
    simp only[U,BW,if_false];have j:nM env ((n,k)::r) I=nM env r I:=by show nM env r (if (k==NameKind.free)=true then _ else _)=_;rw[U];rfl
    rw[j];exact o I λm l=>J m<|Af _ l
 exact(BG (· >>= pure)<|key scope.names [] h)
theorem aF{env:Env}{x:Str}:∀{names:List<|Str×NameKind},
 (names.map λ(n,k)=>if (k==NameKind.free&&env.scope.kind==.function&&env.kindOf n==some .cell) then(n,NameKind.cell) else(n,k)).lookup x
  = (names.lookup x).map λk=>if (k==NameKind.free&&env.scope.kind==.function&&env.kindOf x==some .cell) then NameKind.cell else k
 |[]=>rfl
 |(n,k)::r=>by
  have g:=@aF env x r;show List.lookup x ((if (k==NameKind.free&&env.scope.kind==.function&&env.kindOf n==some .cell)=true then(n,NameKind.cell) else(n,k))::_)=_;cases J:x==n with
  |true=>
   have U:x=n:=by simpa using J
   subst U;by_cases I:(k==NameKind.free&&env.scope.kind==.function&&env.kindOf x==some .cell)=true
   ·rw[AA I];simp only[BJ,beq_self_eq_true,Option.map_some];rw[AA I]
   ·rw[Az I];simp only[BJ,beq_self_eq_true,Option.map_some];rw[Az I]
  |false=>
   by_cases I:(k==NameKind.free&&env.scope.kind==.function&&env.kindOf n==some .cell)=true
   ·rw[AA I];simp only[BJ,J];exact g
   ·rw[Az I];simp only[BJ,J];exact g
def Cx.comp(X:Cx)(scope:Scope)(T:List Str)(C:Addr)(fp:List Addr)(s₀:Shared)(H₀:Hp):Cx:=
 { X with N:=X.N++T,s₀:=s₀,H₀:=H₀,env:=compEnvC scope (fY scope X.env) C X.env,outer:=X.stack,ex:=fp,fn:=λ_=>false,xe:=λ_ _=>False }
structure jm(X:Cx)(scope:Scope):Prop where
 kind:scope.kind=.function
 nocell:∀y∈scope.names,y.2≠.cell
 names:∀y∈scope.names,y.2=.local->scope.names.lookup y.1=some .local
 free:∀n,scope.names.lookup n=some .free->X.env.kindOf n=some .cell\/X.env.kindOf n=some .free
 freeM:∀n,(n,NameKind.free)∈scope.names->X.env.kindOf n=some .cell\/X.env.kindOf n=some .free
 apart:∀x∈X.N,scope.names.lookup x≠some .local
theorem jm.clo(S:jm X scope)(I:qw X pins σ H s):closureFor scope X.env=pure (fY scope X.env):=
 kC λn h=>I.ok.has n<|S.freeM n h
theorem jm.cl_old(S:jm X scope)(I:qw X pins σ H s){c:Addr}(h:(fY scope X.env).lookup x=some c):X.env.cells.lookup x=some c:=by
 rcases uP (BL h) with q|⟨q,e⟩
 ·simp at q
 ·obtain⟨d,hd⟩:=I.ok.has x<|S.freeM x q;have J:c=(X.env.cells.lookup x).getD 0:=e;rw[hd] at J ⊢;rw[J];rfl
theorem jm.cl_has(_:jm X scope)(h:scope.names.lookup x=some .free):∃c,(fY scope X.env).lookup x=some c:=by obtain⟨c,I⟩:=tK (env:=X.env) (names:=scope.names) (cs:=[]) (x:=x)<|.inr<|BL h;exact fg I
theorem jm.kindOf(S:jm X scope)(h:(compEnvC scope (fY scope X.env) C X.env).kindOf x=some .cell\/(compEnvC scope (fY scope X.env) C X.env).kindOf x=some .free):scope.names.lookup x=some .free:=by
 have e:(compEnvC scope (fY scope X.env) C X.env).kindOf x=(scope.names.lookup x).map λk=>if (k==NameKind.free&&X.env.scope.kind==.function&&X.env.kindOf x==some .cell) then NameKind.cell else k:=aF
 rw[e] at h;cases I:scope.names.lookup x with
 |none=>rw[I] at h;rcases h with h|h<;>cases h
 |some k=>
  rw[I] at h;cases k with|free=>rfl|cell=>exact absurd rfl (S.nocell _<|BL I)|_=>rcases h with h|h<;>cases h
theorem jm.vis(S:jm X scope)(U:x∈X.N)(h:Vis (compEnvC scope (fY scope X.env) C X.env).scope x):scope.names.lookup x=some .free:=by
 rcases h with h|h|h
 ·exfalso;have e:(compEnvC scope (fY scope X.env) C X.env).kindOf x=(scope.names.lookup x).map λk=>if (k==NameKind.free&&X.env.scope.kind==.function&&X.env.kindOf x==some .cell) then NameKind.cell else k:=aF
  have I:(compEnvC scope (fY scope X.env) C X.env).kindOf x=some .local:=h;rw[e] at I;cases J:scope.names.lookup x with
  |none=>rw[J] at I;cases I
  |some k=>
   rw[J] at I;have I:(if (k==NameKind.free&&X.env.scope.kind==.function&&X.env.kindOf x==some .cell)=true then NameKind.cell else k)=.local:=Bb I;split at I
   ·cases I
   ·subst I;exact S.apart x U J
 ·exact S.kindOf (C:=C)<|.inl h
 ·exact S.kindOf (C:=C)<|.inr h
theorem jm.back(S:jm X scope)(h:scope.names.lookup x=some .free):(compEnvC scope (fY scope X.env) C X.env).kindOf x=some .cell\/(compEnvC scope (fY scope X.env) C X.env).kindOf x=some .free:=by
 have e:(compEnvC scope (fY scope X.env) C X.env).kindOf x=(scope.names.lookup x).map λk=>if (k==NameKind.free&&X.env.scope.kind==.function&&X.env.kindOf x==some .cell) then NameKind.cell else k:=aF
 rw[e,h];show some (if _ then _ else _)=_\/some (if _ then _ else _)=_;split
 ·exact .inl rfl
 ·exact .inr rfl
def PF(X:Cx)(kb:List Expr)(t:TT):Prop:=
 ∀(pins:List<|Addr×Obj) (s:Shared) (σ:St) (H:Hp) (Q:Bool->Hp->Prop),qw X pins σ H s->t σ H Q->
  wpAny (model X.prog X.w) X.A (forIn kb true λc r=>if r=true then do let ok <-isTrue c X.env (eval c X.env);pure (ForInStep.yield ok) else pure (ForInStep.yield r)) (TP X pins σ Q) X.xe s
def arl:TT:=λ_ H Q=>Q true H
theorem ak4 :PF X [] arl:=λ_ _ _ H _ I h=>Ag ⟨H,I,h⟩
theorem ajf{c:Expr}{t:TT}(hc:PT X c t):PF X [c] t:=by intro J s U H Q I h;rw[Cr];simp only[if_true];refine Aa<|Aa<|aH (hc J s U H Q I h) λb g q=>Ag ?_;exact Ag q
theorem fb{w:World}{R:Result->Shared->Prop}{iter:Expr}{it C:Value}(I:Nat->Shared->Prop)
 (turn:∀n s,I n s->wpAny (model prog w) A (pyNext it) (λr J=>match r with
  |none=>R (.ok .next) J
  |some v=>wpAny (model prog w) A (letOwnedTupleGo target it v) (λ_ J=>wpAny (model prog w) A (assign target env v) (λ_ l=>
   wpAny (model prog w) A (forIn kb true λc r=>if r=true then do let ok <-isTrue c env (eval c env);pure (ForInStep.yield ok) else pure (ForInStep.yield r)) (λok g=>
    if ok=true then wpAny (model prog w) A (eval kt env) (λx o=>
     wpAny (model prog w) A (call (.builtin "list.append") [C,x]) (λ_ p=>∃m,m<n/\I m p) (λ_ _=>False) o) (λ_ _=>False) g
    else ∃m,m<n/\I m g) (λ_ _=>False) l) (λ_ _=>False) J) (λ_ _=>False) J) (λ_ _=>False) s)
 (n:Nat) (h:I n s):
 codeAny (model prog w) A (.compLoop (.ListComp kt [⟨target,iter,kb,0⟩] scope pos) 0 it C env) R s:=by
 refine codeAny_loop rfl I (λn s hI=>?_) n h;show wpAny _ A ((compTurn (.ListComp kt [⟨target,iter,kb,0⟩] scope pos) 0 it C env).onRaise (λx=>do noteFrame x env;theTreesLotGoes x)) _ _ s;refine wpAny_noted ?_;rw[compTurn_list];refine Aa<|wpAny_standAt<|Aa<|AX (turn n s hI) (λr J U=>?_) λ_ _ j=>j.elim;cases r with
 |none=>exact Ag U
 |some v=>
  refine Aa<|AX U (λ_ J U=>?_) λ_ _ j=>j.elim;refine Aa<|AX U (λ_ l T=>Aa<|AX T (λok g t=>?_) λ_ _ j=>j.elim) λ_ _ j=>j.elim;cases ok with
  |false=>exact Ag ⟨rfl,t⟩
  |true=>
   exact Aa<|Aa<|AX t (λx o a1=>Aa<|AX a1 (λ_ p a2=>Ag<|Ag ⟨rfl,a2⟩) λ_ _ j=>j.elim) λ_ _ j=>j.elim
def tLC(n:Nat)(wi:TI)(g:TG)(tc:TT)(te:TE):TE:=λσ H Q=>wi σ H λJ H1=>∃W:Nat->Nat->List V->Hp->Prop,(∃m,W 0 m [] H1)/\∀i m ys H,W i m ys H->
 (J.stop i H/\ys.length<=sizeLine/\∀D,H D=none->Q (.ref D) (upd H D<|.lst ys))\/
 (J.go i H/\ys.length<sizeLine/\∀x H',J.yld i H x H'->g x (σ++List.replicate n none) H' λI H2=>tc I H2 λb j=>
  if b=true then te I j λy l=>∃U,U<m/\W (i+1) U (ys++[y]) l else ∃U,U<m/\W (i+1) U ys j)
def rg(g:TG)(n k:Nat):Prop:=∀(σ:St),σ.length=n->∀x H Q,g x (σ++List.replicate k none) H Q->
 g x (σ++List.replicate k none) H λI H2=>((I.length=n+k/\∀(i:Nat) v,(σ++List.replicate k none)[i]?=some (some v)->I[i]?=some (some v))/\Q I H2)
section
variable {T:List Str}{iter:Expr}{g:TG}{tc:TT}{te:TE}
theorem ltN{b:Addr}{o:Obj}(e:h.get? b=some o):@LT.lt Nat instLTNat b h.objs.size:=r4 e
theorem u6{a b:Addr}(h:@Ne Nat a b):a≠b:=h
theorem leN{a b:Addr}(h:@LE.le Nat instLENat a b):a<=b:=h
theorem abm(eA:List Value)(n:Nat)(u:Value):∃I,Obj.mapSeq (·.push u) { cls:=.type "list",data:=.seq eA.toArray n }=({ cls:=.type "list",data:=.seq (eA++[u]).toArray I }:Obj):=
 ⟨_,by simp[Obj.mapSeq];rfl⟩
theorem wD{w:World}(I:s.heap.get? D=some { cls:=.type "list",data:=.seq eA.toArray n })
 (hz:eA.length<=sizeLine) (h:∀h' J,Heap.SameBut D s.heap h'->h'.get? D=some { cls:=.type "list",data:=.seq (eA++[u]).toArray J }->Q .none { s with heap:=h' }):
 wpAny (model prog w) A (call (.builtin "list.append") [.ref D,u]) Q E s:=by
 have g:s.heap.IsList D eA.toArray:=⟨_,I,rfl,n,rfl⟩;refine wpAny_call_entry slot_list_append g.typeIs entry_list_append ?_<|args_list_append _ _;show wpAny _ _ (updateSeq D (·.push u) >>= λ_=>ret .none) _ _ s;refine Aa ?_;obtain⟨J,U⟩:=abm eA n u;refine wpAny_updateSeq (f:=(·.push u)) I rfl (Ag ⟨.none,rfl,h _ J (wh ..) ?_⟩) (by rw[Au];exact hz) (by rw[Bp,Au];exact DB hz);rw[<-U];exact ya _ I (by rw[U];rfl)
theorem mV{Q:VK}{cm:Value}{I:Shared}{RR:Value->Addr->Result->Shared->Prop}
 (S:jm X scope) (hc:X.calm=true)
 (hg:∀C fp s₀ H₀,PG (X.comp scope T C fp s₀ H₀) target g) (e4:rg g X.N.length T.length) (hf:∀C fp s₀ H₀,PF (X.comp scope T C fp s₀ H₀) kb tc) (he:∀C fp s₀ H₀,PE (X.comp scope T C fp s₀ H₀) kt te)
 (h:PIE X pins σ target (λJ H1=>∃W:Nat->Nat->List V->Hp->Prop,(∃m,W 0 m [] H1)/\∀i m ys H,W i m ys H->
  (J.stop i H/\ys.length<=sizeLine/\∀D,H D=none->Q (.ref D) (upd H D<|.lst ys))\/
  (J.go i H/\ys.length<sizeLine/\∀x H',J.yld i H x H'->g x (σ++List.replicate T.length none) H' λcn H2=>tc cn H2 λb H3=>
   if b=true then te cn H3 λy H4=>∃m',m'<m/\W (i+1) m' (ys++[y]) H4 else ∃m',m'<m/\W (i+1) m' ys H3)) cm I)
 (e5:∀D C s' H' m',qw X pins σ H' s'->kB X pins H' C->s'.heap.Ns C m'->Q (.ref D) H'->RR (.ref D) C (.ok .next) s'):
 wpAny (model X.prog X.w) X.A (newList []) (λcq av=>wpAny (model X.prog X.w) X.A (newFunctionEnv scope X.env.globals (fY scope X.env) [] X.env.qual none .none<|some X.env) (λbg cv=>
  codeAny (model X.prog X.w) X.A (.compStart (.ListComp kt [⟨target,iter,kb,0⟩] scope pos) 0 cm cq { bg with scope:=relabel scope X.env }) (RR cq bg.locals) cv) E av) E I:=by
 obtain⟨it,fp,tn,J,H2,rfl,U,Tn,bh,f2,W,⟨m0,w0⟩,turn⟩:=h;refine Bz (wpAny_newFunctionEnv S.nocell (by intro y hy;simp at hy) (λba al t=>?_) S.kind);dsimp only at al t ⊢;generalize bi:I.heap.push { cls:=.type "list",dict:=none,data:=.seq ([]:List Value).toArray }=G at al t ⊢;have hC:G.objs.size=I.heap.objs.size+1:=by rw[<-bi,Fe]
 obtain⟨D,eD⟩:∃D,I.heap.objs.size=D:=⟨_,rfl⟩;obtain⟨C,eC⟩:∃C,G.objs.size=C:=⟨_,rfl⟩;rw[eD] at hC ⊢;rw[eC] at hC al t ⊢;have bj:D≠C:=by lia
 have old:∀b o,I.heap.get? b=some o->ba.get? b=some o:=λb o e=>by have j:=ltN e;exact t.extBut b o (u6 (by lia))<|qy _<|bi▸qy _ e
 have cw:ba.get? D=some { cls:=.type "list",data:=.seq ([]:List Value).toArray 0 }:=by refine t.extBut _ _ bj<|qy _ ?_;rw[<-bi,<-eD];exact sy _ rfl
 have bn:∀b∈fp,@LT.lt Nat instLTNat b I.heap.objs.size:=λb j=>by obtain⟨o,e,_⟩:=Tn.obj _ _ bh b j;exact ltN e
 have cy:@LT.lt Nat instLTNat X.env.locals I.heap.objs.size:=U.lt;have et:X.s₀.heap.objs.size<=I.heap.objs.size:=U.sz;have HD:H2 D=none:=U.hok.fresh<|leN (by exact tz);have HC:H2 C=none:=U.hok.fresh<|leN (by lia);have e6:∀b:Addr,@LE.le Nat instLENat I.heap.objs.size b->b∉bY X.stack:=λb j z=>by
  have q:=U.stkSub b z;rcases An.mp q with q|q
  ·rw[<-q] at cy;exact absurd cy<|Nat.not_lt.mpr j
  ·exact U.nofs j q
 have bb:∀x c,X.env.cells.lookup x=some c->@LT.lt Nat instLTNat c I.heap.objs.size:=λx c e=>by obtain⟨v,q⟩:=U.cell x c e;exact q.lt
 let X':Cx:=X.comp scope T C fp I H2
 have bp:X'.Ok:={
  mod:=U.ok.mod,kind:=S.kind,glob:=U.ok.glob,blt:=U.ok.blt
  above:=leN (by show @LE.le Nat instLENat I.heap.objs.size C;lia)
  inj:=λx y c h1 h2=>U.ok.inj x y c (S.cl_old U h1) (S.cl_old U h2)
  has:=λx hx=>S.cl_has (S.kindOf hx)
  cab:=λx c hx=>absurd (show false=true from hx) (by simp)
  hd:=U.ok.hd,frames:=U.ok.frames,stk:=.inl rfl
  exf:=λb j=>⟨u6 (by have:=bn b j;show @Ne Nat b C;lia),λx c e=>(f2 b j).2.2.2.2.1 x c<|S.cl_old U e⟩
  bs:=U.bs,bsz:=A0 U.ok.bsz U.sz
  noex:=λb o e j=>by
   obtain⟨e0,n0⟩:=U.ok.bs b o e;rcases (f2 b j).2.2.2.1 with q|q
   ·exact U.ok.noex b o e q
   ·have q':@LE.le Nat instLENat X.s₀.heap.objs.size b:=q;have:=ltN e0;lia
  exfs:=λb j z=>by
   rcases An.mp (U.stkSub b z) with q|q
   ·exact(f2 b j).2.1 q
   ·exact(f2 b j).2.2.1 q
  funs:=U.stack,frf:=U.stkFree }
 have I4:∀tk,0<tk->qw X' pins (σ++List.replicate T.length none) H2 { I with heap:=ba,toks:=tk }:=λtk e7=>{
  tk:=e7,ok:=bp,os:=rfl,bare:=U.bare,base:=Un.kept old
  loc:=⟨_,al,λi x v e1 e2 e3=>by
   have hi:i<σ.length:=by
    by_cases hi:i<σ.length
    ·exact hi
    ·rw[Ap (by exact zG),Dm] at e2;split at e2<;>cases e2
   rw[AB hi] at e2;have e8:i<X.N.length:=by rw[<-U.len];exact hi
   have cz:X.N[i]?=some x:=by have:(X.N++T)[i]?=some x:=e1;rw[AB e8] at this;exact this
   have bq:=S.vis (AC cz) e3;obtain⟨m,hn,hl⟩:=U.loc;have hk:=S.free x bq;obtain⟨u,r,l⟩:=hl i x v cz e2<|.inr hk;refine⟨u,r,.inr ⟨S.back bq,?_⟩⟩;rcases l with⟨l,_⟩|⟨_,c,e,z⟩
   ·rw[l] at hk;rcases hk with q|q<;>cases q
   ·obtain⟨c',e'⟩:=S.cl_has bq;have cP:=S.cl_old U e';rw[e] at cP;cases cP;exact⟨c,e',z.keeps old⟩⟩
  cell:=λx c e=>by obtain⟨v,z⟩:=U.cell x c<|S.cl_old U e;exact⟨v,z.keeps old⟩
  free:=HC,freeC:=λx c e=>U.freeC x c (S.cl_old U e)
  pin:=λp hp=>by
   obtain⟨a,b,c,d,e⟩:=U.pin p hp;have ec:=ltN a;refine⟨old _ _ a,b,u6 (by show @Ne Nat p.1 C;lia),λz=>?_,e⟩;rcases An.mp (U.stkSub _ z) with q|q
   ·exact c q
   ·exact d q
  hok:=U.hok.kept old
  len:=by show(σ++_).length=(X.N++T).length;rw[Ac,Ac,Cq,U.len] }
 have bS:∀(ax:List<|Addr×Obj) (H':Hp),(∀p∈ax,p∈pins\/p.1=D)->(∀b∈fp,H' b=none)->∀b∈fp,kB X' ax H' b:=λax H' hp hn b j=>by
  obtain⟨_,q1,q2,q3,q4,q5⟩:=f2 b j;have ec:=bn b j;refine⟨hn b j,u6 (by show @Ne Nat b C;lia),bp.exfs b j,.inl j,(bp.exf b j).2,λp ed=>?_⟩;rcases Aj.mp ed with z|z
  ·exact q5 p<|Ao _ z
  ·rcases hp p z with z|z
   ·exact q5 p<|Ai _ z
   ·rw[z];exact u6 (by lia)
 have stay:Tn.keep=Tn.keep:=rfl;have loop:∀av:Shared,av={ I with heap:=ba,toks:=I.toks+([]:List<|Str×Value).length }->
  codeAny (model X.prog X.w) X.A (.compLoop (.ListComp kt [⟨target,iter,kb,0⟩] scope pos) 0 (.ref it) (.ref D) X'.env) (RR (.ref D) C) av:=by
  rintro av rfl;refine fb (λn s'=>∃i cb H' ys au k,qw X' pins cb H' s'/\(cb.length=X.N.length+T.length/\∀(i:Nat) v,(σ++List.replicate T.length none)[i]?=some (some v)->cb[i]?=some (some v))/\
   s'.heap.get? D=some { cls:=.type "list",data:=.seq (au:List Value).toArray k }/\zw ys au/\H' D=none/\tn i s'.heap/\(∀b∈fp,H' b=none)/\W i n ys H') ?_ m0
   ⟨0,_,H2,[],[],0,I4 _ U.tk,⟨by rw[Ac,Cq,U.len],λ_ _ e=>e⟩,cw,.nil,HD,Tn.keep _ _ _ bh λb _ o e=>old b o e,λb j=>(f2 b j).1,w0⟩
  rintro n s3 ⟨i,eu,H3,ys,au,k,I3,⟨ee,ef⟩,eg,bd,bf,d0,de,w3⟩;have er:au.length=ys.length:=bd.length.symm;have di:D∉X'.fs:=e6 D (by exact tz);have dj:D≠X'.env.locals:=bj;have dp:qw X' (pins++[(D,{ cls:=.type "list",data:=.seq au.toArray k })]) (σ++List.replicate T.length none) H3 s3:=
   (I3.weak (by rw[ee,Ac,Cq,U.len]) ef).pins_of λp hp=>by
    rcases Aj.mp hp with z|z
    ·exact I3.pin p<|Ai _ z
    ·have e:=Al.mp z;subst e;exact⟨eg,bf,dj,di,λv z=>by cases z⟩
  have aL:∀p∈pins++[(D,({ cls:=.type "list",data:=.seq au.toArray k }:Obj))],p∈pins\/p.1=D:=λp hp=>by
   rcases Aj.mp hp with z|z
   ·exact .inl z
   ·exact .inr (by rw[Al.mp z])
  rcases turn i n ys H3 w3 with⟨stop,hz,qn⟩|⟨go,hz,step⟩
  ·refine aH (Tn.done X' rfl rfl rfl hc i _ s3 _ H3 _ dp (bS _ H3 aL de) d0 stop) λr s4 ⟨hr,ac⟩=>?_;subst hr;obtain⟨ej,ew,_⟩:=ac.pin (D,_)<|Ai _<|Ai _ Av;obtain⟨m',ek,_⟩:=ac.loc;have un:Un (bY X.stack) fp H2 (upd H3 D<|.lst ys) I.heap s4.heap:={
    keep:=ac.base.keep,slot:=ac.base.slot
    free:=λb o e n hx=>by have:=ltN e;rw[ql<|u6 (by lia)];exact ac.base.free b o e n hx
    there:=ac.base.there
    tups:=λb xs e=>by rw[ql (λz=>by rw[z,HD] at e;cases e)];exact ac.base.tups b xs e
    frzs:=λb o u e=>by rw[ql (λz=>by rw[z,HD] at e;cases e)];exact ac.base.frzs b o u e
    tbls:=λb ps e=>by rw[ql (λz=>by rw[z,HD] at e;cases e)];exact ac.base.tbls b ps e }
   have el:dm X.prog X.w (upd H3 D<|.lst ys) s4.heap:=λb u e=>by
    by_cases j:b=D
    ·subst j;rw[zh] at e;cases e;exact⟨hz,au,k,bd,ej⟩
    ·rw[ql j] at e;refine(ac.hok b u e).stay (λ_ _ _ q=>q) (λc q=>?_) λc xs q=>?_
     ·rw[ql<|zn q bf];exact q
     ·rw[ql<|zn q bf];exact q
   have I5:qw X pins σ (upd H3 D<|.lst ys) s4:=U.call' (ch:=fp) ac.os un el ac.bare λb j=>⟨(f2 b j).2.2.2.1,(f2 b j).2.1,(f2 b j).2.2.2.2.1,(f2 b j).2.2.2.2.2⟩;refine e5 D C s4 _ m' I5 ?_ ek<|qn D bf;refine⟨by rw[ql<|AJ bj];exact ac.free,?_,?_,.inr ?_,λx c e=>?_,λp hp=>?_⟩
   ·exact u6 (by lia)
   ·exact U.nofs<|leN (by lia)
   ·exact leN (by lia)
   ·exact u6 (by have:=bb x c e;lia)
   ·exact u6 (by have:=ltN (U.pin p hp).1;lia)
  ·refine aH (Tn.item X' rfl rfl rfl hc i _ s3 _ H3 _ dp (bS _ H3 aL de) d0 go) λr s4 ψ=>?_;obtain⟨u,hr,h4⟩:=ψ;subst hr;refine aH h4 λ_ s5 ψ=>?_;obtain⟨x,H5,I5,r5,y5,ck,en⟩:=ψ;have eo:=I5.pinned (bS _ H5 aL en)<|Tn.obj _ _ ck;refine AX ((hg C fp I H2) _ s5 _ H5 x u _ eo r5<|e4 σ U.len x H5 _<|step x H5 y5) (λ_ s6 ψ=>?_) λ_ _ z=>z;obtain⟨bc,H6,I6,⟨dr,dv⟩,q6⟩:=ψ;refine AX ((hf C fp I H2) _ s6 bc H6 _ I6 q6) (λb s7 ψ=>?_) λ_ _ z=>z;obtain⟨H7,I7,q7⟩:=ψ;have x9:∀{s8:Shared} {H8:Hp} (I8:qw X' ((pins++[(D,{ cls:=.type "list",data:=.seq au.toArray k })])++mJ fp s5.heap) bc H8 s8),tn (i+1) s8.heap/\(∀b∈fp,H8 b=none)/\s8.heap.get? D=some { cls:=.type "list",data:=.seq au.toArray k }/\H8 D=none/\qw X' pins bc H8 s8:=λ{s8 H8} I8=>by
    refine⟨Tn.keep _ _ _ ck λb j o e=>(I8.pin (b,o)<|Ai _<|Ai _<|dO j e).1,λb j=>?_,?_,?_,I8.unpinned.unpinned⟩
    ·obtain⟨o,e,d⟩:=Tn.obj _ _ ck b j;exact(I8.pin (b,o)<|Ai _<|Ai _<|dO j e).2.1
    ·exact(I8.pin (D,_)<|Ai _<|Ao _<|Ai _ Av).1
    ·exact(I8.pin (D,_)<|Ai _<|Ao _<|Ai _ Av).2.1
   cases b with
   |false=>
    rw[Az AG] at q7 ⊢;obtain⟨m',hm,w7⟩:=q7;obtain⟨a1,a2,a3,a4,a5⟩:=x9 I7;exact⟨m',hm,i+1,bc,H7,ys,au,k,a5,⟨dr,dv⟩,a3,bd,a4,a1,a2,w7⟩
   |true=>
    rw[AA rfl] at q7 ⊢;refine AX ((he C fp I H2) _ s7 bc H7 _ I7 q7) (λv s8 ψ=>?_) λ_ _ z=>z;obtain⟨y,H8,I8,r8,m',hm,w8⟩:=ψ;obtain⟨a1,a2,a3,a4,a5⟩:=x9 I8;refine wD a3 (by lia) λh9 k9 dV ep=>?_;have nD:∀b∈fp,b≠D:=λb j=>u6 (by have:=bn b j;lia);refine⟨m',hm,i+1,bc,H8,ys++[y],au++[v],k9,?_,⟨dr,dv⟩,ep,bd.append<|.cons r8 .nil,a4,Tn.keep _ _ _ a1 λb j o e=>(dV.2 b<|nD b j).trans e,a2,w8⟩;exact a5.turned (t':=s8.toks) (it:=D) (λb o j e=>(dV.2 b j).trans e) a4 dj (.inr (leN (by show @LE.le Nat instLENat I.heap.objs.size D;exact tz))) (λx c e=>u6 (by have:=bb x c<|S.cl_old U e;lia)) λp hp=>u6 (by have:=ltN (U.pin p hp).1;lia)
 exact codeAny_compStart_list (loop _ rfl)<|Tn.self _ _ _ _ _ (Tn.keep _ _ _ bh λb _ o e=>old b o e)<|loop _ rfl
end
section
variable {T:List Str}{iter:Expr}{g:TG}{tc:TT}{te:TE}
theorem aq8(T:List Str)(S:jm X scope)(hc:X.calm=true)(hi:PI X target iter wi)(t:∀C fp s₀ H₀,PG (X.comp scope T C fp s₀ H₀) target g)(j:rg g X.N.length T.length)
 (hf:∀C fp s₀ H₀,PF (X.comp scope T C fp s₀ H₀) kb tc) (he:∀C fp s₀ H₀,PE (X.comp scope T C fp s₀ H₀) kt te)
 (hs:∀x,foldedSetIterable iter X.env x=pure x:=by intro _;rfl):PE X (.ListComp kt [⟨target,iter,kb,0⟩] scope pos) (tLC T.length wi g tc te):=by
 intro J s r H Q I h;rw[eval_ListComp];refine wpAny_comprehension_free (use:=none) rfl hs (S.clo I) S.kind S.names<|aH (hi J s r H _ I h) λv s1 h1=>aH h1 λa1 s2 h2=>?_;refine mV (RR:=λl C=>compPost (model X.prog X.w) X.A X.xe none (EP X J r Q) l C) S hc t j hf he h2 ?_;intro D C s' H' m' I' U hn q;exact⟨m',hn,λh' p=>⟨.ref D,H',I'.turned (t':=s'.toks) (it:=C) (λb o hb e=>(p.2 b hb).trans e) U.1 (AJ<|AJ U.2.1) U.2.2.2.1 U.2.2.2.2.1 U.2.2.2.2.2,rfl,q⟩⟩
theorem adk(T:List Str){px j:Pos}(hN:X.N.Nodup)(l:X.N[i]?=some x)(hx:Loc X.env.scope x)(S:jm X scope)(hc:X.calm=true)(hi:PI X target iter wi)
 (hg:∀C fp s₀ H₀,PG (X.comp scope T C fp s₀ H₀) target g) (p:rg g X.N.length T.length)
 (hf:∀C fp s₀ H₀,PF (X.comp scope T C fp s₀ H₀) kb tc) (he:∀C fp s₀ H₀,PE (X.comp scope T C fp s₀ H₀) kt te)
 (r:swapsWith (.ListComp kt [⟨target,iter,kb,0⟩] scope j) (some<|.Name x px) pos.line X.env=pure true:=by rfl)
 (t:X.fn x=true\/X.env.scope.names.lookup x=some .local:=by first|exact .inl rfl|exact .inr rfl|assumption)
 (hs:∀x,foldedSetIterable iter X.env x=pure x:=by intro _;rfl):PS X (.Assign [.Name x px] (.ListComp kt [⟨target,iter,kb,0⟩] scope j) pos) (alv (tLC T.length wi g tc te)<|lK i):=by
 intro pins s σ H D I h;rw[exec_Assign_Name_used _ _ _ _ r];refine Aa<|wpAny_standAt<|Aa ?_;show wpAny _ X.A (do let _ <-comprehension (.ListComp kt [⟨target,iter,kb,0⟩] scope j) scope X.env _ (newList []) false (eval iter X.env) (some<|assign (.Name x px) X.env)) _ _ s;refine Aa (AX (wpAny_comprehension_free (use:=some<|assign (.Name x px) X.env) (Q:=λ_ U=>SP X pins D .next U) rfl hs (S.clo I) S.kind S.names
  (aH (hi pins s σ H _ I h) λv s1 h1=>aH h1 λac s2 h2=>?_)) (λ_ U hq=>Ag<|Ag hq) λ_ _ e=>e)
 refine mV (RR:=λa1 C=>compPost (model X.prog X.w) X.A X.xe (some<|assign (.Name x px) X.env) (λ_ U=>SP X pins D .next U) a1 C) (pins:=pins) (σ:=σ) (Q:=λx H1=>lK i x σ H1 D.nx) S hc hg p hf he h2 ?_;intro A C U H' m' I' J hn q;show wpAny _ X.A (assign (.Name x px) X.env<|.ref A) _ _ U;refine wpAny_assign_Name<|oS I' hN l hx (v:=.ref A) rfl (λa2 a3 ψ _=>?_) t;obtain⟨a,hs,ha⟩:=ψ;have a4:C≠a:=by
  rcases ha with z|z
  ·rw[z];exact J.2.1
  ·exactλe=>J.2.2.2.2.1 x a z e.symm
 exact⟨m',hn.sameBut hs a4,λh' a5=>⟨_,H',a3.turned (t':=a2.toks) (it:=C) (λb o hb e=>(a5.2 b hb).trans e) J.1 J.2.1 J.2.2.2.1 J.2.2.2.2.1 J.2.2.2.2.2,q⟩⟩
end
def wm(outer:Scope)(N:List Str)(I:Scope):Bool:=
 decide (I.kind=.function)&&I.names.all (λp=>decide (p.2≠.cell)&&(decide (p.2≠.local)||decide (I.names.lookup p.1=some .local))&&(decide (p.2≠.free)||(decide (outer.names.lookup p.1=some .cell)||decide (outer.names.lookup p.1=some .free))))
  && N.all (λx=>decide<|I.names.lookup x≠some .local)
theorem wm.mk{I:Scope}(h:wm X.env.scope X.N I=true):jm X I:=by
 unfold wm at h;rw[A6,A6,DC,DC] at h;obtain⟨⟨h1,h2⟩,h3⟩:=h;have g:∀n,(n,NameKind.free)∈I.names->X.env.kindOf n=some .cell\/X.env.kindOf n=some .free:=λn J=>by
  have q:=h2 _ J;simp only[A6,Ey,decide_eq_true_eq] at q;rcases q.2 with z|z
  ·exact absurd rfl z
  ·exact z
 refine⟨of_decide_eq_true h1,λy U=>?_,λy U e=>?_,λn J=>g n<|BL J,g,λx j=>of_decide_eq_true<|h3 x j⟩
 ·have q:=h2 _ U;simp only[A6,Ey,decide_eq_true_eq] at q;exact q.1.1
 ·have q:=h2 _ U;simp only[A6,Ey,decide_eq_true_eq] at q;rcases q.1.2 with z|z
  ·exact absurd e z
  ·exact z
abbrev EY:=@wm.mk
theorem uo(n:Nat):rg (lK n) n 1:=by
 intro U I x H Q h;refine⟨⟨by simp[I],λi v e=>?_⟩,h⟩;by_cases J:i=n
 ·subst J;rw[Ap (by exact tz)] at e;simp[I] at e
 ·rw[Bh<|AJ J];exact e
theorem cG:bootBuiltins "isinstance"=some (.builtin "isinstance"):=by decide +kernel
theorem fN:bootBuiltins "tuple"=some (.type "tuple"):=by decide +kernel
theorem acv:bootBuiltins "str"=some (.type "str"):=by decide +kernel
theorem vR:bootBuiltins "int"=some (.type "int"):=by decide +kernel
theorem aC:bootBuiltins "list"=some (.type "list"):=by decide +kernel
theorem alc:bootBuiltins "len"=some (.builtin "len"):=by decide +kernel
theorem huK{k:Nat}(I:w4 k A):A.units+128<cLine:=by have:=I.un;lia
theorem db(h:n<=1000):n<=sizeLine:=BO<|o9 h
theorem Cal.of{P:Program}{w:World}{K:Ah}{k:Nat}(F:bP P w K mg base CX0 k f fd ps sp)(b:da K fd ps [])(I:PySem.W.keepIn K (.ref f)=true)(m:mg x=some (.ref f)):
 Cal P w K mg base k x ps sp:=⟨f,fd,F,b,I,m⟩
theorem bP.never{P:Program}{w:World}{K:Ah}{k:Nat}(no:∀vs H Q E,¬sp vs H Q E):bP P w K mg base CX0 k f fd ps sp:=
 ⟨λvs H Q E h=>absurd h<|no vs H Q E,λA I s H args J vs Q E _ _ _ _ h=>absurd h<|no vs H Q E⟩
section
variable (K:Ah)(P:Program)(w:World)
end
structure zc(K:Ah)(x:Str)(st:Stmt):Prop where
 ex:∃(f:Addr) (kV hE pm:Value) (an:Option Addr) (eK ct:Value),PySem.W.nsIn K mainGlobals x=some (some<|.ref f)/\Fun K x x st f (PySem.W.fnOf x x (vf st) (jg st) (qt st) .none kV hE pm an eK ct)
theorem def_in{K:Ah}{kV ct:Value}(a:PySem.W.nsIn K mainGlobals x=some (some<|.ref f))
 (l:K.lookup f=some ⟨oc,od,.func<|PySem.W.fnOf x x (vf st) (jg st) (qt st) .none kV hE pm an eK ct,mR⟩) (c:PySem.W.codeIn K eK x=true) (k:PySem.W.keepIn K (.ref f)=true):zc K x st:=
 ⟨f,kV,hE,pm,an,eK,ct,a,aju (st:=st) l c k⟩
theorem zc.use{K:Ah}(D:zc K x st)(X:K.In h)(G:h.Ns mainGlobals mg)
 (I:∀(kV hE pm:Value) (an:Option Addr) (eK ct:Value) (us:List Value),us.length=ps.length->bindArgs (PySem.W.fnOf x x (vf st) (jg st) (qt st) .none kV hE pm an eK ct) ⟨us,[]⟩=pure (ps.zip us)):
 ∃f fd,Fun K x x st f fd/\da K fd ps []/\mg x=some (.ref f):=by
 obtain⟨f,kV,hE,pm,an,eK,ct,a,F⟩:=D.ex;exact⟨f,_,F,da.all<|I kV hE pm an eK ct,Bx X G a⟩
end L2
namespace Words
open PySem L2
inductive Wd where
 |leaf (t:Bool) (n:Str)
 |node (e:Bool) (l r:Wd)
def kL:Bool->Str
 |false => "plain"
 |true => "turned"
def kN:Bool->Str
 |false => "both"
 |true => "either"
def Wd.turn:Wd->Wd
 |.leaf t n=>.leaf (!t) n
 |.node e l r=>.node (!e) l.turn r.turn
def Wd.depth:Wd->Nat
 |.leaf _ _=>1
 |.node _ l r=>max l.depth r.depth+1
def Wd.leaves:Wd->Nat
 |.leaf _ _=>1
 |.node _ l r=>l.leaves+r.leaves
theorem Wd.leaves_pos:∀w:Wd,1<=w.leaves
 |.leaf _ _=>Am _
 |.node _ l r=>by have:=Wd.leaves_pos l;show 1<=l.leaves+r.leaves;exact apo
abbrev EV:=@Wd.leaves_pos
theorem Wd.depth_le:∀w:Wd,w.depth<=w.leaves
 |.leaf _ _=>Am _
 |.node _ l r=>by have:=Wd.depth_le l;have:=Wd.depth_le r;have:=EV l;have:=EV r;show max l.depth r.depth+1<=l.leaves+r.leaves;lia
def rE:Wd->Da
 |.leaf t n=>.tup [.s<|.str<|kL t,.s<|.str n]
 |.node e l r=>.tup [.s<|.str<|kN e,rE l,rE r]
def eY(x:Str):Prop:=1<=x.length/\x.length<=8/\∀c∈x.cps.toList,97<=c/\c<=122
def Wd.ok:Wd->Prop
 |.leaf _ n=>eY n
 |.node _ l r=>l.ok/\r.ok
theorem Paired.app{α β:Type}{F:α->β->Prop}:∀{xs I:List α} {ys J:List β},Paired F xs ys->Paired F I J->Paired F (xs++I) (ys++J)
 |_,_,_,_,.nil,s=>s
 |_,_,_,_,.cons r t,s=>.cons r<|Paired.app t s
theorem Paired.getP{F:α->β->Prop}:∀{xs:List α} {ys:List β} {i:Nat} {x:α},Paired F xs ys->xs[i]?=some x->∃y,ys[i]?=some y/\F x y:=by
 intro xs ys i x h
 induction h generalizing i with
 |nil=>intro h;simp at h
 |cons r t I=>
  intro h;cases i with
  |zero=>simp at h;subst h;exact⟨_,rfl,r⟩
  |succ i=>
   obtain⟨y,e,q⟩:=I (i:=i) (by simpa using h);exact⟨y,by simpa using e,q⟩
end Words
namespace L2
open PySem PySem.Spec PyProof.Rows
theorem aak{a b:Addr}{ys:List V}{es:List Da}(I:qw X pins σ H s)(g:A.units<cLine)(j:dU X.K H a xs)(l:dU X.K H b ys)(px:Paired (kg X.K H n) xs ds)(py:Paired (kg X.K H m) ys es)
 (o:∀{x y:V} {d e:Da} {u v:Value},kg X.K H n x d->kg X.K H m y e->zr x u->zr y v->SeqAt.EqAt A.in1 s u v (Da.eq d e)):SeqAt.RcNeAt A s (.ref a) (.ref b) (!Da.eqs ds es):=by
 obtain⟨r,J,p,_⟩:=I.tuple j;obtain⟨t,U,ty,_⟩:=I.tuple l;have q:=SeqAt.RcNeAt.tuples p ty g<|gn px py J U o;rw[Au,Au,<-J.length,<-U.length,px.length,py.length,EO] at q;exact q
theorem ac8{a b:Addr}{ys:List V}{es:List Da}(I:qw X pins σ H s)(l:A.units<cLine)(p:aI X.K H a xs)(r:aI X.K H b ys)(px:Paired (kg X.K H n) xs ds)(py:Paired (kg X.K H m) ys es)
 (t:∀{x y:V} {d e:Da} {u v:Value},kg X.K H n x d->kg X.K H m y e->zr x u->zr y v->SeqAt.EqAt A.in1 s u v (Da.eq d e)):SeqAt.RcNeAt A s (.ref a) (.ref b) (!Da.eqs ds es):=by
 obtain⟨C,U,o,_⟩:=I.list p;obtain⟨T,j,ty,_⟩:=I.list r;by_cases g:C.toArray.size=T.toArray.size
 ·have q:=SeqAt.RcNeAt.lists (jh o) (jh ty) g l<|gn px py U j t;have J:ds.length=es.length:=by rw[<-px.length,<-py.length,U.length,j.length];simpa using g
  have e:=EO ds es;rw[J,Nat.min_self] at e;rw[<-J] at e;rw[Au,<-U.length,px.length] at q;simp only[beq_self_eq_true,EE] at e;rw[e] at q;exact q
 ·have q:=SeqAt.RcNeAt.lists_lengths (jh o) (jh ty) (by simpa using g) l;have J:ds.length≠es.length:=by rw[<-px.length,<-py.length,U.length,j.length];intro z;exact g (by simpa using z)
  have e:=EO ds es;have f:(ds.length==es.length)=false:=by simpa using J
  rw[f,Bool.and_false] at e;rw[<-e];exact q
def uNe(K:Ah)(k:Nat):R2:=λx y H Q=>match x,y with
 |.ref a,.ref b=>∃n m d e,n<=k/\kg K H n (.ref a) d/\kg K H m (.ref b) e/\Q (.bl<|!Da.eq d e) H
 |x,y=>agv x y=true/\Q (.bl<|!decide (x=y)) H
theorem alu{k:Nat}(hu:X.A.units+k<cLine):we X (compareOp .NotEq) (uNe X.K k):=by
 intro J s o H x y v u Q I p t h;cases x with
 |ref a=>
  cases y with
  |ref b=>
   obtain⟨n,m,d,e,hn,h1,h2,q⟩:=h;cases p;cases t;have x9:∀{k:Bool},k=(!Da.eq d e)->SeqAt.RcNeAt X.A s (.ref a) (.ref b) k->wpAny (model X.prog X.w) X.A (compareOp .NotEq (.ref a)<|.ref b) (EP X J o Q) X.xe s:=λ{k} e' r=>
    r X.prog X.w X.xe (EP X J o Q) (by rw[e'];exact⟨.bl _,H,I,rfl,q⟩)
   cases n with
   |zero=>exact(jf h1.2).elim
   |succ n=>
    cases m with
    |zero=>exact(jf h2.2).elim
    |succ m=>
     have j:X.A.in1.units+n<cLine:=by show X.A.units+1+n<cLine;lia
     rcases h1 with⟨_,f⟩|⟨a',xs,ds,C,rfl,l,T⟩|⟨a',xs,ds,C,rfl,l,T⟩
     ·exact(jf f).elim
     ·cases C;rcases h2 with⟨_,f⟩|⟨b',ys,es,U,rfl,g,py⟩|⟨b',ys,es,U,rfl,g,py⟩
      ·exact(jf f).elim
      ·cases U;exact x9 rfl<|aak I (by lia) l g T py λh1 h2 r1 r2=>l9 I n j h1 h2 r1 r2
      ·cases U;obtain⟨us,vx,tx,_⟩:=I.tuple l;obtain⟨vs,vy,ty,_⟩:=I.list g;exact x9 rfl<|.tuple_list tx (jh ty) (by lia)
     ·cases C;rcases h2 with⟨_,f⟩|⟨b',ys,es,U,rfl,g,py⟩|⟨b',ys,es,U,rfl,g,py⟩
      ·exact(jf f).elim
      ·cases U;obtain⟨us,vx,tx,_⟩:=I.list l;obtain⟨vs,vy,ty,_⟩:=I.tuple g;exact x9 rfl<|.list_tuple (jh tx) ty (by lia)
      ·cases U;exact x9 rfl<|ac8 I (by lia) l g T py λh1 h2 r1 r2=>l9 I n j h1 h2 r1 r2
  |_=>exact air J s o H _ _ v u Q I p t h
 |_=>cases y<;>exact air J s o H _ _ v u Q I p t h
theorem dD:bootBuiltins "max"=some (.builtin "max"):=by decide +kernel
theorem agz:bootBuiltins "bool"=some (.type "bool"):=by decide +kernel
end L2
namespace Words
open PySem L2
def Wd.size:Wd->Nat
 |.leaf _ _=>1
 |.node _ l r=>1+l.size+r.size
theorem Wd.size_eq:∀w:Wd,w.size+1=2*w.leaves
 |.leaf _ _=>rfl
 |.node _ l r=>by have:=Wd.size_eq l;have:=Wd.size_eq r;show 1+l.size+r.size+1=2*(l.leaves+r.leaves);lia
end Words
namespace L2
open PySem PySem.Spec PyProof.Rows
theorem xi.get{P:Program}{w:World}{a:Addr}{o:HO}(x:xi P w H h a o):∃ob,h.get? a=some ob:=by
 cases o with
 |lst J=>obtain⟨_,_,_,_,e⟩:=x;exact⟨_,e⟩
 |tup J=>obtain⟨_,_,_,_,e,_⟩:=x;exact⟨_,e⟩
 |dK I=>obtain⟨_,_,_,_,o,_,_,e,_⟩:=x;exact⟨_,e⟩
 |dT I=>obtain⟨_,_,_,_,o,_,_,e,_⟩:=x;exact⟨_,e⟩
 |set S n=>obtain⟨o,_,_,_,e,_⟩:=x;exact⟨_,e⟩
 |ins C U fs=>obtain⟨_,_,_,e,_⟩:=x;exact⟨_,e⟩
 |own y=>exact x
 |xd fs=>obtain⟨_,⟨_,_,_,e,_⟩,_⟩:=x;exact⟨_,e⟩
 |rng lo g=>obtain⟨_,_,_,e⟩:=x;exact⟨_,e⟩
 |frz ob u=>obtain⟨e,_⟩:=x;exact⟨_,e⟩
 |tbl j=>exact⟨_,show h.get? a=some _ from x⟩
 |met f y=>exact⟨_,show h.get? a=some _ from x⟩
 |ext l=>obtain⟨_,e,_⟩:=x;exact e
def rJ(h0 h:Heap)(H:Hp)(a C:Addr)(tr:Option Addr):Prop:=
 h0.get? a=none/\H a=none/\∃I vs a0,h.get? a=some I/\I.cls=.ref C/\I.data=.fields vs/\vs[0]?=some a0/\
  match tr with
  |none=>vs[1]?=some .none
  |some T=>vs[1]?=some (.ref T)/\h0.get? T=none/\H T=none/\T≠a/\∃J ts,h.get? T=some J/\J.data=.fields ts/\ts[3]?=some .none
def a9(a:Addr)(tr:Option Addr)(fs:List Addr):List Addr:=a::(tr.toList++fs)
section
variable {a:Addr}{tr:Option Addr}
theorem kM{l:List Env}{b:Addr}(h:env∈l)(e:env.frame=some b):b∈bY l:=DO.mpr ⟨env,h,e⟩
theorem kQ(I:qw X pins σ H s)(hs:X.stack=X.env::X.outer)(hx:X.ex=[])(new:X.s₀.heap.get? a=none)(free:H a=none)(j:∀T,tr=some T->X.s₀.heap.get? T=none/\H T=none){a0 fl:Value}
 (k1:(PySem.W.hideAll s.heap<|a9 a tr<|bY X.stack).StaysIn h') (k2:h'.FunFrames (PySem.W.hideAll s.heap<|a9 a tr<|bY X.stack) X.stack) (k3:h'.TracedAtW (PySem.W.hideAll s.heap<|a9 a tr<|bY X.stack) a (.ref C) a0 fl)
 (k4:∀b o,s.heap.get? b=some o->(∀vs,o.data≠.fields vs)->∃sl,h'.get? b=some { o with slots:=sl }):
 Un X.fs [] X.H₀ H X.s₀.heap h'/\dm X.prog X.w H h'/\∃T,(∀b o,s.heap.get? b=some o->(∀T0,tr=some T0->b≠T0)->b≠T)/\X.s₀.heap.get? T=none/\H T=none/\T≠a/\∃oe vs oT ts,h'.get? a=some oe/\oe.cls=.ref C/\vs[0]?=some a0/\oe.data=.fields vs/\vs[1]?=some (.ref T)/\h'.get? T=some oT/\oT.data=.fields ts/\ts[3]?=some fl:=by
 have kp:∀b o,s.heap.get? b=some o->b∉a9 a tr (bY X.stack)->h'.get? b=some o:=λb o e n=>k1 b o<|C9 _ e n;have sl:∀b o,s.heap.get? b=some o->b∈bY X.stack->∃sl,h'.get? b=some { o with slots:=sl }:=λb o e J=>by obtain⟨_,l,e',nf⟩:=I.stack.mem J;rw[e] at e';cases e';exact k4 b o e nf
 have p:∀b,b∈a9 a tr (bY X.stack)->H b=none:=λb J=>by
  rcases An.mp J with e|J
  ·rw[e];exact free
  ·rcases Aj.mp J with q|q
   ·exact(j b (by simpa using q)).2
   ·exact I.stkFree b q
 have g:∀b o,X.s₀.heap.get? b=some o->b∉X.fs->b∉a9 a tr (bY X.stack):=λb o e nb J=>by
  rcases An.mp J with q|J
  ·rw[q,new] at e;cases e
  ·rcases Aj.mp J with q|q
   ·rw[(j b (by simpa using q)).1] at e;cases e
   ·rcases An.mp (I.stkSub b q) with q|q
    ·exact absurd (AO (r4 e) I.ok.above) (by rw[q];exact CN _)
    ·exact nb q
 have r:∀b,b∈X.fs->b∈bY X.stack:=λb J=>by
  rw[hs];unfold bY;rw[De];split
  ·exact J
  ·exact Af _ J
 have U:∀b:Addr,b∉X.ex:=λb=>by rw[hx];simp
 have a3:dm X.prog X.w H h':=λb u e=>(I.hok b u e).stay (λc w' hc q=>kp c w' q λhm=>by
  have n:=p c hm;rcases hc with z|z
  ·rw[z,e] at n;cases n
  ·rw[z] at n;cases n) (λ_ q=>q) λ_ _ q=>q
 refine⟨⟨λb o e n J _=>?_,λb o e n J _=>?_,λb o e n _=>I.base.free b o e n<|U b,λb o e _=>?_,I.base.tups,I.base.frzs,I.base.tbls⟩,a3,?_⟩
 ·exact kp b o (I.base.keep b o e n J<|U b)<|g b o e J
 ·obtain⟨z,t⟩:=I.base.slot b o e n J<|U b;obtain⟨z',e2⟩:=sl b _ t<|r b J;exact⟨z',e2⟩
 ·obtain⟨l,t⟩:=I.base.there b o e<|U b;by_cases J:b∈X.fs
  ·obtain⟨z',e2⟩:=sl b _ t<|r b J;exact⟨_,e2⟩
  ·exact⟨l,kp b l t<|g b o e J⟩
 ·obtain⟨al,au,T,oT,ts,av,⟨ax,aL⟩,ba,bb,a4,a1,hT,a5,h3⟩:=k3;have a2:∀o,s.heap.get? T=some o->T∈a9 a tr (bY X.stack):=λo e=>by
   by_cases q:T∈a9 a tr (bY X.stack)
   ·exact q
   ·rw[C9 _ e q] at a4;cases a4
  have ac:T∉bY X.stack:=λJ=>by obtain⟨_,l,e',nf⟩:=k2.mem J;rw[hT] at e';cases e';exact nf ts a5
  refine⟨T,λb o e ne z=>?_,?_,?_,a1,al,au,oT,ts,av,ax,aL,ba,bb,hT,a5,h3⟩
  ·subst z;rcases An.mp (a2 o e) with z|z
   ·exact a1 z
   ·rcases Aj.mp z with z|z
    ·exact ne b (by simpa using z) rfl
    ·exact ac z
  ·cases q:X.s₀.heap.get? T with
   |none=>rfl
   |some o=>
    obtain⟨l,t⟩:=I.base.there T o q<|U T;rcases An.mp (a2 l t) with z|z
    ·exact absurd z a1
    ·rcases Aj.mp z with z|z
     ·rw[(j T (by simpa using z)).1] at q;cases q
     ·exact absurd z ac
  ·cases q:H T with
   |none=>rfl
   |some u=>
    obtain⟨l,t⟩:=(I.hok T u q).get;have:=p T<|a2 l t;rw[q] at this;cases this
theorem ad4{Q:Unit->Shared->Prop}(I:qw X pins σ H s)(hs:X.stack=X.env::X.outer)(hf:X.env.frame=some X.env.locals)(hx:X.ex=[])(L:rJ X.s₀.heap s.heap H a C tr)
 (h:∀h' T,Un X.fs [] X.H₀ H X.s₀.heap h'->dm X.prog X.w H h'->rJ X.s₀.heap h' H a C (some T)->Q () { s with heap:=h' }):wpAny M X.A (leaving X.env<|.ref a) Q E s:=by
 have L0:=L;obtain⟨new,free,oe,vs,b0,g,hc,hd,h0,J⟩:=L0;have j:s.heap.FunFrames (PySem.W.hideAll s.heap<|a9 a tr<|bY X.stack) X.stack:=CK I.stack λenv g b hb=>Af _<|Ai _<|kM g hb;have st:(PySem.W.hideAll s.heap<|a9 a tr<|bY X.stack).StaysIn s.heap:=λb o e=>CH _ e;have l:(PySem.W.hideAll s.heap<|a9 a tr<|bY X.stack).get? a=none:=BX _ Av;have U:X.A.frames=some (X.env::X.outer):=by rw[<-hs];exact I.ok.frames
 have go:∀h',Heap.LeftW (PySem.W.hideAll s.heap<|a9 a tr<|bY X.stack) (X.env::X.outer) a (.ref C) b0 s.heap h'->Q () { s with heap:=h' }:=λh' ψ=>by obtain⟨k1,k2,k3,k4⟩:=ψ;obtain⟨u,p,T,_,n1,n2,ne,r,t,oT,ts,e1,e2,e3,e4,e5,e6,e7,e8⟩:=kQ I hs hx new free (by intro T e;subst e;exact⟨J.2.1,J.2.2.1⟩) k1 (by rw[hs];rw[hs] at k2;exact k2) k3.at k4;exact h h' T u p ⟨new,free,r,t,b0,e1,e2,e4,e3,e5,n1,n2,ne,oT,ts,e6,e7,e8⟩
 have nT:∀T,tr=some T->(PySem.W.hideAll s.heap<|a9 a tr<|bY X.stack).get? T=none:=λT e=>by subst e;exact BX _<|Af _<|Ao _ (by simp)
 generalize PySem.W.hideAll s.heap (a9 a tr<|bY X.stack)=base at j st l go nT;rw[hs] at j;cases tr with
 |none=>exact wpAny_leaving_firstW U j hf g st l hd J h0 (by rw[hc];exact go)
 |some T=>
  obtain⟨h1,_,_,a1,oT,ts,hT,a2,h3⟩:=J;exact wpAny_leaving_nextW U j hf ⟨oe,vs,T,oT,ts,g,⟨hc,h0⟩,hd,h1,nT T rfl,a1,hT,a2,h3⟩ st l go
end
def CXE(P:Program)(w:World):wT:=λouter H s E e s'=>∃a C T H',e=.ref a/\s'.os=s.os/\AllBare s'.gens/\Un (bY outer) [] H H' s.heap s'.heap/\dm P w H' s'.heap/\rJ s.heap s'.heap H' a C (some T)/\E (.ref C) none H'/\0<s'.toks
def uV(X:Cx)(a:Addr):Prop:=a≠X.env.locals/\(∀x c,X.env.cells.lookup x=some c->c≠a)/\∀p∈X.pn,p.1≠a
abbrev X1:=St->Value->Hp->Prop
def bZ(X:Cx)(E1:X1):Prop:=∀(pins:List<|Addr×Obj) (σ:St) (H:Hp) (s:Shared) (a C:Addr) (tr:Option Addr),qw X pins σ H s->rJ X.s₀.heap s.heap H a C tr->uV X a->(∀T,tr=some T->uV X T)->E1 σ (.ref C) H->X.xe (.ref a) s
section
variable {a b T:Addr}{tr:Option Addr}{E1:X1}
theorem qw.apart(I:qw X pins σ H s)(h:s.heap.get? b=none):uV X b:=by
 refine⟨λe=>?_,λx c e z=>?_,λp U z=>?_⟩
 ·obtain⟨m,⟨o,_,_,J,_⟩,_⟩:=I.loc;rw[<-e,h] at J;cases J
 ·obtain⟨v,o,J,_⟩:=I.cell x c e;rw[z,h] at J;cases J
 ·obtain⟨e,_⟩:=I.pin p<|Ao _ U;rw[z,h] at e;cases e
theorem qw.news(I:qw X pins σ H s)(J:X.ex=[])(h:s.heap.get? b=none):X.s₀.heap.get? b=none:=by
 cases q:X.s₀.heap.get? b with
 |none=>rfl
 |some o=>
  obtain⟨U,e⟩:=I.base.there b o q (by rw[J];simp);rw[h] at e;cases e
theorem bZ.pass(t:bZ X E1)(U:X.ex=[]){e:Value}(I:qw X pins σ H s)(h:CXE X.prog X.w X.stack H s (λc _ H'=>E1 σ c H') e s'):X.xe e s':=by obtain⟨a,C,T,H',rfl,j,l,u,J,⟨new,free,o,p,r,he,hc,hd,h0,h1,g,fT,rest⟩,q,a1⟩:=h;have I':qw X pins σ H' s':=I.call' (ch:=[]) j u J l λb z=>absurd z (by simp);exact t pins σ H' s' a C (some T) I' ⟨I.news U new,free,o,p,r,he,hc,hd,h0,h1,I.news U g,fT,rest⟩ (I.apart new) (λT' e=>by cases e;exact I.apart g) q
theorem ahm{k:Nat}{Q:VK}{vs:List V}(F:bP X.prog X.w X.K X.mg X.base (CXE X.prog X.w) k f fd ps sp)(U:w4 k X.A)(g:da X.K fd ps [])(j:bZ X E1)(l:X.ex=[])
 (I:qw X pins σ H s) (r:zw vs us) (h:sp vs H Q λc _ H'=>E1 σ c H'):wpAny (model X.prog X.w) X.A (call (.ref f) us) (EP X pins σ Q) X.xe s:=by
 have o:(us++[]).length=ps.length:=by rw[AD,<-r.length];exact F.len _ _ _ _ h
 refine wpAny_call (codeAny_mono (F.run X.A X.stack s H ⟨us,[]⟩ us vs Q _ U I.env0 (by have:=g s us I.kIn o;rw[AD] at this;exact this) r h) λr t J=>?_);cases r with
 |error e=>exact j.pass l I J
 |ok p=>
  cases p with|ret u=>exact I.after J|next=>exact False.elim J|brk=>exact False.elim J|cont=>exact False.elim J
end
def amj(sp:Sp)(E1:X1)(t:TA):TE:=λσ H Q=>t σ H λvs H1=>sp vs H1 Q λc _ H'=>E1 σ c H'
section
variable {k:Nat}{E1:X1}{p:Pos}{t:TA}
theorem u5(F:bP X.prog X.w X.K X.mg X.base (CXE X.prog X.w) k f fd ps sp)(l:w4 k X.A)(o:Gl X x)(C:X.mg x=some (.ref f))(T:PySem.W.keepIn X.K (.ref f)=true)(hb:da X.K fd ps [])(ht:bZ X E1)(hx:X.ex=[])
 (ha:PA X (e::es) t) (U:Fb x:=by decide) (he:E8 e es X:=by rfl) (g:E9 pos es X:=by rfl):
 PE X (.Call (.Name x p) (e::es) [] pos) (amj sp E1 t):=by
 intro J s σ H Q I h;refine wpAny_Call_Name_kw<|gR I o C ?_ U;refine PySem.W.callWith_K (h₀:=X.base) I.ok.mod.kin T (aH (ha pos J s σ H _ I h) λus s1 ⟨vs,H1,j,r,q⟩=>⟨j.kIn,?_⟩) he g;exact ahm F l hb ht hx j r q
end
theorem ab7{P:Program}{w:World}{K:Ah}{N:List Str}{E:XK}:
 bZ (cM (CXE P w) P w K mg base N eH scope f cd A outer s H E) λ_ c H'=>E c none H':=by
 intro U j H' l a C tr I L _ _ q;refine ad4 (X:=cM (CXE P w) P w K mg base N eH scope f cd A outer s H E) I rfl rfl rfl L λo T u J g=>?_;exact⟨a,C,T,H',rfl,I.os,I.bare,u,J,g,q,I.tk⟩
structure ada(K:Ah)(C:Addr):Prop where
 ex:∃(nm q:Str) (N:Addr) (bs bm:List Value) (hdct:Bool) (sn:List Str) (sub:List Value) (ab:Bool) (col:Option Bool) (dd:Option Addr) (k0 k1 k2 k3 k5:Option Value) (B Bn newId nid initId inN:String) (bmB bmN:List Value),
  ExcBaseFacts Bn newId inN bmN/\bmB.contains (.type Bn)=true/\ExcBaseFacts B nid initId bmB/\
  ∀h,K.In h->h.get? C=some (excClassObj nm q C N bs bm hdct sn sub ab col dd k0 k1 k2 k3 k5 newId)/\(∃mN,h.Ns N mN/\mN "__init__"=none)/\OwnTail h bmB bm
theorem ah6{K:Ah}{U o:List Value}{B T J p I r:String}(q:PySem.W.excIn K C U J=true)(Fn:ExcBaseFacts T J r o)(a1:U.contains (.type T)=true)(F:ExcBaseFacts B p I U):ada K C:=by
 unfold PySem.W.excIn at q;split at q
 ·rename_i dd cd sl ho;split at q
  ·rename_i C' bm k0 k1 k2 k3 n k5 hm hs;simp only[A6,beq_iff_eq,CU] at q;obtain⟨⟨⟨⟨⟨rfl,rfl⟩,g⟩,ht⟩,j⟩,t⟩:=q;obtain⟨nm,bs,a4,ns,qn,hd,sn,sub,ab,a2,del⟩:=cd;dsimp only at hm g j t;subst hm g;have a3:sl=#[k0,k1,k2,k3,some<|.builtin n,k5]:=by obtain⟨l⟩:=sl;simp only at hs;rw[hs]
   subst a3;exact⟨nm,qn,ns,bs,bm,hd,sn,sub,ab,a2,dd,k0,k1,k2,k3,k5,B,T,n,p,I,r,U,o,Fn,a1,F,λh X=>⟨X _ _ ho,⟨_,.of_isNs<|PySem.W.isNs_of_in X j,PySem.W.nsMap_none_of_in X j t⟩,PySem.W.tail_of_in X ht⟩⟩
  ·cases q
 ·cases q
def ali(C:Addr)(E1:X1)(t:TA):TS:=λ_ σ H=>t σ H λvs H1=>vs.length<=sizeLine/\E1 σ (.ref C) H1
theorem acw{E1:X1}{t:TA}(c:ada X.K C)(hg:Gl X x)(U:X.mg x=some (.ref C))(hc:X.calm=true)(ht:bZ X E1)(hx:X.ex=[])(ha:PA X (e::es) t)(a1:Fb x:=by decide)
 (he:E8 e es X:=by rfl) (a2:E9 fx es X:=by rfl):
 PS X (.Raise (some<|.Call (.Name x np) (e::es) [] fx) none pos) (ali C E1 t):=by
 intro J s σ H D I h;obtain⟨nm,q,N,bs,bm,hdct,sn,sub,ab,col,dd,k0,k1,k2,k3,k5,B,Bn,a3,ac,l,al,au,av,Fn,a4,F,all⟩:=c.ex;obtain⟨_,⟨mN,hn,a5⟩,ow⟩:=all X.base I.ok.mod.kin;refine wpAny_Raise_call_subU (C:=C) (nm:=nm) (q:=q) (N:=N) (bs:=bs) (bm:=bm) (hdct:=hdct) (sn:=sn) (sub:=sub) (ab:=ab) (col:=col) (dd:=dd) (k0:=k0) (k1:=k1) (k2:=k2) (k3:=k3) (k5:=k5) Fn a4 F (mN:=mN) (ow.hasType F.hasBase) (I.ok.hd hc)
  (by rw[he];show(false||(backTo fx<|starEach es X.env).any (·.1))=false;rw[a2];rfl) a5 (gR I hg U ⟨rfl,?_⟩ a1)
 rw[he];have j:=ha fx J s σ H _ I h;rw[he] at j;refine Calls.evalArgs_plain (aH j λus s2 ⟨vs,p,g,r,hl,q1⟩=>⟨rfl,by rw[<-r.length];exact hl,(all _ g.kIn).1,hn.keeps g.bk,(all _ g.kIn).2.2,λh' a U=>?_⟩);obtain⟨t0,e1,_,_⟩:=U.there;have I2:qw X J σ p { s2 with heap:=h' }:=g.kept (t':=s2.toks) U.keeps;have fr:p a=none:=by
  cases z:p a with
  |none=>rfl
  |some u=>
   obtain⟨o,eo⟩:=(g.hok a u z).get;rw[U.new] at eo;cases eo
 exact ht J σ p _ a C none I2 ⟨g.news hx U.new,fr,_,_,.ref t0,e1,rfl,rfl,rfl,rfl⟩ (g.apart U.new) (λT z=>nomatch z) q1
section
variable {a T:Addr}{tr:Option Addr}
theorem ij(I:qw X pins σ H s)(C:X.ex=[])(hf:X.stack=X.env::X.outer)(un:Un X.fs [] X.H₀ H X.s₀.heap h')(hok:dm X.prog X.w H h')
 (k1:(PySem.W.hideAll s.heap<|a9 a tr<|bY X.stack).StaysIn h') (l:∀b o,s.heap.get? b=some o->(∀vs,o.data≠.fields vs)->∃J,h'.get? b=some { o with slots:=J })
 (pa:∀p∈X.pn++pins,p.1≠a/\∀T,tr=some T->p.1≠T):qw X pins σ H { s with heap:=h' }:=by
 have cl:∀{c:Addr} {v:Option Value},s.heap.IsCell c v->h'.IsCell c v:=λ{c v} ψ=>by
  obtain⟨o,U,hd⟩:=ψ
  obtain⟨J,e⟩:=l c o U λvs q=>by rw[hd] at q;cases q
  exact⟨_,e,hd⟩
 obtain⟨m,hn,hl⟩:=id I.loc;have g:h'.Ns X.env.locals m:=by
  obtain⟨o,es,ep,U,hd,r⟩:=hn;obtain⟨J,e⟩:=l _ o U λvs q=>by rw[hd] at q;cases q
  exact⟨_,es,ep,e,hd,r⟩
 refine⟨I.ok,I.os,I.bare,by rw[C];exact un,⟨m,g,λi x v e1 e2 e3=>?_⟩,λx c e=>?_,I.free,I.freeC,λp j=>?_,hok,I.len,I.tk⟩
 ·obtain⟨u,ru,lk⟩:=hl i x v e1 e2 e3;refine⟨u,ru,?_⟩;rcases lk with lk|⟨k,c,e,z⟩
  ·exact .inl lk
  ·exact .inr ⟨k,c,e,cl z⟩
 ·obtain⟨v,z⟩:=I.cell x c e;exact⟨v,cl z⟩
 ·obtain⟨e,n,ne,t,d⟩:=I.pin p j;refine⟨k1 _ _<|C9 _ e λhm=>?_,n,ne,t,d⟩;rcases An.mp hm with z|z
  ·exact(pa p j).1 z
  ·rcases Aj.mp z with z|z
   ·exact(pa p j).2 p.1 (by simpa using z) rfl
   ·rcases An.mp (I.stkSub _ z) with z|z
    ·exact ne z
    ·exact t z
theorem agb{Q:Unit->Shared->Prop}(I:qw X pins σ H s)(hs:X.stack=X.env::X.outer)(hf:X.env.frame=some X.env.locals)(hx:X.ex=[])(L:rJ X.s₀.heap s.heap H a C tr)
 (pa:∀p∈X.pn++pins,p.1≠a/\∀T,tr=some T->p.1≠T)
 (h:∀h' T,qw X pins σ H { s with heap:=h' }->rJ X.s₀.heap h' H a C (some T)->(∀p∈X.pn++pins,p.1≠T)->Q () { s with heap:=h' }):
 wpAny M X.A (noteFrame (.ref a) X.env) (λ_ j=>wpAny M X.A (setFlight (.ref a) none) Q E j) E s:=by
 obtain⟨new,free,oe,vs,b0,g,hc,hd,h0,J⟩:=id L;have r:∀T,tr=some T->X.s₀.heap.get? T=none/\H T=none:=by intro T e;subst e;exact⟨J.2.1,J.2.2.1⟩
 have fr:s.heap.FunFrames (PySem.W.hideAll s.heap<|a9 a tr<|bY X.stack) X.stack:=CK I.stack λenv g b hb=>Af _<|Ai _<|kM g hb;have st:(PySem.W.hideAll s.heap<|a9 a tr<|bY X.stack).StaysIn s.heap:=λb o e=>CH _ e;have na:(PySem.W.hideAll s.heap<|a9 a tr<|bY X.stack).get? a=none:=BX _ Av;have t:X.A.frames=some (X.env::X.outer):=by rw[<-hs];exact I.ok.frames
 have nT:∀T,tr=some T->(PySem.W.hideAll s.heap<|a9 a tr<|bY X.stack).get? T=none:=λT e=>by subst e;exact BX _<|Af _<|Ao _ (by simp)
 have go:∀h',Heap.NotedW (PySem.W.hideAll s.heap<|a9 a tr<|bY X.stack) (X.env::X.outer) a (.ref C) b0 (rawInt X.env.locals) s.heap h'->wpAny M X.A (setFlight (.ref a) none) Q E { s with heap:=h' }:=λh' ψ=>by
  obtain⟨k1,k2,k3,k4⟩:=ψ
  rw[<-hs] at k2;obtain⟨u,a5,T,ac,n1,n2,ne,al,au,oT,ts,e1,e2,e3,e4,e5,e6,e7,e8⟩:=kQ I hs hx new free r k1 k2 k3 k4;have I2:qw X pins σ H { s with heap:=h' }:=ij I hx hs u a5 k1 k4 pa;have a1:∀p∈X.pn++pins,p.1≠T:=λp U=>by obtain⟨e,_⟩:=I.pin p U;exact ac p.1 _ e (pa p U).2
  have av:h'.FunFrames (PySem.W.hideAll h'<|a9 a (some T)<|bY X.stack) X.stack:=CK I2.stack λenv g b hb=>Af _<|Ai _<|kM g hb;refine wpAny_setFlight_noneW (s:={ s with heap:=h' }) (base:=PySem.W.hideAll h'<|a9 a (some T)<|bY X.stack) (l:=X.stack) (e:=a) (cls:=.ref C) (a0:=b0) (fl:=rawInt X.env.locals) (λb o e=>CH _ e) av
   ⟨al,au,T,oT,ts,e1,⟨e2,e3⟩,e4,e5,BX _<|Af _<|Ao _ (by simp),ne,e6,e7,e8⟩ λh3 j1 j2 j3 j4=>?_
  have a2:∀b o,h'.get? b=some o->(∀vs,o.data≠.fields vs)->∃sl,h3.get? b=some { o with slots:=sl }:=λb o e q=>⟨o.slots,j4 b o e q⟩;obtain⟨u',a3,T',a4,ax,aL,ba,bb,bc,bd,bf,f1,f2,f3,f4,f5,f6,f7,f8⟩:=kQ (s:={ s with heap:=h' }) (tr:=some T) I2 hs hx new free (λT0 e=>by cases e;exact⟨n1,n2⟩) j1 j2 j3.at a2;have I3:qw X pins σ H { s with heap:=h3 }:=ij (s:={ s with heap:=h' }) (h':=h3) (tr:=some T) I2 hx hs u' a3 j1 a2 λp U=>⟨(pa p U).1,λT0 e=>by cases e;exact a1 p U⟩;refine h h3 T' I3 ⟨new,free,bb,bc,b0,f1,f2,f4,f3,f5,ax,aL,ba,bd,bf,f6,f7,f8⟩ λp U=>?_;obtain⟨e,_⟩:=I2.pin p U;exact a4 p.1 _ e λT0 z=>by cases z;exact a1 p U
 generalize PySem.W.hideAll s.heap (a9 a tr<|bY X.stack)=base at fr st na go nT;rw[hs] at fr;cases tr with
 |none=>
  unfold noteFrame;simp only[hf];refine Aa<|AW g hd J ?_;rw[Az (by decide)];exact wpAny_entryW t fr hf g st na hd (Array.getElem?_eq_some_iff.mp J).1 h0 (by rw[hc];exact go)
 |some T=>
  obtain⟨h1,_,_,bg,oT,ts,hT,bh,h3⟩:=J;exact wpAny_noteFrame_onW t fr hf ⟨oe,vs,T,oT,ts,g,⟨hc,h0⟩,hd,h1,nT T rfl,bg,hT,bh,h3⟩ st na go
end
abbrev Cx.tr(X:Cx)(pn:List<|Addr×Obj)(xe:Value->Shared->Prop):Cx:={ X with pn:=pn,xe:=xe }
abbrev Cx.hnd(X:Cx)(a:Addr):Cx:={ X with A:=X.A.mark<|some<|.ref a,calm:=false,xe:=λ_ _=>False }
theorem Cx.Ok.tr(ok:X.Ok)(pn:List<|Addr×Obj)(xe:Value->Shared->Prop):(X.tr pn xe).Ok:=
 ⟨ok.mod,ok.kind,ok.glob,ok.blt,ok.above,ok.inj,ok.has,ok.cab,ok.hd,ok.frames,ok.stk,ok.exf,ok.bs,ok.bsz,ok.noex,ok.exfs,ok.funs,ok.frf⟩
theorem Cx.Ok.untr{pn:List<|Addr×Obj}(ok:(X.tr pn xe).Ok):X.Ok:=
 ⟨ok.mod,ok.kind,ok.glob,ok.blt,ok.above,ok.inj,ok.has,ok.cab,ok.hd,ok.frames,ok.stk,ok.exf,ok.bs,ok.bsz,ok.noex,ok.exfs,ok.funs,ok.frf⟩
theorem Cx.Ok.hnd(ok:X.Ok)(a:Addr):(X.hnd a).Ok:=
 ⟨ok.mod,ok.kind,ok.glob,ok.blt,ok.above,ok.inj,ok.has,ok.cab,(λz=>nomatch z),ok.frames,ok.stk,ok.exf,ok.bs,ok.bsz,ok.noex,ok.exfs,ok.funs,ok.frf⟩
section
variable {a T:Addr}
theorem qw.tr(I:qw X pins σ H s)(xe:Value->Shared->Prop):qw (X.tr (X.pn++pins) xe) [] σ H s:=⟨I.ok.tr _ _,I.os,I.bare,I.base,I.loc,I.cell,I.free,I.freeC,(λp J=>I.pin p (by simpa using J)),I.hok,I.len,I.tk⟩
theorem qw.untr{J:List<|Addr×Obj}(I:qw (X.tr (X.pn++pins) xe) J σ H s):qw X pins σ H s:=⟨I.ok.untr,I.os,I.bare,I.base,I.loc,I.cell,I.free,I.freeC,(λp U=>I.pin p<|Ao _ U),I.hok,I.len,I.tk⟩
theorem qw.hnd(I:qw X pins σ H s)(a:Addr):qw (X.hnd a) pins σ H s:=⟨I.ok.hnd a,I.os,I.bare,I.base,I.loc,I.cell,I.free,I.freeC,I.pin,I.hok,I.len,I.tk⟩
theorem qw.unhnd(ok:X.Ok)(I:qw (X.hnd a) pins σ H s):qw X pins σ H s:=⟨ok,I.os,I.bare,I.base,I.loc,I.cell,I.free,I.freeC,I.pin,I.hok,I.len,I.tk⟩
theorem SP.untr{D:m9}{f:Flow}(h:SP (X.tr (X.pn++pins) xe) [] D f s'):SP X pins D f s':=by
 cases f with
 |next=>obtain⟨I,U,J,q⟩:=h;exact⟨I,U,J.untr,q⟩
 |brk=>obtain⟨I,U,J,q⟩:=h;exact⟨I,U,J.untr,q⟩
 |cont=>obtain⟨I,U,J,q⟩:=h;exact⟨I,U,J.untr,q⟩
 |ret u=>obtain⟨v,I,U,J,r,q⟩:=h;exact⟨v,I,U,J.untr,r,q⟩
theorem fO{n:Str}{Q:Unit->Shared->Prop}(I:qw X pins σ H s)(hN:X.N.Nodup)(hi:X.N[i]?=some n)(hk:X.env.scope.names.lookup n=some .local)
 (h:∀s',qw X pins (σ.set i none) H s'->Q () s'):wpAny M A (do bindName X.env n .none;unbindBehindTheSuite X.env n pos) Q E s:=by
 obtain⟨m,hn,hl⟩:=id I.loc;have g:(X.env.scope.kind==.class||(X.env.scope.kind==.module&&X.env.locals != X.env.globals))=false:=by rw[I.ok.kind];rfl
 refine wpAny_nameGoes_keeps hk hn g λh' v C J=>h _ ?_;obtain⟨oL,_,_,a1,_⟩:=id hn;have aZ:∀b o,X.s₀.heap.get? b=some o->b≠X.env.locals:=λb o e=>A4<|AO (r4 e) I.ok.above;refine⟨I.ok,I.os,I.bare,⟨λb o e n T l=>?_,λb o e n T l=>?_,I.base.free,λb o e l=>?_,I.base.tups,I.base.frzs,I.base.tbls⟩,⟨_,C,λj y v' U t e3=>?_⟩,λy c e=>?_,I.free,I.freeC,λp hp=>?_,λb ob e=>?_,by simpa using I.len,by first|exact I.tk|exact B9 _⟩
 ·exact(J.2 b<|aZ b o e).trans (I.base.keep b o e n T l)
 ·obtain⟨sl,U⟩:=I.base.slot b o e n T l;exact⟨sl,(J.2 b<|aZ b o e).trans U⟩
 ·obtain⟨o',U⟩:=I.base.there b o e l;exact⟨o',(J.2 b<|aZ b o e).trans U⟩
 ·by_cases hj:j=i
  ·subst hj;have r:j<σ.length:=by rw[I.len];exact(AK.mp hi).1
   rw[BF r] at t;cases t
  ·rw[Bh<|AJ hj] at t;obtain⟨u',r',q⟩:=hl j y v' U t e3;refine⟨u',r',?_⟩;rcases q with⟨k,e⟩|⟨k,c,e,z⟩
   ·refine .inl ⟨k,?_⟩;have:y≠n:=λe=>hj<|lU hN U<|e▸hi;simp[this,e]
   ·exact .inr ⟨k,c,e,z.sameBut J<|I.cne y c e⟩
 ·obtain⟨w',z⟩:=I.cell y c e;exact⟨w',z.sameBut J<|I.cne y c e⟩
 ·obtain⟨e,n,ne,nf,d⟩:=I.pin p hp;exact⟨(J.2 p.1 ne).trans e,n,ne,nf,d⟩
 ·refine(I.hok b ob e).stay (λc w' hc q=>(J.2 c ?_).trans q) (λ_ q=>q) λ_ _ q=>q;rintro rfl;rcases hc with z|z
  ·rw[<-z,I.free] at e;cases e
  ·rw[I.free] at z;cases z
theorem abw{J:Obj}(I:qw X pins σ H s)(C:X.ex=[])(new:X.s₀.heap.get? a=none)(free:H a=none)(U:s.heap.get? a=some J)(ap:uV X a)(pa:∀p∈X.pn++pins,p.1≠a):qw X pins σ (upd H a<|.frz J<|.own 0) s:=by
 refine⟨I.ok,I.os,I.bare,⟨I.base.keep,I.base.slot,λb o e n l=>?_,I.base.there,λb g e=>?_,λb o u e=>?_,λb r e=>?_⟩,I.loc,I.cell,?_,λx c e=>?_,λp j=>?_,λb u e=>?_,I.len,I.tk⟩
 ·rw[ql (λz=>by rw[z,new] at e;cases e)];exact I.base.free b o e n l
 ·have:=I.base.tups b g e;rw[ql (λz=>by rw[z,free] at this;cases this)];exact this
 ·have:=I.base.frzs b o u e;rw[ql (λz=>by rw[z,free] at this;cases this)];exact this
 ·obtain⟨more,this⟩:=I.base.tbls b r e;exact⟨more,by rw[ql (λz=>by rw[z,free] at this;cases this)];exact this⟩
 ·rw[ql<|AJ ap.1];exact I.free
 ·rw[ql<|ap.2.1 x c e];exact I.freeC x c e
 ·obtain⟨e,n,ne,t,d⟩:=I.pin p j;exact⟨e,by rw[ql<|pa p j];exact n,ne,t,d⟩
 ·by_cases z:b=a
  ·subst z;rw[zh] at e;cases e;exact⟨U,J,U⟩
  ·rw[ql z] at e;exact(I.hok b u e).stay (λ_ _ _ q=>q) (λc q=>by rw[ql (λz=>by rw[z,free] at q;cases q)];exact q) λc g q=>by rw[ql (λz=>by rw[z,free] at q;cases q)];exact q
theorem yT{Q:Unit->Shared->Prop}(I:qw X pins σ H s)(hs:X.stack=X.env::X.outer)(hx:X.ex=[])(L:rJ X.s₀.heap s.heap H a C<|some T)
 (pa:∀p∈X.pn++pins,p.1≠a/\p.1≠T) (h:∀h' g,qw X pins σ H { s with heap:=h' }->rJ X.s₀.heap h' H a C (some g)->Q () { s with heap:=h' }):wpAny M A (setFlight (.ref a) none) Q E s:=by
 obtain⟨new,free,oe,j,b0,r,hc,hd,h0,h1,n1,n2,ne,oT,ts,hT,t,h3⟩:=L;have a1:s.heap.FunFrames (PySem.W.hideAll s.heap<|a9 a (some T)<|bY X.stack) X.stack:=CK I.stack λenv r b hb=>Af _<|Ai _<|kM r hb;refine wpAny_setFlight_noneW (base:=PySem.W.hideAll s.heap<|a9 a (some T)<|bY X.stack) (l:=X.stack) (e:=a) (cls:=.ref C) (a0:=b0) (fl:=.none) (λb o e=>CH _ e) a1
  ⟨oe,j,T,oT,ts,r,⟨hc,h0⟩,hd,h1,BX _<|Af _<|Ao _ (by simp),ne,hT,t,h3⟩ λh3 j1 j2 j3 j4=>?_
 have J:∀b o,s.heap.get? b=some o->(∀j,o.data≠.fields j)->∃sl,h3.get? b=some { o with slots:=sl }:=λb o e q=>⟨o.slots,j4 b o e q⟩;obtain⟨u',U,g,av,a2,a3,a4,a5,ac,al,au,f1,f2,f3,f4,f5,f6,f7,f8⟩:=kQ (tr:=some T) I hs hx new free (λT0 e=>by cases e;exact⟨n1,n2⟩) j1 j2 j3.at J;exact h h3 g (ij (tr:=some T) I hx hs u' U j1 J λp hp=>⟨(pa p hp).1,λT0 e=>by cases e;exact(pa p hp).2⟩) ⟨new,free,a5,ac,b0,f1,f2,f4,f3,f5,a2,a3,a4,al,au,f6,f7,f8⟩
end
def Dh(i:Nat)(D:m9):m9 where
 nx:=λσ H=>D.nx (σ.set i none) H
 rt:=D.rt
 bk:=λσ H=>D.bk (σ.set i none) H
 ct:=λσ H=>D.ct (σ.set i none) H
def ag4(K:Ah)(J:Addr)(i:Nat)(th:TS)(D:m9):X1:=λσ c H=>∃C,c=.ref C/\PySem.W.exmOne K (.ref C) (.ref J)=some true/\∀a I,H a=none->I.cls=.ref C->th (Dh i D) (σ.set i<|some<|.ref a) (upd H a<|.frz I<|.own 0)
def as4(K:Ah)(I:Addr)(i:Nat)(tb:X1->TS)(th:TS):TS:=λD σ H=>tb (ag4 K I i th D) D σ H
theorem amk{Dc:Addr}{n:Str}{a2:Pos}{l:List Stmt}{t:Stmt}{tb:X1->TS}{th:TS}(hs:X.stack=X.env::X.outer)(hf:X.env.frame=some X.env.locals)(hx:X.ex=[])(hN:X.N.Nodup)(hi:X.N[i]?=some n)
 (hk:X.env.scope.names.lookup n=some .local) (hg:Gl X x) (hm:X.mg x=some (.ref Dc)) (hb:∀(pn:List<|Addr×Obj) (xe:Value->Shared->Prop) (E1:X1),bZ (X.tr pn xe) E1->gl (X.tr pn xe) body (tb E1)) (hh:∀a,gl (X.hnd a) (t::l) th)
 (a5:Fb x:=by decide):PS X (.Try body [.ExceptHandler (some<|.Name x np) (some n) (t::l) a2] [] [] pos) (as4 X.K Dc i tb th):=by
 intro U s σ H D I h;have tk:bZ (X.tr (X.pn++U) λe s'=>∃g o H' a C tr,e=.ref a/\qw X U o H' s'/\rJ X.s₀.heap s'.heap H' a C tr/\uV (X.tr (X.pn++g) X.xe) a/\(∀p∈X.pn++U,p.1≠a)/\(∀T,tr=some T->∀p∈X.pn++U,p.1≠T)/\ag4 X.K Dc i th D o (.ref C) H')
  (ag4 X.K Dc i th D):=λg o H' s' a C tr I' L ap ac q=>⟨[],o,H',a,C,tr,rfl,I'.untr,L,⟨ap.1,ap.2.1,λp j=>ap.2.2 p (by have j:p∈X.pn++[]:=j;rw[AD] at j;exact Ao _ j)⟩,ap.2.2,λT e=>(ac T e).2.2,q⟩
 refine wpAny_Try_except<|AX (hb _ _ _ tk [] s σ H D (I.tr _) h) (λf s1 h1=>?_) λe s1 h1=>?_
 ·have h2:=SP.untr h1;cases f with|next=>exact wpAny_execs_nil h2|brk=>exact h2|cont=>exact h2|ret u=>exact h2
 ·obtain⟨g,o,H',a,C,tr,rfl,I1,L,ap,pa,al,C',ec,em,q⟩:=h1;cases ec;refine agb I1 hs hf hx L (λp j=>⟨pa p j,λT e=>al T e p j⟩) λh' T I2 L2 a4=>?_;refine wpAny_handleBy_cons (codeAny_handlers_test ?_) (by intro q;cases q);refine gR (X:=X.hnd a) (I2.hnd a) hg hm ?_ a5;obtain⟨_,_,oe,vs,a0,he,hc,_⟩:=id L2;have LT:PySem.W.Looks (model X.prog X.w) h' (typeOf<|.ref a) (.ref C):=hc▸(PySem.W.Looks.ld he).andThen .now;refine PySem.W.exm_one (K:=X.K) I2.kIn LT em _ _ _ _ (λ_ _ e=>e) ?_;refine codeAny_handlers_suite_as ?_;refine yT I2 hs hx L2 (λp j=>⟨pa p j,a4 p j⟩) λh3 T' I3 L3=>?_;obtain⟨new,free,au,aL,a3,av,ax,_⟩:=L3;have I4:=abw I3 hx new free av ⟨ap.1,ap.2.1,λp j=>pa p<|Ao _ j⟩ pa;refine dy (X:=X.hnd a) (I4.hnd a) hN hi (.inl hk) (v:=.ref a) (u:=.ref a) rfl (λs5 I5=>?_)<|.inr hk;refine AX (hh a U s5 _ _ (Dh i D) I5<|q a au free ax) (λf s6 h6=>?_) λe s6 z=>z.elim;cases f with
  |next=>obtain⟨a1,H6,J,q6⟩:=h6;exact fO (J.unhnd I.ok) hN hi hk λs7 I7=>⟨_,H6,I7,q6⟩
  |brk=>obtain⟨a1,H6,J,q6⟩:=h6;exact fO (J.unhnd I.ok) hN hi hk λs7 I7=>⟨_,H6,I7,q6⟩
  |cont=>obtain⟨a1,H6,J,q6⟩:=h6;exact fO (J.unhnd I.ok) hN hi hk λs7 I7=>⟨_,H6,I7,q6⟩
  |ret u=>obtain⟨v,a1,H6,J,r,q6⟩:=h6;exact fO (J.unhnd I.ok) hN hi hk λs7 I7=>⟨v,_,H6,I7,r,q6⟩
open PySem PySem.Spec PyProof.Rows PySem.W
structure XAt(K:Frag)(C:Addr):Prop where
 ga:findIn K (.ref C) "__getattribute__"=some (some<|.builtin "BaseException.__getattribute__")
 gt:findIn K (.ref C) "__getattr__"=some none
 cl:findIn K (.ref C) "__class__"=some (some<|.builtin "object.__class__")
 ge:specialIn K (.builtin "object.__class__") "__get__"=some (some<|.builtin "getset_descriptor.__get__")
 tk:takesIn K (.builtin "object.__class__")=some true
 mo:mroIn K C (.type "object")=some true
 be:subIn K (.ref C) (.type "BaseException")=some true
theorem ah8(self:Value):bindSpecial (.builtin "BaseException.__getattribute__") self=pure (.builtin "BaseException.__getattribute__",[self]):=by
 have J:withoutEnding? "BaseException.__getattribute__" "#opaque"=none:=by decide +kernel
 have I:withoutEnding? "BaseException.__getattribute__" "#data"=none:=by decide +kernel
 have U:builtinKind "BaseException.__getattribute__"=some .slot:=by decide +kernel
 simp only[bindSpecial,typeOf,builtinType,J,I,U];rfl
def qC(h:Heap)(a C:Addr):Prop:=∃o,h.get? a=some o/\o.cls=.ref C
theorem qC.type{a:Addr}(I:qC h a C):Looks M h (typeOf<|.ref a) (.ref C):=by obtain⟨o,h1,h2⟩:=I;exact h2▸(Looks.ld h1).andThen .now
open Builtin.ObjectAttr in
theorem aho{K:Frag}{a:Addr}(c:XAt K C)(X:K.In h):Looks M h (find (.ref a) (.ref C) "__class__") (.bind (.builtin "getset_descriptor.__get__")<|.builtin "object.__class__"):=by have I:=looks_findIn (M:=M) X c.cl;have L2:=looks_specialIn (M:=M) X c.ge;have L3:=looks_takesIn (M:=M) X c.tk;refine I.andThen<|L2.andThen ?_;exact(show Looks M h (dataDescriptor? (some<|.builtin "object.__class__")<|some<|.builtin "getset_descriptor.__get__") (some (.builtin "getset_descriptor.__get__",.builtin "object.__class__")) from L3.andThen .now).andThen (Looks.tag .now)
section
variable {w:World}{K:Frag}{a:Addr}
open Builtin Builtin.ObjectAttr Builtin.Getset_descriptor in
theorem ajt{R:Result->Shared->Prop}{tp:Value}(X:K.In s.heap)(I:qC s.heap a C)(J:mroIn K C (.type "object")=some true)
 (h:R (.ok<|.ret<|.ref C) s):codeAny (model prog w) A (.call (.builtin "getset_descriptor.__get__") ⟨[.builtin "object.__class__",.ref a,tp],[]⟩) R s:=by
 obtain⟨U,g,j,t,os⟩:=s;have l:=I.type (M:=model prog w);have o:=looks_mroIn (M:=model prog w) X J;refine codeAny_call_builtin KF.slot_gs.plain KF.entry_gs<|KF.slot_gs.check _ _ _ _ _ _ _ _ KF.type_class (KF.args_gs _ _ _) ?_;unfold Builtin.«getset_descriptor.__get__» descrGet;rw[dga_obj];refine Aa<|Ag ?_;unfold descrGetter descrCheckInstance descrNameAndClass isInstance;simp only[KF.owner_class]
 repeat lk
 refine⟨Code.quiet_builtin _ (by decide +kernel),codeAny_builtin KF.entry_class ?_⟩;unfold Builtin.«object.__class__» shownTypeOf
 repeat lk
 exact h
theorem aen{tk:Tok}{Q:Fin->Shared->Prop}(c:XAt K C)(X:K.In s.heap)(I:qC s.heap a C)(h:Q (.done<|.ret<|.ref C) s):
 wpAny (model prog w) A (Builtin.«object.__getattribute__» ⟨[.ref a,.str "__class__" tk],[]⟩) Q E s:=by
 obtain⟨J,g,d,t,os⟩:=s;have U:=I.type (M:=model prog w);have j:=aho (M:=model prog w) (a:=a) c X;unfold Builtin.«object.__getattribute__»
 repeat (first|with_reducible refine wpAny_call ?_|lk)
 refine ajt X I c.mo ?_
 repeat lk
 exact h
theorem adr{Q:Unit->Shared->Prop}{J:Value}(c:XAt K C)(X:K.In s.heap)(I:qC s.heap a C)(j:Q () s):wpAny (model prog w) A (checkBuiltinCall "BaseException.__getattribute__" ⟨[.ref a,J],[]⟩) Q E s:=by
 obtain⟨o,g,d,t,os⟩:=s;have p:=I.type (M:=model prog w);have r:=looks_subIn (M:=model prog w) X c.be;have l:builtinKind "BaseException.__getattribute__"=some .slot:=by decide +kernel
 have U:splitId "BaseException.__getattribute__"=some ("BaseException","__getattribute__"):=by decide +kernel
 have T:=F.args_bexc_ga (.ref a) J;simp only[checkBuiltinCall,l,U];refine Aa ?_;unfold isInstance
 repeat lk
 exact j
theorem aq1{tk:Tok}(c:XAt K C)(X:K.In s.heap)(I:qC s.heap a C)(h:Q (.ref C) s):wpAny (model prog w) A (getAttrBy (.ref a) (.str "__class__" tk) false) Q E s:=by
 obtain⟨J,g,d,t,os⟩:=s;have U:=I.type (M:=model prog w);have j:=looks_findIn (M:=model prog w) X c.ga;have L2:=looks_findIn (M:=model prog w) X c.gt;have l:=ah8<|.ref a;unfold getAttrBy
 repeat (first|with_reducible refine wpAny_call ?_|with_reducible refine wpAny_attempt ?_|lk)
 refine codeAny_call_builtin (by decide +kernel) F.entry_bexc_ga<|adr c X I<|aen c X I ?_;exact handed_on rfl h
theorem afk{Q:Option Value->Shared->Prop}(c:XAt K C)(X:K.In s.heap)(I:qC s.heap a C)(h:Q (some<|.ref C) { s with toks:=s.toks+1 }):wpAny (model prog w) A (getAttr? (.ref a) "__class__") Q E s:=by unfold getAttr? getAttrBy?;refine Aa<|wpAny_mkText<|Aa<|wpAny_attempt<|aq1 (s:={ s with toks:=s.toks+1 }) c X I ?_;exact Ag h
end
theorem sE{K:Frag}{a:Addr}(c:XAt K C)(J:(clsIn K C).isSome=true):KitX K (.ref a) (.ref C) (λh=>qC h a C) where
 ty:=λ_ _ _ I=>I.type
 it:=λ_ _ X _=>by
  unfold clsIn at J;split at J
  ·rename_i o p U g j;intro T Q' E' s' k q;unfold isType loadHead;exact Aa<|wpAny_loadPart (k _ _<|X _ _ j)<|Ag q
  ·cases J
 ne:=λh r dd t n sl X l=>by
  refine Bool.eq_false_iff.mpr λq=>?_;have e:C=r:=Value.ref.inj<|beq_iff_eq.mp q;subst e;unfold clsIn at J;split at J
  ·rename_i o p U g j;have z:=(X _ _ j).symm.trans l;cases z
  ·cases J
 ca:=λX I k=>afk c X I k
def yh:V->Option Value
 |.ref D=>some<|.ref D
 |.ty T=>some<|.type T
 |_=>none
theorem rp{v:V}{c:Value}(h:yh v=some c)(r:zr v u):u=c:=by cases v with|ref D=>cases h;exact r|ty T=>cases h;exact r|_=>cases h
theorem uW:∀{vs:List V} {us cs:List Value},vs.map yh=cs.map some->zw vs us->us=cs
 |[],_,[],_,.nil=>rfl
 |[],_,_::_,h,_=>by cases h
 |_::_,_,[],h,_=>by cases h
 |v::vs,_,c::cs,h,.cons r t=>by rw[AF,AF] at h;obtain⟨h1,h2⟩:=CO h;rw[rp h1 r,uW h2 t]
structure XHd(K:Ah)(C:Addr):Prop where
 at_:XAt K C
 cls:(PySem.W.clsIn K C).isSome=true
def ac6(K:Ah)(H:Hp)(a C:Addr):Prop:=∃I,H a=some (.frz I<|.own 0)/\I.cls=.ref C
def al7(K:Ah):List V->Hp->VK->Prop:=λxs H Q=>∃a C v,xs=[.ref a,v]/\ac6 K H a C/\XHd K C/\
 ((∃u b,yh v=some u/\PySem.W.kitOne K (.ref C) u=some b/\Q (.bl b) H)\/(∃tp I us b,v=.ref tp/\dU K H tp I/\I.map yh=us.map some/\PySem.W.kitAny K (.ref C) us=some b/\Q (.bl b) H))
theorem mI :jo X (.builtin "isinstance") (al7 X.K):=by
 intro U s σ H xs us Q I r h;obtain⟨a,C,v,rfl,⟨g,l,p⟩,hd,h⟩:=h;obtain⟨t,T,rfl,r1,j⟩:=zw.two r;cases (show t=Value.ref a from r1);obtain⟨he,_⟩:=(show xi X.prog X.w H s.heap a (.frz g<|.own 0) from I.hok a _ l);have ex:qC s.heap a C:=⟨g,he,p⟩;rcases h with⟨c,b,e,k,q⟩|⟨tp,ws,cs,b,rfl,J,e,k,q⟩
 ·cases rp e j;exact jq I.tk<|Bv (sE hd.at_ hd.cls) I.kIn ex k (λz=>nomatch z) λtk J=>⟨.bl b,H,I.tok _,rfl,q⟩
 ·cases (show T=Value.ref tp from j);obtain⟨a1,rv,⟨o,h1,h2,n,h3⟩,_⟩:=I.tuple J;cases uW e rv;obtain⟨oc,od,a2,a3⟩:=o;dsimp only at h2 h3;subst h2 h3;exact jq I.tk<|PySem.W.kia_tup (sE hd.at_ hd.cls) I.kIn ex h1 k (λz=>nomatch z) λtk J=>⟨.bl b,H,I.tok _,rfl,q⟩
def rG(H:Hp)(P:Addr)(q:Str):Prop:=∃ps,H P=some (.tbl ps)/\TriplesOk ps.toList/\∀pos I,codeAmong pos ps.toList=some I->∃c' oc vs t,I=.ref c'/\H c'=some (.frz oc<|.own 0)/\oc.data=.fields vs/\vs[1]?=some (.str q t)
theorem rG.keep{P:Addr}{q:Str}(h:rG H P q)(e:H' P=H P)(t:∀b o u,H b=some (.frz o u)->H' b=some (.frz o u)):rG H' P q:=by obtain⟨I,h1,h2,h3⟩:=h;refine⟨I,e.trans h1,h2,λpos J z=>?_⟩;obtain⟨U,g,j,l,p,r,C⟩:=h3 pos J z;exact⟨U,g,j,l,p,t _ _ _ r,C⟩
end L2
namespace L3
open PySem L2
inductive Y where
 |non|bl (b:Bool)|int (i:Int)|str (x:Str)|ref (a:Addr)|ty (n:String)|cd (kvs:List<|Str×Str)|tup (ys:List Y)|sq (ys:List Y)
inductive LO where
 |lst (ys:List Y)|dct (kvs:List<|jk×Y)|ins (C:Addr) (fs:List<|Str×Y)|exc (C:Addr)|tb (q:Str)
abbrev qr:=Addr->Option LO
def qj(L:qr)(a:Addr)(o:LO):qr:=λb=>if b=a then some o else L b
theorem q9{L:qr}{a:Addr}{o:LO}:qj L a o a=some o:=by unfold qj;rw[AA rfl]
theorem qg{L:qr}{a b:Addr}{o:LO}(h:b≠a):qj L a o b=L b:=by unfold qj;rw[Az h]
theorem jy{L:qr}{a:Addr}{o u:LO}:qj (qj L a o) a u=qj L a u:=by funext b;unfold qj;split<;>rfl
theorem aZ{L:qr}{a b:Addr}{o:LO}(h:L a=some o)(h':L b=none):a≠b:=by intro e;subst e;rw[h] at h';cases h'
structure G3 where
 K:Ah
 P:Program
 w:World
abbrev _root_.L2.Cx.g3(X:Cx):G3:=⟨X.K,X.prog,X.w⟩
def SqF(K:Ah)(H:Hp)(a:Addr)(xs:List V):Prop:=(∃o,H a=some (.frz o<|.lst xs))\/
 ∃(o:Obj) (eA:Array Value) (n:Nat),K.lookup a=some o/\o.cls=.type "list" /\ o.dict=none/\o.data=.seq eA n/\eA.size<=sizeLine/\zw xs eA.toList
theorem SqF.sq{K:Ah}{a:Addr}(h:SqF K H a xs):aI K H a xs:=by
 rcases h with⟨o,h⟩|h
 ·exact .inl<|.inr ⟨o,h⟩
 ·exact .inr h
mutual
def RV(G:G3)(H:Hp):Y->V->Prop
 |.non,v=>v=.non
 |.bl b,v=>v=.bl b
 |.int i,v=>v=.int i
 |.str x,v=>v=.str x
 |.ref a,v=>v=.ref a
 |.ty n,v=>v=.ty n
 |.cd kvs,v=>∃a,v=.ref a/\KD G.K G.P G.w a (kvs.map λp=>(Sum.inr p.1,V.str p.2))
 |.tup ys,v=>∃a xs,v=.ref a/\dU G.K H a xs/\v3 G H ys xs
 |.sq ys,v=>∃a xs,v=.ref a/\SqF G.K H a xs/\v3 G H ys xs
def v3(G:G3)(H:Hp):List Y->List V->Prop
 |[],xs=>xs=[]
 |y::ys,xs=>∃x I,xs=x::I/\RV G H y x/\v3 G H ys I
end
def Imm:HO->Bool
 |.tup _=>true
 |.frz _ _=>true
 |_=>false
def jj(H H':Hp):Prop:=∀a u,Imm u=true->H a=some u->H' a=some u
theorem jj.refl(H:Hp):jj H H:=λ_ _ _ h=>h
abbrev EL:=@jj.refl
theorem jj.trans{H1 H2:Hp}(a:jj H H1)(b:jj H1 H2):jj H H2:=λc u i h=>b c u i<|a c u i h
theorem jj.new{p:Addr}{o:HO}(h:H p=none):jj H (upd H p o):=λ_ _ _ q=>by rw[ql<|zn q h];exact q
abbrev EM:=@jj.new
theorem jj.lst{p:Addr}{o:HO}(h:H p=some (.lst zs)):jj H (upd H p o):=λa u i q=>by rw[ql ?_];exact q;rintro rfl;rw[h] at q;cases q;cases i
abbrev E5:=@jj.lst
theorem dU.ts{K:Ah}{a:Addr}(h:dU K H a xs)(t:jj H H'):dU K H' a xs:=by
 rcases h with(h|⟨o,h⟩)|h
 ·exact .inl<|.inl<|t _ _ rfl h
 ·exact .inl<|.inr ⟨o,t _ _ rfl h⟩
 ·exact .inr h
theorem SqF.ts{K:Ah}{a:Addr}(h:SqF K H a xs)(t:jj H H'):SqF K H' a xs:=by
 rcases h with⟨o,h⟩|h
 ·exact .inl ⟨o,t _ _ rfl h⟩
 ·exact .inr h
mutual
theorem RV.ts{G:G3}{H H':Hp}(t:jj H H'):∀{y:Y} {v:V},RV G H y v->RV G H' y v
 |.non,_,h=>h
 |.bl _,_,h=>h
 |.int _,_,h=>h
 |.str _,_,h=>h
 |.ref _,_,h=>h
 |.ty _,_,h=>h
 |.cd _,_,h=>h
 |.tup _,_,ψ=>(by obtain⟨a,I,e,s,r⟩:=ψ;exact ⟨a,I,e,dU.ts s t,v3.ts t r⟩)
 |.sq _,_,ψ=>(by obtain⟨a,I,e,s,r⟩:=ψ;exact ⟨a,I,e,s.ts t,v3.ts t r⟩)
theorem v3.ts{G:G3}{H H':Hp}(t:jj H H'):∀{ys:List Y} {xs:List V},v3 G H ys xs->v3 G H' ys xs
 |[],_,h=>h
 |_::_,_,ψ=>(by obtain⟨x,I,e,r,s⟩:=ψ;exact ⟨x,I,e,RV.ts t r,v3.ts t s⟩)
end
theorem v3.length{G:G3}{H:Hp}:∀{ys:List Y} {xs:List V},v3 G H ys xs->ys.length=xs.length
 |[],_,h=>by cases h;rfl
 |_::_,_,ψ=>by obtain⟨x,I,e,_,s⟩:=ψ;subst e;simp[v3.length s]
theorem v3.get{G:G3}{H:Hp}:∀{ys:List Y} {xs:List V} {i:Nat} {y:Y},v3 G H ys xs->ys[i]?=some y->∃x,xs[i]?=some x/\RV G H y x
 |[],_,_,_,_,h=>by simp at h
 |_::_,_,0,_,ψ,h=>by obtain⟨x,I,e,r,_⟩:=ψ;subst e;simp at h;subst h;exact⟨x,rfl,r⟩
 |_::_,_,i+1,_,ψ,h=>by obtain⟨x,I,e,_,s⟩:=ψ;subst e;obtain⟨J,q,r⟩:=v3.get (i:=i) s (by simpa using h);exact⟨J,by simpa using q,r⟩
theorem v3.app{G:G3}{H:Hp}:∀{ys zs:List Y} {xs us:List V},v3 G H ys xs->v3 G H zs us->v3 G H (ys++zs) (xs++us)
 |[],_,_,_,h,q=>by cases h;exact q
 |_::_,_,_,_,ψ,q=>by obtain⟨x,I,e,r,s⟩:=ψ;subst e;exact⟨x,I++_,rfl,r,v3.app s q⟩
theorem v3.one{G:G3}{y:Y}{x:V}(r:RV G H y x):v3 G H [y] [x]:=⟨x,[],rfl,r,rfl⟩
theorem v3.take{G:G3}{H:Hp}:∀{ys:List Y} {xs:List V} (n:Nat),v3 G H ys xs->v3 G H (ys.take n) (xs.take n)
 |[],_,n,h=>by cases h;simp[v3]
 |_::_,_,0,_=>by simp[v3]
 |_::_,_,n+1,ψ=>by obtain⟨x,I,e,r,s⟩:=ψ;subst e;exact⟨x,I.take n,rfl,r,v3.take n s⟩
theorem v3.drop{G:G3}{H:Hp}:∀{ys:List Y} {xs:List V} (n:Nat),v3 G H ys xs->v3 G H (ys.drop n) (xs.drop n)
 |[],_,n,h=>by cases h;simp[v3]
 |_::_,_,0,h=>h
 |_::_,_,n+1,ψ=>by obtain⟨x,I,e,r,s⟩:=ψ;subst e;exact v3.drop n s
theorem v3.setY{G:G3}{H:Hp}{y:Y}{x:V}(r:RV G H y x):∀{ys:List Y} {xs:List V} (i:Nat),v3 G H ys xs->v3 G H (ys.set i y) (xs.set i x)
 |[],_,_,h=>by cases h;simp[v3]
 |_::_,_,0,ψ=>by obtain⟨J,I,e,_,s⟩:=ψ;subst e;exact⟨x,I,rfl,r,s⟩
 |_::_,_,i+1,ψ=>by obtain⟨J,I,e,q,s⟩:=ψ;subst e;exact⟨J,I.set i x,rfl,q,v3.setY r i s⟩
theorem v3.eraseIdx{G:G3}{H:Hp}:∀{ys:List Y} {xs:List V} (n:Nat),v3 G H ys xs->v3 G H (ys.eraseIdx n) (xs.eraseIdx n)
 |[],_,n,h=>by cases h;simp[v3]
 |_::_,_,0,ψ=>by obtain⟨x,I,e,r,s⟩:=ψ;subst e;exact s
 |_::_,_,n+1,ψ=>by obtain⟨x,I,e,r,s⟩:=ψ;subst e;exact⟨x,I.eraseIdx n,rfl,r,v3.eraseIdx n s⟩
def RO(G:G3)(H:Hp)(a:Addr):LO->Prop
 |.lst ys=>∃xs,H a=some (.lst xs)/\v3 G H ys xs
 |.dct kvs=>∃xs,H a=some (.dK xs)/\Paired (λ(p:jk×Y) (q:jk×V)=>p.1=q.1/\RV G H p.2 q.2) kvs xs
 |.ins C fs=>∃dx xs,H a=some (.ins C dx xs)/\Paired (λ(p:Str×Y) (q:Str×V)=>p.1=q.1/\RV G H p.2 q.2) fs xs
 |.exc C=>ac6 G.K H a C
 |.tb q=>rG H a q
def ja(G:G3)(H:Hp)(L:qr):Prop:=∀a o,L a=some o->RO G H a o
theorem RO.ex{G:G3}{a:Addr}:∀{o:LO},RO G H a o->∃u,H a=some u
 |.lst _,ψ=>(by obtain⟨_,h,_⟩:=ψ;exact ⟨_,h⟩)
 |.dct _,ψ=>(by obtain⟨_,h,_⟩:=ψ;exact ⟨_,h⟩)
 |.ins _ _,ψ=>(by obtain⟨_,_,h,_⟩:=ψ;exact ⟨_,h⟩)
 |.exc _,ψ=>(by obtain⟨_,h,_⟩:=ψ;exact ⟨_,h⟩)
 |.tb _,ψ=>(by obtain⟨_,h,_⟩:=ψ;exact ⟨_,h⟩)
theorem ja.none{G:G3}{L:qr}(h:ja G H L){p:Addr}(I:H p=none):L p=none:=by cases e:L p with|none=>rfl|some o=>obtain⟨u,q⟩:=(h p o e).ex;rw[I] at q;cases q
theorem RO.keep{G:G3}(t:jj H H'){a:Addr}(e:H' a=H a):∀{o:LO},RO G H a o->RO G H' a o
 |.lst _,ψ=>(by obtain⟨I,h,r⟩:=ψ;exact ⟨I,e.trans h,r.ts t⟩)
 |.dct _,ψ=>(by obtain⟨I,h,r⟩:=ψ;exact ⟨I,e.trans h,ER r λ_ _ ψ=>(by obtain⟨a,b⟩:=ψ;exact ⟨a,b.ts t⟩)⟩)
 |.ins _ _,ψ=>(by obtain⟨J,I,h,r⟩:=ψ;exact ⟨J,I,e.trans h,ER r λ_ _ ψ=>(by obtain⟨a,b⟩:=ψ;exact ⟨a,b.ts t⟩)⟩)
 |.exc _,ψ=>(by obtain⟨o,h,c⟩:=ψ;exact ⟨o,e.trans h,c⟩)
 |.tb _,h=>rG.keep h e λb o u z=>t b _ rfl z
theorem ja.skip{G:G3}{L:qr}(h:ja G H L){p:Addr}{o:HO}(I:H p=.none):ja G (upd H p o) L:=λa u e=>by obtain⟨x,q⟩:=(h a u e).ex;exact(h a u e).keep (EM I) (ql<|zn q I)
theorem ja.newL{G:G3}{L:qr}(h:ja G H L){p:Addr}{ys:List Y}(I:H p=.none)(r:v3 G H ys xs):ja G (upd H p<|.lst xs) (qj L p<|.lst ys):=λa u e=>by
 by_cases c:a=p
 ·subst c;rw[q9] at e;cases e;exact⟨xs,zh,r.ts<|EM I⟩
 ·rw[qg c] at e;exact(h a u e).keep (EM I) (ql c)
theorem ja.setL{G:G3}{L:qr}(h:ja G H L){p:Addr}{ys:List Y}(I:H p=some (.lst zs))(r:v3 G H ys xs):ja G (upd H p<|.lst xs) (qj L p<|.lst ys):=λa u e=>by
 by_cases c:a=p
 ·subst c;rw[q9] at e;cases e;exact⟨xs,zh,r.ts<|E5 I⟩
 ·rw[qg c] at e;exact(h a u e).keep (E5 I) (ql c)
def qh(L L':qr):Prop:=∀a o,L a=some o->L' a=some o
theorem qh.refl(L:qr):qh L L:=λ_ _ h=>h
abbrev EK:=@qh.refl
theorem qh.trans{L L1 L2:qr}(a:qh L L1)(b:qh L1 L2):qh L L2:=λc o h=>b c o<|a c o h
theorem qh.new{L:qr}{p:Addr}{o:LO}(h:L p=none):qh L (qj L p o):=λa u e=>by rw[qg<|aZ e h];exact e
abbrev By:=@qh.new
theorem ja.sub{G:G3}{L L':qr}(h:ja G H L')(s:qh L L'):ja G H L:=λa o e=>h a o<|s a o e
abbrev jn:=List<|Option Y
structure xc(G:G3)(H:Hp)(σ:St)(τ:jn):Prop where
 len:σ.length=τ.length
 get:∀(i:Nat) y,τ[i]?=some (some y)->∃v,σ[i]?=some (some v)/\RV G H y v
theorem xc.ts{G:G3}{τ:jn}(h:xc G H σ τ)(t:jj H H'):xc G H' σ τ:=
 ⟨h.len,λi y e=>let ⟨v,a,b⟩:=h.get i y e;⟨v,a,b.ts t⟩⟩
theorem xc.set{G:G3}{τ:jn}(h:xc G H σ τ){v:V}{y:Y}(r:RV G H y v):xc G H (σ.set i<|some v) (τ.set i<|some y):=by
 refine⟨by simp[h.len],λj z e=>?_⟩;by_cases c:i=j
 ·subst c;have I:i<τ.length:=by
   by_cases q:i<τ.length
   ·exact q
   ·rw[B3 (by simp;omega)] at e;cases e
  rw[BF I] at e;cases e;exact⟨v,BF (by rw[h.len];exact I),r⟩
 ·rw[Bh c] at e ⊢;exact h.get j z e
theorem xc.more{G:G3}{τ:jn}(h:xc G H σ τ)(n:Nat):xc G H (σ++List.replicate n none) (τ++List.replicate n none):=by
 refine⟨by simp[h.len],λj z e=>?_⟩;by_cases c:j<τ.length
 ·rw[AB c] at e;rw[AB (by rw[h.len];exact c)];exact h.get j z e
 ·rw[Ap (by omega),Dm] at e;split at e<;>cases e
def aa4:jn->Nat->Option Y
 |[],_=>none
 |o::_,0=>o
 |_::r,i+1=>aa4 r i
theorem qL:∀(τ:jn) (i:Nat) {y:Y},aa4 τ i=some y->τ[i]?=some (some y)
 |[],_,_,h=>by cases h
 |o::_,0,_,h=>by simp[aa4] at h;simp[h]
 |_::r,i+1,_,h=>by simp only[Dn];exact qL r i h
abbrev YK:=Y->qr->Prop
abbrev xz:=jn->qr->YK->Prop
abbrev jL:=jn->qr->(Bool->qr->Prop)->Prop
abbrev f9:=jn->qr->(List Y->qr->Prop)->Prop
structure x6 where
 nx:jn->qr->Prop
 rt:YK
 bk:jn->qr->Prop:=λ_ _=>False
 ct:jn->qr->Prop:=λ_ _=>False
abbrev vt:=x6->jn->qr->Prop
abbrev l7:=Y->jn->qr->(jn->qr->Prop)->Prop
abbrev sh:=List Y->jn->qr->(jn->qr->Prop)->Prop
abbrev TI3:=jn->qr->(List Y->(qr->Prop)->qr->Prop)->Prop
abbrev oX:=Y->Y->qr->YK->Prop
def sP(G:G3)(H:Hp)(I:YK)(Q:VK):Prop:=∀v H' y L',jj H H'->ja G H' L'->RV G H' y v->I y L'->Q v H'
def y4(G:G3)(H:Hp)(I:Bool->qr->Prop)(Q:Bool->Hp->Prop):Prop:=∀b H' L',jj H H'->ja G H' L'->I b L'->Q b H'
def ap4(G:G3)(H:Hp)(I:List Y->qr->Prop)(Q:List V->Hp->Prop):Prop:=∀vs H' ys L',jj H H'->ja G H' L'->v3 G H' ys vs->I ys L'->Q vs H'
def nq(G:G3)(H:Hp)(I:jn->qr->Prop)(Q:St->Hp->Prop):Prop:=∀σ H' τ L',jj H H'->xc G H' σ τ->ja G H' L'->I τ L'->Q σ H'
theorem sP.ts{G:G3}{I:YK}{Q:VK}(h:sP G H I Q)(t:jj H H'):sP G H' I Q:=λv J y U g=>h v J y U<|t.trans g
theorem y4.ts{G:G3}{I:Bool->qr->Prop}{Q:Bool->Hp->Prop}(h:y4 G H I Q)(t:jj H H'):y4 G H' I Q:=λv J U g=>h v J U<|t.trans g
theorem nq.ts{G:G3}{I:jn->qr->Prop}{Q:St->Hp->Prop}(h:nq G H I Q)(t:jj H H'):nq G H' I Q:=λv J y U g=>h v J y U<|t.trans g
structure vA(G:G3)(H:Hp)(D3:x6)(D:m9):Prop where
 nx:nq G H D3.nx D.nx
 rt:sP G H D3.rt D.rt
 bk:nq G H D3.bk D.bk
 ct:nq G H D3.ct D.ct
theorem vA.ts{G:G3}{D3:x6}{D:m9}(h:vA G H D3 D)(t:jj H H'):vA G H' D3 D:=⟨h.nx.ts t,h.rt.ts t,h.bk.ts t,h.ct.ts t⟩
def lG(G:G3)(t:xz):TE:=λσ H Q=>∃τ L I,xc G H σ τ/\ja G H L/\t τ L I/\sP G H I Q
def upT(G:G3)(t:jL):TT:=λσ H Q=>∃τ L I,xc G H σ τ/\ja G H L/\t τ L I/\y4 G H I Q
def upA(G:G3)(t:f9):TA:=λσ H Q=>∃τ L I,xc G H σ τ/\ja G H L/\t τ L I/\ap4 G H I Q
def upS(G:G3)(t:vt):L2.TS:=λD σ H=>∃τ L D3,xc G H σ τ/\ja G H L/\t D3 τ L/\vA G H D3 D
def upG(G:G3)(g:l7):TG:=λv σ H Q=>∃y τ L I,RV G H y v/\xc G H σ τ/\ja G H L/\g y τ L I/\nq G H I Q
def as6(G:G3)(g:sh):TGs:=λvs σ H Q=>∃ys τ L I,v3 G H ys vs/\xc G H σ τ/\ja G H L/\g ys τ L I/\nq G H I Q
structure ie(G:G3)(H₀:Hp)(J:It)(ys:List Y)(keep:qr->Prop):Prop where
 go:∀i H L,jj H₀ H->ja G H L->keep L->i<ys.length->J.go i H
 yld:∀i H L x H' y,jj H₀ H->ja G H L->keep L->ys[i]?=some y->J.yld i H x H'->jj H H'/\ja G H' L/\RV G H' y x
 stop:∀H L,jj H₀ H->ja G H L->keep L->J.stop ys.length H
def upI(G:G3)(wi:TI3):TI:=λσ H R=>∃τ L I,xc G H σ τ/\ja G H L/\wi τ L I/\∀J H' ys keep L',jj H H'->ja G H' L'->ie G H' J ys keep->I ys keep L'->R J H'
def iO(G:G3)(U:oX):R2:=λx y H Q=>∃x3 I L J,RV G H x3 x/\RV G H I y/\ja G H L/\U x3 I L J/\sP G H J Q
def upL(G:G3)(J:List Y->qr->YK->Prop):List V->Hp->VK->Prop:=λxs H Q=>∃ys L I,v3 G H ys xs/\ja G H L/\J ys L I/\sP G H I Q
theorem PE.imp{t u:TE}(h:PE X e t)(q:∀σ H Q,u σ H Q->t σ H Q):PE X e u:=λJ s σ H Q I z=>h J s σ H Q I<|q σ H Q z
abbrev EX:=@PE.imp
theorem PE.imq{G:G3}{t:TE}{u:xz}(h:PE X e t)(q:∀σ H Q τ L I,xc G H σ τ->ja G H L->u τ L I->sP G H I Q->t σ H Q):PE X e (lG G u):=EX h λσ H Q ψ=>(by obtain⟨τ,L,I,a,b,c,d⟩:=ψ;exact q σ H Q τ L I a b c d)
abbrev EN:=@PE.imq
theorem PT.imp{t u:TT}(h:PT X e t)(q:∀σ H Q,u σ H Q->t σ H Q):PT X e u:=λJ s σ H Q I z=>h J s σ H Q I<|q σ H Q z
theorem PT.imq{G:G3}{t:TT}{u:jL}(h:PT X e t)(q:∀σ H Q τ L I,xc G H σ τ->ja G H L->u τ L I->y4 G H I Q->t σ H Q):PT X e (upT G u):=PT.imp h λσ H Q ψ=>(by obtain⟨τ,L,I,a,b,c,d⟩:=ψ;exact q σ H Q τ L I a b c d)
theorem PW.imp{t u:TT}(h:PW X e t)(q:∀σ H Q,u σ H Q->t σ H Q):PW X e u:=λU J s σ H Q I z=>h U J s σ H Q I<|q σ H Q z
theorem PW.imq{G:G3}{t:TT}{u:jL}(h:PW X e t)(q:∀σ H Q τ L I,xc G H σ τ->ja G H L->u τ L I->y4 G H I Q->t σ H Q):PW X e (upT G u):=PW.imp h λσ H Q ψ=>(by obtain⟨τ,L,I,a,b,c,d⟩:=ψ;exact q σ H Q τ L I a b c d)
theorem PA.imp{e:List Expr}{t u:TA}(h:PA X e t)(q:∀σ H Q,u σ H Q->t σ H Q):PA X e u:=λpos J s σ H Q I z=>h pos J s σ H Q I<|q σ H Q z
theorem PA.imq{G:G3}{e:List Expr}{t:TA}{u:f9}(h:PA X e t)(q:∀σ H Q τ L I,xc G H σ τ->ja G H L->u τ L I->ap4 G H I Q->t σ H Q):PA X e (upA G u):=PA.imp h λσ H Q ψ=>(by obtain⟨τ,L,I,a,b,c,d⟩:=ψ;exact q σ H Q τ L I a b c d)
theorem PS.imp{e:Stmt}{t u:L2.TS}(h:PS X e t)(q:∀D σ H,u D σ H->t D σ H):PS X e u:=λJ s σ H Q I z=>h J s σ H Q I<|q _ σ H z
theorem PS.imq{G:G3}{e:Stmt}{t:L2.TS}{u:vt}(h:PS X e t)(q:∀D σ H τ L D3,xc G H σ τ->ja G H L->u D3 τ L->vA G H D3 D->t D σ H):PS X e (upS G u):=PS.imp h λD σ H ψ=>(by obtain⟨τ,L,D3,a,b,c,d⟩:=ψ;exact q D σ H τ L D3 a b c d)
abbrev ES:=@PS.imq
theorem gl.imp{e:List Stmt}{t u:L2.TS}(h:gl X e t)(q:∀D σ H,u D σ H->t D σ H):gl X e u:=λJ s σ H Q I z=>h J s σ H Q I<|q _ σ H z
theorem gl.imq{G:G3}{e:List Stmt}{t:L2.TS}{u:vt}(h:gl X e t)(q:∀D σ H τ L D3,xc G H σ τ->ja G H L->u D3 τ L->vA G H D3 D->t D σ H):gl X e (upS G u):=gl.imp h λD σ H ψ=>(by obtain⟨τ,L,D3,a,b,c,d⟩:=ψ;exact q D σ H τ L D3 a b c d)
theorem PF.imp{e:List Expr}{t u:TT}(h:PF X e t)(q:∀σ H Q,u σ H Q->t σ H Q):PF X e u:=λJ s σ H Q I z=>h J s σ H Q I<|q σ H Q z
end L3
variable {g:L3.l7}{G:L3.G3}{y:L3.Y}{tA tc:L3.jL}{ta tb te to:L3.xz}{kvs:List<|L2.jk×L3.Y}{ys:List L3.Y}{L L' L0 L1:L3.qr}{τ:L3.jn}{gs:L3.sh}{bW c0 c1 c4 c5 c6 c7 c8 c9 jH:Option L3.Y}{En:L3.x6}
namespace L3
open PySem L2
def v4(b:Bool)(A B:Prop):Prop:=match b with
 |true=>A
 |false=>B
theorem ah1{b:Bool}{A B:Prop}(h:b=true->A)(k:b=false->B):v4 b A B:=by cases b with|true=>exact h rfl|false=>exact k rfl
theorem gH{b:Bool}{A B:Prop}(e:b=true)(h:A):v4 b A B:=by rw[e];exact h
theorem cN{b:Bool}{A B:Prop}(e:b=false)(h:B):v4 b A B:=by rw[e];exact h
theorem zg{p:Prop} [Decidable p]{A B:Prop}(h:p->A)(k:¬p->B):v4 (decide p) A B:=by
 by_cases c:p
 ·rw[AI c];exact h c
 ·rw[Ay c];exact k c
theorem mM{p:Prop} [Decidable p]{A B:Prop}(c:p)(h:A):v4 (decide p) A B:=by rw[AI c];exact h
theorem pQ{p:Prop} [Decidable p]{A B:Prop}(c:¬p)(h:B):v4 (decide p) A B:=by rw[Ay c];exact h
def nb(neg b:Bool):Bool:=match neg with
 |true=>!b
 |false=>b
def qc(i:Nat)(τ:jn)(L:qr)(Q:YK):Prop:=match aa4 τ i with
 |some y=>Q y L
 |none=>False
def yC(y:Y)(_:jn)(L:qr)(Q:YK):Prop:=Q y L
def x5(r:oX)(ta tb:xz)(τ:jn)(L:qr)(Q:YK):Prop:=ta τ L λx L1=>tb τ L1 λy L2=>r x y L2 Q
def yI(C:Int->Int->Prop)(g:Int->Int->Y)(x y:Y)(L:qr)(Q:YK):Prop:=match x,y with
 |.int i,.int j=>C i j/\Q (g i j) L
 |_,_=>False
def yI0(g:Int->Int->Y)(x y:Y)(L:qr)(Q:YK):Prop:=match x,y with
 |.int i,.int j=>Q (g i j) L
 |_,_=>False
def cj(L:qr):Y->Option (List Y)
 |.tup ys=>some ys
 |.sq ys=>some ys
 |.ref a=>match L a with
  |some (.lst ys)=>some ys
  |_=>none
 |_=>none
@[irreducible] def fM (L:qr) (a:Addr) (k:List Y->Prop):Prop:=match L a with
 |some (.lst ys)=>k ys
 |_=>False
theorem kn{a:Addr}{k:List Y->Prop}(h:fM L a k):∃ys,L a=some (.lst ys)/\k ys:=by
 unfold fM at h;split at h
 ·rename_i ys e;exact⟨ys,e,h⟩
 ·exact h.elim
theorem qp{a:Addr}{k:List Y->Prop}(e:L a=some (.lst ys))(h:k ys):fM L a k:=by unfold fM;rw[e];exact h
def mD(L:qr)(x:Y)(k:List Y->Prop):Prop:=match x with
 |.tup ys=>k ys
 |.sq ys=>k ys
 |.ref a=>fM L a k
 |_=>False
theorem wr{a:Addr}(h:L a=some (.lst ys)):cj L (.ref a)=some ys:=by show(match L a with|some (.lst ys)=>some ys|_=>none)=some ys;rw[h]
theorem bK{x:Y}{k:List Y->Prop}(h:mD L x k):∃ys,cj L x=some ys/\k ys:=by
 cases x with
 |tup ys=>exact⟨ys,rfl,h⟩
 |sq ys=>exact⟨ys,rfl,h⟩
 |ref a=>obtain⟨ys,e,q⟩:=kn h;exact⟨ys,wr e,q⟩
 |_=>exact h.elim
theorem oq{a:Addr}(h:cj L (.ref a)=some ys):L a=some (.lst ys):=by
 have I:(match L a with|some (.lst ys)=>some ys|_=>none)=some ys:=h;split at I
 ·rename_i e;cases I;exact e
 ·cases I
theorem agg{x:Y}{k:List Y->Prop}(e:cj L x=some ys)(h:k ys):mD L x k:=by cases x with|tup I=>cases e;exact h|sq I=>cases e;exact h|ref a=>exact qp (oq e) h|_=>cases e
theorem qb{a:Addr}{k:List Y->Prop}(e:L a=some (.lst ys))(h:k ys):mD L (.ref a) k:=agg (wr e) h
def dh(x y:Y)(L:qr)(Q:YK):Prop:=match x,y with
 |.int i,.int j=>Q (.int<|i+j) L
 |.str a,.str b=>a.length+b.length<=sizeLine/\Q (.str<|a++b) L
 |.ref a,.ref b=>∃ys zs,L a=some (.lst ys)/\L b=some (.lst zs)/\ys.length+zs.length<=sizeLine/\∀p,L p=none->Q (.ref p) (qj L p<|.lst<|ys++zs)
 |_,_=>False
def atK(L:qr)(Q:α->qr->Prop):Option α->Prop
 |some v=>Q v L
 |none=>False
def ko(kvs:List<|jk×Y)(k:jk):Option Y:=(kvs.find? λp=>decide<|p.1=k).map (·.2)
@[irreducible] def pU (L:qr) (a:Addr) (k:List (jk×Y)->Prop):Prop:=match L a with
 |some (.dct kvs)=>k kvs
 |_=>False
theorem gU{a:Addr}{k:List (jk×Y)->Prop}(h:pU L a k):∃kvs,L a=some (.dct kvs)/\k kvs:=by
 unfold pU at h;split at h
 ·rename_i I e;exact⟨I,e,h⟩
 ·exact h.elim
theorem vv{a:Addr}{k:List (jk×Y)->Prop}(e:L a=some (.dct kvs))(h:k kvs):pU L a k:=by unfold pU;rw[e];exact h
def cV(x y:Y)(L:qr)(Q:YK):Prop:=match x,y with
 |.str z,.int i=>z.length<=sizeLine/\atK L (λc L=>Q (.str ⟨#[c]⟩) L) (eZ z.cps.toList i)
 |.cd kvs,.str k=>atK L (λs L=>Q (.str s) L)<|kvs.lookup k
 |.ref a,.str k=>pU L a λkvs=>atK L Q<|ko kvs<|.inr k
 |x,.int i=>mD L x λys=>atK L Q<|eZ ys i
 |_,_=>False
def sv(xs:List Y)(L:qr)(Q:YK):Prop:=match xs with
 |[.str z]=>z.length<=sizeLine/\Q (.int z.length) L
 |[x]=>mD L x λys=>Q (.int ys.length) L
 |_=>False
def kD(xs:List Y)(L:qr)(Q:YK):Prop:=match xs with
 |[.int i,.int j]=>Q (.int<|max i j) L
 |_=>False
def oB(xs:List Y)(L:qr)(Q:YK):Prop:=match xs with
 |[.int i,.int j]=>Q (.int<|min i j) L
 |_=>False
inductive rT where
 |non|bool|int|str|tuple|list|dict
def rT.nm:rT->String
 |.non => "NoneType"
 |.bool => "bool"
 |.int => "int"
 |.str => "str"
 |.tuple => "tuple"
 |.list => "list"
 |.dict => "dict"
def tyY(L:qr):Y->Option rT
 |.non=>some .non
 |.bl _=>some .bool
 |.int _=>some .int
 |.str _=>some .str
 |.tup _=>some .tuple
 |.sq _=>some .list
 |.ref a=>match L a with
  |some (.lst _)=>some .list
  |some (.dct _)=>some .dict
  |_=>none
 |_=>none
theorem tyL{a:Addr}(h:L a=some (.lst ys)):tyY L (.ref a)=some .list:=by show(match L a with|some (.lst _)=>some rT.list|some (.dct _)=>some .dict|_=>none)=some .list;rw[h]
def aey:rT->rT->Bool
 |.bool,.int=>true
 |.bool,.bool=>true
 |.int,.int=>true
 |.str,.str=>true
 |.tuple,.tuple=>true
 |.list,.list=>true
 |.dict,.dict=>true
 |.non,.non=>true
 |_,_=>false
@[irreducible] def tyK (L:qr) (a:Addr) (k:rT->Prop):Prop:=match tyY L (.ref a) with
 |some T=>k T
 |none=>False
theorem agr{a:Addr}{k:rT->Prop}(h:tyK L a k):∃T,tyY L (.ref a)=some T/\k T:=by
 unfold tyK at h;split at h
 ·rename_i T e;exact⟨T,e,h⟩
 ·exact h.elim
theorem iE{a:Addr}{k:rT->Prop}(e:L a=some (.lst ys))(h:k .list):tyK L a k:=by unfold tyK;rw[tyL e];exact h
def aq9(L:qr)(x:Y)(k:rT->Prop):Prop:=match x with
 |.non=>k .non
 |.bl _=>k .bool
 |.int _=>k .int
 |.str _=>k .str
 |.tup _=>k .tuple
 |.sq _=>k .list
 |.ref a=>tyK L a k
 |_=>False
theorem abz{x:Y}{k:rT->Prop}(h:aq9 L x k):∃T,tyY L x=some T/\k T:=by cases x with|ref a=>exact agr h|ty n=>exact h.elim|cd k=>exact h.elim|_=>exact⟨_,rfl,h⟩
def aq3(S:rT)(te:xz)(τ:jn)(L:qr)(Q:YK):Prop:=te τ L λx L1=>aq9 L1 x λT=>Q (.bl<|aey T S) L1
def mG:Y->Bool
 |.non=>true
 |.bl _=>true
 |.int _=>true
 |.str _=>true
 |_=>false
def ak:Y->V
 |.non=>.non
 |.bl b=>.bl b
 |.int i=>.int i
 |.str x=>.str x
 |_=>.ty "?"
theorem RV.flat :∀{y:Y} {v:V},mG y=true->RV G H y v->v=ak y:=by intro y v e h;cases y<;>first|exact h|cases e
theorem gd:∀{y:Y},mG y=true->ai (ak y)=true
 |.non,_=>rfl
 |.bl _,_=>rfl
 |.int _,_=>rfl
 |.str _,_=>rfl
theorem v3.flat :∀{ys:List Y} {xs:List V},ys.all mG=true->v3 G H ys xs->xs=ys.map ak
 |[],_,_,h=>h
 |y::ys,_,f,ψ=>by obtain⟨x,I,e,r,s⟩:=ψ;rw[Ei,A6] at f;rw[e,r.flat f.1,s.flat f.2];rfl
def aiy:Y->Bool
 |.ref _=>true
 |.sq _=>true
 |_=>false
def x8(L:qr):Nat->Y->Da->Prop
 |0,y,d=>mG y=true/\d=.s (ak y)
 |n+1,y,d=>(mG y=true/\d=.s (ak y))\/(∃ys ds,y=.tup ys/\d=.tup ds/\Paired (x8 L n) ys ds)\/(∃ys ds,aiy y=true/\d=.lst ds/\cj L y=some ys/\Paired (x8 L n) ys ds)
def yi:Y->Bool
 |.ref _=>true
 |.tup _=>true
 |.sq _=>true
 |_=>false
def yEq(neg:Bool)(x y:Y)(L:qr)(Q:YK):Prop:=match x,y with
 |.int i,.int j=>Q (.bl<|nb neg<|decide<|i=j) L
 |.str i,.str j=>Q (.bl<|nb neg<|decide<|i=j) L
 |.bl i,.bl j=>Q (.bl<|nb neg<|decide<|i=j) L
 |x,y=>yi x=true/\yi y=true/\∃n m d e,n<=128/\x8 L n x d/\x8 L m y e/\Q (.bl<|nb neg<|Da.eq d e) L
def gp(neg:Bool)(ta:xz)(τ:jn)(L:qr)(Q:YK):Prop:=ta τ L λx L1=>match x with
 |.non=>Q (.bl<|!neg) L1
 |_=>Q (.bl neg) L1
def yB(t:xz)(τ:jn)(L:qr)(Q:Bool->qr->Prop):Prop:=t τ L λx L1=>match x with
 |.bl c=>Q c L1
 |_=>False
def tJ(t u:jL)(τ:jn)(L:qr)(Q:Bool->qr->Prop):Prop:=t τ L λc L1=>v4 c (u τ L1 Q)<|Q false L1
def yOr(t u:jL)(τ:jn)(L:qr)(Q:Bool->qr->Prop):Prop:=t τ L λc L1=>v4 c (Q true L1)<|u τ L1 Q
def nX(t:jL)(τ:jn)(L:qr)(Q:Bool->qr->Prop):Prop:=t τ L λc L1=>Q (!c) L1
def apc(ta tb:xz)(τ:jn)(L:qr)(Q:YK):Prop:=ta τ L λx L1=>match x with
 |.bl c=>v4 c (tb τ L1 Q)<|Q (.bl false) L1
 |_=>False
def ao1(ta:xz)(τ:jn)(L:qr)(Q:YK):Prop:=ta τ L λx L1=>match x with
 |.bl c=>Q (.bl<|!c) L1
 |_=>False
def yIf(t:jL)(ta tb:xz)(τ:jn)(L:qr)(Q:YK):Prop:=t τ L λc L1=>v4 c (ta τ L1 Q)<|tb τ L1 Q
def jb(_:jn)(L:qr)(Q:List Y->qr->Prop):Prop:=Q [] L
def qi(ta:xz)(tr:f9)(τ:jn)(L:qr)(Q:List Y->qr->Prop):Prop:=ta τ L λx L1=>tr τ L1 λxs L2=>Q (x::xs) L2
def kc(t:f9)(τ:jn)(L:qr)(Q:YK):Prop:=t τ L λys L1=>match Nat.ble ys.length 1000 with
 |true=>Q (.tup ys) L1
 |false=>False
def io(t:f9)(τ:jn)(L:qr)(Q:YK):Prop:=t τ L λys L1=>match Nat.ble ys.length 1000 with
 |true=>∀p,L1 p=none->Q (.ref p) (qj L1 p<|.lst ys)
 |false=>False
def af(r:List Y->qr->YK->Prop)(t:f9)(τ:jn)(L:qr)(Q:YK):Prop:=t τ L λvs L1=>r vs L1 Q
abbrev TO3:=jn->qr->(Option Int->qr->Prop)->Prop
def gw(_:jn)(L:qr)(Q:Option Int->qr->Prop):Prop:=Q none L
def rf(t:xz)(τ:jn)(L:qr)(Q:Option Int->qr->Prop):Prop:=t τ L λx L1=>match x with
 |.int i=>Q (some i) L1
 |_=>False
def gM(xs:List Y)(lo hi:Option Int):List Y:=(xs.drop<|HT.sIx xs.length 0 lo).take<|HT.sIx xs.length xs.length hi-HT.sIx xs.length 0 lo
def aor(x:Y)(lo hi:Option Int)(L:qr)(Q:YK):Prop:=match x with
 |.ref a=>fM L a λys=>∀p,L p=none->Q (.ref p) (qj L p<|.lst<|gM ys lo hi)
 |.sq ys=>∀p,L p=none->Q (.ref p) (qj L p<|.lst<|gM ys lo hi)
 |_=>False
def ySl(r:Y->Option Int->Option Int->qr->YK->Prop)(te:xz)(tl th:TO3)(τ:jn)(L:qr)(Q:YK):Prop:=te τ L λx L1=>tl τ L1 λl L2=>th τ L2 λu L3=>r x l u L3 Q
def zj(t u:vt)(D:x6)(τ:jn)(L:qr):Prop:=t { D with nx:=u D } τ L
def kh(D:x6)(τ:jn)(L:qr):Prop:=D.nx τ L
def anr(D:x6)(τ:jn)(L:qr):Prop:=D.ct τ L
def xt(te:xz)(D:x6)(τ:jn)(L:qr):Prop:=te τ L λ_ L1=>D.nx τ L1
def wc(te:xz)(D:x6)(τ:jn)(L:qr):Prop:=te τ L D.rt
def ain(D:x6)(_:jn)(L:qr):Prop:=D.rt .non L
def wx(c:jL)(t u:vt)(D:x6)(τ:jn)(L:qr):Prop:=c τ L λb L1=>v4 b (t D τ L1)<|u D τ L1
def jz(te:xz)(g:l7)(D:x6)(τ:jn)(L:qr):Prop:=te τ L λx L1=>g x τ L1 D.nx
def dz:jn->Nat->Y->jn
 |[],_,_=>[]
 |_::r,0,y=>some y::r
 |o::r,i+1,y=>o::dz r i y
theorem am:∀(τ:jn) (i:Nat) (y:Y),dz τ i y=τ.set i (some y)
 |[],_,_=>rfl
 |_::_,0,_=>rfl
 |o::r,i+1,y=>by rw[dz,am r i y];rfl
def qo(i:Nat)(y:Y)(τ:jn)(L:qr)(Q:jn->qr->Prop):Prop:=Q (dz τ i y) L
def hU(ys:List Y)(τ:jn)(L:qr)(Q:jn->qr->Prop):Prop:=match ys with
 |[]=>Q τ L
 |_=>False
def vz(t:l7)(u:sh)(ys:List Y)(τ:jn)(L:qr)(Q:jn->qr->Prop):Prop:=match ys with
 |[]=>False
 |y::r=>t y τ L λI L'=>u r I L' Q
def jS(n:Nat)(t:sh)(y:Y)(τ:jn)(L:qr)(Q:jn->qr->Prop):Prop:=match y with
 |.tup ys=>match ys.length==n with
  |true=>t ys τ L Q
  |false=>False
 |_=>False
def afn(i j:Nat)(ta:f9)(D:x6)(τ:jn)(L:qr):Prop:=ta τ L λvs L1=>match vs with
 |[v,w]=>D.nx (dz (dz τ i v) j w) L1
 |_=>False
def dk(W:α->qr->Prop)(x:α)(L:qr):Prop:=∃L',qh L' L/\W x L'
theorem frg{W:α->qr->Prop}{x:α}(h:W x L):dk W x L:=⟨L,EK L,h⟩
def akf(c:jL)(tb:vt)(D:x6)(τ:jn)(L:qr):Prop:=∃W:Nat->jn->qr->Prop,(∃m,W m τ L)/\∀m τ L,W m τ L->
 c τ L λb L1=>v4 b (∃N:jn->qr->Prop,(∀I L',N I L'->∃J,J<m/\W J I L')/\tb { D with nx:=dk N,ct:=dk N,bk:=D.nx } τ L1)<|D.nx τ L1
@[irreducible] def wI (ys:List Y) (keep:qr->Prop) (g:l7) (tb:vt) (D:x6) (τ:jn) (L1:qr):Prop:=∃W:Nat->jn->qr->Prop,W 0 τ L1/\(∀i τ L,W i τ L->keep L)/\
 (∀i y τ L,ys[i]?=some y->W i τ L->g y τ L λI L2=>tb { D with nx:=dk<|W<|i+1,ct:=dk<|W<|i+1,bk:=D.nx } I L2)/\∀τ L,W ys.length τ L->D.nx τ L
theorem kw{keep:qr->Prop}{tb:vt}{D:x6}(h:∃W:Nat->jn->qr->Prop,W 0 τ L1/\(∀i τ L,W i τ L->keep L)/\
 (∀i y τ L,ys[i]?=some y->W i τ L->g y τ L λI L2=>tb { D with nx:=dk<|W<|i+1,ct:=dk<|W<|i+1,bk:=D.nx } I L2)/\∀τ L,W ys.length τ L->D.nx τ L):wI ys keep g tb D τ L1:=by unfold wI;exact h
theorem adp{keep:qr->Prop}{tb:vt}{D:x6}(h:wI ys keep g tb D τ L1):∃W:Nat->jn->qr->Prop,W 0 τ L1/\(∀i τ L,W i τ L->keep L)/\
 (∀i y τ L,ys[i]?=some y->W i τ L->g y τ L λI L2=>tb { D with nx:=dk<|W<|i+1,ct:=dk<|W<|i+1,bk:=D.nx } I L2)/\∀τ L,W ys.length τ L->D.nx τ L:=by unfold wI at h;exact h
def m8(wi:TI3)(g:l7)(tb:vt)(D:x6)(τ:jn)(L:qr):Prop:=wi τ L λys keep L1=>wI ys keep g tb D τ L1
@[irreducible] def uK (L:qr) (a:Addr) (R:List Y->(qr->Prop)->qr->Prop):Prop:=match L a with
 |some (.lst ys)=>R ys (λL=>L a=some (.lst ys)) L
 |_=>False
theorem kz{a:Addr}{R:List Y->(qr->Prop)->qr->Prop}(h:L a=some (.lst ys))(q:∀keep:qr->Prop,(∀L',L' a=L a->keep L')->R ys keep L):uK L a R:=by unfold uK;rw[h];exact q _ λL' I=>I.trans h
theorem sg{a:Addr}{R:List Y->(qr->Prop)->qr->Prop}(h:uK L a R):∃ys keep,cj L (.ref a)=some ys/\keep L/\(∀L',keep L'->cj L' (.ref a)=some ys)/\R ys keep L:=by
 unfold uK at h;split at h
 ·rename_i ys e;exact⟨ys,_,wr e,e,λL' I=>wr I,h⟩
 ·exact h.elim
def dM(tl:xz)(τ:jn)(L:qr)(R:List Y->(qr->Prop)->qr->Prop):Prop:=tl τ L λx L1=>match x with
 |.ref a=>uK L1 a R
 |.sq ys=>R ys (λ_=>True) L1
 |_=>False
def adq(tl:xz)(τ:jn)(L:qr)(R:List Y->(qr->Prop)->qr->Prop):Prop:=tl τ L λx L1=>match x with
 |.tup ys=>R ys (λ_=>True) L1
 |_=>False
def aj(lo:Int)(n:Nat):List Y:=(List.range n).map λk=>.int<|lo+(k:Nat)
def pW(ta:f9)(τ:jn)(L:qr)(R:List Y->(qr->Prop)->qr->Prop):Prop:=ta τ L λvs L1=>match vs with
 |[.int j]=>(-(2 ^ 62)<=j/\j<2 ^ 62)/\R (aj 0 j.toNat) (λ_=>True) L1
 |_=>False
def asv(_:jn)(L:qr)(Q:Bool->qr->Prop):Prop:=Q true L
@[irreducible] def lcK (ys:List Y) (keep:qr->Prop) (n:Nat) (g:l7) (tc:jL) (te:xz) (τ:jn) (L1:qr) (Q:YK):Prop:=ys.length<sizeLine/\∃W:Nat->List Y->qr->Prop,W 0 [] L1/\(∀i zs L,W i zs L->keep L)/\
 (∀i y zs L,ys[i]?=some y->W i zs L->g y (τ++List.replicate n none) L λI L2=>tc I L2 λb L3=>v4 b (te I L3 λz J=>dk (W<|i+1) (zs++[z]) J)<|dk (W<|i+1) zs L3)/\
 ∀zs L,W ys.length zs L->∀p,L p=none->Q (.ref p) (qj L p<|.lst zs)
theorem ajz{keep:qr->Prop}{Q:YK}(h:ys.length<sizeLine/\∃W:Nat->List Y->qr->Prop,W 0 [] L1/\(∀i zs L,W i zs L->keep L)/\
 (∀i y zs L,ys[i]?=some y->W i zs L->g y (τ++List.replicate n none) L λI L2=>tc I L2 λb L3=>v4 b (te I L3 λz J=>dk (W<|i+1) (zs++[z]) J)<|dk (W<|i+1) zs L3)/\
 ∀zs L,W ys.length zs L->∀p,L p=none->Q (.ref p) (qj L p<|.lst zs)):lcK ys keep n g tc te τ L1 Q:=by unfold lcK;exact h
theorem ahh{keep:qr->Prop}{Q:YK}(h:lcK ys keep n g tc te τ L1 Q):ys.length<sizeLine/\∃W:Nat->List Y->qr->Prop,W 0 [] L1/\(∀i zs L,W i zs L->keep L)/\
 (∀i y zs L,ys[i]?=some y->W i zs L->g y (τ++List.replicate n none) L λI L2=>tc I L2 λb L3=>v4 b (te I L3 λz J=>dk (W<|i+1) (zs++[z]) J)<|dk (W<|i+1) zs L3)/\
 ∀zs L,W ys.length zs L->∀p,L p=none->Q (.ref p) (qj L p<|.lst zs):=by unfold lcK at h;exact h
def yLC(n:Nat)(wi:TI3)(g:l7)(tc:jL)(te:xz)(τ:jn)(L:qr)(Q:YK):Prop:=wi τ L λys keep L1=>lcK ys keep n g tc te τ L1 Q
abbrev zp:=List Y->qr->YK->Prop
def xh(sp:zp)(t:f9)(τ:jn)(L:qr)(Q:YK):Prop:=t τ L λys L1=>sp ys L1 Q
def zv(x:Y)(vs:List Y)(L:qr)(Q:YK):Prop:=match x,vs with
 |.ref a,[v]=>fM L a λys=>ys.length<sizeLine/\Q .non (qj L a<|.lst<|ys++[v])
 |_,_=>False
theorem we.imp{f:Value->Value->Sem Value}{r U:R2}(h:we X f r)(q:∀x y H Q,U x y H Q->r x y H Q):we X f U:=λJ s g H x y v u Q I j l z=>h J s g H x y v u Q I j l<|q x y H Q z
theorem we.imq{f:Value->Value->Sem Value}{r:R2}{u:oX}(h:we X f r)(q:∀x y H Q x3 I L J,RV G H x3 x->RV G H I y->ja G H L->u x3 I L J->sP G H J Q->r x y H Q):we X f (iO G u):=we.imp h λx y H Q ψ=>(by obtain⟨x3,I,L,J,a,b,c,d,e⟩:=ψ;exact q x y H Q x3 I L J a b c d e)
abbrev E6:=@we.imq
theorem jo.imp{f:Value}{r U:List V->Hp->VK->Prop}(h:jo X f r)(q:∀x H Q,U x H Q->r x H Q):jo X f U:=λJ s g H x v Q I j z=>h J s g H x v Q I j<|q x H Q z
theorem jo.imq{f:Value}{r:List V->Hp->VK->Prop}{u:List Y->qr->YK->Prop}(h:jo X f r)(q:∀xs H Q ys L I,v3 G H ys xs->ja G H L->u ys L I->sP G H I Q->r xs H Q):jo X f (upL G u):=jo.imp h λxs H Q ψ=>(by obtain⟨ys,L,I,a,b,c,d⟩:=ψ;exact q xs H Q ys L I a b c d)
abbrev EZ:=@jo.imq
theorem IxR.imp{r U:R2}(h:IxR X r)(q:∀x y H Q,U x y H Q->r x y H Q):IxR X U:=λvalue slice J s g H x y v u Q I j l z=>h value slice J s g H x y v u Q I j l<|q x y H Q z
theorem oh.imp{id:String}{r U:V->List V->Hp->VK->Prop}(h:oh X id r)(q:∀x xs H Q,U x xs H Q->r x xs H Q):oh X id U:=λJ s g H x xs v j Q I l o z=>h J s g H x xs v j Q I l o<|q x xs H Q z
theorem lL{v:V}(U:ja G H L)(r:RV G H y v)(h:cj L y=some ys):∃p xs,v=.ref p/\(aI G.K H p xs\/dU G.K H p xs)/\v3 G H ys xs:=by
 cases y with
 |tup J=>
  obtain⟨a,xs,e,s,q⟩:=r;cases h;exact⟨a,xs,e,.inr s,q⟩
 |sq J=>
  obtain⟨a,xs,e,s,q⟩:=r;cases h;exact⟨a,xs,e,.inl s.sq,q⟩
 |ref a=>
  cases (show v=.ref a from r);have I:(match L a with|some (.lst ys)=>some ys|_=>none)=some ys:=h;split at I
  ·rename_i J e;cases I;obtain⟨xs,g,q⟩:=U a _ e;exact⟨a,xs,rfl,.inl<|aI.of g,q⟩
  ·cases I
 |_=>cases h
theorem ajk{i:Int}(s:v3 G H ys xs)(h:eZ ys i=some y):∃x,eZ xs i=some x/\RV G H y x:=by
 unfold eZ at h ⊢;rw[<-s.length];cases e:ym ys.length i with
 |none=>rw[e] at h;cases h
 |some j=>
  rw[e] at h;exact s.get (i:=j) h
section
variable {a b c:Expr}{tc:xz}
abbrev QE(X:Cx)(e:Expr)(t:xz):Prop:=PE X e<|lG X.g3 t
abbrev QT(X:Cx)(e:Expr)(t:jL):Prop:=PT X e<|upT X.g3 t
abbrev QW(X:Cx)(e:Expr)(t:jL):Prop:=PW X e<|upT X.g3 t
abbrev QA(X:Cx)(es:List Expr)(t:f9):Prop:=PA X es<|upA X.g3 t
abbrev QS(X:Cx)(st:Stmt)(t:vt):Prop:=PS X st<|upS X.g3 t
abbrev nv(X:Cx)(st:List Stmt)(t:vt):Prop:=gl X st<|upS X.g3 t
abbrev QG(X:Cx)(e:Expr)(g:l7):Prop:=PG X e<|upG X.g3 g
abbrev QGs(X:Cx)(es:List Expr)(g:sh):Prop:=PGs X es<|as6 X.g3 g
abbrev QI(X:Cx)(tg it:Expr)(w:TI3):Prop:=PI X tg it<|upI X.g3 w
abbrev QF(X:Cx)(es:List Expr)(t:jL):Prop:=PF X es<|upT X.g3 t
theorem QE.of_var(h:PE X e<|ak9 i):QE X e (qc i):=EN h λj H Q l L o I J z k=>by
 unfold qc at z;split at z
 ·rename_i y U;obtain⟨v,ev,g⟩:=I.get i y<|qL _ _ U;exact⟨v,ev,k v H y L (EL _) J g z⟩
 ·exact z.elim
theorem QE.of_c{v:V}(h:PE X e<|tC v)(q:∀H,RV X.g3 H y v):QE X e (yC y):=EN h λJ H Q U L g j I z k=>k v H y L (EL _) I (q H) z
theorem qv(i:Nat)(hN:X.N[i]?=some x:=by rfl)(J:Vis X.env.scope x:=by first|exact Or.inl rfl|exact Or.inr (Or.inl rfl)|exact Or.inr<|Or.inr rfl)(hd:Fb x:=by decide)
 (I:Fc x:=by decide):QE X (.Name x pos) (qc i):=QE.of_var<|pv i hN J hd I
theorem a6 :QE X (.Constant .none j pos) (yC .non):=QE.of_c ajy λ_=>rfl
theorem bX{b:Bool} :QE X (.Constant (.bool b) j pos) (yC<|.bl b):=QE.of_c apf λ_=>rfl
theorem qd{i:Int} :QE X (.Constant (.int i) j pos) (yC<|.int i):=QE.of_c al1 λ_=>rfl
theorem jv :QE X (.Constant (.str x) j pos) (yC<|.str x):=QE.of_c dH λ_=>rfl
theorem ap8{c:Addr}(I:Gl X x)(J:X.mg x=some (.ref c))(q:∀H,RV X.g3 H y<|.ref c)(hd:Fb x:=by decide):QE X (.Name x pos) (yC y):=QE.of_c (aiw I J hd) q
theorem xC{r:oX}(σ:St)(H:Hp)(Q:VK):lG G (x5 r ta tb) σ H Q->tOp (iO G r) (lG G ta) (lG G tb) σ H Q:=λ ψ=>by
 obtain⟨j,L,t,l,C,z,k⟩:=ψ
 exact ⟨j,L,_,l,C,z,λv H1 y T o I J z1=>⟨j,T,_,l.ts o,I,z1,λv2 H2 y2 L2 p U g z2=>⟨y,y2,L2,t,J.ts p,g,U,z2,k.ts<|o.trans p⟩⟩⟩
theorem qk{op:Operator}{r:oX}(h:we X (binaryOp op)<|iO X.g3 r)(I:QE X a ta)(J:QE X b tb):QE X (.BinOp a op b pos) (x5 r ta tb):=EX (aoj h I J) xC
theorem an6{r:oX}(h:IxR X<|iO X.g3 r)(I:QE X a ta)(J:QE X b tb)(U:rF b):QE X (.Subscript a b pos) (x5 r ta tb):=EX (ao6 h I J U) xC
theorem kG{op:CmpOp}{r:oX}(h:we X (compareOp op)<|iO X.g3 r)(I:QE X a ta)(J:QE X b tb)(U:behindInMarks op b=false):QE X (.Compare a [op] [b] pos) (x5 r ta tb):=EX (af9 h I J U) xC
theorem am6{t:xz}(σ:St)(H:Hp)(Q:Bool->Hp->Prop):upT G (yB t) σ H Q->aci (lG G t) σ H Q:=λ ψ=>by
 obtain⟨g,L,C,j,l,z,k⟩:=ψ
 exact ⟨g,L,_,j,l,z,λv o y p r I J U=>by cases y with|bl b=>exact⟨b,J,k b o p r I U⟩|_=>exact U.elim⟩
theorem aip{t:xz}(σ:St)(H:Hp)(Q:Bool->Hp->Prop):upT G (yB t) σ H Q->L2.tB (lG G t) σ H Q:=am6 σ H Q
theorem j8{op:CmpOp}{r:oX}(h:we X (compareOp op)<|iO X.g3 r)(J:QE X a ta)(U:QE X b tb)(g:behindInMarks op b=false):QT X (.Compare a [op] [b] pos) (yB<|x5 r ta tb):=
 PT.imp (agh h J U g) λI H Q q=>by have j:=am6 I H Q q;obtain⟨l,L,o,p,t,z,k⟩:=j;exact xC I H _ ⟨l,L,o,p,t,z,k⟩
theorem w6(h:QE X e te)(I:∀whole,isTrue e X.env whole=(do let v <-whole;standAt e.pos;holding [v] (truthy v)):=by intro _;rfl):QT X e (yB te):=PT.imp (aku h I) aip
theorem OpI{f:Value->Value->Sem Value}{C:Int->Int->Prop}{g:Int->Int->V}{g3:Int->Int->Y}(h:we X f<|rI C g)(e:∀i j H,RV X.g3 H (g3 i j)<|g i j):we X f (iO X.g3<|yI C g3):=E6 h λx y H Q J I L p U l o z k=>by
 cases J with
 |int i=>
  cases I with|int j=>exact⟨i,j,U,l,z.1,k _ H _ L (EL _) o (e i j H) z.2⟩|_=>exact z.elim
 |_=>cases I<;>exact z.elim
theorem ahu{f:Value->Value->Sem Value}{g:Int->Int->V}{g3:Int->Int->Y}(h:we X f<|rI0 g)(e:∀i j H,RV X.g3 H (g3 i j)<|g i j):we X f (iO X.g3<|yI0 g3):=E6 h λx y H Q J I L p U l o z k=>by
 cases J with
 |int i=>
  cases I with|int j=>exact⟨i,j,U,l,k _ H _ L (EL _) o (e i j H) z⟩|_=>exact z.elim
 |_=>cases I<;>exact z.elim
theorem ag:we X (binaryOp .Sub) (iO X.g3<|yI0 λi j=>.int<|i-j):=ahu alk λ_ _ _=>rfl
theorem gi:we X (binaryOp .Mult) (iO X.g3<|yI abt λi j=>.int<|i*j):=OpI aks λ_ _ _=>rfl
theorem xo:we X (binaryOp .FloorDiv) (iO X.g3<|yI amc λi j=>.int<|i / j):=OpI age λ_ _ _=>rfl
theorem jl:we X (binaryOp .Mod) (iO X.g3<|yI (λ_ j=>0<j) λi j=>.int<|i % j):=OpI akm λ_ _ _=>rfl
theorem qJ:we X (compareOp .Lt) (iO X.g3<|yI0 λi j=>.bl<|decide<|i<j):=ahu aod λ_ _ _=>rfl
theorem aoh:we X (compareOp .LtE) (iO X.g3<|yI0 λi j=>.bl<|decide<|i<=j):=ahu apv λ_ _ _=>rfl
theorem zR:we X (compareOp .Gt) (iO X.g3<|yI0 λi j=>.bl<|decide<|j<i):=ahu aob λ_ _ _=>rfl
theorem jr:we X (binaryOp .Add) (iO X.g3 dh):=E6 ah0 λx y H Q t J L Q3 U g I z k=>by
 cases t with
 |int i=>
  cases J with|int j=>cases U;cases g;exact k _ H _ L (EL _) I (by rfl) z|_=>exact z.elim
 |str i=>
  cases J with|str j=>cases U;cases g;exact⟨z.1,k _ H _ L (EL _) I (by rfl) z.2⟩|_=>exact z.elim
 |ref a=>
  cases J with
  |ref b=>
   cases U;cases g;obtain⟨ys,zs,C,T,hz,q⟩:=z;obtain⟨xs,h1,o⟩:=I a _ C;obtain⟨us,h2,r⟩:=I b _ T;refine⟨xs,us,h1,h2,by rw[<-o.length,<-r.length];exact hz,λp l=>?_⟩;exact k _ _ _ _ (EM l) (I.newL l<|o.app r) (by rfl)<|q p<|I.none l
  |_=>exact z.elim
 |_=>cases J<;>exact z.elim
theorem rm{kvs:List<|Str×Str}{k:Str}(h:kvs.lookup k=some x):bU (kvs.map λp=>((Sum.inr p.1:jk),V.str p.2)) (Sum.inr k)=some (V.str x):=by
 induction kvs with
 |nil=>simp at h
 |cons p r I=>
  obtain⟨a,b⟩:=p;unfold bU;rw[AF,BH];rw[BJ] at h;by_cases c:k=a
  ·subst c;simp at h;simp[h]
  ·have c1:(k==a)=false:=by simpa using c
   rw[c1] at h;have c2:decide ((Sum.inr a:jk)=Sum.inr k)=false:=Ay λz=>c (Sum.inr.inj z).symm;simp only[c2];exact I h
theorem pI{xs:List<|jk×V}{k:jk}(p:Paired (λ(p:jk×Y) (q:jk×V)=>p.1=q.1/\RV G H p.2 q.2) kvs xs)(h:ko kvs k=some y):∃x,bU xs k=some x/\RV G H y x:=by
 induction p with
 |nil=>cases h
 |@cons a b _ _ r t U=>
  obtain⟨I,l⟩:=a;obtain⟨g,j⟩:=b;obtain⟨e,r⟩:=r;cases (show I=g from e);unfold ko at h;unfold bU;rw[BH] at h ⊢;by_cases c:I=k
  ·have J:decide (I=k)=true:=AI c;simp only[J] at h ⊢;cases h;exact⟨j,rfl,r⟩
  ·have J:decide (I=k)=false:=Ay c;simp only[J] at h ⊢;exact U h
theorem ap2(K:Ah)(P:Program)(w:World)(hK:X.K=K:=by rfl)(hP:X.prog=P:=by rfl)(hw:X.w=w:=by rfl):IxR X (iO ⟨K,P,w⟩ cV):=by
 subst hK hP hw;refine IxR.imp atp λx y H Q ψ=>?_;obtain⟨x3,j,L,Q3,I,l,o,z,k⟩:=ψ;have seq:∀{i:Int} {x3:Y},RV X.g3 H x3 x->y=.int i->(mD L x3 λg=>atK L Q3<|eZ g i)->uIx X.K X.prog X.w x y H Q:=by
  intro i x3 I ey z;subst ey;obtain⟨g,es,z⟩:=bK z;obtain⟨p,C,e,sq,rv⟩:=lL o I es;subst e;cases ea:eZ g i with
  |none=>rw[ea] at z;exact z.elim
  |some y=>
   rw[ea] at z;obtain⟨x,ex,T⟩:=ajk rv ea;exact⟨C,x,sq,ex,k _ H _ L (EL _) o T z⟩
 cases x3 with
 |str s=>
  cases j with
  |int i=>
   cases I;cases l;obtain⟨z1,r⟩:=z;cases ea:eZ s.cps.toList i with
   |none=>rw[ea] at r;exact r.elim
   |some c=>rw[ea] at r;exact⟨z1,c,ea,k _ H _ L (EL _) o (by rfl) r⟩
  |_=>exact z.elim
 |cd J=>
  cases j with
  |str s=>
   obtain⟨a,ea,kd⟩:=I;cases ea;cases l;have U:atK L (λs L=>Q3 (.str s) L) (J.lookup s):=z;cases el:J.lookup s with
   |none=>rw[el] at U;exact U.elim
   |some t=>rw[el] at U;exact⟨_,_,.inr kd,rm el,k _ H _ L (EL _) o (by rfl) U⟩
  |int i=>exact z.elim
  |_=>exact z.elim
 |ref a=>
  cases j with
  |int i=>exact seq (x3:=.ref a) I l z
  |str s=>
   cases I;cases l;obtain⟨J,e,U⟩:=gU z;obtain⟨C,e2,pr⟩:=o a _ e;cases ev:ko J (Sum.inr s) with
   |none=>rw[ev] at U;exact U.elim
   |some y=>
    rw[ev] at U;obtain⟨x,ex,I⟩:=pI pr ev;exact⟨C,x,.inl<|.inl e2,ex,k _ H _ L (EL _) o I U⟩
  |_=>exact z.elim
 |tup g=>
  cases j with|int i=>exact seq (x3:=.tup g) I l z|_=>exact z.elim
 |sq g=>
  cases j with|int i=>exact seq (x3:=.sq g) I l z|_=>exact z.elim
 |_=>cases j<;>exact z.elim
theorem v3.inv1(h:v3 G H [y] xs):∃x,xs=[x]/\RV G H y x:=by obtain⟨x,I,e,r,s⟩:=h;cases (show I=[] from s);exact⟨x,e,r⟩
theorem v3.inv2{J:Y}(h:v3 G H [y,J] xs):∃x I,xs=[x,I]/\RV G H y x/\RV G H J I:=by obtain⟨x,U,e,r,s⟩:=h;obtain⟨I,g,j⟩:=s.inv1;exact⟨x,I,by rw[e,g],r,j⟩
theorem ajl(K:Ah)(P:Program)(w:World)(g:X.K=K:=by rfl)(j:X.prog=P:=by rfl)(hw:X.w=w:=by rfl):jo X (.builtin "len") (upL ⟨K,P,w⟩ sv):=by
 subst g j hw;refine EZ aam λC H Q l L T U I z k=>?_;unfold sv at z;split at z
 ·obtain⟨x,rfl,r⟩:=U.inv1;cases r;exact⟨z.1,k _ H _ L (EL _) I (by rfl) z.2⟩
 ·rename_i y _;obtain⟨x,rfl,r⟩:=U.inv1;obtain⟨l,o,z⟩:=bK z;obtain⟨p,t,e,sq,J⟩:=lL I r o;subst e;refine⟨t,sq,?_⟩;rw[<-J.length];exact k _ H _ L (EL _) I (by rfl) z
 ·exact z.elim
theorem aeo(i j:Int):(if j > i then j else i)=max i j:=by split<;>lia
theorem aee(i j:Int):(if j<i then j else i)=min i j:=by split<;>lia
theorem lZ(hc:X.calm=true:=by rfl):jo X (.builtin "max") (upL X.g3 kD):=EZ (zC hc) λl H Q o L p I J z k=>by
 unfold kD at z;split at z
 ·rename_i i j;obtain⟨x,r,rfl,U,g⟩:=I.inv2;cases U;cases g;refine⟨i,j,rfl,?_⟩;rw[aeo];exact k _ H _ L (EL _) J (by rfl) z
 ·exact z.elim
theorem uD(hc:X.calm=true:=by rfl):jo X (.builtin "min") (upL X.g3 oB):=EZ (zL hc) λl H Q o L p I J z k=>by
 unfold oB at z;split at z
 ·rename_i i j;obtain⟨x,r,rfl,U,g⟩:=I.inv2;cases U;cases g;refine⟨i,j,rfl,?_⟩;rw[aee];exact k _ H _ L (EL _) J (by rfl) z
 ·exact z.elim
end
section
variable {a b c:Expr}{tc:xz}
theorem fD{a:Addr}(J:ja G H L)(h:cj L (.ref a)=some ys):∃xs,aI G.K H a xs/\v3 G H ys xs:=by
 have I:(match L a with|some (.lst ys)=>some ys|_=>none)=some ys:=h;split at I
 ·rename_i e;cases I;obtain⟨xs,U,q⟩:=J a _ e;exact⟨xs,aI.of U,q⟩
 ·cases I
theorem om{v:V}(I:ja G H L)(r:RV G H y v)(J:aiy y=true)(h:cj L y=some ys):∃a xs,v=.ref a/\aI G.K H a xs/\v3 G H ys xs:=by
 cases y with
 |ref a=>obtain⟨xs,s,q⟩:=fD I h;exact⟨a,xs,r,s,q⟩
 |sq U=>obtain⟨a,xs,e,s,q⟩:=r;cases h;exact⟨a,xs,e,s.sq,q⟩
 |_=>cases J
theorem yz{G:G3}{v:V}{T:rT}{σ:L2.St}(I:qw X pins σ H s)(C:ja X.g3 H L)(r:RV X.g3 H y v)(J:zr v u)(h:tyY L y=some T)
 {c:Value} {b:Bool} (e:PySem.W.kitOne X.K (.type T.nm) c=some b) (U:∀tk,Q (.bool b) { s with toks:=tk }):
 wpAny (model X.prog X.w) A (call (.builtin "isinstance") [u,c]) Q E s:=by
 cases y with
 |non=>cases h;cases r;exact bB I J .non e U
 |bl b=>cases h;cases r;exact bB I J (.bl _) e U
 |int i=>cases h;cases r;exact bB I J (.int _) e U
 |str x=>cases h;cases r;exact bB I J (.str _) e U
 |tup ys=>
  cases h;obtain⟨a,j,rfl,sq,_⟩:=r;cases (show u=Value.ref a from J);obtain⟨l,_,⟨o,h1,h2,_⟩,_⟩:=I.tuple sq;exact Bv PySem.W.kitx_tuple I.kIn ⟨o,h1,h2⟩ e (λz=>nomatch z) U
 |sq ys=>
  cases h;obtain⟨a,j,rfl,sq,_⟩:=r;cases (show u=Value.ref a from J);obtain⟨l,_,⟨o,n,h1,h2,_⟩,_⟩:=I.list sq.sq;exact Bv Ec I.kIn ⟨o,h1,h2⟩ e (λz=>nomatch z) U
 |ref a=>
  cases (show v=.ref a from r);have g:(match L a with|some (.lst _)=>some rT.list|some (.dct _)=>some .dict|_=>none)=some T:=h;split at g
  ·rename_i ys p;cases g;obtain⟨j,t,_⟩:=C a _ p;exact bB I J (.lst t) e U
  ·rename_i a1 p;cases g;obtain⟨j,t,_⟩:=C a _ p;exact bB I J (.dK t) e U
  ·cases g
 |_=>cases h
theorem ai6(K:Ah):∀T S:rT,PySem.W.kitOne K (.type T.nm) (.type S.nm)=some (aey T S):=by intro T S;cases T<;>cases S<;>rfl
def al6(G:G3)(S:rT):List V->Hp->VK->Prop:=λxs H Q=>∃y v L I T,xs=[v,.ty S.nm]/\RV G H y v/\ja G H L/\tyY L y=some T/\I (.bl<|aey T S) L/\sP G H I Q
theorem akn(S:rT):jo X (.builtin "isinstance") (al6 X.g3 S):=by intro J s o H p t Q I r h;obtain⟨y,v,L,C,T,rfl,g,U,ty,q,k⟩:=h;obtain⟨u,c,rfl,j,l⟩:=zw.two r;cases (show c=Value.type S.nm from l);exact jq I.tk<|yz (G:=X.g3) I U g j ty (ai6 _ T S) λtk ht=>⟨.bl _,H,I.tok _,rfl,k _ H _ L (EL _) U (by rfl) q⟩
theorem wf{p:Pos}{I:Str}(S:rT)(t:Gl X "isinstance")(C:X.mg "isinstance"=none)(J:Gl X I)(U:X.mg I=none)(g:bootBuiltins I=some (.type S.nm))(ha:QE X a ta)
 (hn:I ≠ "__name__" := by decide) (hd:(I==("__debug__" : Str))=false:=by decide)
 (hs:starEach [a,.Name I p1] X.env=(false,eval a X.env)::starEach [.Name I p1] X.env:=by rfl) (j:starEach [.Name I p1] X.env=(false,eval (.Name I p1) X.env)::starEach [] X.env:=by rfl)
 (hp:(backTo pos<|starEach [.Name I p1] X.env).any (·.1)=false:=by rfl):
 QE X (.Call (.Name "isinstance" p) [a,.Name I p1] [] pos) (aq3 S ta):=by
 refine EX (hG (akn S) t C cG (aA ha (aA (aik J U g hn hd) dw j) hs) (by decide) (by decide) hs hp) ?_;rintro σ H Q ⟨τ,L,Q3,rs,rl,z,k⟩;refine⟨τ,L,_,rs,rl,z,λv H1 y L1 t1 l o r=>?_⟩;obtain⟨T,et,r⟩:=abz r;exact⟨y,v,L1,Q3,T,rfl,o,l,et,r,k.ts t1⟩
def aw(neg:Bool)(x y:Y)(L:qr)(Q:YK):Prop:=mD L y λys=>mG x=true/\ys.all mG=true/\Q (.bl<|nb neg<|jP (ak x)<|ys.map ak) L
theorem an5(neg:Bool){op:CmpOp}(h:we X (compareOp op)<|rIn X.K neg):we X (compareOp op) (iO X.g3<|aw neg):=E6 h λx y H Q I t L C g j U z k=>by
 obtain⟨J,l,f1,f2,q⟩:=bK z;obtain⟨p,T,e,sq,o⟩:=lL U j l;rw[g.flat f1];rw[o.flat f2] at sq;refine⟨p,_,e,sq,gd f1,?_,?_⟩
 ·rw[List.all_map,DC];intro y r;exact gd<|DC.mp f2 y r
 ·have:(if neg=true then !jP (ak I) (J.map ak) else jP (ak I) (J.map ak))=(nb neg<|jP (ak I)<|J.map ak):=by cases neg<;>simp[nb]
  rw[this];exact k _ H _ L (EL _) U (by rfl) q
theorem e9(K:Ah)(P:Program)(w:World)(I:X.K=K:=by rfl)(J:X.prog=P:=by rfl)(hw:X.w=w:=by rfl):we X (compareOp .In) (iO ⟨K,P,w⟩<|aw false):=by subst I J hw;exact an5 false yN
theorem lV(K:Ah)(P:Program)(w:World)(I:X.K=K:=by rfl)(J:X.prog=P:=by rfl)(hw:X.w=w:=by rfl):we X (compareOp .NotIn) (iO ⟨K,P,w⟩<|aw true):=by subst I J hw;exact an5 true qR
theorem x8.rep{G:G3}{H:Hp}{L:qr}(j:ja G H L):∀{n:Nat} {y:Y} {d:Da} {v:V},x8 L n y d->RV G H y v->kg G.K H n v d
 |0,y,d,v,ψ,r=>by obtain⟨f,e⟩:=ψ;rw[r.flat f];exact⟨e,gd f⟩
 |n+1,y,d,v,h,r=>by
  have both:∀{U:List Y} {J:List Da} {I:List V},Paired (x8 L n) U J->v3 G H U I->Paired (kg G.K H n) I J:=by
   intro U J I p
   induction p generalizing I with
   |nil=>intro r;cases (show I=[] from r);exact .nil
   |cons q t l=>
    rintro⟨x,o,rfl,C,T⟩;exact .cons (x8.rep j q C)<|l T
  rcases h with⟨f,e⟩|⟨U,J,rfl,rfl,p⟩|⟨U,J,hy,rfl,es,p⟩
  ·rw[r.flat f];exact .inl ⟨e,gd f⟩
  ·obtain⟨a,I,rfl,sq,g⟩:=r;exact .inr<|.inl ⟨a,I,J,rfl,rfl,sq,both p g⟩
  ·obtain⟨a,I,rfl,sq,g⟩:=om j r hy es;exact .inr<|.inr ⟨a,I,J,rfl,rfl,sq,both p g⟩
theorem kU{v:V}(h:yi y=true)(r:RV G H y v):∃a,v=.ref a:=by
 cases y with
 |ref a=>exact⟨a,r⟩
 |tup I=>obtain⟨a,J,e,_⟩:=r;exact⟨a,e⟩
 |sq I=>obtain⟨a,J,e,_⟩:=r;exact⟨a,e⟩
 |_=>cases h
theorem yG(K:Ah)(P:Program)(w:World)(g:X.A.units+128<cLine)(l:X.K=K:=by rfl)(o:X.prog=P:=by rfl)(hw:X.w=w:=by rfl):we X (compareOp .Eq) (iO ⟨K,P,w⟩<|yEq false):=by
 subst l o hw;refine E6 (ald g) λx y H Q t C L p J U I z k=>?_;unfold yEq at z;split at z
 ·rename_i i j;cases J;cases U;refine⟨rfl,?_⟩;have:decide (V.int i=V.int j)=nb false (decide<|i=j):=by rw[BS];simp[nb]
  rw[this];exact k _ H _ L (EL _) I (by rfl) z
 ·rename_i i j;cases J;cases U;refine⟨rfl,?_⟩;have:decide (V.str i=V.str j)=nb false (decide<|i=j):=by rw[BS];simp[nb]
  rw[this];exact k _ H _ L (EL _) I (by rfl) z
 ·rename_i i j;cases J;cases U;refine⟨rfl,?_⟩;have:decide (V.bl i=V.bl j)=nb false (decide<|i=j):=by rw[BS];simp[nb]
  rw[this];exact k _ H _ L (EL _) I (by rfl) z
 ·obtain⟨f1,f2,n,m,d,e,r,h1,h2,q⟩:=z;obtain⟨a,rfl⟩:=kU f1 J;obtain⟨b,rfl⟩:=kU f2 U;have q:p (.bl<|Da.eq d e) L:=q;exact⟨n,m,d,e,r,h1.rep I J,h2.rep I U,k _ H _ L (EL _) I (by rfl) q⟩
theorem aoa(K:Ah)(P:Program)(w:World)(g:X.A.units+128<cLine)(l:X.K=K:=by rfl)(o:X.prog=P:=by rfl)(hw:X.w=w:=by rfl):we X (compareOp .NotEq) (iO ⟨K,P,w⟩<|yEq true):=by
 subst l o hw;refine E6 (alu g) λx y H Q t C L p J U I z k=>?_;unfold yEq at z;split at z
 ·rename_i i j;cases J;cases U;refine⟨rfl,?_⟩;have:(!decide (V.int i=V.int j))=nb true (decide<|i=j):=by show _=!_;congr 1;rw[BS];simp
  rw[this];exact k _ H _ L (EL _) I (by rfl) z
 ·rename_i i j;cases J;cases U;refine⟨rfl,?_⟩;have:(!decide (V.str i=V.str j))=nb true (decide<|i=j):=by show _=!_;congr 1;rw[BS];simp
  rw[this];exact k _ H _ L (EL _) I (by rfl) z
 ·rename_i i j;cases J;cases U;refine⟨rfl,?_⟩;have:(!decide (V.bl i=V.bl j))=nb true (decide<|i=j):=by show _=!_;congr 1;rw[BS];simp
  rw[this];exact k _ H _ L (EL _) I (by rfl) z
 ·obtain⟨f1,f2,n,m,d,e,r,h1,h2,q⟩:=z;obtain⟨a,rfl⟩:=kU f1 J;obtain⟨b,rfl⟩:=kU f2 U;have q:p (.bl<|!Da.eq d e) L:=q;exact⟨n,m,d,e,r,h1.rep I J,h2.rep I U,k _ H _ L (EL _) I (by rfl) q⟩
theorem RV.non_iff{v:V}(r:RV G H y v):decide (v=.non)=(match y with|.non=>true|_=>false):=by
 cases y with
 |non=>cases r;rfl
 |cd I=>obtain⟨a,rfl,_⟩:=r;rfl
 |tup J=>obtain⟨a,U,rfl,_⟩:=r;rfl
 |sq J=>obtain⟨a,U,rfl,_⟩:=r;rfl
 |_=>cases r;rfl
theorem abb(σ:L2.St)(H:Hp)(Q:VK):lG G (gp false ta) σ H Q->anx (lG G ta) σ H Q:=λ ψ=>by
 obtain⟨U,L,t,g,j,z,k⟩:=ψ
 exact ⟨U,L,_,g,j,z,λv l y o p I J r=>by dsimp only;rw[J.non_iff];cases y<;>exact k _ l _ o p I (by rfl) r⟩
theorem ahb(σ:L2.St)(H:Hp)(Q:VK):lG G (gp true ta) σ H Q->aj8 (lG G ta) σ H Q:=λ ψ=>by
 obtain⟨U,L,t,g,j,z,k⟩:=ψ
 exact ⟨U,L,_,g,j,z,λv l y o p I J r=>by dsimp only;rw[J.non_iff];cases y<;>exact k _ l _ o p I (by rfl) r⟩
theorem am1(h:QE X a ta):QE X (.Compare a [.Is] [.Constant .none j gg] pos) (gp false ta):=EX (aln<|ad9 h) abb
theorem aiu{t:TE}(h:∀σ H Q,lG G te σ H Q->t σ H Q)(σ:L2.St)(H:Hp)(Q:Bool->Hp->Prop):upT G (yB te) σ H Q->L2.tB t σ H Q:=λq=>h σ H _<|aip σ H Q q
theorem iT(h:QE X a ta):QT X (.Compare a [.Is] [.Constant .none j gg] pos) (yB<|gp false ta):=PT.imp (acj<|ad9 h)<|aiu abb
theorem qS(h:QE X a ta):QT X (.Compare a [.IsNot] [.Constant .none j gg] pos) (yB<|gp true ta):=PT.imp (acj<|ai4 h)<|aiu ahb
end
section
variable {a b c:Expr}{rest:List Expr}{tc:xz}{tB:jL}{tr:f9}
theorem aR(h:QT X a tA):QW X (.BoolOp .And [a] pos) tA:=ah3 h
theorem fu(h:QT X a tA):QW X (.BoolOp .Or [a] pos) tA:=ak1 h
theorem bz(h:QT X a tA)(k:QW X (.BoolOp .And (b::rest) pos) tB):QW X (.BoolOp .And (a::b::rest) pos) (tJ tA tB):=PW.imq (ak6 h k) λt H Q U L o g p z k=>
 ⟨U,L,_,g,p,z,λc r j J I l=>by cases c with|true=>rw[AA rfl];exact⟨U,j,o,g.ts J,I,l,k.ts J⟩|false=>rw[Az AG];exact k _ r j J I l⟩
theorem mS(h:QT X a tA)(k:QW X (.BoolOp .Or (b::rest) pos) tB):QW X (.BoolOp .Or (a::b::rest) pos) (yOr tA tB):=PW.imq (ap7 h k) λt H Q U L o g p z k=>
 ⟨U,L,_,g,p,z,λc r j J I l=>by cases c with|true=>rw[AA rfl];exact k _ r j J I l|false=>rw[Az AG];exact⟨U,j,o,g.ts J,I,l,k.ts J⟩⟩
theorem aS(h:QW X a tA):QT X a tA:=PW.pt h
theorem dF(h:QT X a tA):QT X (.UnaryOp .Not a pos) (nX tA):=PT.imq (ak3 h) λr H Q J L t U g z k=>
 ⟨J,L,_,U,g,z,λc j l o I p=>k _ j l o I p⟩
theorem vY{op:BoolOp}(h:QE X a ta):QE X (.BoolOp op [a] pos) ta:=al5 h
theorem wG(h:QE X a ta)(k:QE X (.BoolOp .And (b::rest) pos) tb):QE X (.BoolOp .And (a::b::rest) pos) (apc ta tb):=EN (ajj h k) λT H Q U L g o t z k=>
 ⟨U,L,_,o,t,z,λv C y J j I l p=>by
  cases y with
  |bl c=>
   refine⟨c,l,?_⟩;have r:v4 c (tb U J g) (g (.bl false) J):=p;cases c with|true=>rw[AA rfl];exact⟨U,J,g,o.ts j,I,r,k.ts j⟩|false=>rw[Az AG];exact k _ C _ J j I (by rfl) r
  |_=>exact p.elim⟩
theorem ak8(h:QE X a ta):QE X (.UnaryOp .Not a pos) (ao1 ta):=EN (ajq h) λt H Q g L C j l z k=>
 ⟨g,L,_,j,l,z,λv o y p r I J U=>by cases y with|bl c=>exact⟨c,J,k _ o _ p r I (by rfl) U⟩|_=>exact U.elim⟩
theorem bE(h:QT X c tA)(p:QE X a ta)(r:QE X b tb):QE X (.IfExp c a b pos) (yIf tA ta tb):=EN (acr h p r) λC H Q U L j g t z k=>
 ⟨U,L,_,g,t,z,λc T l J I o=>by cases c with|true=>rw[AA rfl];exact⟨U,l,j,g.ts J,I,o,k.ts J⟩|false=>rw[Az AG];exact⟨U,l,j,g.ts J,I,o,k.ts J⟩⟩
theorem wo:QA X [] jb:=PA.imq dw λJ H Q U L g j I z k=>k _ H _ L (EL _) I (by rfl) z
theorem vg(h:QE X e te)(t:QA X es tr)(hs:E8 e es X:=by rfl):QA X (e::es) (qi te tr):=PA.imq (aA h t hs) λσ H Q j L Q3 l C z k=>
 ⟨j,L,_,l,C,z,λv H1 y T o I J z1=>⟨j,T,_,l.ts o,I,z1,λp H2 ys L2 r U g z2=>k (v::p) H2 (y::ys) L2 (o.trans r) U ⟨v,p,rfl,J.ts r,g⟩ z2⟩⟩
theorem zd(h:QA X es tr):QE X (.Tuple es x1 pos) (kc tr):=EN (aer h) λσ H Q l L Q3 o r z k=>
 ⟨l,L,_,o,r,z,λt H1 j C T U I J=>by
  cases e:Nat.ble j.length 1000 with
  |false=>rw[e] at J;exact J.elim
  |true=>
   rw[e] at J;have:=B4 e;refine⟨db (by rw[<-I.length];exact this),λp g=>?_⟩;exact k _ _ (.tup j) C (T.trans<|EM g) (U.skip g) ⟨p,t,rfl,dU.of zh,I.ts<|EM g⟩ J⟩
theorem js(h:QA X es tr):QE X (.List es pos) (io tr):=EN (amq h) λC H Q j L T l o z k=>
 ⟨j,L,_,l,o,z,λvs H1 r L1 t I J U=>by
  cases e:Nat.ble r.length 1000 with
  |false=>rw[e] at U;exact U.elim
  |true=>
   rw[e] at U;have:=B4 e;refine⟨db (by rw[<-J.length];exact this),λp g=>?_⟩;exact k _ _ _ _ (t.trans<|EM g) (I.newL g J) (by rfl)<|U p<|I.none g⟩
theorem jc{p:Pos}{id:String}{r:List Y->qr->YK->Prop}(hc:jo X (.builtin id)<|upL X.g3 r)(U:Gl X x)(g:X.mg x=none)(j:bootBuiltins x=some (.builtin id))(h:QA X (e::es) tr)
 (l:x ≠ "__name__" := by decide) (hd:Fb x:=by decide) (hs:E8 e es X:=by rfl) (o:E9 pos es X:=by rfl):
 QE X (.Call (.Name x p) (e::es) [] pos) (af r tr):=EN (hG hc U g j h l hd hs o) λσ H Q t L C T rl z k=>
 ⟨t,L,_,T,rl,z,λvs H1 ys L1 t1 I J z1=>⟨ys,L1,C,J,I,z1,k.ts t1⟩⟩
def upO(G:G3)(t:TO3):TO:=λσ H Q=>∃τ L I,xc G H σ τ/\ja G H L/\t τ L I/\∀(o:Option Int) H' L',jj H H'->ja G H' L'->I o L'->Q o H'
abbrev QO(X:Cx)(e:Option Expr)(t:TO3):Prop:=PO X e<|upO X.g3 t
theorem PO.imp{e:Option Expr}{t u:TO}(h:PO X e t)(q:∀σ H Q,u σ H Q->t σ H Q):PO X e u:=λJ s σ H Q I z=>h J s σ H Q I<|q σ H Q z
theorem PO.imq{e:Option Expr}{t:TO}{u:TO3}(h:PO X e t)(q:∀σ H Q τ L I,xc G H σ τ->ja G H L->u τ L I->(∀(o:Option Int) H' L',jj H H'->ja G H' L'->I o L'->Q o H')->t σ H Q):PO X e (upO G u):=PO.imp h λσ H Q ψ=>(by obtain⟨τ,L,I,a,b,c,d⟩:=ψ;exact q σ H Q τ L I a b c d)
theorem rU.imp{U:V->Option Int->Option Int->Hp->VK->Prop}(h:rU X r)(q:∀x lo hi H Q,U x lo hi H Q->r x lo hi H Q):rU X U:=by intro J s g H x v j l lo hi o Q I p t pl C z;exact h J s g H x v j l lo hi o Q I p t pl C<|q _ _ _ _ _ z
theorem bw:QO X none gw:=PO.imq agj λJ H Q U L g j I z k=>k _ H L (EL _) I z
theorem aP(h:QE X e te):QO X (some e) (rf te):=PO.imq (agi h) λt H Q g L C j l z k=>
 ⟨g,L,_,j,l,z,λv o y p r I J U=>by cases y with|int i=>exact⟨i,J,k _ o p r I U⟩|_=>exact U.elim⟩
def ai0(G:G3)(r:Y->Option Int->Option Int->qr->YK->Prop):V->Option Int->Option Int->Hp->VK->Prop:=λx lo hi H Q=>∃y L I,RV G H y x/\ja G H L/\r y lo hi L I/\sP G H I Q
theorem aE{lo hi:Option Expr}{tl th:TO3}{r:Y->Option Int->Option Int->qr->YK->Prop}(h:rU X<|ai0 X.g3 r)(T:QE X a ta)(hl:QO X lo tl)(hh:QO X hi th):QE X (.Subscript a (.Slice lo hi none p2) pos) (ySl r ta tl th):=
 EN (aco h T hl hh) λσ H Q I L Q3 J rl z k=>
 ⟨I,L,_,J,rl,z,λv H1 y L1 U g j z1=>⟨I,L1,_,J.ts U,g,z1,λo H2 L2 l p z2=>⟨I,L2,_,J.ts<|U.trans l,p,z2,λo' H3 L3 C t z3=>⟨y,L3,Q3,j.ts<|l.trans C,t,z3,k.ts<|U.trans<|l.trans C⟩⟩⟩⟩
theorem qK(r:v3 G H ys xs)(lo hi:Option Int):v3 G H (gM ys lo hi) (uS xs lo hi):=by unfold gM uS;rw[r.length];exact(r.drop _).take _
theorem ap1(K:Ah)(P:Program)(w:World)(l:X.K=K:=by rfl)(o:X.prog=P:=by rfl)(hw:X.w=w:=by rfl):rU X (ai0 ⟨K,P,w⟩ aor):=by
 subst l o hw;refine rU.imp afh λx lo g H Q ψ=>?_;obtain⟨y,L,Q3,j,J,z,k⟩:=ψ;cases y with
 |ref a=>
  obtain⟨t,C,T⟩:=kn z;obtain⟨U,sq,r⟩:=fD J<|wr C;exact⟨a,U,j,sq,λp I=>k _ _ _ _ (EM I) (J.newL I<|qK r lo g) (by rfl)<|T p<|J.none I⟩
 |sq t=>
  obtain⟨a,U,e,sf,r⟩:=j;exact⟨a,U,e,sf.sq,λp I=>k _ _ _ _ (EM I) (J.newL I<|qK r lo g) (by rfl)<|z p<|J.none I⟩
 |_=>exact z.elim
end
section
variable {a b c iter:Expr}{tc:xz}{tB:jL}{tr:f9}{rest nE:List Stmt}{t u:vt}
theorem z0:nv X [] kh:=gl.imq ahq λD U H g L D3 I J z k=>k.nx _ H _ L (EL _) I J z
theorem qf(h:QS X st t):nv X [st] t:=yF h
theorem qa(h:QS X st t)(k:nv X rest u):nv X (st::rest) (zj t u):=gl.imq (u0 h k) λD T H g L D3 j l z k=>
 ⟨g,L,{ D3 with nx:=u D3 },j,l,z,λo H1 I p r J U C=>⟨I,p,D3,J,U,C,k.ts r⟩,k.rt,k.bk,k.ct⟩
theorem tR:QS X (.Continue pos) anr:=ES sQ λD U H g L D3 I J z k=>k.ct _ H _ L (EL _) I J z
theorem zf(h:QE X e te)(hs:swapsWith e none pos.line X.env=pure false:=by rfl):QS X (.Expr e pos) (xt te):=ES (afl h hs) λD t H g L D3 J j z k=>
 ⟨g,L,_,J,j,z,λv l y o U I p r=>k.nx _ l _ o U (J.ts U) I r⟩
theorem za(h:QE X e te):QS X (.Return (some e) pos) (wc te):=ES (akk h) λD g H I L D3 J U z k=>⟨I,L,_,J,U,z,k.rt⟩
theorem xL:QS X (.Return none pos) ain:=ES ags λD J H U L D3 g I z k=>k.rt _ H _ L (EL _) I (by rfl) z
theorem zq(h:QT X c tA)(o:nv X body t)(p:nv X nE u):QS X (.If c body nE pos) (wx tA t u):=ES (an7 h o p) λD C H U L D3 g r z k=>
 ⟨U,L,_,g,r,z,λc T j J I l=>by cases c with|true=>rw[AA rfl];exact⟨U,j,D3,g.ts J,I,l,k.ts J⟩|false=>rw[Az AG];exact⟨U,j,D3,g.ts J,I,l,k.ts J⟩⟩
theorem cB(hN:X.N.Nodup)(I:X.N[i]?=some x)(r:Loc X.env.scope x)(h:QE X e te)(J:swapsWith e (some<|.Name x gg) pos.line X.env=pure false:=by rfl)
 (U:X.fn x=true\/X.env.scope.names.lookup x=some .local:=by first|exact .inl rfl|exact .inr rfl|assumption):QS X (.Assign [.Name x gg] e pos) (jz te<|qo i):=ES (ady hN I r h J U) λD σ H l L D3 o t z k=>
 ⟨l,L,_,o,t,z,λv C y T p g j z1=>k.nx _ C _ T p (show xc _ _ _ (dz l i y) by rw[am];exact(o.ts p).set j) g z1⟩
theorem ae(h:QE X e te)(o:QG X tg g)(h1:swapsWithSole [tg] e pos.line X.env=pure false:=by rfl)(h2:swappedStores [tg] e X.env=pure none:=by rfl)
 (h3:(assignEach [tg] X.env).map (·.2)=[assign tg X.env]:=by rfl):QS X (.Assign [tg] e pos) (jz te g):=ES (ack h o h1 h2 h3) λD C H U L D3 j p z k=>
 ⟨U,L,_,j,p,z,λv T y r l I J t=>⟨y,U,r,_,J,j.ts l,I,t,k.nx.ts l⟩⟩
theorem PG.imp{t u:TG}(h:PG X e t)(q:∀v σ H Q,u v σ H Q->t v σ H Q):PG X e u:=λJ s σ H x v Q I r z=>h J s σ H x v Q I r<|q _ _ _ _ z
theorem PGs.imp{e:List Expr}{t u:TGs}(h:PGs X e t)(q:∀v σ H Q,u v σ H Q->t v σ H Q):PGs X e u:=λJ s σ H x v Q I r z=>h J s σ H x v Q I r<|q _ _ _ _ z
theorem aB(hN:X.N.Nodup)(I:X.N[i]?=some x)(U:Loc X.env.scope x)(J:X.fn x=true\/X.env.scope.names.lookup x=some .local:=by first|exact .inl rfl|exact .inr rfl|assumption):QG X (.Name x pos) (qo i):=
 PG.imp (yK hN I U J) λv p H Q ψ=>(by obtain⟨y,g,L,r,j,l,o,z,k⟩:=ψ;exact k _ H _ L (EL _) (show xc _ _ _ (dz g i y) by rw[am];exact l.set j) o z)
theorem xw:QGs X [] hU:=PGs.imp aff λj l H Q ψ=>by obtain⟨I,o,L,p,J,U,g,z,k⟩:=ψ;cases I with|nil=>exact⟨J,k _ H _ L (EL _) U g z⟩|cons y r=>exact z.elim
theorem qz(h:QG X e g)(hs:QGs X es gs)(l:(assignEach (e::es) X.env).map (·.2)=assign e X.env::(assignEach es X.env).map (·.2):=by rfl):QGs X (e::es) (vz g gs):=
 PGs.imp (ad6 h hs l) λvs σ H Q ψ=>by
 obtain⟨o,p,L,t,C,T,rl,z,k⟩:=ψ
 cases o with
 |nil=>exact z.elim
 |cons y r=>
  obtain⟨x,xs,rfl,r1,r2⟩:=C;exact⟨x,xs,rfl,y,p,L,_,r1,T,rl,z,λa1 H1 I L1 j J U z1=>⟨r,I,L1,t,r2.ts j,J,U,z1,k.ts j⟩⟩
theorem w5{j:Nat}(hc:X.calm=true)(h:QGs X es gs)(h1:(assignEach es X.env).length=n:=by rfl)(h2:(assignEach es X.env).findIdx? (·.1)=none:=by rfl):QG X (.Tuple es j pos) (jS n gs):=
 PG.imp (al3 hc h h1 h2) λv C H Q ψ=>by
 obtain⟨y,U,L,g,l,o,p,z,k⟩:=ψ
 cases y with
 |tup I=>
  obtain⟨a,t,rfl,sq,r⟩:=l;have J:(match I.length==n with|true=>gs I U L g|false=>False):=z;split at J
  ·rename_i e;exact⟨a,t,rfl,sq,by rw[<-r.length];exact beq_iff_eq.mp e,I,U,L,g,r,o,p,J,k⟩
  ·exact J.elim
 |_=>exact z.elim
theorem vN{y:Str}{px py pt:Pos}{J k2:Nat}{I:Pos}(hc:X.calm=true)(hN:X.N.Nodup)(hi:X.N[i]?=some x)(C:X.N[j]?=some y)(U:i≠j)(T:X.env.scope.names.lookup x=some .local)(ly:X.env.scope.names.lookup y=some .local)
 (h:QA X [a,b] tr) (h1:swappedStores [.Tuple [.Name x px,.Name y py] J pt] (.Tuple [a,b] k2 I) X.env=pure (some [x,y])) (h2:swapsWithSole [.Tuple [.Name x px,.Name y py] J pt] (.Tuple [a,b] k2 I) pos.line X.env=pure false:=by rfl):
 QS X (.Assign [.Tuple [.Name x px,.Name y py] J pt] (.Tuple [a,b] k2 I) pos) (afn i j tr):=ES (am2 hc hN hi C U T ly h h1 h2) λD σ H p L D3 r rl z k=>
 ⟨p,L,_,r,rl,z,λvs H1 ys L1 t g l o=>by
  split at o
  ·rename_i v w;obtain⟨x',y',rfl,r1,r2⟩:=l.inv2;exact⟨x',y',rfl,k.nx _ H1 _ L1 t (show xc _ _ _ (dz (dz p i v) j w) by rw[am,am];exact((r.ts t).set r1).set r2) g o⟩
  ·exact o.elim⟩
theorem ss(hp:PassesOwn (model X.prog X.w) X.A X.env X.xe)(h:QT X c tA)(hb:nv X body t):QS X (.While c body [] pos) (akf tA t):=PS.imp (ad8 hp h hb) λD σ H ψ=>by
 obtain⟨τ,L,D3,rs,rl,⟨W,⟨m0,w0⟩,turn⟩,k⟩:=ψ
 refine⟨λm r H1=>∃J C,jj H H1/\xc X.g3 H1 r J/\ja X.g3 H1 C/\W m J C,⟨m0,τ,L,EL _,rs,rl,w0⟩,?_⟩;rintro m r H1 ⟨J,C,t1,l,a2,w1⟩;refine⟨J,C,_,l,a2,turn m J C w1,λb H2 L2 T a1 z2=>?_⟩;cases b with
 |false=>rw[Az AG];exact k.nx _ H2 _ L2 (t1.trans T) (l.ts T) a1 z2
 |true=>
  rw[AA rfl];obtain⟨N,hN,z2⟩:=z2;refine⟨λU g=>∃I j,jj H g/\xc X.g3 g U I/\ja X.g3 g j/\N I j,?_,?_⟩
  ·rintro U g ⟨I,j,t',o,p,n'⟩;obtain⟨m',hm,w'⟩:=hN I j n';exact⟨m',hm,I,j,t',o,p,w'⟩
  ·have nx:nq X.g3 H2 (dk N) (λU g=>∃I j,jj H g/\xc X.g3 g U I/\ja X.g3 g j/\N I j):=λU g I j t' o p ψ=>(by obtain⟨L5,s5,n'⟩:=ψ;exact ⟨I,L5,(t1.trans T).trans t',o,p.sub s5,n'⟩);have k2:=k.ts<|t1.trans T;exact⟨J,L2,_,l.ts T,a1,z2,nx,k2.rt,k2.nx,nx⟩
theorem wn{wi:TI3}(hp:PassesOwn (model X.prog X.w) X.A X.env X.xe)(hc:X.calm=true)(hi:QI X tg iter wi)(hg:QG X tg g)(hb:nv X body t)(hs:∀x,foldedSetIterable iter X.env x=pure x:=by intro _;rfl):
 QS X (.For tg iter body [] pos) (m8 wi g t):=ES (ajw hp hc hi hg hb hs) λD σ H τ L D3 rs rl z k=>by
 refine⟨τ,L,_,rs,rl,z,λJ H1 r keep L1 t1 a3 yl zz=>?_⟩;obtain⟨W,w0,wk,turn,x9⟩:=adp zz;refine⟨λi m U j=>∃I o,i+m=r.length/\jj H1 j/\xc X.g3 j U I/\ja X.g3 j o/\W i I o,⟨r.length,τ,L1,by omega,EL _,rs.ts t1,a3,w0⟩,?_⟩;rintro i m av H2 ⟨l,L2,ax,t2,a1,p,w2⟩;by_cases a2:i<r.length
 ·refine .inr ⟨yl.go i H2 L2 t2 p (wk i l L2 w2) a2,λU j=>∃I o,jj H1 j/\xc X.g3 j U I/\ja X.g3 j o/\W (i+1) I o,?_,?_⟩
  ·rintro U j ⟨I,o,t',C,T,w'⟩;exact⟨m-1,by omega,I,o,by omega,t',C,T,w'⟩
  ·intro x H3 y3;have ey:r[i]?=some r[i]:=Ak a2;obtain⟨t3,a4,a5⟩:=yl.yld i H2 L2 x H3 _ t2 p (wk i l L2 w2) ey y3;refine⟨r[i],l,L2,_,a5,a1.ts t3,a4,turn i _ l L2 ey w2,λaL H4 ac L4 t4 al au z4=>?_⟩;have nx:nq X.g3 H4 (dk<|W<|i+1) (λU j=>∃I o,jj H1 j/\xc X.g3 j U I/\ja X.g3 j o/\W (i+1) I o):=λU j I o t' C T ψ=>(by obtain⟨L5,s5,n'⟩:=ψ;exact ⟨I,L5,((t2.trans t3).trans t4).trans t',C,T.sub s5,n'⟩);have k2:=k.ts<|t1.trans<|(t2.trans t3).trans t4;exact⟨ac,L4,_,al,au,z4,nx,k2.rt,k2.nx,nx⟩
 ·have e:i=r.length:=by omega
  subst e;exact .inl ⟨yl.stop H2 L2 t2 p<|wk _ l L2 w2,k.nx _ H2 _ L2 (t1.trans t2) a1 p<|x9 l L2 w2⟩
theorem PI.imp{t u:TI}(h:PI X tg e t)(q:∀σ H Q,u σ H Q->t σ H Q):PI X tg e u:=λJ s σ H Q I z=>h J s σ H Q I<|q σ H Q z
theorem PI.imq{t:TI}{u:TI3}(h:PI X tg e t)(q:∀σ H R τ L I,xc G H σ τ->ja G H L->u τ L I->(∀J H' ys keep L',jj H H'->ja G H' L'->ie G H' J ys keep->I ys keep L'->R J H')->t σ H R):PI X tg e (upI G u):=PI.imp h λσ H R ψ=>(by obtain⟨τ,L,I,a,b,c,d⟩:=ψ;exact q σ H R τ L I a b c d)
theorem jT{a:Addr}{keep:qr->Prop}(h:∀H L,jj H₀ H->ja G H L->keep L->∃xs,aI G.K H a xs/\v3 G H ys xs):ie G H₀ (Itl G.K a) ys keep where
 go:=λi H L t I J U=>by
  obtain⟨xs,sq,r⟩:=h H L t I J;have:i<xs.length:=by rw[<-r.length];exact U
  exact⟨xs,xs[i],sq,Ak this⟩
 yld:=λi H L x o y t I J g ψ=>by obtain⟨e,f⟩:=ψ;subst e;obtain⟨xs,sq,r⟩:=h _ L t I J;obtain⟨p,j,l⟩:=r.get g;have:=f xs sq;rw[j] at this;cases this;exact⟨EL _,I,l⟩
 stop:=λH L t I J=>by obtain⟨xs,sq,r⟩:=h H L t I J;exact⟨xs,sq,by rw[r.length];exact Am _⟩
theorem wy(h:QE X e te):QI X tg e (dM te):=PI.imq (agu h) λσ H R τ L R3 rs l z k=>by
 refine⟨τ,L,_,rs,l,z,λv g y o C I U p=>?_⟩;cases y with
 |ref a=>
  obtain⟨j,keep,es,kp,hk,z2⟩:=sg p;have T:∀H L,jj g H->ja X.g3 H L->keep L->∃J,aI X.K H a J/\v3 X.g3 H j J:=λH L _ l e=>fD l<|hk L e;obtain⟨J,sq,_⟩:=T g o (EL _) I kp;exact⟨a,U,⟨J,sq⟩,k _ g j _ o C I (jT T) z2⟩
 |sq j=>
  obtain⟨a,J,e,sf,r⟩:=U;exact⟨a,e,⟨J,sf.sq⟩,k _ g j (λ_=>True) o C I (jT λH L t _ _=>⟨J,(sf.ts t).sq,r.ts t⟩) p⟩
 |_=>exact p.elim
theorem uE(lo:Int)(n:Nat):ie G H₀ (Itr lo n) (aj lo n) (λ_=>True) where
 go:=λi H L t J g j=>show i<n by simpa[aj] using j
 yld:=λi H L x l y t J g U ψ=>by
  obtain⟨e,f⟩:=ψ
  subst e f;refine⟨EL _,J,?_⟩;unfold aj at U;rw[Aq] at U;obtain⟨z,I,e⟩:=Ax.mp U;have:=DK (i:=i) (n:=n) (by
   by_cases c:i<n
   ·exact c
   ·rw[B3 (by simp;omega)] at I;cases I)
  rw[this] at I;cases I;subst e;rfl
 stop:=λH L t J g=>by simp[aj,Itr]
theorem wv{p:Pos}(g:Gl X "range")(l:X.mg "range"=none)(h:QA X [a] tr)(hs:starEach [a] X.env=[(false,eval a X.env)]:=by rfl):QI X tg (.Call (.Name "range" p) [a] [] pos) (pW tr):=
 PI.imq (aai g l h hs) λσ H R o L R3 t C z k=>by
 refine⟨o,L,_,t,C,z,λvs T ys L1 t1 J U I=>?_⟩;split at I
 ·rename_i j;obtain⟨x,rfl,r⟩:=U.inv1;cases r;exact⟨j,rfl,I.1.1,I.1.2,k _ T _ _ L1 t1 J (uE 0 _) I.2⟩
 ·exact I.elim
end
section
variable {T:List Str}{iter c:Expr}{wi:TI3}{tr:f9}
theorem aei:QF X [] asv:=PF.imp ak4 λJ H Q ψ=>(by obtain⟨U,L,g,j,I,z,k⟩:=ψ;exact k _ H L (EL _) I z)
theorem cD(h:QT X c tA):QF X [c] tA:=ajf h
theorem aj7{g2:TG}(a1:∀v σ H Q,upG G g v σ H Q->g2 v σ H Q)(σ:L2.St)(H:Hp)(Q:VK):lG G (yLC n wi g tA te) σ H Q->tLC n (upI G wi) g2 (upT G tA) (lG G te) σ H Q:=λ ψ=>by
 obtain⟨τ,L,Q3,rs,rl,z,k⟩:=ψ
 refine⟨τ,L,_,rs,rl,z,λJ H1 l keep L1 t1 a2 yl zz=>?_⟩;obtain⟨hz,W,w0,wk,turn,x9⟩:=ahh zz;refine⟨λi m vs H'=>∃I L',i+m=l.length/\I.length<=i/\jj H1 H'/\v3 G H' I vs/\ja G H' L'/\W i I L',⟨l.length,[],L1,by exact Nat.add_comm _ _,Am _,EL _,rfl,a2,w0⟩,?_⟩;rintro i m vs H2 ⟨I,L2,au,av,o,U,j,p⟩;by_cases r:i<l.length
 ·refine .inr ⟨yl.go i H2 L2 o j (wk i I L2 p) r,by rw[<-U.length];lia,?_⟩;intro x H3 y3;have ey:l[i]?=some l[i]:=Ak r;obtain⟨t3,a3,a4⟩:=yl.yld i H2 L2 x H3 _ o j (wk i I L2 p) ey y3;refine a1 _ _ _ _ ⟨l[i],_,L2,_,a4,(rs.ts<|(t1.trans o).trans t3).more n,a3,turn i _ I L2 ey p,λax H4 t L4 t4 C a5 z4=>?_⟩;refine⟨t,L4,_,C,a5,z4,λb H5 L5 t5 T z5=>?_⟩;cases b with
  |true=>
   rw[AA rfl];refine⟨t,L5,_,C.ts t5,T,z5,λv6 H6 y6 L6 t6 ac al ψ=>?_⟩;obtain⟨L7,s7,z6⟩:=ψ;have tt:=((t3.trans t4).trans t5).trans t6;exact⟨m-1,by omega,I++[y6],L7,by lia,by rw[Ac,CP];exact ami,o.trans tt,(U.ts tt).app<|v3.one al,ac.sub s7,z6⟩
  |false=>
   rw[Az AG];have tt:=(t3.trans t4).trans t5;obtain⟨L7,s7,z6⟩:=z5;exact⟨m-1,by lia,I,L7,by lia,by exact as9,o.trans tt,U.ts tt,T.sub s7,z6⟩
 ·have ei:i=l.length:=by lia
  subst ei;refine .inl ⟨yl.stop H2 L2 o j<|wk _ I L2 p,by rw[<-U.length];lia,λD hD=>?_⟩;exact k _ _ _ _ ((t1.trans o).trans<|EM hD) (j.newL hD U) (by rfl)<|x9 I L2 p D<|j.none hD
structure TGx(X:Cx)(scope:Scope)(T:List Str)(target:Expr)(g:l7):Prop where
 ex:∃g2:TG,(∀C fp s₀ H₀,PG (X.comp scope T C fp s₀ H₀) target g2)/\rg g2 X.N.length T.length/\∀v σ H Q,upG X.g3 g v σ H Q->g2 v σ H Q
theorem afx(i:Nat)(v:V)(σ:L2.St)(H:Hp)(Q:L2.St->Hp->Prop):upG G (qo i) v σ H Q->lK i v σ H Q:=λ ψ=>by
 obtain⟨y,I,L,j,J,U,g,z,k⟩:=ψ
 exact k _ H _ L (EL _) (show xc _ _ _ (dz I i y) by rw[am];exact U.set J) g z
theorem gh{p:Pos}(hN:(X.N++[x]).Nodup)(J:∀C fp s₀ H₀,Loc (X.comp scope [x] C fp s₀ H₀).env.scope x)(I:∀C fp s₀ H₀,(X.comp scope [x] C fp s₀ H₀).env.scope.names.lookup x=some .local):TGx X scope [x] (.Name x p) (qo X.N.length):=
 ⟨lK X.N.length,λC fp s₀ H₀=>yK (X:=X.comp scope [x] C fp s₀ H₀) hN (by show(X.N++[x])[X.N.length]?=some x;simp) (J C fp s₀ H₀)<|.inr<|I C fp s₀ H₀,uo _,afx _⟩
theorem ajb(T:List Str)(S:jm X scope)(hc:X.calm=true)(hi:QI X target iter wi)(I:TGx X scope T target g)
 (J:∀C fp s₀ H₀,QF (X.comp scope T C fp s₀ H₀) kb tA) (U:∀C fp s₀ H₀,QE (X.comp scope T C fp s₀ H₀) kt te)
 (hs:∀x,foldedSetIterable iter X.env x=pure x:=by intro _;rfl):QE X (.ListComp kt [⟨target,iter,kb,0⟩] scope pos) (yLC T.length wi g tA te):=by
 obtain⟨g2,h1,h2,h3⟩:=I.ex;exact EX (aq8 T S hc hi h1 h2 J U hs)<|aj7 h3
theorem wb(T:List Str){px o:Pos}(hN:X.N.Nodup)(I:X.N[i]?=some x)(hx:Loc X.env.scope x)(S:jm X scope)(hc:X.calm=true)(hi:QI X target iter wi)
 (hg:TGx X scope T target g) (hf:∀C fp s₀ H₀,QF (X.comp scope T C fp s₀ H₀) kb tA) (he:∀C fp s₀ H₀,QE (X.comp scope T C fp s₀ H₀) kt te)
 (J:swapsWith (.ListComp kt [⟨target,iter,kb,0⟩] scope o) (some<|.Name x px) pos.line X.env=pure true:=by rfl)
 (U:X.fn x=true\/X.env.scope.names.lookup x=some .local:=by first|exact .inl rfl|exact .inr rfl|assumption)
 (hs:∀x,foldedSetIterable iter X.env x=pure x:=by intro _;rfl):QS X (.Assign [.Name x px] (.ListComp kt [⟨target,iter,kb,0⟩] scope o) pos) (jz (yLC T.length wi g tA te)<|qo i):=by
 obtain⟨g2,h1,h2,h3⟩:=hg.ex;refine PS.imp (adk (tc:=upT X.g3 tA) (te:=lG X.g3 te) T hN I hx S hc hi h1 h2 hf he J U hs) λD σ H ψ=>?_;obtain⟨p,L,D3,r,rl,z,k⟩:=ψ;refine aj7 h3 σ H _ ⟨p,L,_,r,rl,z,λv H1 y L1 t j l z1=>?_⟩;exact k.nx _ H1 _ L1 t (show xc _ _ _ (dz p i y) by rw[am];exact(r.ts t).set l) j z1
def dn(G:G3)(sp:zp):Sp:=λvs H Q _=>∃ys L I,v3 G H ys vs/\ja G H L/\sp ys L I/\sP G H I Q
abbrev aml(P:Program)(w:World)(K:Ah)(mg:Str->Option Value)(base:Heap)(k:Nat)(x:Str)(ps:List Str)(sp:zp):Prop:=Cal P w K mg base k x ps<|dn ⟨K,P,w⟩ sp
abbrev Fn3(P:Program)(w:World)(K:Ah)(mg:Str->Option Value)(base:Heap)(k:Nat)(f:Addr)(fd:FuncData)(ps:List Str)(sp:zp):Prop:=bP P w K mg base CX0 k f fd ps<|dn ⟨K,P,w⟩ sp
theorem ar8{k:Nat}{sp:zp}{p:Pos}(c:aml X.prog X.w X.K X.mg X.base k x ps sp)(j:w4 k X.A)(l:Gl X x)(o:QA X (e::es) tr)(I:Fb x:=by decide)
 (r:E8 e es X:=by rfl) (J:E9 pos es X:=by rfl):QE X (.Call (.Name x p) (e::es) [] pos) (xh sp tr):=
 EN (asz c j l o I r J) λσ H Q t L C T rl z k=>
 ⟨t,L,_,T,rl,z,λvs H1 ys L1 t1 U g z1=>⟨ys,L1,C,by rw[AD];exact g,U,z1,k.ts t1⟩⟩
def hW(Q:YK):YK:=λy L=>∃L2,qh L2 L/\Q y L2
def eG(N:List Str)(ys:List Y):jn:=ys.map some++List.replicate (N.length-ys.length) none
theorem ig{N:List Str}{vs:List V}(r:v3 G H ys vs):xc G H (L2.start N vs) (eG N ys):=by unfold L2.start eG;rw[<-r.length];refine xc.more ⟨by simp[r.length],λi y e=>?_⟩ _;rw[Aq] at e;obtain⟨g,I,J⟩:=Ax.mp e;cases J;obtain⟨x,ex,U⟩:=r.get I;exact⟨x,by rw[Aq,ex];rfl,U⟩
theorem ok3{P:Program}{w:World}{K:Ah}{N:List Str}{k:Nat}{sp:zp}(F:Fun K x eH st f fd)(S:aG N ps<|qt st)(len:∀ys L Q,sp ys L Q->ys.length=ps.length)
 (I:∀(eK:Value) (A:Around) (outer:List Env) (s:Shared) (H:Hp) (E:XK),w4 k (A.deeper<|PyProof.Rows.envOfC eH (qt st) s.heap.objs.size f eK)->
  ∃t,nv (cM CX0 P w K mg base N eH (qt st) f eK A outer s H E).nox (jg st) t/\∀ys L Q,sp ys L Q->t { nx:=λ_ L'=>hW Q .non L',rt:=hW Q } (eG N ys) L):Fn3 P w K mg base (k+1) f fd ps sp:=by
 refine F.ok S (λT H Q E ψ=>by obtain⟨ys,L,U,g,C,z,_⟩:=ψ;rw[<-g.length];exact len ys L U z) λeK A outer s H T Q E hr ψ=>?_;obtain⟨ys,L,U,g,C,z,k⟩:=ψ;obtain⟨t,ht,q⟩:=I eK A outer s H E hr;refine⟨_,ht,eG N ys,L,_,ig g,C,q ys L U z,?_⟩;refine⟨λσ j τ L' l a1 J ψ=>(by obtain⟨L2,o,p⟩:=ψ;exact k .non j .non L2 l (J.sub o) (by rfl) p),λv j y L' l J r ψ=>(by obtain⟨L2,o,p⟩:=ψ;exact k v j y L2 l (J.sub o) r p),λ_ _ _ _ _ _ _ z=>z.elim,λ_ _ _ _ _ _ _ z=>z.elim⟩
def upM(G:G3)(r:Y->List Y->qr->YK->Prop):V->List V->Hp->VK->Prop:=λx xs H Q=>∃y ys L I,RV G H y x/\v3 G H ys xs/\ja G H L/\r y ys L I/\sP G H I Q
theorem oh.imq{id:String}{r:V->List V->Hp->VK->Prop}{u:Y->List Y->qr->YK->Prop}(h:oh X id r)(q:∀x xs H Q y ys L I,RV G H y x->v3 G H ys xs->ja G H L->u y ys L I->sP G H I Q->r x xs H Q):oh X id (upM G u):=oh.imp h λx xs H Q ψ=>(by obtain⟨y,ys,L,I,a,b,c,d,e⟩:=ψ;exact q x xs H Q y ys L I a b c d e)
theorem adv:oh X "list.append" (upM X.g3 zv):=oh.imq yp λx p H Q y t L C U g J z k=>by
 unfold zv at z;split at z
 ·rename_i a v;obtain⟨T,e,z⟩:=kn z;obtain⟨j,I,r⟩:=J a _ e;obtain⟨l,rfl,o⟩:=g.inv1;exact⟨a,j,l,U,rfl,I,by rw[<-r.length];exact z.1,k _ _ _ _ (E5 I) (J.setL I<|r.app<|v3.one o) (by rfl) z.2⟩
 ·exact z.elim
theorem afw{a:Addr}(I:ja G H L)(h:cj L (.ref a)=some ys):tyV G.K "list" (.ref a) H:=by obtain⟨J,sq,_⟩:=fD I h;exact .inl ⟨rfl,J,sq⟩
def eI(r:Y->List Y->qr->YK->Prop)(to:xz)(t:f9)(τ:jn)(L:qr)(Q:YK):Prop:=to τ L λx L1=>match x with
 |.ref a=>mD L1 (.ref a) λ_=>t τ L1 λxs L2=>r (.ref a) xs L2 Q
 |_=>False
theorem vJ{id:String}{r:Y->List Y->qr->YK->Prop}(h2:Slot "list" name id)(h3:typeOf (.builtin id)=pure (.type "method_descriptor"))(hm:oh X id<|upM X.g3 r)(ho:QE X o to)(ha:QA X (e::es) tr)
 (h4:attributeBase o name X.env (eval o X.env)=eval o X.env:=by rfl)
 (h5:((backTo fx<|starEach (e::es) X.env).all (λx=>!x.1)&&(backToKw fx<|keywordEach [] X.env).all (λx=>x.1.isSome)&&decide ((e::es).length+([]:List Keyword).length+(if ([]:List Keyword).isEmpty=true then 0 else 1)<30))=true:=by rfl)
 (h6:(apos.endLine==fx.line)=true:=by rfl) (h7:E8 e es X:=by rfl) (h8:E9 fx es X:=by rfl):
 QE X (.Call (.Attribute o name apos) (e::es) [] fx) (eI r to tr):=EN (aij PySem.F.plainAttrs_list h2 h3 hm ho ha h4 h5 h6 h7 h8) λσ H Q l L Q3 p rl z k=>
 ⟨l,L,_,p,rl,z,λv H1 y L1 t I J U=>by
  split at U
  ·rename_i a;obtain⟨C,es,U⟩:=bK U;exact⟨by cases J;exact afw I es,l,L1,_,p.ts t,I,U,λvs H2 C L2 T g j z2=>⟨.ref a,C,L2,Q3,J.ts T,j,g,z2,k.ts<|t.trans T⟩⟩
  ·exact U.elim⟩
theorem z9(I:QE X o to)(J:QA X (e::es) tr)(U:attributeBase o "append" X.env (eval o X.env)=eval o X.env:=by rfl)
 (g:((backTo fx<|starEach (e::es) X.env).all (λx=>!x.1)&&(backToKw fx<|keywordEach [] X.env).all (λx=>x.1.isSome)&&decide ((e::es).length+([]:List Keyword).length+(if ([]:List Keyword).isEmpty=true then 0 else 1)<30))=true:=by rfl)
 (j:(apos.endLine==fx.line)=true:=by rfl) (l:E8 e es X:=by rfl) (p:E9 fx es X:=by rfl):
 QE X (.Call (.Attribute o "append" apos) (e::es) [] fx) (eI zv to tr):=vJ PySem.F.slot_list_append PySem.F.type_list_append adv I J U g j l p
end
abbrev lh:oX:=yI0 λi j=>.int<|i-j
abbrev asy:oX:=yI abt λi j=>.int<|i*j
abbrev xU:oX:=yI amc λi j=>.int<|i / j
abbrev rK:oX:=yI (λ_ j=>0<j) λi j=>.int<|i % j
abbrev yLt:oX:=yI0 λi j=>.bl<|decide<|i<j
abbrev yLe:oX:=yI0 λi j=>.bl<|decide<|i<=j
abbrev yGt:oX:=yI0 λi j=>.bl<|decide<|j<i
structure apt(G:G3)(mg:Str->Option Value)(x:Str)(y:Y):Prop where
 ex:∃c,mg x=some (.ref c)/\∀H,RV G H y<|.ref c
theorem alg(t:apt X.g3 X.mg x y)(I:Gl X x)(hd:Fb x:=by decide):QE X (.Name x pos) (yC y):=by obtain⟨c,J,q⟩:=t.ex;exact ap8 I J q hd
def ajd(kvs:List<|Str×Str):LO:=.dct<|kvs.map λp=>(Sum.inr p.1,Y.str p.2)
def apq(kvs:List<|Str×Str)(_:jn)(L:qr)(Q:YK):Prop:=∀p,L p=none->Q (.ref p) (qj L p<|ajd kvs)
def kvV(kvs:List<|Str×Str):List (jk×V):=kvs.map λp=>(Sum.inr p.1,V.str p.2)
theorem uX{σ:L2.St}{H:Hp}{Q:List (V×V)->Hp->Prop}:∀{kvs:List<|Str×Str},Q (kvs.map λp=>(V.str p.1,V.str p.2)) H->rH (kvs.map λp=>(tC<|.str p.1,tC<|.str p.2)) σ H Q
 |[],h=>h
 |_::r,h=>uX (kvs:=r) h
theorem wX{G:G3}{H:Hp}:∀kvs:List (Str×Str),Paired (λ(p:jk×Y) (q:jk×V)=>p.1=q.1/\RV G H p.2 q.2) (kvs.map λp=>(Sum.inr p.1,Y.str p.2))<|kvV kvs
 |[]=>.nil
 |_::r=>.cons ⟨rfl,rfl⟩<|wX r
theorem agq{keys:List<|Option Expr}{values:List Expr}(kvs:List<|Str×Str)(h:PPs X pos keys values<|kvs.map λp=>(tC<|.str p.1,tC<|.str p.2))(h1:(keys.all λx=>x.isSome)=true)(h2:keys.length=values.length)(h3:keys≠[])(U:keys.length<=15)
 (g:kvs.length<=15:=by decide) (nd:i7 [] (kvV kvs)=kvV kvs:=by decide +kernel):QE X (.Dict keys values pos) (apq kvs):=EN (ag3 h h1 h2 h3 U) λj H Q l L o r J z k=>by
 intro p I;refine uX ⟨zh,kvV kvs,by simp[kvV,kV],by simpa[kvV] using g,?_⟩;rw[nd,xA];refine k _ _ _ (qj L p<|ajd kvs) (EM I) ?_ (by rfl)<|z p<|J.none I;intro a u e;by_cases c:a=p
 ·subst c;rw[q9] at e;cases e;exact⟨kvV kvs,zh,wX kvs⟩
 ·rw[qg c] at e;exact(J a u e).keep (EM I) (ql c)
theorem xV{Q:α->qr->Prop}{o:Option α}(h:atK L Q o):∃v,o=some v/\Q v L:=by cases o with|none=>exact h.elim|some v=>exact⟨v,rfl,h⟩
theorem jW{kvs:List<|Str×Str}{k:Str}(h:kvs.lookup k=some x):ko (kvs.map λp=>((Sum.inr p.1:jk),Y.str p.2)) (Sum.inr k)=some (Y.str x):=by
 induction kvs with
 |nil=>simp at h
 |cons p r I=>
  obtain⟨a,b⟩:=p;unfold ko;rw[AF,BH];rw[BJ] at h;by_cases c:k=a
  ·subst c;simp at h;simp[h]
  ·have c1:(k==a)=false:=by simpa using c
   rw[c1] at h;have c2:decide ((Sum.inr a:jk)=Sum.inr k)=false:=Ay λz=>c (Sum.inr.inj z).symm;simp only[c2];exact I h
theorem xR(h:(aj lo n)[i]?=some y):i<n/\y=.int (lo+i):=by
 unfold aj at h;rw[Aq] at h;obtain⟨z,I,e⟩:=Ax.mp h;have J:i<n:=by
  by_cases c:i<n
  ·exact c
  ·rw[B3 (by simp;exact zG)] at I;cases I
 rw[DK J] at I;cases I;exact⟨J,e.symm⟩
theorem lW(lo:Int)(n:Nat):(aj lo n).length=n:=by simp[aj]
theorem kF{tb:vt}{D:x6}(W:Nat->jn->qr->Prop)(h0:W 0 τ L)
 (hs:∀i τ L,i<n->W i τ L->g (.int<|lo+i) τ L λI L2=>tb { D with nx:=dk<|W<|i+1,ct:=dk<|W<|i+1,bk:=D.nx } I L2) (hd:∀τ L,W n τ L->D.nx τ L):wI (aj lo n) (λ_=>True) g tb D τ L:=by
 refine kw ⟨W,h0,λ_ _ _ _=>trivial,λi y τ L e w=>?_,λτ L w=>hd τ L (by rw[lW] at w;exact w)⟩;obtain⟨J,rfl⟩:=xR e;exact hs i τ L J w
theorem afv{tb:vt}{D:x6}{a:Addr}(h:cj L (.ref a)=some ys)(W:Nat->jn->qr->Prop)(h0:W 0 τ L)(J:∀i τ L',W i τ L'->L' a=L a)
 (hs:∀i y τ L,ys[i]?=some y->W i τ L->g y τ L λI L2=>tb { D with nx:=dk<|W<|i+1,ct:=dk<|W<|i+1,bk:=D.nx } I L2) (hd:∀τ L,W ys.length τ L->D.nx τ L):
 uK L a λys keep L1=>wI ys keep g tb D τ L1:=kz (oq h) λkeep U=>kw ⟨W,h0,λi τ L' w=>U L'<|J i τ L' w,hs,hd⟩
theorem gJ{keep:qr->Prop}{Q:YK}(I:Nat->List Y->Prop)(hz:ys.length<sizeLine)(j:keep L)(h0:I 0 [])
 (turn:∀(i:Nat) y zs,ys[i]?=some y->I i zs->g y (τ++List.replicate n none) L λJ L2=>tc J L2 λb L3=>v4 b (te J L3 λz l=>dk (λzs L'=>L'=L/\I (i+1) zs) (zs++[z]) l)<|dk (λzs L'=>L'=L/\I (i+1) zs) zs L3)
 (o:∀zs,I ys.length zs->∀p,L p=none->Q (.ref p) (qj L p<|.lst zs)):lcK ys keep n g tc te τ L Q:=by
 refine ajz ⟨hz,λi zs L'=>L'=L/\I i zs,⟨rfl,h0⟩,?_,?_,?_⟩
 ·rintro i zs L' ⟨rfl,_⟩;exact j
 ·rintro i y zs L' r ⟨rfl,U⟩;exact turn i y zs r U
 ·rintro zs L' ⟨rfl,U⟩ p t;exact o zs U p t
theorem nG{Q:YK}(I:Nat->List Y->Prop)(hz:m<sizeLine)(h0:I 0 [])
 (turn:∀(i:Nat) zs,i<m->I i zs->g (.int<|lo+i) (τ++List.replicate n none) L λJ L2=>tc J L2 λb L3=>v4 b (te J L3 λz j=>dk (λzs L'=>L'=L/\I (i+1) zs) (zs++[z]) j)<|dk (λzs L'=>L'=L/\I (i+1) zs) zs L3)
 (l:∀zs,I m zs->∀p,L p=none->Q (.ref p) (qj L p<|.lst zs)):lcK (aj lo m) (λ_=>True) n g tc te τ L Q:=by
 refine gJ (keep:=λ_=>True) I (by rw[lW];exact hz) trivial h0 (λi y zs e U=>?_) λzs U=>l zs (by rw[lW] at U;exact U);obtain⟨o,rfl⟩:=xR e;exact turn i zs o U
theorem zX(ys:List Y)(n:Nat):gM ys (some ((n:Nat):Int)) none=ys.drop n:=by
 unfold gM;rw[HT.sIx_nat,HT.sIx_none];by_cases h:n<=ys.length
 ·rw[BU h,AV (by rw[Bm];simp +arith only)]
 ·rw[CA (by lia),Et<|Am _,Et (by lia),List.take_nil]
theorem ahj(ys:List Y)(n:Nat):gM ys none (some ((n:Nat):Int))=ys.take n:=by
 unfold gM;rw[HT.sIx_nat,HT.sIx_none,DQ,Nat.sub_zero];by_cases h:n<=ys.length
 ·rw[BU h]
 ·rw[CA (by lia),AV<|Am _,AV (by lia)]
theorem v5{I:List α}{f:α->Y}{w:α}(h:I[i]?=some w):eZ (I.map f) (i:Int)=some (f w):=jw (by rw[Aq,h];rfl)
def vo(t:vt)(n:Nat)(ys:List Y)(L:qr)(Q:YK):Prop:=t { nx:=λ_ L'=>hW Q .non L',rt:=hW Q } (ys.map some++List.replicate (n-ys.length) none) L
theorem x9{Q:YK}(h:Q y L):hW Q y L:=⟨L,EK L,h⟩
theorem lm{Q:YK}(s:qh L L')(h:Q y L):hW Q y L':=⟨L,s,h⟩
theorem Fn3.never{P:Program}{w:World}{K:Ah}{k:Nat}{sp:zp}(no:∀ys L Q,¬sp ys L Q):Fn3 P w K mg base k f fd ps sp:=
 bP.never λJ H Q E ψ=>(by obtain⟨ys,L,I,_,_,z,_⟩:=ψ;exact no ys L I z)
theorem qh.upd{a:Addr}{o:LO}(s:qh L L')(h:L a=none):qh L (qj L' a o):=λb u e=>by rw[qg<|aZ e h];exact s b u e
theorem qh.put{a:Addr}{o:LO}(s:qh L L')(h:L' a=some o):qh (qj L a o) L':=λb u e=>by
 by_cases c:b=a
 ·subst c;rw[q9] at e;cases e;exact h
 ·rw[qg c] at e;exact s b u e
theorem rW{G:G3}{H:Hp}:∀I:List Int,v3 G H (I.map Y.int)<|I.map V.int
 |[]=>rfl
 |_::r=>⟨_,_,rfl,rfl,rW r⟩
end L3
namespace L2
open PySem PySem.Spec PyProof.Rows
section
variable {σ:L2.St}
theorem lH(I:qw X pins σ H s)(U:∀b∈fp,H b=none)(k:∀b o,b∉fp->s.heap.get? b=some o->h'.get? b=some o):dm X.prog X.w H h':=λb u e=>by
 refine(I.hok b u e).stay (λc v g q=>k c v (λz=>?_) q) (λ_ q=>q) λ_ _ q=>q;have J:=U c z;rcases g with w|w
 ·rw[w,e] at J;cases J
 ·rw[w] at J;cases J
theorem yU{fs:List Addr}(k:∀b o,b∉fp->h.get? b=some o->h'.get? b=some o):Un fs fp H H h h':=
 ⟨λb o q _ _ x=>k b o x q,λb o q _ _ x=>⟨o.slots,k b o x q⟩,λ_ _ _ n _=>n,λb o q x=>⟨o,k b o x q⟩,λ_ _ q=>q,λ_ _ _ q=>q,λb I q=>⟨#[],by rw[q];simp⟩⟩
theorem qw.turnedL(I:qw X pins σ H s)(k:∀b o,b∉fp->s.heap.get? b=some o->h'.get? b=some o)(U:∀b∈fp,kB X pins H b)(g:0<t':=by walk_at "t"):qw X pins σ H { s with heap:=h',toks:=t' }:=
 I.call' (s':={ s with heap:=h',toks:=t' }) (ch:=fp) rfl (yU k) (lH I (λb J=>(U b J).1) k) I.bare λb J=>⟨(U b J).2.2.2.1,(U b J).2.1,(U b J).2.2.2.2.1,(U b J).2.2.2.2.2⟩
theorem qw.turnedN{a:Addr}{o:HO}(I:qw X pins σ H s)(k:∀b o,b∉fp->s.heap.get? b=some o->h'.get? b=some o)(U:∀b∈fp,kB X pins H b)(j:s.heap.objs.size<=a)
 (new:xi X.prog X.w (upd H a o) h' a o) (p:0<t':=by walk_at "t"):qw X pins σ (upd H a o) { s with heap:=h',toks:=t' }:=by
 have g:H a=none:=I.hok.fresh j;have lt:∀b ob,s.heap.get? b=some ob->b≠a:=λb ob q=>A4<|AO (r4 q) j;refine I.call' (s':={ s with heap:=h',toks:=t' }) (ch:=fp) rfl ?_ ?_ I.bare λb J=>⟨(U b J).2.2.2.1,(U b J).2.1,(U b J).2.2.2.2.1,(U b J).2.2.2.2.2⟩
 ·exact⟨λb ob q _ _ x=>k b ob x q,λb ob q _ _ x=>⟨ob.slots,k b ob x q⟩,λb ob q n _=>by rw[ql<|lt b ob q];exact n,λb ob q x=>⟨ob,k b ob x q⟩,
   λb l q=>by rw[ql<|zn q g];exact q,λb ob u q=>by rw[ql<|zn q g];exact q,λb r q=>⟨#[],by rw[ql<|zn q g,q];simp⟩⟩
 ·intro b u e;by_cases J:b=a
  ·subst J;rw[zh] at e;cases e;exact new
  ·rw[ql J] at e;have ok:=lH I (h':=h') (λb J=>(U b J).1) k b u e;exact ok.stay (λ_ _ _ q=>q) (λc q=>by rw[ql<|zn q g];exact q) λc l q=>by rw[ql<|zn q g];exact q
end
def Ite(K:Ah)(a:Addr):It:=
 ⟨λi H=>∃xs x,aI K H a xs/\xs[i]?=some x,λi H v H'=>∃p x,H p=none/\v=.ref p/\H'=upd H p (.tup [.int i,x])/\∀xs,aI K H a xs->xs[i]?=some x,λi H=>∃xs,aI K H a xs/\xs.length<=i⟩
theorem yZ{P:Program}{w:World}{K:Ah}(a e it:Addr)(l:e≠it):acx P w K (.Tuple mE x1 tp) (Ite K a) [e,it] e (λi h=>(∃old,IsEnum h e it i old)/\h.IsListIter it a i) where
 mem:=by simp
 obj:=λi h ψ b g=>by
  obtain⟨⟨old,J⟩,U⟩:=ψ
  rcases An.mp g with rfl|g
  ·exact⟨_,J,λv z=>by cases z⟩
  ·cases Al.mp g;obtain⟨o,T,hc,hd⟩:=U;exact⟨o,T,λv z=>by rw[hd] at z;cases z⟩
 keep:=λi h h' ψ k=>(by obtain⟨⟨old,J⟩,U⟩:=ψ;exact ⟨⟨old,k e (by simp) _ J⟩,U.at λo q=>k it (by simp) o q⟩)
 item:=by
  rintro X hP hw hK hc i r s σ H E I t ⟨⟨old,J⟩,U⟩ hg;subst hP hw hK;obtain⟨xs,x,C,hx⟩:=hg;obtain⟨a1,rv,p,hz⟩:=I.list C;obtain⟨u,hu,ru⟩:=rv.get hx;refine wpAny_pyNext_enum_item J U p.isList (x:=u) (by simpa using hu) l λh1 a2 a3 ht ac hk=>⟨.ref s.heap.objs.size,rfl,wpAny_letOwnedTupleGo_enum a2 λh2 a4 j=>?_⟩;have el:e<s.heap.objs.size:=r4 J;have il:it<s.heap.objs.size:=by obtain⟨o,T,_⟩:=U;exact r4 T
  have kk:∀b o,b∉[e,it]->s.heap.get? b=some o->h2.get? b=some o:=λb o nb q=>by have n1:b≠e:=λz=>nb (by simp[z]);have n2:b≠it:=λz=>nb (by simp[z]);exact j.extBut b o n1<|hk b o n1 n2 q
  have tg:h2.get? s.heap.objs.size=some { cls:=.type "tuple",data:=.seq #[.int i s.toks,u] }:=j.extBut _ _ (C2 el) ht;refine⟨.ref s.heap.objs.size,upd H s.heap.objs.size<|.tup [.int i,x],?_,rfl,⟨_,x,I.hok.fresh<|Am _,rfl,rfl,λys hy=>by rw[I.list_inj hy C];exact hx⟩,⟨⟨_,a4⟩,a3.at λo q=>j.extBut _ _ (AJ l) q⟩,λb g=>?_⟩
  ·exact I.turnedN (t':=s.toks+1) kk t (Am _) ⟨by show 2<=sizeLine;decide,[.int i s.toks,u],.cons ⟨_,rfl⟩<|.cons ru .nil,⟨_,tg,rfl,_,rfl⟩⟩
  ·have a5:b<s.heap.objs.size:=by rcases An.mp g with rfl|g;exact el;cases Al.mp g;exact il
   rw[ql<|A4 a5];exact(t b g).1
 done:=by rintro X hP hw hK hc i r s σ H E I t ⟨⟨old,J⟩,U⟩ hg;subst hP hw hK;obtain⟨xs,C,hx⟩:=hg;obtain⟨a1,rv,p,hz⟩:=I.list C;have hl:=rv.length;exact wpAny_pyNext_enum_end (I.ok.hd hc) J U p.isList (by simp;omega) λh1 eb=>⟨rfl,I.turnedL (t':=s.toks) (fp:=[e,it]) (λb o nb q=>eb b o (λz=>nb (by simp[z])) q) t⟩
 self:=λ_ _ _ _ _ ψ h=>(by obtain⟨⟨_,J⟩,_⟩:=ψ;exact wpAny_pyIter_enum J h)
def aow(K:Ah)(ta:TA):TI:=λσ H R=>ta σ H λvs H1=>∃a,vs=[.ref a]/\(∃xs,aI K H1 a xs)/\R (Ite K a) H1
theorem qT:bootBuiltins "enumerate"=some (.type "enumerate"):=by decide +kernel
theorem ahf{a:Expr}{ta:TA}{p:Pos}(T:Gl X "enumerate")(hm:X.mg "enumerate"=none)(ha:PA X [a] ta)(hs:starEach [a] X.env=[(false,eval a X.env)]:=by rfl):
 PI X (.Tuple mE x1 tp) (.Call (.Name "enumerate" p) [a] [] pos) (aow X.K ta):=by
 intro J s r H R I h;refine Call_<|fA I T hm qT<|CS (aH (ha pos J s r H _ I h) λus U ψ=>?_) hs rfl;obtain⟨vs,t,j,r1,q1⟩:=ψ;obtain⟨l,e,⟨xs,hq⟩,q⟩:=q1;subst e;obtain⟨u,rfl,ru⟩:=lT r1;cases ru;obtain⟨a1,rv,pl,hz⟩:=j.list hq;refine call_enumerate_list pl.isList λh1 C hi a2 hk=>?_;have I2:qw X J r t { U with heap:=h1 }:=j.kept (t':=U.toks) hk;refine wpAny_pyIter_enum (s:={ U with heap:=h1 }) C ?_;refine⟨U.heap.objs.size+1,[U.heap.objs.size+1,U.heap.objs.size],_,_,t,rfl,I2,yZ l _ _<|Nat.succ_ne_self _,⟨⟨_,C⟩,hi⟩,λb o=>?_,q⟩;have g:U.heap.objs.size<=b:=by rcases An.mp o with rfl|o;exact CY _;cases Al.mp o;exact Am _
 exact j.fpOk g<|j.hok.fresh g
end L2
namespace L3
open PySem L2
theorem jK{a:Addr}{keep:qr->Prop}(h:∀H L,jj H₀ H->ja G H L->keep L->∃xs,aI G.K H a xs/\v3 G H ys xs):ie G H₀ (Ite G.K a) (ys.zipIdx.map λp=>Y.tup [.int (p.2:Nat),p.1]) keep where
 go:=λi H L t I J o=>by
  obtain⟨xs,sq,r⟩:=h H L t I J;have:i<xs.length:=by rw[<-r.length];simpa using o
  exact⟨xs,xs[i],sq,Ak this⟩
 yld:=λi H L x H' y t I J l ψ=>by obtain⟨p,z,U,C,T,f⟩:=ψ;subst C T;obtain⟨xs,sq,r⟩:=h H L t I J;rw[Aq,List.getElem?_zipIdx] at l;obtain⟨⟨y',j⟩,ey,e3⟩:=Ax.mp l;obtain⟨a1,g,e4⟩:=Ax.mp ey;cases e4;subst e3;obtain⟨x',e',rv⟩:=r.get g;have:=f xs sq;rw[e'] at this;cases this;refine⟨EM U,I.skip U,p,_,rfl,dU.of zh,⟨_,_,rfl,?_,_,_,rfl,rv.ts<|EM U,rfl⟩⟩;show V.int _=V.int _;congr 1;simp
 stop:=λH L t I J=>by obtain⟨xs,sq,r⟩:=h H L t I J;exact⟨xs,sq,by rw[Ae,List.length_zipIdx,r.length];exact Am _⟩
def nL(ys:List Y):List Y:=ys.zipIdx.map λp=>Y.tup [.int (p.2:Nat),p.1]
theorem iC(h:(nL ys)[i]?=some y):∃z,ys[i]?=some z/\y=.tup [.int i,z]:=by unfold nL at h;rw[Aq,List.getElem?_zipIdx] at h;obtain⟨⟨J,j⟩,U,g⟩:=Ax.mp h;obtain⟨l,I,o⟩:=Ax.mp U;cases o;exact⟨J,I,by rw[<-g];simp⟩
theorem oQ(ys:List Y):(nL ys).length=ys.length:=by simp[nL]
def ab8(tl:xz)(τ:jn)(L:qr)(R:List Y->(qr->Prop)->qr->Prop):Prop:=tl τ L λx L1=>match x with
 |.ref a=>uK L1 a λys keep L=>R (nL ys) keep L
 |.sq ys=>R (nL ys) (λ_=>True) L1
 |_=>False
theorem kI{a:Expr}{p:Pos}(hg:Gl X "enumerate")(hm:X.mg "enumerate"=none)(ha:QE X a te)(hs:starEach [a] X.env=[(false,eval a X.env)]:=by rfl)
 (j:starEach [a] X.env=(false,eval a X.env)::starEach [] X.env:=by rfl):QI X (.Tuple mE x1 tp) (.Call (.Name "enumerate" p) [a] [] pos) (ab8 te):=PI.imq (ahf hg hm (aA ha dw j) hs) λσ H R τ L R3 rs l z k=>by
 refine⟨τ,L,_,rs,l,z,λv g y o T I U C=>?_⟩;cases y with
 |ref a=>
  obtain⟨ys,keep,es,kp,hk,z2⟩:=sg C;have hy:∀H L,jj g H->ja X.g3 H L->keep L->∃J,aI X.K H a J/\v3 X.g3 H ys J:=λH L _ l e=>fD l<|hk L e;obtain⟨J,sq,_⟩:=hy g o (EL _) I kp;cases U;exact⟨a,rfl,⟨J,sq⟩,k _ g _ _ o T I (jK hy) z2⟩
 |sq ys=>
  obtain⟨a,J,e,sf,r⟩:=U;subst e;exact⟨a,rfl,⟨J,sf.sq⟩,k _ g _ (λ_=>True) o T I (jK λH L t _ _=>⟨J,(sf.ts t).sq,r.ts t⟩) C⟩
 |_=>exact C.elim
end L3
namespace L2
open PySem PySem.Spec PyProof.Rows
def df(t:Bool)(h:Heap)(it l:Addr)(k:Nat):Prop:=match t with
 |false=>h.IsListIter it l k
 |true=>h.IsTupleIter it l k
def iN(t:Bool)(h:Heap)(l:Addr)(xs:Array Value):Prop:=match t with
 |false=>h.IsList l xs
 |true=>h.IsTuple l xs
theorem df.on{k:Nat}(x:df t h it l k)(e:∀o,h.get? it=some o->h'.get? it=some o):df t h' it l k:=by cases t with|false=>exact Heap.IsListIter.at x e|true=>exact Heap.IsTupleIter.at x e
theorem iN.on{xs:Array Value}(x:iN t h l xs)(e:∀o,h.get? l=some o->h'.get? l=some o):iN t h' l xs:=by cases t with|false=>exact Heap.IsList.at x e|true=>exact Heap.IsTuple.at x e
theorem df.ob{k:Nat}(x:df t h it l k):∃o,h.get? it=some o/\∀v,o.data≠.cell v:=by
 cases t with
 |false=>obtain⟨o,e,c,d⟩:=x;exact⟨o,e,λv z=>by rw[d] at z;cases z⟩
 |true=>obtain⟨o,e,c,d⟩:=x;exact⟨o,e,λv z=>by rw[d] at z;cases z⟩
theorem wS(l:Addr):¬((Value.ref l==Value.none)=true):=AG
section
variable {w:World}
theorem vZ{xs:Array Value}{x:Value}(hi:s.heap.IsTupleIter it l i)(U:s.heap.IsTuple l xs)(g:xs[i]?=some x)
 (q:∀h',h'.IsTupleIter it l (i+1)->Heap.SameBut it s.heap h'->Q x { s with heap:=h' }):wpAny (model prog w) A (Builtin.SmallTypes.nextOf<|.ref it) Q E s:=by
 obtain⟨o,J,ci,I⟩:=id hi;obtain⟨u,ul,_,n,dl⟩:=U;unfold Builtin.SmallTypes.nextOf;refine Aa<|wpAny_callSpecial?_slot (name:="__next__") hi.typeIs At<|wpAny_call_entry At hi.typeIs F.entry_tuple_iterator_next ?_<|F.args_tuple_iterator_next_1 _;refine Aa (m:=field (.ref it) 0)<|AW J I (x:=.ref l) rfl ?_;rw[Az<|wS l];refine Aa (m:=field (.ref it) 1)<|AW J I (x:=.int i 0) rfl<|Aa (m:=seqItems?<|.ref l)<|Bl ul dl ?_;simp only[BE,g];refine Aa<|wpAny_setField J I (by simp)<|Ag ⟨x,rfl,Ag<|q _ ⟨_,ya _ J<|Obj.isFreed_of_fields<|Obj.data_mapFields I _,(Obj.cls_mapFields ..).trans ci,?_⟩<|wh ..⟩;rw[Obj.data_mapFields I];simp[rawInt]
theorem yQ{xs:Array Value}(U:A.handled=none)(hi:s.heap.IsTupleIter it l i)(g:s.heap.IsTuple l xs)(j:xs[i]?=none)
 (q:∀h' e,Heap.ExtBut it s.heap h'->(∃o,h'.get? e=some o/\o.cls=.type "StopIteration")->E (.ref e) { s with heap:=h' }):wpAny (model prog w) A (Builtin.SmallTypes.nextOf<|.ref it) Q E s:=by
 obtain⟨o,I,ci,J⟩:=id hi;obtain⟨u,ul,_,n,dl⟩:=g;unfold Builtin.SmallTypes.nextOf;refine Aa<|wpAny_callSpecial?_slot (name:="__next__") hi.typeIs At<|wpAny_call_entry At hi.typeIs F.entry_tuple_iterator_next ?_<|F.args_tuple_iterator_next_1 _;refine Aa (m:=field (.ref it) 0)<|AW I J (x:=.ref l) rfl ?_;rw[Az<|wS l];refine Aa (m:=field (.ref it) 1)<|AW I J (x:=.int i 0) rfl<|Aa (m:=seqItems?<|.ref l)<|Bl ul dl ?_;simp only[BE,j];refine Aa<|BA<|Aa<|wpAny_setField I J (by simp) ?_;refine Aa (m:=newExc (.type "StopIteration") []) ?_;simp only[newExc,newTuple];refine Aa (Bz (Aa (m:=firstArgMember _ _) (wpAny_of_eq (a:=Value.none) (by first|rfl|(simp only[firstArgMember];rfl))<|Bz ?_ (by size_fits))) (by size_fits));simp only[raiseNew];refine Aa<|wpAny_handled ?_
 first|rw[show A.in1.handled=none from U]|rw[U]
 exact Aa<|Ag<|wpAny_throw<|q _ _ (((wh ..).extBut.push _).push _) ⟨_,sy _ rfl,rfl⟩
theorem df.next{xs:Array Value}{x:Value}(hi:df t s.heap it l i)(I:iN t s.heap l xs)(J:xs[i]?=some x)
 (q:∀h',df t h' it l (i+1)->Heap.SameBut it s.heap h'->Q x { s with heap:=h' }):wpAny (model prog w) A (Builtin.SmallTypes.nextOf<|.ref it) Q E s:=by
 cases t with|false=>exact wpAny_nextOf_list_item hi I J q|true=>exact vZ hi I J q
theorem df.stop{xs:Array Value}(I:A.handled=none)(hi:df t s.heap it l i)(J:iN t s.heap l xs)(U:xs[i]?=none)
 (q:∀h' e,Heap.ExtBut it s.heap h'->(∃o,h'.get? e=some o/\o.cls=.type "StopIteration")->E (.ref e) { s with heap:=h' }):wpAny (model prog w) A (Builtin.SmallTypes.nextOf<|.ref it) Q E s:=by
 cases t with|false=>exact wpAny_nextOf_list_end I hi J U q|true=>exact yQ I hi J U q
structure ZAp(z TI TO i1 i2 l1 l2:Addr):Prop where
 n1:TI≠z
 n2:TO≠z
 n3:i1≠z
 n4:i2≠z
 n5:TO≠i1
 n6:TO≠i2
 n7:i1≠i2
 n8:l1≠z
 n9:l1≠TO
 n10:l1≠i1
 n11:l1≠i2
 n12:l2≠z
 n13:l2≠TO
 n14:l2≠i1
 n15:l2≠i2
theorem aby{z TI TO:Addr}{k:Nat}{xs ys:Array Value}{x y a b:Value}(D:ZAp z TI TO i1 i2 l1 l2)(hz:IsZip s.heap z TI TO .none)(hI:IsPair s.heap TI (.ref i1)<|.ref i2)(hO:IsPair s.heap TO a b)
 (h1:df t1 s.heap i1 l1 k) (h2:df t2 s.heap i2 l2 k) (q1:iN t1 s.heap l1 xs) (q2:iN t2 s.heap l2 ys) (hx:xs[k]?=some x) (hy:ys[k]?=some y)
 (q:∀h',IsZip h' z TI TO (rawInt s.heap.objs.size)->IsPair h' TO x y->df t1 h' i1 l1 (k+1)->df t2 h' i2 l2 (k+1)->IsPair h' s.heap.objs.size x y->
  (∀c o,c≠z->c≠TO->c≠i1->c≠i2->s.heap.get? c=some o->h'.get? c=some o)->Q (.ref s.heap.objs.size) { s with heap:=h' }):
 wpAny (model prog w) A (Builtin.«zip.__next__» ⟨[.ref z],[]⟩) (λx9 s'=>∃v,x9=.done (.ret v)/\Q v s') E s:=by
 refine Aa (m:=field (.ref z) 2)<|AW hz rfl (x:=.bool false) rfl<|Aa (m:=field (.ref z) 3)<|AW hz rfl (x:=.ref TI) rfl<|Aa<|Bl hI rfl ?_;refine Aa (m:=Builtin.SmallTypes.ownedTupleIsFree<|.ref z) ?_;unfold Builtin.SmallTypes.ownedTupleIsFree;refine Aa<|AW hz rfl (x:=.none) rfl<|Ag ?_;simp only[if_true];refine Aa<|BA<|Aa<|AW hz rfl (x:=.ref TO) rfl<|Aa<|wpAny_setField_rec hz (by simp) λg1 z1 J=>?_;have a5:IsZip g1 z TI TO .ellipsis:=z1;refine Aa ?_;simp only[Em,List.zipIdx_nil,Cr,Dt];refine Aa<|Aa<|wpAny_onRaise<|Aa (m:=Builtin.SmallTypes.nextOf<|.ref i1)<|(h1.on λo e=>J.extBut _ _ D.n3 e).next (q1.on λo e=>J.extBut _ _ D.n8 e) hx λg2 ac g=>Ag ?_;have O2:IsPair g2 TO a b:=g.extBut _ _ D.n5<|J.extBut _ _ D.n2 hO;refine Aa<|Bl O2 rfl<|Aa<|wpAny_updateSeq_pair O2 λg3 O3 j=>Aa<|wpAny_letGo<|Ag ?_;have al:IsPair g3 TO x b:=O3;refine Aa (Aa (wpAny_onRaise (Aa (m:=Builtin.SmallTypes.nextOf<|.ref i2) (df.next (l:=l2) (i:=k) (xs:=ys) (x:=y) (t:=t2) (h2.on λo e=>j.extBut _ _ (AJ D.n6)<|g.extBut _ _ (AJ D.n7)<|J.extBut _ _ D.n4 e)
  (q2.on λo e=>j.extBut _ _ D.n13<|g.extBut _ _ D.n14<|J.extBut _ _ D.n12 e) hy λg4 au p=>Ag ?_))))
 have O4:IsPair g4 TO x b:=p.extBut _ _ D.n6 al;refine Aa<|Bl O4 rfl<|Aa<|wpAny_updateSeq_pair O4 λI O5 r=>Aa<|wpAny_letGo<|Ag<|Ag ?_;have C:IsPair I TO x y:=O5;refine Aa<|Bl C rfl<|Aa<|wpAny_newTuple ?_;have sz:I.objs.size=s.heap.objs.size:=by rw[r.1,p.1,j.1,g.1,J.1]
 have z5:IsZip I z TI TO .ellipsis:=r.extBut _ _ (AJ D.n2)<|p.extBut _ _ (AJ D.n4)<|j.extBut _ _ (AJ D.n2)<|g.extBut _ _ (AJ D.n3) a5;have k5:∀c o,c≠z->c≠TO->c≠i1->c≠i2->s.heap.get? c=some o->I.get? c=some o:=λc o U T a3 a4 e=>r.extBut _ _ T<|p.extBut _ _ a4<|j.extBut _ _ T<|g.extBut _ _ a3<|J.extBut _ _ U e;have zl:z<I.objs.size:=r4 z5;refine Aa (m:=Builtin.SmallTypes.ownedTupleHandOut (.ref z)<|.ref I.objs.size) ?_;unfold Builtin.SmallTypes.ownedTupleHandOut;refine Aa<|wpAny_setField_rec (show IsZip (I.push { cls:=.type "tuple",data:=.seq #[x,y] }) z TI TO .ellipsis from qy _ z5) (by simp) λg7 z7 e7=>?_;have av:IsZip g7 z TI TO (rawInt I.objs.size):=z7;refine wpAny_setField_rec av (by simp) λg8 z8 e8=>Ag ⟨_,rfl,?_⟩;have ax:IsZip g8 z TI TO (rawInt I.objs.size):=z8;have up:∀c o,c≠z->I.get? c=some o->g8.get? c=some o:=λc o U e=>e8.extBut _ _ U<|e7.extBut _ _ U<|qy _ e;have T8:IsPair g8 I.objs.size x y:=e8.extBut _ _ (C2 zl)<|e7.extBut _ _ (C2 zl)<|sy _ rfl;have x9:=q g8 (by rw[<-sz];exact ax) (up _ _ D.n2 C) (ac.on λo e=>up _ o D.n3<|r.extBut _ _ (AJ D.n5)<|p.extBut _ _ D.n7<|j.extBut _ _ (AJ D.n5) e) (au.on λo e=>up _ o D.n4<|r.extBut _ _ (AJ D.n6) e)
  (by rw[<-sz];exact T8) λc o U T a3 a4 e=>up c o U<|k5 c o U T a3 a4 e
 show Q (.ref I.objs.size) _;rw[sz];exact x9
theorem ac9{z TI TO:Addr}{k:Nat}{xs ys:Array Value}{a b:Value}{Q:Fin->Shared->Prop}(hh:A.handled=none)(D:ZAp z TI TO i1 i2 l1 l2)(hz:IsZip s.heap z TI TO .none)(hI:IsPair s.heap TI (.ref i1)<|.ref i2)(hO:IsPair s.heap TO a b)
 (h1:df t1 s.heap i1 l1 k) (h2:df t2 s.heap i2 l2 k) (q1:iN t1 s.heap l1 xs) (q2:iN t2 s.heap l2 ys) (J:xs[k]?=none\/ys[k]?=none)
 (q:∀h' e,(∀c o,c≠z->c≠TO->c≠i1->c≠i2->s.heap.get? c=some o->h'.get? c=some o)->(∃o,h'.get? e=some o/\o.cls=.type "StopIteration")->E (.ref e) { s with heap:=h' }):
 wpAny (model prog w) A (Builtin.«zip.__next__» ⟨[.ref z],[]⟩) Q E s:=by
 refine Aa (m:=field (.ref z) 2)<|AW hz rfl (x:=.bool false) rfl<|Aa (m:=field (.ref z) 3)<|AW hz rfl (x:=.ref TI) rfl<|Aa<|Bl hI rfl ?_;refine Aa (m:=Builtin.SmallTypes.ownedTupleIsFree<|.ref z) ?_;unfold Builtin.SmallTypes.ownedTupleIsFree;refine Aa<|AW hz rfl (x:=.none) rfl<|Ag ?_;simp only[if_true];refine Aa<|BA<|Aa<|AW hz rfl (x:=.ref TO) rfl<|Aa<|wpAny_setField_rec hz (by simp) λg1 z1 I=>?_;have U:IsZip g1 z TI TO .ellipsis:=z1;refine Aa ?_;simp only[Em,List.zipIdx_nil,Cr,Dt];refine Aa<|Aa<|wpAny_onRaise<|Aa (m:=Builtin.SmallTypes.nextOf<|.ref i1) ?_;have g:=h1.on λo e=>I.extBut _ _ D.n3 e;have j:=q1.on λo e=>I.extBut _ _ D.n8 e;cases T:xs[k]? with
 |none=>
  refine df.stop hh g j T λg2 e s2 he=>?_;obtain⟨oe,ge,ce⟩:=he;have z2:IsZip g2 z TI TO .ellipsis:=s2 _ _ (AJ D.n3) U;have nz:e≠z:=λw=>by subst w;rw[z2] at ge;cases ge;simp at ce
  exact wpAny_setField_rec z2 (by simp) λg3 _ s3=>q g3 e (λc o p _ a3 _ w=>s3.extBut _ _ p<|s2 _ _ a3<|I.extBut _ _ p w) ⟨oe,s3.extBut _ _ nz ge,ce⟩
 |some x=>
  have hy:ys[k]?=none:=by rcases J with h|h;rw[T] at h;cases h;exact h
  refine df.next g j T λg2 a5 r=>Ag ?_;have O2:IsPair g2 TO a b:=r.extBut _ _ D.n5<|I.extBut _ _ D.n2 hO;refine Aa<|Bl O2 rfl<|Aa<|wpAny_updateSeq_pair O2 λg3 O3 C=>Aa<|wpAny_letGo<|Ag ?_;refine Aa (Aa (wpAny_onRaise (Aa (m:=Builtin.SmallTypes.nextOf<|.ref i2) (df.stop (t:=t2) (l:=l2) (i:=k) (xs:=ys) hh (h2.on λo e=>C.extBut _ _ (AJ D.n6)<|r.extBut _ _ (AJ D.n7)<|I.extBut _ _ D.n4 e)
   (q2.on λo e=>C.extBut _ _ D.n13<|r.extBut _ _ D.n14<|I.extBut _ _ D.n12 e) hy λg4 e s4 he=>?_))))
  obtain⟨oe,ge,ce⟩:=he;have z4:IsZip g4 z TI TO .ellipsis:=s4 _ _ (AJ D.n4)<|C.extBut _ _ (AJ D.n2)<|r.extBut _ _ (AJ D.n3) U;have nz:e≠z:=λw=>by subst w;rw[z4] at ge;cases ge;simp at ce
  exact wpAny_setField_rec z4 (by simp) λg5 _ s5=>q g5 e (λc o p a2 a3 a4 w=>s5.extBut _ _ p<|s4 _ _ a4<|C.extBut _ _ a2<|r.extBut _ _ a3<|I.extBut _ _ p w) ⟨oe,s5.extBut _ _ nz ge,ce⟩
end
def ael(t:Bool):String:=if t then "tuple_iterator" else "list_iterator"
section
variable {w:World}
theorem iN.iter{xs:Array Value}(I:iN t s.heap l xs)(q:Q (.ref s.heap.objs.size) { s with heap:=s.heap.push { cls:=.type<|ael t,data:=.fields #[.ref l,.int 0 0] } }):wpAny (model prog w) A (pyIter<|.ref l) Q E s:=by cases t with|false=>exact wpAny_pyIter_list I q|true=>exact wpAny_pyIter_tuple I q
end
theorem df.new(e:h.get? it=some { cls:=.type<|ael t,data:=.fields #[.ref l,.int 0 0] }):df t h it l 0:=by cases t with|false=>exact⟨_,e,rfl,rfl⟩|true=>exact⟨_,e,rfl,rfl⟩
abbrev zh1(t1:Bool)(h:Heap)(l1:Addr):Heap:=h.push { cls:=.type<|ael t1,data:=.fields #[.ref l1,.int 0 0] }
abbrev zh2(t1 t2:Bool)(h:Heap)(l1 l2:Addr):Heap:=(zh1 t1 h l1).push { cls:=.type<|ael t2,data:=.fields #[.ref l2,.int 0 0] }
abbrev zh3(t1 t2:Bool)(h:Heap)(l1 l2:Addr):Heap:=(zh2 t1 t2 h l1 l2).push { cls:=.type "tuple",data:=.seq #[.ref h.objs.size,.ref (zh1 t1 h l1).objs.size] }
abbrev zh4(t1 t2:Bool)(h:Heap)(l1 l2:Addr):Heap:=(zh3 t1 t2 h l1 l2).push { cls:=.type "tuple",data:=.seq #[.none,.none] }
abbrev zh5(t1 t2:Bool)(h:Heap)(l1 l2:Addr):Heap:=(zh4 t1 t2 h l1 l2).push { cls:=.type "zip",data:=.fields #[.none,.bool false,.bool false,.ref (zh2 t1 t2 h l1 l2).objs.size,.ref (zh3 t1 t2 h l1 l2).objs.size] }
theorem uw(t1 t2:Bool)(l1 l2:Addr)(xs ys:Array Value):Meets (Builtin.«zip.__new__» ⟨[.type "zip",.ref l1,.ref l2],[]⟩) (λ_ R s=>iN t1 s.heap l1 xs/\iN t2 s.heap l2 ys/\R (.ok<|.ret<|.ref (zh4 t1 t2 s.heap l1 l2).objs.size) { s with heap:=zh5 t1 t2 s.heap l1 l2 }):=
 .of_wp λI w A R s h=>by
  obtain⟨J,g,d,tk,os⟩:=s;obtain⟨j,l,h⟩:=h;have U:=sub_zip;have p:iN t1 (Shared.heap ⟨J,g,d,tk,os⟩) l1 xs:=j;have r:iN t2 (Shared.heap ⟨J.push { cls:=.type<|ael t1,data:=.fields #[.ref l1,.int 0 0] },g,d,tk,os⟩) l2 ys:=l.on λo e=>qy _ e
  wp_walk using iN.iter p,iN.iter r
  exact⟨_,rfl,h⟩
theorem yW{w:World}{xs ys:Array Value}(p:iN t1 s.heap l1 xs)(r:iN t2 s.heap l2 ys)
 (q:∀h',IsZip h' (s.heap.objs.size+4) (s.heap.objs.size+2) (s.heap.objs.size+3) .none->IsPair h' (s.heap.objs.size+2) (.ref s.heap.objs.size) (.ref<|s.heap.objs.size+1)->IsPair h' (s.heap.objs.size+3) .none .none->
  df t1 h' s.heap.objs.size l1 0->df t2 h' (s.heap.objs.size+1) l2 0->(∀c o,s.heap.get? c=some o->h'.get? c=some o)->Q (.ref<|s.heap.objs.size+4) { s with heap:=h' }):
 wpAny (model prog w) A (call (.type "zip") [.ref l1,.ref l2]) Q E s:=by
 refine callType_new F.called_zip (by decide) (F.typeCall_zip_2 _ _) (F.newCall_zip_2 _ _) (λobj=>F.args_object_init_3 obj _ _) F.entry_zip_new (uw t1 t2 l1 l2 xs ys) ⟨p,r,?_⟩;have I:(zh1 t1 s.heap l1).objs.size=s.heap.objs.size+1:=Fe ..;have J:(zh2 t1 t2 s.heap l1 l2).objs.size=s.heap.objs.size+2:=by rw[Fe,I]
 have U:(zh3 t1 t2 s.heap l1 l2).objs.size=s.heap.objs.size+3:=by rw[Fe,J]
 have j:(zh4 t1 t2 s.heap l1 l2).objs.size=s.heap.objs.size+4:=by rw[Fe,U]
 have g:(zh5 t1 t2 s.heap l1 l2).get? (zh4 t1 t2 s.heap l1 l2).objs.size=some _:=sy _ rfl;have l:(zh5 t1 t2 s.heap l1 l2).get? (zh3 t1 t2 s.heap l1 l2).objs.size=some _:=qy _<|sy _ rfl;have g3:(zh5 t1 t2 s.heap l1 l2).get? (zh2 t1 t2 s.heap l1 l2).objs.size=some _:=qy _<|qy _<|sy _ rfl;have g2:(zh5 t1 t2 s.heap l1 l2).get? (zh1 t1 s.heap l1).objs.size=some _:=qy _<|qy _<|qy _<|sy _ rfl;have g1:(zh5 t1 t2 s.heap l1 l2).get? s.heap.objs.size=some _:=qy _<|qy _<|qy _<|qy _<|sy _ rfl;show _/\_;rw[J,U,j] at g;rw[I,J] at g3;rw[U] at l;rw[I] at g2;rw[j];exact⟨⟨_,g,rfl⟩,q _ g g3 l (df.new g1) (df.new g2) λc o e=>qy _<|qy _<|qy _<|qy _<|qy _ e⟩
def Sq(t:Bool)(K:Ah)(H:Hp)(a:Addr)(xs:List V):Prop:=match t with
 |false=>aI K H a xs
 |true=>dU K H a xs
section
variable {σ:L2.St}
theorem qw.seq{a:Addr}(I:qw X pins σ H s)(h:Sq t X.K H a xs):∃eA:List Value,zw xs eA/\iN t s.heap a eA.toArray/\xs.length<=sizeLine:=by
 cases t with
 |false=>obtain⟨eA,v,p,z⟩:=I.list h;exact⟨eA,v,p.isList,z⟩
 |true=>obtain⟨eA,v,p,z⟩:=I.tuple h;exact⟨eA,v,p,z⟩
end
theorem al8:bootBuiltins "zip"=some (.type "zip"):=by decide +kernel
end L2
namespace L3
open PySem L2
theorem adl{v:V}(I:ja G H L)(r:RV G H y v)(h:cj L y=some ys):∃t p xs,v=.ref p/\Sq t G.K H p xs/\v3 G H ys xs:=by
 obtain⟨p,xs,e,s,q⟩:=lL I r h;rcases s with s|s
 ·exact⟨false,p,xs,e,s,q⟩
 ·exact⟨true,p,xs,e,s,q⟩
def akw(xs ys:List Y):List Y:=List.zipWith (λa b=>Y.tup [a,b]) xs ys
def kH(xs:List Y)(L:qr)(Q:YK):Prop:=match xs with
 |[x]=>mD L x λys=>∀p,L p=none->Q (.ref p) (qj L p<|.lst ys)
 |_=>False
theorem bF :jo X (.type "list") (upL X.g3 kH):=EZ rP λt H Q C L T U I z k=>by
 unfold kH at z;split at z
 ·rename_i x;obtain⟨u,rfl,g⟩:=U.inv1;obtain⟨zs,j,z⟩:=bK z;obtain⟨p,o,e,sq,r⟩:=lL I g j;subst e;exact⟨p,o,rfl,sq,λl J=>k _ _ _ _ (EM J) (I.newL J r) (by rfl)<|z l<|I.none J⟩
 ·exact z.elim
theorem aW{T:String}{tr:f9}{p:Pos}{r:List Y->qr->YK->Prop}(hc:jo X (.type T)<|upL X.g3 r)(U:Gl X x)(g:X.mg x=none)(j:bootBuiltins x=some (.type T))(h:QA X (e::es) tr)
 (l:x ≠ "__name__" := by decide) (hd:Fb x:=by decide) (hs:E8 e es X:=by rfl) (o:E9 pos es X:=by rfl):
 QE X (.Call (.Name x p) (e::es) [] pos) (af r tr):=EN (iy hc U g j h l hd hs o) λσ H Q t L C rs rl z k=>
 ⟨t,L,_,rs,rl,z,λvs H1 ys L1 t1 I J z1=>⟨ys,L1,C,J,I,z1,k.ts t1⟩⟩
def pq(x:Y)(vs:List Y)(L:qr)(Q:YK):Prop:=match x,vs with
 |.ref a,[.int i]=>fM L a λys=>0<=i/\i<ys.length/\atK L (λv L=>Q v<|qj L a<|.lst<|ys.eraseIdx i.toNat) (ys[i.toNat]?)
 |_,_=>False
theorem ag8 :oh X "list.pop" (upM X.g3 pq):=λJ s l H x xs v o Q I p t ψ=>by
 obtain⟨y,ys,L,Q3,C,T,j,z,k⟩:=ψ
 unfold pq at z;split at z
 ·rename_i a i;obtain⟨zs,e,h0,h1,z⟩:=kn z;obtain⟨ws,U,r⟩:=j a _ e;obtain⟨i',rfl,ri⟩:=T.inv1;cases ri;cases g:zs[i.toNat]? with
  |none=>rw[g] at z;exact z.elim
  |some w=>
   rw[g] at z;obtain⟨u,eu,ru⟩:=r.get g;obtain⟨_,_,_,hz⟩:=I.list<|aI.of U;have hl:=r.length;have hs:sizeLine<2 ^ 62:=by decide
   refine aav J s l H x _ v o Q I p t ⟨a,ws,i,i.toNat,u,C,rfl,U,by lia,by lia,?_,eu,k _ _ _ _ (E5 U) (j.setL U<|r.eraseIdx _) (ru.ts<|E5 U) z⟩;unfold seqIndex?;rw[Az (show ¬i<0 by lia),AA (by simp;lia)]
 ·exact z.elim
theorem cc{tr:f9}(I:QE X o to)(J:QA X (e::es) tr)(U:attributeBase o "pop" X.env (eval o X.env)=eval o X.env:=by rfl)
 (g:((backTo fx<|starEach (e::es) X.env).all (λx=>!x.1)&&(backToKw fx<|keywordEach [] X.env).all (λx=>x.1.isSome)&&decide ((e::es).length+([]:List Keyword).length+(if ([]:List Keyword).isEmpty=true then 0 else 1)<30))=true:=by rfl)
 (j:(apos.endLine==fx.line)=true:=by rfl) (l:E8 e es X:=by rfl) (p:E9 fx es X:=by rfl):
 QE X (.Call (.Attribute o "pop" apos) (e::es) [] fx) (eI pq to tr):=vJ PySem.F.slot_list_pop PySem.F.type_list_pop ag8 I J U g j l p
end L3
namespace L2
open PySem PySem.Spec PyProof.Rows
theorem xP(i:Int)(n d:Nat):max 0 (min (if i<0 then i+(n:Int) else i) n)=((HT.sIx n d (some i):Nat):Int):=by
 simp only[HT.sIx];by_cases h:i<0
 ·simp only[h,if_true]<;>lia
 ·simp only[h,if_false]<;>lia
theorem yr(l u:Option Int)(n:Nat):Builtin.Str.strSliceIndices l u 1 n=(List.range<|HT.sIx n n u-HT.sIx n 0 l).map (HT.sIx n 0 l+·):=by
 have z:(0:Int)=((HT.sIx n 0 none:Nat):Int):=rfl;have y:(n:Int)=((HT.sIx n n none:Nat):Int):=rfl;unfold Builtin.Str.strSliceIndices;cases l with
 |none=>
  cases u with
  |none=>exact sliceRange_one 0 n
  |some j=>
   show sliceRange 0 (max 0<|min (if j<0 then j+(n:Int) else j) n) 1=_;rw[xP j n n];exact sliceRange_one 0 _
 |some i=>
  cases u with
  |none=>
   show sliceRange (max 0<|min (if i<0 then i+(n:Int) else i) n) n 1=_;rw[xP i n 0];exact sliceRange_one _ n
  |some j=>
   show sliceRange (max 0<|min (if i<0 then i+(n:Int) else i) n) (max 0<|min (if j<0 then j+(n:Int) else j) n) 1=_;rw[xP i n 0,xP j n n];exact sliceRange_one _ _
theorem oJ(x:Str)(l u:Option Int):(Txt.slice x l u).cps.toList=(x.cps.toList.drop<|HT.sIx x.length 0 l).take (HT.sIx x.length x.length u-HT.sIx x.length 0 l):=by
 have U:x.length=x.cps.toList.length:=by simp[Str.length]
 have I:=pick_run x.cps (HT.sIx x.length 0 l)<|HT.sIx x.length x.length u-HT.sIx x.length 0 l;unfold Txt.slice;rw[yr];split
 ·rename_i h;simp only[beq_self_eq_true,Bool.true_and,Ae,BZ,beq_iff_eq] at h;have h1:=HT.sIx_le x.length 0 (Be _) l;have h2:=HT.sIx_le x.length x.length (Am _) u;have J:HT.sIx x.length 0 l=0:=by lia
  rw[h,J,DQ,AV (by exact tz)]
 ·show(List.filterMap (λi=>x.cps[i]?) _).toArray.toList=_;rw[List.toList_toArray];exact I
def aqr:V->Option Int->Option Int->Hp->VK->Prop:=λx lo hi H Q=>∃z,x=.str z/\z.length<=sizeLine/\Q (.str<|Txt.slice z lo hi) H
theorem akl:rU X aqr:=by
 intro J s σ H x v U g lo j sl Q I o p pl r h;obtain⟨z,rfl,C,q⟩:=h;obtain⟨t,rfl⟩:=o;obtain⟨l,rfl,T⟩:∃l:Option (Int×Tok),U=partValue l/\l.map (·.1)=lo:=by cases pl with|none=>exact⟨none,rfl,rfl⟩|int i t=>exact⟨some (i,t),rfl,rfl⟩
 obtain⟨u,rfl,hu⟩:∃u:Option (Int×Tok),g=partValue u/\u.map (·.1)=j:=by cases r with|none=>exact⟨none,rfl,rfl⟩|int i t=>exact⟨some (i,t),rfl,rfl⟩
 subst T hu;refine⟨"str",_,F.slot_str_getitem.lookup,typeIs_str _ _ _,jq I.tk<|wpAny_getItem_str_slice (l:=l) (u:=u) (st:=none) p rfl ?_⟩;exact post_val_or_str ⟨A0 (Txt.slice_le z _ _) C,λt' k ht=>⟨.str _,H,I.tok _,⟨t',rfl⟩,q⟩⟩
theorem vQ{zs:List Str}:∀{us:List Value},zw (zs.map V.str) us->StrsAre us zs:=by
 induction zs with
 |nil=>intro us r;rw[Ds] at r;cases r;exact .nil
 |cons z zs I=>
  intro us r;rw[AF] at r;cases r with
  |cons J U=>
   obtain⟨t,e⟩:=J;subst e;exact .cons z t<|I U
def ao4(K:Ah):V->List V->Hp->VK->Prop:=λx vs H Q=>∃z a zs,x=.str z/\vs=[.ref a]/\aI K H a ((zs:List Str).map V.str)/\(zs.map (·.length)).sum+zs.length*z.length<=16777216/\Q (.str<|Txt.join z zs) H
theorem ai2:oh X "str.join" (ao4 X.K):=by intro J s σ H x vs v us Q I U g h;obtain⟨z,a,zs,rfl,rfl,j,l,q⟩:=h;obtain⟨t,rfl⟩:=U;obtain⟨u,rfl,o⟩:=g.one;cases o;obtain⟨C,r,p,_⟩:=I.list j;exact jq I.tk<|PyProof.Rows.join_list p.isList (by simpa using vQ r) l λT k ht=>⟨.str _,H,I.tok _,⟨T,rfl⟩,q⟩
end L2
namespace L3
open PySem L2
def ae9(x:Y)(lo hi:Option Int)(L:qr)(Q:YK):Prop:=match x with
 |.str z=>z.length<=sizeLine/\Q (.str<|Txt.slice z lo hi) L
 |x=>aor x lo hi L Q
theorem oW(K:Ah)(P:Program)(w:World)(U:X.K=K:=by rfl)(g:X.prog=P:=by rfl)(hw:X.w=w:=by rfl):rU X (ai0 ⟨K,P,w⟩ ae9):=by refine rU.imp (akl.or<|ap1 K P w U g hw) λx lo l H Q ψ=>?_;obtain⟨y,L,j,I,J,z,k⟩:=ψ;cases y with|str s=>exact .inl ⟨s,I,z.1,k _ H _ L (EL _) J (by rfl) z.2⟩|_=>exact .inr ⟨_,L,j,I,J,z,k⟩
def yBS(r:Y->List Y->qr->YK->Prop)(to:xz)(t:f9)(τ:jn)(L:qr)(Q:YK):Prop:=to τ L λx L1=>match x with
 |.str z=>t τ L1 λxs L2=>r (.str z) xs L2 Q
 |_=>False
theorem aki{tr:f9}{id:String}{r:Y->List Y->qr->YK->Prop}(h2:Slot "str" name id)(h3:typeOf (.builtin id)=pure (.type "method_descriptor"))(C:oh X id<|upM X.g3 r)(T:QE X o to)(ha:QA X (e::es) tr)
 (h4:attributeBase o name X.env (eval o X.env)=eval o X.env:=by rfl)
 (h5:((backTo fx<|starEach (e::es) X.env).all (λx=>!x.1)&&(backToKw fx<|keywordEach [] X.env).all (λx=>x.1.isSome)&&decide ((e::es).length+([]:List Keyword).length+(if ([]:List Keyword).isEmpty=true then 0 else 1)<30))=true:=by rfl)
 (h6:(apos.endLine==fx.line)=true:=by rfl) (h7:E8 e es X:=by rfl) (h8:E9 fx es X:=by rfl):
 QE X (.Call (.Attribute o name apos) (e::es) [] fx) (yBS r to tr):=EN (aij PySem.F.plainAttrs_str h2 h3 C T ha h4 h5 h6 h7 h8) λσ H Q l L Q3 p rl z k=>
 ⟨l,L,_,p,rl,z,λv H1 y L1 t I J U=>by
  split at U
  ·rename_i s;cases J;exact⟨rfl,l,L1,_,p.ts t,I,U,λvs H2 ys L2 t2 g j z2=>⟨.str s,ys,L2,Q3,rfl,j,g,z2,k.ts<|t.trans t2⟩⟩
  ·exact U.elim⟩
theorem sR{G:G3}{H:Hp}:∀{zs:List Str} {xs:List V},v3 G H (zs.map Y.str) xs->xs=zs.map V.str
 |[],_,h=>h
 |z::r,_,ψ=>by obtain⟨x,I,e,q,s⟩:=ψ;rw[e,show x=V.str z from q,sR s];rfl
def adj(x:Y)(vs:List Y)(L:qr)(Q:YK):Prop:=match x,vs with
 |.str z,[.ref a]=>fM L a λys=>∃zs,ys=zs.map Y.str/\(zs.map (·.length)).sum+zs.length*z.length<=16777216/\Q (.str<|Txt.join z zs) L
 |_,_=>False
theorem amb :oh X "str.join" (upM X.g3 adj):=oh.imq ai2 λx p H Q y t L C U g I z k=>by
 unfold adj at z;split at z
 ·rename_i s a;obtain⟨T,e,j,rfl,l,z⟩:=kn z;obtain⟨ws,J,r⟩:=I a _ e;obtain⟨u,rfl,o⟩:=g.inv1;cases o;rw[sR r] at J;exact⟨s,a,j,U,rfl,aI.of J,l,k _ H _ L (EL _) I (by rfl) z⟩
 ·exact z.elim
theorem ahw{tr:f9}(I:QE X o to)(J:QA X (e::es) tr)(U:attributeBase o "join" X.env (eval o X.env)=eval o X.env:=by rfl)
 (g:((backTo fx<|starEach (e::es) X.env).all (λx=>!x.1)&&(backToKw fx<|keywordEach [] X.env).all (λx=>x.1.isSome)&&decide ((e::es).length+([]:List Keyword).length+(if ([]:List Keyword).isEmpty=true then 0 else 1)<30))=true:=by rfl)
 (j:(apos.endLine==fx.line)=true:=by rfl) (l:E8 e es X:=by rfl) (p:E9 fx es X:=by rfl):
 QE X (.Call (.Attribute o "join" apos) (e::es) [] fx) (yBS adj to tr):=aki PySem.F.slot_str_join PySem.F.type_str_join amb I J U g j l p
theorem ph(zs:List Str):(Txt.join "" zs).cps.toList=zs.flatMap λz=>z.cps.toList:=by
 have e:∀zs:List Str,(Str.join "" zs).cps.toList=zs.flatMap λz=>z.cps.toList:=by
  intro zs
  induction zs with
  |nil=>rfl
  |cons z r I=>
   cases r with
   |nil=>simp[Str.join]
   |cons y r=>
    show(z ++ "" ++ Str.join "" (y::r)).cps.toList=_;have:(z ++ "" ++ Str.join "" (y::r)).cps=z.cps++#[]++(Str.join ""<|y::r).cps:=rfl;rw[this];simp only[A9,I,Bq,Array.append_empty]
 exact(BG (λx:Str=>x.cps.toList)<|StrLaws.glued_eq_join "" zs).trans (e zs)
def oH(t u:vt)(D:x6)(τ:jn)(L:qr):Prop:=∃J:jn->qr->Prop,t { D with nx:=J } τ L/\∀I L',J I L'->u D I L'
theorem xn{rest:List Stmt}{t u:vt}(h:QS X st t)(k:nv X rest u):nv X (st::rest) (oH t u):=gl.imp (u0 h k) λD σ H ψ=>by
 obtain⟨l,L,D3,o,p,⟨J,z,q⟩,k⟩:=ψ
 exact ⟨l,L,{ D3 with nx:=J },o,p,z,λr H1 I j C U g T=>⟨I,j,D3,U,g,q I j T,k.ts C⟩,k.rt,k.bk,k.ct⟩
theorem oU{a b:Addr}{o u:LO}(h:a≠b):qj (qj L a o) b u=qj (qj L b u) a o:=by
 funext c;by_cases h1:c=a
 ·subst h1;rw[qg h,q9,q9]
 ·by_cases h2:c=b
  ·subst h2;rw[q9,qg h1,q9]
  ·rw[qg h2,qg h1,qg h1,qg h2]
abbrev X3:=jn->Addr->qr->Prop
abbrev fW:=List Y->qr->YK->(Addr->qr->Prop)->Prop
def upX(G:G3)(E3:X3):X1:=λσ c H=>∃C τ L,c=.ref C/\xc G H σ τ/\ja G H L/\E3 τ C L
def aoc(G:G3)(H:Hp)(E3:Addr->qr->Prop)(E:XK):Prop:=∀C H' L',jj H H'->ja G H' L'->E3 C L'->E (.ref C) none H'
def dnX(G:G3)(sp:fW):Sp:=λvs H Q E=>∃ys L I E3,v3 G H ys vs/\ja G H L/\sp ys L I E3/\sP G H I Q/\aoc G H E3 E
def tw(E3:Addr->qr->Prop):X3:=λ_ C L=>∃L2,qh L2 L/\E3 C L2
abbrev aps(P:Program)(w:World)(K:Ah)(mg:Str->Option Value)(base:Heap)(k:Nat)(f:Addr)(fd:FuncData)(ps:List Str)(sp:fW):Prop:=bP P w K mg base (CXE P w) k f fd ps<|dnX ⟨K,P,w⟩ sp
structure jX(P:Program)(w:World)(K:Ah)(mg:Str->Option Value)(base:Heap)(k:Nat)(x:Str)(ps:List Str)(sp:fW):Prop where
 ex:∃f fd,aps P w K mg base k f fd ps sp/\da K fd ps []/\PySem.W.keepIn K (.ref f)=true/\mg x=some (.ref f)
theorem jX.mono{P:Program}{w:World}{K:Ah}{k:Nat}{sp:fW}(c:jX P w K mg base j x ps sp)(h:j<=k):jX P w K mg base k x ps sp:=by obtain⟨f,fd,F,b,I,m⟩:=c.ex;exact⟨f,fd,F.mono h,b,I,m⟩
theorem qw.tst{σ:L2.St}(I:qw X pins σ H s):jj X.H₀ H:=λa u i e=>by cases u with|tup J=>exact I.base.tups a J e|frz o u=>exact I.base.frzs a o u e|_=>cases i
theorem ala{P:Program}{w:World}{K:Ah}{N:List Str}{E:XK}{E3:Addr->qr->Prop}(h:aoc ⟨K,P,w⟩ H E3 E):
 bZ (cM (CXE P w) P w K mg base N eH scope f cd A outer s H E) (upX ⟨K,P,w⟩<|tw E3):=by
 rintro J j g l a C tr I L ap U ⟨t,T,L',o,rs,p,L2,r,q⟩;cases o;exact ab7 J j g l a C tr I L ap U<|h C g L2 (qw.tst I) (p.sub r) q
def lI(sp:fW)(E3:X3)(t:f9)(τ:jn)(L:qr)(Q:YK):Prop:=t τ L λys L1=>sp ys L1 Q<|E3 τ
def uq(C:Addr)(E3:X3)(t:f9)(_:x6)(τ:jn)(L:qr):Prop:=t τ L λys L1=>ys.length<=1000/\E3 τ C L1
section
variable {tr:f9}{E3:X3}
theorem ap6{k:Nat}{sp:fW}{p:Pos}(c:jX X.prog X.w X.K X.mg X.base k x ps sp)(t:w4 k X.A)(T:Gl X x)(ht:bZ X<|upX X.g3 E3)(hx:X.ex=[])(ha:QA X (e::es) tr)(I:Fb x:=by decide)
 (he:E8 e es X:=by rfl) (J:E9 pos es X:=by rfl):QE X (.Call (.Name x p) (e::es) [] pos) (lI sp E3 tr):=by
 obtain⟨f,fd,F,b,kp,m⟩:=c.ex;refine EN (u5 F t T m kp b ht hx ha I he J) λσ H Q U L Q3 o rl z k=>?_;exact⟨U,L,_,o,rl,z,λvs H1 ys L1 r g j z1=>⟨ys,L1,Q3,E3 U,j,g,z1,k.ts r,λC H' L' t' l q=>⟨C,U,L',rfl,o.ts<|r.trans t',l,q⟩⟩⟩
theorem sj(c:ada X.K C)(o:Gl X x)(p:X.mg x=some (.ref C))(hc:X.calm=true)(r:bZ X<|upX X.g3 E3)(t:X.ex=[])(T:QA X (e::es) tr)(I:Fb x:=by decide)
 (he:E8 e es X:=by rfl) (J:E9 fx es X:=by rfl):
 QS X (.Raise (some<|.Call (.Name x np) (e::es) [] fx) none pos) (uq C E3 tr):=ES (acw c o p hc r t T I he J) λD σ H j L D3 l rl z k=>
 ⟨j,L,_,l,rl,z,λvs H1 ys L1 t1 U g ψ=>(by obtain⟨hl,z1⟩:=ψ;exact ⟨db (by rw[<-g.length];exact hl),C,j,L1,rfl,l.ts t1,U,z1⟩)⟩
end
theorem aqo{P:Program}{w:World}{K:Ah}{N:List Str}{k:Nat}{sp:fW}{t:X3->vt}(F:Fun K x eH st f fd)(S:aG N ps<|qt st)(len:∀ys L Q E,sp ys L Q E->ys.length=ps.length)
 (I:∀(eK:Value) (A:Around) (outer:List Env) (s:Shared) (H:Hp) (E:XK) (E3:X3),w4 k (A.deeper<|PyProof.Rows.envOfC eH (qt st) s.heap.objs.size f eK)->
  bZ (cM (CXE P w) P w K mg base N eH (qt st) f eK A outer s H E) (upX ⟨K,P,w⟩ E3)->nv (cM (CXE P w) P w K mg base N eH (qt st) f eK A outer s H E) (jg st) (t E3))
 (vc:∀ys L Q E,sp ys L Q E->t (tw E) { nx:=λ_ L'=>hW Q .non L',rt:=hW Q } (eG N ys) L):aps P w K mg base (k+1) f fd ps sp:=by
 obtain⟨oc,od,kV,a1,pm,an,eK,ct,a2,rfl,lk,U⟩:=F.ex;refine ab0 lk U S (λvs H Q E ψ=>by obtain⟨ys,L,g,E3,j,T,z,_⟩:=ψ;rw[<-j.length];exact len ys L g E3 z) λA outer s H vs Q E hr ψ=>?_;obtain⟨ys,L,g,E3,j,T,z,k,kx⟩:=ψ;refine⟨_,I eK A outer s H E (tw E3) hr<|ala kx,eG N ys,L,_,ig j,T,vc ys L g E3 z,?_⟩;exact⟨λσ l τ L' o a3 J ψ=>(by obtain⟨L2,p,r⟩:=ψ;exact k .non l .non L2 o (J.sub p) (by rfl) r),λv l y L' o J C ψ=>(by obtain⟨L2,p,r⟩:=ψ;exact k v l y L2 o (J.sub p) C r),λ_ _ _ _ _ _ _ z=>z.elim,λ_ _ _ _ _ _ _ z=>z.elim⟩
def vK:jn->Nat->jn
 |[],_=>[]
 |_::r,0=>none::r
 |o::r,i+1=>o::vK r i
theorem wZ:∀(τ:jn) (i:Nat),vK τ i=τ.set i none
 |[],_=>rfl
 |_::_,0=>rfl
 |o::r,i+1=>by rw[vK,wZ r i];rfl
theorem xc.clr{σ:L2.St}(h:xc G H σ τ)(i:Nat):xc G H (σ.set i none) (vK τ i):=by
 rw[wZ];refine⟨by simpa using h.len,λj y e=>?_⟩;by_cases I:i=j
 ·subst I;rw[List.getElem?_set] at e;simp at e
 ·rw[Bh I] at e ⊢;exact h.get j y e
def Dh3(i:Nat)(D:x6):x6 where
 nx:=λτ L=>D.nx (vK τ i) L
 rt:=D.rt
 bk:=λτ L=>D.bk (vK τ i) L
 ct:=λτ L=>D.ct (vK τ i) L
def aoe(G:G3)(H:Hp)(E3:X3)(E1:X1):Prop:=∀hQ C H' I L',jj H H'->xc G H' hQ I->ja G H' L'->E3 I C L'->E1 hQ (.ref C) H'
def ak7(G:G3)(t:X3->vt):X1->L2.TS:=λE1 D σ H=>∃τ L D3 E3,xc G H σ τ/\ja G H L/\t E3 D3 τ L/\vA G H D3 D/\aoe G H E3 E1
def QB(X:Cx)(body:List Stmt)(t:X3->vt):Prop:=∀(pn:List<|Addr×Obj) (xe:Value->Shared->Prop) (E1:X1),bZ (X.tr pn xe) E1->gl (X.tr pn xe) body (ak7 X.g3 t E1)
def am9(K:Ah)(J:Addr)(i:Nat)(tb:X3->vt)(th:vt)(D:x6)(τ:jn)(L:qr):Prop:=
 tb (λI C L'=>PySem.W.exmOne K (.ref C) (.ref J)=some true/\∀a,L' a=none->th (Dh3 i D) (dz I i<|.ref a) (qj L' a<|.exc C)) D τ L
section
variable {tr:f9}{cp:Pos}
theorem ajo{k:Nat}{y:Str}{sp:fW}{p:Pos}(c:jX X.prog X.w X.K X.mg X.base k x ps sp)(hr:w4 k X.A)(hg:Gl X x)(hx:X.ex=[])(hN:X.N.Nodup)(U:X.N[i]?=some y)(hy:Loc X.env.scope y)(ha:∀pn xe,QA (X.tr pn xe) (e::es) tr)(g:Fb x:=by decide)
 (he:E8 e es X:=by rfl) (j:E9 cp es X:=by rfl) (hs:swapsWith (.Call (.Name x p) (e::es) [] cp) (some<|.Name y gg) pos.line X.env=pure false:=by rfl)
 (l:X.fn y=true\/X.env.scope.names.lookup y=some .local:=by first|exact .inl rfl|exact .inr rfl|assumption):
 QB X [.Assign [.Name y gg] (.Call (.Name x p) (e::es) [] cp) pos] (λE3=>jz (lI sp E3 tr)<|qo i):=by
 obtain⟨f,fd,F,b,kp,m⟩:=c.ex;intro pn xe E1 ht;refine gl.imp (yF<|ady (X:=X.tr pn xe) hN U hy (u5 (X:=X.tr pn xe) F hr hg m kp b ht hx (ha pn xe) g he j) hs l) λD σ H ψ=>?_;obtain⟨I,L,D3,E3,o,rl,z,k,kx⟩:=ψ;exact⟨I,L,_,o,rl,z,λvs H1 ys L1 J r t z1=>⟨ys,L1,_,E3 I,t,r,z1,(λv H2 y L2 t2 T a1 z2=>k.nx _ H2 _ L2 (J.trans t2) (show xc _ _ _ (dz I i y) by rw[am];exact(o.ts<|J.trans t2).set a1) T z2),λC H' L' t' a2 q=>kx σ C H' I L' (J.trans t') (o.ts<|J.trans t') a2 q⟩⟩
theorem ajh{Dc:Addr}{n:Str}{j:Pos}{I:List Stmt}{g:Stmt}{tb:X3->vt}{th:vt}(hs:X.stack=X.env::X.outer)(hf:X.env.frame=some X.env.locals)(hx:X.ex=[])(hN:X.N.Nodup)(hi:X.N[i]?=some n)
 (hk:X.env.scope.names.lookup n=some .local) (hg:Gl X x) (hm:X.mg x=some (.ref Dc)) (hb:QB X body tb) (hh:∀a,nv (X.hnd a) (g::I) th)
 (a1:Fb x:=by decide):QS X (.Try body [.ExceptHandler (some<|.Name x np) (some n) (g::I) j] [] [] pos) (am9 X.K Dc i tb th):=
 PS.imp (amk (tb:=ak7 X.g3 tb) (th:=upS X.g3 th) hs hf hx hN hi hk hg hm hb hh a1) λD σ H ψ=>by
 obtain⟨τ,L,D3,rs,rl,z,k⟩:=ψ
 show ak7 X.g3 tb (ag4 X.K Dc i (upS X.g3 th) D) D σ H;refine⟨τ,L,D3,_,rs,rl,z,k,λa4 C H' a2 L' t' a3 l ⟨em,q⟩=>⟨C,rfl,em,λa oe ha hc=>?_⟩⟩;have ta:jj H' (upd H' a<|.frz oe<|.own 0):=EM ha;refine⟨dz a2 i<|.ref a,qj L' a<|.exc C,Dh3 i D3,by rw[am];exact(a3.ts ta).set rfl,λb u e=>?_,q a<|l.none ha,?_⟩
 ·by_cases c:b=a
  ·subst c;rw[q9] at e;cases e;exact⟨oe,zh,hc⟩
  ·rw[qg c] at e;exact(l b u e).keep ta (ql c)
 ·have k2:=k.ts<|t'.trans ta;exact⟨λo p r L2 t J U T=>k2.nx _ p _ L2 t (J.clr i) U T,k2.rt,λo p r L2 t J U T=>k2.bk _ p _ L2 t (J.clr i) U T,λo p r L2 t J U T=>k2.ct _ p _ L2 t (J.clr i) U T⟩
end
@[irreducible] def zJ (L:qr) (a:Addr) (k:Addr->Prop):Prop:=match L a with
 |some (.exc C)=>k C
 |_=>False
theorem kE{a:Addr}{k:Addr->Prop}(e:L a=some (.exc C))(h:k C):zJ L a k:=by unfold zJ;rw[e];exact h
theorem uZ{a:Addr}{k:Addr->Prop}(h:zJ L a k):∃C,L a=some (.exc C)/\k C:=by
 unfold zJ at h;split at h
 ·rename_i C e;exact⟨C,e,h⟩
 ·exact h.elim
def lO(K:Ah)(u:Value)(te:xz)(τ:jn)(L:qr)(Q:YK):Prop:=te τ L λx L1=>match x with
 |.ref a=>zJ L1 a λC=>XHd K C/\∃b,PySem.W.kitOne K (.ref C) u=some b/\Q (.bl b) L1
 |_=>False
def gT(K:Ah)(us:List Value)(te:xz)(τ:jn)(L:qr)(Q:YK):Prop:=te τ L λx L1=>match x with
 |.ref a=>zJ L1 a λC=>XHd K C/\∃b,PySem.W.kitAny K (.ref C) us=some b/\Q (.bl b) L1
 |_=>False
def PAC(X:Cx)(es:List Expr)(vs:List V):Prop:=PA X es λ_ H Q=>Q vs H
section
variable {a:Expr}{p pt:Pos}{v:V}{vs:List V}
theorem wY:PAC X [] []:=dw
theorem aD(h:PE X e<|tC v)(t:PAC X es vs)(hs:E8 e es X:=by rfl):PAC X (e::es) (v::vs):=PA.imp (aA h t hs) λ_ _ _ q=>q
theorem cR(I:Gl X x)(J:X.mg x=some (.ref C))(hd:Fb x:=by decide):PE X (.Name x p) (tC<|.ref C):=aiw I J hd
theorem uC{c:Expr}(j:Gl X "isinstance")(l:X.mg "isinstance"=none)(o:QE X a ta)(hc:PE X c<|tC v)(r:yh v=some u)
 (hs:starEach [a,c] X.env=(false,eval a X.env)::starEach [c] X.env:=by rfl) (J:starEach [c] X.env=(false,eval c X.env)::starEach [] X.env:=by rfl) (t:(backTo pos<|starEach [c] X.env).any (·.1)=false:=by rfl):
 QE X (.Call (.Name "isinstance" p) [a,c] [] pos) (lO X.K u ta):=by
 refine EX (hG mI j l cG (aA o (aA hc dw J) hs) (by decide) (by decide) hs t) ?_;rintro σ H Q ⟨T,L,Q3,rs,rl,z,k⟩;refine⟨T,L,_,rs,rl,z,λw H1 y L1 t1 I U g=>?_⟩;cases y with
 |ref b=>
  obtain⟨C,e,hd,bb,kk,q⟩:=uZ g;cases U;exact⟨b,C,v,rfl,I b _ e,hd,.inl ⟨u,bb,r,kk,k _ H1 _ L1 t1 I (by rfl) q⟩⟩
 |_=>exact g.elim
theorem oM{I:Nat}(T:Gl X "isinstance")(hm:X.mg "isinstance"=none)(ha:QE X a ta)(hc:PAC X es vs)(hv:vs.map yh=us.map some)(hl:vs.length<=1000)
 (hs:starEach [a,.Tuple es I pt] X.env=(false,eval a X.env)::starEach [.Tuple es I pt] X.env:=by rfl) (U:starEach [.Tuple es I pt] X.env=(false,eval (.Tuple es I pt) X.env)::starEach [] X.env:=by rfl) (hp:(backTo pos<|starEach [.Tuple es I pt] X.env).any (·.1)=false:=by rfl):
 QE X (.Call (.Name "isinstance" p) [a,.Tuple es I pt] [] pos) (gT X.K us ta):=by
 refine EX (hG mI T hm cG (aA ha (aA (aer hc) dw U) hs) (by decide) (by decide) hs hp) ?_;rintro σ H Q ⟨τ,L,Q3,rs,rl,z,k⟩;refine⟨τ,L,_,rs,rl,z,λw g y L1 t1 J j o=>⟨db hl,λq r=>?_⟩⟩;cases y with
 |ref b=>
  obtain⟨C,e,hd,bb,kk,z2⟩:=uZ o;cases j;have t:jj g (upd g q<|.tup vs):=EM r;obtain⟨oe,ho,l⟩:=(J b _ e:ac6 X.K g b C);refine⟨b,C,.ref q,rfl,⟨oe,t _ _ rfl ho,l⟩,hd,.inr ⟨q,vs,us,bb,rfl,.inl<|.inl zh,hv,kk,k _ _ _ L1 (t1.trans t) (J.skip r) (by rfl) z2⟩⟩
 |_=>exact o.elim
end
theorem nZ:bootBuiltins "ValueError"=some (.type "ValueError"):=by decide +kernel
open PySem L2 PySem.W
theorem vB{K:Frag}(q:excIn K C [.type "ValueError",.type "Exception",.type "BaseException",.type "object"] "ValueError.__new__"=true):ada K C:=ah6 q DR (by decide +kernel) DR
section
variable {K:Frag}{t c:Value}{b:Bool}
theorem kit_own{cd:ClassData}(ne:(Value.ref C==Value.ref D)=false)(h1:clsIn K D=some cd)(h2:typeIn K (.ref D)=some (.type "type"))(h3:subIn K (.ref C) (.ref D)=some b):kitOne K (.ref C) (.ref D)=some b:=by unfold kitOne;rw[Az (by rw[ne];exact AG)];unfold kitCls;simp only[h1,h2,DP,beq_self_eq_true,Bool.and_self,if_true];exact h3
theorem kit_self:kitOne K (.ref C) (.ref C)=some true:=by unfold kitOne;rw[AA<|beq_self_eq_true _]
theorem kit_blt{T:String}(I:kitMeta T=true)(h3:subIn K (.ref C) (.type T)=some b):kitOne K (.ref C) (.type T)=some b:=by unfold kitOne;rw[Az (by intro q;cases beq_iff_eq.mp q)];unfold kitCls;simp only[I,if_true];exact h3
theorem kitAny_no{r:List Value}(h:kitOne K t c=some false)(k:kitAny K t r=some b):kitAny K t (c::r)=some b:=by unfold kitAny;rw[h];exact k
theorem exm_own{cd:ClassData}(h0:subIn K (.ref D) (.type "BaseException")=some true)(h1:clsIn K D=some cd)(h2:typeIn K (.ref D)=some (.type "type"))(h3:subIn K (.ref C) (.ref D)=some b):exmOne K (.ref C) (.ref D)=some b:=by unfold exmOne;rw[AA (by rw[h0];rfl)];unfold kitCls;simp only[h1,h2,DP,beq_self_eq_true,Bool.and_self,if_true];exact h3
theorem xhd_of{cd:ClassData}(ga:findIn K (.ref C) "__getattribute__"=some (some<|.builtin "BaseException.__getattribute__"))(gt:findIn K (.ref C) "__getattr__"=some none)(cl:findIn K (.ref C) "__class__"=some (some<|.builtin "object.__class__"))
 (ge:specialIn K (.builtin "object.__class__") "__get__"=some (some<|.builtin "getset_descriptor.__get__")) (tk:takesIn K (.builtin "object.__class__")=some true) (mo:mroIn K C (.type "object")=some true) (be:subIn K (.ref C) (.type "BaseException")=some true) (h:clsIn K C=some cd):XHd K C:=
 ⟨⟨ga,gt,cl,ge,tk,mo,be⟩,by rw[h];rfl⟩
end
end L3
namespace L2
open PySem PySem.Spec PyProof.Rows
def iw(X:Cx)(ops:List CmpOp)(es:List Expr)(t:V->TE):Prop:=∀(pos:Pos) (pins:List<|Addr×Obj) (s:Shared) (σ:St) (H:Hp) (x:V) (v:Value) (Q:Bool->Hp->Prop),qw X pins σ H s->zr x v->(t x σ H λz H'=>∃k,z=.bl k/\Q k H')->wpAny (model X.prog X.w) X.A (testChain pos v ops<|evalEach es X.env) (TP X pins σ Q) X.xe s
def aj3(r:R2)(tb:TE):V->TE:=λx σ H Q=>tb σ H λy H1=>r x y H1 Q
def ais(r:R2)(tb:TE)(u:V->TE):V->TE:=λx σ H Q=>tb σ H λy H1=>r x y H1 λz H2=>∃k,z=.bl k/\(if k=true then u y σ H2 Q else Q (.bl false) H2)
section
variable {a b c:Expr}{ta tb:TE}{op oi:CmpOp}{ops:List CmpOp}{r:R2}{u:V->TE}
theorem yM(g:we X (compareOp op) r)(j:PE X b tb):iw X [op] [b] (aj3 r tb):=by intro pos J s U H x v Q I l h;refine test_last<|aH (j J s U H _ I h) λo p ⟨y,t,C,T,q1⟩=>aH (g J p U t x y v o _ C l T q1) λd s2 ψ=>?_;obtain⟨z,H2,I2,r2,k,e,q2⟩:=ψ;subst e;cases r2;exact wpAny_truthy_bool ⟨H2,I2,q2⟩
theorem aae(t:we X (compareOp op) r)(C:PE X b tb)(T:iw X (oi::ops) (c::es) u):iw X (op::oi::ops) (b::c::es) (ais r tb u):=by
 intro pos J s U H x v Q I rx h;refine test_link<|aH (C J s U H _ I h) λg s1 ⟨y,H1,I1,j,q1⟩=>aH (t J s1 U H1 x y v g _ I1 rx j q1) λd s2 ψ=>?_;obtain⟨z,l,o,r2,k,e,p⟩:=ψ;subst e;cases r2;refine wpAny_truthy_bool ?_;cases k with
 |false=>
  obtain⟨k',e',q'⟩:=p;cases e';exact ite_ff ⟨l,o,q'⟩
 |true=>exact ite_tt<|T pos J s2 U l y g Q o j p
theorem zB(U:PE X a ta)(h:iw X (op::oi::ops) (b::c::es) u)(g:lastMarks (op::oi::ops) (b::c::es)=false):PT X (.Compare a (op::oi::ops) (b::c::es) pos) (aci λσ H Q=>ta σ H λx H1=>u x σ H1 Q):=by intro J s σ H Q I j;exact isTrue_chain (aH (U J s σ H _ I j) λv l ψ=>(by obtain⟨x,H1,o,p,r⟩:=ψ;exact h pos J l σ H1 x v Q o p r)) g
end
end L2
namespace L3
open PySem L2
def vI(ta:xz)(u:Y->xz)(τ:jn)(L:qr)(Q:YK):Prop:=ta τ L λx L1=>u x τ L1 Q
def ad0(r:oX)(tb:xz)(x:Y)(τ:jn)(L:qr)(Q:YK):Prop:=tb τ L λy L1=>r x y L1 Q
def adb(r:oX)(tb:xz)(u:Y->xz)(x:Y)(τ:jn)(L:qr)(Q:YK):Prop:=tb τ L λy L1=>r x y L1 λz L2=>match z with
 |.bl k=>v4 k (u y τ L2 Q)<|Q (.bl false) L2
 |_=>False
def upC(G:G3)(u:Y->xz):V->TE:=λx σ H Q=>∃y τ L I,RV G H y x/\xc G H σ τ/\ja G H L/\u y τ L I/\sP G H I Q
theorem iw.imp{ops:List CmpOp}{t u:V->TE}(h:iw X ops es t)(q:∀x σ H Q,u x σ H Q->t x σ H Q):iw X ops es u:=λpos J s σ H x v Q I r z=>h pos J s σ H x v Q I r<|q _ _ _ _ z
theorem agx{r:oX}(x:V)(σ:L2.St)(H:Hp)(Q:VK):upC G (ad0 r tb) x σ H Q->aj3 (iO G r) (lG G tb) x σ H Q:=λ ψ=>by
 obtain⟨y,g,L,j,l,o,p,z,k⟩:=ψ
 exact ⟨g,L,_,o,p,z,λv H1 t C U I J T=>⟨y,t,C,j,l.ts U,J,I,T,k.ts U⟩⟩
theorem agl{r:oX}{u:Y->xz}(x:V)(σ:L2.St)(H:Hp)(Q:VK):upC G (adb r tb u) x σ H Q->ais (iO G r) (lG G tb) (upC G u) x σ H Q:=λ⟨y,j,L,l,rv,T,rl,z,k⟩=>
 ⟨j,L,_,T,rl,z,λv H1 o L1 U p I z1=>⟨y,o,L1,_,rv.ts U,I,p,z1,λv2 H2 y2 L2 g J t z2=>by
  cases y2 with
  |bl C=>
   refine⟨C,t,?_⟩;have z3:v4 C (u o j L2 l) (l (.bl false) L2):=z2;cases C with|true=>rw[AA rfl];exact⟨o,j,L2,l,I.ts g,T.ts<|U.trans g,J,z3,k.ts<|U.trans g⟩|false=>rw[Az AG];exact k _ H2 _ L2 (U.trans g) J (by rfl) z3
  |_=>exact z2.elim⟩⟩
section
variable {a b c:Expr}{op oi:CmpOp}{ops:List CmpOp}{r:oX}{u:Y->xz}
theorem oI(I:we X (compareOp op)<|iO X.g3 r)(J:QE X b tb):iw X [op] [b] (upC X.g3<|ad0 r tb):=iw.imp (yM I J) agx
theorem oE(I:we X (compareOp op)<|iO X.g3 r)(J:QE X b tb)(U:iw X (oi::ops) (c::es)<|upC X.g3 u):iw X (op::oi::ops) (b::c::es) (upC X.g3<|adb r tb u):=iw.imp (aae I J U) agl
theorem aek(σ:L2.St)(H:Hp)(Q:VK):lG G (vI ta u) σ H Q->(λσ H Q=>lG G ta σ H λx H1=>upC G u x σ H1 Q) σ H Q:=λ ψ=>by
 obtain⟨U,L,l,g,o,z,k⟩:=ψ
 exact ⟨U,L,_,g,o,z,λv H1 y p j I J r=>⟨y,U,p,l,J,g.ts j,I,r,k.ts j⟩⟩
theorem tM(J:QE X a ta)(h:iw X (op::oi::ops) (b::c::es)<|upC X.g3 u)(U:lastMarks (op::oi::ops) (b::c::es)=false:=by with_unfolding_all rfl):QT X (.Compare a (op::oi::ops) (b::c::es) pos) (yB<|vI ta u):=
 PT.imp (zB J h U) λI H Q q=>aek I H _<|am6 I H Q q
end
end L3
namespace L2
open PySem PySem.Spec PyProof.Rows
end L2
namespace L3
open PySem L2
def ahn:Y->Option jk
 |.int i=>some<|.inl i
 |.str x=>some<|.inr x
 |_=>none
theorem lJ{v:V}{k:jk}(h:ahn y=some k)(r:RV G H y v):v=kV k:=by cases y with|int i=>cases h;exact r|str x=>cases h;exact r|_=>cases h
def mK(kvs:List<|jk×Y)(k:jk)(y:Y):List (jk×Y):=
 if (kvs.any λI=>decide<|I.1=k)=true then kvs.map (λI=>if I.1=k then(I.1,y) else I) else kvs++[(k,y)]
theorem jj.dct{p:Addr}{zs:List<|jk×V}{o:HO}(h:H p=some (.dK zs)):jj H (upd H p o):=λa u i q=>by rw[ql ?_];exact q;rintro rfl;rw[h] at q;cases q;cases i
theorem abc{xs:List<|jk×V}(p:Paired (λ(p:jk×Y) (q:jk×V)=>p.1=q.1/\RV G H p.2 q.2) kvs xs)(k:jk):(kvs.any λI=>decide<|I.1=k)=xs.any λI=>decide (I.1=k):=by induction p with|nil=>rfl|cons r t J=>rw[Cw,Cw,J,r.1]
theorem adw{xs:List<|jk×V}{v:V}(p:Paired (λ(p:jk×Y) (q:jk×V)=>p.1=q.1/\RV G H p.2 q.2) kvs xs)(k:jk)(r:RV G H y v):
 Paired (λ(p:jk×Y) (q:jk×V)=>p.1=q.1/\RV G H p.2 q.2) (kvs.map λI=>if I.1=k then(I.1,y) else I) (xs.map λI=>if I.1=k then(I.1,v) else I):=by
 induction p with
 |nil=>exact .nil
 |@cons a b _ _ J t U=>
  refine .cons ?_ U;obtain⟨e,q⟩:=J;dsimp only;by_cases c:a.1=k
  ·rw[AA c,AA<|e▸c];exact⟨e,r⟩
  ·rw[Az c,Az λz=>c<|e.trans z];exact⟨e,q⟩
theorem yq{xs:List<|jk×V}{v:V}(p:Paired (λ(p:jk×Y) (q:jk×V)=>p.1=q.1/\RV G H p.2 q.2) kvs xs)(k:jk)(r:RV G H y v):
 Paired (λ(p:jk×Y) (q:jk×V)=>p.1=q.1/\RV G H p.2 q.2) (kvs++[(k,y)]) (xs++[(k,v)]):=by
 induction p with|nil=>exact .cons ⟨rfl,r⟩ .nil|cons I t J=>exact .cons I J
theorem abd{xs:List<|jk×V}{v:V}(p:Paired (λ(p:jk×Y) (q:jk×V)=>p.1=q.1/\RV G H p.2 q.2) kvs xs)(k:jk)(r:RV G H y v):
 Paired (λ(p:jk×Y) (q:jk×V)=>p.1=q.1/\RV G H p.2 q.2) (mK kvs k y) (fI xs k v):=by
 unfold mK fI;rw[abc p k];by_cases c:(xs.any λI=>decide<|I.1=k)=true
 ·rw[AA c,AA c];exact adw p k r
 ·rw[Az c,Az c];exact yq p k r
theorem ad1{R:α->β->Prop}{l:List α}{m:List β}(p:Paired R l m):l.length=m.length:=by induction p with|nil=>rfl|cons _ _ I=>rw[AM,AM,I]
def aj2(_:jn)(L:qr)(Q:YK):Prop:=∀p,L p=none->Q (.ref p) (qj L p<|.dct [])
def apm(td ti:xz)(τ:jn)(L:qr)(Q:YK):Prop:=td τ L λx L1=>ti τ L1 λy L2=>match x,ahn y with
 |.ref a,some k=>pU L2 a λkvs=>atK L2 Q<|ko kvs k
 |_,_=>False
def uM(td ti tv:xz)(D:x6)(τ:jn)(L:qr):Prop:=tv τ L λv L1=>td τ L1 λx L2=>ti τ L2 λy L3=>match x,ahn y with
 |.ref a,some k=>pU L3 a λkvs=>kvs.length<sizeLine/\D.nx τ (qj L3 a<|.dct<|mK kvs k v)
 |_,_=>False
section
variable {i:Expr}{td ti tv:xz}
theorem yD:QE X (.Dict [] [] pos) aj2:=EN aeu λU H Q g L j l J z k=>λp I=>by
 refine k _ _ _ (qj L p<|.dct []) (EM I) (λa u e=>?_) (by rfl)<|z p<|J.none I;by_cases c:a=p
 ·subst c;rw[q9] at e;cases e;exact⟨[],zh,.nil⟩
 ·rw[qg c] at e;exact(J a u e).keep (EM I) (ql c)
theorem dG(hu:X.A.units+128<cLine)(t:QE X o td)(hi:QE X i ti)(hs:ama i):QE X (.Subscript o i pos) (apm td ti):=EN (ago (by omega) t hi hs) λσ H Q l L Q3 p C z k=>
 ⟨l,L,_,p,C,z,λv H1 x T r J U z1=>⟨l,T,_,p.ts r,J,z1,λw H2 y L2 t2 I g j=>by
  split at j
  ·rename_i a kk ek;obtain⟨a1,e,z3⟩:=gU j;obtain⟨yv,ev,q⟩:=xV z3;obtain⟨xs,e2,pr⟩:=I a _ e;obtain⟨xv,ex,rx⟩:=pI pr ev;exact⟨a,xv,U,.inl ⟨xs,kk,.inl e2,lJ ek g,ex.symm⟩,k _ H2 _ L2 (r.trans t2) I rx q⟩
  ·exact j.elim⟩⟩
theorem iM(hu:X.A.units+128<cLine)(ho:QE X o td)(hi:QE X i ti)(hv:QE X value tv)(hs:swapsWith value (some<|.Subscript o i gg) pos.line X.env=pure false:=by rfl):QS X (.Assign [.Subscript o i gg] value pos) (uM td ti tv):=
 ES (aib (by omega) ho hi hv hs) λD σ H l L D3 J rl z k=>
 ⟨l,L,_,J,rl,z,λv H1 vy L1 U p r z1=>⟨l,L1,_,J.ts U,p,z1,λx H2 xy L2 g t C z2=>⟨l,L2,_,J.ts<|U.trans g,t,z2,λw H3 y L3 T I a1 z3=>by
  split at z3
  ·rename_i a kk ek;obtain⟨a2,e,hl,q⟩:=gU z3;obtain⟨xs,e2,pr⟩:=I a _ e;have j:jj H3 (upd H3 a<|.dK<|fI xs kk v):=jj.dct e2;cases (show x=V.ref a from C);refine⟨a,_,rfl,.inl ⟨xs,kk,e2,lJ ek a1,by rw[<-ad1 pr];exact hl,rfl⟩,?_⟩;refine k.nx _ _ _ _ (((U.trans g).trans T).trans j) (J.ts<|((U.trans g).trans T).trans j) (λb u eb=>?_) q;by_cases c:b=a
   ·subst c;rw[q9] at eb;cases eb;exact⟨_,zh,ER (abd pr kk<|r.ts<|g.trans T) λ_ _ ψ=>(by obtain⟨h1,h2⟩:=ψ;exact ⟨h1,h2.ts j⟩)⟩
   ·rw[qg c] at eb;exact(I b u eb).keep j (ql c)
  ·exact z3.elim⟩⟩⟩
end
def uQ(to ti tv:xz)(D:x6)(τ:jn)(L:qr):Prop:=tv τ L λv L1=>to τ L1 λx L2=>ti τ L2 λy L3=>match x,y with
 |.ref a,.int i=>fM L3 a λys=>atK L3 (λj L=>D.nx τ<|qj L a<|.lst<|ys.set j v)<|ym ys.length i
 |_,_=>False
section
variable {i:Expr}{ti tv:xz}
theorem rB(ho:QE X o to)(hi:QE X i ti)(hv:QE X value tv)
 (ha:∀v,assign (.Subscript o i gg) X.env v=(do
  let J <-holding [v] (eval o X.env)
  let p <-holding [v,J] (eval i X.env)
  standAt gg
  holding [v,J,p] (setItem J p v)
  release [v,J,p] []):=by intro _;rfl)
 (h1:swapsWithSole [.Subscript o i gg] value pos.line X.env=pure false:=by rfl) (h2:swappedStores [.Subscript o i gg] value X.env=pure none:=by rfl)
 (h3:(assignEach [.Subscript o i gg] X.env).map (·.2)=[assign (.Subscript o i gg) X.env]:=by rfl):QS X (.Assign [.Subscript o i gg] value pos) (uQ to ti tv):=
 ES (ack hv (ake ho hi adz ha) h1 h2 h3) λD σ H t L D3 U rl z k=>
 ⟨t,L,_,U,rl,z,λv H1 vy L1 g C T z1=>⟨t,L1,_,U.ts g,C,z1,λx H2 xy L2 l a1 a2 z2=>⟨t,L2,_,U.ts<|g.trans l,a1,z2,λw H3 y L3 t3 I a3 z3=>by
  split at z3
  ·rename_i a ii;obtain⟨ys,e,z4⟩:=kn z3;obtain⟨j,ej,q⟩:=xV z4;obtain⟨xs,e2,r⟩:=I a _ e;cases (show x=V.ref a from a2);cases (show w=V.int ii from a3);have tt:jj H3 (upd H3 a<|.lst<|xs.set j v):=E5 e2;exact⟨a,xs,ii,j,rfl,rfl,e2,by rw[<-r.length];exact ej,k.nx _ _ _ _ (((g.trans l).trans t3).trans tt) (U.ts<|((g.trans l).trans t3).trans tt) (I.setL e2<|v3.setY (T.ts<|l.trans t3) j r) q⟩
  ·exact z3.elim⟩⟩⟩
end
end L3
namespace L2
open PySem PySem.Spec PyProof.Rows
def PJ(X:Cx)(es:List Expr)(t:Str->TE):Prop:=∀(pins:List<|Addr×Obj) (s:Shared) (σ:St) (H:Hp) (fm:Str) (Q:VK),qw X pins σ H s->t fm σ H Q->wpAny (model X.prog X.w) X.A (joinParts fm<|evalEach es X.env) (EP X pins σ Q) X.xe s
def aoy:Str->TE:=λfm _ H Q=>fm.length<=sizeLine/\Q (.str fm) H
def akv(te:TE)(u:Str->TE):Str->TE:=λfm σ H Q=>te σ H λx H1=>∃y,x=.str y/\(fm++y).length<=sizeLine/\u (fm++y) σ H1 Q
section
variable {nC pj:Expr}{te:TE}{u:Str->TE}
theorem akq:PJ X [] aoy:=λU s j H J Q I ψ=>(by obtain⟨g,q⟩:=ψ;exact joinParts_nil ⟨.str J,H,I.tok _,⟨_,rfl⟩,q⟩ g)
theorem aht(h:PE X e te)(t:PJ X es u):PJ X (e::es) (akv te u):=by intro J s U H g Q I j;refine joinParts_cons<|aH (h J s U H _ I j) λv l ψ=>?_;obtain⟨x,o,p,r,y,C,T,q⟩:=ψ;subst C;obtain⟨tk,rfl⟩:=(show ∃t,v=Value.str y t from r);exact⟨T,t J l U o _ Q p q⟩
theorem ai1(h:PJ X (nC::pj::es) u):PE X (.JoinedStr (nC::pj::es) pos) (u Str.empty):=λJ s U H Q I g=>JoinedStr_many<|h J s U H _ Q I g
end
end L2
namespace L3
open PySem L2
def ail(fm:Str)(_:jn)(L:qr)(Q:YK):Prop:=fm.length<=sizeLine/\Q (.str fm) L
def iV(te:xz)(u:Str->xz)(fm:Str)(τ:jn)(L:qr)(Q:YK):Prop:=te τ L λx L1=>match x with
 |.str y=>(fm++y).length<=sizeLine/\u (fm++y) τ L1 Q
 |_=>False
def aja(u:Str->xz)(τ:jn)(L:qr)(Q:YK):Prop:=u Str.empty τ L Q
theorem PJ.imp{t u:Str->TE}(h:PJ X es t)(q:∀fm σ H Q,u fm σ H Q->t fm σ H Q):PJ X es u:=λJ s σ H fm Q I z=>h J s σ H fm Q I<|q _ _ _ _ z
section
variable {nC pj:Expr}{u:Str->xz}
theorem als:PJ X [] (λfm=>lG X.g3<|ail fm):=PJ.imp akq λfm J H Q ψ=>(by obtain⟨U,L,g,j,I,z,k⟩:=ψ;exact ⟨z.1,k _ H _ L (EL _) I (by rfl) z.2⟩)
theorem iF(h:QE X e te)(t:PJ X es λfm=>lG X.g3<|u fm):PJ X (e::es) (λfm=>lG X.g3<|iV te u fm):=PJ.imp (aht h t) λfm C H Q ψ=>by
 obtain⟨g,L,o,j,p,z,k⟩:=ψ
 exact ⟨g,L,_,j,p,z,λv T y r l I J U=>by cases y with|str s=>exact⟨s,J,U.1,g,r,o,j.ts l,I,U.2,k.ts l⟩|_=>exact U.elim⟩
theorem ahz(h:PJ X (nC::pj::es) λfm=>lG X.g3<|u fm):QE X (.JoinedStr (nC::pj::es) pos) (aja u):=ai1 h
end
section
variable {tv:xz}{tr:f9}{p:Pos}{f m:Str}{g:Addr}
end
open PySem.AutoSeq1 (wpAny_loadPart')
open MeetsSeq MeetsSeq2 MeetsSeq3 SeqRoads2
end L3
namespace Txs
open PySem PySem.Builtin.Str
theorem len_list(x:Str):x.cps.toList.length=x.length:=by simp[Str.length]
end Txs
namespace L2
open PySem PySem.Spec PyProof.Rows
section
variable {isp imk c j1 j2:Nat}{sp mk:Str}{u:Tok}{m:Str->Option Value}{p6 p7 p8 p9 p10:Pos}{Q:Flow->Shared->Prop}
end
end L2
namespace L2
open PySem PySem.Spec PyProof.Rows
end L2
namespace L3
open PySem L2
def aft(s:Stmt):List Stmt:=match s with
 |.ClassDef _ _ _ b _ _ _ _ _ _ _=>b
 |_=>[]
section
variable {tr:f9}{p:Pos}{m:Str}{k:Nat}{sp:zp}
end
end L3
namespace L2
open PySem PySem.Spec PyProof.Rows
def an1(te:TE):TE:=λσ H Q=>te σ H λx H1=>∃i:Int,x=.int i/\i.natAbs.log2<1920/\Q (.str<|toString i) H1
section
variable {te:TE}
theorem ai7(h:PE X e te):PE X (.FormattedValue e (-1) none pos) (an1 te):=by intro J s U H Q I g;refine FormattedValue_plain<|aH (h J s U H _ I g) λv C ψ=>?_;obtain⟨x,j,l,o,i,p,r,q⟩:=ψ;subst p;obtain⟨t,rfl⟩:=(show ∃t,v=Value.int i t from o);exact formatField_int_small r ⟨.str _,j,l.tok _,⟨_,rfl⟩,q⟩
end
end L2
namespace L3
open PySem L2
def ab4(te:xz)(τ:jn)(L:qr)(Q:YK):Prop:=te τ L λx L1=>match x with
 |.int i=>i.natAbs.log2<1920/\Q (.str<|toString i) L1
 |_=>False
theorem xX(h:QE X e te):QE X (.FormattedValue e (-1) none pos) (ab4 te):=EN (ai7 h) λt H Q g L C j l z k=>
 ⟨g,L,_,j,l,z,λv o y p r I J U=>by cases y with|int i=>exact⟨i,J,U.1,k _ o _ p r I (by rfl) U.2⟩|_=>exact U.elim⟩
end L3
namespace L2
open PySem PySem.Spec PyProof.Rows
section
variable {a T:Addr}{tr:Option Addr}
end
section
variable {T:List Str}{iter:Expr}{g:TG}{tc:TT}{te:TE}
end
section
variable {a b T:Addr}{tr:Option Addr}{E1:X1}
end
section
variable {k:Nat}{E1:X1}{p:Pos}{t:TA}
end
end L2
namespace L3
open PySem L2
section
variable {T:List Str}{iter c:Expr}{wi:TI3}{tr:f9}{E3:X3}{Ea:Addr->qr->Prop}
end
def ae5:List Y->Option (List Int)
 |[]=>some []
 |.int b::r=>(ae5 r).map (b::·)
 |_::_=>none
theorem o8{G:G3}{H:Hp}:∀{ys:List Y} {xs:List V} {bs:List Int},ae5 ys=some bs->v3 G H ys xs->xs=bs.map V.int
 |[],_,_,h,r=>by cases h;exact r
 |y::ys,_,bs,h,ψ=>by
  obtain⟨x,I,e,J,U⟩:=ψ
  cases y with
  |int b=>
   have g:(ae5 ys).map (b::·)=some bs:=h;obtain⟨l,j,rfl⟩:=Ax.mp g;cases (show x=V.int b from J);rw[e,o8 j U];rfl
  |_=>cases h
end L3
namespace L2
open PySem PySem.Spec PyProof.Rows
end L2
namespace L2
open PySem PySem.Spec PyProof.Rows
section
variable {w:World}
theorem uI{it t:Addr}{eA:Array Value}(I:t≠it):∀(n i:Nat) (s:Shared) (Q:List Value->Shared->Prop),s.heap.IsListIter it t i->s.heap.IsList t eA->i+n<=eA.size->
 (∀h',h'.IsListIter it t (i+n)->Heap.SameBut it s.heap h'->Q ((eA.toList.drop i).take n) { s with heap:=h' })->wpAny (model prog w) A (draw (.ref it) n) Q E s
 |0,i,s,Q,hit,_,_,g=>by unfold draw;exact Ag (by simpa using g s.heap hit (Heap.SameBut.refl ..))
 |n+1,i,s,Q,hit,p,r,g=>by
  have J:i<eA.size:=by omega
  unfold draw;refine Aa<|wpAny_pyNext_list_item hit p (x:=eA[i]) (by simp[J]) λg1 j U=>?_;refine Aa<|A1<|uI I n (i+1) _ _ j (p.extBut U.extBut I) (by lia) λg2 l o=>Ag ?_;have e:eA.toList.drop i=eA[i]::eA.toList.drop (i+1):=by simp[B1,J]
  have q:=g g2 (by rw[show i+(n+1)=i+1+n by simp +arith only];exact l)
   (U.trans o)
  rw[e,List.take_succ_cons] at q;exact q
theorem afo{t:Addr}{eA:Array Value}{Q:Unit->Shared->Prop}(T:A.handled=none)(I:s.heap.IsList t eA)(hn:(assignEach mE env).length=eA.size)(j:(assignEach mE env).findIdx? (·.1)=none)
 (h:∀g,Heap.ExtBut s.heap.objs.size s.heap g->wpAny (model prog w) A (assignInOrder ((assignEach mE env).map (·.2)) eA.toList) Q E { s with heap:=g }):wpAny (model prog w) A (assign (.Tuple mE x1 pos) env<|.ref t) Q E s:=by
 have J:t≠s.heap.objs.size:=by obtain⟨o,ho,_⟩:=I;exact A4<|r4 ho
 rw[arm_assign_Tuple];refine Aa<|wpAny_standAt ?_;unfold unpack;rw[hn,j];refine Aa<|A1 ?_;unfold unpackItems notIterableAtAll;refine Aa<|Aa<|wpAny_specialOf I.typeIs slot_list_iter.lookup ?_;refine Ag ?_;rw[Az (by simp)];refine Aa<|A1<|wpAny_pyIter_list I ?_;refine Aa<|A1<|uI J eA.size 0 _ _ ⟨_,sy _ rfl,rfl,rfl⟩ (I.push _) (by simp +arith only) λg1 l U=>?_;have all:List.take eA.size (List.drop 0 eA.toList)=eA.toList:=by rw[DQ];exact AV (by simp)
 rw[all,Az (by simp)];have p:g1.IsList t eA:=(I.push _).extBut U.extBut J;refine Aa<|A1<|wpAny_pyNext_list_end T l p (by simp) λg2 r=>?_;rw[Az (by simp)];exact Ag<|h g2 λb o C e=>r b o C<|U.extBut b o C<|qy _ e
end
def asq(K:Ah)(n:Nat)(t:TGs):TG:=λv σ H Q=>∃a xs,v=.ref a/\aI K H a xs/\xs.length=n/\t xs σ H Q
theorem amm{k:Nat}{t:TGs}(hc:X.calm=true)(h:PGs X es t)
 (l:(assignEach es X.env).length=n:=by rfl) (U:(assignEach es X.env).findIdx? (·.1)=none:=by rfl):PG X (.Tuple es k pos) (asq X.K n t):=by
 intro J s g H v u Q I r hw;obtain⟨a,p,C,T,hl,hw⟩:=hw;subst C;cases r;obtain⟨a1,j,pl,hz⟩:=I.list T;have ht:=jh pl;refine afo (I.ok.hd hc) ht (by simp[l,<-hl,j.length]) U λh' hx=>?_;have I1:qw X J g H { s with heap:=h' }:=I.kept (t':=s.toks) λb o e=>hx b o (A4<|r4 e) e;exact h J _ g H p _ Q I1 (by simpa using j) hw
theorem ai3(l:Addr)(eA:Array Value)(n:Nat)(x:Value)(b:Nat->Bool)(j:Nat)(C:j<eA.size)(hit:b j=true)(hz:eA.size<=sizeLine):∀(k i:Nat),j-i=k->i<=j->(∀m,i<=m->m<j->b m=false)->
 Meets (Builtin.«list.remove.loop» ⟨[.ref l,x,rawInt i],[]⟩) (λA R s=>s.heap.get? l=some { cls:=.type "list",dict:=none,data:=.seq eA n,slots:=#[] }/\(∀m (hm:m<eA.size),SeqAt.EqAt A.in1 s eA[m] x<|b m)/\R (.ok<|.ret .none) { s with heap:=s.heap.update l (Obj.mapSeq λxs=>xs.eraseIdxIfInBounds j) }):=by
 intro k
 induction k with
 |zero=>
  intro i T p J I w A R s h;obtain⟨hp,g,d,tk,os⟩:=s;obtain⟨U,eq,h⟩:=h;have e:i=j:=by lia
  subst e
  (wp_walk using wpAny_loadPart' U)
  have r:eA[((i:Nat):Int).toNat]?=some eA[i]:=by simp[C]
  rw[r];refine Aa<|eq i C I w _ _ ?_;rw[hit];have t:(eA.eraseIdxIfInBounds i).size<=sizeLine+1:=A0 (MeetsSeq.size_erased eA _)<|BQ hz
  (wp_walk using (wpAny_updateSeq U rfl (hz:=hz) (_hz':=t)),wpAny_loadPart' U)
  simpa using h
 |succ k ih=>
  intro i T p J I w A R s h;obtain⟨hp,g,d,tk,os⟩:=s;obtain⟨U,eq,h⟩:=h;have o:i<eA.size:=by exact i3
  (wp_walk using wpAny_loadPart' U)
  have r:eA[((i:Nat):Int).toNat]?=some eA[i]:=by simp[o]
  have hc:((i:Int)+1)=((i+1:Nat):Int):=by rfl
  rw[r];refine Aa<|eq i o I w _ _ ?_;rw[J i (Am _) (by omega)]
  wp_walk
  rw[hc];refine⟨plainId_quiet Bs _,codeAny_builtin MeetsSeq.entry_remove_loop ?_⟩;rw[Ev Bs _];exact ih (i+1) (by omega) (by omega) (λm h1 h2=>J m (by exact jC) h2) I w A R _ ⟨U,eq,h⟩
theorem aeh(l:Addr)(eA:Array Value)(n:Nat)(x:Value)(b:Nat->Bool)(j:Nat)(o:j<eA.size)(hit:b j=true)(hz:eA.size<=sizeLine)(J:∀m,m<j->b m=false):
 Meets (Builtin.«list.remove» ⟨[.ref l,x],[]⟩) (λA R s=>s.heap.get? l=some { cls:=.type "list",dict:=none,data:=.seq eA n,slots:=#[] }/\(∀m (p:m<eA.size),SeqAt.EqAt A.in1 s eA[m] x<|b m)/\R (.ok<|.ret .none) { s with heap:=s.heap.update l (Obj.mapSeq λxs=>xs.eraseIdxIfInBounds j) }):=by
 intro I w A R s h;obtain⟨r,g,d,tk,os⟩:=s;obtain⟨U,eq,h⟩:=h
 (wp_walk using wpAny_loadPart' U)
 refine⟨plainId_quiet Bs _,codeAny_builtin MeetsSeq.entry_remove_loop ?_⟩;rw[Ev Bs _];exact ai3 l eA n x b j o hit hz _ 0 rfl (Be _) (λm _ h2=>J m h2) I w A R _ ⟨U,eq,h⟩
theorem zw.eraseN:∀{xs:List V} {us:List Value} (n:Nat),zw xs us->zw (xs.eraseIdx n) (us.eraseIdx n)
 |[],_,n,.nil=>by simp;exact .nil
 |_::_,_,0,.cons _ t=>t
 |_::_,_,n+1,.cons r t=>.cons r<|zw.eraseN n t
def afb(X:Cx):V->List V->Hp->VK->Prop:=λx vs H Q=>∃l xs y ds e,∃n m j:Nat,x=.ref l/\vs=[y]/\H l=some (.lst xs)/\n<=126/\Paired (kg X.K H n) xs ds/\kg X.K H m y e/\j<ds.length/\(∃d,ds[j]?=some d/\Da.eq d e=true)/\
 (∀(k:Nat) d,k<j->ds[k]?=some d->Da.eq d e=false)/\Q .non (upd H l<|.lst<|xs.eraseIdx j)
theorem zD(hu:X.A.units+128<cLine):oh X "list.remove" (afb X):=by
 intro a5 s σ H x vs v us Q I rx rv h;obtain⟨l,o,y,g,e,n,m,j,rfl,rfl,hH,hn,pd,ry,hj,⟨dj,t,C⟩,T,q⟩:=h;cases rx;obtain⟨u,rfl,ru⟩:=rv.one;obtain⟨z,J,nn,r,hl,eo⟩:=I.lstM hH;have l1:o.length=g.length:=pd.length;have l2:J.length=o.length:=r.length.symm;obtain⟨arr,U⟩:∃arr:Array Value,arr=J.toArray:=⟨_,rfl⟩;have a1:arr.size=J.length:=by rw[U,Au]
 have b:Nat->Bool:=λ_=>true;have a2:arr.size<=sizeLine:=by rw[a1];lia
 have M:=aeh l arr nn u (λk=>((g[k]?).map λd=>Da.eq d e).getD false) j (by lia) (by show((g[j]?).map λd=>Da.eq d e).getD false=true;rw[t];exact C) a2 (λk p=>by show((g[k]?).map λd=>Da.eq d e).getD false=false;cases ek:g[k]? with|none=>rfl|some d=>exact T k d p ek)
 rw[U] at M;refine call_meets F.slot_list_remove ⟨_,eo,rfl⟩ F.entry_list_remove (F.args_list_remove_2 _ _) M ⟨eo,λk p=>?_,?_⟩
 ·have ac:k<J.length:=by rw[Au] at p;exact p
  obtain⟨d,ed,rd⟩:=Words.Paired.getP pd<|Ak (by lia:k<o.length);show SeqAt.EqAt _ s _ u (((g[k]?).map λd=>Da.eq d e).getD false);rw[ed];obtain⟨u',a3,a4⟩:=Words.Paired.getP r<|Ak (by lia:k<o.length);have eg:J.toArray[k]=u':=by have:=(AK.mp a3).2;simpa using this
  rw[eg];exact l9 I n (by show X.A.units+1+n<cLine;lia) rd ry a4 ru
 ·refine⟨.non,_,I.lset (its':=J.eraseIdx j) hH eo ?_ (r.eraseN j) ?_,rfl,q⟩
  ·have:j<J.length:=by lia
   simp[Array.eraseIdxIfInBounds,this]
  ·have:=Do o j;exact alb
end L2
namespace L3
open PySem L2
def ajc(n:Nat)(t:sh)(y:Y)(τ:jn)(L:qr)(Q:jn->qr->Prop):Prop:=match y with
 |.ref a=>fM L a λys=>match ys.length==n with
  |true=>t ys τ L Q
  |false=>False
 |_=>False
theorem acu{U:Nat}(hc:X.calm=true)(h:QGs X es gs)(h1:(assignEach es X.env).length=n:=by rfl)(h2:(assignEach es X.env).findIdx? (·.1)=none:=by rfl):QG X (.Tuple es U pos) (ajc n gs):=
 PG.imp (amm hc h h1 h2) λv σ H Q ψ=>by
 obtain⟨y,g,L,j,l,o,J,z,k⟩:=ψ
 cases y with
 |ref a=>
  cases (show v=.ref a from l);obtain⟨p,e,I⟩:=kn z;obtain⟨t,C,r⟩:=J a _ e;split at I
  ·rename_i T;exact⟨a,t,rfl,aI.of C,by rw[<-r.length];exact beq_iff_eq.mp T,p,g,L,j,r,o,J,I,k⟩
  ·exact I.elim
 |_=>exact z.elim
def kO(x:Y)(vs:List Y)(L:qr)(Q:YK):Prop:=match x,vs with
 |.ref a,[v]=>fM L a λys=>∃ds e,∃n m j:Nat,n<=126/\Paired (x8 L n) ys ds/\x8 L m v e/\j<ds.length/\(∃d,ds[j]?=some d/\Da.eq d e=true)/\(∀(k:Nat) d,k<j->ds[k]?=some d->Da.eq d e=false)/\Q .non (qj L a<|.lst<|ys.eraseIdx j)
 |_,_=>False
theorem aej(C:X.A.units+128<cLine):oh X "list.remove" (upM X.g3 kO):=oh.imq (zD C) λx I H Q y U L Q3 T r2 g z k=>by
 unfold kO at z;split at z
 ·rename_i a v;obtain⟨zs,e,J,de,n,m,j,hn,pd,dv,hj,hit,l,z⟩:=kn z;obtain⟨us,o,r⟩:=g a _ e;obtain⟨v',rfl,rv⟩:=r2.inv1;have both:∀{U:List Y} {J:List Da} {I:List V},Paired (x8 L n) U J->v3 X.g3 H U I->Paired (kg X.K H n) I J:=by
   intro U J I p
   induction p generalizing I with
   |nil=>intro q;cases (show I=[] from q);exact .nil
   |cons h t ih=>
    rintro⟨x,a1,rfl,q1,q2⟩;exact .cons (x8.rep g h q1)<|ih q2
  exact⟨a,us,v',J,de,n,m,j,T,rfl,o,hn,both pd r,x8.rep g dv rv,hj,hit,l,k _ _ _ _ (E5 o) (g.setL o<|r.eraseIdx j) (by rfl) z⟩
 ·exact z.elim
theorem aa5(I:X.A.units+128<cLine){tr:f9}(J:QE X o to)(U:QA X (e::es) tr)(g:attributeBase o "remove" X.env (eval o X.env)=eval o X.env:=by rfl)
 (j:((backTo fx<|starEach (e::es) X.env).all (λx=>!x.1)&&(backToKw fx<|keywordEach [] X.env).all (λx=>x.1.isSome)&&decide ((e::es).length+([]:List Keyword).length+(if ([]:List Keyword).isEmpty=true then 0 else 1)<30))=true:=by rfl)
 (l:(apos.endLine==fx.line)=true:=by rfl) (p:E8 e es X:=by rfl) (r:E9 fx es X:=by rfl):
 QE X (.Call (.Attribute o "remove" apos) (e::es) [] fx) (eI kO to tr):=vJ PySem.F.slot_list_remove PySem.F.type_list_remove (aej I) J U g j l p r
open PySem L2 Words
def cQ:Wd->Y
 |.leaf t n=>.tup [.str<|kL t,.str n]
 |.node e l r=>.tup [.str<|kN e,cQ l,cQ r]
def ff:Y:=(.tup [(.str "plain"),(.str "turned")])
theorem qm{Q:α->qr->Prop}{o:Option α}{v:α}(e:o=some v)(h:Q v L):atK L Q o:=by rw[e];exact h
abbrev bR(i:Int):xz:=yC<|.int i
abbrev rdS(x:Str):xz:=yC<|.str x
abbrev dq(i:Nat)(n:Int):xz:=x5 cV (qc i)<|yC<|.int n
abbrev si(i:Nat):xz:=af sv<|qi (qc i) jb
abbrev rdE(a b:xz):jL:=yB<|x5 (yEq false) a b
abbrev rdN(a b:xz):jL:=yB<|x5 (yEq true) a b
abbrev rdT(a b:xz):xz:=kc<|qi a<|qi b jb
abbrev aJ(a:xz):f9:=qi a jb
abbrev bV(a b:xz):f9:=qi a<|qi b jb
def yo:vt:=(wc<|x5 (aw false) (dq 0 0)<|yC ff)
def kX:Bool->Bool->Str
 |true,t=>kL t
 |false,e=>kN e
def bN:zp:=λys L Q=>∃lf b rest,ys=[.tup<|.str (kX lf b)::rest]/\Q (.bl lf) L
theorem yj(t:Bool):jP (.str<|kL t) [.str "plain",.str "turned"]=true:=by cases t<;>decide +kernel
theorem yu(t:Bool):jP (.str<|kN t) [.str "plain",.str "turned"]=false:=by cases t<;>decide +kernel
theorem u8:∀ys L Q,bN ys L Q->vo yo 1 ys L Q:=by
 rintro ys L Q ⟨lf,b,rest,rfl,q⟩;have I:eZ (Y.str (kX lf b)::rest) 0=some (Y.str<|kX lf b):=jw (xs:=Y.str (kX lf b)::rest) (j:=0) rfl;walk_at "w";rw[I];refine⟨rfl,rfl,x9 ?_⟩;cases lf with
 |true=>
  rw[show nb false (jP (ak<|.str<|kX true b)<|[Y.str "plain",.str "turned"].map ak)=true from yj b];exact q
 |false=>
  rw[show nb false (jP (ak<|.str<|kX false b)<|[Y.str "plain",.str "turned"].map ak)=false from yu b];exact q
theorem aaa(t:Bool):List.lookup (kL t) [(("plain" : Str),("turned" : Str)),("turned","plain"),("both","either"),("either","both")]=some (kL<|!t):=by cases t<;>decide +kernel
theorem y9(t:Bool):List.lookup (kN t) [(("plain" : Str),("turned" : Str)),("turned","plain"),("both","either"),("either","both")]=some (kN<|!t):=by cases t<;>decide +kernel
theorem x8.str(x:Str):x8 L n (.str x) (.s<|.str x):=by cases n with|zero=>exact⟨rfl,rfl⟩|succ n=>exact .inl ⟨rfl,rfl⟩
abbrev E7:=@x8.str
theorem x8.int(x:Int):x8 L n (.int x) (.s<|.int x):=by cases n with|zero=>exact⟨rfl,rfl⟩|succ n=>exact .inl ⟨rfl,rfl⟩
abbrev EU:=@x8.int
theorem iG{L:qr}:∀{wd:Wd} {n:Nat},wd.depth<=n->x8 L n (cQ wd) (rE wd)
 |.leaf t nm,n+1,_=>.inr<|.inl ⟨_,_,rfl,rfl,.cons (E7 _)<|.cons (E7 _) .nil⟩
 |.node e l r,n+1,h=>by have I:max l.depth r.depth+1<=n+1:=h;exact .inr<|.inl ⟨_,_,rfl,rfl,.cons (E7 _)<|.cons (iG (by lia))<|.cons (iG (by lia)) .nil⟩
theorem fS{a:Addr}(e:L a=some (.lst ys))(p:Paired (x8 L n) ys ds):x8 L (n+1) (.ref a) (.lst ds):=.inr<|.inr ⟨ys,ds,rfl,rfl,wr e,p⟩
theorem aV(p:Paired (x8 L n) ys ds):x8 L (n+1) (.tup ys) (.tup ds):=.inr<|.inl ⟨ys,ds,rfl,rfl,p⟩
theorem aep{neg:Bool}{u v:Wd}{Q:YK}(J:u.depth<=128)(q:Q (.bl<|nb neg<|Da.eq (rE u)<|rE v) L):yEq neg (cQ u) (cQ v) L Q:=by
 have I:∀w:Wd,yi (cQ w)=true:=λw=>by cases w<;>rfl
 have:yi (cQ u)=true/\yi (cQ v)=true/\∃n m d e,n<=128/\x8 L n (cQ u) d/\x8 L m (cQ v) e/\Q (.bl<|nb neg<|Da.eq d e) L:=
  ⟨I u,I v,u.depth,v.depth,rE u,rE v,J,iG<|Am _,iG<|Am _,q⟩
 cases u<;>cases v<;>exact this
theorem iJ{neg:Bool}{a b:Addr}{zs:List Y}{es:List Da}{Q:YK}(I:n<128)(ea:L a=some (.lst ys))(eb:L b=some (.lst zs))(pa:Paired (x8 L n) ys ds)(pb:Paired (x8 L m) zs es)(q:Q (.bl<|nb neg<|Da.eqs ds es) L):
 yEq neg (.ref a) (.ref b) L Q:=⟨rfl,rfl,n+1,m+1,_,_,I,fS ea pa,fS eb pb,q⟩
def top(i:Nat):Stmt:=PySem.Challenge.pw_oncewise_k51_a_step_done.main.body.getD i<|.Pass ⟨0,0,0,0⟩
abbrev pG:Stmt:=top 14
abbrev gG:Stmt:=top 16
abbrev dN:Stmt:=top 18
abbrev dc:Stmt:=top 19
abbrev l6:Stmt:=top 20
abbrev bQ:Stmt:=top 22
abbrev eV:Stmt:=top 23
abbrev eW:Stmt:=top 24
abbrev ft:Stmt:=top 25
abbrev fH:Stmt:=top 26
abbrev fE:Stmt:=top 27
abbrev eJ:Stmt:=top 28
abbrev cH:Stmt:=top 29
abbrev fq:Stmt:=top 30
abbrev fJ:Stmt:=top 31
abbrev eU:Stmt:=top 32
abbrev nN:Stmt:=top 33
abbrev eL:Stmt:=top 34
abbrev cA:Stmt:=top 35
abbrev fz:Stmt:=top 36
abbrev jU:Stmt:=top 37
abbrev s__law_order:Stmt:=top 38
abbrev dI:Stmt:=top 39
abbrev cL:Stmt:=top 40
abbrev bO:Stmt:=top 41
abbrev cJ:Stmt:=top 42
abbrev bH:Stmt:=top 43
abbrev bx:Stmt:=top 44
abbrev dX:Stmt:=top 45
abbrev du:Stmt:=top 46
abbrev fB:Stmt:=top 47
abbrev fF:Stmt:=top 48
abbrev dR:Stmt:=top 49
abbrev gC:Stmt:=top 50
abbrev re:Stmt:=top 51
structure V_ where
 (P:Program) (w:World) (K:Ah) (mg:Str->Option Value) (base:Heap) (Pt:Addr) (Ca Cd Ck Cc Ce Cg Cj Ch Cb Ci Cf:Addr)
structure B0_(V:V_):Prop where
 bj:V.mg "max"=none
 bn:V.mg "min"=none
 bi:V.mg "sorted"=none
 ba:V.mg "len"=none
 bg:V.mg "list"=none
 bq:V.mg "zip"=none
 bp:V.mg "enumerate"=none
 bh:V.mg "range"=none
 bf:V.mg "isinstance"=none
 b_tuple:V.mg "tuple"=none
 b_int:V.mg "int"=none
 b_bool:V.mg "bool"=none
 b_str:V.mg "str"=none
 b_ValueError:V.mg "ValueError"=none
 k_LEAF_KINDS:apt ⟨V.K,V.P,V.w⟩ V.mg "LEAF_KINDS" ff
abbrev Q_(V:V_)(k:Nat)(x:Str)(ps:List Str)(sp:zp):Prop:=aml V.P V.w V.K V.mg V.base k x ps sp
theorem I_{a b:Expr}(I:QE X a ta)(J:QE X b tb)(U:rF b:=by exactλ_ _=>rfl):QE X (.Subscript a b pos) (x5 cV ta tb):=an6 (ap2 X.K X.prog X.w) I J U
theorem xj{t:xz}(h:QE X e t)(s:starEach [e] X.env=[(false,eval e X.env)]:=by rfl):QA X [e] (qi t jb):=vg h wo s
theorem xr{f:Expr}{t u:xz}(h:QE X e t)(g:QE X f u)(s:starEach [e,f] X.env=[(false,eval e X.env),(false,eval f X.env)]:=by rfl)(r:starEach [f] X.env=[(false,eval f X.env)]:=by rfl):QA X [e,f] (qi t<|qi u jb):=vg h (xj g r) (by show _=_;rw[s,r])
theorem cT{f d:Expr}{t u v:xz}(h:QE X e t)(g:QE X f u)(i:QE X d v)(s:starEach [e,f,d] X.env=[(false,eval e X.env),(false,eval f X.env),(false,eval d X.env)]:=by rfl)(r:starEach [f,d] X.env=[(false,eval f X.env),(false,eval d X.env)]:=by rfl)(q:starEach [d] X.env=[(false,eval d X.env)]:=by rfl):QA X [e,f,d] (qi t<|qi u<|qi v jb):=vg h (xr g i r q) (by show _=_;rw[s,r])
theorem E_{a b:Expr}(I:X.A.units+128<cLine)(J:QE X a ta)(U:QE X b tb):QT X (.Compare a [.Eq] [b] pos) (yB<|x5 (yEq false) ta tb):=j8 (yG X.K X.prog X.w I) J U<|ke _
theorem N_{a b:Expr}(I:X.A.units+128<cLine)(J:QE X a ta)(U:QE X b tb):QT X (.Compare a [.NotEq] [b] pos) (yB<|x5 (yEq true) ta tb):=j8 (aoa X.K X.prog X.w I) J U<|ke _
theorem S_(i:Nat)(hN:X.N.Nodup)(h:QE X e te)(I:X.N[i]?=some x:=by rfl)(g:Loc X.env.scope x:=by exact Or.inl rfl)(J:swapsWith e (some<|.Name x gg) pos.line X.env=pure false:=by rfl)(U:X.fn x=true\/X.env.scope.names.lookup x=some .local:=by first|exact .inl rfl|exact .inr rfl|assumption):QS X (.Assign [.Name x gg] e pos) (jz te<|qo i):=cB (i:=i) hN I g h J U
theorem G_(i:Nat)(hN:X.N.Nodup)(I:X.N[i]?=some x:=by rfl)(U:Loc X.env.scope x:=by exact Or.inl rfl)(J:X.fn x=true\/X.env.scope.names.lookup x=some .local:=by first|exact .inl rfl|exact .inr rfl|assumption):QG X (.Name x pos) (qo i):=aB (i:=i) hN I U J
theorem C_{tr:f9}{p:Pos}{k:Nat}{sp:zp}(c:aml X.prog X.w X.K X.mg X.base j x ps sp)(U:w4 k X.A)(g:QA X (e::es) tr)(l:j<=k:=by first|decide|exact Am _|exact A0 (by decide)<|DJ _ _)(o:Gl X x:=by rfl)(I:Fb x:=by decide)(r:E8 e es X:=by rfl)(J:E9 pos es X:=by rfl):QE X (.Call (.Name x p) (e::es) [] pos) (xh sp tr):=ar8 (Cal.mono c l) U o g I r J
theorem J_{n:Int}{k:Nat}{p q:Pos}(i:Nat)(hN:X.N[i]?=some x:=by rfl)(I:Vis X.env.scope x:=by first|exact Or.inl rfl|exact Or.inr (Or.inl rfl)|exact Or.inr<|Or.inr rfl)(hd:Fb x:=by decide)(hc:Fc x:=by decide):QE X (.Subscript (.Name x p) (.Constant (.int n) k q) pos) (x5 cV (qc i)<|yC<|.int n):=I_ (qv i hN I hd hc) qd λ_ _=>rfl
theorem L_{t:xz}{p:Pos}(I:X.mg "len"=none)(h:QE X e t)(s:starEach [e] X.env=[(false,eval e X.env)]:=by rfl)(J:Gl X "len" := by rfl):QE X (.Call (.Name "len" p) [e] [] pos) (af sv<|qi t jb):=jc (ajl X.K X.prog X.w) J I alc (xj h s) (hs:=s)
theorem nd_{l:List Str}(h:decide l.Nodup=true:=by kernel_rfl):l.Nodup:=of_decide_eq_true h
abbrev q1_(V:V_)(p:zp):Prop:=Q_ V 1 "is_leaf" ["word"] p
abbrev q2_(V:V_)(p:zp):Prop:=Q_ V 2 "parts_of" ["knot"] p
abbrev q3_(V:V_)(p:zp):Prop:=Q_ V 1 "partner_of" ["links","place"] p
abbrev q4_(V:V_)(p:fW):Prop:=jX V.P V.w V.K V.mg V.base 2 "links_without" ["links","p","q"] p
abbrev q5_(V:V_)(p:fW):Prop:=jX V.P V.w V.K V.mg V.base 3 "cut_step" ["web","k"] p
abbrev q6_(V:V_)(p:zp):Prop:=Q_ V 1 "_law_cell_at" ["_law_script","_law_k"] p
abbrev q7_(V:V_)(p:zp):Prop:=Q_ V 1 "_law_stir" ["_law_script"] p
abbrev q8_(V:V_)(p:zp):Prop:=Q_ V 1 "_law_pick" ["_law_stir_here","_law_factor"] p
abbrev q9_(V:V_)(p:zp):Prop:=Q_ V 1 "_law_mix" ["_law_cell","_law_k","_law_factor"] p
abbrev aq7(V:V_)(p:zp):Prop:=Q_ V 1 "_law_name" ["_law_seed","_law_which"] p
abbrev ap5(V:V_)(p:zp):Prop:=Q_ V 121 "_law_word" ["_law_knots","_law_p"] p
abbrev arh(V:V_)(p:zp):Prop:=Q_ V 121 "_law_flip" ["_law_word_here"] p
abbrev aq6(V:V_)(p:zp):Prop:=Q_ V 121 "_law_weight" ["_law_word_here"] p
abbrev apg(V:V_)(p:zp):Prop:=Q_ V 170 "_law_mirror" ["_law_knots","_law_word_here"] p
abbrev ao2(V:V_)(p:zp):Prop:=Q_ V 1 "_law_join" ["_law_knots","_law_forest","_law_one","_law_two"] p
abbrev apd(V:V_)(p:zp):Prop:=Q_ V 1 "_law_fold" ["_law_knots","_law_tree_here","_law_one","_law_two"] p
abbrev apr(V:V_)(p:zp):Prop:=Q_ V 171 "_law_cut" ["_law_knots","_law_forest","_law_one","_law_two"] p
abbrev apl(V:V_)(p:zp):Prop:=Q_ V 172 "_law_tree" ["_law_cells","_law_seed","_law_room"] p
abbrev aoi(V:V_)(p:zp):Prop:=Q_ V 121 "_law_gather" ["_law_rule","_law_links","_law_cuts"] p
abbrev aqb(V:V_)(p:zp):Prop:=Q_ V 122 "_law_web" ["_law_tree_here"] p
abbrev aox(V:V_)(p:zp):Prop:=Q_ V 1 "_law_open" ["_law_web_here"] p
abbrev anb(V:V_)(p:zp):Prop:=Q_ V 2 "_law_order" ["_law_knots","_law_seed"] p
abbrev aos(V:V_)(p:zp):Prop:=Q_ V 121 "_law_moved" ["_law_rule","_law_at"] p
abbrev anl(V:V_)(p:zp):Prop:=Q_ V 122 "_law_gapped" ["_law_tree_here","_law_stir_here"] p
abbrev ap3(V:V_)(p:zp):Prop:=Q_ V 1 "_law_swapped" ["_law_web_here","_law_number_here"] p
abbrev aov(V:V_)(p:zp):Prop:=Q_ V 1 "_law_looped" ["_law_web_here","_law_number_here"] p
abbrev ar4(V:V_)(p:zp):Prop:=Q_ V 2 "_law_crossed" ["_law_web_here","_law_stir_here"] p
abbrev anq(V:V_)(p:zp):Prop:=Q_ V 1 "_law_number" ["_law_x"] p
abbrev aqt(V:V_)(p:zp):Prop:=Q_ V 6 "_law_alike" ["_law_found","_law_due_here"] p
abbrev arx(V:V_)(p:zp):Prop:=Q_ V 1 "_law_copy" ["_law_web_here"] p
abbrev aon(V:V_)(p:zp):Prop:=Q_ V 173 "_law_sown" ["_law_script","_law_stir_here","_law_wide"] p
abbrev ao5(V:V_)(p:zp):Prop:=Q_ V 171 "_law_deep" ["_law_tree_here","_law_number_here"] p
abbrev as8(V:V_)(p:zp):Prop:=Q_ V 174 "_law_grown" ["_law_script","_law_stir_here","_law_wide"] p
abbrev ara(V:V_)(p:zp):Prop:=Q_ V 1 "_law_due" ["_law_web_here","_law_k"] p
abbrev RD(x:Str)(st:Stmt)(k:Nat)(N:List Str)(h:V_->Prop):=PSigma λt:vt=>∀V:V_,B0_ V->h V->∀f:Addr,∀(eK:Value) (A:Around) (outer:List Env) (s:Shared) (H:Hp) (E:XK),w4 k (A.deeper<|PyProof.Rows.envOfC x (qt st) s.heap.objs.size f eK)->N.Nodup->(A.deeper<|PyProof.Rows.envOfC x (qt st) s.heap.objs.size f eK).units+128<cLine->nv (cM CX0 V.P V.w V.K V.mg V.base N x (qt st) f eK A outer s H E).nox (jg st) t
abbrev RR(x:Str)(st:Stmt)(k:Nat)(ps N:List Str)(p:zp)(h:V_->Prop):=PSigma λt:vt=>∀V:V_,B0_ V->h V->∀(n:Nat) (f:Addr),Q_ V (n+k) x ps p->∀(eK:Value) (A:Around) (outer:List Env) (s:Shared) (H:Hp) (E:XK),w4 (n+k) (A.deeper<|PyProof.Rows.envOfC x (qt st) s.heap.objs.size f eK)->N.Nodup->(A.deeper<|PyProof.Rows.envOfC x (qt st) s.heap.objs.size f eK).units+128<cLine->nv (cM CX0 V.P V.w V.K V.mg V.base N x (qt st) f eK A outer s H E).nox (jg st) t
theorem qE{p:Pos}(i:Nat)(hi:X.N.length=i:=by rfl)(hN:(X.N++[x]).Nodup:=by exact nd_)(J:∀C fp s₀ H₀,Loc (X.comp scope [x] C fp s₀ H₀).env.scope x:=by exactλ_ _ _ _=>Or.inl rfl)(I:∀C fp s₀ H₀,(X.comp scope [x] C fp s₀ H₀).env.scope.names.lookup x=some .local:=by exactλ_ _ _ _=>rfl):TGx X scope [x] (.Name x p) (qo i):=hi▸gh hN J I
noncomputable def fC:RD "_law_cell_at" bQ 0 ["_law_script","_law_k"] (λ_=>True):=⟨_,λV B c _ _ _ _ _ _ _ I hN J=>(qa (zq (j8 qJ (qv 1) (L_ B.ba<|qv 0)<|ke _) (qf<|za<|I_ (qv 0)<|qv 1) z0)<|qf<|za qd)⟩
noncomputable def mH:vt:=(fC).1
noncomputable def lC:RD "_law_mix" ft 0 ["_law_cell","_law_k","_law_factor"] (λ_=>True):=⟨_,λV B c _ _ _ _ _ _ _ I hN J=>(qf<|za<|qk xo (qk jl (qk gi (qk jr (qk jr (qk gi (qk jl (qv 0) qd) qd)<|qk gi (qv 1)<|qv 1) qd)<|qv 2) qd) qd)⟩
noncomputable def vL:vt:=(lC).1
noncomputable def fi(J:zp):RR "_law_weight" cH 1 ["_law_word_here"] ["_law_word_here"] J (λ_=>True):=⟨_,λV B c _ _ I _ _ _ _ _ _ U hN g=>(qa (zq (E_ g (L_ B.ba<|qv 0) qd) (qf<|za qd) z0)<|qf<|za<|qk jr (qk jr qd<|C_ I U<|xj<|J_ 0)<|C_ I U<|xj<|J_ 0)⟩
noncomputable def nW(I:zp):vt:=(fi I).1
noncomputable def jO(J:zp):RR "_law_word" fE 1 ["_law_knots","_law_p"] ["_law_knots","_law_p","_law_knot"] J (λ_=>True):=⟨_,λV B c _ _ I _ _ _ _ _ _ U hN g=>(qa (S_ 2 hN<|I_ (qv 0)<|qv 1)<|qa (zq (E_ g (L_ B.ba<|qv 2) qd) (qf<|za<|qv 2) z0)<|qf<|za<|zd<|cT (J_ 2) (C_ I U<|xr (qv 0)<|J_ 2)<|C_ I U<|xr (qv 0)<|J_ 2)⟩
noncomputable def se(I:zp):vt:=(jO I).1
def gA:zp:=λys L Q=>∃I:List Int,∃k:Int,ys=[.sq<|I.map Y.int,.int k]/\0<=k/\∀v,Q (.int v) L
theorem uz:∀ys L Q,gA ys L Q->vo mH 2 ys L Q:=by rintro ys L Q ⟨I,k,rfl,h0,q⟩;refine zg (λc=>?_) λc=>x9<|q 0;have J:k<((I.map Y.int).length:Int):=c;rw[Ae] at J;obtain⟨j,rfl⟩:∃j:Nat,k=(j:Int):=⟨k.toNat,by lia⟩;have e:eZ (I.map Y.int) (j:Int)=some (Y.int<|I[j]'(by omega)):=v5<|Ak _;walk_at "w";rw[e];exact x9<|q _
def lg:zp:=λys L Q=>∃c k f:Int,ys=[.int c,.int k,.int f]/\0<=k/\k<1000000/\0<f/\f<1000000/\∀v,0<=v->v<134217728->Q (.int v) L
theorem amu:∀ys L Q,lg ys L Q->vo vL 3 ys L Q:=by
 rintro ys L Q ⟨c,k,f,rfl,h0,h1,h2,h3,q⟩;refine⟨(by decide:(0:Int)<1000003),.inr ⟨by decide,by decide⟩,.inl ⟨by lia,by lia⟩,.inr ⟨by lia,by lia⟩,(by decide:(0:Int)<2147483647),⟨by decide,by decide⟩,x9<|q _ ?_ ?_⟩
 all_goals
  generalize ((c % 1000003*7+k*k+1)*f)=z;lia
theorem ac5(cs:List Nat):(Txt.join ""<|cs.map λc=>(⟨#[c]⟩:Str)).cps.toList=cs:=by
 rw[ph]
 induction cs with|nil=>rfl|cons c r I=>rw[AF,Bq,I];rfl
def az(n:Nat):zp:=λys L Q=>∃wd,ys=[cQ wd]/\wd.depth<=n/\Q (.int wd.size) L
theorem mX:∀ys L Q,¬az 0 ys L Q:=λys L Q ψ=>by obtain⟨I,_,hd,_⟩:=ψ;cases I<;>simp[Wd.depth] at hd
theorem zV(n:Nat):∀ys L Q,az (n+1) ys L Q->vo (nW<|az n) 1 ys L Q:=by
 rintro ys L Q ⟨I,rfl,hd,q⟩;cases I with
 |leaf t n=>exact x9 q
 |node e l r=>
  have J:max l.depth r.depth+1<=n+1:=hd;refine⟨l,rfl,by lia,r,rfl,by lia,x9 ?_⟩;have e:(1+(l.size:Int)+(r.size:Int))=(((Wd.node e l r).size:Nat):Int):=by show _=((1+l.size+r.size:Nat):Int);rfl
  rw[e];exact q
def KW(ks:List Y):Nat->Wd->Prop
 |p,.leaf t n=>ks[p]?=some (.tup [.str<|kL t,.str n])
 |p,.node e l r=>∃i j:Nat,ks[p]?=some (.tup [.str<|kN e,.int i,.int j])/\KW ks i l/\KW ks j r
theorem KW.more{ks:List Y}(ms:List Y):∀{wd:Wd} {p:Nat},KW ks p wd->KW (ks++ms) p wd
 |.leaf _ _,p,h=>by have I:ks[p]?=some _:=h;show(ks++ms)[p]?=some _;rw[AB (AK.mp I).1];exact I
 |.node _ _ _,p,ψ=>(by obtain⟨i,j,h,a,b⟩:=ψ;exact ⟨i,j,by rw[AB (AK.mp h).1];exact h,KW.more ms a,KW.more ms b⟩)
def wg(n:Nat):zp:=λys L Q=>∃k ks p wd,ys=[.ref k,.int ((p:Nat):Int)]/\L k=some (.lst ks)/\KW ks p wd/\wd.depth<=n/\Q (cQ wd) L
theorem vF:∀ys L Q,¬wg 0 ys L Q:=λys L Q ψ=>by obtain⟨k,J,p,I,_,_,_,hd,_⟩:=ψ;cases I<;>simp[Wd.depth] at hd
theorem qA:∀ys L Q,¬wg 0 ys L Q:=vF
theorem sC(n:Nat):∀ys L Q,wg (n+1) ys L Q->vo (se<|wg n) 3 ys L Q:=by
 rintro ys L Q ⟨k,J,p,U,rfl,I,h,hd,q⟩;cases U with
 |leaf t nm=>exact qb I<|qm (jw h)<|x9 q
 |node e l r=>
  obtain⟨i,j,h,g,o⟩:=h;have C:max l.depth r.depth+1<=n+1:=hd;exact qb I<|qm (jw h) ⟨k,J,i,l,rfl,I,g,by lia,k,J,j,r,rfl,I,o,by lia,x9 q⟩
def mkS(l:List Nat):Str:=⟨l.toArray⟩
theorem wQ(x:Str):mkS x.cps.toList=x:=by cases x;rfl
noncomputable def yJ(J:zp):RR "_law_flip" eJ 1 ["_law_word_here"] ["_law_word_here","_law_sides"] J (λ_=>True):=⟨_,λV B c _ _ I _ _ _ _ _ _ U hN g=>(qa (S_ 1 hN<|agq [ ("plain" ,"turned") ,("turned" ,"plain") ,("both" ,"either") ,("either" ,"both") ] (iL dH dH<|iL dH dH<|iL dH dH<|iL dH dH afq) rfl rfl (List.cons_ne_nil _ _)<|B4 rfl)<|qa (zq (E_ g (L_ B.ba<|qv 0) qd) (qf<|za<|zd<|xr (I_ (qv 1)<|J_ 0)<|J_ 0) z0)<|qf<|za<|zd<|cT (I_ (qv 1)<|J_ 0) (C_ I U<|xj<|J_ 0)<|C_ I U<|xj<|J_ 0)⟩
noncomputable def aha(I:zp):vt:=(yJ I).1
def ac7(I:zp)(p1:zp):vt:=(zj (wx (rdE (si 1)<|bR 2) (zj (xt<|eI zv (qc 0)<|qi (xh I<|aJ<|qc 1) jb)
 (zj (xt<|eI zv (qc 0)<|aJ<|qc 1)
 (wc<|io<|qi (kc<|qi (rdS "link")<|qi (x5 lh (si 0)<|bR 2)<|qi (x5 lh (si 0)<|bR 1) jb)<|qi (x5 lh (si 0)<|bR 2)<|qi (x5 lh (si 0)<|bR 1) jb))) kh)
 (zj (jz (xh p1<|bV (qc 0)<|dq 1 1)<|qo 2)
 (zj (jz (xh p1<|bV (qc 0)<|dq 1 2)<|qo 3)
 (zj (xt<|eI zv (qc 0)<|qi (kc<|qi (x5 cV (xh I<|aJ<|qc 1)<|bR 0)<|bV (dq 2 1)<|dq 3 1) jb)
 (zj (xt<|eI zv (qc 0)<|qi (kc<|qi (dq 1 0)<|bV (dq 2 2)<|dq 3 2) jb)
 (zj (afn 4 5<|qi (x5 lh (si 0)<|bR 2)<|qi (x5 lh (si 0)<|bR 1) jb)
 (zj (jz (yIf (rdE (dq 1 0)<|rdS "either") (qc 4)<|qc 5)<|qo 6)
 (zj (jz (yIf (rdE (dq 1 0)<|rdS "either") (qc 5)<|qc 4)<|qo 7)
 (wc<|io<|qi (kc<|qi (rdS "either")<|qi (qc 7)<|qi (kc<|qi (rdS "both")<|qi (qc 6)<|bV (dq 2 0)<|dq 3 0) jb)<|bV (qc 4)<|qc 5)))))))))
set_option genInjectivity true in
inductive Kn where
 |lf (t:Bool) (n:Str)|nd (e:Bool) (i j:Nat)
def qV:Kn->Y
 |.lf t n=>.tup [.str<|kL t,.str n]
 |.nd e i j=>.tup [.str<|kN e,.int ((i:Nat):Int),.int ((j:Nat):Int)]
inductive Ru where
 |link (p q:Nat)|ei (r:Nat) (A:Ru)|bo (r:Nat) (A B:Ru)|cu (p q:Nat) (A B:Ru)
def zm:Ru->Y
 |.link p q=>.tup [.str "link",.int ((p:Nat):Int),.int ((q:Nat):Int)]
 |.ei r A=>.tup [.str "either",.int ((r:Nat):Int),zm A]
 |.bo r A B=>.tup [.str "both",.int ((r:Nat):Int),zm A,zm B]
 |.cu p q A B=>.tup [.str "cut",.int ((p:Nat):Int),.int ((q:Nat):Int),zm A,zm B]
def qx:Ru->List Nat
 |.link p q=>[p,q]
 |.ei r A=>r::qx A
 |.bo r A B=>r::(qx A++qx B)
 |.cu _ _ A B=>qx A++qx B
abbrev ju(ks:List Kn):List Y:=ks.map qV
def dC(ks:List Kn)(p:Nat)(w:Wd):Prop:=KW (ju ks) p w
theorem dC.more{ks:List Kn}{w:Wd}(h:dC ks p w)(ms:List Kn):dC (ks++ms) p w:=by unfold dC ju;rw[AH];exact KW.more _ h
def dg(ks:List Kn):Prop:=∀(p:Nat) (k:Kn),ks[p]?=some k->match k with
 |.lf _ n=>eY n
 |.nd _ i j=>i<p/\j<p
theorem dg.snoc{ks:List Kn}{k:Kn}(h:dg ks)(I:match k with|.lf _ n=>eY n|.nd _ i j=>i<ks.length/\j<ks.length):dg (ks++[k]):=by
 intro p J e;by_cases c:p<ks.length
 ·rw[AB c] at e;exact h p J e
 ·rw[Ap (by exact zG)] at e;have c2:p=ks.length:=by
   by_cases c3:p-ks.length=0
   ·omega
   ·rw[B3 (by simp;exact af0)] at e;cases e
  subst c2;rw[C3] at e;cases e;exact I
theorem fG(l:List α)(x:α)(r:List α):(l++x::r)[l.length]?=some x:=by rw[Ap<|Am _,C3];rfl
theorem iU{l r:List α}{x:α}(h:l[p]?=some x):(l++r)[p]?=some x:=by rw[AB (AK.mp h).1];exact h
inductive SR(ks:List Kn):Ru->List Nat->Prop
 |link {p q:Nat} {t:Bool} {n:Str} {E:List Nat}:p<q->ks[p]?=some (.lf t n)->ks[q]?=some (.lf (!t) n)->(∀x,x∈E↔x=p\/x=q)->E.Nodup->SR ks (.link p q) E
 |ei {r i j:Nat} {A:Ru} {EA E:List Nat}:ks[r]?=some (.nd true i j)->SR ks A EA->i∈EA->j∈EA->i≠j->(∀x,x∈E↔(x∈EA/\x≠i/\x≠j)\/x=r)->E.Nodup->SR ks (.ei r A) E
 |bo {r i j:Nat} {A B:Ru} {EA EB E:List Nat}:ks[r]?=some (.nd false i j)->SR ks A EA->SR ks B EB->i∈EA->j∈EB->(∀x,x∈E↔(x∈EA/\x≠i)\/(x∈EB/\x≠j)\/x=r)->E.Nodup->SR ks (.bo r A B) E
 |cu {p q:Nat} {A B:Ru} {EA EB E:List Nat} {w:Wd}:SR ks A EA->SR ks B EB->p∈EA->q∈EB->dC ks p w->dC ks q w.turn->(∀x,x∈E↔(x∈EA/\x≠p)\/(x∈EB/\x≠q))->E.Nodup->SR ks (.cu p q A B) E
theorem SR.more{ks:List Kn}{R:Ru}{E:List Nat}(h:SR ks R E)(ms:List Kn):SR (ks++ms) R E:=by induction h with|link h1 h2 h3 I J=>exact .link h1 (iU h2) (iU h3) I J|ei h1 _ h3 I J j l o=>exact .ei (iU h1) o h3 I J j l|bo h1 _ _ I J j l U g=>exact .bo (iU h1) U g I J j l|cu _ _ h3 I J j l p U g=>exact .cu U g h3 I (J.more ms) (j.more ms) l p
theorem SR.sub{ks:List Kn}{R:Ru}{E:List Nat}(h:SR ks R E):∀x∈E,x∈qx R:=by
 induction h with
 |link _ _ _ j _=>intro x I;rcases (j x).mp I with rfl|rfl<;>simp[qx]
 |ei _ _ _ _ _ g _ l=>intro x I;rcases (g x).mp I with⟨h,_⟩|rfl;exact Af _<|l x h;exact Av ..
 |bo _ _ _ _ _ g _ J U=>
  intro x I;rcases (g x).mp I with⟨h,_⟩|⟨h,_⟩|rfl
  ·exact Af _<|Ao _<|J x h
  ·exact Af _<|Ai _<|U x h
  ·exact Av ..
 |cu _ _ _ _ _ _ o _ J U=>
  intro x I;rcases (o x).mp I with⟨h,_⟩|⟨h,_⟩
  ·exact Ao _<|J x h
  ·exact Ai _<|U x h
def aY(n:Nat):zp:=λys L Q=>∃wd,ys=[cQ wd]/\wd.depth<=n/\Q (cQ wd.turn) L
theorem aeg:∀ys L Q,¬aY 0 ys L Q:=λys L Q ψ=>by obtain⟨I,_,hd,_⟩:=ψ;cases I<;>simp[Wd.depth] at hd
theorem wE(t:Bool):ko ([(("plain" : Str),("turned" : Str)),("turned","plain"),("both","either"),("either","both")].map λp=>((Sum.inr p.1:jk),Y.str p.2)) (Sum.inr<|kL t)=some (.str<|kL<|!t):=jW<|aaa t
theorem vO(t:Bool):ko ([(("plain" : Str),("turned" : Str)),("turned","plain"),("both","either"),("either","both")].map λp=>((Sum.inr p.1:jk),Y.str p.2)) (Sum.inr<|kN t)=some (.str<|kN<|!t):=jW<|y9 t
theorem ae2(n:Nat):∀ys L Q,aY (n+1) ys L Q->vo (aha<|aY n) 2 ys L Q:=by
 rintro ys L Q ⟨J,rfl,hd,q⟩;intro p I;cases J with
 |leaf t nm=>
  refine vv q9<|qm (wE t) ?_;exact lm (By I) q
 |node e l r=>
  have U:max l.depth r.depth+1<=n+1:=hd;refine vv q9<|qm (vO e) ?_;refine⟨l,rfl,by lia,r,rfl,by lia,?_⟩;exact lm (By I) q
structure Mir(ks:List Kn)(w:Wd)(ms:List Kn)(R:Ru)(tp sp:Nat):Prop where
 len:ms.length=2*w.size
 sr:SR (ks++ms) R [tp,sp]
 wt:dC (ks++ms) tp w.turn
 ws:dC (ks++ms) sp w
 tm:∀x,x∈qx R↔ks.length<=x/\x<ks.length+ms.length
 nd:(qx R).Nodup
 ok:dg (ks++ms)
theorem dC.leaf{ks:List Kn}{n:Str}(h:ks[p]?=some (.lf t n)):dC ks p (.leaf t n):=by show(ju ks)[p]?=_;rw[Aq,h];rfl
theorem dC.node{ks:List Kn}{e:Bool}{l r:Wd}(h:ks[p]?=some (.nd e i j))(I:dC ks i l)(J:dC ks j r):dC ks p (.node e l r):=by refine⟨i,j,?_,I,J⟩;rw[Aq,h];rfl
abbrev E4:=@dC.node
theorem t8{ks:List Kn}(g:dg ks){n:Str}(I:eY n):Mir ks (.leaf t n) [.lf (!t) n,.lf t n] (.link ks.length<|ks.length+1) ks.length (ks.length+1):=by
 have J:(ks++[Kn.lf (!t) n,.lf t n])[ks.length]?=some (.lf (!t) n):=fG _ _ _;have U:(ks++[Kn.lf (!t) n,.lf t n])[ks.length+1]?=some (.lf t n):=by have:=fG (ks++[Kn.lf (!t) n]) (Kn.lf t n) [];rw[Ac,Aw] at this;exact this
 refine⟨rfl,.link (t:=!t) (n:=n) (by exact B5 _) J (by rw[Du];exact U) (by simp) (by simp),dC.leaf J,dC.leaf U,λx=>?_,by simp[qx],?_⟩
 ·show x∈[ks.length,ks.length+1]↔ks.length<=x/\x<ks.length+2;simp;lia
 ·have:=(g.snoc (k:=.lf (!t) n) I).snoc (k:=.lf t n) I;rw[Aw] at this;exact this
theorem SR.nod{ks:List Kn}{R:Ru}{E:List Nat}(h:SR ks R E):E.Nodup:=by cases h<;>assumption
theorem at5{x h lo a r N:Nat}(I:(h=N/\lo=N+1)\/(h=N+1/\lo=N))(hN:N=a+m+r):x=h\/x=lo\/(a<=x/\x<a+m)\/a+m<=x/\x<a+m+r↔a<=x/\x<N+2:=by subst hN;rcases I with⟨rfl,rfl⟩|⟨rfl,rfl⟩<;>lia
theorem ata{x a b c N:Nat}(h:a≠b)(k:c≠d):x∈[b,d,N]↔(x∈[a,b]/\x≠a)\/(x∈[c,d]/\x≠c)\/x=N:=by simp only[An,BK,or_false];lia
theorem ar1{x a b c N:Nat}(h:a≠b)(k:c≠d):x∈[a,c,N]↔(x∈[a,b]/\x≠b)\/(x∈[c,d]/\x≠d)\/x=N:=by simp only[An,BK,or_false];lia
theorem ar6{x a b N M:Nat}(h:a<N)(k:b<N):x∈[N,M]↔(x∈[a,b,N]/\x≠a/\x≠b)\/x=M:=by simp only[An,BK,or_false];lia
theorem arj{x a b N M:Nat}(h:a<N)(k:b<N):x∈[M,N]↔(x∈[a,b,N]/\x≠a/\x≠b)\/x=M:=by simp only[An,BK,or_false];lia
theorem apu{a b N:Nat}(h:a<N)(k:b<N)(d:a≠b):[a,b,N].Nodup:=by rw[AE,AE];simp;lia
theorem aqw{a r N t s u v:Nat}(I:a<=t/\t<a+m)(J:a<=s/\s<a+m)(b1:a+m<=u/\u<a+m+r)(b2:a+m<=v/\v<a+m+r)(hN:N=a+m+r):t<N/\s<N/\u<N/\v<N/\t≠u/\s≠v:=by lia
theorem aq5{h lo a r N:Nat}(I:(h=N/\lo=N+1)\/(h=N+1/\lo=N))(hN:N=a+m+r):¬(h=lo\/(a<=h/\h<a+m)\/a+m<=h/\h<a+m+r)/\¬((a<=lo/\lo<a+m)\/a+m<=lo/\lo<a+m+r):=by lia
theorem asl{x y a r:Nat}(h1:a<=x/\x<a+m)(h2:a+m<=y/\y<a+m+r)(e:x=y):False:=by lia
theorem aev{ks I g:List Kn}{e:Bool}{l r:Wd}{A B:Ru}{tl J tr U:Nat}(p:Mir ks l I A tl J)(o:Mir (ks++I) r g B tr U){N:Nat}(hN:N=ks.length+(I++g).length):
 Mir ks (.node e l r) (I++g++[.nd (!e) tl tr,.nd e J U]) (.ei (if e=true then N+1 else N)<|.bo (if e=true then N else N+1) A B) N (N+1):=by
 have hA:∀x∈[tl,J],ks.length<=x/\x<ks.length+I.length:=λx T=>(p.tm x).mp<|p.sr.sub x T;have hB:∀x∈[tr,U],ks.length+I.length<=x/\x<ks.length+I.length+g.length:=λx T=>by have:=(o.tm x).mp<|o.sr.sub x T;rw[Ac] at this;exact this
 have a1:=hA tl (by simp);have a2:=hA J (by simp);have b1:=hB tr (by simp);have b2:=hB U (by simp);have nA:tl≠J:=by have:=p.sr.nod;simpa using this
 have nB:tr≠U:=by have:=o.sr.nod;simpa using this
 have t:N=ks.length+I.length+g.length:=by rw[hN,Ac];simp +arith only
 obtain⟨d1,d2,d3,d4,d5,d6⟩:=aqw a1 a2 b1 b2 t;generalize j:ks++(I++g++[Kn.nd (!e) tl tr,.nd e J U])=K;have k1:K=(ks++I)++(g++[Kn.nd (!e) tl tr,.nd e J U]):=by rw[<-j];simp
 have k2:K=((ks++I)++g)++[Kn.nd (!e) tl tr,.nd e J U]:=by rw[<-j];simp
 have k3:K=(((ks++I)++g)++[Kn.nd (!e) tl tr])++[.nd e J U]:=by rw[<-j];simp
 have l2:((ks++I)++g).length=N:=by rw[Ac,Ac];lia
 have g1:K[N]?=some (.nd (!e) tl tr):=by rw[k2,<-l2];exact fG _ _ _
 have g2:K[N+1]?=some (.nd e J U):=by
  have l3:(((ks++I)++g)++[Kn.nd (!e) tl tr]).length=N+1:=by rw[Ac,l2];rfl
  rw[k3,<-l3];exact fG _ _ _
 have sA:SR K A [tl,J]:=by rw[k1];exact p.sr.more _
 have sB:SR K B [tr,U]:=by rw[k2];exact o.sr.more _
 have a3:dg K:=by have o1:=o.ok.snoc (k:=.nd (!e) tl tr) (by show tl<((ks++I)++g).length/\tr<((ks++I)++g).length;rw[l2];exact⟨d1,d3⟩);have o2:=o1.snoc (k:=.nd e J U) (by show J<_/\U<_;rw[Ac,l2];exact⟨B7 d2,B7 d4⟩);rw[k3];exact o2
 have tA:=p.tm;have tB:=o.tm;rw[Ac] at tB;have wt:dC K N (Wd.node e l r).turn:=E4 g1 (by rw[k1];exact p.wt.more _) (by rw[k2];exact o.wt.more _);have a4:dC K (N+1) (Wd.node e l r):=E4 g2 (by rw[k1];exact p.ws.more _) (by rw[k2];exact o.ws.more _);have C:(I++g++[Kn.nd (!e) tl tr,.nd e J U]).length=2*(Wd.node e l r).size:=by have h1:=p.len;have h2:=o.len;show _=2*(1+l.size+r.size);rw[Ac,Ac];simp;lia
 have lt:ks.length+(I++g++[Kn.nd (!e) tl tr,.nd e J U]).length=N+2:=by rw[Ac];simp[hN];rfl
 have tt:∀h lo:Nat,(h=N/\lo=N+1)\/(h=N+1/\lo=N)->(∀x,x∈qx (.ei h<|.bo lo A B)↔ks.length<=x/\x<ks.length+(I++g++[Kn.nd (!e) tl tr,.nd e J U]).length)/\(qx<|.ei h<|.bo lo A B).Nodup:=by
  intro h lo hh;constructor
  ·intro x;rw[lt];show x∈h::lo::(qx A++qx B)↔_;rw[An,An,Aj,tA,tB];exact at5 hh t
  ·show(h::lo::(qx A++qx B)).Nodup;rw[AE,AE,Ar];refine⟨?_,?_,p.nd,o.nd,λx T y hy e=>?_⟩
   ·rw[An,Aj,tA,tB];exact(aq5 hh t).1
   ·rw[Aj,tA,tB];exact(aq5 hh t).2
   ·exact asl ((tA x).mp T) ((tB y).mp hy) e
 cases e with
 |true=>
  have s1:SR K (.bo N A B) [J,U,N]:=by exact .bo g1 sA sB (by simp) (by simp) (λx=>ata nA nB)<|apu d2 d4 d6
  have s2:SR K (.ei (N+1)<|.bo N A B) [N,N+1]:=by exact .ei g2 s1 (by simp) (by simp) d6 (λx=>ar6 d2 d4) (by simp)
  obtain⟨t1,t2⟩:=tt (N+1) N<|.inr ⟨rfl,rfl⟩;exact⟨C,by rw[j];exact s2,by rw[j];exact wt,by rw[j];exact a4,t1,t2,by rw[j];exact a3⟩
 |false=>
  have s1:SR K (.bo (N+1) A B) [tl,tr,N+1]:=by exact .bo g2 sA sB (by simp) (by simp) (λx=>ar1 nA nB)<|apu (B7 d1) (B7 d3) d5
  have s2:SR K (.ei N<|.bo (N+1) A B) [N,N+1]:=by exact .ei g1 s1 (by simp) (by simp) d5 (λx=>arj (B7 d1)<|B7 d3) (by simp)
  obtain⟨t1,t2⟩:=tt N (N+1)<|.inl ⟨rfl,rfl⟩;exact⟨C,by rw[j];exact s2,by rw[j];exact wt,by rw[j];exact a4,t1,t2,by rw[j];exact a3⟩
def ky(n:Nat):zp:=λys L Q=>∃a,∃ks:List Kn,∃w:Wd,ys=[.ref a,cQ w]/\L a=some (.lst<|ju ks)/\w.depth<=n/\n<=120/\w.ok/\dg ks/\ks.length+2*w.size<=10000/\
 ∀ms R tp sp p,L p=none->Mir ks w ms R tp sp->Q (.ref p) (qj (qj L a<|.lst<|ju<|ks++ms) p<|.lst [zm R,.int ((tp:Nat):Int),.int ((sp:Nat):Int)])
theorem y8:∀ys L Q,¬ky 0 ys L Q:=λys L Q ψ=>by obtain⟨a,J,I,_,_,hd,_⟩:=ψ;cases I<;>simp[Wd.depth] at hd
theorem bg_:∀m:Nat,m<=20000->m<sizeLine:=λm h=>CI h (by decide)
theorem aa3{FS:zp}(hF:∀ys L Q,aY 120 ys L Q->FS ys L Q)(n:Nat):∀ys L Q,ky (n+1) ys L Q->vo (ac7 FS<|ky n) 8 ys L Q:=by
 rintro ys L Q ⟨a,I,w,rfl,ha,hd,hn,a2,hk,hb,q⟩;have big:=bg_;cases w with
 |leaf t nm=>
  have hb:I.length+2*1<=10000:=hb;refine qb ha (hF _ _ _ ⟨.leaf t nm,rfl,by exact B9 _,qp ha ⟨big _ (by rw[Ae];lia),?_⟩⟩);refine qb q9 (qp q9 ⟨big _ (by rw[Ac,Ae];simp;lia),?_⟩);rw[jy];have e1:(ju I++[cQ (Wd.leaf t nm).turn])++[cQ<|.leaf t nm]=ju (I++[.lf (!t) nm,.lf t nm]):=by unfold ju;rw[AH,Aw];rfl
  have e2:(ju<|I++[Kn.lf (!t) nm,.lf t nm]).length=I.length+2:=by rw[Ae,Ac];rfl
  have i1:((((ju<|I++[Kn.lf (!t) nm,.lf t nm]).length:Nat):Int)-2)=((I.length:Nat):Int):=by rw[e2];lia
  have i2:((((ju<|I++[Kn.lf (!t) nm,.lf t nm]).length:Nat):Int)-1)=((I.length+1:Nat):Int):=by rw[e2];lia
  have ax:(ju I++[cQ (Wd.leaf t nm).turn])++[.tup [.str<|kL t,.str nm]]=ju (I++[.lf (!t) nm,.lf t nm]):=e1
  first|rw[e1]|rw[ax]
  refine qb q9<|qb q9<|qb q9<|qb q9 λp T=>?_;have np:L p=none:=by
   have:p≠a:=λe=>by rw[e,q9] at T;cases T
   rw[qg this] at T;exact T
  have:=q _ _ _ _ p np<|t8 hk a2;have key:[zm<|.link I.length<|I.length+1,Y.int ((I.length:Nat):Int),Y.int ((I.length+1:Nat):Int)]=[.tup [.str "link",.int<|(((ju<|I++[Kn.lf (!t) nm,.lf t nm]).length:Nat):Int)-2,.int<|(((ju<|I++[Kn.lf (!t) nm,.lf t nm]).length:Nat):Int)-1],.int<|(((ju<|I++[Kn.lf (!t) nm,.lf t nm]).length:Nat):Int)-2,.int<|(((ju<|I++[Kn.lf (!t) nm,.lf t nm]).length:Nat):Int)-1]:=by rw[i1,i2];rfl
  rw[key] at this;exact x9 this
 |node e l r=>
  have ba:max l.depth r.depth+1<=n+1:=hd;have hb:I.length+2*(1+l.size+r.size)<=10000:=hb;refine⟨a,I,l,rfl,ha,by lia,by exact jC,a2.1,hk,by lia,λJ A g j p1 al ML=>?_⟩;have a1:a≠p1:=aZ ha al;have bb:=ML.len;refine⟨a,I++J,r,rfl,by rw[qg a1,q9],by lia,by exact jC,a2.2,ML.ok,by rw[Ac];lia,λU B tr C p2 a3 MR=>?_⟩;have bc:=MR.len;have aL:p1≠p2:=aZ q9 a3;have au:a≠p2:=aZ (by rw[qg a1];exact q9) a3;have a4:qj (qj (qj (qj L a<|.lst<|ju<|I++J) p1<|.lst [zm A,.int ((g:Nat):Int),.int ((j:Nat):Int)]) a<|.lst<|ju<|(I++J)++U) p2 (.lst [zm B,.int ((tr:Nat):Int),.int ((C:Nat):Int)]) a=some (.lst<|ju<|(I++J)++U):=by rw[qg au];exact q9
  have h1:qj (qj (qj (qj L a<|.lst<|ju<|I++J) p1<|.lst [zm A,.int ((g:Nat):Int),.int ((j:Nat):Int)]) a<|.lst<|ju<|(I++J)++U) p2 (.lst [zm B,.int ((tr:Nat):Int),.int ((C:Nat):Int)]) p1=some (.lst [zm A,.int ((g:Nat):Int),.int ((j:Nat):Int)]):=by rw[qg aL,qg<|AJ a1];exact q9
  have h2:qj (qj (qj (qj L a<|.lst<|ju<|I++J) p1<|.lst [zm A,.int ((g:Nat):Int),.int ((j:Nat):Int)]) a<|.lst<|ju<|(I++J)++U) p2 (.lst [zm B,.int ((tr:Nat):Int),.int ((C:Nat):Int)]) p2=some (.lst [zm B,.int ((tr:Nat):Int),.int ((C:Nat):Int)]):=q9;have old:∀b o,b≠a->L b=some o->qj (qj (qj (qj L a<|.lst<|ju<|I++J) p1<|.lst [zm A,.int ((g:Nat):Int),.int ((j:Nat):Int)]) a<|.lst<|ju<|(I++J)++U) p2 (.lst [zm B,.int ((tr:Nat):Int),.int ((C:Nat):Int)]) b=some o:=λb o nb e=>by
   have n1:b≠p1:=aZ e al;have e2:qj (qj L a<|.lst<|ju<|I++J) p1 (.lst [zm A,.int ((g:Nat):Int),.int ((j:Nat):Int)]) b=some o:=by rw[qg n1,qg nb];exact e
   have n2:b≠p2:=aZ e2 a3;rw[qg n2,qg nb];exact e2
  generalize qj (qj (qj (qj L a<|.lst<|ju<|I++J) p1<|.lst [zm A,.int ((g:Nat):Int),.int ((j:Nat):Int)]) a<|.lst<|ju<|(I++J)++U) p2 (.lst [zm B,.int ((tr:Nat):Int),.int ((C:Nat):Int)])=L2 at a4 h1 h2 old;have bd:(ju<|(I++J)++U).length=I.length+J.length+U.length:=by rw[Ae,Ac,Ac]
  refine qb a4 (hF _ _ _ ⟨.node e l r,rfl,by show max l.depth r.depth+1<=120;exact aab,qb h1<|qb h2<|qp a4 ⟨big _ (by lia),?_⟩⟩);have a5:∀o,qj L2 a o p1=some (.lst [zm A,.int ((g:Nat):Int),.int ((j:Nat):Int)]):=λo=>by rw[qg<|AJ a1];exact h1
  have ac:∀o,qj L2 a o p2=some (.lst [zm B,.int ((tr:Nat):Int),.int ((C:Nat):Int)]):=λo=>by rw[qg<|AJ au];exact h2
  refine qb q9 (qb (a5 _) (qb (ac _) (qp q9 ⟨big _ (by rw[Ac];simp;lia),?_⟩)));rw[jy];obtain⟨N,hN⟩:∃N,N=I.length+(J++U).length:=⟨_,rfl⟩;have e1:(ju ((I++J)++U)++[.tup [.str<|kN<|!e,.int ((g:Nat):Int),.int ((tr:Nat):Int)]])++[.tup [.str<|kN e,.int ((j:Nat):Int),.int ((C:Nat):Int)]]=ju (I++(J++U++[.nd (!e) g tr,.nd e j C])):=by unfold ju;simp[qV]
  rw[e1];have lN:(ju<|I++(J++U++[Kn.nd (!e) g tr,.nd e j C])).length=N+2:=by rw[Ae,Ac,Ac,hN];simp;rfl
  have i1:((((ju<|I++(J++U++[Kn.nd (!e) g tr,.nd e j C])).length:Nat):Int)-2)=((N:Nat):Int):=by rw[lN];lia
  have i2:((((ju<|I++(J++U++[Kn.nd (!e) g tr,.nd e j C])).length:Nat):Int)-1)=((N+1:Nat):Int):=by rw[lN];lia
  refine qb q9<|qb q9 ?_;have M:=aev (e:=e) ML MR hN;have done:∀p,qj L2 a (.lst<|ju<|I++(J++U++[Kn.nd (!e) g tr,.nd e j C])) p=none->∀R,Mir I (.node e l r) (J++U++[Kn.nd (!e) g tr,.nd e j C]) R N (N+1)->
   hW Q (.ref p) (qj (qj L2 a<|.lst<|ju<|I++(J++U++[Kn.nd (!e) g tr,.nd e j C])) p<|.lst [zm R,.int ((N:Nat):Int),.int ((N+1:Nat):Int)]):=λp T R MM=>by
   have av:p≠a:=λz=>by rw[z,q9] at T;cases T
   rw[qg av] at T;have np:L p=none:=by cases z:L p with|none=>rfl|some o=>rw[old p o av z] at T;cases T
   refine lm ?_<|q _ _ _ _ p np MM;intro b o z;by_cases c1:b=p
   ·subst c1;rw[q9] at z ⊢;exact z
   ·rw[qg c1] at z ⊢;by_cases c2:b=a
    ·subst c2;rw[q9] at z ⊢;exact z
    ·rw[qg c2] at z ⊢;exact old b o c2 z
  cases e with
  |true=>
   have key:[zm<|.ei (if true=true then N+1 else N)<|.bo (if true=true then N else N+1) A B,Y.int ((N:Nat):Int),Y.int ((N+1:Nat):Int)]=[.tup [.str "either",.int<|(((ju<|I++(J++U++[Kn.nd (!true) g tr,.nd true j C])).length:Nat):Int)-1,.tup [.str "both",.int<|(((ju<|I++(J++U++[Kn.nd (!true) g tr,.nd true j C])).length:Nat):Int)-2,zm A,zm B]],.int<|(((ju<|I++(J++U++[Kn.nd (!true) g tr,.nd true j C])).length:Nat):Int)-2,.int<|(((ju<|I++(J++U++[Kn.nd (!true) g tr,.nd true j C])).length:Nat):Int)-1]:=by rw[i1,i2];rfl
   walk_at "w";refine qb (a5 _)<|qb (ac _) λp T=>?_;have:=done p T _ M;rw[key] at this;exact this
  |false=>
   have key:[zm<|.ei (if false=true then N+1 else N)<|.bo (if false=true then N else N+1) A B,Y.int ((N:Nat):Int),Y.int ((N+1:Nat):Int)]=[.tup [.str "either",.int<|(((ju<|I++(J++U++[Kn.nd (!false) g tr,.nd false j C])).length:Nat):Int)-2,.tup [.str "both",.int<|(((ju<|I++(J++U++[Kn.nd (!false) g tr,.nd false j C])).length:Nat):Int)-1,zm A,zm B]],.int<|(((ju<|I++(J++U++[Kn.nd (!false) g tr,.nd false j C])).length:Nat):Int)-2,.int<|(((ju<|I++(J++U++[Kn.nd (!false) g tr,.nd false j C])).length:Nat):Int)-1]:=by rw[i1,i2];rfl
   walk_at "w";refine qb (a5 _)<|qb (ac _) λp T=>?_;have:=done p T _ M;rw[key] at this;exact this
end L3
variable {R:L3.Ru}{ks ms:List L3.Kn}{fm wd:List<|Option L3.Kn}
namespace L3
open PySem L2 Words
noncomputable def abr:RD "_law_join" fJ 0 ["_law_knots","_law_forest","_law_one","_law_two","_law_first","_law_second","_law_left","_law_right","_law_ends"] (λ_=>True):=⟨_,λV B c _ _ _ _ _ _ _ I hN J=>(qa (S_ 4 hN<|cc (qv 1)<|xj<|qk jl (qv 3)<|L_ B.ba<|qv 1)<|qa (S_ 5 hN<|cc (qv 1)<|xj<|qk jl (qv 2)<|L_ B.ba<|qv 1)<|qa (cB (i:=6) hN rfl (Or.inr rfl)<|I_ (J_ 4)<|qk jl (qk xo (qv 3) qd)<|L_ B.ba<|J_ 4)<|qa (cB (i:=7) hN rfl (Or.inr rfl)<|I_ (J_ 5)<|qk jl (qk xo (qv 2) qd)<|L_ B.ba<|J_ 5)<|qa (zf<|z9 (qv 0)<|xj<|zd<|cT jv (qv 6)<|qv 7)<|qa (wb ["_law_p"] (i:=8) hN rfl (Or.inl rfl) (EY (by rfl)) rfl (wy<|qk jr (J_ 4)<|J_ 5) (qE 9) (λ_ _ _ _=>cD<|j8 (lV _ _ _) (qv 9) (zd<|xr (qv 6)<|qv 7) (by with_unfolding_all rfl)) λ_ _ _ _=>(qv 9))<|qf<|zf<|z9 (qv 1)<|xj<|js<|xr (zd<|vg jv<|cT (qk ag (L_ B.ba<|qv 0) qd) (J_ 4)<|J_ 5)<|qk jr (qv 8)<|js<|xj<|qk ag (L_ B.ba<|qv 0) qd)⟩
noncomputable def al9:vt:=(abr).1
noncomputable def xJ:RD "_law_fold" eU 0 ["_law_knots","_law_tree_here","_law_one","_law_two","_law_left","_law_right"] (λ_=>True):=⟨_,λV B c _ _ _ _ _ _ _ I hN J=>(qa (zq (j8 qJ (L_ B.ba<|J_ 1) qd<|ke _) (qf xL) z0)<|qa (S_ 4 hN<|cc (J_ 1)<|xj<|qk jl (qv 3)<|L_ B.ba<|J_ 1)<|qa (S_ 5 hN<|cc (J_ 1)<|xj<|qk jl (qv 2)<|L_ B.ba<|J_ 1)<|qa (zf<|z9 (qv 0)<|xj<|zd<|cT jv (qv 4)<|qv 5)<|qa (rB (qv 1) qd<|zd<|cT jv (qk ag (L_ B.ba<|qv 0) qd)<|J_ 1)<|qf<|zf<|z9 (J_ 1)<|xj<|qk ag (L_ B.ba<|qv 0) qd)⟩
noncomputable def ag7:vt:=(xJ).1
theorem cY{ks:List Kn}:∀{w v:Wd} {p:Nat},dC ks p w->dC ks p v->w=v
 |.leaf t n,.leaf g C,p,h,k=>by
  have h:(ju ks)[p]?=some (.tup [.str<|kL t,.str n]):=h;have k:(ju ks)[p]?=some (.tup [.str<|kL g,.str C]):=k;rw[h] at k;injection k with k;injection k with k;injection k with J I;injection I with I _
  injection J with J;injection I with I
  have:t=g:=by cases t<;>cases g<;>first|rfl|(exfalso;revert J;decide +kernel)
  rw[this,I]
 |.leaf t n,.node e l r,p,h,k=>by obtain⟨i,j,k,_⟩:=k;have h:(ju ks)[p]?=some (.tup [.str<|kL t,.str n]):=h;rw[h] at k;injection k with k;injection k with k;injection k with _ k;injection k with _ k;cases k
 |.node e l r,.leaf t n,p,h,k=>by obtain⟨i,j,h,_⟩:=h;have k:(ju ks)[p]?=some (.tup [.str<|kL t,.str n]):=k;rw[h] at k;injection k with k;injection k with k;injection k with _ k;injection k with _ k;cases k
 |.node e l r,.node o l' r',p,ψ,χ=>by
  obtain⟨i,j,h,T,hr⟩:=ψ;obtain⟨i',j',k,kl,kr⟩:=χ
  rw[h] at k;injection k with k;injection k with k;injection k with J I;injection I with I U;injection U with U _
  injection J with J;injection I with I;injection U with U
  have e1:i=i':=by lia
  have e2:j=j':=by lia
  subst e1 e2;have:e=o:=by cases e<;>cases o<;>first|rfl|(exfalso;revert J;decide +kernel)
  rw[this,cY (ks:=ks) T kl,cY (ks:=ks) hr kr]
theorem fw{ks:List Kn}(I:dg ks):∀(m p:Nat),p<m->p<ks.length->∃w,dC ks p w/\w.depth<=p+1/\w.ok
 |0,p,h,_=>absurd h (by lia)
 |m+1,p,h,g=>by
  obtain⟨k,J⟩:∃k,ks[p]?=some k:=⟨_,Ak g⟩;have U:=I p k J;cases k with
  |lf t n=>exact⟨.leaf t n,dC.leaf J,by show 1<=p+1;exact B9 _,U⟩
  |nd e i j=>
   have U:i<p/\j<p:=U;obtain⟨l,o,T,C⟩:=fw I m i (by lia) (by omega);obtain⟨r,b1,b2,b3⟩:=fw I m j (by lia) (by lia);exact⟨.node e l r,E4 J o b1,by show max l.depth r.depth+1<=p+1;lia,C,b3⟩
def TV(v:Str->Bool):Wd->Bool
 |.leaf t n=>if t=true then !v n else v n
 |.node e l r=>if e=true then TV v l||TV v r else TV v l&&TV v r
theorem kY(v:Str->Bool):∀w:Wd,TV v w.turn=!TV v w
 |.leaf t n=>by cases t<;>simp[Wd.turn,TV]
 |.node e l r=>by cases e<;>simp[Wd.turn,TV,kY v l,kY v r]
theorem SR.lt{E:List Nat}(h:SR ks R E):∀x∈qx R,x<ks.length:=by
 have lt:∀{p:Nat} {k:Kn},ks[p]?=some k->p<ks.length:=λh=>(AK.mp h).1
 induction h with
 |link _ h2 h3 _ _=>intro x I;simp[qx] at I;rcases I with rfl|rfl;exact lt h2;exact lt h3
 |ei h1 _ _ _ _ _ _ g=>intro x I;rcases An.mp I with rfl|I;exact lt h1;exact g x I
 |bo h1 _ _ _ _ _ _ J U=>
  intro x I;rcases An.mp I with rfl|I
  ·exact lt h1
  ·rcases Aj.mp I with I|I
   ·exact J x I
   ·exact U x I
 |cu _ _ _ _ _ _ _ _ J U=>
  intro x I;rcases Aj.mp I with I|I
  ·exact J x I
  ·exact U x I
theorem SR.tv(hk:dg ks)(v:Str->Bool){E:List Nat}(h:SR ks R E):∃x∈E,∃w,dC ks x w/\TV v w=true:=by
 have ex:∀{R':Ru} {E':List Nat},SR ks R' E'->∀x∈E',∃w,dC ks x w:=λs x I=>by obtain⟨w,hw,_⟩:=fw hk (x+1) x (by exact B5 _)<|s.lt x<|s.sub x I;exact⟨w,hw⟩
 induction h with
 |@link p q t n E _ h2 h3 h4 _=>
  cases ht:TV v (.leaf t n) with
  |true=>exact⟨p,(h4 p).mpr<|.inl rfl,_,dC.leaf h2,ht⟩
  |false=>
   refine⟨q,(h4 q).mpr<|.inr rfl,_,dC.leaf h3,?_⟩;have:=kY v<|.leaf t n;rw[ht] at this;exact this
 |@ei r i j A EA E h1 T hi hj _ J _ ih=>
  obtain⟨x,I,w,hw,tv⟩:=ih;obtain⟨wi,U⟩:=ex T i hi;obtain⟨wj,g⟩:=ex T j hj;by_cases c1:x=i
  ·subst c1;rw[cY hw U] at tv;exact⟨r,(J r).mpr<|.inr rfl,_,E4 h1 U g,by simp[TV,tv]⟩
  ·by_cases c2:x=j
   ·subst c2;rw[cY hw g] at tv;exact⟨r,(J r).mpr<|.inr rfl,_,E4 h1 U g,by simp[TV,tv]⟩
   ·exact⟨x,(J x).mpr<|.inl ⟨I,c1,c2⟩,w,hw,tv⟩
 |@bo r i j A B EA EB E h1 T hB hi hj J _ l o=>
  obtain⟨x,I,w,hw,tv⟩:=l;obtain⟨y,hy,u,C,tu⟩:=o;by_cases c1:x=i
  ·by_cases c2:y=j
   ·subst c1 c2;exact⟨r,(J r).mpr<|.inr<|.inr rfl,_,E4 h1 hw C,by simp[TV,tv,tu]⟩
   ·exact⟨y,(J y).mpr<|.inr<|.inl ⟨hy,c2⟩,u,C,tu⟩
  ·exact⟨x,(J x).mpr<|.inl ⟨I,c1⟩,w,hw,tv⟩
 |@cu p q A B EA EB E w0 T hB hp hq a1 a2 h7 _ l o=>
  obtain⟨x,I,w,hw,tv⟩:=l;obtain⟨y,hy,u,C,tu⟩:=o;by_cases c1:x=p
  ·by_cases c2:y=q
   ·subst c1 c2;rw[cY hw a1] at tv;rw[cY C a2,kY,tv] at tu;cases tu
   ·exact⟨y,(h7 y).mpr<|.inr ⟨hy,c2⟩,u,C,tu⟩
  ·exact⟨x,(h7 x).mpr<|.inl ⟨I,c1⟩,w,hw,tv⟩
theorem SR.ends(I:dg ks){E:List Nat}(h:SR ks R E):0<E.length:=by obtain⟨x,J,_⟩:=h.tv I λ_=>true;exact Eu J
structure Tr where
 a:Addr
 b:Addr
 R:Ru
 E:List Nat
abbrev jd(E:List Nat):List Y:=E.map λn:Nat=>Y.int (n:Int)
def Tr.ads(t:Tr):List Addr:=[t.a,t.b]
structure bu(L0 L:qr)(ka fa:Addr)(ks:List Kn)(fo:List Tr):Prop where
 hk:L ka=some (.lst<|ju ks)
 ht:∀t∈fo,L t.a=some (.lst [zm t.R,.ref t.b])/\L t.b=some (.lst<|jd t.E)
 sr:∀t∈fo,SR ks t.R t.E
 nd:(fo.flatMap λt=>qx t.R).Nodup
 tm:∀x,x∈(fo.flatMap λt=>qx t.R)↔x<ks.length
 ad:(ka::fa::fo.flatMap Tr.ads).Nodup
 ok:dg ks
 sub:qh L0 L
 fr:∀x∈ka::fa::fo.flatMap Tr.ads,L0 x=none
def zo(fo:List Tr):List Y:=fo.map λt=>Y.ref t.a
structure oA(L0 L:qr)(ka fa:Addr)(ks:List Kn)(fo:List Tr):Prop where
 b:bu L0 L ka fa ks fo
 hf:L fa=some (.lst<|zo fo)
def noC:Ru->Prop
 |.link _ _=>True
 |.ei _ A=>noC A
 |.bo _ A B=>noC A/\noC B
 |.cu _ _ _ _=>False
def Ext(ks:List Kn)(fo:List Tr)(I:List Kn)(fo':List Tr):Prop:=(∃ms:List Kn,I=ks++ms/\∀k∈ms,∃e i j,k=.nd e i j)/\((∀t∈fo,noC t.R)->∀t∈fo',noC t.R)
theorem bu.perm{fo fo':List Tr}(h:bu L0 L ka fa ks fo)(p:fo.Perm fo'):bu L0 L ka fa ks fo':=by have J:(fo.flatMap λt=>qx t.R).Perm (fo'.flatMap λt=>qx t.R):=p.flatMap_right _;have U:(fo.flatMap Tr.ads).Perm (fo'.flatMap Tr.ads):=p.flatMap_right _;refine⟨h.hk,λt I=>h.ht t<|p.mem_iff.mpr I,λt I=>h.sr t<|p.mem_iff.mpr I,J.nodup_iff.mp h.nd,λx=>by rw[<-J.mem_iff];exact h.tm x,((U.cons _).cons _).nodup_iff.mp h.ad,h.ok,h.sub,λx g=>h.fr x<|((U.cons _).cons _).mem_iff.mpr g⟩
end L3
variable {fo rest:List L3.Tr}
namespace L3
open PySem L2 Words
noncomputable def sJ:RD "_law_name" fH 0 ["_law_seed","_law_which","_law_letters","_law_size","_law_place","_law_base","_law_sign"] (λ_=>True):=⟨_,λV B c _ _ _ _ _ _ _ J hN I=>(qa (cB (i:=2) hN rfl (Or.inr rfl) jv)<|qa (S_ 3 hN<|qk jr qd<|qk jl (qv 0) qd)<|qa (S_ 4 hN<|qk jl (qk xo (qv 0) qd)<|qv 3)<|qa (S_ 5 hN<|ahw jv<|xj<|ajb ["_law_k"] (EY (by rfl)) rfl (wv rfl B.bh<|xj qd) (qE 7) (λ_ _ _ _=>aei) λ_ _ _ _=>(I_ (qv 2)<|qk jl (qk jr (qk xo (qv 0) qd)<|qk gi qd<|qv 7) qd))<|qa (zq (E_ I (qk jl (qk xo (qv 0) qd) qd) qd) (qf<|za<|aE (oW _ _ _) (qv 5) bw<|aP<|qk jr qd<|qk jl (qk jr (qv 1)<|qv 0) qd) z0)<|qa (S_ 6 hN<|I_ (qv 2)<|qk jl (qk jr (qk jr (qk xo (qv 0) qd)<|qk gi qd<|qv 4)<|qv 1) qd)<|qf<|za<|qk jr (qk jr (aE (oW _ _ _) (qv 5) bw<|aP<|qv 4)<|qv 6)<|aE (oW _ _ _) (qv 5) (aP<|qk jr (qv 4) qd)<|aP<|qv 3)⟩
noncomputable def ab6:vt:=(sJ).1
def eF(i:Int):Nat:=97+(i % 26).toNat
theorem wM(i:Int):eZ ("abcdefghijklmnopqrstuvwxyz" : Str).cps.toList (i % 26)=some (eF i):=by
 obtain⟨n,I⟩:∃n:Nat,i % 26=n:=⟨(i % 26).toNat,by lia⟩;have h:n<26:=by lia
 unfold eF;rw[I];have key:∀n,n<26->("abcdefghijklmnopqrstuvwxyz" : Str).cps.toList[n]?=some (97+n):=by decide +kernel
 exact jw<|key n h
theorem wK(i:Int):97<=eF i/\eF i<=122:=by unfold eF;lia
def dZ(s:Int):List Nat:=(List.range 8).map λk:Nat=>eF<|s / 64+3*(k:Int)
theorem mU(s:Int):(dZ s).length=8:=by unfold dZ;simp
theorem nQ(s:Int):∀c∈dZ s,97<=c/\c<=122:=λc I=>by obtain⟨k,_,rfl⟩:=B0.mp I;exact wK _
def pF(s:Int):Nat:=(s / 8 % (1+s % 8)).toNat
def szN(s:Int):Nat:=(1+s % 8).toNat
theorem aj4(s:Int):pF s<szN s/\szN s<=8/\s / 8 % (1+s % 8)=(pF s:Int)/\1+s % 8=(szN s:Int):=by
 have h0:0<1+s % 8:=by lia
 have h1:0<=s / 8 % (1+s % 8):=Ez _ (by lia);have h2:s / 8 % (1+s % 8)<1+s % 8:=DS _ h0;unfold pF szN;lia
def aT(s w:Int):List Nat:=
 if s / 64 % 3=1 then(dZ s).take (1+(w+s) % 3).toNat
 else((dZ s).take (pF s)++[eF<|s / 64+3*(pF s:Int)+w])++((dZ s).drop<|pF s+1).take (szN s-(pF s+1))
theorem sH(s w:Int):eY (mkS<|aT s w):=by
 have I:(mkS<|aT s w).length=(aT s w).length:=by rw[<-Txs.len_list];show(aT s w).toArray.toList.length=_;simp
 have J:(mkS<|aT s w).cps.toList=aT s w:=by show(aT s w).toArray.toList=_;simp
 have U:=mU s;obtain⟨g,j,_,_⟩:=aj4 s;refine⟨?_,?_,?_⟩
 ·rw[I];unfold aT;split
  ·rw[AR];omega
  ·rw[Ac,Ac];simp;simp +arith only
 ·rw[I];unfold aT;split
  ·rw[AR];omega
  ·rw[Ac,Ac,AR,AR,Bm];simp;lia
 ·rw[J];intro c h;unfold aT at h;split at h
  ·exact nQ s c<|BM h
  ·rcases Aj.mp h with h|h
   ·rcases Aj.mp h with h|h
    ·exact nQ s c<|BM h
    ·rw[Al.mp h];exact wK _
   ·exact nQ s c<|CZ<|BM h
def mF:zp:=λys L Q=>∃s w:Int,ys=[.int s,.int w]/\Q (.str<|mkS<|aT s w) L
theorem zK(h:m<=n)(h2:n<=x.length):(Txt.slice x (some (m:Int))<|some (n:Int)).cps.toList=(x.cps.toList.drop m).take (n-m):=by have e:=oJ x (some (m:Int))<|some (n:Int);rw[HT.sIx_nat,HT.sIx_nat,BU h2,BU<|A0 h h2] at e;exact e
theorem pD(h:n<=x.length):(Txt.slice x none<|some (n:Int)).cps.toList=x.cps.toList.take n:=by have e:=oJ x none<|some (n:Int);rw[HT.sIx_nat,HT.sIx_none,DQ,Nat.sub_zero,BU h] at e;exact e
theorem aax:∀ys L Q,mF ys L Q->vo ab6 7 ys L Q:=by
 rintro ys L Q ⟨s,w,rfl,q⟩;have j:0<1+s % 8:=by lia
 refine⟨(by decide:(0:Int)<8),⟨by decide,by decide⟩,j,⟨by decide,by decide⟩,?_⟩;show lcK (aj 0 8) _ _ _ _ _ _ _ _;refine nG (m:=8) (λi zs=>zs=((List.range i).map λk:Nat=>Y.str ⟨#[eF<|s / 64+3*(k:Int)]⟩)) (by decide) rfl ?_ ?_
 ·rintro i _ hi rfl;have I:=wM<|s / 64+3*(0+(i:Int));refine⟨⟨by decide,by decide⟩,.inl ⟨by decide,by decide⟩,(by decide:(0:Int)<26),by decide +kernel,?_⟩;walk_at "w";rw[I];refine⟨_,EK _,rfl,?_⟩;rw[List.range_succ,AH,show(0:Int)+(i:Int)=(i:Int) by simp +arith only];rfl
 ·rintro _ rfl p t;have e0:((List.range 8).map λk:Nat=>Y.str ⟨#[eF<|s / 64+3*(k:Int)]⟩)=((dZ s).map λc=>(⟨#[c]⟩:Str)).map Y.str:=by unfold dZ;rw[Cu,Cu];rfl
  rw[e0];refine qp q9 ⟨(dZ s).map λc=>(⟨#[c]⟩:Str),rfl,?_,?_⟩
  ·have J:∀U:List Nat,((U.map λc=>(⟨#[c]⟩:Str)).map (·.length)).sum=U.length:=λU=>by induction U with|nil=>rfl|cons c r ih=>rw[AF,AF,EF,ih,AM];show 1+r.length=_;exact Nat.add_comm _ _
   rw[J,mU];show 8+_*0<=_;rw[Nat.mul_zero];decide
  ·have g:=ac5<|dZ s;have l:(Txt.join ""<|(dZ s).map λc=>(⟨#[c]⟩:Str)).length=8:=by rw[<-Txs.len_list,g,mU]
   generalize Txt.join "" ((dZ s).map λc=>(⟨#[c]⟩:Str))=base at l g;obtain⟨p1,p2,o,C⟩:=aj4 s;refine⟨⟨by decide,by decide⟩,(by decide:(0:Int)<3),?_⟩;refine zg (λc=>?_) λc=>?_
   ·have e:1+(w+s) % 3=((1+(w+s) % 3).toNat:Int):=by lia
    refine⟨(by decide:(0:Int)<3),db (by lia),lm (By t) ?_⟩;have es:=pD (x:=base) (n:=(1+(w+s) % 3).toNat) (by lia);have eq:Txt.slice base none (some<|1+(w+s) % 3)=mkS (aT s w):=by rw[e];refine(wQ _).symm.trans ?_;rw[es,g];unfold aT;rw[AA c]
    rw[<-eq] at q;exact q
   ·have I:=wM<|s / 64+3*(s / 8 % (1+s % 8))+w;refine⟨⟨by decide,by decide⟩,.inl ⟨by decide,by decide⟩,(by decide:(0:Int)<26),by decide +kernel,?_⟩;walk_at "w";rw[I];have T:=pD (x:=base) (n:=pF s) (by lia);have s2:=zK (x:=base) (m:=pF s+1) (n:=szN s) (by assumption) (by lia);have l1:(Txt.slice base none<|some (pF s:Int)).length=pF s:=by rw[<-Txs.len_list,T,AR,Txs.len_list];lia
    have l2:(Txt.slice base (some ((pF s+1:Nat):Int))<|some (szN s:Int)).length<=8:=by rw[<-Txs.len_list,s2,AR];lia
    refine⟨db (by lia),?_⟩;refine⟨db (by rw[o,l1];show pF s+1<=1000;lia),?_⟩;refine⟨db (by lia),?_⟩;have J:((pF s:Int)+1)=((pF s+1:Nat):Int):=by rfl
    have l3:(Txt.slice base none (some (pF s:Int))++(⟨#[eF<|s / 64+3*(s / 8 % (1+s % 8))+w]⟩:Str)).length=pF s+1:=by rw[PySem.Str.length_append,l1];rfl
    refine⟨db ?_,lm (By t) ?_⟩
    ·rw[o] at l3 ⊢;rw[l3,J,C];lia
    ·have eq:(Txt.slice base none (some (pF s:Int))++(⟨#[eF<|s / 64+3*(pF s:Int)+w]⟩:Str))++Txt.slice base (some ((pF s+1:Nat):Int)) (some (szN s:Int))=mkS (aT s w):=by
      refine(wQ _).symm.trans ?_;have ca:∀a b:Str,(a++b).cps.toList=a.cps.toList++b.cps.toList:=λa b=>by show(a.cps++b.cps).toList=_;simp
      rw[ca,ca,T,s2,g];unfold aT;rw[Az c]
     rw[o,J,C,eq];exact q
theorem ahl(t t':Bool)(n I:Str):Da.eq (rE<|.leaf t n) (rE<|.leaf t' I)=(decide (t=t')&&decide (n=I)):=by
 by_cases h:n=I
 ·subst h;cases t<;>cases t'<;>simp[rE,Da.eq,Da.eqs,mW,kL]<;>decide +kernel
 ·cases t<;>cases t'<;>simp[rE,Da.eq,Da.eqs,mW,kL,h]<;>decide +kernel
theorem jB{α β:Type}(f:α->β):∀(l:List α) (n:Nat),(l.map f).eraseIdx n=(l.eraseIdx n).map f
 |[],n=>by simp
 |_::_,0=>rfl
 |x::r,n+1=>by rw[AF,Dp,Dp,AF,jB f r n]
theorem xb{α:Type}:∀{l:List α} {j:Nat} {x:α},l[j]?=some x->l.Perm (x::l.eraseIdx j)
 |[],_,_,h=>by simp at h
 |y::r,0,x,h=>by
  have:y=x:=by simpa using h
  subst this;exact .refl _
 |y::r,j+1,x,h=>by have I:=xb (l:=r) (j:=j) (x:=x) (by simpa using h);rw[Dp];exact(I.cons y).trans (.swap _ _ _)
theorem lv(fo:List Tr)(j:Nat):(zo fo).eraseIdx j=zo (fo.eraseIdx j):=jB _ fo j
theorem qh.none(s:qh L L'){p:Addr}(h:L' p=none):L p=none:=by cases z:L p with|none=>rfl|some o=>rw[s _ _ z] at h;cases h
theorem bu.nkf(h:bu L0 L ka fa ks fo):ka≠fa:=by have ad:=h.ad;rw[AE] at ad;exactλe=>ad.1<|e▸Av ..
theorem bu.nk(h:bu L0 L ka fa ks fo):∀t∈fo,t.a≠fa/\t.b≠fa/\t.a≠ka/\t.b≠ka:=λt I=>by have ad:=h.ad;rw[AE,AE] at ad;have J:t.a∈fo.flatMap Tr.ads:=Bj.mpr ⟨t,I,by simp[Tr.ads]⟩;have U:t.b∈fo.flatMap Tr.ads:=Bj.mpr ⟨t,I,by simp[Tr.ads]⟩;exact⟨λe=>ad.2.1<|e▸J,λe=>ad.2.1<|e▸U,λe=>ad.1<|Af _<|e▸J,λe=>ad.1<|Af _<|e▸U⟩
theorem bu.setF(h:bu L0 L ka fa ks fo)(o:LO):bu L0 (qj L fa o) ka fa ks fo:=by
 refine⟨by rw[qg h.nkf];exact h.hk,λt I=>?_,h.sr,h.nd,h.tm,h.ad,h.ok,λb u e=>?_,h.fr⟩
 ·obtain⟨J,U,_,_⟩:=h.nk t I;rw[qg J,qg U];exact h.ht t I
 ·have:b≠fa:=λz=>by rw[z,h.fr fa (by simp)] at e;cases e
  rw[qg this];exact h.sub _ _ e
theorem bu.mono(h:bu L0 L ka fa ks fo)(s:qh L L'):bu L0 L' ka fa ks fo:=
 ⟨s _ _ h.hk,λt I=>⟨s _ _ (h.ht t I).1,s _ _ (h.ht t I).2⟩,h.sr,h.nd,h.tm,h.ad,h.ok,h.sub.trans s,h.fr⟩
theorem bu.exs(h:bu L0 L ka fa ks fo):∀z∈fo.flatMap Tr.ads,∃o,L z=some o:=λz I=>by
 obtain⟨t,J,I⟩:=Bj.mp I;obtain⟨h1,h2⟩:=h.ht t J;have I:z=t.a\/z=t.b:=by simpa[Tr.ads] using I
 rcases I with rfl|rfl
 ·exact⟨_,h1⟩
 ·exact⟨_,h2⟩
theorem ajm{l:List Addr}(nd:l.Nodup)(ex:∀z∈l,∃o,L z=some o)(U:L pa=none)(g:L pb=none)(ne:pa≠pb):(l++[pa,pb]).Nodup:=by
 rw[Ar];refine⟨nd,by simp[ne],λu j v J e=>?_⟩;subst e;obtain⟨o,I⟩:=ex u j;simp at J;rcases J with rfl|rfl
 ·rw[U] at I;cases I
 ·rw[g] at I;cases I
theorem bu.step{old:List Tr}{t':Tr}(h:bu L0 L ka fa ks<|old++rest)(l:L' ka=some (.lst<|ju<|ks++ms))(o:L' t'.a=some (.lst [zm t'.R,.ref t'.b])/\L' t'.b=some (.lst<|jd t'.E))
 (keep:∀t∈rest,L' t.a=L t.a/\L' t.b=L t.b) (sub:qh L0 L') (ad:(ka::fa::(rest++[t']).flatMap Tr.ads).Nodup) (p:∀x∈t'.ads,L0 x=none) (ok:dg<|ks++ms) (r:SR (ks++ms) t'.R t'.E)
 (tp:(qx t'.R).Perm<|List.range' ks.length ms.length++old.flatMap λt=>qx t.R):bu L0 L' ka fa (ks++ms) (rest++[t']):=by
 have hnd:=h.nd;have U:=h.tm;rw[A2] at hnd;have j:((rest++[t']).flatMap λt=>qx t.R)=(rest.flatMap λt=>qx t.R)++qx t'.R:=by rw[A2];simp
 have mem:∀x,x∈qx t'.R↔(ks.length<=x/\x<ks.length+ms.length)\/x∈(old.flatMap λt=>qx t.R):=λx=>by rw[tp.mem_iff,Aj,Dv]
 refine⟨l,λt J=>?_,λt J=>?_,?_,λx=>?_,ad,ok,sub,λx I=>?_⟩
 ·rcases Aj.mp J with J|J
  ·obtain⟨C,T⟩:=keep t J;rw[C,T];exact h.ht t<|Ai _ J
  ·rw[Al.mp J];exact o
 ·rcases Aj.mp J with J|J
  ·exact(h.sr t<|Ai _ J).more _
  ·rw[Al.mp J];exact r
 ·rw[j,Ar];rw[Ar] at hnd;refine⟨hnd.2.1,tp.nodup_iff.mpr ?_,λx I y g e=>?_⟩
  ·rw[Ar];refine⟨Ee,hnd.1,λx I y g e=>?_⟩;have I:=Dv.mp I;have g:=(U y).mp (by rw[A2];exact Ao _ g);lia
  ·subst e;rcases (mem x).mp g with g|g
   ·have:=(U x).mp (by rw[A2];exact Ai _ I);lia
   ·exact hnd.2.2 x g x I rfl
 ·rw[j,Aj,mem,Ac];have h1:=U x;rw[A2,Aj] at h1;constructor
  ·rintro(h2|h2|h2)
   ·have:=h1.mp<|.inr h2;exact apo
   ·lia
   ·have:=h1.mp<|.inl h2;lia
  ·intro h2;by_cases c:x<ks.length
   ·rcases h1.mpr c with h3|h3
    ·exact .inr<|.inr h3
    ·exact .inl h3
   ·exact .inr<|.inl (by lia)
 ·rcases An.mp I with rfl|I
  ·exact h.fr _<|Av ..
  ·rcases An.mp I with rfl|I
   ·exact h.fr _<|Af _<|Av ..
   ·rw[A2] at I;rcases Aj.mp I with I|I
    ·exact h.fr _ (Af _ (Af _ (by rw[A2];exact Ai _ I)))
    ·exact p x (by simpa using I)
theorem bu.put{M:qr}{old:List Tr}{E:List Nat}{fs:LO}(h:bu L0 L ka fa ks<|old++rest)(U:∀z o,z≠ka->L z=some o->M z=some o)(g:M ka=some (.lst<|ju<|ks++ms))(l:M fa=some fs)(na:M pa=none)(nb:M pb=none)(ne:pa≠pb)(s:qh M L')(p:L' pa=some (.lst [zm R,.ref pb]))(r:L' pb=some (.lst<|jd E))
 (ok:dg<|ks++ms) (C:SR (ks++ms) R E) (tp:(qx R).Perm<|List.range' ks.length ms.length++old.flatMap λt=>qx t.R):bu L0 L' ka fa (ks++ms) (rest++[⟨pa,pb,R,E⟩]):=by
 have J:∀z o,L0 z=some o->M z=some o:=λz o e=>U _ _ (λw=>by rw[w,h.fr ka (by simp)] at e;cases e)<|h.sub _ _ e;have two:∀z,z∈(⟨pa,pb,R,E⟩:Tr).ads->M z=none:=λz I=>by
  have I:z=pa\/z=pb:=by simpa[Tr.ads] using I
  rcases I with rfl|rfl<;>assumption
 refine bu.step (old:=old) (t':=⟨pa,pb,R,E⟩) h (s _ _ g) ⟨p,r⟩ (λt j=>?_) (λz o e=>s _ _<|J z o e) ?_ (λz I=>?_) ok C tp
 ·obtain⟨_,_,T,n4⟩:=h.nk t<|Ai _ j;obtain⟨h1,h2⟩:=h.ht t<|Ai _ j;rw[h1,h2];exact⟨s _ _<|U _ _ T h1,s _ _<|U _ _ n4 h2⟩
 ·have ad:=h.ad;rw[A2] at ad;have:=ajm (L:=M) ((((C7 ..).cons_cons _).cons_cons _).nodup ad) (λz I=>?_) na nb ne
  ·rw[A2];simpa[Tr.ads] using this
  ·rcases An.mp I with rfl|I
   ·exact⟨_,g⟩
   rcases An.mp I with rfl|I
   ·exact⟨_,l⟩
   obtain⟨o,e⟩:=h.exs z (by rw[A2];exact Ai _ I);exact⟨o,U _ _ (λw=>(AE.mp ad).1 (by rw[<-w];exact Af _<|Ai _ I)) e⟩
 ·cases e:L0 z with|none=>rfl|some o=>have w:=J z o e;rw[two z I] at w;cases w
def pK:zp:=λys L Q=>∃L0 ka fa ks fo,∃one two:Int,ys=[.ref ka,.ref fa,.int one,.int two]/\oA L0 L ka fa ks fo/\2<=fo.length/\fo.length<=200/\ks.length<=200/\
 ∀L' I fo',oA L0 L' ka fa I fo'->I.length=ks.length+1->fo'.length+1=fo.length->Ext ks fo I fo'->Q .non L'
theorem iq{l:List α}(h:0<l.length)(k:Int):∃(j:Nat) (x:α),k % (l.length:Int)=(j:Int)/\j<l.length/\l[j]?=some x:=by have h0:0<=k % (l.length:Int):=Ez _ (by lia);have h1:k % (l.length:Int)<(l.length:Int):=DS _ (by omega);refine⟨(k % (l.length:Int)).toNat,l[(k % (l.length:Int)).toNat]'(by lia),by lia,by lia,Ak (by lia)⟩
theorem wq:∀(n:Nat) (l:List Nat),l.Nodup->(∀x∈l,x<n)->l.length<=n
 |0,l,_,h=>by cases l with|nil=>exact Am _|cons x r=>exact absurd (h x<|Av ..) (by lia)
 |n+1,l,nd,h=>by
  by_cases c:n∈l
  ·have p:=List.perm_cons_erase c;have J:=wq n (l.erase n) (nd.erase n) λx I=>by have:=(List.Nodup.mem_erase_iff nd).mp I;have:=h x this.2;lia
   rw[p.length_eq,AM];exact ami
  ·exact BQ (wq n l nd λx I=>by have:=h x I;have:x≠n:=λe=>c<|e▸I;lia)
theorem bJ(h:bu L0 L ka fa ks fo){t:Tr}(I:t∈fo):0<t.E.length/\t.E.length<=ks.length:=by have s:=h.sr t I;exact⟨s.ends h.ok,wq _ _ s.nod λx J=>s.lt x<|s.sub x J⟩
theorem vm(x l r:Nat):jP (ak<|.int (x:Int)) (([.int (l:Int),.int (r:Int)]:List Y).map ak)=decide (x=l\/x=r):=by
 show(mW (.int (l:Int)) (.int (x:Int))||(mW (.int (r:Int)) (.int (x:Int))||false))=_;have e:∀a b:Nat,mW (.int (a:Int)) (.int (b:Int))=decide (b=a):=λa b=>by
  show decide ((a:Int)=(b:Int))=decide (b=a);by_cases c:b=a
  ·subst c;simp
  ·rw[Ay c];apply Ay;lia
 rw[e,e];by_cases h1:x=l<;>by_cases h2:x=r<;>simp[h1,h2]
theorem gY{E:List Nat}(h:0<E.length)(k:Int):∃x,x∈E/\eZ (jd E) (k % ((jd E).length:Int))=some (.int ((x:Nat):Int)):=by obtain⟨j,x,I,J,ex⟩:=iq h k;refine⟨x,AC ex,?_⟩;rw[Ae,I];exact jw (by rw[Aq,ex];rfl)
def kj(E1 E2:List Nat)(l r:Nat):List Nat:=(E1++E2).filter λx=>!decide (x=l\/x=r)
theorem abf{U:Addr}{E:List Nat}{l r k:Nat}{Q:YK}(C:L U=some (.lst<|jd E))(I:E.length<=1000)
 (T:∀y (g:Bool->qr->Prop),aw true y (.tup [.int (l:Int),.int (r:Int)]) L (λx L'=>match x with|.bl c=>g c L'|_=>False)->tc (dz (τ++List.replicate 1 none) k y) L g)
 (hv:∀y,aa4 (dz (τ++List.replicate 1 none) k y) k=some y)
 (hq:∀p,L p=none->Q (.ref p) (qj L p<|.lst<|jd<|E.filter λx=>!decide (x=l\/x=r))):
 uK L U λys keep L2=>lcK ys keep 1 (qo k) tc (qc k) τ L2 Q:=by
 refine kz C λkeep kp=>gJ (λj zs=>zs=jd ((E.take j).filter λx=>!decide (x=l\/x=r))) (by rw[Ae];exact o9 I) (kp L rfl) rfl ?_ ?_
 ·rintro j y _ o rfl;obtain⟨x,ex,rfl⟩:∃x:Nat,E[j]?=some x/\y=Y.int (x:Int):=by rw[Aq] at o;obtain⟨x,e1,e2⟩:=Ax.mp o;exact⟨x,e1,e2.symm⟩
  refine T _ _ ⟨rfl,rfl,?_⟩;rw[vm];show v4 (!decide (x=l\/x=r)) _ _;have t:(E.take<|j+1).filter (λx=>!decide (x=l\/x=r))=(E.take j).filter (λx=>!decide (x=l\/x=r))++[x].filter (λx=>!decide (x=l\/x=r)):=by rw[Bf,ex,A5];rfl
  by_cases c:x=l\/x=r
  ·refine cN (by rw[AI c];rfl) ?_;refine frg ⟨rfl,?_⟩;rw[t,BC (by simp[c]),Br,AD]
  ·refine gH (by rw[Ay c];rfl) ?_;unfold qc;rw[hv];refine frg ⟨rfl,?_⟩;rw[t,BD (by simp[c]),Br];unfold jd;rw[AH];rfl
 ·rintro _ rfl p J;rw[Ae,Bo];exact hq p J
theorem vM{k:Int}(U:L fa=some (.lst<|zo fo))(h:0<fo.length):∃(j:Nat) (t:Tr),fo[j]?=some t/\0<=k % ((zo fo).length:Int)/\k % ((zo fo).length:Int)<((zo fo).length:Int)/\
 (zo fo)[(k % ((zo fo).length:Int)).toNat]?=some (.ref t.a)/\qj L fa (.lst<|(zo fo).eraseIdx (k % ((zo fo).length:Int)).toNat) fa=some (.lst<|zo<|fo.eraseIdx j):=by
 obtain⟨j,t,J,g,I⟩:=iq h k;have e:(zo fo).length=fo.length:=Ae ..;rw[e,J];refine⟨j,t,I,by exact AY _,by lia,?_,?_⟩
 ·show(zo fo)[j]?=_;unfold zo;rw[Aq,I];rfl
 ·rw[q9];show some (LO.lst<|(zo fo).eraseIdx j)=_;rw[lv]
theorem bu.two{t1 t2:Tr}(h:bu L0 L ka fa ks<|t1::t2::rest):∀x,x∈qx t1.R->x∈qx t2.R->False:=by intro x h1 h2;have nd:=h.nd;rw[Bq,Bq,Ar] at nd;exact nd.2.2 x h1 x (Ao _ h2) rfl
theorem xO{E1 E2:List Nat}{l r:Nat}(I:l∉E2)(J:r∉E1)(x:Nat):x∈kj E1 E2 l r↔(x∈E1/\x≠l)\/(x∈E2/\x≠r):=by
 unfold kj;rw[AL,Aj];constructor
 ·rintro⟨h,c⟩;have c:¬(x=l\/x=r):=by simpa using c
  rcases h with h|h
  ·exact .inl ⟨h,λe=>c<|.inl e⟩
  ·exact .inr ⟨h,λe=>c<|.inr e⟩
 ·rintro(⟨h,c⟩|⟨h,c⟩)
  ·refine⟨.inl h,?_⟩;have:x≠r:=λe=>J<|e▸h;simp[c,this]
  ·refine⟨.inr h,?_⟩;have:x≠l:=λe=>I<|e▸h;simp[c,this]
theorem yH{E1 E2:List Nat}{l r:Nat}(h1:E1.Nodup)(h2:E2.Nodup)(d:∀x,x∈E1->x∈E2->False):(kj E1 E2 l r).Nodup:=by
 unfold kj;have h:(E1++E2).Nodup:=by rw[Ar];exact⟨h1,h2,λx I y J e=>d x I<|e▸J⟩
 exact List.Pairwise.filter _ h
theorem ix(a b:List Nat):jd (a++b)=jd a++jd b:=AH
theorem gK(a:List Tr)(t:Tr):zo (a++[t])=zo a++[.ref t.a]:=AH
theorem agw:∀ys L Q,pK ys L Q->vo al9 9 ys L Q:=by
 rintro ys L Q ⟨L0,ka,fa,j,fo,one,two,rfl,F,h2,cb,bi,q⟩;have big:=bg_;have p:∀fo:List Tr,(zo fo).length=fo.length:=λfo=>Ae ..;have U:∀E:List Nat,(jd E).length=E.length:=λE=>Ae ..;obtain⟨j1,I,bj,a1,a2,a3,g⟩:=vM (k:=two) F.hf (by exact jC);have p1:=xb bj;refine qb F.hf (qb F.hf ⟨(by show(0:Int)<((zo fo).length:Int);rw[p];lia),qp F.hf ⟨a1,a2,qm a3 ?_⟩⟩);have B:=(F.b.perm p1).setF<|.lst<|(zo fo).eraseIdx (two % ((zo fo).length:Int)).toNat;generalize qj L fa _=L1 at g B ⊢;have l1:=p1.length_eq;generalize fo.eraseIdx j1=T at l1 g B p1 ⊢;rw[AM] at l1;obtain⟨j2,J,bn,b1,b2,b3,au⟩:=vM (k:=one) g (by lia);have p2:=xb bn;refine qb g (qb g ⟨(by show(0:Int)<((zo T).length:Int);rw[p];lia),qp g ⟨b1,b2,qm b3 ?_⟩⟩);replace B:=(B.perm<|p2.cons _).setF<|.lst<|(zo T).eraseIdx (one % ((zo T).length:Int)).toNat;generalize qj L1 fa _=L2 at au B ⊢;have l2:=p2.length_eq;have bc:=p1.trans<|p2.cons _;generalize T.eraseIdx j2=rest at l2 au B bc ⊢;rw[AM] at l2;clear g a1 a2 a3 b1 b2 b3 p1 p2;have m1:I∈I::J::rest:=by simp
 have m2:J∈I::J::rest:=by simp
 obtain⟨a4,av⟩:=B.ht I m1;obtain⟨a5,ax⟩:=B.ht J m2;obtain⟨_,_,n1,n2⟩:=B.nk I m1;obtain⟨_,_,n3,n4⟩:=B.nk J m2;have bp:=bJ B m1;have bq:=bJ B m2;obtain⟨x,hx,ex⟩:=gY bp.1<|two / 64;obtain⟨y,hy,ey⟩:=gY bq.1<|one / 64;refine qb a4 ⟨⟨by decide,by decide⟩,qb a4 (qb av ⟨(by show(0:Int)<((jd I.E).length:Int);rw[U];omega),qb av<|qm ex ?_⟩)⟩;refine qb a5 ⟨⟨by decide,by decide⟩,qb a5 (qb ax ⟨(by show(0:Int)<((jd J.E).length:Int);rw[U];omega),qb ax<|qm ey ?_⟩)⟩;refine qb B.hk (qp B.hk ⟨big _ (by rw[Ae];exact yV),?_⟩);have ek:ju j++[.tup [.str "both",.int ((x:Nat):Int),.int ((y:Nat):Int)]]=ju (j++[.nd false x y]):=by unfold ju;rw[AH];rfl
 rw[ek];have k3:∀z o,z≠ka->L2 z=some o->qj L2 ka (.lst<|ju<|j++[.nd false x y]) z=some o:=λz o n e=>(qg n).trans e;have bd:qj L2 ka (.lst<|ju<|j++[.nd false x y]) ka=some (.lst<|ju<|j++[.nd false x y]):=q9;generalize qj L2 ka _=L3 at bd k3 ⊢;refine qb (k3 _ _ n1 a4) (qb (k3 _ _ n3 a5) ⟨_,_,k3 _ _ n2 av,k3 _ _ n4 ax,db (by rw[U,U];lia),λpp bf=>?_⟩);rw[<-ix];refine abf (E:=I.E++J.E) (l:=x) (r:=y) (k:=9) q9 (by rw[Ac];lia) (λy' Q' h=>h) (λ_=>rfl) λpe bg=>?_;generalize hL:qj (qj L3 pp _) pe _=L4;have s4:qh L3 L4:=by rw[<-hL];exact(By bf).trans (By bg)
 have bS:L4 pe=some (.lst<|jd<|kj I.E J.E x y):=by rw[<-hL];exact q9
 clear hL bf bg;have k4:∀z o,z≠ka->L2 z=some o->L4 z=some o:=λz o n e=>s4 _ _<|k3 z o n e;have aL:=s4 _ _ bd;have ba:=k4 _ _ (AJ B.nkf) au;have nn:(((ju<|j++[.nd false x y]).length:Nat):Int)-1=((j.length:Nat):Int):=by rw[Ae,Ac];simp
 have lb:(kj I.E J.E x y).length<=(I.E++J.E).length:=Bk ..;rw[Ac] at lb;refine qb ba<|qb aL<|qb (k4 _ _ n1 a4)<|qb (k4 _ _ n3 a5)<|qb aL λpn C=>?_;refine⟨_,_,By C _ _ bS,q9,db (by rw[U];show _+1<=1000;lia),λpb ac pa al=>?_⟩;have bh:pb≠pa:=aZ q9 al;have nb:=(By C).none ac;have na:=((By C).trans<|By ac).none al;generalize hL:qj (qj (qj L4 pn _) pb _) pa _=L7;have s7:qh L4 L7:=by rw[<-hL];exact((By C).trans<|By ac).trans (By al)
 have ea:L7 pa=some (.lst [zm<|.bo j.length I.R J.R,.ref pb]):=by rw[<-hL,q9];dsimp only;rw[nn];rfl
 have eb:L7 pb=some (.lst<|jd<|kj I.E J.E x y++[j.length]):=by rw[<-hL,qg bh,q9];dsimp only;rw[nn,ix];rfl
 clear hL C ac al;refine qp (s7 _ _ ba) ⟨big _ (by rw[p];lia),?_⟩;have s1:=B.sr I m1;have s2:=B.sr J m2;have bb:∀z,z∈I.E->z∈J.E->False:=λz h1 h2=>B.two z (s1.sub z h1)<|s2.sub z h2;have bm:=xO (E1:=I.E) (E2:=J.E) (λh=>bb x hx h) λh=>bb y h hy;refine x9 (q _ (j++[.nd false x y]) (rest++[⟨pa,pb,.bo j.length I.R J.R,kj I.E J.E x y++[j.length]⟩]) ⟨(bu.put (old:=[I,J]) B k4 aL ba na nb (AJ bh) s7 ea eb (B.ok.snoc ⟨s1.lt x<|s1.sub x hx,s2.lt y<|s2.sub y hy⟩) (.bo (fG _ _ _) (s1.more _) (s2.more _) hx hy (λz=>?_) ?_) ?_).setF _,by rw[q9,gK]⟩ (by rw[Ac];rfl) (by rw[Ac];simp;lia) ⟨⟨_,rfl,λk hk=>⟨_,_,_,Al.mp hk⟩⟩,λh t ht=>?_⟩)
 ·rw[Aj,bm,Al,or_assoc]
 ·rw[Ar];refine⟨yH s1.nod s2.nod bb,by simp,λu hu v hv e=>?_⟩;rw[Al.mp hv] at e;rcases (bm u).mp hu with⟨h,_⟩|⟨h,_⟩
  ·have:=s1.lt u<|s1.sub u h;lia
  ·have:=s2.lt u<|s2.sub u h;lia
 ·show(j.length::(qx I.R++qx J.R)).Perm (List.range' j.length 1++([I,J].flatMap λt=>qx t.R));simp[Eo]
 ·have h':∀u∈I::J::rest,noC u.R:=λu hu=>h u<|bc.mem_iff.mpr hu;rcases Aj.mp ht with ht|ht
  ·exact h' t<|Af _<|Af _ ht
  ·rw[Al.mp ht];exact⟨h' I m1,h' J m2⟩
theorem uL{E:List Nat}{k:Int}(h:0<E.length):∃(j x:Nat),E[j]?=some x/\0<=k % ((jd E).length:Int)/\k % ((jd E).length:Int)<((jd E).length:Int)/\
 (jd E)[(k % ((jd E).length:Int)).toNat]?=some (.int ((x:Nat):Int))/\(jd E).eraseIdx (k % ((jd E).length:Int)).toNat=jd (E.eraseIdx j):=by
 obtain⟨j,x,J,U,I⟩:=iq h k;have e:(jd E).length=E.length:=Ae ..;rw[e,J];refine⟨j,x,I,by exact AY _,by lia,?_,?_⟩
 ·show(jd E)[j]?=_;rw[Aq,I];rfl
 ·exact jB _ E j
theorem ade{a:Addr}{o:LO}:∀z u,z≠a->L z=some u->qj L a o z=some u:=λz u n e=>(qg n).trans e
def nH:zp:=λys L Q=>∃L0 ka fa ks,∃pre post:List Tr,∃t:Tr,∃one two:Int,ys=[.ref ka,.ref t.a,.int one,.int two]/\oA L0 L ka fa ks (pre++t::post)/\ks.length<=200/\
 ∀L' I fo',oA L0 L' ka fa I fo'->I.length<=ks.length+1->fo'.length=(pre++t::post).length->Ext ks (pre++t::post) I fo'->Q .non L'
theorem aba:∀ys L Q,nH ys L Q->vo ag7 6 ys L Q:=by
 rintro ys L Q ⟨L0,T,fa,I,pre,post,t,one,two,rfl,F,bd,q⟩;have big:=bg_;have mt:t∈pre++t::post:=by simp
 have B:=F.b;obtain⟨ta,tb⟩:=B.ht t mt;have le:=bJ B mt;have s:=B.sr t mt;have U:∀E:List Nat,(jd E).length=E.length:=λE=>Ae ..;refine qb ta<|qb tb ?_;refine zg (λc=>?_) λc=>?_
 ·exact x9<|q L I _ F (CY _) rfl ⟨⟨[],(AD _).symm,λk hk=>by cases hk⟩,λh=>h⟩
 have c:¬(((jd t.E).length:Int)<2):=c;rw[U] at c;have ad:=B.ad;have nkf:=B.nkf;have nk:=B.nk;have r:t.a≠t.b:=by rw[AE,AE,A2,Bq,Ar,Ar] at ad;have:=ad.2.2.2.1.1;simpa[Tr.ads] using this
 obtain⟨C,x,e1,a1,a2,a3,a4⟩:=uL (k:=two) le.1;refine qb ta (qb tb (qb ta (qb tb ⟨(by show(0:Int)<((jd t.E).length:Int);rw[U];omega),qp tb ⟨a1,a2,qm a3 ?_⟩⟩)));rw[a4];have bh:(t.E.eraseIdx C).length+1=t.E.length:=by have:=(xb e1).length_eq;rw[AM] at this;lia
 have ac:qj L t.b (.lst<|jd<|t.E.eraseIdx C) t.a=some (.lst [zm t.R,.ref t.b]):=by rw[qg r];exact ta
 obtain⟨j2,y,e2,b1,b2,b3,b4⟩:=uL (E:=t.E.eraseIdx C) (k:=one) (by lia);refine qb ac (qb q9 (qb ac (qb q9 ⟨(by show(0:Int)<((jd<|t.E.eraseIdx C).length:Int);rw[U];omega),qp q9 ⟨b1,b2,qm b3 ?_⟩⟩)));rw[b4,jy];have bf:((t.E.eraseIdx C).eraseIdx j2).length+1=(t.E.eraseIdx C).length:=by have:=(xb e2).length_eq;rw[AM] at this;lia
 have pE:t.E.Perm (x::y::(t.E.eraseIdx C).eraseIdx j2):=(xb e1).trans<|(xb e2).cons _;generalize (t.E.eraseIdx C).eraseIdx j2=j at bf pE;have nt:=nk t mt;have k1:=ade (L:=L) (a:=t.b) (o:=.lst<|jd j);have al:qj L t.b (.lst<|jd j) t.b=some (.lst<|jd j):=q9;generalize qj L t.b _=L1 at k1 al ⊢;have au:=k1 _ _ (AJ nt.2.2.2) B.hk;refine qb au (qp au ⟨big _ (by rw[Ae];exact yV),?_⟩);have ek:ju I++[.tup [.str "either",.int ((x:Nat):Int),.int ((y:Nat):Int)]]=ju (I++[.nd true x y]):=by unfold ju;rw[AH];rfl
 rw[ek];have nn:(((ju<|I++[.nd true x y]).length:Nat):Int)-1=((I.length:Nat):Int):=by rw[Ae,Ac];simp
 have k2:=ade (L:=L1) (a:=T) (o:=.lst<|ju<|I++[.nd true x y]);have a5:qj L1 T (.lst<|ju<|I++[.nd true x y]) T=some (.lst<|ju<|I++[.nd true x y]):=q9;generalize qj L1 T _=L2 at k2 a5 ⊢;have av:=k2 _ _ nt.2.2.1<|k1 _ _ r ta;refine qb a5<|qb av<|qp av<|qm (v:=0) rfl ?_;generalize hL:qj L2 t.a _=L3;have ax:L3 t.a=some (.lst [zm<|.ei I.length t.R,.ref t.b]):=by rw[<-hL,q9];dsimp only;rw[nn];rfl
 have k3:∀z o,z≠t.a->L2 z=some o->L3 z=some o:=by rw[<-hL];exact ade
 clear hL;have aL:=k3 _ _ (AJ nt.2.2.1) a5;have ba:=k3 _ _ (AJ r)<|k2 _ _ nt.2.2.2 al;have g:∀b u,b≠t.a->b≠t.b->b≠T->L b=some u->L3 b=some u:=λb u n1 n2 n3 e=>k3 _ _ n1<|k2 _ _ n3<|k1 _ _ n2 e;refine qb ax (qb ba (qb aL (qp ba ⟨big _ (by rw[U];lia),?_⟩)));have en:jd j++[.int<|(((ju<|I++[.nd true x y]).length:Nat):Int)-1]=jd (j++[I.length]):=by rw[nn];unfold jd;rw[AH];rfl
 have l:=pE.nodup_iff.mp s.nod;rw[AE,AE] at l;have hx:x∈t.E:=pE.mem_iff.mpr (by simp);have hy:y∈t.E:=pE.mem_iff.mpr (by simp);have bg:∀u∈pre++post,u.a≠t.a/\u.a≠t.b/\u.b≠t.a/\u.b≠t.b:=λu J=>by have p:(pre++t::post).Perm (t::(pre++post)):=Cm;have bb:=(p.flatMap_right Tr.ads).nodup_iff.mp (by rw[AE,AE] at ad;exact ad.2.2);rw[Bq,Ar] at bb;have k:=bb.2.2;have ma:u.a∈(pre++post).flatMap Tr.ads:=Bj.mpr ⟨u,J,by simp[Tr.ads]⟩;have mb:u.b∈(pre++post).flatMap Tr.ads:=Bj.mpr ⟨u,J,by simp[Tr.ads]⟩;exact⟨λe=>k t.a (by simp[Tr.ads]) u.a ma e.symm,λe=>k t.b (by simp[Tr.ads]) u.a ma e.symm,λe=>k t.a (by simp[Tr.ads]) u.b mb e.symm,λe=>k t.b (by simp[Tr.ads]) u.b mb e.symm⟩
 refine x9 (q _ (I++[.nd true x y]) (pre++⟨t.a,t.b,.ei I.length t.R,j++[I.length]⟩::post) ⟨?_,?_⟩ (by rw[Ac];exact Am _) (by simp) ⟨⟨_,rfl,λk hk=>⟨_,_,_,Al.mp hk⟩⟩,λh u J=>?_⟩)
 rotate_right
 ·rcases Aj.mp J with J|J
  ·exact h u<|Ao _ J
  ·rcases An.mp J with rfl|J
   ·exact h t mt
   ·exact h u<|Ai _<|Af _ J
 ·have B':=B.perm (fo':=[t]++(pre++post)) Cm;have st:=bu.step (old:=[t]) (rest:=pre++post) (t':=⟨t.a,t.b,.ei I.length t.R,j++[I.length]⟩) (ms:=[.nd true x y]) (L':=qj L3 t.b<|.lst<|jd j++[.int<|(((ju<|I++[.nd true x y]).length:Nat):Int)-1]) B' ?_ ⟨?_,?_⟩ (λu J=>?_) (λb o e=>?_) ?_ (λz hz=>?_) ?_ ?_ ?_
  ·exact st.perm (by have p1:((pre++post)++[(⟨t.a,t.b,.ei I.length t.R,j++[I.length]⟩:Tr)]).Perm ((⟨t.a,t.b,.ei I.length t.R,j++[I.length]⟩:Tr)::(pre++post)):=Cn _ _;exact p1.trans Cm.symm)
  ·rw[qg<|AJ (nk t mt).2.2.2];exact aL
  ·rw[qg r];exact ax
  ·rw[q9,en]
  ·have bc:u∈pre++t::post:=by rcases Aj.mp J with h|h;exact Ao _ h;exact Ai _ (Af _ h)
   obtain⟨n1,n2,n3,n4⟩:=bg u J;obtain⟨k1,k2,k3,k4⟩:=nk u bc;obtain⟨h1,h2⟩:=B.ht u bc;rw[h1,h2,qg n2,qg n4];exact⟨g _ _ n1 n2 k3 h1,g _ _ n3 n4 k4 h2⟩
  ·have fr:=B.fr;have n0:∀z,L0 z=none->b≠z:=λz hz w=>by rw[w,hz] at e;cases e
   have n1:=n0 T<|fr T (by simp);have n2:=n0 t.a<|fr t.a (by simp[Tr.ads]);have n3:=n0 t.b<|fr t.b (by simp[Tr.ads]);rw[qg n3];exact g _ _ n2 n3 n1<|B.sub _ _ e
  ·have p:(pre++t::post).Perm ((pre++post)++[t]):=Cm.trans (Cn _ _).symm;have e:((pre++post)++[(⟨t.a,t.b,.ei I.length t.R,j++[I.length]⟩:Tr)]).flatMap Tr.ads=((pre++post)++[t]).flatMap Tr.ads:=by simp[A2,Tr.ads]
   rw[e];exact(((p.flatMap_right Tr.ads).cons _).cons _).nodup_iff.mp ad
  ·have hz:z=t.a\/z=t.b:=by simpa[Tr.ads] using hz
   rcases hz with rfl|rfl
   ·exact B.fr _ (by simp[Tr.ads])
   ·exact B.fr _ (by simp[Tr.ads])
  ·exact B.ok.snoc ⟨s.lt x<|s.sub x hx,s.lt y<|s.sub y hy⟩
  ·refine .ei (fG _ _ _) (s.more _) hx hy (λe=>l.1 (by rw[e];exact Av ..)) (λz=>?_) ?_
   ·rw[Aj,Al];have hm:=pE.mem_iff (a:=z);rw[An,An] at hm;have h1:z∈j->z≠x/\z≠y:=λh=>⟨λe=>l.1 (by rw[<-e];exact Af _ h),λe=>l.2.1<|e▸h⟩;constructor
    ·rintro(h|h)
     ·exact .inl ⟨hm.mpr<|.inr<|.inr h,h1 h⟩
     ·exact .inr h
    ·rintro(⟨h,c1,c2⟩|h)
     ·rcases hm.mp h with e|e|e
      ·exact absurd e c1
      ·exact absurd e c2
      ·exact .inl e
     ·exact .inr h
   ·rw[Ar];refine⟨l.2.2,by simp,λu J v hv e=>?_⟩;rw[Al.mp hv] at e;have:u∈t.E:=pE.mem_iff.mpr<|Af _<|Af _ J;have:=s.lt u<|s.sub u this;lia
  ·show(I.length::qx t.R).Perm (List.range' I.length 1++([t].flatMap λt=>qx t.R));simp[Eo]
 ·have nf:=nk t mt;rw[qg<|AJ nf.2.1];have:=g fa _ (AJ nf.1) (AJ nf.2.1) (AJ nkf) F.hf;rw[this];unfold zo;rw[AH,AH];rfl
def akd(I:zp)(p1:zp)(p2:zp)(p3:zp):vt:=(zj (jz (eI pq (qc 1)<|qi (x5 rK (qc 3)<|si 1) jb)<|qo 4)
 (zj (jz (x5 cV (dq 4 1)<|x5 rK (x5 xU (qc 3)<|bR 64)<|af sv<|aJ<|dq 4 1)<|qo 5)
 (zj (jz (xh I<|bV (qc 0)<|qc 5)<|qo 6)
 (zj (jz (rdT (yC .non)<|yC .non)<|jS 2<|vz (qo 7)<|vz (qo 8) hU)
 (zj (m8 (pW<|aJ<|si 1) (qo 9)<|m8 (dM<|x5 cV (x5 cV (qc 1)<|qc 9)<|bR 1) (qo 10)<|wx (tJ (yB<|gp false<|qc 7)<|rdE (xh I<|bV (qc 0)<|qc 10)<|xh p1<|aJ<|qc 6) (jz (kc<|qi (x5 cV (qc 1)<|qc 9)<|aJ<|qc 10)<|jS 2<|vz (qo 7)<|vz (qo 8) hU) kh)
 (zj (wx (tJ (yB<|gp false<|qc 7)<|yB<|x5 yGt (xh p2<|aJ<|qc 6)<|bR 5) (zj (xt<|eI zv (qc 1)<|aJ<|qc 4)
 ain) kh)
 (oH (wx (yB<|gp false<|qc 7) (zj (jz (xh p3<|bV (qc 0)<|qc 6)<|ajc 3<|vz (qo 11)<|vz (qo 8)<|vz (qo 12) hU)
 (jz (io<|qi (qc 11)<|qi (io<|bV (qc 8)<|qc 12) jb)<|qo 7))<|xt<|eI kO (qc 1)<|aJ<|qc 7)
 (zj (jz (yLC 1 (dM<|x5 dh (dq 4 1)<|dq 7 1) (qo 14) (yB<|x5 (aw true) (qc 14)<|rdT (qc 5)<|qc 8)<|qc 14)<|qo 13)
 (wx (rdE (x5 rK (qc 2)<|bR 2)<|bR 0) (xt<|eI zv (qc 1)<|qi (io<|qi (kc<|qi (rdS "cut")<|qi (qc 5)<|qi (qc 8)<|bV (dq 4 0)<|dq 7 0)<|aJ<|qc 13) jb)<|xt<|eI zv (qc 1)<|qi (io<|qi (kc<|qi (rdS "cut")<|qi (qc 8)<|qi (qc 5)<|bV (dq 7 0)<|dq 4 0)<|aJ<|qc 13) jb)))))))))
theorem rN:∀a b:List Da,Da.eqs a b=true->a.length=b.length
 |[],[],_=>rfl
 |[],_::_,h=>by cases h
 |_::_,[],h=>by cases h
 |x::r,y::q,h=>by have h:(Da.eq x y&&Da.eqs r q)=true:=h;rw[A6] at h;rw[AM,AM,rN r q h.2]
theorem ag5(u:Wd):∀v:Wd,Da.eq (rE u) (rE v)=true->u=v:=by
 induction u with
 |leaf t n=>
  intro v h;cases v with
  |leaf o p=>
   rw[ahl,A6] at h;rw[of_decide_eq_true h.1,of_decide_eq_true h.2]
  |node e l r=>exact absurd (rN _ _ h) (by intro z;cases z)
 |node e l r g j=>
  intro v h;cases v with
  |leaf t n=>exact absurd (rN _ _ h) (by intro z;cases z)
  |node I J U=>
   have h:(mW (.str<|kN e) (.str<|kN I)&&(Da.eq (rE l) (rE J)&&(Da.eq (rE r) (rE U)&&true)))=true:=h;rw[A6,A6,A6] at h;obtain⟨h1,h2,h3,_⟩:=h;have:e=I:=by cases e<;>cases I<;>first|rfl|(exfalso;revert h1;decide +kernel)
   rw[this,g J h2,j U h3]
def vj:Ru->Nat
 |.link _ _=>1
 |.ei _ A=>vj A+1
 |.bo _ A B=>max (vj A) (vj B)+1
 |.cu _ _ A B=>max (vj A) (vj B)+1
theorem ku:∀R:Ru,vj R+1<=(qx R).length
 |.link _ _=>Am _
 |.ei _ A=>by have:=ku A;simp[vj,qx];lia
 |.bo _ A B=>by have:=ku A;have:=ku B;simp[vj,qx];lia
 |.cu _ _ A B=>by have:=ku A;have:=ku B;simp[vj,qx];lia
def eh:Ru->Da
 |.link p q=>.tup [.s<|.str "link",.s<|.int (p:Int),.s<|.int (q:Int)]
 |.ei r A=>.tup [.s<|.str "either",.s<|.int (r:Int),eh A]
 |.bo r A B=>.tup [.s<|.str "both",.s<|.int (r:Int),eh A,eh B]
 |.cu p q A B=>.tup [.s<|.str "cut",.s<|.int (p:Int),.s<|.int (q:Int),eh A,eh B]
theorem fV{L:qr}:∀{R:Ru} {n:Nat},vj R<=n->x8 L n (zm R) (eh R)
 |.link p q,n+1,_=>aV<|.cons (E7 _)<|.cons (EU _)<|.cons (EU _) .nil
 |.ei r A,n+1,h=>aV (.cons (E7 _) (.cons (EU _) (.cons (fV (by simp[vj] at h;lia)) .nil)))
 |.bo r A B,n+1,h=>aV (.cons (E7 _) (.cons (EU _) (.cons (fV (by simp[vj] at h;lia)) (.cons (fV (by simp[vj] at h;lia)) .nil))))
 |.cu p q A B,n+1,h=>aV (.cons (E7 _) (.cons (EU _) (.cons (EU _) (.cons (fV (by simp[vj] at h;lia)) (.cons (fV (by simp[vj] at h;lia)) .nil)))))
 |.link _ _,0,h=>by simp[vj] at h
 |.ei _ _,0,h=>by simp[vj] at h
 |.bo _ _ _,0,h=>by simp[vj] at h
 |.cu _ _ _ _,0,h=>by simp[vj] at h
theorem bC:∀R:Ru,Da.eq (eh R) (eh R)=true
 |.link p q=>by simp[eh,Da.eq,Da.eqs,mW]
 |.ei r A=>by simp[eh,Da.eq,Da.eqs,mW,bC A]
 |.bo r A B=>by simp[eh,Da.eq,Da.eqs,mW,bC A,bC B]
 |.cu p q A B=>by simp[eh,Da.eq,Da.eqs,mW,bC A,bC B]
def iu(E:List Nat):List Da:=E.map λn:Nat=>Da.s<|.int (n:Int)
theorem xS{L:qr}{n:Nat}:∀E:List Nat,Paired (x8 L n) (jd E)<|iu E
 |[]=>.nil
 |_::r=>.cons (EU _)<|xS r
theorem pZ:∀E I:List Nat,Da.eqs (iu E) (iu I)=true↔E=I
 |[],[]=>by simp[iu,Da.eqs]
 |[],_::_=>by simp[iu,Da.eqs]
 |_::_,[]=>by simp[iu,Da.eqs]
 |x::r,y::J=>by
  have U:=pZ r J;show(Da.eq (.s<|.int (x:Int)) (.s<|.int (y:Int))&&Da.eqs (iu r) (iu J))=true↔_;rw[A6,U];have:Da.eq (.s<|.int (x:Int)) (.s<|.int (y:Int))=true↔x=y:=by show decide ((x:Int)=(y:Int))=true↔_;rw[decide_eq_true_iff];lia
  rw[this];constructor
  ·rintro⟨rfl,rfl⟩;rfl
  ·intro e;injection e with g j;exact⟨g,j⟩
def fZ(t:Tr):Da:=.lst [eh t.R,.lst<|iu t.E]
theorem qN{t:Tr}(I:L t.a=some (.lst [zm t.R,.ref t.b]))(J:L t.b=some (.lst<|jd t.E))(h:vj t.R<=n+1):x8 L (n+2) (.ref t.a) (fZ t):=
 fS I (.cons (fV h)<|.cons (fS J<|xS _) .nil)
theorem aif{t u:Tr}:Da.eq (fZ t) (fZ u)=true->t.E=u.E:=by intro h;have h:(Da.eq (eh t.R) (eh u.R)&&(Da.eqs (iu t.E) (iu u.E)&&true))=true:=h;rw[A6,A6] at h;exact(pZ _ _).mp h.2.1
theorem yf(t:Tr):Da.eq (fZ t) (fZ t)=true:=by show(Da.eq (eh t.R) (eh t.R)&&(Da.eqs (iu t.E) (iu t.E)&&true))=true;rw[bC,(pZ _ _).mpr rfl];rfl
theorem bu.rd(h:bu L0 L ka fa ks fo){t:Tr}(I:t∈fo):vj t.R<=ks.length:=by
 have h1:=ku t.R;have nd:(qx t.R).Nodup:=by obtain⟨a,b,rfl⟩:=Co I;have:=h.nd;rw[A2,Bq,Ar,Ar] at this;exact this.2.1.1
 have:=wq _ _ nd λx J=>(h.sr t I).lt x J;exact arb
theorem bu.one(h:bu L0 L ka fa ks fo){t u:Tr}(hi:fo[i]?=some t)(I:fo[j]?=some u)(e:t.E=u.E):i=j:=by
 by_cases c:i=j
 ·exact c
 ·exfalso;have s:=h.sr t<|AC hi;have l:=s.ends h.ok;obtain⟨x,J⟩:∃x,x∈t.E:=by cases g:t.E with|nil=>rw[g] at l;simp at l|cons x r=>exact⟨x,Av ..⟩
  have o:=h.sr u<|AC I;have p:=xb hi;have C:(u::(fo.eraseIdx i))=_:=rfl;have U:u∈fo.eraseIdx i:=by have:fo[j]?=some u:=I;rw[List.mem_eraseIdx_iff_getElem?];exact⟨j,λz=>c z.symm,I⟩
  obtain⟨a,b,T⟩:=Co U;have nd:=(p.flatMap_right λt:Tr=>qx t.R).nodup_iff.mp h.nd;rw[Bq,Ar] at nd;exact nd.2.2 x (s.sub x J) x (Bj.mpr ⟨u,U,o.sub x<|e▸J⟩) rfl
theorem iK:∀w:Wd,w.turn.turn=w
 |.leaf t n=>by simp[Wd.turn]
 |.node e l r=>by simp[Wd.turn,iK l,iK r]
theorem gF:∀w:Wd,w.turn.depth=w.depth
 |.leaf t n=>rfl
 |.node e l r=>by simp[Wd.turn,Wd.depth,gF l,gF r]
def Fd(ks:List Kn)(w:Wd)(rest:List Tr)(I J:Y):Prop:=(I=.non/\J=.non)\/∃(j:Nat) (u:Tr) (q:Nat),rest[j]?=some u/\q∈u.E/\dC ks q w.turn/\I=.ref u.a/\J=.int (q:Int)
theorem ae6{g j:qr}{t1 u:Tr}{x:Nat}{w:Wd}(B:bu L0 g ka fa ks<|t1::u::rest){fs:LO}(hf:g fa=some fs)(hx:x∈t1.E)(hq:q∈u.E)(o:dC ks x w)(p:dC ks q w.turn){I:Addr}(s:qh g j)(a1:g I=none)
 (he:j I=some (.lst<|jd<|kj t1.E u.E x q)) (J:j pa=none) (hR:R=.cu x q t1.R u.R\/R=.cu q x u.R t1.R):bu L0 (qj j pa<|.lst [zm R,.ref I]) ka fa ks (rest++[⟨pa,I,R,kj t1.E u.E x q⟩]):=by
 have t:I≠pa:=aZ he J;have C:=B.sr t1 (by simp);have T:=B.sr u (by simp);have U:∀z,z∈t1.E->z∈u.E->False:=λz h1 h2=>B.two z (C.sub z h1)<|T.sub z h2;have bm:=xO (E1:=t1.E) (E2:=u.E) (λh=>U x hx h) λh=>U q h hq;have nod:=yH (l:=x) (r:=q) C.nod T.nod U;have st:=bu.put (M:=g) (L':=qj j pa<|.lst [zm R,.ref I]) (old:=[t1,u]) (ms:=[]) (R:=R) (E:=kj t1.E u.E x q) (pa:=pa) (pb:=I) B (λ_ _ _ e=>e) (by rw[AD];exact B.hk) hf (s.none J) a1 (AJ t) (s.trans<|By J) q9 (by rw[qg t];exact he) (by rw[AD];exact B.ok) ?_ ?_
 ·rw[AD] at st;exact st
 ·rw[AD];rcases hR with rfl|rfl
  ·exact .cu C T hx hq o p bm nod
  ·exact .cu (w:=w.turn) T C hq hx p (by rw[iK];exact o) (λz=>by rw[bm];exact Or.comm) nod
 ·rcases hR with rfl|rfl
  ·show(qx t1.R++qx u.R).Perm _;simp
  ·show(qx u.R++qx t1.R).Perm _;simpa using Bd
def CJ(L0:qr)(ka fa:Addr)(ks:List Kn)(one two:Int)(t1:Tr)(x:Nat)(w:Wd)(n:Nat)(τ:jn)(L:qr):Prop:=∃ms u q rest c9 bW jH c12,τ=[some<|.ref ka,some<|.ref fa,some<|.int one,some<|.int two,some<|.ref t1.a,some<|.int (x:Int),some<|cQ w,some<|.ref u.a,some<|.int ((q:Nat):Int),c9,bW,jH,c12,none]/\
 bu L0 L ka fa (ks++ms) (t1::u::rest)/\L fa=some (.lst<|zo rest)/\q∈u.E/\dC (ks++ms) q w.turn/\ms.length<=10/\rest.length<=n
def qM:zp:=λys L Q=>∃L0 ka fa ks fo,∃one two:Int,ys=[.ref ka,.ref fa,.int one,.int two]/\oA L0 L ka fa ks fo/\1<=fo.length/\fo.length<=110/\ks.length<=110/\
 ∀L' I fo',oA L0 L' ka fa I fo'->I.length<=ks.length+10->1<=fo'.length->fo'.length<=fo.length->Q .non L'
theorem ahx{FS MS:zp}(hF:∀ys L Q,aY 120 ys L Q->FS ys L Q)(hM:∀ys L Q,ky 5 ys L Q->MS ys L Q):∀ys L Q,qM ys L Q->vo (akd (wg 120) FS (az 120) MS) 14 ys L Q:=by
 rintro ys L Q ⟨L0,ka,fa,ks,fo,one,two,rfl,F,h1,cm,bp,q⟩;have big:=bg_;have C:∀fo:List Tr,(zo fo).length=fo.length:=λfo=>Ae ..;obtain⟨j1,I,bc,a1,a2,a3,g⟩:=vM (k:=two) F.hf (by assumption);have l1:(fo.eraseIdx j1).length+1=fo.length:=by have:=(xb bc).length_eq;rw[AM] at this;lia
 refine qb F.hf (qb F.hf ⟨(by show(0:Int)<((zo fo).length:Int);rw[C];lia),qp F.hf ⟨a1,a2,qm a3 ?_⟩⟩);have B:=(F.b.perm<|xb bc).setF<|.lst<|(zo fo).eraseIdx (two % ((zo fo).length:Int)).toNat;generalize qj L fa _=L1 at g B ⊢;generalize fo.eraseIdx j1=rest at l1 g B;clear a1 a2 a3;have m1:I∈I::rest:=by simp
 obtain⟨a4,ac⟩:=B.ht I m1;have al:=bJ B m1;have s1:=B.sr I m1;obtain⟨x,hx,ex⟩:=gY al.1<|two / 64;refine qb a4 ⟨⟨by decide,by decide⟩,qb a4 (qb ac ⟨(by show(0:Int)<((jd I.E).length:Int);rw[Ae];omega),qb ac<|qm ex ?_⟩)⟩;obtain⟨w,hw,cq,bd⟩:=fw B.ok (x+1) x (by exact B5 _)<|s1.lt x<|s1.sub x hx;have cv:=s1.lt x<|s1.sub x hx;refine⟨ka,ju ks,x,w,rfl,B.hk,hw,by lia,?_⟩;have cw:w.turn.depth=w.depth:=gF w;refine qb g ⟨⟨by show _<=(((zo rest).length:Nat):Int);exact AY _,by show(((zo rest).length:Nat):Int)<_;rw[C];omega⟩,?_⟩;refine kF (λi τ L'=>∃v7 v8 c9 bW,τ=[some<|.ref ka,some<|.ref fa,some<|.int one,some<|.int two,some<|.ref I.a,some<|.int (x:Int),some<|cQ w,some v7,some v8,c9,bW,none,none,none]/\L'=L1/\Fd ks w rest v7 v8) ⟨_,_,_,_,rfl,rfl,.inl ⟨rfl,rfl⟩⟩ ?_ ?_
 ·rintro i τ L' hi ⟨v7,v8,c9,bW,rfl,rfl,fd⟩;have hi:i<rest.length:=by have:i<(((zo rest).length:Nat):Int).toNat:=hi;rw[C] at this;assumption
  obtain⟨u,hu⟩:∃u,rest[i]?=some u:=⟨_,Ak hi⟩;have mu:u∈I::rest:=Af _<|AC hu;obtain⟨ua,ub⟩:=B.ht u mu;have ei:(zo rest)[i]?=some (.ref u.a):=by unfold zo;rw[Aq,hu];rfl
  have e0:(0:Int)+(i:Int)=((i:Nat):Int):=by simp +arith only
  rw[e0];have bf:eZ (zo rest) ((i:Nat):Int)=some (.ref u.a):=jw ei;have le:=bJ B mu;have su:=B.sr u mu;refine qb g<|qm bf<|qb ua ?_;refine afv (ys:=jd u.E) (wr ub) (λk τ au=>∃v7 v8 bW,τ=[some<|.ref ka,some<|.ref fa,some<|.int one,some<|.int two,some<|.ref I.a,some<|.int (x:Int),some<|cQ w,some v7,some v8,some<|.int ((i:Nat):Int),bW,none,none,none]/\au=L'/\Fd ks w rest v7 v8) ⟨_,_,_,rfl,rfl,fd⟩ ?_ ?_ ?_
  ·rintro k τ _ ⟨_,_,_,_,rfl,_⟩;rfl
  ·rintro k y τ au ey ⟨v7,v8,bW,rfl,rfl,fd⟩;obtain⟨z,ez,rfl⟩:∃z:Nat,u.E[k]?=some z/\y=Y.int (z:Int):=by rw[Aq] at ey;obtain⟨z,e1,e2⟩:=Ax.mp ey;exact⟨z,e1,e2.symm⟩
   have hz:z∈u.E:=AC ez;rcases fd with⟨rfl,rfl⟩|⟨j,t,q0,h1,h2,h3,rfl,rfl⟩
   ·have bq:=su.lt z<|su.sub z hz;obtain⟨v,hv,cy,cn⟩:=fw B.ok (z+1) z (by exact B5 _) bq;refine⟨ka,ju ks,z,v,rfl,B.hk,hv,by lia,hF _ _ _ ⟨w,rfl,by lia,?_⟩⟩;refine aep (u:=v) (v:=w.turn) (by lia) ?_;show v4 (Da.eq (rE v)<|rE w.turn) _ _;refine ah1 (λc=>?_) λc=>?_
    ·have hh:=ag5 _ _ c;refine qb g<|qm bf ?_;refine⟨_,EK _,?_⟩;exact⟨_,_,_,rfl,rfl,.inr ⟨i,u,z,hu,hz,hh▸hv,rfl,rfl⟩⟩
    ·refine⟨_,EK _,?_⟩;exact⟨_,_,_,rfl,rfl,.inl ⟨rfl,rfl⟩⟩
   ·refine⟨_,EK _,?_⟩;exact⟨_,_,_,rfl,rfl,.inr ⟨j,t,q0,h1,h2,h3,rfl,rfl⟩⟩
  ·rintro τ au ⟨v7,v8,bW,rfl,rfl,fd⟩;refine⟨_,EK _,?_⟩;exact⟨_,_,_,_,rfl,rfl,fd⟩
 ·rintro τ L' ⟨v7,v8,c9,bW,rfl,rfl,fd⟩;rcases fd with⟨rfl,rfl⟩|⟨j,u,q0,hj,av,ax,rfl,rfl⟩
  case' inl=>
   refine⟨w,rfl,by lia,?_⟩;show v4 (decide<|(w.size:Int) > 5) _ _;refine zg (λc=>?_) λc=>?_
   case' refine_1=>
    refine qb g (qp g ⟨big _ (by rw[C];lia),?_⟩);rw[<-gK];exact x9 (q _ ks (rest++[I]) ⟨(B.perm (Cn _ _).symm).setF _,q9⟩ (by exact A7 _ _) (by simp) (by rw[Ac];simp;exact tz))
   case' refine_2=>
    refine⟨CJ L0 ka fa ks one two I x w rest.length,?_,?_⟩
    ·refine hM _ _ _ ⟨ka,ks,w,rfl,B.hk,(by have h1:=w.depth_le;have h2:=w.size_eq;lia),(by decide),bd,B.ok,by lia,λms R tp sp p hp a5=>?_⟩;refine qp q9 ?_;intro pb aL T J;have ba:qj L' ka (.lst<|ju<|ks++ms) p=none:=by rw[qg<|AJ<|aZ B.hk hp];exact hp
     have bg:pb≠T:=aZ q9 J;have nb:=(By ba).none aL;have na:=((By ba).trans<|By aL).none J;have bh:qj L' ka (.lst<|ju<|ks++ms) fa=some (.lst<|zo rest):=by rw[qg<|AJ B.nkf];exact g
     generalize hL:qj (qj (qj _ p _) pb _) T _=LF;have sA:qh (qj L' ka<|.lst<|ju<|ks++ms) LF:=by rw[<-hL];exact((By ba).trans<|By aL).trans (By J)
     have ea:LF T=some (.lst [zm R,.ref pb]):=by rw[<-hL];exact q9
     have eb:LF pb=some (.lst<|jd [tp,sp]):=by rw[<-hL,qg bg];exact q9
     clear hL;refine⟨ms,⟨T,pb,R,[tp,sp]⟩,tp,rest,_,_,_,_,rfl,?_,sA _ _ bh,Av ..,a5.wt,by have:=a5.len;lia,Am _⟩;have st:=bu.put (old:=[]) B (λz o n e=>(qg n).trans e) q9 bh na nb (AJ bg) sA ea eb a5.ok a5.sr (by rw[C4,AD];exact(AZ a5.nd Ee).mpr λz=>by rw[a5.tm,Dv]);exact st.perm<|(Cn _ _).trans<|List.Perm.swap _ _ _
  case' inr=>
   refine⟨CJ L0 ka fa ks one two I x w rest.length,?_,?_⟩
   ·refine qb g<|qp g ⟨rest.map fZ,fZ u,120,120,j,by decide,?_,?_,?_,⟨fZ u,?_,yf u⟩,λk d hk ek=>?_,?_⟩
    ·have dd:∀l:List Tr,(∀t∈l,t∈I::rest)->Paired (x8 L' 120) (zo l) (l.map fZ):=λl=>by
      induction l with
      |nil=>intro _;exact .nil
      |cons t r ih=>
       intro h;have mt:=h t<|Av ..;obtain⟨h1,h2⟩:=B.ht t mt;have:=B.rd mt;exact .cons (qN (n:=118) h1 h2 (by lia))<|ih λt ht=>h t<|Af _ ht
     exact dd rest λt ht=>Af _ ht
    ·have mt:u∈I::rest:=Af _<|AC hj;obtain⟨h1,h2⟩:=B.ht u mt;have:=B.rd mt;exact qN (n:=118) h1 h2 (by omega)
    ·rw[Ae];exact(AK.mp hj).1
    ·rw[Aq,hj];rfl
    ·rw[Aq] at ek;obtain⟨v,ev,rfl⟩:=Ax.mp ek;cases c:Da.eq (fZ v) (fZ u) with
     |false=>rfl
     |true=>
      have:=B.one (i:=k+1) (j:=j+1) (by simpa using ev) (by simpa using hj)<|aif c;lia
    ·rw[lv];have B2:=(B.perm<|(xb hj).cons _).setF<|.lst<|zo<|rest.eraseIdx j;exact⟨[],u,q0,rest.eraseIdx j,_,_,_,_,rfl,(AD ks).symm▸B2,q9,av,(AD ks).symm▸ax,Be _,Do ..⟩
  all_goals
   rintro cz L' ⟨ms,u,q0,U,c9,bW,jH,c12,rfl,B',hf,av,ax,cP,d0⟩;have m1:I∈I::u::U:=by simp
   have m2:u∈I::u::U:=by simp
   obtain⟨a4,ac⟩:=B'.ht I m1;obtain⟨bb,bS⟩:=B'.ht u m2;have al:=bJ B' m1;have cb:=bJ B' m2;rw[Ac] at al cb;refine qb a4 (qb bb ⟨_,_,ac,bS,db (by rw[Ae,Ae];omega),λpp bi=>?_⟩);rw[<-ix];refine abf (E:=I.E++u.E) (l:=x) (r:=q0) (k:=14) q9 (by rw[Ac];omega) (λy' Q' h=>h) (λ_=>rfl) λpe bj=>?_;have bn:L' pe=none:=(By bi).none bj;generalize hL:qj (qj L' pp _) pe _=L4;have s4:qh L' L4:=by rw[<-hL];exact(By bi).trans (By bj)
   have ck:L4 pe=some (.lst<|jd<|kj I.E u.E x q0):=by rw[<-hL];exact q9
   have done:∀(R:Ru) T,L4 T=none->(R=.cu x q0 I.R u.R\/R=.cu q0 x u.R I.R)->Q .non (qj (qj L4 T<|.lst [zm R,.ref pe]) fa<|.lst<|zo U++[.ref T]):=λR T J hR=>by rw[<-gK U ⟨T,pe,R,kj I.E u.E x q0⟩];exact q _ (ks++ms) (U++[⟨T,pe,R,kj I.E u.E x q0⟩]) ⟨(ae6 B' hf hx av (hw.more ms) ax s4 bn ck J hR).setF _,q9⟩ (by rw[Ac];omega) (by simp) (by rw[Ac];simp;omega)
   refine⟨(by show(0:Int)<2;decide),?_⟩;show v4 (decide<|one % 2=0) _ _;refine zg (λc=>?_) λc=>?_
   ·refine qb (s4 _ _ hf)<|qb (s4 _ _ a4)<|qb (s4 _ _ bb) λT J=>?_;refine qp (By J _ _<|s4 _ _ hf) ⟨big _ (by rw[C];omega),?_⟩;exact x9<|done _ T J<|.inl rfl
   ·refine qb (s4 _ _ hf)<|qb (s4 _ _ bb)<|qb (s4 _ _ a4) λT J=>?_;refine qp (By J _ _<|s4 _ _ hf) ⟨big _ (by rw[C];omega),?_⟩;exact x9<|done _ T J<|.inr rfl
theorem oA.mono(h:oA L0 L ka fa ks fo)(s:qh L L'):oA L0 L' ka fa ks fo:=⟨h.b.mono s,s _ _ h.hf⟩
theorem bu.plus{I:qr}{t':Tr}{fs:LO}(B:bu L0 L ka fa ks rest)(j:L fa=some fs)(sA:qh (qj L ka<|.lst<|ju<|ks++ms) I)(ea:I t'.a=some (.lst [zm t'.R,.ref t'.b]))(eb:I t'.b=some (.lst<|jd t'.E))
 (J:qj L ka (.lst<|ju<|ks++ms) t'.a=none) (U:qj L ka (.lst<|ju<|ks++ms) t'.b=none) (g:t'.a≠t'.b) (ok:dg<|ks++ms) (l:SR (ks++ms) t'.R t'.E) (p:∀x,x∈qx t'.R↔ks.length<=x/\x<ks.length+ms.length) (nd:(qx t'.R).Nodup):
 bu L0 I ka fa (ks++ms) (rest++[t']):=by
 exact bu.put (old:=[]) B (λz o n e=>(qg n).trans e) q9 (by rw[qg<|AJ B.nkf];exact j) J U g sA ea eb ok l (by rw[C4,AD];exact(AZ nd Ee).mpr λz=>by rw[p,Dv])
theorem oA.link(F:oA L0 L ka fa ks fo){nm:Str}(j:eY nm)(b:Bool)(J:qj L ka (.lst<|ju<|ks++[.lf b nm,.lf (!b) nm]) pb=none)
 (U:qj (qj L ka<|.lst<|ju<|ks++[.lf b nm,.lf (!b) nm]) pb (.lst<|jd [ks.length,ks.length+1]) pa=none) {fs:List Y} (g:fs=zo fo++[.ref pa]):
 oA L0 (qj (qj (qj (qj L ka<|.lst<|ju<|ks++[.lf b nm,.lf (!b) nm]) pb<|.lst<|jd [ks.length,ks.length+1]) pa<|.lst [zm<|.link ks.length<|ks.length+1,.ref pb]) fa<|.lst fs) ka fa (ks++[.lf b nm,.lf (!b) nm]) (fo++[⟨pa,pb,.link ks.length<|ks.length+1,[ks.length,ks.length+1]⟩]):=by
 have I:pb≠pa:=aZ q9 U;have M:=t8 F.b.ok (t:=!b) j;rw[Du] at M;refine⟨(bu.plus F.b F.hf ((By J).trans<|By U) q9 (by rw[qg I];exact q9) ((By J).none U) J (AJ I) M.ok M.sr M.tm M.nd).setF _,?_⟩;rw[q9,g];unfold zo;rw[AH];rfl
theorem bu.dats(h:bu L0 L ka fa ks fo)(g:ks.length<=120):Paired (x8 L 124) (zo fo) (fo.map fZ):=by
 have J:∀l:List Tr,(∀t∈l,t∈fo)->Paired (x8 L 124) (zo l) (l.map fZ):=λl=>by
  induction l with
  |nil=>intro _;exact .nil
  |cons t r U=>
   intro k;have mt:=k t<|Av ..;obtain⟨h1,h2⟩:=h.ht t mt;have:=h.rd mt;exact .cons (qN (n:=122) h1 h2 (by lia))<|U λt I=>k t<|Af _ I
 exact J fo λt I=>I
theorem wN(fo:List Tr):Da.eqs (fo.map fZ) []=decide (fo=[]):=by cases fo<;>rfl
def TW(L0:qr)(ka fa:Addr)(s:Int)(room:Nat)(τ:jn)(L:qr):Prop:=∃c0 c5 c6 c7 c8 c9 bW ks fo,τ=[c0,some<|.int s,some<|.int (room:Int),some<|.ref ka,some<|.ref fa,c5,c6,c7,c8,c9,bW]/\oA L0 L ka fa ks fo/\ks.length+fo.length<=room
theorem TW.of{s:Int}{room:Nat}(F:oA L0 L ka fa ks fo)(h:ks.length+fo.length<=room):TW L0 ka fa s room [c0,some<|.int s,some<|.int (room:Int),some<|.ref ka,some<|.ref fa,c5,c6,c7,c8,c9,bW] L:=⟨_,_,_,_,_,_,_,ks,fo,rfl,F,h⟩
noncomputable def xQ(g:zp)(I:zp)(J:zp)(U:zp)(l:zp):RD "_law_tree" eL 171 ["_law_cells","_law_seed","_law_room","_law_knots","_law_forest","_law_k","_law_cell","_law_one","_law_two","_law_deed","_law_at"] (λV=>q9_ V g/\aq7 V I/\apd V J/\ao2 V U/\apr V l):=⟨_,λV B c _ _ _ _ _ _ _ o hN p=>(qa (S_ 3 hN<|js wo)<|qa (S_ 4 hN<|js wo)<|qa (wn vb rfl (kI rfl B.bp<|qv 0) (w5 (n:=2) rfl<|qz (G_ 5 hN)<|qz (G_ 6 hN) xw)<|qa (vN (i:=7) (j:=8) rfl hN rfl rfl (by decide) rfl rfl (xr (C_ c.1 o<|cT (qv 6) (qv 5) qd)<|C_ c.1 o<|cT (qv 6) (qv 5) qd) rfl)<|qa (zq (j8 zR (qk jr (qk jr (L_ B.ba<|qv 3)<|L_ B.ba<|qv 4) qd) (qv 2)<|ke _) (qf tR) z0)<|qa (S_ 9 hN<|qk jl (qv 7) qd)<|qa (S_ 7 hN<|qk xo (qv 7) qd)<|qf<|zq (aS<|mS (j8 qJ (qv 9) qd<|ke _)<|fu<|E_ p (qv 4)<|js wo) (qa (zf<|z9 (qv 3)<|xj<|zd<|xr jv<|C_ c.2.1 o<|xr (qv 1)<|qk jl (qv 8) qd)<|qa (zf<|z9 (qv 3)<|xj<|zd<|xr jv<|C_ c.2.1 o<|xr (qv 1)<|qk jl (qv 8) qd)<|xn (zq (E_ p (qk jl (qv 7) qd) qd) (qf<|zf<|z9 (qv 3)<|xj<|cc (qv 3)<|xj<|qk ag (L_ B.ba<|qv 3) qd) z0)<|qa (S_ 10 hN<|qk ag (L_ B.ba<|qv 3) qd)<|qf<|zf<|z9 (qv 4)<|xj<|js<|xr (zd<|cT jv (qv 10)<|qk jr (qv 10) qd)<|js<|xr (qv 10)<|qk jr (qv 10) qd)<|qf<|zq (j8 qJ (qv 9) qd<|ke _) (qf<|zf<|C_ c.2.2.1 o<|vg (qv 3)<|cT (I_ (qv 4)<|qk jl (qv 8)<|L_ B.ba<|qv 4) (qv 7)<|qk xo (qv 8) qd)<|qf<|zq (aS<|bz (j8 qJ (qv 9) qd<|ke _)<|aR<|j8 zR (L_ B.ba<|qv 4) qd<|ke _) (qf<|zf<|C_ c.2.2.2.1 o<|vg (qv 3)<|cT (qv 4) (qv 7)<|qv 8)<|qf<|zf<|C_ c.2.2.2.2 o<|vg (qv 3)<|cT (qv 4) (qv 7)<|qv 8)<|xn (zq (E_ p (qv 4)<|js wo) (qa (zf<|z9 (qv 3)<|xj<|zd<|xr jv<|C_ c.2.1 o<|xr (qv 1) qd)<|qa (zf<|z9 (qv 3)<|xj<|zd<|xr jv<|C_ c.2.1 o<|xr (qv 1) qd)<|qf<|zf<|z9 (qv 4)<|xj<|js<|xr (zd<|cT jv qd qd)<|js<|xr qd qd) z0)<|qa (ss vb (j8 zR (L_ B.ba<|qv 4) qd<|ke _)<|qf<|zf<|C_ c.2.2.2.1 o<|vg (qv 3)<|cT (qv 4) (qk jr (qk xo (qv 1) qd)<|L_ B.ba<|qv 4)<|qk xo (qv 1) qd)<|qf<|za<|zd<|xr (qv 3)<|I_ (J_ 4) qd)⟩
noncomputable def agp(g:zp)(I:zp)(J:zp)(U:zp)(j:zp):vt:=(xQ g I J U j).1
def lQ:zp:=λys L Q=>∃I,∃J:List Int,∃s:Int,∃room:Nat,ys=[.ref I,.int s,.int (room:Int)]/\L I=some (.lst<|J.map Y.int)/\J.length<=1000/\room<=96/\
 ∀ka ks R E,L ka=none->dg ks->SR ks R E->(qx R).Perm (List.range ks.length)->ks.length<=max room 2->Q (.tup [.ref ka,zm R]) (qj L ka<|.lst<|ju ks)
theorem abi:∀ys L Q,lQ ys L Q->vo (agp lg mF nH pK qM) 11 ys L Q:=by
 rintro ys L Q ⟨cy,ns,s,room,rfl,au,bd,bb,q⟩;have big:=bg_;have U:∀fo:List Tr,(zo fo).length=fo.length:=λfo=>Ae ..;have l:∀I:List Kn,(ju I).length=I.length:=λI=>Ae ..;intro J al g av;have nkf:J≠g:=aZ q9 av;have aL:L g=none:=(By al).none av;have F0:oA L (qj (qj L J<|.lst []) g<|.lst []) J g [] []:=by
  refine⟨⟨by rw[qg nkf];exact q9,λt ht=>by simp at ht,λt ht=>by simp at ht,by simp,by simp,by simp[nkf],λp k e=>by simp at e,(By al).trans<|By av,λx hx=>?_⟩,q9⟩;rcases An.mp hx with rfl|hx
  ·exact al
  ·rw[Al.mp hx];exact aL
 generalize qj (qj L J<|.lst []) g (.lst [])=L1 at F0;refine kz (F0.b.sub _ _ au) λkeep kp=>kw ⟨λ_ C L'=>TW L J g s room C L',?_,?_,?_,?_⟩
 ·exact TW.of F0<|Be _
 ·rintro i C L' ⟨c0,c5,c6,c7,c8,c9,bW,I,fo,rfl,F,hb⟩;exact kp L' (by rw[F.b.sub _ _ au,F0.b.sub _ _ au])
 ·rintro i y C L' ey ⟨c0,c5,c6,c7,c8,c9,bW,I,fo,rfl,F,hb⟩;obtain⟨z,ez,rfl⟩:=iC ey;obtain⟨cell,ec,rfl⟩:∃cell:Int,ns[i]?=some cell/\z=Y.int cell:=by rw[Aq] at ez;obtain⟨z,e1,e2⟩:=Ax.mp ez;exact⟨z,e1,e2.symm⟩
  have hi:=(AK.mp ec).1;refine⟨cell,((i:Nat):Int),48271,rfl,by exact AY _,by omega,by decide,by decide,λone h1 bf=>⟨cell,((i:Nat):Int),69621,rfl,by exact AY _,by omega,by decide,by decide,λtwo h2 bg=>?_⟩⟩;refine qb F.b.hk<|qb F.hf ?_;refine zg (λc=>?_) λc=>?_
  ·exact⟨_,EK _,TW.of F hb⟩
  have c:¬((((ju I).length:Nat):Int)+(((zo fo).length:Nat):Int)+12 > (room:Int)):=c;rw[l,U] at c;refine⟨(by decide:(0:Int)<9),⟨by decide,by decide⟩,?_⟩;refine zg (λc3=>?_) λc3=>?_
  case' refine_1=>
   obtain⟨L2,ba⟩:∃L2,L2=L':=⟨_,rfl⟩;rw[<-ba];have T:oA L L2 J g I fo:=by rw[ba];exact F
  case' refine_2=>
   intro p hp;refine iJ (by decide) (By hp _ _ F.hf) q9 ((F.b.mono<|By hp).dats (by lia)) (.nil:Paired (x8 _ 0) _ []) ?_;show v4 (Da.eqs (fo.map fZ) []) _ _;rw[wN];have T:oA L (qj L' p<|.lst []) J g I fo:=F.mono<|By hp;generalize qj L' p (.lst [])=L2 at T;refine zg (λc0=>?_) λc0=>?_
  case' refine_2.refine_2=>
   have bc:0<fo.length:=by cases fo with|nil=>exact absurd rfl c0|cons _ _=>simp
   have F:=T;refine zg (λc6=>?_) λc6=>?_
   ·obtain⟨j,t,ej,lj,et⟩:=iq bc two;refine qb F.hf ⟨(by show(0:Int)<((zo fo).length:Int);rw[U];lia),qb F.hf (qm (v:=.ref t.a) (by show eZ (zo fo) (two % ((zo fo).length:Int))=_;rw[U,ej];exact jw (by unfold zo;rw[Aq,et];rfl)) ?_)⟩;obtain⟨pre,post,ep⟩:=Co<|AC et;rw[ep] at F hb;refine⟨⟨by decide,by decide⟩,L,J,g,I,pre,post,t,one / 9,two / 64,rfl,F,by lia,λL3 a1 a2 F3 h1 h2 _=>?_⟩;refine⟨_,EK _,?_⟩;exact TW.of F3 (by rw[ep] at c;lia)
   refine zg (λc8=>?_) λc8=>?_
   ·refine qb F.hf ?_;refine zg (λc1=>?_) λc1=>?_
    ·have c1:(((zo fo).length:Nat):Int) > 1:=c1;rw[U] at c1;refine⟨L,J,g,I,fo,one / 9,two,rfl,F,by lia,by lia,by lia,λL3 a1 a2 F3 h1 h2 _=>?_⟩;refine⟨_,EK _,?_⟩;exact TW.of F3 (by lia)
    ·refine⟨L,J,g,I,fo,one / 9,two,rfl,F,by assumption,by lia,by lia,λL3 a1 a2 F3 h1 h2 h3=>?_⟩;refine⟨_,EK _,?_⟩;exact TW.of F3 (by lia)
   ·refine⟨L,J,g,I,fo,one / 9,two,rfl,F,by lia,by lia,by lia,λL3 a1 a2 F3 h1 h2 h3=>?_⟩;refine⟨_,EK _,?_⟩;exact TW.of F3 (by lia)
  all_goals
   obtain⟨nm,a3⟩:∃nm,nm=mkS (aT s<|two % 3):=⟨_,rfl⟩;have ax:eY nm:=by rw[a3];exact sH _ _
   refine qb T.b.hk ⟨(by decide:(0:Int)<3),s,two % 3,rfl,qp T.b.hk ⟨big _ (by rw[l];omega),?_⟩⟩;refine qb q9 ⟨(by decide:(0:Int)<3),s,two % 3,rfl,qp q9 ⟨big _ (by rw[Ac,l];simp;omega),?_⟩⟩;rw[<-a3,jy];have e1:(ju I++[.tup [.str "plain",.str nm]])++[.tup [.str "turned",.str nm]]=ju (I++[.lf false nm,.lf true nm]):=by unfold ju;rw[AH,Aw];rfl
   rw[e1];refine⟨λC L3=>∃(b:Bool) (d0 d10:Option Y),C=[d0,some<|.int s,some<|.int (room:Int),some<|.ref J,some<|.ref g,some<|.int ((i:Nat):Int),some<|.int cell,some<|.int<|one / 9,some<|.int two,some<|.int<|one % 9,d10]/\L3=qj L2 J (.lst<|ju<|I++[.lf b nm,.lf (!b) nm]),?_,?_⟩
   ·refine⟨(by decide:(0:Int)<2),?_⟩;show v4 (decide<|one / 9 % 2=1) _ _;refine zg (λc2=>?_) λc2=>?_
    ·have l2:(ju<|I++[Kn.lf false nm,.lf true nm]).length=I.length+2:=by rw[l,Ac];rfl
     have t2:((((ju<|I++[Kn.lf false nm,.lf true nm]).length:Nat):Int)-2).toNat=I.length:=by rw[l2];omega
     refine qb q9<|qb q9<|qb q9<|qp q9 ⟨?_,?_,qm (v:=qV<|.lf false nm) ?_ ?_⟩
     ·show(0:Int)<=(((ju<|I++[Kn.lf false nm,.lf true nm]).length:Nat):Int)-2;rw[l2];omega
     ·show(((ju<|I++[Kn.lf false nm,.lf true nm]).length:Nat):Int)-2<_;omega
     ·show(ju<|I++[Kn.lf false nm,.lf true nm])[((((ju<|I++[Kn.lf false nm,.lf true nm]).length:Nat):Int)-2).toNat]?=_;rw[t2];unfold ju;rw[Aq,fG];rfl
     ·rw[jy];refine qp q9 ⟨big _ ?_,?_⟩
      ·refine A0 (Do ..) ?_;show(ju<|I++[Kn.lf false nm,.lf true nm]).length<=20000;rw[l2];omega
      ·refine⟨true,_,_,rfl,?_⟩;rw[jy];have e3:(ju<|I++[Kn.lf false nm,.lf true nm]).eraseIdx ((((ju<|I++[Kn.lf false nm,.lf true nm]).length:Nat):Int)-2).toNat++[qV<|.lf false nm]=ju (I++[.lf true nm,.lf false nm]):=by rw[t2];unfold ju;rw[AH,Dr (by simp),Ae,C3,AH,Aw];rfl
       rw[e3];rfl
    ·exact⟨false,_,_,rfl,rfl⟩
   ·rintro bh L3 ⟨b,d0,d10,rfl,rfl⟩;have l2:(ju<|I++[Kn.lf b nm,.lf (!b) nm]).length=I.length+2:=by rw[l,Ac];rfl
    have nn:(((ju<|I++[Kn.lf b nm,.lf (!b) nm]).length:Nat):Int)-2=((I.length:Nat):Int):=by rw[l2];omega
    have a4:qj L2 J (.lst<|ju<|I++[.lf b nm,.lf (!b) nm]) g=some (.lst<|zo fo):=by rw[qg<|AJ nkf];exact T.hf
    have en:∀z:Int,z=((I.length:Nat):Int)->jd [I.length,I.length+1]=[.int z,.int<|z+1]:=λz e=>by rw[e];rfl
    have er:∀z:Int,z=((I.length:Nat):Int)->zm (.link I.length<|I.length+1)=.tup [.str "link",.int z,.int<|z+1]:=λz e=>by rw[e];rfl
    have en:=en _ nn;have er:=er _ nn;refine qb q9<|qb a4 λpb a5 pa ac=>?_;have H:=T.link ax b (pb:=pb) (pa:=pa) a5 (by rw[en];exact ac) rfl;refine qp (((By a5).trans<|By ac) _ _ a4) ⟨big _ (by rw[U];omega),?_⟩;rw[en,er] at H;refine⟨_,EK _,?_⟩;exact TW.of H (by rw[Ac,Ac];simp;omega)
 ·rintro C L' ⟨c0,c5,c6,c7,c8,c9,bW,I,fo,rfl,F,hb⟩;refine⟨λC L3=>∃c0 c5 c6 c7 c8 c9 bW I fo,C=[c0,some<|.int s,some<|.int (room:Int),some<|.ref J,some<|.ref g,c5,c6,c7,c8,c9,bW]/\oA L L3 J g I fo/\1<=fo.length/\I.length+fo.length<=max room 3,?_,?_⟩
  ·intro p hp;refine iJ (by decide) (By hp _ _ F.hf) q9 ((F.b.mono<|By hp).dats (by lia)) (.nil:Paired (x8 _ 0) _ []) ?_;show v4 (Da.eqs (fo.map fZ) []) _ _;rw[wN];have T:oA L (qj L' p<|.lst []) J g I fo:=F.mono<|By hp;generalize qj L' p (.lst [])=L2 at T;refine zg (λc0=>?_) λc0=>?_
   ·subst c0;have k0:I=[]:=by cases I with|nil=>rfl|cons k r=>exact absurd ((F.b.tm 0).mpr (by simp)) (by simp)
    subst k0;obtain⟨nm,a3⟩:∃nm,nm=mkS (aT s 0):=⟨_,rfl⟩;have ax:eY nm:=by rw[a3];exact sH _ _
    refine qb T.b.hk ⟨s,0,rfl,qp T.b.hk ⟨big _ (by decide),?_⟩⟩;refine qb q9 ⟨s,0,rfl,qp q9 ⟨big _ (by show 1<=20000;decide),?_⟩⟩;rw[<-a3,jy];have a4:∀o,qj L2 J o g=some (.lst<|zo []):=λo=>by rw[qg<|AJ nkf];exact T.hf
    refine qb (a4 _) λpb a5 pa ac=>?_;have H:=T.link ax true (pb:=pb) (pa:=pa) a5 ac rfl;refine qp (((By a5).trans<|By ac) _ _<|a4 _) ⟨big _ (by show 0<=20000;decide),?_⟩;exact⟨_,_,_,_,_,_,_,_,_,rfl,H,by simp,by simp;lia⟩
   ·exact⟨_,_,_,_,_,_,_,I,fo,rfl,T,(by cases fo with|nil=>exact absurd rfl c0|cons _ _=>simp),by lia⟩
  ·rintro C L' ⟨c0,c5,c6,c7,c8,c9,bW,I,fo,rfl,F,h1,hb⟩;refine⟨λm C L3=>∃c0 c5 c6 c7 c8 c9 bW I fo,C=[c0,some<|.int s,some<|.int (room:Int),some<|.ref J,some<|.ref g,c5,c6,c7,c8,c9,bW]/\oA L L3 J g I fo/\1<=fo.length/\fo.length=m/\I.length+fo.length<=max room 3,⟨_,_,_,_,_,_,_,_,_,_,rfl,F,h1,rfl,hb⟩,?_⟩;rintro m C L' ⟨c0,c5,c6,c7,c8,c9,bW,I,fo,rfl,F,h1,hm,hb⟩;refine qb F.hf ?_;refine zg (λc1=>?_) λc1=>?_
   ·have c1:(((zo fo).length:Nat):Int) > 1:=c1;rw[U] at c1;refine⟨λC L3=>∃c0 c5 c6 c7 c8 c9 bW I fo,C=[c0,some<|.int s,some<|.int (room:Int),some<|.ref J,some<|.ref g,c5,c6,c7,c8,c9,bW]/\oA L L3 J g I fo/\1<=fo.length/\fo.length+1=m/\I.length+fo.length<=max room 3,?_,?_⟩
    ·rintro C L3 ⟨d0,d5,d6,d7,d8,d9,d10,a1,a2,rfl,F3,g1,g2,g3⟩;exact⟨m-1,by lia,_,_,_,_,_,_,_,_,_,rfl,F3,g1,by lia,g3⟩
    ·refine⟨⟨by decide,by decide⟩,qb F.hf ⟨⟨by decide,by decide⟩,L,J,g,I,fo,_,_,rfl,F,by lia,by lia,by lia,λL3 a1 a2 F3 g1 g2 _=>?_⟩⟩;exact⟨_,EK _,_,_,_,_,_,_,_,a1,a2,rfl,F3,by lia,by lia,by lia⟩
   ·have c1:¬((((zo fo).length:Nat):Int) > 1):=c1;rw[U] at c1;obtain⟨t,rfl⟩:∃t,fo=[t]:=by
     match fo,h1,c1 with
     |[t],_,_=>exact⟨t,rfl⟩
     |t::u::r,_,c=>exact absurd (show(((t::u::r).length:Nat):Int) > 1 by simp;lia) c
    have ta:=(F.b.ht t<|Av ..).1;refine qb F.hf<|qb ta ?_;have tp:(qx t.R).Perm (List.range I.length):=by have nd:=F.b.nd;have tm:=F.b.tm;simp at nd tm;exact(AZ nd C5).mpr λx=>by rw[tm,A3]
    exact lm (qh.put F.b.sub F.b.hk) (q J I t.R t.E al F.b.ok (F.b.sr t<|Av ..) tp (by simp at hb;lia))
end L3
namespace L2
open PySem PySem.Spec PyProof.Rows
end L2
namespace L2
open PySem PySem.Spec PyProof.Rows
def arw:List V->Hp->VK->Prop:=λxs H Q=>∃n:Int,xs=[.int n]/\∀p,H p=none->Q (.ref p) (upd H p<|.rng 0 n)
theorem acz:jo X (.type "range") arw:=by intro J s g H j l Q I r h;obtain⟨n,rfl,q⟩:=h;obtain⟨u,rfl,U⟩:=r.one;obtain⟨t,rfl⟩:=(show ∃t,u=Value.int n t from U);refine call_range_1 ?_;refine⟨.ref s.heap.objs.size,_,I.laid (t':=s.toks+1+1) (o:=.rng 0 n) (λb ob q=>qy _ q) (Am _) ?_,rfl,q _<|I.hok.fresh<|Am _⟩;exact⟨s.toks,t,s.toks+1,sy _ rfl⟩
theorem u9{I:Array Value}(h:ItemsOf (λi v=>∃t,v=.int (0+(i:Int)*1) t) I n):zw ((List.range n).map λi:Nat=>V.int<|0+(i:Int)) I.toList:=by
 have len:I.toList.length=n:=by rw[AQ];exact h.1
 have key:∀(l:List Value) (k:Nat),(∀(j:Nat) v,l[j]?=some v->∃t,v=Value.int (0+((k+j:Nat):Int)*1) t)->zw ((List.range' k l.length).map λi:Nat=>V.int<|0+(i:Int)) l:=by
  intro l
  induction l with
  |nil=>intro k _;exact .nil
  |cons v r g=>
   intro k U;rw[AM,Eo,AF];obtain⟨t,e⟩:=U 0 v rfl;refine .cons ?_<|g (k+1) λj o J=>?_
   ·exact⟨t,by rw[e];simp⟩
   ·have:=U (j+1) o J;rw[show k+1+j=k+(j+1) by simp +arith only];exact this
 have:=key I.toList 0 λj v J=>by rw[Ew];exact h.2 j v (by simpa using J)
 rw[len,<-List.range_eq_range'] at this;exact this
def api:List V->Hp->VK->Prop:=λxs H Q=>∃a,∃n:Nat,xs=[.ref a]/\H a=some (.rng 0 n)/\n<=100000/\∀p,H p=none->Q (.ref p) (upd H p<|.lst ((List.range n).map λi:Nat=>V.int<|0+(i:Int)))
theorem zZ(hc:X.calm=true):jo X (.type "list") api:=by
 intro g s σ H xs us Q I r h;obtain⟨a,n,rfl,j,l,q⟩:=h;obtain⟨u,rfl,p⟩:=r.one;cases (show u=Value.ref a from p);obtain⟨t,u,v,e⟩:=I.hok a _ j;have hb:(100000:Nat)<=sizeLine:=by decide
 have C:Builtin.Range.rangeSize 0 (n:Int) 1=((n:Nat):Int):=by rw[rangeSize_one];split<;>lia
 refine jq I.tk<|call_list_range (I.ok.hd hc) (show IsRange s.heap a 0 (n:Int) 1 t u v from e) (small_one (by decide) (by decide) (by exact AY _) (by omega)) C (A0 l (by decide)) λh' tk U c T hS J ht=>?_;refine⟨.ref s.heap.objs.size,_,I.laid (t':=tk) (o:=.lst ((List.range n).map λi:Nat=>V.int<|0+(i:Int))) T (Am _) ?_,rfl,q _<|I.hok.fresh<|Am _⟩;refine⟨by rw[Ae,BZ];exact alb,U.toList,c,u9 J,?_⟩;rw[hS]
end L2
namespace L3
open PySem L2
theorem aka:bootBuiltins "range"=some (.type "range"):=by decide +kernel
def sW(te:xz)(τ:jn)(L:qr)(Q:YK):Prop:=te τ L λy L1=>match y with
 |.int n=>(0<=n/\n<=100000)/\∀p,L1 p=none->Q (.ref p) (qj L1 p<|.lst<|aj 0 n.toNat)
 |_=>False
theorem aga(n:Nat):v3 G H (aj 0 n) ((List.range n).map λi:Nat=>V.int<|0+(i:Int)):=by
 unfold aj;generalize List.range n=l
 induction l with|nil=>rfl|cons k r I=>exact⟨_,_,rfl,rfl,I⟩
theorem vW{p I:Pos}(hc:X.calm=true)(C:Gl X "list")(T:X.mg "list"=none)(j:Gl X "range")(l:X.mg "range"=none)(h:QE X e te)
 (h1:starEach [.Call (.Name "range" p2) [e] [] I] X.env=(false,eval (.Call (.Name "range" p2) [e] [] I) X.env)::starEach [] X.env:=by rfl) (h2:(backTo pos<|starEach [] X.env).any (·.1)=false:=by rfl)
 (h3:starEach [e] X.env=(false,eval e X.env)::starEach [] X.env:=by rfl) (h4:(backTo I<|starEach [] X.env).any (·.1)=false:=by rfl):
 QE X (.Call (.Name "list" p) [.Call (.Name "range" p2) [e] [] I] [] pos) (sW te):=
 EN (iy (zZ hc) C T aC (aA (iy acz j l aka (aA h dw h3) (by decide) (by decide) h3 h4) dw h1) (by decide) (by decide) h1 h2) λσ H Q τ L Q3 rs rl z k=>
 ⟨τ,L,_,rs,rl,z,λv H1 y L1 t1 J o U=>by
  cases y with
  |int n=>
   obtain⟨⟨h0,h5⟩,U⟩:=U;cases (show v=V.int n from o);obtain⟨m,rfl⟩:∃m:Nat,n=(m:Int):=⟨n.toNat,by lia⟩;refine⟨_,rfl,λq r=>⟨q,m,rfl,zh,by lia,λp g=>?_⟩⟩;have t:H1 p=none:=by
    by_cases c:p=q
    ·subst c;exact r
    ·rw[ql c] at g;exact g
   exact k _ _ _ _ (t1.trans<|(EM r).trans<|EM g) ((J.skip r).newL g<|aga m) (by rfl) (U p<|J.none t)
  |_=>exact U.elim⟩
section
variable {tr:f9}{m:Str}{g:Addr}
end
end L3
namespace TS
open PySem PyProof.Rows
def afj:Bool->Keyed->Array Keyed->Nat->Nat->Nat->StateT SortSt Sem (Option Nat):=sortPriv% PySem.Builtin.gallop
section
variable {w:World}
structure Ord(prog:Program)(w:World)(A:Around)(s:Shared)(κ:SortKind)(Ok:Keyed->Prop)(f:Keyed->Int):Prop where
 lt:∀x y,Ok x->Ok y->∀{E:Value->Shared->Prop} {Q:Bool->Shared->Prop},Q (decide<|f x<f y) s->wpAny (model prog w) A (keyLt' κ x.1 y.1) Q E s
variable {κ:SortKind}{Ok:Keyed->Prop}{f:Keyed->Int}
theorem w_lt(O:Ord prog w A s κ Ok f){st:SortSt}{x y:Keyed}{Q:Option Bool->SortSt->Prop}(I:kindOf st=κ)(J:Ok x)(U:Ok y)(h:Q (some<|decide<|f x<f y) st):wpS (model prog w) A E s (lt' x y) Q st:=by rw[lt'_eq];refine Ab<|wpS_get ?_;rw[I];refine Ab<|wpS_lift<|wpAny_attempt<|O.lt x y J U ⟨rfl,?_⟩;exact Ad h
theorem xq{arr:Array Keyed}{x:Keyed}{st:SortSt}{Q:Keyed->SortSt->Prop}(h:arr[i]?=some x)(q:Q x st):wpS (model prog w) A E s (elem' arr i) Q st:=by rw[elem'_eq,h];exact Ad q
def bey(left:Bool)(key:Keyed)(arr:Array Keyed)(i:Nat):StateT SortSt Sem (Option Bool):=elem' arr i >>= λx=>if left=true then lt' x key else lt' key x >>= λr=>pure<|r.map λb=>!b
theorem anv(O:Ord prog w A s κ Ok f){left:Bool}{key x:Keyed}{arr:Array Keyed}{st:SortSt}{Q:Option Bool->SortSt->Prop}(J:kindOf st=κ)(I:Ok key)(U:Ok x)(hi:arr[i]?=some x)
 (q:Q (some<|if left=true then decide (f x<f key) else !decide (f key<f x)) st):wpS (model prog w) A E s (bey left key arr i) Q st:=by
 refine Ab<|xq hi ?_;cases left with|true=>exact w_lt O J U I q|false=>exact Ab<|w_lt O J I U<|Ad q
theorem cf(O:Ord prog w A s κ Ok f){left:Bool}{key:Keyed}{arr:Array Keyed}{base hint:Nat}{st:SortSt}{Q:Option Nat->SortSt->Prop}(hk:kindOf st=κ)(a3:Ok key)(hh:hint<n)
 (it:Nat->Keyed) (hit:∀i,i<n->arr[base+i]?=some (it i)/\Ok (it i)) (o:Nat->Bool) (a4:∀i,i<n->o i=if left=true then decide (f (it i)<f key) else !decide (f key<f (it i)))
 (mono:∀i j,i<=j->j<n->o j=true->o i=true)
 (q:∀k,k<=n->(∀i,i<k->o i=true)->(∀i,k<=i->i<n->o i=false)->Q (some k) st):wpS (model prog w) A E s (afj left key arr base n hint) Q st:=by
 have go:∀i,i<n->∀Q':Option Bool->SortSt->Prop,Q' (some<|o i) st->wpS (model prog w) A E s (bey left key arr<|base+i) Q' st:=λi U Q' h=>anv O hk a3 (hit i U).2 (hit i U).1 (by rw[<-a4 i U];exact h);refine Ab<|go hint hh _ ?_;dsimp only;cases hb:o hint with
 |true=>
  rw[AA rfl];refine Ab (AU (AN (I:=λx c g=>g=st/\∃l J,c=(none,l,J)/\l<J/\l<n-hint/\o (hint+l)=true/\x+1<=J)
   (Q:=λc g=>g=st/\∃l J,c=(none,l,J)/\l<J/\l<n-hint/\o (hint+l)=true/\(n-hint<=J\/o (hint+J)=false)) ?_ ?_ ⟨rfl,0,1,rfl,by exact B5 _,by omega,hb,by exact B5 _⟩) ?_)
  ·rintro x c g _ hx ⟨rfl,l,J,rfl,h1,h2,h3,r⟩;dsimp only;by_cases c:J>=n-hint
   ·rw[AA c];exact Ad ⟨rfl,l,J,rfl,h1,h2,h3,.inl c⟩
   ·rw[Az c];refine Ab<|go (hint+J) (by lia) _ ?_;dsimp only;cases t:o (hint+J) with
    |true=>
     rw[Az (by simp)];exact Ad ⟨rfl,J,2*J+1,rfl,by simp +arith only,by exact ani,t,by lia⟩
    |false=>
     rw[AA (by simp)];exact Ad ⟨rfl,l,J,rfl,h1,h2,h3,.inr t⟩
  ·rintro c g ⟨rfl,l,J,rfl,h1,h2,h3,r⟩;exact⟨rfl,l,J,rfl,h1,h2,h3,.inl (by lia)⟩
  ·rintro c g ⟨rfl,l,J,rfl,h1,h2,h3,r⟩;dsimp only;obtain⟨lo,a1⟩:∃lo,lo=hint+l+1:=⟨_,rfl⟩;obtain⟨U,a2⟩:∃U,U=hint+min J (n-hint):=⟨_,rfl⟩;rw[<-a1,<-a2];have g1:lo<=U:=by omega
   have g2:U<=n:=by lia
   have g3:∀i,i<lo->o i=true:=λi U=>mono i (hint+l) (by lia) (by lia) h3;have g4:∀i,U<=i->i<n->o i=false:=λi h5 h6=>by
    rcases r with r|r
    ·omega
    ·cases e:o i with
     |false=>rfl
     |true=>
      by_cases c:J<n-hint
      ·rw[mono (hint+J) i (by omega) h6 e] at r;cases r
      ·omega
   refine Ab (AU (AN (I:=λx c sx=>sx=g/\∃lo U,c=(none,lo,U)/\lo<=U/\U<=n/\(∀i,i<lo->o i=true)/\(∀i,U<=i->i<n->o i=false)/\U-lo+x<=n)
    (Q:=λc sx=>sx=g/\∃U,c=(none,U,U)/\U<=n/\(∀i,i<U->o i=true)/\(∀i,U<=i->i<n->o i=false)) ?_ ?_ ⟨rfl,lo,U,rfl,g1,g2,g3,g4,by exact anf⟩) ?_)
   ·rintro x c p _ hx ⟨rfl,lo,U,rfl,k1,C,T,k4,k5⟩;dsimp only;by_cases c:lo>=U
    ·rw[AA c];have:lo=U:=by lia
     subst this;exact Ad ⟨rfl,lo,rfl,C,T,k4⟩
    ·rw[Az c];refine Ab<|go (lo+(U-lo) / 2) (by lia) _ ?_;dsimp only;cases t:o (lo+(U-lo) / 2) with
     |true=>
      rw[AA rfl];exact Ad ⟨rfl,lo+(U-lo) / 2+1,U,rfl,by lia,C,λi h5=>mono i _ (by exact aq4) (by lia) t,k4,by lia⟩
     |false=>
      rw[Az (by simp)];refine Ad ⟨rfl,lo,lo+(U-lo) / 2,rfl,by exact A7 _ _,by lia,T,λi h5 h6=>?_,by omega⟩;cases e:o i with|false=>rfl|true=>rw[mono _ i h5 h6 e] at t;cases t
   ·rintro c p ⟨rfl,lo,U,rfl,k1,C,T,k4,k5⟩;have:lo=U:=by lia
    subst this;exact⟨rfl,lo,rfl,C,T,k4⟩
   ·rintro c p ⟨rfl,U,rfl,C,T,k4⟩;exact Ad<|q U C T k4
 |false=>
  rw[Az (by simp)];refine Ab (AU (AN (I:=λx c g=>g=st/\∃l J,c=(none,l,J)/\l<J/\l<hint+1/\o (hint-l)=false/\x+1<=J)
   (Q:=λc g=>g=st/\∃l J,c=(none,l,J)/\l<J/\l<hint+1/\o (hint-l)=false/\(hint+1<=J\/o (hint-J)=true)) ?_ ?_ ⟨rfl,0,1,rfl,by lia,by exact B9 _,hb,by lia⟩) ?_)
  ·rintro x c g _ hx ⟨rfl,l,J,rfl,h1,h2,h3,r⟩;dsimp only;by_cases c:J>=hint+1
   ·rw[AA c];exact Ad ⟨rfl,l,J,rfl,h1,h2,h3,.inl c⟩
   ·rw[Az c];refine Ab<|go (hint-J) (by exact pS) _ ?_;dsimp only;cases t:o (hint-J) with
    |true=>
     rw[AA rfl];exact Ad ⟨rfl,l,J,rfl,h1,h2,h3,.inr t⟩
    |false=>
     rw[Az (by simp)];exact Ad ⟨rfl,J,2*J+1,rfl,by lia,by exact ani,t,by lia⟩
  ·rintro c g ⟨rfl,l,J,rfl,h1,h2,h3,r⟩;exact⟨rfl,l,J,rfl,h1,h2,h3,.inl (by exact tF)⟩
  ·rintro c g ⟨rfl,l,J,rfl,h1,h2,h3,r⟩;dsimp only;obtain⟨lo,a1⟩:∃lo,lo=hint+1-min J (hint+1):=⟨_,rfl⟩;obtain⟨U,a2⟩:∃U,U=hint-l:=⟨_,rfl⟩;rw[<-a1,<-a2];have g1:lo<=U:=by omega
   have g2:U<=n:=by omega
   have g3:∀i,i<lo->o i=true:=λi h5=>by
    rcases r with r|r
    ·omega
    ·exact mono i (hint-J) (by omega) (by exact pS) r
   have g4:∀i,U<=i->i<n->o i=false:=λi h5 h6=>by cases e:o i with|false=>rfl|true=>rw[mono (hint-l) i (by lia) h6 e] at h3;cases h3
   refine Ab (AU (AN (I:=λx c sx=>sx=g/\∃lo U,c=(none,lo,U)/\lo<=U/\U<=n/\(∀i,i<lo->o i=true)/\(∀i,U<=i->i<n->o i=false)/\U-lo+x<=n)
    (Q:=λc sx=>sx=g/\∃U,c=(none,U,U)/\U<=n/\(∀i,i<U->o i=true)/\(∀i,U<=i->i<n->o i=false)) ?_ ?_ ⟨rfl,lo,U,rfl,g1,g2,g3,g4,by exact anf⟩) ?_)
   ·rintro x c p _ hx ⟨rfl,lo,U,rfl,k1,C,T,k4,k5⟩;dsimp only;by_cases c:lo>=U
    ·rw[AA c];have:lo=U:=by lia
     subst this;exact Ad ⟨rfl,lo,rfl,C,T,k4⟩
    ·rw[Az c];refine Ab<|go (lo+(U-lo) / 2) (by lia) _ ?_;dsimp only;cases t:o (lo+(U-lo) / 2) with
     |true=>
      rw[AA rfl];exact Ad ⟨rfl,lo+(U-lo) / 2+1,U,rfl,by lia,C,λi h5=>mono i _ (by lia) (by lia) t,k4,by lia⟩
     |false=>
      rw[Az (by simp)];refine Ad ⟨rfl,lo,lo+(U-lo) / 2,rfl,by lia,by lia,T,λi h5 h6=>?_,by lia⟩;cases e:o i with|false=>rfl|true=>rw[mono _ i h5 h6 e] at t;cases t
   ·rintro c p ⟨rfl,lo,U,rfl,k1,C,T,k4,k5⟩;have:lo=U:=by lia
    subst this;exact⟨rfl,lo,rfl,C,T,k4⟩
   ·rintro c p ⟨rfl,U,rfl,C,T,k4⟩;exact Ad<|q U C T k4
end
def aec:Array Keyed->Array Keyed->StateT SortSt Sem (Array Keyed):=sortPriv% PySem.Builtin.mergeLo
def ab1:Array Keyed->Array Keyed->StateT SortSt Sem (Array Keyed):=sortPriv% PySem.Builtin.mergeHi
structure MI(f:Keyed->Int)(la lb fm ra rb:List Keyed):Prop where
 perm:(fm++(ra++rb)).Perm (la++lb)
 so:fm.Pairwise λx y=>f x<=f y
 sa:ra.Pairwise λx y=>f x<=f y
 sb:rb.Pairwise λx y=>f x<=f y
 oa:∀x∈fm,∀y∈ra,f x<=f y
 ob:∀x∈fm,∀y∈rb,f x<=f y
theorem MI.a{f:Keyed->Int}{j l fm seg o U:List Keyed}(h:MI f j l fm (seg++o) U)(hs:∀x∈seg,∀y∈U,f x<=f y):MI f j l (fm++seg) o U:=by
 have g:=AS.mp h.sa;refine⟨?_,AS.mpr ⟨h.so,g.1,λx I y J=>h.oa x I y<|Ao _ J⟩,g.2.1,h.sb,λx I y J=>?_,λx I y J=>?_⟩
 ·have:=h.perm;rw[Aw] at this ⊢;exact this
 ·rcases Aj.mp I with I|I
  ·exact h.oa x I y<|Ai _ J
  ·exact g.2.2 x I y J
 ·rcases Aj.mp I with I|I
  ·exact h.ob x I y J
  ·exact hs x I y J
theorem MI.b{f:Keyed->Int}{l o fm seg U g:List Keyed}(h:MI f l o fm U<|seg++g)(hs:∀x∈seg,∀y∈U,f x<=f y):MI f l o (fm++seg) U g:=by
 have j:=AS.mp h.sb;refine⟨?_,AS.mpr ⟨h.so,j.1,λx I y J=>h.ob x I y<|Ao _ J⟩,h.sa,j.2.1,λx I y J=>?_,λx I y J=>?_⟩
 ·refine List.Perm.trans ?_ h.perm;rw[Aw];exact(Bu fm).mpr (by rw[<-Aw,<-Aw];exact(Bi g).mpr Bd)
 ·rcases Aj.mp I with I|I
  ·exact h.oa x I y J
  ·exact hs x I y J
 ·rcases Aj.mp I with I|I
  ·exact h.ob x I y<|Ai _ J
  ·exact j.2.2 x I y J
def kq(f:Keyed->Int)(I J r:List Keyed):Prop:=r.Perm (I++J)/\r.Pairwise λx y=>f x<=f y
theorem MI.ea{f:Keyed->Int}{I J fm U:List Keyed}(h:MI f I J fm U []):kq f I J (fm++U):=⟨by have:=h.perm;rwa[AD] at this,AS.mpr ⟨h.so,h.sa,h.oa⟩⟩
theorem MI.eb{f:Keyed->Int}{g j fm J U:List Keyed}(h:MI f g j fm J U)(hs:∀x∈U,∀y∈J,f x<=f y):kq f g j (fm++U++J):=by
 refine⟨List.Perm.trans ?_ h.perm,?_⟩
 ·rw[Aw];exact(Bu fm).mpr Bd
 ·rw[Aw];refine AS.mpr ⟨h.so,AS.mpr ⟨h.sb,h.sa,hs⟩,λx l y I=>?_⟩;rcases Aj.mp I with I|I
  ·exact h.ob x l y I
  ·exact h.oa x l y I
structure MP(f:Keyed->Int)(a b fm:Array Keyed)(ia ib:Nat):Prop where
 mi:MI f a.toList b.toList fm.toList (a.toList.drop ia) (b.toList.drop ib)
 sz:fm.size=ia+ib
 la:ia<=a.size
 lb:ib<=b.size
theorem aig(a:Array Keyed)(h:i<a.size):a.toList.drop i=a[i]::a.toList.drop (i+1):=by rw[B1 (by simpa using h)];simp
theorem hX(a:Array Keyed)(i j:Nat):(a.extract i j).toList=(a.toList.drop i).take (j-i):=by rw[Array.toList_extract,List.extract_eq_drop_take]
theorem ji(l:List Keyed)(i k:Nat):(l.drop i).take k++l.drop (i+k)=l.drop i:=by rw[<-Dw,A8]
theorem qP{a:Array Keyed}{k:Nat}{x:Keyed}(h:x∈(a.toList.drop i).take k):∃j,∃I:i+j<a.size,j<k/\a[i+j]=x:=by
 obtain⟨j,I,e⟩:=Ba h;rw[AR,Bm] at I;have h1:i+j<a.size:=by have:a.toList.length=a.size:=AQ;omega
 refine⟨j,h1,by omega,?_⟩;rw[<-e];simp
theorem gb{a:Array Keyed}{x:Keyed}(h:x∈a.toList.drop i):∃j,∃I:j<a.size,i<=j/\a[j]=x:=by
 obtain⟨j,I,e⟩:=Ba h;rw[Bm] at I;have h1:i+j<a.size:=by have:a.toList.length=a.size:=AQ;omega
 refine⟨i+j,h1,by exact A7 _ _,?_⟩;rw[<-e];simp
theorem srt{f:Keyed->Int}{a:Array Keyed}(s:a.toList.Pairwise λx y=>f x<=f y)(I:i<=j)(J:j<a.size):f (a[i]'(by exact i3))<=f a[j]:=by
 rcases DU I with h|h
 ·have:=C8.mp s i j (by simpa using (by exact i3:i<a.size)) (by simpa using J) h;simpa using this
 ·subst h;exact Dq _
section
variable {f:Keyed->Int}{a b fm:Array Keyed}{ia ib:Nat}
theorem MP.segA(M:MP f a b fm ia ib){k:Nat}(J:ia+k<=a.size)(h:∀i (hi:ia+i<a.size),i<k->∀j (I:j<b.size),ib<=j->f a[ia+i]<=f b[j]):MP f a b (fm++a.extract ia (ia+k)) (ia+k) ib:=by
 refine⟨?_,?_,J,M.lb⟩
 ·rw[A9,hX,show ia+k-ia=k by omega];refine MI.a (by rw[ji];exact M.mi) λx U y g=>?_;obtain⟨i,hi,h1,rfl⟩:=qP U;obtain⟨j,I,h2,rfl⟩:=gb g;exact h i hi h1 j I h2
 ·rw[BR,Dl,M.sz];lia
theorem MP.segB(M:MP f a b fm ia ib){k:Nat}(J:ib+k<=b.size)(h:∀i (hi:ib+i<b.size),i<k->∀j (I:j<a.size),ia<=j->f b[ib+i]<=f a[j]):MP f a b (fm++b.extract ib (ib+k)) ia (ib+k):=by
 refine⟨?_,?_,M.la,J⟩
 ·rw[A9,hX,show ib+k-ib=k by lia];refine MI.b (by rw[ji];exact M.mi) λx U y g=>?_;obtain⟨i,hi,h1,rfl⟩:=qP U;obtain⟨j,I,h2,rfl⟩:=gb g;exact h i hi h1 j I h2
 ·rw[BR,Dl,M.sz];lia
theorem MP.oneA(M:MP f a b fm ia ib)(hi:ia<a.size)(h:∀j (I:j<b.size),ib<=j->f a[ia]<=f b[j]):MP f a b (fm.push a[ia]) (ia+1) ib:=by refine⟨?_,by rw[Bp,M.sz];simp +arith only,hi,M.lb⟩;rw[CV];refine MI.a (seg:=[a[ia]]) (by rw[DA,<-aig a hi];exact M.mi) λx J y U=>?_;obtain⟨j,I,h2,rfl⟩:=gb U;rw[Al.mp J];exact h j I h2
theorem MP.oneB(M:MP f a b fm ia ib)(hi:ib<b.size)(h:∀j (I:j<a.size),ia<=j->f b[ib]<=f a[j]):MP f a b (fm.push b[ib]) ia (ib+1):=by refine⟨?_,by rw[Bp,M.sz];exact EG _ _ _,M.la,hi⟩;rw[CV];refine MI.b (seg:=[b[ib]]) (by rw[DA,<-aig b hi];exact M.mi) λx J y U=>?_;obtain⟨j,I,h2,rfl⟩:=gb U;rw[Al.mp J];exact h j I h2
theorem MP.done(M:MP f a b fm ia ib)(h:ib=b.size):kq f a.toList b.toList (fm++a.extract ia++b.extract ib).toList:=by have e:b.toList.drop ib=[]:=List.drop_eq_nil_of_le (by rw[AQ];lia);have m:=M.mi;rw[e] at m;have:=m.ea;rw[A9,A9,hX,hX,e,List.take_nil,AD,AV (by simp)];exact this
theorem MP.last(M:MP f a b fm ia ib)(h:ia+1=a.size)(I:∀x∈b.toList,f x<f (a[a.size-1]'(by omega))):kq f a.toList b.toList (fm++b.extract ib++a.extract ia).toList:=by
 have:=M.mi.eb λx J y U=>by
  obtain⟨j,g,h2,rfl⟩:=gb U;have e:j=a.size-1:=by omega
  subst e;exact BP<|I x<|CZ J
 rw[A9,A9,hX,hX,AV (by simp),AV (by simp)];exact this
end
section
variable {w:World}{κ:SortKind}{Ok:Keyed->Prop}{f:Keyed->Int}
abbrev gr(st:SortSt)(g:Nat):SortSt:=SortSt.mk' (kindOf st) (arrOf st) (pendingOf st) g<|failedOf st
theorem u4{c:Prop}{_:Decidable c}{K:β->StateT SortSt Sem α}{y:β}{Q:α->SortSt->Prop}{st:SortSt}(key:∀z,wpS (model prog w) A E s (K z) Q st):∀x,wpS (model prog w) A E s (if c then K x else K y) Q st:=λx=>by
 by_cases h:c
 ·rw[AA h];exact key x
 ·rw[Az h];exact key y
theorem kZ{I:Type}{c:Prop}{_:Decidable c}{K T:β->I->StateT SortSt Sem α}{P:β->I->Prop}{x:β}{i:I}{Q:α->SortSt->Prop}{st:SortSt}(key:∀o j,P o j->wpS (model prog w) A E s (K o j) Q st)(J:¬c->P x i)
 (U:c->(∀o j,P o j->wpS (model prog w) A E s (K o j) Q st)->wpS (model prog w) A E s (T x i) Q st):∀o,x=o->∀j,i=j->wpS (model prog w) A E s (if c then T o j else K o j) Q st:=by
 rintro _ rfl _ rfl;by_cases h:c
 ·rw[AA h];exact U h key
 ·rw[Az h];exact key x i<|J h
theorem xx{c:Prop} [Decidable c]{x y:StateT SortSt Sem α}{Q:α->SortSt->Prop}{st:SortSt}(h:c)(k:wpS M A E s x Q st):wpS M A E s (if c then x else y) Q st:=by rw[AA h];exact k
theorem xa{c:Prop} [Decidable c]{x y:StateT SortSt Sem α}{Q:α->SortSt->Prop}{st:SortSt}(h:¬c)(k:wpS M A E s y Q st):wpS M A E s (if c then x else y) Q st:=by rw[Az h];exact k
theorem fP{c:Prop} [Decidable c]{x y:StateT SortSt Sem α}{Q:α->SortSt->Prop}{st:SortSt}(h:c->wpS M A E s x Q st)(k:¬c->wpS M A E s y Q st):wpS M A E s (if c then x else y) Q st:=by
 by_cases d:c
 ·rw[AA d];exact h d
 ·rw[Az d];exact k d
theorem yO(O:Ord prog w A s κ Ok f){a b:Array Keyed}{st:SortSt}{Q:Array Keyed->SortSt->Prop}(hk:kindOf st=κ)(cv:∀x∈a.toList,Ok x)(cw:∀x∈b.toList,Ok x)
 (sa:a.toList.Pairwise λx y=>f x<=f y) (sb:b.toList.Pairwise λx y=>f x<=f y) (ha:0<a.size) (hb:0<b.size) (h0:∀x∈a.toList,f b[0]<f x) (hl:∀x∈b.toList,f x<f a[a.size-1])
 (q:∀r g,kq f a.toList b.toList r.toList->Q r (gr st g)):wpS (model prog w) A E s (aec a b) Q st:=by
 refine Ab<|wpS_lift<|BA ⟨rfl,?_⟩;refine Ab<|xq (x:=b[0]) (by simp[hb]) ?_;dsimp only;have M0:MP f a b #[b[0]] 0 1:=by have M:MP f a b #[] 0 0:=⟨⟨by simp,by simp,by simpa using sa,by simpa using sb,by simp,by simp⟩,rfl,Be _,Be _⟩;have:=M.oneB hb λj hj _=>BP<|h0 a[j] (by simp);simpa using this
 by_cases c1:(1==b.size)=true
 ·refine xx c1 ?_;exact Ad<|q _ (gallopOf st)<|M0.done (by simpa using c1)
 refine xa c1 ?_;by_cases c2:(0+1==a.size)=true
 ·refine xx c2 ?_;exact Ad<|q _ (gallopOf st)<|M0.last (by simpa using c2) hl
 refine xa c2 ?_;have c1:¬1=b.size:=by simpa using c1
 have c2:¬1=a.size:=by simpa using c2
 refine Ab<|wpS_get ?_;have bn:∀i (p:i<a.size),Ok a[i]:=λi p=>cv _ (by simp);have bp:∀i (p:i<b.size),Ok b[i]:=λi p=>cw _ (by simp);have aL:∀i (p:i<a.size),a[i]?=some a[i]:=λi p=>by simp[p]
 have ba:∀i (p:i<b.size),b[i]?=some b[i]:=λi p=>by simp[p]
 obtain⟨tA,cy⟩:∃t:Nat->Keyed,t=λi=>(a[i]?).getD b[0]:=⟨_,rfl⟩;have a5:∀i (p:i<a.size),tA i=a[i]:=λi p=>by rw[cy];simp[p]
 have cz:∀i (p:i<a.size),a[i]?=some (tA i):=λi p=>by rw[a5 i p];exact aL i p
 have cP:∀i (p:i<a.size),Ok (tA i):=λi p=>by rw[a5 i p];exact bn i p
 have d0:∀{i j},i<=j->j<a.size->f (tA i)<=f (tA j):=λ{i j} a1 hj=>by rw[a5 i (by exact i3),a5 j hj];exact srt sa a1 hj
 obtain⟨tB,de⟩:∃t:Nat->Keyed,t=λi=>(b[i]?).getD b[0]:=⟨_,rfl⟩;have ax:∀i (p:i<b.size),tB i=b[i]:=λi p=>by rw[de];simp[p]
 have di:∀i (p:i<b.size),b[i]?=some (tB i):=λi p=>by rw[ax i p];exact ba i p
 have dj:∀i (p:i<b.size),Ok (tB i):=λi p=>by rw[ax i p];exact bp i p
 have dp:∀{i j},i<=j->j<b.size->f (tB i)<=f (tB j):=λ{i j} a1 hj=>by rw[ax i (by exact i3),ax j hj];exact srt sb a1 hj
 refine Ab (AU (AN (I:=λx c C=>(∃g,C=gr st g)/\∃al l U mg,c=(none,al,l,U,mg)/\MP f a b al l U/\l+1<a.size/\U<b.size/\x+1<=al.size)
  (Q:=λc C=>(∃g,C=gr st g)/\∃r,c.1=some r/\kq f a.toList b.toList r.toList) ?_ ?_ ⟨⟨gallopOf st,rfl⟩,_,_,_,_,rfl,M0,by exact ye,by exact ye,by simp⟩) ?_)
 ·rintro x c C _ hx ⟨⟨g,rfl⟩,al,l,U,mg,rfl,M,a3,T,hs⟩;dsimp only;refine Ab (AU (AN (I:=λy c C=>C=gr st g/\∃J l U ac bc,c=(none,J,l,U,ac,bc)/\MP f a b J l U/\l+1<a.size/\U<b.size/\al.size+y<=J.size)
   (Q:=λc C=>C=gr st g/\((∃r,c.1=some r/\kq f a.toList b.toList r.toList)\/∃J l U ac bc,c=(none,J,l,U,ac,bc)/\MP f a b J l U/\l+1<a.size/\U<b.size/\al.size+1<=J.size)) ?_ ?_ ⟨rfl,_,_,_,_,_,rfl,M,a3,T,Am _⟩) ?_)
  ·rintro y c C _ hy ⟨rfl,J,l,U,ac,bc,rfl,M,a3,T,cm⟩;have bd:l<a.size:=by exact jC
   dsimp only;refine Ab<|xq (ba U T) ?_;refine Ab<|xq (aL l bd) ?_;refine Ab<|w_lt O hk (bp U T) (bn l bd) ?_;dsimp only;by_cases c:f b[U]<f a[l]
   ·refine xx (AI c) ?_;refine Ab<|xq (ba U T) ?_;have M':=M.oneB T λj hj a1=>BP<|Int.lt_of_lt_of_le c<|srt sa a1 hj;have s2:(J.push b[U]).size=J.size+1:=Bp _;by_cases e1:(U+1==b.size)=true
    ·refine xx e1 ?_;exact Ad ⟨rfl,.inl ⟨_,rfl,M'.done (by simpa using e1)⟩⟩
    ·refine xa e1 ?_;have e1:¬U+1=b.size:=by simpa using e1
     refine fP (λ_=>?_) λ_=>?_
     ·exact Ad ⟨rfl,.inr ⟨_,_,_,_,_,rfl,M',a3,by exact ye,by lia⟩⟩
     ·exact Ad ⟨rfl,_,_,_,_,_,rfl,M',a3,by lia,by lia⟩
   ·refine xa (by rw[Ay c];decide) ?_;refine Ab<|xq (aL l bd) ?_;have M':=M.oneA (by lia) λj hj a1=>BV (by omega)<|srt sb a1 hj;have s2:(J.push a[l]).size=J.size+1:=Bp _;by_cases e1:(l+1+1==a.size)=true
    ·refine xx e1 ?_;exact Ad ⟨rfl,.inl ⟨_,rfl,M'.last (by simpa using e1) hl⟩⟩
    ·refine xa e1 ?_;have e1:¬l+1+1=a.size:=by simpa using e1
     refine fP (λ_=>?_) λ_=>?_
     ·exact Ad ⟨rfl,.inr ⟨_,_,_,_,_,rfl,M',by exact ye,T,by lia⟩⟩
     ·exact Ad ⟨rfl,_,_,_,_,_,rfl,M',by lia,T,by lia⟩
  ·rintro c C ⟨rfl,J,l,U,ac,bc,rfl,M,a3,T,cm⟩;have:=M.sz;omega
  ·rintro c C ⟨rfl,h⟩;rcases h with⟨r,er,hr⟩|⟨bh,l,U,ac,bc,rfl,M,a3,T,cm⟩
   ·obtain⟨c1,c2⟩:=c;cases er;exact Ad ⟨⟨g,rfl⟩,r,rfl,hr⟩
   ·dsimp only;refine Ab<|wpS_lift<|BA ⟨rfl,?_⟩;refine Ab (AU (AN (I:=λy c C=>(∃g,C=gr st g)/\∃J l U mg ac bc,c=(none,J,l,U,mg,ac,bc)/\MP f a b J l U/\l+1<a.size/\U<b.size/\bh.size+y<=J.size)
     (Q:=λc C=>(∃g,C=gr st g)/\((∃r,c.1=some r/\kq f a.toList b.toList r.toList)\/∃J l U mg ac bc,c=(none,J,l,U,mg,ac,bc)/\MP f a b J l U/\l+1<a.size/\U<b.size/\bh.size<=J.size)) ?_ ?_ ⟨⟨g,rfl⟩,_,_,_,_,_,_,rfl,M,a3,T,Am _⟩) ?_)
    ·rintro y c C _ hy ⟨⟨g',rfl⟩,J,l,U,bq,ac,bc,rfl,M,a3,T,bi⟩;have bd:l<a.size:=by exact jC
     dsimp only;generalize bq-1=dr;revert dr;refine u4 (y:=bq) λdv=>?_
     all_goals
      refine Ab<|wpS_modify ?_;refine Ab<|xq (ba U T) ?_;refine Ab<|cf O hk (bp U T) (by lia) (λi=>tA<|l+i) (λi p=>⟨cz _ (by lia),cP _ (by lia)⟩) (λi=>!decide (f b[U]<f (tA<|l+i))) (λi p=>by rw[Az (by simp)]) (λi j a1 hj h=>?_) λk dV bb bf=>?_
      ·have:=d0 (i:=l+i) (j:=l+j) (by lia) (by lia);simp at h ⊢;lia
      have bb:∀i,i<k->f (tA<|l+i)<=f b[U]:=λi p=>by have:=bb i p;simpa using this
      have bf:∀i,k<=i->i<a.size-l->f b[U]<f (tA<|l+i):=λi p hj=>by have:=bf i p hj;simpa using this
      have kl:k<a.size-l:=by
       rcases DU dV with h|h
       ·exact h
       ·exfalso;have h1:=bb (a.size-1-l) (by lia);have h2:=hl b[U] (by simp);rw[show l+(a.size-1-l)=a.size-1 by lia,a5 _ (by exact rS)] at h1;omega
      have M1:MP f a b (J++a.extract l (l+k)) (l+k) U:=M.segA (by lia) λi p bS j hj a1=>by have h1:=bb i bS;rw[a5 _ p] at h1;exact BV h1<|srt sb a1 hj
      have pB:∀j (hj:j<a.size),l+k<=j->f b[U]<=f a[j]:=λj hj a1=>by have h1:=bf (j-l) (by lia) (by lia);rw[show l+(j-l)=j by lia,a5 _ hj] at h1;lia
      dsimp only;generalize e0:J=o0;generalize e5:l=j0;revert j0;revert o0;refine kZ (P:=λ(o:Array Keyed) (j:Nat)=>MP f a b o j U/\J.size<=o.size/\j+1<a.size/\∀j' (hj:j'<a.size),j<=j'->f b[U]<=f a[j']) (x:=J) (i:=l) (λa4 a2 hP=>?tail) (λck=>?hN) λck key=>?hY
      case hN=>
       obtain rfl:k=0:=by lia
       exact⟨M,Am _,a3,λj hj a1=>pB j hj (by lia)⟩
      case hY=>
       by_cases e1:(l+k+1==a.size)=true
       ·refine xx e1 ?_;exact Ad ⟨⟨_,rfl⟩,.inl ⟨_,rfl,M1.last (by simpa using e1) hl⟩⟩
       ·refine xa e1 (xa (show ¬(l+k==a.size)=true by simp;lia) ?_);have e1:¬l+k+1=a.size:=by simpa using e1
        exact key _ _ ⟨M1,by rw[BR];exact A7 _ _,by lia,pB⟩
      clear pB M1 bb bf;obtain⟨M1,h3,l3,pB⟩:=hP;have cb:a2<a.size:=by exact jC
      all_goals
       refine Ab<|xq (ba U T) ?_;have M2:=M1.oneB T pB;have s2:(a4.push b[U]).size=a4.size+1:=Bp _;by_cases e2:(U+1==b.size)=true
       case' pos=>
        refine xx e2 ?_;exact Ad ⟨⟨_,rfl⟩,.inl ⟨_,rfl,M2.done (by simpa using e2)⟩⟩
       case' neg=>
        refine xa e2 ?_;have e2:¬U+1=b.size:=by simpa using e2
        refine Ab<|xq (aL a2 cb) ?_;refine Ab<|cf O hk (bn a2 cb) (by lia) (λi=>tB<|U+1+i) (λi p=>⟨di _ (by omega),dj _ (by lia)⟩) (λi=>decide<|f (tB<|U+1+i)<f a[a2]) (λi p=>by rw[AA rfl]) (λi j a1 hj h=>?_) λk2 e6 au av=>?_
        ·have:=dp (i:=U+1+i) (j:=U+1+j) (by lia) (by omega);simp at h ⊢;lia
        have au:∀i,i<k2->f (tB<|U+1+i)<f a[a2]:=λi p=>by have:=au i p;simpa using this
        have av:∀i,k2<=i->i<b.size-(U+1)->f a[a2]<=f (tB<|U+1+i):=λi p hj=>by have:=av i p hj;simpa using this
        have M3:MP f a b (a4.push b[U]++b.extract (U+1) (U+1+k2)) a2 (U+1+k2):=M2.segB (by omega) λi p bS j hj a1=>by have h1:=au i bS;rw[ax _ p] at h1;exact BV (BP h1)<|srt sa a1 hj
        have pA:∀j (hj:j<b.size),U+1+k2<=j->f a[a2]<=f b[j]:=λj hj a1=>by have h1:=av (j-(U+1)) (by lia) (by omega);rw[show U+1+(j-(U+1))=j by lia,ax _ hj] at h1;exact h1
        dsimp only;obtain⟨o3,cn⟩:∃o,o=a4.push b[U]:=⟨_,rfl⟩;obtain⟨bg,cq⟩:∃i,i=U+1:=⟨_,rfl⟩;rw[<-cn] at s2;rw[<-cn,<-cq] at M2 M3 ⊢;rw[<-cq] at pA e6;generalize e0:o3=o0;generalize e5:bg=j0;revert j0;revert o0;refine kZ (P:=λ(o:Array Keyed) (j:Nat)=>MP f a b o a2 j/\a4.size+1<=o.size/\j<b.size/\∀j' (hj:j'<b.size),j<=j'->f a[a2]<=f b[j']) (x:=o3) (i:=bg) (λbj e8 hP=>?tail2) (λck=>?hN) λck key=>?hY
        case hN=>
         obtain rfl:k2=0:=by lia
         exact⟨M2,by lia,by lia,λj hj a1=>pA j hj (by lia)⟩
        case hY=>
         by_cases e3:(bg+k2==b.size)=true
         ·refine xx e3 ?_;exact Ad ⟨⟨_,rfl⟩,.inl ⟨_,rfl,M3.done (by simpa using e3)⟩⟩
         ·refine xa e3 ?_;have e3:¬bg+k2=b.size:=by simpa using e3
          exact key _ _ ⟨M3,by rw[BR];lia,by lia,pA⟩
        clear pA M3 au av;obtain⟨M3,h4,l4,pA⟩:=hP
        all_goals
         refine Ab<|xq (aL a2 cb) ?_;have M4:=M3.oneA (by lia) pA;have s4:(bj.push a[a2]).size=bj.size+1:=Bp _;by_cases e4:(a2+1+1==a.size)=true
         ·refine xx e4 ?_;exact Ad ⟨⟨_,rfl⟩,.inl ⟨_,rfl,M4.last (by simpa using e4) hl⟩⟩
         ·refine xa e4 ?_;have e4:¬a2+1+1=a.size:=by simpa using e4
          refine fP (λ_=>?_) λ_=>?_
          ·exact Ad ⟨⟨_,rfl⟩,.inr ⟨_,_,_,_,_,_,rfl,M4,by exact ye,l4,by lia⟩⟩
          ·exact Ad ⟨⟨_,rfl⟩,_,_,_,_,_,_,rfl,M4,by lia,l4,by lia⟩
    ·rintro c C ⟨⟨g',rfl⟩,J,l,U,bq,ac,bc,rfl,M,a3,T,bi⟩;have:=M.sz;omega
    ·rintro c C ⟨⟨g',rfl⟩,h⟩;rcases h with⟨r,er,hr⟩|⟨e7,l,U,dv,ac,bc,rfl,M,a3,T,bi⟩
     ·obtain⟨c1,c2⟩:=c;cases er;exact Ad ⟨⟨g',rfl⟩,r,rfl,hr⟩
     ·dsimp only;refine Ab<|wpS_modify ?_;exact Ad ⟨⟨_,rfl⟩,_,_,_,_,rfl,M,a3,T,by lia⟩
 ·rintro c C ⟨⟨g,rfl⟩,al,l,U,mg,rfl,M,a3,T,hs⟩;have:=M.sz;lia
 ·rintro c C ⟨⟨g,rfl⟩,r,er,hr⟩;obtain⟨c1,c2⟩:=c;cases er;exact Ad<|q r g hr
end
structure MH(f:Keyed->Int)(la lb ra rb o:List Keyed):Prop where
 perm:(ra++rb++o).Perm (la++lb)
 so:o.Pairwise λx y=>f x<=f y
 sa:ra.Pairwise λx y=>f x<=f y
 sb:rb.Pairwise λx y=>f x<=f y
 oa:∀x∈ra,∀y∈o,f x<=f y
 ob:∀x∈rb,∀y∈o,f x<=f y
theorem MH.a{f:Keyed->Int}{l p o seg U g:List Keyed}(h:MH f l p (U++seg) g o)(hs:∀x∈g,∀y∈seg,f x<=f y):MH f l p U g (seg++o):=by
 have j:=AS.mp h.sa;refine⟨List.Perm.trans ?_ h.perm,AS.mpr ⟨j.2.1,h.so,λx J y I=>h.oa x (Ai _ J) y I⟩,j.1,h.sb,λx J y I=>?_,λx J y I=>?_⟩
 ·rw[<-Aw];refine(Bi o).mpr ?_;rw[Aw,Aw];exact(Bu U).mpr Bd
 ·rcases Aj.mp I with I|I
  ·exact j.2.2 x J y I
  ·exact h.oa x (Ao _ J) y I
 ·rcases Aj.mp I with I|I
  ·exact hs x J y I
  ·exact h.ob x J y I
theorem MH.b{f:Keyed->Int}{l p o seg U g:List Keyed}(h:MH f l p U (g++seg) o)(hs:∀x∈U,∀y∈seg,f x<=f y):MH f l p U g (seg++o):=by
 have j:=AS.mp h.sb;refine⟨?_,AS.mpr ⟨j.2.1,h.so,λx J y I=>h.ob x (Ai _ J) y I⟩,h.sa,j.1,λx J y I=>?_,λx J y I=>?_⟩
 ·have:=h.perm;rw[<-Aw,Aw U g seg];exact this
 ·rcases Aj.mp I with I|I
  ·exact hs x J y I
  ·exact h.oa x J y I
 ·rcases Aj.mp I with I|I
  ·exact j.2.2 x J y I
  ·exact h.ob x (Ao _ J) y I
theorem MH.ea{f:Keyed->Int}{I J o U:List Keyed}(h:MH f I J [] U o):kq f I J (U++o):=⟨by have:=h.perm;rwa[Cs] at this,AS.mpr ⟨h.sb,h.so,h.ob⟩⟩
theorem MH.eb{f:Keyed->Int}{g j o J U:List Keyed}(h:MH f g j J U o)(hs:∀x∈U,∀y∈J,f x<=f y):kq f g j (U++J++o):=by
 refine⟨List.Perm.trans ?_ h.perm,?_⟩
 ·exact(Bi o).mpr Bd
 ·refine AS.mpr ⟨AS.mpr ⟨h.sb,h.sa,hs⟩,h.so,λx I y l=>?_⟩;rcases Aj.mp I with I|I
  ·exact h.ob x I y l
  ·exact h.oa x I y l
structure HP(f:Keyed->Int)(a b fm:Array Keyed)(na nb:Nat):Prop where
 mi:MH f a.toList b.toList (a.toList.take na) (b.toList.take nb) fm.toList.reverse
 sz:fm.size+na+nb=a.size+b.size
 la:na<=a.size
 lb:nb<=b.size
theorem aj9(a:Array Keyed)(h:i<a.size):a.toList.take (i+1)=a.toList.take i++[a[i]]:=by rw[Bf];simp[h]
theorem gx{a:Array Keyed}{x:Keyed}(h:x∈a.toList.take i):∃j,∃I:j<a.size,j<i/\a[j]=x:=by
 obtain⟨j,I,e⟩:=Ba h;rw[AR] at I;have h1:j<a.size:=by have:a.toList.length=a.size:=AQ;omega
 refine⟨j,h1,by omega,?_⟩;rw[<-e];simp
theorem agd(l:List Keyed){k:Nat}(h:i<=k):l.take i++(l.drop i).take (k-i)=l.take k:=by have:=List.take_add (l:=l) (i:=i) (j:=k-i);rw[show i+(k-i)=k by omega] at this;exact this.symm
section
variable {f:Keyed->Int}{a b fm:Array Keyed}{nb:Nat}
theorem HP.segA(M:HP f a b fm na nb){k:Nat}(J:k<=na)(h:∀i (hi:i<a.size),k<=i->i<na->∀j (I:j<b.size),j<nb->f b[j]<=f a[i]):HP f a b (fm++(a.extract k na).reverse) k nb:=by
 have l:=M.la;refine⟨?_,?_,by exact alb,M.lb⟩
 ·rw[A9,Df,C0,List.reverse_reverse,hX];refine MH.a (by rw[agd _ J];exact M.mi) λx U y g=>?_;obtain⟨j,I,h2,rfl⟩:=gx U;obtain⟨i,hi,h1,rfl⟩:=qP g;exact h (k+i) hi (by exact A7 _ _) (by lia) j I h2
 ·have:=M.sz;rw[BR,Array.size_reverse,Dl];lia
theorem HP.segB(M:HP f a b fm na nb){k:Nat}(J:k<=nb)(h:∀i (hi:i<b.size),k<=i->i<nb->∀j (I:j<a.size),j<na->f a[j]<=f b[i]):HP f a b (fm++(b.extract k nb).reverse) na k:=by
 have l:=M.lb;refine⟨?_,?_,M.la,by lia⟩
 ·rw[A9,Df,C0,List.reverse_reverse,hX];refine MH.b (by rw[agd _ J];exact M.mi) λx U y g=>?_;obtain⟨j,I,h2,rfl⟩:=gx U;obtain⟨i,hi,h1,rfl⟩:=qP g;exact h (k+i) hi (by lia) (by lia) j I h2
 ·have:=M.sz;rw[BR,Array.size_reverse,Dl];lia
theorem HP.oneA(M:HP f a b fm (na+1) nb)(hi:na<a.size)(h:∀j (I:j<b.size),j<nb->f b[j]<=f a[na]):HP f a b (fm.push a[na]) na nb:=by refine⟨?_,by have:=M.sz;rw[Bp];lia,by exact jC,M.lb⟩;rw[CV,Df];refine MH.a (seg:=[a[na]]) (by rw[<-aj9 a hi];exact M.mi) λx J y U=>?_;obtain⟨j,I,h2,rfl⟩:=gx J;rw[Al.mp U];exact h j I h2
theorem HP.oneB(M:HP f a b fm na<|nb+1)(hi:nb<b.size)(h:∀j (I:j<a.size),j<na->f a[j]<=f b[nb]):HP f a b (fm.push b[nb]) na nb:=by refine⟨?_,by have:=M.sz;rw[Bp];lia,M.la,by lia⟩;rw[CV,Df];refine MH.b (seg:=[b[nb]]) (by rw[<-aj9 b hi];exact M.mi) λx J y U=>?_;obtain⟨j,I,h2,rfl⟩:=gx J;rw[Al.mp U];exact h j I h2
theorem HP.done(M:HP f a b fm na nb)(h:na=0):kq f a.toList b.toList (a.extract 0 na++b.extract 0 nb++fm.reverse).toList:=by subst h;have:=M.mi;rw[List.take_zero] at this;have:=this.ea;rw[A9,A9,hX,hX,C0];simpa using this
theorem HP.last(M:HP f a b fm na nb)(h:nb=1)(U:0<b.size)(h0:∀x∈a.toList,f b[0]<f x):kq f a.toList b.toList (b.extract 0 nb++a.extract 0 na++fm.reverse).toList:=by
 have:=M.mi.eb λx I y J=>by
  obtain⟨j,g,h2,rfl⟩:=gx I;have e:j=0:=by lia
  subst e;exact BP<|h0 y<|BM J
 rw[A9,A9,hX,hX,C0];simpa using this
end
theorem HP.preA{f:Keyed->Int}{a b fm:Array Keyed}{nb:Nat}(M:HP f a b fm na nb)(h0:0<na)(h:∀j (I:j<b.size),j<nb->f b[j]<=f (a[na-1]'(by have:=M.la;omega))):HP f a b (fm.push (a[na-1]'(by have:=M.la;omega))) (na-1) nb:=by obtain⟨n,rfl⟩:∃n,na=n+1:=⟨na-1,by lia⟩;have J:=M.la;exact HP.oneA M (by assumption) h
theorem HP.preB{f:Keyed->Int}{a b fm:Array Keyed}{nb:Nat}(M:HP f a b fm na nb)(h0:0<nb)(h:∀j (I:j<a.size),j<na->f a[j]<=f (b[nb-1]'(by have:=M.lb;omega))):HP f a b (fm.push (b[nb-1]'(by have:=M.lb;lia))) na (nb-1):=by obtain⟨n,rfl⟩:∃n,nb=n+1:=⟨nb-1,by lia⟩;have J:=M.lb;exact HP.oneB M (by lia) h
section
variable {w:World}{κ:SortKind}{Ok:Keyed->Prop}{f:Keyed->Int}
theorem zN(O:Ord prog w A s κ Ok f){a b:Array Keyed}{st:SortSt}{Q:Array Keyed->SortSt->Prop}(hk:kindOf st=κ)(cv:∀x∈a.toList,Ok x)(cw:∀x∈b.toList,Ok x)
 (sa:a.toList.Pairwise λx y=>f x<=f y) (sb:b.toList.Pairwise λx y=>f x<=f y) (ha:0<a.size) (hb:0<b.size) (h0:∀x∈a.toList,f b[0]<f x) (hl:∀x∈b.toList,f x<f a[a.size-1])
 (q:∀r g,kq f a.toList b.toList r.toList->Q r (gr st g)):wpS (model prog w) A E s (ab1 a b) Q st:=by
 have bp:∀i (U:i<a.size),Ok a[i]:=λi U=>cv _ (by simp);have bq:∀i (U:i<b.size),Ok b[i]:=λi U=>cw _ (by simp);have ax:∀i (U:i<a.size),a[i]?=some a[i]:=λi U=>by simp[U]
 have ba:∀i (U:i<b.size),b[i]?=some b[i]:=λi U=>by simp[U]
 obtain⟨tA,cy⟩:∃t:Nat->Keyed,t=λi=>(a[i]?).getD b[0]:=⟨_,rfl⟩;have aL:∀i (U:i<a.size),tA i=a[i]:=λi U=>by rw[cy];simp[U]
 have cz:∀i (U:i<a.size),a[0+i]?=some (tA i):=λi U=>by rw[aL i U,Ew];exact ax i U
 have cP:∀i (U:i<a.size),Ok (tA i):=λi U=>by rw[aL i U];exact bp i U
 have d0:∀{i j},i<=j->j<a.size->f (tA i)<=f (tA j):=λ{i j} C hj=>by rw[aL i (by exact i3),aL j hj];exact srt sa C hj
 obtain⟨tB,de⟩:∃t:Nat->Keyed,t=λi=>(b[i]?).getD b[0]:=⟨_,rfl⟩;have al:∀i (U:i<b.size),tB i=b[i]:=λi U=>by rw[de];simp[U]
 have di:∀i (U:i<b.size),b[0+i]?=some (tB i):=λi U=>by rw[al i U,Ew];exact ba i U
 have dj:∀i (U:i<b.size),Ok (tB i):=λi U=>by rw[al i U];exact bq i U
 have dp:∀{i j},i<=j->j<b.size->f (tB i)<=f (tB j):=λ{i j} C hj=>by rw[al i (by exact i3),al j hj];exact srt sb C hj
 refine Ab<|wpS_lift<|BA ⟨rfl,?_⟩;refine Ab<|xq (x:=a[a.size-1]) (ax _ (by exact rS)) ?_;dsimp only;obtain⟨n0,ef⟩:∃n,a.size=n+1:=⟨a.size-1,by lia⟩;have M0:HP f a b #[a[a.size-1]] (a.size-1) b.size:=by
  have M:HP f a b #[] (a.size-1+1) b.size:=by
   refine⟨⟨?_,by simp,?_,?_,by simp,by simp⟩,by simp;lia,by exact rS,Am _⟩
   ·rw[AV (by simp;lia),AV (by simp)];simp
   ·rw[AV (by simp;lia)];exact sa
   ·rw[AV (by simp)];exact sb
  have:=M.oneA (by lia) λj hj _=>BP<|hl b[j] (by simp);simpa using this
 by_cases c1:(a.size-1==0)=true
 ·refine xx c1 ?_;exact Ad<|q _ (gallopOf st)<|M0.done (by simpa using c1)
 refine xa c1 ?_;by_cases c2:(b.size==1)=true
 ·refine xx c2 ?_;exact Ad<|q _ (gallopOf st)<|M0.last (by simpa using c2) hb h0
 refine xa c2 ?_;have c1:¬a.size-1=0:=by simpa using c1
 have c2:¬b.size=1:=by simpa using c2
 refine Ab<|wpS_get ?_;refine Ab (AU (AN (I:=λx c p=>(∃g,p=gr st g)/\∃l nb au mg,c=(none,l,nb,au,mg)/\HP f a b au l nb/\0<l/\1<nb/\x+1<=au.size)
  (Q:=λc p=>(∃g,p=gr st g)/\∃r,c.1=some r/\kq f a.toList b.toList r.toList) ?_ ?_ ⟨⟨gallopOf st,rfl⟩,_,_,_,_,rfl,M0,by exact af0,by lia,by simp⟩) ?_)
 ·rintro x c p _ hx ⟨⟨g,rfl⟩,l,nb,au,mg,rfl,M,a1,a2,hs⟩;dsimp only;refine Ab (AU (AN (I:=λy c p=>p=gr st g/\∃l nb J ac bc,c=(none,l,nb,J,ac,bc)/\HP f a b J l nb/\0<l/\1<nb/\au.size+y<=J.size)
   (Q:=λc p=>p=gr st g/\((∃r,c.1=some r/\kq f a.toList b.toList r.toList)\/∃l nb J ac bc,c=(none,l,nb,J,ac,bc)/\HP f a b J l nb/\0<l/\1<nb/\au.size+1<=J.size)) ?_ ?_ ⟨rfl,_,_,_,_,_,rfl,M,a1,a2,Am _⟩) ?_)
  ·rintro y c p _ hy ⟨rfl,l,nb,J,ac,bc,rfl,M,a1,a2,cb⟩;have dr:=M.la;have dv:=M.lb;have a3:nb-1<b.size:=by omega
   have bb:l-1<a.size:=by lia
   dsimp only;refine Ab<|xq (ba (nb-1) a3) ?_;refine Ab<|xq (ax (l-1) bb) ?_;refine Ab<|w_lt O hk (bq (nb-1) a3) (bp (l-1) bb) ?_;dsimp only;by_cases c:f b[nb-1]<f a[l-1]
   ·refine xx (AI c) ?_;refine Ab<|xq (ax (l-1) bb) ?_;have M':=M.preA a1 λj hj C=>BP<|Int.lt_of_le_of_lt (srt sb (i:=j) (j:=nb-1) (C1 C) a3) c;have s2:(J.push a[l-1]).size=J.size+1:=Bp _;by_cases e1:(l-1==0)=true
    ·refine xx e1 ?_;exact Ad ⟨rfl,.inl ⟨_,rfl,M'.done (by simpa using e1)⟩⟩
    ·refine xa e1 ?_;have e1:¬l-1=0:=by simpa using e1
     refine fP (λ_=>?_) λ_=>?_
     ·exact Ad ⟨rfl,.inr ⟨_,_,_,_,_,rfl,M',by exact af0,a2,by lia⟩⟩
     ·exact Ad ⟨rfl,_,_,_,_,_,rfl,M',by lia,a2,by lia⟩
   ·refine xa (by rw[Ay c];decide) ?_;refine Ab<|xq (ba (nb-1) a3) ?_;have M':=M.preB (by exact jC) λj hj C=>BV (srt sa (i:=j) (j:=l-1) (C1 C) bb) (by omega);have s2:(J.push b[nb-1]).size=J.size+1:=Bp _;by_cases e1:(nb-1==1)=true
    ·refine xx e1 ?_;exact Ad ⟨rfl,.inl ⟨_,rfl,M'.last (by simpa using e1) hb h0⟩⟩
    ·refine xa e1 ?_;have e1:¬nb-1=1:=by simpa using e1
     refine fP (λ_=>?_) λ_=>?_
     ·exact Ad ⟨rfl,.inr ⟨_,_,_,_,_,rfl,M',a1,by lia,by lia⟩⟩
     ·exact Ad ⟨rfl,_,_,_,_,_,rfl,M',a1,by lia,by lia⟩
  ·rintro c p ⟨rfl,l,nb,J,ac,bc,rfl,M,a1,a2,cb⟩;have:=M.sz;omega
  ·rintro c p ⟨rfl,h⟩;rcases h with⟨r,er,hr⟩|⟨l,nb,bi,ac,bc,rfl,M,a1,a2,cb⟩
   ·obtain⟨c1,c2⟩:=c;cases er;exact Ad ⟨⟨g,rfl⟩,r,rfl,hr⟩
   ·dsimp only;refine Ab<|wpS_lift<|BA ⟨rfl,?_⟩;refine Ab (AU (AN (I:=λy c p=>(∃g,p=gr st g)/\∃l nb J mg ac bc,c=(none,l,nb,J,mg,ac,bc)/\HP f a b J l nb/\0<l/\1<nb/\bi.size+y<=J.size)
     (Q:=λc p=>(∃g,p=gr st g)/\((∃r,c.1=some r/\kq f a.toList b.toList r.toList)\/∃l nb J mg ac bc,c=(none,l,nb,J,mg,ac,bc)/\HP f a b J l nb/\0<l/\1<nb/\bi.size<=J.size)) ?_ ?_ ⟨⟨g,rfl⟩,_,_,_,_,_,_,rfl,M,a1,a2,Am _⟩) ?_)
    ·rintro y c p _ hy ⟨⟨g',rfl⟩,l,nb,J,bS,ac,bc,rfl,M,a1,a2,bj⟩;have dr:=M.la;have dv:=M.lb;have a3:nb-1<b.size:=by omega
     have bb:l-1<a.size:=by lia
     dsimp only;generalize bS-1=dV;revert dV;refine u4 (y:=bS) λe0=>?_
     all_goals
      refine Ab<|wpS_modify ?_;refine Ab<|xq (ba (nb-1) a3) ?_;refine Ab<|cf O hk (bq (nb-1) a3) (by exact rS) tA (λi U=>⟨cz _ (by exact aab),cP _ (by lia)⟩) (λi=>!decide (f b[nb-1]<f (tA i))) (λi U=>by rw[Az (by simp)]) (λi j C hj h=>?_) λk e5 bd bf=>?_
      ·have:=d0 (i:=i) (j:=j) (by lia) (by exact aab);simp at h ⊢;lia
      have bd:∀i,i<k->f (tA i)<=f b[nb-1]:=λi U=>by have:=bd i U;simpa using this
      have bf:∀i,k<=i->i<l->f b[nb-1]<f (tA i):=λi U hj=>by have:=bf i U hj;simpa using this
      have M1:HP f a b (J++(a.extract k l).reverse) k nb:=M.segA e5 λi U h1 h2 j hj C=>by have h3:=bf i h1 h2;rw[aL _ U] at h3;exact BV (srt sb (i:=j) (j:=nb-1) (C1 C) a3)<|BP h3
      have pB:∀j (hj:j<a.size),j<k->f a[j]<=f b[nb-1]:=λj hj C=>by have h1:=bd j C;rw[aL _ hj] at h1;exact h1
      dsimp only;generalize eg:l-k=cn;generalize e6:J=o0;generalize e7:l=j0;revert j0;revert o0;refine kZ (P:=λ(o:Array Keyed) (j:Nat)=>HP f a b o j nb/\J.size<=o.size/\0<j/\∀j' (hj:j'<a.size),j'<j->f a[j']<=f b[nb-1]) (x:=J) (i:=l) (λa4 T hP=>?tail) (λck=>?hN) λck key=>?hY
      case hN=>
       obtain rfl:k=l:=by lia
       exact⟨M,Am _,by lia,pB⟩
      case hY=>
       by_cases e1:(k==0)=true
       ·refine xx e1 ?_;exact Ad ⟨⟨_,rfl⟩,.inl ⟨_,rfl,M1.done (by simpa using e1)⟩⟩
       ·refine xa e1 ?_;have e1:¬k=0:=by simpa using e1
        exact key _ _ ⟨M1,by rw[BR];exact A7 _ _,by exact af0,pB⟩
      clear pB M1 bd bf;obtain⟨M1,h3,l3,pB⟩:=hP
      all_goals
       have ed:=M1.la;have bg:T-1<a.size:=by lia
       refine Ab<|xq (ba (nb-1) a3) ?_;have M2:=M1.preB (by exact jC) pB;have s2:(a4.push b[nb-1]).size=a4.size+1:=Bp _;by_cases e2:(nb-1==1)=true
       case' pos=>
        refine xx e2 ?_;exact Ad ⟨⟨_,rfl⟩,.inl ⟨_,rfl,M2.last (by simpa using e2) hb h0⟩⟩
       case' neg=>
        refine xa e2 ?_;have e2:¬nb-1=1:=by simpa using e2
        refine Ab<|xq (ax (T-1) bg) ?_;refine Ab<|cf O hk (bp (T-1) bg) (by lia) tB (λi U=>⟨di _ (by exact tF),dj _ (by lia)⟩) (λi=>decide<|f (tB i)<f a[T-1]) (λi U=>by rw[AA rfl]) (λi j C hj h=>?_) λk2 cm av a5=>?_
        ·have:=dp (i:=i) (j:=j) (by lia) (by exact tF);simp at h ⊢;lia
        have av:∀i,i<k2->f (tB i)<f a[T-1]:=λi U=>by have:=av i U;simpa using this
        have a5:∀i,k2<=i->i<nb-1->f a[T-1]<=f (tB i):=λi U hj=>by have:=a5 i U hj;simpa using this
        have k1:0<k2:=by
         rcases Nat.eq_zero_or_pos k2 with h|h
         ·exfalso;have h5:=a5 0 (by exact tz) (by lia);rw[al _ hb] at h5;have h6:=h0 a[T-1] (by simp);lia
         ·exact h
        have M3:HP f a b (a4.push b[nb-1]++(b.extract k2<|nb-1).reverse) T k2:=M2.segB cm λi U h1 h2 j hj C=>by have h5:=a5 i h1 h2;rw[al _ U] at h5;exact BV (srt sa (i:=j) (j:=T-1) (C1 C) bg) h5
        have pA:∀j (hj:j<b.size),j<k2->f b[j]<=f a[T-1]:=λj hj C=>by have h5:=av j C;rw[al _ hj] at h5;exact BP h5
        dsimp only;generalize e8:nb-1-k2=ej;obtain⟨o3,ec⟩:∃o,o=a4.push b[nb-1]:=⟨_,rfl⟩;obtain⟨bh,cq⟩:∃i,i=nb-1:=⟨_,rfl⟩;have eb:b[nb-1]=b[bh]'(by lia):=by subst cq;rfl
        rw[<-ec] at s2 M2 M3 ⊢;rw[<-cq] at M2 M3 e8 cm ⊢;generalize e6:o3=o0;generalize e7:bh=j0;revert j0;revert o0;refine kZ (P:=λ(o:Array Keyed) (j:Nat)=>HP f a b o T j/\a4.size+1<=o.size/\1<j/\∀j' (hj:j'<b.size),j'<j->f b[j']<=f a[T-1]) (x:=o3) (i:=bh) (λbn ek hP=>?tail2) (λck=>?hN) λck key=>?hY
        case hN=>
         obtain rfl:k2=bh:=by lia
         exact⟨M2,by lia,by lia,pA⟩
        case hY=>
         by_cases e3:(k2==1)=true
         ·refine xx e3 ?_;exact Ad ⟨⟨_,rfl⟩,.inl ⟨_,rfl,M3.last (by simpa using e3) hb h0⟩⟩
         ·refine xa e3 (xa (show ¬(k2==0)=true by simp;exact an9) ?_);have e3:¬k2=1:=by simpa using e3
          exact key _ _ ⟨M3,by rw[BR];lia,by lia,pA⟩
        clear pA M3 av a5;obtain⟨M3,h4,l4,pA⟩:=hP
        all_goals
         refine Ab<|xq (ax (T-1) bg) ?_;have M4:=M3.preA l3 pA;have s4:(bn.push a[T-1]).size=bn.size+1:=Bp _;by_cases e4:(T-1==0)=true
         ·refine xx e4 ?_;exact Ad ⟨⟨_,rfl⟩,.inl ⟨_,rfl,M4.done (by simpa using e4)⟩⟩
         ·refine xa e4 ?_;have e4:¬T-1=0:=by simpa using e4
          refine fP (λ_=>?_) λ_=>?_
          ·exact Ad ⟨⟨_,rfl⟩,.inr ⟨_,_,_,_,_,_,rfl,M4,by exact af0,l4,by lia⟩⟩
          ·exact Ad ⟨⟨_,rfl⟩,_,_,_,_,_,_,rfl,M4,by lia,l4,by lia⟩
    ·rintro c p ⟨⟨g',rfl⟩,l,nb,J,bS,ac,bc,rfl,M,a1,a2,bj⟩;have:=M.sz;omega
    ·rintro c p ⟨⟨g',rfl⟩,h⟩;rcases h with⟨r,er,hr⟩|⟨l,nb,ee,e0,ac,bc,rfl,M,a1,a2,bj⟩
     ·obtain⟨c1,c2⟩:=c;cases er;exact Ad ⟨⟨g',rfl⟩,r,rfl,hr⟩
     ·dsimp only;refine Ab<|wpS_modify ?_;exact Ad ⟨⟨_,rfl⟩,_,_,_,_,rfl,M,a1,a2,by lia⟩
 ·rintro c p ⟨⟨g,rfl⟩,l,nb,au,mg,rfl,M,a1,a2,hs⟩;have:=M.sz;lia
 ·rintro c p ⟨⟨g,rfl⟩,r,er,hr⟩;obtain⟨c1,c2⟩:=c;cases er;exact Ad<|q r g hr
end
def cK(f:Keyed->Int):List (Nat×Nat×Nat)->List (List Keyed)->Nat->Prop
 |[],[],_=>True
 |(st,n,_)::ps,l::ls,s=>st=s/\n=l.length/\0<l.length/\(l.Pairwise λx y=>f x<=f y)/\cK f ps ls (s+l.length)
 |_,_,_=>False
theorem cK.split{f:Keyed->Int}:∀{ps:List<|Nat×Nat×Nat} {pre:List<|List Keyed} {A B:List Keyed} {post:List<|List Keyed} {s:Nat},cK f ps (pre++A::B::post) s->
 ∃I J g j,ps=I++(s+pre.flatten.length,A.length,g)::(s+pre.flatten.length+A.length,B.length,j)::J/\I.length=pre.length/\0<A.length/\0<B.length/\(A.Pairwise λx y=>f x<=f y)/\(B.Pairwise λx y=>f x<=f y)/\
  ∀C w,C.length=A.length+B.length->(C.Pairwise λx y=>f x<=f y)->cK f (I++(s+pre.flatten.length,A.length+B.length,w)::J) (pre++C::post) s
 |[],[],A,B,post,s,h=>by exact h.elim
 |[_],[],A,B,post,s,h=>by exact h.2.2.2.2.elim
 |(t,T,o)::(b1,b2,b3)::ps,[],A,B,post,s,h=>by
  obtain⟨h1,h2,h3,p,k1,k2,k3,k4,k5⟩:=h;refine⟨[],ps,o,b3,?_,rfl,h3,k3,p,k4,λC w U r=>⟨rfl,U.symm,by lia,r,?_⟩⟩
  ·simp[h1,h2,k1,k2]
  ·rw[U];have:=k5;rw[EG] at this;exact this
 |[],_::_,A,B,post,s,h=>by exact h.elim
 |(t,T,o)::ps,l::pre,A,B,post,s,h=>by
  obtain⟨h1,h2,h3,p,k⟩:=h;obtain⟨I,J,g,j,e,e1,e2,e3,e4,e5,e6⟩:=cK.split k;have en:s+(l::pre).flatten.length=s+l.length+pre.flatten.length:=by simp;simp +arith only
  refine⟨(t,T,o)::I,J,g,j,?_,by simp[e1],e2,e3,e4,e5,λC w U r=>⟨h1,h2,h3,p,?_⟩⟩
  ·rw[en,e];rfl
  ·rw[en];exact e6 C w U r
theorem ahk{σ:Type}{st I:σ}{Q:PUnit->σ->Prop}(h:Q ⟨⟩ I):wpS M A E s (set I:StateT σ Sem PUnit) Q st:=by unfold wpS;rw[StateT.run_set];exact Ag ⟨rfl,h⟩
theorem mY{α:Type}:∀(m:List α) (arr:Array α) (i k:Nat),i+k+m.length<=arr.size->((m.zipIdx k).foldl (λ(a:Array α) (I:α×Nat)=>a.setIfInBounds (i+I.2) I.1) arr).toList=arr.toList.take (i+k)++(m++arr.toList.drop (i+k+m.length))
 |[],arr,i,k,h=>by simp
 |x::m,arr,i,k,h=>by
  rw[Em,List.foldl_cons];simp only[AM] at h;rw[mY m _ i (k+1) (by simp;lia)];have e:(arr.setIfInBounds (i+k) x).toList=arr.toList.set (i+k) x:=by simp
  have l:arr.toList.length=arr.size:=AQ;rw[e,List.drop_set,AA (by exact A7 _ _),<-EG,Bf,BF (by lia),List.take_set_of_le (by simp +arith only),AM];simp;congr 1;simp +arith only
structure bD(κ:SortKind)(Ok:Keyed->Prop)(f:Keyed->Int)(st:SortSt)(ji:List<|List Keyed)(rest:List Keyed):Prop where
 kind:kindOf st=κ
 failed:failedOf st=none
 arr:(arrOf st).toList=ji.flatten++rest
 pend:cK f (pendingOf st).toList ji 0
 ok:∀x∈(arrOf st).toList,Ok x
section
variable {w:World}{κ:SortKind}{Ok:Keyed->Prop}{f:Keyed->Int}
theorem tE{l:List Keyed}(s:l.Pairwise λx y=>f x<=f y)(I:i<=j)(J:j<l.length):f (l[i]'(by exact i3))<=f l[j]:=by
 rcases DU I with h|h
 ·exact C8.mp s i j (by exact i3) J h
 ·subst h;exact Dq _
theorem adh{p:Array α}{I J:List α}{u v z:α}(h:p.toList=I++u::v::J):((p.setIfInBounds I.length z).eraseIdxIfInBounds<|I.length+1).toList=I++z::J:=by
 have U:p.size=I.length+(J.length+2):=by rw[<-AQ,h];simp
 have h2:I.length+1<(p.setIfInBounds I.length z).size:=by rw[Array.size_setIfInBounds];lia
 rw[Array.eraseIdxIfInBounds,dif_pos h2,Array.toList_eraseIdx,Array.toList_setIfInBounds,h,List.set_append_right _ _<|Am _,C3,List.set_cons_zero,Dr (by exact A7 _ _),BY];rfl
theorem yy(O:Ord prog w A s κ Ok f){st:SortSt}{pre post:List<|List Keyed}{X Y rest:List Keyed}{Q:Bool->SortSt->Prop}(G:bD κ Ok f st (pre++X::Y::post) rest)
 (q:∀l C,bD κ Ok f l (pre++C::post) rest->C.Perm (X++Y)->Q true l):wpS (model prog w) A E s (mergeAt' pre.length) Q st:=by
 obtain⟨P1,P2,w1,w2,ep,e1,lX,lY,sX,sY,done⟩:=G.pend.split;simp only[Ew] at ep done;have a1:(pendingOf st)[pre.length]?=some (pre.flatten.length,X.length,w1):=by rw[<-Bc,ep,<-e1,Ap<|Am _,C3];rfl
 have a2:(pendingOf st)[pre.length+1]?=some (pre.flatten.length+X.length,Y.length,w2):=by rw[<-Bc,ep,<-e1,Ap (by exact A7 _ _),BY];rfl
 refine Ab<|wpS_get ?_;rw[show(sortPriv% PySem.Builtin.SortState.pending) st=pendingOf st from rfl,a1,a2];dsimp only;refine Ab<|ahk ?_;have ea:(arrOf st).toList=pre.flatten++(X++(Y++(post.flatten++rest))):=by rw[G.arr];simp
 have av:∀i (I:i<X.length),(arrOf st)[pre.flatten.length+i]?=some X[i]:=λi I=>by rw[<-Bc,ea,Ap (by exact A7 _ _),BY,AB I];simp
 have ax:∀i (I:i<Y.length),(arrOf st)[pre.flatten.length+X.length+i]?=some Y[i]:=λi I=>by rw[<-Bc,ea,Ap (by simp +arith only),Ap (by omega),AB (by omega)];rw[show pre.flatten.length+X.length+i-pre.flatten.length-X.length=i by omega];simp
 have a4:∀x∈X,Ok x:=λx J=>G.ok x (by rw[ea];simp[J]);have a5:∀x∈Y,Ok x:=λx J=>G.ok x (by rw[ea];simp[J]);have pz:=adh (z:=(pre.flatten.length,X.length+Y.length,w1)) ep;rw[e1] at pz;have good:∀(l:SortSt) (C:List Keyed),kindOf l=kindOf st->failedOf l=failedOf st->pendingOf l=((pendingOf st).setIfInBounds pre.length (pre.flatten.length,X.length+Y.length,w1)).eraseIdxIfInBounds (pre.length+1)->
  (arrOf l).toList=pre.flatten++(C++(post.flatten++rest))->C.Perm (X++Y)->(C.Pairwise λx y=>f x<=f y)->bD κ Ok f l (pre++C::post) rest:=λl C g1 g2 g3 g4 g5 g6=>by
  refine⟨g1.trans G.kind,g2.trans G.failed,by rw[g4];simp,?_,λx J=>?_⟩
  ·rw[g3,pz];exact done C w1 (by rw[g5.length_eq,Ac]) g6
  ·rw[g4] at J;rcases Aj.mp J with h|h
   ·exact G.ok x (by rw[ea];exact Ao _ h)
   ·rcases Aj.mp h with h|h
    ·rcases Aj.mp (g5.mem_iff.mp h) with h|h
     ·exact a4 x h
     ·exact a5 x h
    ·exact G.ok x (by rw[ea];exact Ai _<|Ai _<|Ai _ h)
 obtain⟨tX,aL⟩:∃t:Nat->Keyed,t=λi=>(X[i]?).getD X[0]:=⟨_,rfl⟩;have p:∀i (I:i<X.length),tX i=X[i]:=λi I=>by rw[aL];simp[I]
 obtain⟨tY,ba⟩:∃t:Nat->Keyed,t=λi=>(Y[i]?).getD X[0]:=⟨_,rfl⟩;have T:∀i (I:i<Y.length),tY i=Y[i]:=λi I=>by rw[ba];simp[I]
 refine Ab (xq (x:=Y[0]) (by have:=ax 0 lY;simpa using this) ?_);refine Ab (cf O G.kind (a5 _<|CB _) lX tX (λi I=>⟨by rw[p i I];exact av i I,by rw[p i I];exact a4 _<|CB _⟩) (λi=>!decide (f Y[0]<f (tX i))) (λi I=>by rw[Az (by simp)]) (λi j au U h=>?_) λk bc ac al=>?_)
 ·have:=tE sX au U;rw[p j U] at h;rw[p i (by exact i3)];simp at h ⊢;omega
 have ac:∀i (I:i<k),f (X[i]'(by exact aab))<=f Y[0]:=λi I=>by have:=ac i I;rw[p i (by lia)] at this;simpa using this
 have al:∀i (U:i<X.length),k<=i->f Y[0]<f X[i]:=λi U I=>by have:=al i I U;rw[p i U] at this;simpa using this
 dsimp only;by_cases c:(X.length-k==0)=true
 ·rw[AA c];have c:X.length<=k:=by
   have:X.length-k=0:=by simpa using c
   omega
  refine Ad (q _ (X++Y) (good _ _ rfl rfl rfl (by rw[Aw];exact ea) (BI _)<|AS.mpr ⟨sX,sY,λx J y hy=>?_⟩)<|BI _);obtain⟨i,I,rfl⟩:=Ba J;obtain⟨j,U,rfl⟩:=Ba hy;exact BV (ac i (by exact aab))<|tE sY (Be _) U
 rw[Az c];have c:k<X.length:=by
  have:¬X.length-k=0:=by simpa using c
  lia
 refine Ab (xq (x:=X[X.length-1]) (by have:=av (X.length-1) (by lia);rw[show pre.flatten.length+k+(X.length-k)-1=pre.flatten.length+(X.length-1) by lia];exact this) ?_);refine Ab (cf O G.kind (a4 _<|CB _) (by exact rS) tY (λi I=>⟨by rw[T i I];exact ax i I,by rw[T i I];exact a5 _<|CB _⟩) (λi=>decide<|f (tY i)<f X[X.length-1]) (λi I=>by rw[AA rfl]) (λi j au U h=>?_) λm bd a3 o=>?_)
 ·have:=tE sY au U;rw[T j U] at h;rw[T i (by exact i3)];simp at h ⊢;omega
 have a3:∀i (I:i<m),f (Y[i]'(by exact aab))<f X[X.length-1]:=λi I=>by have:=a3 i I;rw[T i (by lia)] at this;simpa using this
 have o:∀i (U:i<Y.length),m<=i->f X[X.length-1]<=f Y[i]:=λi U I=>by have:=o i I U;rw[T i U] at this;simpa using this
 have m0:0<m:=by
  rcases Nat.eq_zero_or_pos m with h|h
  ·exfalso;have h5:=o 0 lY (by exact tz);have h6:=al (X.length-1) (by exact rS) (by omega);omega
  ·exact h
 dsimp only;rw[Az (show ¬(m==0)=true by simp;exact an9)];have bb:(arrOf st).size=pre.flatten.length+(X.length+(Y.length+(post.flatten++rest).length)):=by rw[<-AQ,ea];simp
 have ex:((arrOf st).extract (pre.flatten.length+k)<|pre.flatten.length+X.length).toList=X.drop k:=by rw[hX,ea,<-Dw,Dx,DE (by lia),CF (by simp;lia),AV (by simp;lia)]
 have ey:((arrOf st).extract (pre.flatten.length+X.length)<|pre.flatten.length+X.length+m).toList=Y.take m:=by rw[hX,ea,<-Dw,Dx,Dx,show pre.flatten.length+X.length+m-(pre.flatten.length+X.length)=m by lia,CF (by lia)]
 have zx:((arrOf st).extract (pre.flatten.length+k)<|pre.flatten.length+X.length).size=X.length-k:=by rw[<-AQ,ex];simp
 have zy:((arrOf st).extract (pre.flatten.length+X.length)<|pre.flatten.length+X.length+m).size=m:=by rw[<-AQ,ey];simp;lia
 have q1:∀x∈((arrOf st).extract (pre.flatten.length+k)<|pre.flatten.length+X.length).toList,Ok x:=λx J=>a4 x (CZ (by rw[ex] at J;exact J));have q2:∀x∈((arrOf st).extract (pre.flatten.length+X.length)<|pre.flatten.length+X.length+m).toList,Ok x:=λx J=>a5 x (BM (by rw[ey] at J;exact J));have q3:((arrOf st).extract (pre.flatten.length+k)<|pre.flatten.length+X.length).toList.Pairwise λx y=>f x<=f y:=by rw[ex];exact sX.sublist<|List.drop_sublist _ _
 have q4:((arrOf st).extract (pre.flatten.length+X.length)<|pre.flatten.length+X.length+m).toList.Pairwise λx y=>f x<=f y:=by rw[ey];exact sY.sublist<|Ed _ _
 have q5:0<((arrOf st).extract (pre.flatten.length+k)<|pre.flatten.length+X.length).size:=by lia
 have q6:0<((arrOf st).extract (pre.flatten.length+X.length)<|pre.flatten.length+X.length+m).size:=by omega
 have y0:((arrOf st).extract (pre.flatten.length+X.length)<|pre.flatten.length+X.length+m)[0]=Y[0]:=by
  have:((arrOf st).extract (pre.flatten.length+X.length)<|pre.flatten.length+X.length+m).toList[0]'(by rw[ey,AR];lia)=Y[0]:=by simp only[ey];simp
  rw[<-this];simp
 have xl:((arrOf st).extract (pre.flatten.length+k)<|pre.flatten.length+X.length)[((arrOf st).extract (pre.flatten.length+k)<|pre.flatten.length+X.length).size-1]=X[X.length-1]:=by
  have:((arrOf st).extract (pre.flatten.length+k)<|pre.flatten.length+X.length).toList[((arrOf st).extract (pre.flatten.length+k)<|pre.flatten.length+X.length).size-1]'(by rw[ex,zx,Bm];lia)=X[X.length-1]:=by simp only[ex,zx];rw[B8];congr 1;lia
  rw[<-this];simp
 have q7:∀x∈((arrOf st).extract (pre.flatten.length+k)<|pre.flatten.length+X.length).toList,f ((arrOf st).extract (pre.flatten.length+X.length)<|pre.flatten.length+X.length+m)[0]<f x:=λx J=>by rw[y0];rw[ex] at J;obtain⟨i,I,rfl⟩:=Ba J;rw[B8];rw[Bm] at I;exact al _ (by lia) (by exact A7 _ _)
 have q8:∀x∈((arrOf st).extract (pre.flatten.length+X.length)<|pre.flatten.length+X.length+m).toList,f x<f ((arrOf st).extract (pre.flatten.length+k)<|pre.flatten.length+X.length)[((arrOf st).extract (pre.flatten.length+k)<|pre.flatten.length+X.length).size-1]:=λx J=>by rw[xl];rw[ey] at J;obtain⟨i,I,rfl⟩:=Ba J;rw[Bw];rw[AR] at I;exact a3 _ (by lia)
 have x9:∀(r:Array Keyed) (g:Nat),kq f (X.drop k) (Y.take m) r.toList->Q (failedOf st).isNone (SortSt.mk' (kindOf st) (r.toList.zipIdx.foldl (λa x=>a.setIfInBounds (pre.flatten.length+k+x.2) x.1)<|arrOf st) (((pendingOf st).setIfInBounds pre.length (pre.flatten.length,X.length+Y.length,w1)).eraseIdxIfInBounds<|pre.length+1) g<|failedOf st):=by
  rintro r g ⟨hm,hs⟩;have lr:r.toList.length=X.length-k+m:=by rw[hm.length_eq];simp;lia
  have ef:(failedOf st).isNone=true:=by rw[G.failed];rfl
  have pm:(X.take k++(r.toList++Y.drop m)).Perm (X++Y):=by
   have h1:(r.toList++Y.drop m).Perm (X.drop k++Y):=by refine((Bi<|Y.drop m).mpr hm).trans ?_;rw[Aw,A8]
   refine((Bu<|X.take k).mpr h1).trans ?_;rw[<-Aw,A8]
  have so:(X.take k++(r.toList++Y.drop m)).Pairwise λx y=>f x<=f y:=by
   refine AS.mpr ⟨sX.sublist<|Ed _ _,AS.mpr ⟨hs,sY.sublist<|List.drop_sublist _ _,λx J y hy=>?_⟩,λx J y hy=>?_⟩
   ·obtain⟨j,U,rfl⟩:=Ba hy;rw[B8];rw[Bm] at U;rcases Aj.mp (hm.mem_iff.mp J) with h|h
    ·obtain⟨i,I,rfl⟩:=Ba h;rw[B8];rw[Bm] at I;exact BV (tE sX (by lia) (by exact rS))<|o _ (by lia) (by exact A7 _ _)
    ·obtain⟨i,I,rfl⟩:=Ba h;rw[Bw];rw[AR] at I;exact tE sY (by lia) (by lia)
   ·obtain⟨i,I,rfl⟩:=Ba J;rw[Bw];rw[AR] at I;have low:∀z∈Y,f (X[i]'(by lia))<=f z:=λz hz=>by obtain⟨j,U,rfl⟩:=Ba hz;exact BV (ac i (by lia)) (tE sY (Be _) U)
    rcases Aj.mp hy with h|h
    ·rcases Aj.mp (hm.mem_iff.mp h) with h|h
     ·obtain⟨j,U,rfl⟩:=Ba h;rw[B8];rw[Bm] at U;exact tE sX (by lia) (by lia)
     ·exact low y<|BM h
    ·exact low y<|CZ h
  have pt:=mY r.toList (arrOf st) (pre.flatten.length+k) 0 (by rw[bb,lr,Ac];lia);have et:(arrOf st).toList.take (pre.flatten.length+k+0)++(r.toList++(arrOf st).toList.drop (pre.flatten.length+k+0+r.toList.length))=pre.flatten++((X.take k++(r.toList++Y.drop m))++(post.flatten++rest)):=by
   have h1:(arrOf st).toList.take (pre.flatten.length+k+0)=pre.flatten++X.take k:=by rw[ea,Nat.add_zero,List.take_length_add_append,CF (by lia)]
   have h2:(arrOf st).toList.drop (pre.flatten.length+k+0+r.toList.length)=Y.drop m++(post.flatten++rest):=by rw[ea,lr,show pre.flatten.length+k+0+(X.length-k+m)=pre.flatten.length+(X.length+m) by lia,<-Dw,Dx,<-Dw,Dx,DE (by lia)]
   rw[h1,h2];simp
  rw[ef];exact q _ _ (good _ _ rfl rfl rfl (pt.trans et) pm so) pm
 split
 ·exact Ab (yO O G.kind q1 q2 q3 q4 q5 q6 q7 q8 λr g h=>Ab (wpS_modify (Ab (wpS_get (Ad (x9 r g (by rw[ex,ey] at h;exact h)))))))
 ·exact Ab (zN O G.kind q1 q2 q3 q4 q5 q6 q7 q8 λr g h=>Ab (wpS_modify (Ab (wpS_get (Ad (x9 r g (by rw[ex,ey] at h;exact h)))))))
end
theorem jF{arr:Array α}{P R:List α}(h:arr.toList=P++R)(I:n<=R.length):(mirror arr P.length (P.length+n)<|(P.length+n-P.length) / 2).toList=P++((R.take n).reverse++R.drop n):=by
 have J:arr.size=P.length+R.length:=by rw[<-AQ,h];simp
 refine Ef λk=>?_;rw[Bc,getElem?_mirror_all (by lia)];by_cases c:P.length<=k/\k<P.length+n
 ·rw[AA c,<-Bc,h,Ap (by omega),Ap (by lia),AB (by simp;omega),List.getElem?_reverse (by simp;omega),DV,AR,AA (by omega)];congr 1;lia
 ·rw[Az c,<-Bc,h];by_cases c2:k<P.length
  ·rw[AB c2,AB c2]
  ·rw[Ap (by exact zG),Ap (by omega),Ap (by simp;lia),DW];congr 1;simp;lia
theorem tf{arr:Array α}{P R:List α}{k l:Nat}(h:arr.toList=P++R)(I:k<R.length)(J:l<=k):(bubble arr (P.length+k)<|P.length+k-(P.length+l)).toList=P++(R.take l++R[k]::((R.drop l).take (k-l)++R.drop (k+1))):=by
 have U:arr.size=P.length+R.length:=by rw[<-AQ,h];simp
 refine Ef λi=>?_;rw[Bc,getElem?_bubble (by lia) _ (by exact EI _ _),show P.length+k-(P.length+k-(P.length+l))=P.length+l by omega];by_cases c1:i=P.length+l
 ·rw[AA c1,<-Bc,h,c1,Ap (by exact A7 _ _),Ap (by exact A7 _ _),Ap (by simp;lia)];rw[show P.length+l-P.length-(R.take l).length=0 by simp;lia,show P.length+k-P.length=k by lia,List.getElem?_cons_zero];simp[I]
 ·rw[Az c1];by_cases c2:P.length+l<i/\i<=P.length+k
  ·rw[AA c2,<-Bc,h,Ap (by omega),Ap (by lia),Ap (by simp;lia)];obtain⟨d,hd⟩:∃d,i=P.length+l+d+1:=⟨i-P.length-l-1,by omega⟩;rw[show i-P.length-(R.take l).length=d+1 by simp;lia,Dn,AB (by simp;omega),DV,AA (by omega),DW];congr 1;omega
  ·rw[Az c2,<-Bc,h];by_cases c3:i<P.length
   ·rw[AB c3,AB c3]
   ·rw[Ap (by exact zG),Ap (by omega)];by_cases c4:i<P.length+l
    ·rw[AB (by simp;lia),DV,AA (by omega)]
    ·obtain⟨d,hd⟩:∃d,i=P.length+k+d+1:=⟨i-P.length-k-1,by omega⟩;rw[Ap (by simp;lia),show i-P.length-(R.take l).length=(k-l)+d+1 by simp;lia,Dn,Ap (by simp;omega),DW];congr 1;simp;lia
section
variable {w:World}{κ:SortKind}{Ok:Keyed->Prop}{f:Keyed->Int}
structure Tl(κ:SortKind)(Ok:Keyed->Prop)(st:SortSt)(P R:List Keyed):Prop where
 kind:kindOf st=κ
 arr:(arrOf st).toList=P++R
 ok:∀x∈R,Ok x
theorem iZ(O:Ord prog w A s κ Ok f){st:SortSt}{P R:List Keyed}(T:Tl κ Ok st P R)(hi:i<R.length)(J:j<R.length){a b:Nat}(ea:a=P.length+i)(eb:b=P.length+j){Q:Option Bool->SortSt->Prop}(q:Q (some<|decide<|f R[i]<f R[j]) st):wpS (model prog w) A E s (ltAt' a b) Q st:=by
 have I:∀i (hi:i<R.length),(arrOf st)[P.length+i]?=some R[i]:=λi hi=>by rw[<-Bc,T.arr,Ap (by exact A7 _ _),BY];simp
 subst ea eb;rw[ltAt'_eq];refine Ab<|wpS_get ?_;refine Ab<|xq (I i hi)<|Ab<|xq (I j J) ?_;exact w_lt O T.kind (T.ok _<|CB _) (T.ok _<|CB _) q
def Up(f:Keyed->Int)(R:List Keyed)(n:Nat):Prop:=∀i j (_:i<=j) (_:j<R.length),j<n->f (R[i]'(by exact i3))<=f R[j]
theorem Up.snoc{R:List Keyed}(h:Up f R n)(h1:1<=n)(g:n<R.length)(hs:f (R[n-1]'(by exact pS))<=f R[n]):Up f R (n+1):=λi j I J U=>by
 rcases DN j n with c|c
 ·exact h i j I J c
 ·have e:j=n:=by lia
  subst e;rcases DN i j with c2|c2
  ·exact BV (h i (j-1) (by omega) (by exact pS) (by exact rS)) hs
  ·have e:i=j:=by lia
   subst e;exact Dq _
theorem Up.pair{R:List Keyed}(h:Up f R n)(g:n<=R.length):(R.take n).Pairwise λx y=>f x<=f y:=by rw[C8];intro i j I J U;rw[AR] at I J;rw[Bw,Bw];exact h i j (by exact jC) (by lia) (by lia)
end
section
variable {w:World}{κ:SortKind}{Ok:Keyed->Prop}{f:Keyed->Int}
theorem Tl.same{st:SortSt}{P R R':List Keyed}(T:Tl κ Ok st P R)(p:R'.Perm R){arr:Array Keyed}(h:arr.toList=P++R'):Tl κ Ok (setArr st arr) P R':=⟨T.kind,h,λx I=>T.ok x<|p.mem_iff.mp I⟩
theorem Up.one{R:List Keyed}:Up f R 1:=λi j I J h=>by
 have:i=j:=by lia
 subst this;exact Dq _
theorem im{c:Prop}{_:Decidable c}{K T:StateT SortSt Sem α}{P:SortSt->Prop}{Q:α->SortSt->Prop}{st:SortSt}(J:¬c->P st)(key:∀I,P I->wpS (model prog w) A E s K Q I)
 (U:c->(∀I,P I->wpS (model prog w) A E s K Q I)->wpS (model prog w) A E s T Q st):wpS (model prog w) A E s (if c then T else K) Q st:=by
 by_cases h:c
 ·rw[AA h];exact U h key
 ·rw[Az h];exact key st<|J h
def gL(f:Keyed->Int)(R:List Keyed)(n:Nat):Prop:=∀i j (_:i<=j) (_:j<R.length),j<n->f R[j]<=f (R[i]'(by exact i3))
theorem act{R R':List Keyed}(e:R'.map f=R.map f)(h1:i<R'.length)(h2:i<R.length):f R'[i]=f R[i]:=by
 have:(R'.map f)[i]?=(R.map f)[i]?:=by rw[e]
 rw[Aq,Aq,Ak h1,Ak h2] at this;exact Bb this
theorem gL.same{R R':List Keyed}(D:gL f R n)(e:R'.map f=R.map f):gL f R' n:=λi j I U J=>by
 have l:R'.length=R.length:=by have:=BG List.length e;rwa[Ae,Ae] at this
 rw[act e U (by lia),act e (by lia) (by lia)];exact D i j I (by lia) J
theorem gL.snoc{R:List Keyed}(h:gL f R n)(h1:1<=n)(g:n<R.length)(hs:f R[n]<=f (R[n-1]'(by exact pS))):gL f R (n+1):=λi j I J U=>by
 rcases DN j n with c|c
 ·exact h i j I J c
 ·have e:j=n:=by lia
  subst e;rcases DN i j with c2|c2
  ·exact BV hs<|h i (j-1) (by omega) (by exact pS) (by exact rS)
  ·have e:i=j:=by lia
   subst e;exact Dq _
theorem lF{arr:Array Keyed}{P R:List Keyed}{a b:Nat}{v:Int}(h:arr.toList=P++R)(U:a<=b)(l:b<=R.length)(g:∀i (_:i<R.length),a<=i->i<b->f R[i]=v):
 ∃R',(mirror arr (P.length+a) (P.length+b)<|(P.length+b-(P.length+a)) / 2).toList=P++R'/\R'.Perm R/\R'.map f=R.map f:=by
 have j:(P++R.take a).length=P.length+a:=by simp;lia
 have I:R=R.take a++((R.drop a).take (b-a)++(R.drop a).drop (b-a)):=by rw[A8,A8]
 have m:=jF (P:=P++R.take a) (R:=R.drop a) (n:=b-a) (by rw[h,Aw,A8]) (by simp;lia);rw[j,show P.length+a+(b-a)=P.length+b by lia,Aw] at m;refine⟨_,m,?_,?_⟩
 ·refine List.Perm.trans ?_<|List.Perm.of_eq I.symm;exact(Bu _).mpr ((Bi _).mpr<|Eg _)
 ·have r:((R.drop a).take<|b-a).map f=List.replicate (b-a) v:=by refine List.ext_getElem (by simp;lia) λi h1 h2=>?_;rw[List.getElem_map,Bw,B8,List.getElem_replicate];rw[Cq] at h2;exact g _ _ (by lia) (by lia)
  have J:=BG (List.map f) I;rw[AH,AH,r] at J;rw[AH,AH,List.map_reverse,r,List.reverse_replicate,J]
theorem ahr(O:Ord prog w A s κ Ok f){st:SortSt}{P R:List Keyed}(T:Tl κ Ok st P R)(h1:1<=R.length){Q:Option Nat->SortSt->Prop}
 (q:∀n R' arr,1<=n->n<=R.length->R'.Perm R->arr.toList=P++R'->Up f R' n->Q (some n) (setArr st arr)):wpS (model prog w) A E s (countRun' P.length R.length) Q st:=by
 have bb:setArr st (arrOf st)=st:=rfl;refine Ab (AU (AN (I:=λx c g=>g=st/\c=(none,x)/\Up f R x)
  (Q:=λc g=>g=st/\∃n,c=(none,n)/\1<=n/\n<=R.length/\Up f R n/\(n=R.length\/∃h:n<R.length,f R[n]<f (R[n-1]'(by exact pS)))) ?_ ?_ ⟨rfl,rfl,Up.one⟩) ?_)
 ·rintro x c g t hx ⟨rfl,rfl,U⟩;dsimp only;refine Ab<|iZ O T (i:=x) (j:=x-1) hx (by exact pS) rfl (by lia) ?_;dsimp only;by_cases c:f R[x]<f (R[x-1]'(by omega))
  ·rw[AI c,AA rfl];exact Ad ⟨rfl,x,rfl,t,by exact jC,U,.inr ⟨hx,c⟩⟩
  ·rw[Ay c,Az (by simp)];exact Ad ⟨rfl,rfl,U.snoc t hx (by omega)⟩
 ·rintro c g ⟨rfl,rfl,U⟩;exact⟨rfl,_,rfl,by lia,by lia,by rw[CC h1] at *;exact U,.inl (by lia)⟩
 ·rintro c g ⟨rfl,n,rfl,a3,a4,U,ac⟩;dsimp only;by_cases c1:(n==R.length)=true
  ·rw[AA c1];exact Ad<|q n R (arrOf g) a3 a4 (BI _) T.arr U
  rw[Az c1];have c1:¬n=R.length:=by simpa using c1
  have au:n<R.length:=by exact ye
  have hd:f R[n]<f (R[n-1]'(by omega)):=by
   rcases ac with h|⟨h,h'⟩
   ·exact absurd h c1
   ·exact h'
  refine im (P:=λo=>∃arr R',o=setArr g arr/\arr.toList=P++R'/\R'.Perm R/\gL f R' (n+1)) (λc2=>⟨arrOf g,R,rfl,T.arr,BI _,?_⟩) ?_ λc2 key=>?_
  ·obtain rfl:n=1:=by lia
   exact gL.snoc (λi j av hj a5=>by (have e:i=j:=by lia);(subst e;exact Dq _)) (Am _) au<|BP hd
  rotate_left
  ·refine Ab<|iZ O T (i:=0) (j:=n-1) (by assumption) (by exact pS) rfl (by omega) ?_;dsimp only;by_cases c3:f R[0]<f (R[n-1]'(by omega))
   ·rw[AI c3,AA rfl];exact Ad<|q n R (arrOf g) a3 a4 (BI _) T.arr U
   rw[Ay c3,Az (by simp)];have al:∀i (_:i<R.length),0<=i->i<n->f R[i]=f R[0]:=λi hi _ ba=>by have a1:=U 0 i (Be _) hi ba;have a2:=U i (n-1) (by lia) (by lia) (by lia);lia
   obtain⟨R',m1,m2,m3⟩:=lF (f:=f) T.arr (Be n) a4 al;refine Ab<|wpS_modify<|key _ ⟨_,R',rfl,m1,m2,gL.same (gL.snoc (λi j av hj a5=>?_) a3 au<|BP hd) m3⟩;rw[al j hj (Be _) a5,al i (by lia) (Be _) (by lia)];exact Dq _
  rintro _ ⟨arr,R0,rfl,r,ax,D0⟩;refine Ab<|wpS_lift<|BA ⟨rfl,?_⟩;have l0:R0.length=R.length:=ax.length_eq;refine Ab (AU (AN (I:=λx c o=>∃J arr R',c=(none,x,J)/\o=setArr g arr/\arr.toList=P++R'/\R'.Perm R/\gL f R' x/\J+1<=x/\∃v,∀i (_:i<R'.length),x-(J+1)<=i->i<x->f R'[i]=v)
   (Q:=λc o=>∃n J arr R',c=(none,n,J)/\o=setArr g arr/\arr.toList=P++R'/\R'.Perm R/\gL f R' n/\J+1<=n/\n<=R.length/\∃v,∀i (_:i<R'.length),n-(J+1)<=i->i<n->f R'[i]=v) ?_ ?_ ⟨0,arr,R0,rfl,rfl,r,ax,D0,by lia,f<|R0[n]'(by lia),λi hi h2 h3=>by (have e:i=n:=by lia);(subst e;rfl)⟩) ?_)
  ·rintro x c o t hx ⟨J,arr,p,rfl,rfl,r,l,D,hq,v,C⟩;have l1:p.length=R.length:=l.length_eq;have T1:=T.same l r;dsimp only;refine Ab<|iZ O T1 (i:=x) (j:=x-1) (by lia) (by lia) rfl (by lia) ?_;dsimp only;by_cases c:f (p[x]'(by lia))<f (p[x-1]'(by omega))
   ·rw[AI c,AA rfl];refine im (P:=λo=>∃arr R',o=setArr g arr/\arr.toList=P++R'/\R'.Perm R/\gL f R' (x+1)) (λ_=>⟨arr,p,rfl,r,l,D.snoc (by lia) (by lia)<|BP c⟩) ?_ λc2 key=>?_
    ·rintro _ ⟨arr,R',rfl,r,l,D⟩;exact Ad ⟨0,arr,R',rfl,rfl,r,l,D,by lia,f (R'[x]'(by have:=l.length_eq;lia)),λi hi h2 h3=>by (have e:i=x:=by lia);(subst e;rfl)⟩
    ·obtain⟨R',m1,m2,m3⟩:=lF (f:=f) (a:=x-(J+1)) (b:=x) r (by lia) (by lia) C;refine Ab<|wpS_modify<|key _ ⟨_,R',rfl,?_,m2.trans l,gL.same (D.snoc (by lia) (by lia)<|BP c) m3⟩;rw[<-m1];show(mirror arr (P.length+x-(J+1)) (P.length+x)<|(P.length+x-(P.length+x-(J+1))) / 2).toList=_;rw[show P.length+x-(J+1)=P.length+(x-(J+1)) by lia]
   ·rw[Ay c,Az (by simp)];refine Ab<|iZ O T1 (i:=x-1) (j:=x) (by omega) (by lia) (by lia) rfl ?_;dsimp only;by_cases c3:f (p[x-1]'(by omega))<f (p[x]'(by lia))
    ·rw[AI c3,AA rfl];exact Ad ⟨x,J,arr,p,rfl,rfl,r,l,D,hq,by lia,v,C⟩
    ·rw[Ay c3,Az (by simp)];refine Ad ⟨J+1,arr,p,rfl,rfl,r,l,D.snoc (by lia) (by lia) (by lia),by lia,v,λi hi h2 h3=>?_⟩;rcases DN i x with h|h
     ·exact C i hi (by lia) h
     ·have:i=x:=by lia
      subst this;rw[<-C (i-1) (by lia) (by lia) (by lia)];lia
  ·rintro c o ⟨J,arr,p,rfl,rfl,r,l,D,hq,v,C⟩;exact⟨_,J,arr,p,rfl,rfl,r,l,D,hq,by lia,v,C⟩
  ·rintro c o ⟨n,J,arr,p,rfl,rfl,r,l,D,hq,g2,v,C⟩;have l1:p.length=R.length:=l.length_eq;dsimp only;refine im (P:=λo=>∃arr R',o=setArr g arr/\arr.toList=P++R'/\R'.Perm R/\gL f R' n) (λ_=>⟨arr,p,rfl,r,l,D⟩) ?_ (λc2 key=>?_)
   rotate_left
   ·obtain⟨R',m1,m2,m3⟩:=lF (f:=f) (a:=n-(J+1)) (b:=n) r (by lia) (by lia) C;refine Ab<|wpS_modify<|key _ ⟨_,R',rfl,?_,m2.trans l,D.same m3⟩;rw[<-m1];show(mirror arr (P.length+n-(J+1)) (P.length+n)<|(P.length+n-(P.length+n-(J+1))) / 2).toList=_;rw[show P.length+n-(J+1)=P.length+(n-(J+1)) by lia]
   clear C D r l l1;rintro _ ⟨arr,p,rfl,r,l,D⟩;have l1:p.length=R.length:=l.length_eq;have T1:=T.same l r;have T':=T1.same (R':=(p.take n).reverse++p.drop n) (((Bi _).mpr<|Eg _).trans (by rw[A8]))<|jF r (by lia);obtain⟨R',eR⟩:∃R',R'=(p.take n).reverse++p.drop n:=⟨_,rfl⟩;have aL:R'.Perm R:=by rw[eR];exact(((Bi _).mpr<|Eg _).trans (by rw[A8])).trans l
   have lR:R'.length=R.length:=aL.length_eq;have U':Up f R' n:=λi j av hj a5=>by
    subst eR;rw[Ej (by simp;lia),Ej (by simp;lia),List.getElem_reverse,List.getElem_reverse,Bw,Bw];refine D _ _ ?_ (by simp;omega) ?_
    ·simp;omega
    ·simp;omega
   rw[<-eR] at T';refine Ab<|wpS_modify ?_;refine Ab (AU (AN (I:=λx c o=>o=setArr g (mirror arr P.length (P.length+n)<|(P.length+n-P.length) / 2)/\c=(none,x)/\Up f R' x)
    (Q:=λc o=>o=setArr g (mirror arr P.length (P.length+n)<|(P.length+n-P.length) / 2)/\∃n,c=(none,n)/\1<=n/\n<=R.length/\Up f R' n) ?_ ?_ ⟨rfl,rfl,U'⟩) ?_)
   ·rintro x c o t hx ⟨rfl,rfl,U⟩;dsimp only;refine Ab<|iZ O T' (i:=x) (j:=x-1) (by lia) (by omega) rfl (by lia) ?_;dsimp only;by_cases c:f (R'[x]'(by omega))<f (R'[x-1]'(by omega))
    ·rw[AI c,AA rfl];exact Ad ⟨rfl,x,rfl,by lia,by exact jC,U⟩
    ·rw[Ay c,Az (by simp)];exact Ad ⟨rfl,rfl,U.snoc (by omega) (by lia) (by omega)⟩
   ·rintro c o ⟨rfl,rfl,U⟩;exact⟨rfl,_,rfl,by lia,by lia,U⟩
   ·rintro c o ⟨rfl,n,rfl,k1,k2,U⟩;exact Ad<|q n R' _ k1 k2 aL T'.arr U
end
section
variable {w:World}{κ:SortKind}{Ok:Keyed->Prop}{f:Keyed->Int}
theorem Up.of{R:List Keyed}(h:(R.take n).Pairwise λx y=>f x<=f y):Up f R n:=λi j I U J=>by have:=tE h (i:=i) (j:=j) I (by simp;lia);rw[Bw,Bw] at this;exact this
theorem abo{R:List Keyed}{k l:Nat}(I:k<R.length)(J:l<=k):(R.take l++R[k]::((R.drop l).take (k-l)++R.drop (k+1))).Perm R:=by
 have e:R=R.take l++((R.drop l).take (k-l)++(R[k]::R.drop (k+1))):=by rw[<-Aw,agd _ J,<-B1 I,A8]
 refine List.Perm.trans ?_<|List.Perm.of_eq e.symm;exact(Bu _).mpr Cm.symm
theorem al2{R:List Keyed}{k l:Nat}(p:k<R.length)(r:l<=k)(U:Up f R k)(lo:∀i (_:i<l),f (R[i]'(by lia))<=f R[k])(hi:∀i (_:i<k),l<=i->f R[k]<=f (R[i]'(by exact tF))):
 Up f (R.take l++R[k]::((R.drop l).take (k-l)++R.drop (k+1))) (k+1):=by
 apply Up.of;have e:R.take l++R[k]::((R.drop l).take (k-l)++R.drop (k+1))=(R.take l++R[k]::(R.drop l).take (k-l))++R.drop (k+1):=by simp
 rw[e,List.take_left' (by simp;lia)];have I:=U.pair<|BO p;rw[<-agd R r] at I;have I:=AS.mp I;have t:∀y∈(R.drop l).take (k-l),f R[k]<=f y:=λy J=>by obtain⟨j,o,rfl⟩:=Ba J;rw[AR,Bm] at o;rw[Bw,B8];exact hi (l+j) (by lia) (by exact A7 _ _)
 have C:∀x∈R.take l,f x<=f R[k]:=λx g=>by obtain⟨j,o,rfl⟩:=Ba g;rw[AR] at o;rw[Bw];exact lo j (by lia)
 refine AS.mpr ⟨I.1,List.pairwise_cons.mpr ⟨t,I.2.1⟩,λx g y J=>?_⟩;rcases An.mp J with rfl|J
 ·exact C x g
 ·exact I.2.2 x g y J
theorem an3(O:Ord prog w A s κ Ok f){st:SortSt}{P R:List Keyed}(T:Tl κ Ok st P R){ok:Nat}(hn:n<=R.length)(h1:1<=ok)(ho:ok<=n)(U:Up f R ok){Q:Bool->SortSt->Prop}
 (q:∀R' arr,R'.Perm R->arr.toList=P++R'->Up f R' n->Q true (setArr st arr)):wpS (model prog w) A E s (binarySort' P.length n ok) Q st:=by
 have a1:setArr st (arrOf st)=st:=rfl;refine Ab (AU (AN (I:=λx c J=>c=(none,())/\∃R' arr,J=setArr st arr/\R'.Perm R/\arr.toList=P++R'/\Up f R' x)
  (Q:=λc J=>c=(none,())/\∃R' arr,J=setArr st arr/\R'.Perm R/\arr.toList=P++R'/\Up f R' n) ?_ ?_ ⟨rfl,R,arrOf st,rfl,BI _,T.arr,by rw[CM h1];exact U⟩) ?_)
 ·rintro x c J a2 hx ⟨rfl,R',arr,rfl,p,t,o⟩;have T':=T.same p t;have lR:R'.length=R.length:=p.length_eq;have g:x<R'.length:=by lia
  dsimp only;refine Ab (AU (AN (I:=λy c J=>J=setArr st arr/\∃l r,c=(none,l,r)/\l<=r/\r<=x/\r-l+y<=x/\(∀i (_:i<l) (_:i<R'.length),f R'[i]<=f R'[x])/\(∀i (_:i<x),r<=i->f R'[x]<=f (R'[i]'(by exact tF))))
   (Q:=λc J=>J=setArr st arr/\∃l,c=(none,l,l)/\l<=x/\(∀i (_:i<l) (_:i<R'.length),f R'[i]<=f R'[x])/\(∀i (_:i<x),l<=i->f R'[x]<=f (R'[i]'(by lia)))) ?_ ?_ ⟨rfl,0,x,rfl,Be _,Am _,by exact EI _ _,λi h=>by lia,λi h h'=>by omega⟩) ?_)
  ·rintro y c J _ hy ⟨rfl,l,r,rfl,g1,g2,g3,C,g5⟩;dsimp only;by_cases c:l>=r
   ·rw[AA c];obtain rfl:l=r:=by lia
    exact Ad ⟨rfl,l,rfl,g2,C,g5⟩
   ·rw[Az c];refine Ab<|iZ O T' (i:=x) (j:=(l+r) / 2) g (by lia) rfl rfl ?_;dsimp only;by_cases e:f R'[x]<f (R'[(l+r) / 2]'(by lia))
    ·rw[AI e,AA rfl];refine Ad ⟨rfl,l,(l+r) / 2,rfl,by lia,by lia,by omega,C,λi h h'=>?_⟩;exact BV (BP e)<|o _ _ h' (by exact tF) h
    ·rw[Ay e,Az (by simp)];refine Ad ⟨rfl,(l+r) / 2+1,r,rfl,by lia,g2,by omega,λi h h'=>?_,g5⟩;exact BV (o i ((l+r) / 2) (by exact aq4) (by lia) (by lia)) (by omega)
  ·rintro c J ⟨rfl,l,r,rfl,g1,g2,g3,C,g5⟩;obtain rfl:l=r:=by lia
   exact⟨rfl,l,rfl,g2,C,g5⟩
  ·rintro c J ⟨rfl,l,rfl,g2,C,g5⟩;dsimp only;refine Ab<|wpS_modify ?_;exact Ad ⟨rfl,_,_,rfl,(abo g g2).trans p,tf t g g2,al2 g g2 o (λi h=>C i h (by lia)) g5⟩
 ·rintro c J ⟨rfl,R',arr,rfl,p,t,o⟩;exact⟨rfl,R',arr,rfl,p,t,by rw[CM h1,CC ho] at o;exact o⟩
 ·rintro c J ⟨rfl,R',arr,rfl,p,t,o⟩;exact Ad<|q R' arr p t o
end
section
variable {w:World}{κ:SortKind}{Ok:Keyed->Prop}{f:Keyed->Int}
theorem cK.len:∀{ps:List<|Nat×Nat×Nat} {ji:List<|List Keyed} {s:Nat},cK f ps ji s->ps.length=ji.length/\ji.length<=ji.flatten.length
 |[],[],_,_=>⟨rfl,Am _⟩
 |_::_,[],_,h=>h.elim
 |[],_::_,_,h=>h.elim
 |(_,_,_)::ps,l::ls,s,h=>by obtain⟨_,_,h3,_,k⟩:=h;have:=cK.len k;rw[AM,AM,CW,Ac];lia
theorem cK.repow{w:Nat}:∀{ps:List<|Nat×Nat×Nat} {ji:List<|List Keyed} {s:Nat} (i:Nat),cK f ps ji s->cK f (ps.modify i λp=>(p.1,p.2.1,w)) ji s
 |[],[],_,i,_=>by simp[cK]
 |_::_,[],_,_,h=>h.elim
 |[],_::_,_,_,h=>h.elim
 |(_,_,_)::ps,l::ls,s,0,h=>h
 |(_,_,_)::ps,l::ls,s,i+1,h=>by obtain⟨h1,h2,h3,I,k⟩:=h;exact⟨h1,h2,h3,I,cK.repow i k⟩
theorem cK.snoc{l:List Keyed}(I:0<l.length)(hs:l.Pairwise λx y=>f x<=f y):∀{ps:List<|Nat×Nat×Nat} {ji:List<|List Keyed} {s:Nat},cK f ps ji s->∀{m:Nat},m=s+ji.flatten.length->cK f (ps++[(m,l.length,0)]) (ji++[l]) s
 |[],[],_,_,m,e=>⟨by simpa using e,rfl,I,hs,trivial⟩
 |_::_,[],_,h,_,_=>h.elim
 |[],_::_,_,h,_,_=>h.elim
 |(_,_,_)::ps,U::ls,s,h,m,e=>by obtain⟨h1,h2,h3,J,k⟩:=h;exact⟨h1,h2,h3,J,cK.snoc I hs k (by rw[e];simp;simp +arith only)⟩
theorem amg{l:List α}(h:i+1<l.length):l=l.take i++l[i]::l[i+1]::l.drop (i+2):=by rw[<-B1 h,<-B1 (by omega),A8]
theorem sS(O:Ord prog w A s κ Ok f){st:SortSt}{ji:List<|List Keyed}{rest:List Keyed}{Q:Bool->SortSt->Prop}(G:bD κ Ok f st ji rest)(hi:i+1<ji.length)
 (q:∀J I,bD κ Ok f J I rest->I.flatten.Perm ji.flatten->I.length+1=ji.length->Q true J):wpS (model prog w) A E s (mergeAt' i) Q st:=by
 have e:=amg hi;have g:(ji.take i).length=i:=by simp;lia
 rw[e] at G;have j:∀C:List Keyed,C.Perm (ji[i]++ji[i+1])->(ji.take i++C::ji.drop (i+2)).flatten.Perm ji.flatten:=λC U=>by have l:ji.flatten=(ji.take i++ji[i]::ji[i+1]::ji.drop (i+2)).flatten:=BG List.flatten e;rw[l,Dg,Dg,CW,CW,CW];refine(Bu _).mpr ?_;rw[<-Aw];exact(Bi _).mpr U
 have:=yy O (E:=E) (Q:=Q) G λJ C o U=>q J _ o (j C U) (by simp;lia);rw[g] at this;exact this
theorem bD.push{st:SortSt}{ji:List<|List Keyed}{rest:List Keyed}(G:bD κ Ok f st ji rest)(I:n<=rest.length)(h1:1<=n)(U:Up f rest n):bD κ Ok f (setPending st<|(pendingOf st).push (ji.flatten.length,n,0)) (ji++[rest.take n]) (rest.drop n):=by
 refine⟨G.kind,G.failed,?_,?_,G.ok⟩
 ·have:=G.arr;show(arrOf st).toList=_;rw[this,Dg,Aw];simp
 ·show cK f ((pendingOf st).push _).toList _ 0;rw[CV];have:=cK.snoc (l:=rest.take n) (by simp;lia) (U.pair I) G.pend (m:=ji.flatten.length) (by simp +arith only);rw[show(rest.take n).length=n by simp;lia] at this;exact this
theorem bD.repow{st:SortSt}{ji:List<|List Keyed}{rest:List Keyed}{w:Nat}(G:bD κ Ok f st ji rest):bD κ Ok f (setPending st<|(pendingOf st).modify i λp=>(p.1,p.2.1,w)) ji rest:=by refine⟨G.kind,G.failed,G.arr,?_,G.ok⟩;show cK f ((pendingOf st).modify i λp=>(p.1,p.2.1,w)).toList _ 0;rw[Array.toList_modify];exact G.pend.repow i
theorem bD.set{st:SortSt}{ji:List<|List Keyed}{rest R:List Keyed}{arr:Array Keyed}(G:bD κ Ok f st ji rest)(p:R.Perm rest)(e:arr.toList=ji.flatten++R):bD κ Ok f (setArr st arr) ji R:=
 ⟨G.kind,G.failed,e,G.pend,λx I=>G.ok x (by
  have I:x∈arr.toList:=I;rw[e] at I;rw[G.arr];rcases Aj.mp I with h|h
  ·exact Ao _ h
  ·exact Ai _<|p.mem_iff.mp h)⟩
theorem ac3(O:Ord prog w A s κ Ok f){st:SortSt}{Q:Unit->SortSt->Prop}(hk:kindOf st=κ)(hp:pendingOf st=#[])(hf:failedOf st=none)(ok:∀x∈(arrOf st).toList,Ok x)
 (q:∀g,failedOf g=none->(arrOf g).toList.Perm (arrOf st).toList->((arrOf g).toList.Pairwise λx y=>f x<=f y)->Q () g):wpS (model prog w) A E s sortRuns' Q st:=by
 refine Ab<|wpS_get ?_;dsimp only;have G0:bD κ Ok f st [] (arrOf st).toList:=⟨hk,hf,rfl,by rw[hp];trivial,ok⟩;obtain⟨N,eN⟩:∃N,N=(arrOf st).size:=⟨_,rfl⟩;rw[<-eN];generalize bg:(sortPriv% PySem.Builtin.minRun) N N 0=mr;refine Ab (AU (AN (I:=λx c g=>∃ji rest lo,c=(none,lo)/\bD κ Ok f g ji rest/\lo=ji.flatten.length/\(ji.flatten++rest).Perm (arrOf st).toList/\x<=lo)
  (Q:=λc g=>∃ji lo,c=(none,lo)/\bD κ Ok f g ji []/\ji.flatten.Perm (arrOf st).toList) ?_ ?_ ⟨[],(arrOf st).toList,0,rfl,G0,rfl,BI _,Am _⟩) ?_)
 ·rintro x c g _ hx ⟨ji,rest,lo,rfl,G,au,pm,bb⟩;dsimp only;have lt:ji.flatten.length+rest.length=N:=by have h1:=pm.length_eq;have h2:(arrOf st).toList.length=(arrOf st).size:=AQ;rw[Ac] at h1;lia
  by_cases c:lo>=N
  ·rw[AA c];have:rest=[]:=CG (by lia);subst this;exact Ad ⟨ji,lo,rfl,G,by simpa using pm⟩
  rw[Az c];subst au;have er:N-ji.flatten.length=rest.length:=by lia
  rw[er];have T:Tl κ Ok g ji.flatten rest:=⟨G.kind,G.arr,λx hx=>G.ok x (by rw[G.arr];exact Ai _ hx)⟩;refine Ab<|ahr O T (by lia) λn R1 a3 g1 g2 a1 av U1=>?_;dsimp only;have T1:=T.same a1 av;have G1:=G.set a1 av;have l1:R1.length=rest.length:=a1.length_eq;by_cases cm:n<mr
  case' pos=>
   rw[AA cm];refine Ab<|wpS_lift<|BA ⟨rfl,?_⟩;refine Ab<|an3 O T1 (by lia) g1 (by lia) U1 λR2 ax aL bc U2=>?_;rw[Az (by simp)];have G2:=G1.set aL bc;obtain⟨t,a4⟩:∃t,t=min rest.length mr:=⟨_,rfl⟩;rw[<-a4] at U2 ⊢;have p2:R2.Perm rest:=aL.trans a1;have k1:1<=t:=by lia
   have k2:t<=rest.length:=by lia
   obtain⟨C,a5⟩:∃C,C=setArr (setArr g a3) ax:=⟨_,rfl⟩;rw[<-a5] at G2 ⊢
  case' neg=>
   rw[Az cm];have G2:=G1;obtain⟨t,a4⟩:∃t,t=n:=⟨_,rfl⟩;obtain⟨R2,ac⟩:∃R2,R2=R1:=⟨_,rfl⟩;rw[<-a4] at U1 ⊢;rw[<-ac] at G2;have U2:Up f R2 t:=by rw[ac];exact U1
   have p2:R2.Perm rest:=by rw[ac];exact a1
   have k1:1<=t:=by lia
   have k2:t<=rest.length:=by lia
   obtain⟨C,a5⟩:∃C,C=setArr g a3:=⟨_,rfl⟩;rw[<-a5] at G2 ⊢
  all_goals
   have l2:R2.length=rest.length:=p2.length_eq;have x9:∀(U:SortSt) (J:List<|List Keyed),bD κ Ok f U J R2->J.flatten.Perm ji.flatten->∃o a2 al,((none,ji.flatten.length+t):Option Unit×Nat)=(none,al)/\bD κ Ok f (setPending U<|(pendingOf U).push (ji.flatten.length,t,0)) o a2/\al=o.flatten.length/\(o.flatten++a2).Perm (arrOf st).toList/\x+1<=al:=λU J G3 j=>by
    have G4:=G3.push (by lia) k1 U2;rw[j.length_eq] at G4;refine⟨_,_,_,rfl,G4,?_,?_,by exact att⟩
    ·rw[Dg,Ac,j.length_eq];simp;lia
    ·have:(J++[R2.take t]).flatten++R2.drop t=J.flatten++R2:=by simp
     rw[this];exact((Bi R2).mpr j).trans (((Bu _).mpr p2).trans pm)
   refine Ab<|wpS_get ?_;split
   ·refine Ab (AU (AN (I:=λy c U=>c=(none,())/\∃J,bD κ Ok f U J R2/\J.flatten.Perm ji.flatten)
     (Q:=λc U=>c=(none,())/\∃J,bD κ Ok f U J R2/\J.flatten.Perm ji.flatten) ?_ ?_ ⟨rfl,ji,G2,BI _⟩) ?_)
    ·rintro y c U _ hy ⟨rfl,J,G3,j⟩;have pl:=G3.pend.len.1;have bd:(pendingOf U).size=J.length:=by rw[<-pl,AQ]
     refine Ab<|wpS_get ?_;by_cases cs:(pendingOf U).size > 1
     ·rw[AA cs];split
      ·split
       ·exact Ad ⟨rfl,J,G3,j⟩
       ·refine Ab (sS O G3 (by show(pendingOf U).size-2+1<J.length;lia) λbf r G4 p4 l4=>?_);rw[Az (by simp)];exact Ad ⟨rfl,r,G4,p4.trans j⟩
      ·exact Ad ⟨rfl,J,G3,j⟩
     ·rw[Az cs];exact Ad ⟨rfl,J,G3,j⟩
    ·rintro c U h;exact h
    ·rintro c U ⟨rfl,J,G3,j⟩;dsimp only;refine Ab<|wpS_modify<|Ab<|wpS_modify<|Ad ?_;exact x9 _ J G3.repow j
   ·exact Ab<|wpS_modify<|Ad<|x9 C ji G2<|BI _
 ·rintro c g ⟨ji,rest,lo,rfl,G,au,pm,bb⟩;have lt:ji.flatten.length+rest.length=N:=by have h1:=pm.length_eq;have h2:(arrOf st).toList.length=(arrOf st).size:=AQ;rw[Ac] at h1;lia
  have:rest=[]:=CG (by lia);subst this;exact⟨ji,lo,rfl,G,by simpa using pm⟩
 ·rintro c g ⟨ji,lo,rfl,G,pm⟩;dsimp only;have ls:ji.length<=N:=by have h1:=G.pend.len.2;have h3:=pm.length_eq;have h2:(arrOf st).toList.length=(arrOf st).size:=AQ;lia
  refine Ab (AU (AN (I:=λy c U=>c=(none,())/\∃J,bD κ Ok f U J []/\J.flatten.Perm (arrOf st).toList/\J.length+y<=N)
   (Q:=λc U=>c=(none,())/\∃J,bD κ Ok f U J []/\J.flatten.Perm (arrOf st).toList/\J.length<=1) ?_ ?_ ⟨rfl,ji,G,pm,by omega⟩) ?_)
  ·rintro y c U _ hy ⟨rfl,J,G3,j,h3⟩;have pl:=G3.pend.len.1;have bd:(pendingOf U).size=J.length:=by rw[<-pl,AQ]
   refine Ab<|wpS_get ?_;by_cases cs:(pendingOf U).size<=1
   ·rw[AA cs];exact Ad ⟨rfl,J,G3,j,by lia⟩
   ·rw[Az cs];refine Ab<|sS O G3 ?_ λbf r G4 p4 l4=>?_
    ·have gen:∀b:Bool,(if b=true then(pendingOf U).size-2-1 else(pendingOf U).size-2)+1<J.length:=λb=>by cases b with|true=>rw[AA rfl];omega|false=>rw[Az (by simp)];lia
     exact gen _
    ·rw[Az (by simp)];exact Ad ⟨rfl,r,G4,p4.trans j,by lia⟩
  ·rintro c U ⟨rfl,J,G3,j,h3⟩;exact⟨rfl,J,G3,j,by lia⟩
  ·rintro c U ⟨rfl,J,G3,j,h3⟩;refine Ad<|q U G3.failed ?_ ?_
   ·rw[G3.arr,AD];exact j
   ·rw[G3.arr,AD]
    match J,h3,G3.pend with
    |[],_,_=>simp
    |[l],_,h=>
     rw[CW,List.flatten_nil,AD];cases ba:(pendingOf U).toList with
     |nil=>rw[ba] at h;exact h.elim
     |cons p ps=>
      rw[ba] at h;obtain⟨p1,p2,j⟩:=p;exact h.2.2.2.1
end
open PySem PyProof.Rows PySem.W
def aok(h:Heap)(B:Int)(x:Keyed):Prop:=∃a o n r p t u,x.1=.ref a/\h.get? a=some o/\o.data=.seq #[.int r t,.int p u] n/\0<=p/\p<B
noncomputable def num(h:Heap)(B:Int)(x:Keyed):Int:=match x.1 with
 |.ref a=>match h.get? a with
  |some o=>match o.data with
   |.seq xs _=>match xs.toList with
    |[.int r _,.int p _]=>r*B+p
    |_=>0
   |_=>0
  |none=>0
 |_=>0
theorem num_of{x:Keyed}{a:Addr}{o:Obj}{r p:Int}{t u:Tok}(I:x.1=.ref a)(J:h.get? a=some o)(U:o.data=.seq #[.int r t,.int p u] n):num h B x=r*B+p:=by unfold num;simp[I,J,U]
theorem uG{w:World} :Ord prog w A s (tuples' true) (aok s.heap B) (num s.heap B):=by
 constructor;rintro x y ⟨a1,o1,n1,I,J,r,t,l,g1,d1,b1,c1⟩ ⟨a2,o2,n2,U,g,C,T,o,g2,d2,b2,c2⟩ E Q h;rw[num_of l g1 d1,num_of o g2 d2] at h;rw[l,o];refine kat_lt g1 d1 g2 d2 ?_;show KatLex prog w A true _ Q [(.int I r,.int U C),(.int J t,.int g T)] 0 s;refine kat_cons<|wpAny_eqBool_int ?_;by_cases c:I=U
 ·subst c;rw[beq_self_eq_true];refine kat_yes<|kat_cons<|wpAny_eqBool_int ?_;by_cases p:J=g
  ·subst p;rw[beq_self_eq_true];refine kat_yes<|kat_nil ?_;have e:decide (I*B+J<I*B+J)=false:=Ay (by lia);rw[e] at h;exact h
  ·rw[EC p];refine kat_no<|kat_one _ _<|PyProof.Rows.lt_int ?_;have e:decide (I*B+J<I*B+g)=decide (J<g):=by
    by_cases z:J<g
    ·rw[AI z];exact AI (by lia)
    ·rw[Ay z];exact Ay (by lia)
   rw[e] at h;exact h
 ·rw[EC c];refine kat_no<|oneLt_int ?_;have e:decide (I*B+J<U*B+g)=decide (I<U):=by
   by_cases z:I<U
   ·rw[AI z];have j:(I+1)*B<=U*B:=CD (by assumption) (by lia);rw[ED,Int.one_mul] at j;exact AI (by omega)
   ·rw[Ay z];have j:(U+1)*B<=I*B:=CD (by lia) (by lia);rw[ED,Int.one_mul] at j;exact Ay (by lia)
  rw[e] at h;exact h
section
variable {w:World}
def eM(h:Heap)(B:Int)(v:Value):Prop:=∃a o n r p t u,v=.ref a/\h.get? a=some o/\o.cls=.type "tuple" /\ o.data=.seq #[.int r t,.int p u] n/\0<=p/\p<B
theorem eM.pair{x:Keyed}(k:eM h B x.1):aok h B x:=by obtain⟨a,o,n,r,p,t,u,I,J,_,U,g,j⟩:=k;exact⟨a,o,n,r,p,t,u,I,J,U,g,j⟩
theorem tups{h:Heap}{B:Int}:∀{ks:List Value},(∀v∈ks,eM h B v)->∃fs,KatTups h ks fs/\fs.length=ks.length/\∀v∈fs,∃r t,v=Value.int r t
 |[],_=>⟨[],trivial,rfl,λv I=>by simp at I⟩
 |k::ks,J=>by
  obtain⟨fs,h1,h2,h3⟩:=tups (ks:=ks) λv I=>J v<|Af _ I;obtain⟨a,o,n,r,p,t,u,rfl,U,g,j,_,_⟩:=J k<|Av ..;refine⟨.int r t::fs,KatTups.cons U g j rfl h1,by simp[h2],λv I=>?_⟩;rcases An.mp I with rfl|I
  ·exact⟨r,t,rfl⟩
  ·exact h3 v I
theorem ad7{ks:List Value}{Q:SortKind->Shared->Prop}(I:∀v∈ks,eM s.heap B v)(h0:0<ks.length)(q:Q (tuples' true) s):wpAny (model prog w) A (keyKind' ks.toArray) Q E s:=by
 obtain⟨fs,h1,h2,h3⟩:=tups I;refine kat_kind (T:=.type "int") h1 (by lia) (λv J=>?_) (by decide) ?_
 ·obtain⟨r,t,rfl⟩:=h3 v J;exact .now
 ·exact q
theorem uA{R:α->α->Prop}:∀{l:List α},l.length<2->l.Pairwise R
 |[],_=>List.Pairwise.nil
 |[_],_=>List.pairwise_singleton _ _
 |_::_::_,h=>absurd h (by simp)
theorem anu{a kS:Addr}{ks:List Value}{e g:Nat}{P:PySem.Fin->Shared->Prop}(o:s.heap.get? kS=some (seqObj "list" ks.toArray e))(ha:s.heap.get? a=some (seqObj "list" #[] g))(p:kS≠a)(hl:ks.length=vs.length)(hz:vs.length<=sizeLine)
 (C:∀v∈ks,eM s.heap B v)
 (h:∀h' tk (xs:List Keyed) c,(∀b,b≠kS->b≠a->h'.get? b=s.heap.get? b)->h'.get? a=some (seqObj "list" (List.toArray (xs.map (·.2))) c)->xs.Perm (ks.zip vs)->(xs.Pairwise λx y=>num s.heap B x<=num s.heap B y)->P (.done<|.ret .none) { s with heap:=h',toks:=tk }):
 wpAny (model prog w) A (ksk_end a false vs.toArray g (.ref kS) ks.toArray) P E s:=by
 have j:(ks.toArray.zip vs.toArray).toList=ks.zip vs:=by simp
 have tail:∀st:SortSt,failedOf st=none->(arrOf st).toList.Perm (ks.zip vs)->((arrOf st).toList.Pairwise λx y=>num s.heap B x<=num s.heap B y)->wpAny (model prog w) A (ksk_tail a false g (.ref kS) st) P E s:=by
  intro st hf T hs;have s1:=wh s.heap kS<|Obj.mapSeq λ_=>(#[]:Array Value);have J:(s.heap.update kS<|Obj.mapSeq λ_=>(#[]:Array Value)).get? a=some (seqObj "list" #[] g):=(s1.2 a p.symm).trans ha;have s2:=wh (s.heap.update kS<|Obj.mapSeq λ_=>(#[]:Array Value)) a (Obj.mapSeq λ_=>(arrOf st).map (·.2));have len:((arrOf st).map (·.2)).size<=sizeLine:=by have:=T.length_eq;rw[Dk,AQ] at this;rw[Array.size_map];lia
  unfold ksk_tail
  try dsimp only
  refine Aa (listUpdate_at o rfl ?_ (by rw[Au];lia)<|Be _);refine Aa<|wpAny_letGo ?_;refine Aa<|seqEpoch_at J rfl ?_;refine Aa (listUpdate_at J rfl ?_ (Be _) (by simp only[BW,if_false];exact BQ len));rw[hf];simp only[bne_self_eq_false,BW,if_false];obtain⟨c2,U⟩:∃c2,((s.heap.update kS<|Obj.mapSeq λ_=>(#[]:Array Value)).update a (Obj.mapSeq λ_=>(arrOf st).map (·.2))).get? a=some (seqObj "list" ((arrOf st).map (·.2)) c2):=⟨_,get?_update_seq J λ_=>(arrOf st).map (·.2)⟩;refine Ag<|h _ _ (arrOf st).toList c2 (λb r t=>?_) ?_ T hs
  ·exact(s2.2 b t).trans (s1.2 b r)
  ·have em:(arrOf st).map (·.2)=List.toArray ((arrOf st).toList.map (·.2)):=by apply Array.toList_inj.mp;rw[Array.toList_map]
   rw[em] at U ⊢;exact U
 unfold ksk_end;simp only[BW,if_false];by_cases h2:vs.toArray.size<2
 ·rw[AA h2,AA h2];refine Aa<|Ag ?_;rw[StateT.run_pure];refine Aa<|Ag ?_;refine tail _ rfl (by show(ks.toArray.zip vs.toArray).toList.Perm _;rw[j]) ?_;show(ks.toArray.zip vs.toArray).toList.Pairwise _;rw[j];rw[Au] at h2;have:(ks.zip vs).length<2:=by rw[Dk];lia
  exact uA this
 ·rw[Az h2,Az h2];rw[Au] at h2;refine Aa<|ad7 C (by omega) ?_;refine Aa (AX (ac3 (E:=E) (uG (B:=B)) (st:=SortSt.mk' (tuples' true) (ks.toArray.zip vs.toArray) #[] 7 none)
   (Q:=λ_ I=>failedOf I=none/\(arrOf I).toList.Perm (ks.zip vs)/\((arrOf I).toList.Pairwise λx y=>num s.heap B x<=num s.heap B y)) rfl rfl rfl (λx l=>?_) λI b1 b2 b3=>⟨b1,?_,b3⟩) ?_ λ_ _ e=>e)
  ·have l:x∈(ks.toArray.zip vs.toArray).toList:=l;rw[j] at l;exact eM.pair<|C _ (DH (a:=x.1) (b:=x.2) l).1
  ·have b2:(arrOf I).toList.Perm (ks.toArray.zip vs.toArray).toList:=b2;rw[j] at b2;exact b2
  ·rintro⟨⟨⟩,I⟩ s' ⟨rfl,b1,b2,b3⟩;exact tail I b1 b2 b3
end
section
variable {w:World}
theorem eM.ne{a b:Addr}{xs:Array Value}(k:eM h B v)(e:v=.ref a)(g:h.get? b=some (seqObj "list" xs n)):a≠b:=by
 obtain⟨j,o,m,r,p,t,u,J,U,I,_⟩:=k;rw[e] at J;cases J;rintro rfl;rw[g] at U;cases U;have I:Value.type "list" = Value.type "tuple" := I;injection I with e
 exact absurd e (by decide)
theorem eM.keeps{b:Addr}{xs:Array Value}(k:eM h B v)(J:h.get? b=some (seqObj "list" xs n))(U:∀c o,c≠b->h.get? c=some o->h'.get? c=some o):eM h' B v:=by have g:=k;obtain⟨a,o,m,r,p,t,u,I,j,l,C,T,e6⟩:=k;exact⟨a,o,m,r,p,t,u,I,U a o (g.ne I J) j,l,C,T,e6⟩
theorem yd{x:Keyed}{b:Addr}{xs:Array Value}(k:eM h B x.1)(g:h.get? b=some (seqObj "list" xs n))(j:∀c o,c≠b->h.get? c=some o->h'.get? c=some o):num h' B x=num h B x:=by have l:=k;obtain⟨a,o,m,r,p,t,u,I,J,C,U,T,e6⟩:=k;rw[num_of I J U,num_of I (j a o (l.ne I g) J) U]
theorem dS{x:Keyed}(h:x∈vs.zip vs):x.1∈vs/\x.1=x.2:=by
 induction vs with
 |nil=>simp at h
 |cons v r I=>
  rw[List.zip_cons_cons] at h;rcases An.mp h with rfl|h
  ·exact⟨Av ..,rfl⟩
  ·exact⟨Af _ (I h).1,(I h).2⟩
theorem ag9{a:Addr}{P:PySem.Fin->Shared->Prop}(p:s.heap.get? a=some (seqObj "list" vs.toArray n))(hz:vs.length<=100000)(hk:∀v∈vs,eM s.heap B v)
 (h:∀h' tk (xs:List Keyed) c,(∀b o,b≠a->s.heap.get? b=some o->h'.get? b=some o)->h'.get? a=some (seqObj "list" (List.toArray (xs.map (·.2))) c)->xs.Perm (vs.zip vs)->(xs.Pairwise λx y=>num s.heap B x<=num s.heap B y)->P (.done<|.ret .none) { s with heap:=h',toks:=tk }):
 wpAny (model prog w) A (Builtin.«list.sort» ⟨[.ref a],[]⟩) P E s:=by
 have big:(100000:Nat)+1<=sizeLine:=by rw[sizeLine_eq];exact DJ _ _
 have zl:(vs.toArray.zip vs.toArray).toList=vs.zip vs:=by simp
 have s1:=wh s.heap a<|Obj.mapSeq λ_=>(#[]:Array Value);obtain⟨e1,r⟩:∃e1,(s.heap.update a<|Obj.mapSeq λ_=>(#[]:Array Value)).get? a=some (seqObj "list" #[] e1):=⟨_,get?_update_seq p λ_=>#[]⟩;obtain⟨I,U⟩:∃g,g=((s.heap.update a<|Obj.mapSeq λ_=>(#[]:Array Value)).push<|seqObj "tuple" vs.toArray 0).push (seqObj "list" #[] 0):=⟨_,rfl⟩;have k3:∀b o,b≠a->s.heap.get? b=some o->I.get? b=some o:=λb o hb e=>by rw[U];exact qy _<|qy _<|(s1.2 b hb).trans e
 have j:I.get? a=some (seqObj "list" #[] e1):=by rw[U];exact qy _<|qy _ r
 have t:∀v∈vs,eM I B v:=λv hv=>(hk v hv).keeps p k3;have nk:∀x∈vs.zip vs,num I B x=num s.heap B x:=λx l=>yd (hk _ (dS l).1) p k3;have tail:∀st:SortSt,failedOf st=none->(arrOf st).toList.Perm (vs.zip vs)->((arrOf st).toList.Pairwise λx y=>num I B x<=num I B y)->
  ∀tk,P (.done<|.ret .none) { s with heap:=I.update a (Obj.mapSeq λ_=>(arrOf st).map (·.2)),toks:=tk }:=by
  intro st hf C hs tk;have s2:=wh I a (Obj.mapSeq λ_=>(arrOf st).map (·.2));obtain⟨c2,T⟩:∃c2,(I.update a (Obj.mapSeq λ_=>(arrOf st).map (·.2))).get? a=some (seqObj "list" ((arrOf st).map (·.2)) c2):=⟨_,get?_update_seq j λ_=>(arrOf st).map (·.2)⟩;have em:(arrOf st).map (·.2)=List.toArray ((arrOf st).toList.map (·.2)):=by apply Array.toList_inj.mp;rw[Array.toList_map]
  refine h _ tk (arrOf st).toList c2 (λb o hb e=>(s2.2 b hb).trans<|k3 b o hb e) ?_ C ?_
  ·rw[em] at T ⊢;exact T
  ·refine Cy (λ{x y} l hy z=>?_) hs;rw[nk x<|C.mem_iff.mp l,nk y<|C.mem_iff.mp hy] at z;exact z
 have len:∀st:SortSt,(arrOf st).toList.Perm (vs.zip vs)->((arrOf st).map (·.2)).size<=sizeLine+1:=λst C=>by have:=C.length_eq;rw[Dk,AQ] at this;rw[Array.size_map];lia
 rw[list_sort_plain];refine Aa<|listItems_at p rfl ?_;refine Aa (listUpdate_at p rfl ?_ (by rw[Au];exact yV)<|Be _);refine Aa<|seqEpoch_at r rfl ?_;refine Aa (wpAny_newTuple ?_ (by show vs.length<=_;lia));refine Aa<|wpAny_newList ?_<|Be _;refine A1 ?_;show wpAny (model prog w) A _ P E { s with heap:=((s.heap.update a<|Obj.mapSeq λ_=>(#[]:Array Value)).push<|seqObj "tuple" vs.toArray 0).push (seqObj "list" #[] 0) };rw[<-U];dsimp only;by_cases h2:vs.toArray.size<2
 ·rw[AA h2,AA h2];refine Aa<|Ag ?_;rw[StateT.run_pure];refine Aa<|Ag ?_;dsimp only;refine Aa<|seqEpoch_at j rfl ?_;have pz:(arrOf<|SortSt.mk' (tuples' true) (vs.toArray.zip vs.toArray) #[] 7 none).toList.Perm (vs.zip vs):=by show(vs.toArray.zip vs.toArray).toList.Perm _;rw[zl]
  refine Aa<|listUpdate_at j rfl ?_ (Be _)<|len _ pz;simp only[bne_self_eq_false,BW,if_false];refine Ag<|tail (SortSt.mk' (tuples' true) (vs.toArray.zip vs.toArray) #[] 7 none) rfl pz ?_ _;show(vs.toArray.zip vs.toArray).toList.Pairwise _;rw[zl];rw[Au] at h2;have:(vs.zip vs).length<2:=by rw[Dk];lia
  exact uA this
 ·rw[Az h2,Az h2];rw[Au] at h2;refine Aa<|ad7 (s:={ s with heap:=I }) t (by lia) ?_;refine Aa (AX (ac3 (E:=E) (uG (s:={ s with heap:=I }) (B:=B)) (st:=SortSt.mk' (tuples' true) (vs.toArray.zip vs.toArray) #[] 7 none)
   (Q:=λ_ J=>failedOf J=none/\(arrOf J).toList.Perm (vs.zip vs)/\((arrOf J).toList.Pairwise λx y=>num I B x<=num I B y)) rfl rfl rfl (λx l=>?_) λJ b1 b2 b3=>⟨b1,?_,b3⟩) ?_ λ_ _ e=>e)
  ·have l:x∈(vs.toArray.zip vs.toArray).toList:=l;rw[zl] at l;exact eM.pair<|t _ (dS l).1
  ·have b2:(arrOf J).toList.Perm (vs.toArray.zip vs.toArray).toList:=b2;rw[zl] at b2;exact b2
  ·rintro⟨⟨⟩,J⟩ s' ⟨rfl,b1,b2,b3⟩;dsimp only;refine Aa<|seqEpoch_at j rfl ?_;refine Aa<|listUpdate_at j rfl ?_ (Be _)<|len _ b2;rw[b1];simp only[bne_self_eq_false,BW,if_false];exact Ag<|tail J b1 b2 b3 _
theorem w_sorted(hl:s.heap.IsList l vs.toArray)(hz:vs.length<=100000)(hk:∀v∈vs,eM s.heap B v)
 (h:∀h' tk (xs:List Keyed) D c,s.heap.objs.size<=D->(∀b o,s.heap.get? b=some o->h'.get? b=some o)->h'.get? D=some (seqObj "list" (List.toArray (xs.map (·.2))) c)->xs.Perm (vs.zip vs)->(xs.Pairwise λx y=>num s.heap B x<=num s.heap B y)->Q (.ref D) { s with heap:=h',toks:=tk }):
 wpAny (model prog w) A (call (.builtin "sorted") [.ref l]) Q E s:=by
 have big:(100000:Nat)+1<=sizeLine:=by rw[sizeLine_eq];lia
 refine Calls.call_function_entry kind_sorted plain_sorted entry_sorted (args_sorted1 _) ?_;unfold Builtin.«sorted»;refine Aa (m:=checkCount "sorted" 1 1 _)<|Ag ?_;refine Aa<|collect_list hl ?_ (by lia);refine Aa<|wpAny_newList ?_ (by lia);obtain⟨g,C⟩:∃g,g=(s.heap.push<|seqObj "list" #[] 0).update s.heap.objs.size (Obj.mapSeq (· ++ vs.toArray)):=⟨_,rfl⟩;have gs:g.objs.size=s.heap.objs.size+1:=by rw[C,Heap.size_update,size_push']
 have gk:∀b o,s.heap.get? b=some o->g.get? b=some o:=λb o q=>by have I:b<s.heap.objs.size:=r4 q;rw[C,Heap.get?_update_ne _ _ _ _<|A4 I];exact qy _ q
 show wpAny _ _ _ _ _ { s with heap:=((s.heap.push<|seqObj "list" #[] 0).update s.heap.objs.size (Obj.mapSeq (· ++ vs.toArray))).push (seqObj "list" vs.toArray 0) };rw[<-C];have J:(g.push<|seqObj "list" vs.toArray 0).get? g.objs.size=some (seqObj "list" vs.toArray 0):=sy _ rfl;have keep:∀b o,s.heap.get? b=some o->(g.push<|seqObj "list" vs.toArray 0).get? b=some o:=λb o q=>qy _<|gk b o q;have kT:∀v∈vs,eM (g.push<|seqObj "list" vs.toArray 0) B v:=λv hv=>by obtain⟨a,o,m,r,p,t,u,U,j,r'⟩:=hk v hv;exact⟨a,o,m,r,p,t,u,U,keep _ _ j,r'⟩
 have nk:∀x∈vs.zip vs,num (g.push<|seqObj "list" vs.toArray 0) B x=num s.heap B x:=λx T=>by obtain⟨a,o,m,r,p,t,u,U,j,e3,e4,_⟩:=hk _ (dS T).1;rw[num_of U j e4,num_of U (keep _ _ j) e4]
 refine Aa<|A1<|wpAny_call_entry slot_list_sort ⟨_,J,rfl⟩ entry_list_sort ?body<|args_list_sort _
 case body=>
  refine ag9 (s:={ s with heap:=g.push (seqObj "list" vs.toArray 0) }) J hz kT λh' tk xs c k1 hD pm pw=>?_;refine⟨_,rfl,Ag ⟨_,rfl,h h' tk xs g.objs.size c (by rw[gs];exact CY _) (λb o q=>k1 b o ?_<|keep b o q) hD pm ?_⟩⟩
  ·have I:b<s.heap.objs.size:=r4 q;intro z;rw[z,gs] at I;exact Nat.not_succ_lt_self I
  ·refine Cy (λ{x y} T hy z=>?_) pw;rw[nk x<|pm.mem_iff.mp T,nk y<|pm.mem_iff.mp hy] at z;exact z
end
end TS
namespace L2
open PySem PySem.Spec PyProof.Rows
theorem oF(f:α->β):∀{l m:List β},l.Perm m->∀{T:List α},T.map f=m->∃U:List α,U.Perm T/\U.map f=l:=by
 intro l m p
 induction p with
 |nil=>intro T e;exact⟨T,BI _,e⟩
 |cons x _ o=>
  intro T e;cases T with
  |nil=>cases e
  |cons t r=>
   rw[AF] at e;obtain⟨I,J⟩:=CO e;obtain⟨U,C,e'⟩:=o J;exact⟨t::U,C.cons t,by rw[AF,e',I]⟩
 |swap x y l=>
  intro T e
  match T,e with
  |t::u::r,e=>
   rw[AF,AF] at e;obtain⟨I,J⟩:=CO e;obtain⟨e3,e4⟩:=CO J;exact⟨u::t::r,List.Perm.swap t u r,by rw[AF,AF,I,e3,e4]⟩
 |trans _ _ g j=>
  intro T e;obtain⟨T1,p1,I⟩:=j e;obtain⟨T2,p2,J⟩:=g I;exact⟨T2,p2.trans p1,J⟩
theorem gE{α β I:Type}{R:β->I->Prop}{g:α->β}{h:α->I}:∀{T:List α},(∀t∈T,R (g t)<|h t)->Paired R (T.map g) (T.map h)
 |[],_=>.nil
 |t::_,k=>.cons (k t<|Av ..)<|gE λu J=>k u<|Af _ J
theorem pP{J:Type}{R:α->β->Prop}{S:α->J->Prop}:∀{xs:List α} {ys:List β} {zs:List J},Paired R xs ys->Paired S xs zs->∃T:List (α×β×J),T.map (·.1)=xs/\T.map (λt=>t.2.1)=ys/\T.map (λt=>t.2.2)=zs/\∀t∈T,R t.1 t.2.1/\S t.1 t.2.2
 := by
 intro xs ys zs p q
 induction p generalizing zs with
 |nil=>cases q;exact⟨[],rfl,rfl,rfl,λt I=>by cases I⟩
 |cons r p l=>
  cases q with
  |cons q o=>
   rename_i x y U g z j;obtain⟨T,C,e2,e3,k⟩:=l o;refine⟨(x,y,z)::T,by rw[AF,C],by rw[AF,e2],by rw[AF,e3],λt I=>?_⟩;rcases An.mp I with rfl|I
   ·exact⟨r,q⟩
   ·exact k t I
theorem sF{α β:Type}{f:α->β}:∀{l:List α},(∀x∈l,∀y∈l,f x=f y->x=y)->l.Nodup->(l.map f).Nodup
 |[],_,_=>DX
 |a::r,h,n=>by obtain⟨J,U⟩:=AE.mp n;rw[AF];refine AE.mpr ⟨λz=>?_,sF (λx g y I=>h x (Af _ g) y<|Af _ I) U⟩;obtain⟨y,I,e⟩:=B0.mp z;have:=h y (Af _ I) a (Av ..) e;exact J<|this▸I
def wR(p q:Int×Int):Prop:=p.1<q.1\/(p.1=q.1/\p.2<=q.2)
abbrev xB(K:Ah)(H:Hp)(v:V)(p:Int×Int):Prop:=∃a,v=.ref a/\dU K H a [.int p.1,.int p.2]
theorem amr{p q:Int×Int}(J:0<=p.2/\p.2<B)(U:0<=q.2/\q.2<B)(h:p.1*B+p.2<=q.1*B+q.2):wR p q:=by
 unfold wR;by_cases c:p.1<q.1
 ·exact .inl c
 ·right;by_cases d:q.1<p.1
  ·have I:(q.1+1)*B<=p.1*B:=CD (by assumption) (by lia);rw[ED,Int.one_mul] at I;omega
  ·have e:p.1=q.1:=by lia
   rw[e] at h;exact⟨e,by lia⟩
def amh(X:Cx):List V->Hp->VK->Prop:=λxs H Q=>∃l ys ps,xs=[.ref l]/\aI X.K H l ys/\Paired (xB X.K H) ys ps/\(∀p∈ps,0<=p.2/\p.2<1000000)/\ps.Nodup/\ys.length<=100000/\
 ∀D zs qs,H D=none->Paired (xB X.K H) zs qs->qs.Perm ps->qs.Pairwise wR->Q (.ref D) (upd H D<|.lst zs)
theorem wJ:jo X (.builtin "sorted") (amh X):=by
 intro a4 s σ H xs us Q I r h;obtain⟨l,ys,ps,rfl,hl,pr,hb,hnd,a1,q⟩:=h;obtain⟨u,rfl,ru⟩:=r.one;cases (show u=Value.ref l from ru);obtain⟨p,rv,pl,hz⟩:=I.list hl;have l1:ys.length=p.length:=rv.length;obtain⟨T,e1,e2,e3,kT⟩:=pP rv pr;have U:∀t∈T,(∃a o n g j,t.2.1=Value.ref a/\s.heap.get? a=some o/\o.cls=.type "tuple" /\ o.data=.seq #[.int t.2.2.1 g,.int t.2.2.2 j] n)/\0<=t.2.2.2/\t.2.2.2<1000000:=λt J=>by obtain⟨r1,a,ea,hs⟩:=kT t J;obtain⟨a5,a2,⟨o,g1,g2,n,g3⟩,_⟩:=I.tuple hs;obtain⟨w1,w2,rfl,x1,x2⟩:=a2.two;obtain⟨g,rfl⟩:=(show ∃g,w1=Value.int t.2.2.1 g from x1);obtain⟨j,rfl⟩:=(show ∃j,w2=Value.int t.2.2.2 j from x2);rw[ea] at r1;refine⟨⟨a,o,n,g,j,r1,g1,g2,g3⟩,?_⟩;exact hb _ (by rw[<-e3];exact Di (f:=λt:V×Value×(Int×Int)=>t.2.2) J)
 have nT:∀t∈T,TS.num s.heap 1000000 (t.2.1,t.2.1)=t.2.2.1*1000000+t.2.2.2:=λt J=>by obtain⟨⟨a,o,n,g,j,g0,g1,g2,g3⟩,_⟩:=U t J;exact TS.num_of g0 g1 g3
 have ez:p.zip p=T.map λt=>(t.2.1,t.2.1):=by rw[<-e2,List.zip_map']
 refine jq I.tk (TS.w_sorted (B:=1000000) pl.isList (by rw[<-l1];exact a1) (λv hv=>?_) λh' tk ks D c hD hk hg pm pw J=>?_)
 ·rw[<-e2] at hv;obtain⟨t,J,rfl⟩:=B0.mp hv;obtain⟨⟨a,o,n,g,j,g0,g1,g2,g3⟩,b1,b2⟩:=U t J;exact⟨a,o,n,_,_,g,j,g0,g1,g2,g3,b1,b2⟩
 ·rw[ez] at pm;obtain⟨T',pT,eT⟩:=oF _ pm rfl;subst eT;have C:∀t,t∈T'->t∈T:=λt=>pT.mem_iff.mp;have a3:=Cv.mp pw;refine⟨.ref D,_,I.laid (t':=tk) (o:=.lst (T'.map (·.1))) hk hD ?_,rfl,q D (T'.map (·.1)) (T'.map λt=>t.2.2) (I.hok.fresh hD) (gE λt J=>(kT t<|C t J).2) ?_ ?_⟩
  ·refine⟨?_,T'.map λt=>t.2.1,c,gE λt J=>(kT t<|C t J).1,?_⟩
   ·rw[Ae,pT.length_eq];have:T.length=ys.length:=by rw[<-e1,Ae]
    rw[this];exact hz
   ·rw[hg,Cu];rfl
  ·rw[<-e3];exact pT.map _
  ·refine Cv.mpr<|Cy (λ{x y} hx hy z=>?_) a3;rw[nT x<|C x hx,nT y<|C y hy] at z;exact amr (U x<|C x hx).2 (U y<|C y hy).2 z
end L2
namespace L3
open PySem L2
def prY(p:Int×Int):Y:=.tup [.int p.1,.int p.2]
theorem uH{G:G3}{H:Hp}:∀{ps:List<|Int×Int} {xs:List V},v3 G H (ps.map prY) xs->Paired (xB G.K H) xs ps
 |[],_,h=>by cases (show _=[] from h);exact .nil
 |p::r,_,ψ=>by obtain⟨x,U,e,⟨a,zs,ea,g,j,l,o,I,t,C,T,J,e3⟩,s⟩:=ψ;subst e ea o T e3;cases (show j=V.int p.1 from I);cases (show t=V.int p.2 from J);exact .cons ⟨a,rfl,g⟩<|uH s
theorem abl :∀{ps:List<|Int×Int} {xs:List V},Paired (xB G.K H) xs ps->v3 G H (ps.map prY) xs:=by
 intro ps xs h
 induction h with
 |nil=>exact rfl
 |cons z t I=>
  obtain⟨a,ea,J⟩:=z;subst ea;exact⟨_,_,rfl,⟨a,_,rfl,J,_,_,rfl,rfl,_,_,rfl,rfl,rfl⟩,I⟩
def xp(xs:List Y)(L:qr)(Q:YK):Prop:=match xs with
 |[.ref a]=>fM L a λys=>∃ps:List (Int×Int),ys=ps.map prY/\(∀p∈ps,0<=p.2/\p.2<1000000)/\ps.Nodup/\ps.length<=100000/\∀(D:Addr) (qs:List<|Int×Int),L D=none->qs.Perm ps->qs.Pairwise wR->Q (.ref D) (qj L D<|.lst<|qs.map prY)
 |_=>False
theorem wu:bootBuiltins "sorted"=some (.builtin "sorted"):=by decide +kernel
theorem br :jo X (.builtin "sorted") (upL X.g3 xp):=EZ wJ λxs H Q ys L Q3 g J z k=>by
 unfold xp at z;split at z
 ·rename_i a;obtain⟨j,e,l,rfl,o,hnd,I,z⟩:=kn z;obtain⟨p,t,r⟩:=J a _ e;obtain⟨u,rfl,C⟩:=g.inv1;cases (show u=V.ref a from C);have T:=uH r;exact⟨a,p,l,rfl,aI.of t,T,o,hnd,by rw[<-r.length,Ae];exact I,λD j qs U pz pm pw=>k _ _ _ _ (EM U) (J.newL U<|abl pz) (by rfl)<|z D qs (J.none U) pm pw⟩
 ·exact z.elim
open PySem L2 Words
def nY(hs:List Nat):List Y:=hs.map λn:Nat=>.int (n:Int)
theorem dE(hs:List Nat):(nY hs).length=hs.length:=by unfold nY;rw[Ae]
theorem xN(h:j<n):ym n (j:Int)=some j:=by unfold ym;rw[AA (by exact AY _),AA (by omega)];rfl
theorem bL{a p:Addr}{o:LO}(h:qj L a o p=none):L p=none:=by
 by_cases c:p=a
 ·subst c;rw[q9] at h;cases h
 ·rw[qg c] at h;exact h
theorem i8{a:Addr}{o:LO}(h:L a=some o):qj L a o=L:=by
 funext b;unfold qj;split
 ·rename_i e;rw[e,h]
 ·rfl
theorem je{l:List α}{x:α}(h:l[i]?=some x):i<l.length:=(AK.mp h).1
noncomputable def nI(I:zp):RD "parts_of" gG 1 ["knot"] (λV=>q1_ V I):=⟨_,λV B c _ _ _ _ _ _ _ J hN U=>(qa (zq (aS<|mS (iT<|qv 0)<|fu<|w6<|C_ c J<|xj<|qv 0) (qf<|za<|js wo) z0)<|qf<|za<|js<|xr (J_ 0)<|J_ 0)⟩
noncomputable def vT(I:zp):vt:=(nI I).1
def nu:Option Kn->Y
 |none=>.non
 |some k=>qV k
abbrev vh(ks:List<|Option Kn):List Y:=ks.map nu
def jx:Option Kn->List Nat
 |some (.nd _ i j)=>[i,j]
 |_=>[]
def eE:zp:=λys L Q=>∃k:Option Kn,ys=[nu k]/\∀p,L p=none->Q (.ref p) (qj L p<|.lst<|nY<|jx k)
theorem ab9:∀ys L Q,eE ys L Q->vo (vT bN) 1 ys L Q:=by
 rintro ys L Q ⟨k,rfl,q⟩;cases k with
 |none=>exactλp I=>x9<|q p I
 |some k=>
  cases k with|lf t n=>exact⟨true,t,_,rfl,λp I=>x9<|q p I⟩|nd e i j=>exact⟨false,e,_,rfl,λp I=>x9<|q p I⟩
theorem ug(a b:List Nat):nY (a++b)=nY a++nY b:=by unfold nY;rw[AH]
theorem aay{hs:List Nat}(h:(nY hs)[i]?=some y):∃n,hs[i]?=some n/\y=.int (n:Int):=by unfold nY at h;rw[Aq] at h;obtain⟨n,I,J⟩:=Ax.mp h;exact⟨n,I,J.symm⟩
abbrev vi(a l c:Addr):Y:=.tup [.ref a,.ref l,.ref c]
theorem aqq(a b:Nat):min (a:Int) (b:Int)=((min a b:Nat):Int):=by omega
theorem at0(a b:Nat):max (a:Int) (b:Int)=((max a b:Nat):Int):=by omega
def vU(p:Nat×Nat):Y:=.tup [.int ((p.1:Nat):Int),.int ((p.2:Nat):Int)]
abbrev qu(l:List<|Nat×Nat):List Y:=l.map vU
end L3
namespace TS
open PySem PyProof.Rows PySem.W PySem.Calls
section
variable {w:World}
abbrev keyBody(kx px:Str)(p1 p2 p3 p4 p5:Pos)(n:Nat):Expr:=.Tuple [.Subscript (.Name kx p1) (.Name px p2) p3,.Name px p4] n p5
structure mB(h:Heap)(f:Addr)(kx px:Str)(scope:Scope)(kvs:List Value):Prop where
 ex:∃(name eH:Str) (params:Arguments) (p1 p2 p3 p4 p5:Pos) (n:Nat) (pm ctv:Value) (c' cell k:Addr),h.get? f=some (kla_obj name eH params (keyBody kx px p1 p2 p3 p4 p5 n) scope [(kx,cell)] pm c' ctv)/\h.CodeRec (.ref c') eH/\
  h.IsCell cell (some<|.ref k)/\h.IsList k kvs.toArray/\∀v:Value,bindArgs (kla_fn name eH params (keyBody kx px p1 p2 p3 p4 p5 n) scope [(kx,cell)] pm (.ref c') ctv) ⟨[v],[]⟩=pure [(px,v)]
 lim:h.NoLimit
structure KeySc(scope:Scope)(kx px:Str):Prop where
 kind:scope.kind=.function
 co:scope.isCoroutine=false
 gen:scope.isGenerator=false
 nc:∀x∈scope.names,x.2≠.cell
 lp:scope.names.lookup px=some .local
 lk:scope.names.lookup kx=some .free
 d1:(kx==("__debug__" : Str))=false
 d2:(px==("__debug__" : Str))=false
 d3:(kx==("__classdict__" : Str))=false
theorem mB.keeps{kvs:List Value}(k:mB h f kx px scope kvs)(J:∀b o,h.get? b=some o->h'.get? b=some o):mB h' f kx px scope kvs:=by
 obtain⟨name,U,I,p,r,t,C,T,n,pm,l,c',cell,kk,g1,g2,g3,g4,g5⟩:=k.ex;refine⟨⟨name,U,I,p,r,t,C,T,n,pm,l,c',cell,kk,J _ _ g1,?_,?_,?_,g5⟩,k.lim.keeps J⟩
 ·obtain⟨c,oc,vs,tq,g,j,e3⟩:=g2;exact⟨c,oc,vs,tq,g,J _ _ j,e3⟩
 ·obtain⟨o,g,j⟩:=g3;exact⟨o,J _ _ g,j⟩
 ·obtain⟨o,g,j⟩:=g4;exact⟨o,J _ _ g,j⟩
theorem aph{kvs:List Value}{u t:Tok}{r:Int}(K:mB s.heap f kx px scope kvs)(S:KeySc scope kx px)(U:A.depth<recursionLimit)(hi:kvs[i]?=some (.int r t))(a1:i<2 ^ 40)
 (h:∀h' tk a,(∀b o,s.heap.get? b=some o->h'.get? b=some o)->h'.get? a=some { cls:=.type "tuple",data:=.seq #[.int r t,.int (i:Int) u] }->Q (.ref a) { s with heap:=h',toks:=tk }):
 wpAny (model prog w) A (call (.ref f) [.int (i:Int) u]) Q E s:=by
 obtain⟨name,I,l,p1,p2,p3,p4,p5,n,pm,a2,p,cell,kk,g1,g2,g3,g4,g5⟩:=K.ex;refine wpAny_call<|kla_callFunE U g1 rfl S.co S.gen rfl g2 ?_;rw[g5];refine Ag (wpAny_newFunctionEnv S.nc (λx hx=>by rw[Al.mp hx];exact S.lp) (λJ g j=>⟨K.lim.fresh _ j,?_⟩) S.kind);have C:∀b o,s.heap.get? b=some o->J.get? b=some o:=λb o e=>j.extBut b o (A4<|r4 e)<|qy _ e;show codeAny _ _ (.expr _<|envX I scope s.heap.objs.size f (.ref p) [(kx,cell)]) _ _;refine kla_codeExpr ?_;have look:(([(px,Value.int (i:Int) u)]:List<|Str×Value).reverse.lookup px)=some (.int (i:Int) u):=by simp
 have kf:(envX I scope s.heap.objs.size f (.ref p) [(kx,cell)]).kindOf kx=some .free:=S.lk;have kp:(envX I scope s.heap.objs.size f (.ref p) [(kx,cell)]).kindOf px=some .local:=S.lp;have cl:(envX I scope s.heap.objs.size f (.ref p) [(kx,cell)]).cells.lookup kx=some cell:=by show([(kx,cell)]:List<|Str×Addr).lookup kx=_;simp
 have ic:J.IsCell cell (some<|.ref kk):=by obtain⟨o,T,e2⟩:=g3;exact⟨o,C _ _ T,e2⟩
 have il:J.IsList kk kvs.toArray:=by obtain⟨o,T,e2⟩:=g4;exact⟨o,C _ _ T,e2⟩
 refine wpAny_Tuple_spliced<|DT<|Subscript_<|wpAny_Name (wpAny_loadName_free S.kind kf cl ic (wpAny_Name (wpAny_loadName_local S.kind kp g look ?_) S.d2) S.d3) S.d1;refine item_listL il (by exact AY _) (by omega) (by rw[show((i:Nat):Int).toNat=i from rfl];exact hi) ?_;refine DT<|wpAny_Name (wpAny_loadName_local S.kind kp g look ?_) S.d2;refine Fa ⟨by show 2<=sizeLine;decide,?_⟩;exact h _ _ _ (λb o e=>qy _<|C b o e)<|sy _ rfl
end
theorem adm(f:α->β):∀{l m:List β},l.Perm m->∀{T:List α},T.map f=m->∃U:List α,U.Perm T/\U.map f=l:=by
 intro l m p
 induction p with
 |nil=>intro T e;exact⟨T,BI _,e⟩
 |cons x _ o=>
  intro T e;cases T with
  |nil=>cases e
  |cons t r=>
   rw[AF] at e;obtain⟨I,J⟩:=CO e;obtain⟨U,C,e'⟩:=o J;exact⟨t::U,C.cons t,by rw[AF,e',I]⟩
 |swap x y l=>
  intro T e
  match T,e with
  |t::u::r,e=>
   rw[AF,AF] at e;obtain⟨I,J⟩:=CO e;obtain⟨e3,e4⟩:=CO J;exact⟨u::t::r,List.Perm.swap t u r,by rw[AF,AF,I,e3,e4]⟩
 |trans _ _ g j=>
  intro T e;obtain⟨T1,p1,I⟩:=j e;obtain⟨T2,p2,J⟩:=g I;exact⟨T2,p2.trans p1,J⟩
def itV(x:Nat×Tok):Value:=.int (x.1:Int) x.2
def alr(h:Heap)(kS:Addr)(rk:Nat->Int)(k:Value)(x:Nat×Tok):Prop:=∃a t u,k=.ref a/\a≠kS/\h.get? a=some { cls:=.type "tuple",data:=.seq #[.int (rk x.1) t,.int (x.1:Int) u] }
def jM(h:Heap)(kS:Addr)(rk:Nat->Int):List Value->List (Nat×Tok)->Prop
 |[],[]=>True
 |k::ks,x::xs=>alr h kS rk k x/\jM h kS rk ks xs
 |_,_=>False
theorem jM.len{h:Heap}{kS:Addr}{rk:Nat->Int}:∀{ks:List Value} {xs:List<|Nat×Tok},jM h kS rk ks xs->ks.length=xs.length
 |[],[],_=>rfl
 |_::_,_::_,ψ=>by obtain⟨_,b⟩:=ψ;rw[AM,AM,jM.len b]
 |[],_::_,z=>z.elim
 |_::_,[],z=>z.elim
theorem jM.mem{h:Heap}{kS:Addr}{rk:Nat->Int}:∀{ks:List Value} {xs:List<|Nat×Tok},jM h kS rk ks xs->∀t∈ks.zip xs,alr h kS rk t.1 t.2
 |[],[],_,t,I=>by cases I
 |_::_,_::_,ψ,t,I=>by
  obtain⟨a,b⟩:=ψ
  rw[List.zip_cons_cons] at I;rcases An.mp I with rfl|I
  ·exact a
  ·exact jM.mem b t I
 |[],_::_,z,_,_=>z.elim
 |_::_,[],z,_,_=>z.elim
section
variable {w:World}
theorem aez{g:Heap}{f:Addr}{kx px:Str}{scope:Scope}{kvs:List Value}{kS:Addr}{rk:Nat->Int}{body:Value->PUnit->Sem (ForInStep PUnit)}(K:mB g f kx px scope kvs)(S:KeySc scope kx px)(I:A.depth<recursionLimit)(hn:g.get? kS=none)
 (hb:∀(x:Value) (s:Shared) (Q':ForInStep PUnit->Shared->Prop),wpAny (model prog w) A (call (.ref f) [x]) (λk s'=>wpAny (model prog w) A (Builtin.List.listUpdate (.ref kS) (·.push k)) (λ_ C=>Q' (.yield ⟨⟩) C) E s') (λ_ _=>False) s->wpAny (model prog w) A (body x ⟨⟩) Q' E s):
 ∀(ps:List<|Nat×Tok) (ks:List Value) (e:Nat) (s:Shared) (Q:PUnit->Shared->Prop),(∀b o,g.get? b=some o->s.heap.get? b=some o)->s.heap.get? kS=some (seqObj "list" ks.toArray e)->ks.length+ps.length<=100000->
  (∀x∈ps,x.1<2 ^ 40/\∃t,kvs[x.1]?=some (.int (rk x.1) t))->
  (∀h' tk j T,(∀b o,b≠kS->s.heap.get? b=some o->h'.get? b=some o)->h'.get? kS=some (seqObj "list" (ks++j).toArray T)->jM h' kS rk j ps->Q ⟨⟩ { s with heap:=h',toks:=tk })->
  wpAny (model prog w) A (forIn (ps.map itV) PUnit.unit body) Q E s
 |[],ks,e,s,Q,hg,hk,hz,hp,q=>by rw[Ds,Dt];exact Ag (q s.heap s.toks [] e (λ_ _ _ h=>h) (by rw[AD];exact hk) trivial)
 |x::r,ks,e,s,Q,hg,hk,hz,hp,q=>by
  rw[AF,Cr];rw[AM] at hz;obtain⟨a1,t,ht⟩:=hp x<|Av ..;have big:(100000:Nat)+1<=sizeLine:=by rw[sizeLine_eq];exact DJ _ _
  refine Aa<|hb (itV x) s _<|aph (K.keeps hg) S I ht a1 λh1 l a k1 ha=>?_;have J:h1.get? kS=some (seqObj "list" ks.toArray e):=k1 _ _ hk;have s1:=wh h1 kS (Obj.mapSeq (·.push (.ref a)));have ea:ks.toArray.push (.ref a)=List.toArray (ks++[.ref a]):=by simp
  obtain⟨c2,a2⟩:∃c2,(h1.update kS (Obj.mapSeq (·.push (.ref a)))).get? kS=some (seqObj "list" (List.toArray<|ks++[.ref a]) c2):=⟨_,by rw[<-ea];exact get?_update_seq J (·.push (.ref a))⟩;have p:a≠kS:=λz=>by
   rw[z,J] at ha;have:=BG (λo:Option Obj=>o.map (·.cls)) ha;have z2:some (Value.type "list")=some (Value.type "tuple"):=this;injection z2 with z3
   injection z3 with z4
   exact absurd z4 (by decide)
  refine listUpdate_at (s:={ s with heap:=h1,toks:=l }) J rfl ?_ (by rw[Au];lia) (A0 (Nat.le_of_eq<|Bp ..) (by rw[Au];lia));refine aez K S I hn hb r (ks++[.ref a]) c2 { s with heap:=h1.update kS (Obj.mapSeq (·.push (.ref a))),toks:=l } Q (λb o e=>?_) a2 (by rw[Ac,CP];lia) (λy hy=>hp y<|Af _ hy) λh' tk j T kk a3 vs=>?_
  ·have nb:b≠kS:=λz=>by rw[z,hn] at e;cases e
   exact(s1.2 b nb).trans (k1 b o<|hg b o e)
  ·have U:∀b o,b≠kS->h1.get? b=some o->h'.get? b=some o:=λb o nb e=>kk b o nb<|(s1.2 b nb).trans e;refine q h' tk (.ref a::j) T (λb o nb e=>U b o nb<|k1 b o e) (by rw[a3,Aw];rfl) ⟨⟨a,t,x.2,rfl,p,U a _ p ha⟩,vs⟩
end
section
variable {w:World}
theorem alm{g:Heap}{kvs:List Value}{kS a:Addr}{rk:Nat->Int}{ps:List<|Nat×Tok}{e1 e0:Nat}{P:PySem.Fin->Shared->Prop}(K:mB g f kx px scope kvs)(S:KeySc scope kx px)(I:A.depth<recursionLimit)(hn:g.get? kS=none)
 (hg:∀b o,g.get? b=some o->s.heap.get? b=some o) (hk:s.heap.get? kS=some (seqObj "list" #[] e0)) (ha:s.heap.get? a=some (seqObj "list" #[] e1)) (l:kS≠a) (hz:ps.length<=100000)
 (hp:∀x∈ps,x.1<2 ^ 40/\∃t,kvs[x.1]?=some (.int (rk x.1) t)) (hB:∀x∈ps,((x.1:Nat):Int)<B) (nd:(ps.map (·.1)).Nodup)
 (h:∀h' tk (qs:List<|Nat×Tok) c,(∀b o,b≠kS->b≠a->s.heap.get? b=some o->h'.get? b=some o)->h'.get? a=some (seqObj "list" (qs.map itV).toArray c)->qs.Perm ps->(qs.Pairwise λx y=>rk x.1*B+(x.1:Int)<=rk y.1*B+(y.1:Int))->P (.done<|.ret .none) { s with heap:=h',toks:=tk }):
 wpAny (model prog w) A (ksk_rest a (.ref f) false (ps.map itV).toArray e1<|.ref kS) P E s:=by
 have big:(100000:Nat)+1<=sizeLine:=by rw[sizeLine_eq];exact DJ _ _
 unfold ksk_rest;refine Aa<|BA ?_;rw[List.forIn_toArray];refine Aa<|aez (rk:=rk) K S I hn (λx s' Q' hx=>?_) ps [] e0 s _ hg hk (by simpa using hz) hp λh' tk ks e' keep J kv=>?_
 ·refine Aa (wpAny_attempt<|AX hx (λk a5 hk=>?_) λ_ _ hF=>hF.elim)
  try dsimp only
  exact Aa<|AX hk (λ_ s3 q=>Ag q) λ_ _ e=>e
 ·try dsimp only
  rw[Cs] at J;refine Aa<|listItems_at (s:={ s with heap:=h',toks:=tk }) J rfl ?_;have a1:h'.get? a=some (seqObj "list" #[] e1):=keep _ _ (AJ l) ha;have len:ks.length=ps.length:=kv.len;obtain⟨T,C⟩:∃T,T=ks.zip ps:=⟨_,rfl⟩;have kT:∀t∈T,alr h' kS rk t.1 t.2:=λt p=>kv.mem t<|C▸p;have e2:T.map (·.2)=ps:=by rw[C];exact List.map_snd_zip (by lia)
  have ez:ks.zip (ps.map itV)=T.map λt=>(t.1,itV t.2):=by rw[C,List.zip_map_right];rfl
  have mp:∀t∈T,t.2∈ps:=λt p=>by rw[<-e2];exact Di p
  have nT:∀t∈T,num h' B (t.1,itV t.2)=rk t.2.1*B+(t.2.1:Int):=λt p=>by obtain⟨b,tt,u,r,x2,x3⟩:=kT t p;exact num_of r x3 rfl
  have ac:∀x∈ps,(0:Int)<=((x.1:Nat):Int):=λ_ _=>by exact AY _
  refine anu (s:={ s with heap:=h',toks:=tk }) (vs:=ps.map itV) (ks:=ks) (B:=B) J a1 l (by rw[Ae];exact len) (by rw[Ae];exact yV) (λv hv=>?_) λh2 a2 xs c U hc pm pw=>?_
  ·obtain⟨j,hj⟩:=DF hv;have a3:j<ps.length:=by rw[<-len];exact(AK.mp hj).1
   have hm:(v,ps[j])∈T:=by rw[C];refine List.mem_iff_getElem?.mpr ⟨j,?_⟩;rw[Eb];exact⟨hj,Ak a3⟩
   obtain⟨b,tt,u,r,x2,x3⟩:=kT _ hm;have r:v=.ref b:=r;exact⟨b,_,_,_,_,tt,u,r,x3,rfl,rfl,by exact AY _,hB _<|mp _ hm⟩
  ·rw[ez] at pm;obtain⟨T',pT,a4⟩:=adm _ pm rfl;subst a4;have mT:∀t,t∈T'->t∈T:=λt=>pT.mem_iff.mp;refine h h2 a2 (T'.map (·.2)) c (λb o n1 n2 e=>?_) ?_ ?_ ?_
   ·rw[U b n1 n2];exact keep b o n1 e
   ·rw[hc,Cu,Cu];rfl
   ·rw[<-e2];exact pT.map _
   ·refine Cv.mpr<|Cy (λ{x y} hx hy z=>?_)<|Cv.mp pw;rw[nT x<|mT x hx,nT y<|mT y hy] at z;exact z
theorem w_sortedK{kvs:List Value}{rk:Nat->Int}{ps:List<|Nat×Tok}(K:mB s.heap f kx px scope kvs)(S:KeySc scope kx px)(j:A.in1.in1.depth<recursionLimit)
 (hl:s.heap.IsList l (ps.map itV).toArray) (hz:ps.length<=100000)
 (hp:∀x∈ps,x.1<2 ^ 40/\∃t,kvs[x.1]?=some (.int (rk x.1) t)) (hB:∀x∈ps,((x.1:Nat):Int)<B) (nd:(ps.map (·.1)).Nodup)
 (h:∀h' tk (qs:List<|Nat×Tok) D c,s.heap.objs.size<=D->(∀b o,s.heap.get? b=some o->h'.get? b=some o)->h'.get? D=some (seqObj "list" (qs.map itV).toArray c)->qs.Perm ps->(qs.Pairwise λx y=>rk x.1*B+(x.1:Int)<=rk y.1*B+(y.1:Int))->Q (.ref D) { s with heap:=h',toks:=tk }):
 wpAny (model prog w) A (call (.builtin "sorted") [.ref l] [(Str.ofString "key",.ref f)]) Q E s:=by
 have big:(100000:Nat)+1<=sizeLine:=by rw[sizeLine_eq];lia
 have a2:(ps.map itV).length<=100000:=by rw[Ae];exact hz
 refine call_function_entry_kw kind_sorted plain_sorted entry_sorted (ksk_s1 _ _) ?_;unfold Builtin.«sorted»;refine Aa (m:=checkCount "sorted" 1 1 _)<|Ag ?_;refine Aa<|collect_list hl ?_ (by exact yV);refine Aa<|wpAny_newList ?_ (by lia);obtain⟨g1,C⟩:∃g1,g1=(s.heap.push<|seqObj "list" #[] 0).update s.heap.objs.size (Obj.mapSeq (· ++ (ps.map itV).toArray)):=⟨_,rfl⟩;have T:g1.objs.size=s.heap.objs.size+1:=by rw[C,Heap.size_update,size_push']
 have gk:∀b o,s.heap.get? b=some o->g1.get? b=some o:=λb o q=>by have J:b<s.heap.objs.size:=r4 q;rw[C,Heap.get?_update_ne _ _ _ _<|A4 J];exact qy _ q
 show wpAny _ _ _ _ _ { s with heap:=((s.heap.push<|seqObj "list" #[] 0).update s.heap.objs.size (Obj.mapSeq (· ++ (ps.map itV).toArray))).push (seqObj "list" (ps.map itV).toArray 0) };rw[<-C];have I:(g1.push<|seqObj "list" (ps.map itV).toArray 0).get? g1.objs.size=some (seqObj "list" (ps.map itV).toArray 0):=sy _ rfl;have keep:∀b o,s.heap.get? b=some o->(g1.push<|seqObj "list" (ps.map itV).toArray 0).get? b=some o:=λb o q=>qy _<|gk b o q;refine Aa<|A1<|wpAny_call_entry_kw slot_list_sort ⟨_,I,rfl⟩ entry_list_sort ?body<|ksk_l1 _ _
 case body=>
  obtain⟨D,eD⟩:∃D,D=g1.objs.size:=⟨_,rfl⟩;rw[<-eD] at I ⊢;show wpAny (model prog w) A.in1.in1 (Builtin.«list.sort» ⟨[.ref D],[(Str.ofString "key",.ref f)]⟩) _ _ _;rw[ksk_t1];obtain⟨g2,p⟩:∃g2,g2=g1.push (seqObj "list" (ps.map itV).toArray 0):=⟨_,rfl⟩;rw[<-p] at I keep ⊢;have s1:=wh g2 D<|Obj.mapSeq λ_=>(#[]:Array Value);obtain⟨e1,r⟩:∃e1,(g2.update D<|Obj.mapSeq λ_=>(#[]:Array Value)).get? D=some (seqObj "list" #[] e1):=⟨_,get?_update_seq I λ_=>#[]⟩;have nD:∀b o,s.heap.get? b=some o->b≠D:=λb o q z=>by have J:b<s.heap.objs.size:=r4 q;rw[z,eD,T] at J;exact Nat.not_succ_lt_self J
  unfold ksk_tree;refine Aa<|listItems_at (s:={ s with heap:=g2 }) I rfl ?_;refine Aa (listUpdate_at (s:={ s with heap:=g2 }) I rfl ?_ (by rw[Au];exact yV)<|Be _);refine Aa<|seqEpoch_at r rfl ?_;refine Aa (wpAny_newTuple ?_ (by show(ps.map itV).length<=_;lia));refine Aa<|wpAny_newList ?_<|Be _;refine A1 ?_;obtain⟨g3,U⟩:∃g3,g3=(g2.update D<|Obj.mapSeq λ_=>(#[]:Array Value)).push (seqObj "tuple" (ps.map itV).toArray 0):=⟨_,rfl⟩;have k3:∀b o,s.heap.get? b=some o->g3.get? b=some o:=λb o q=>by rw[U];exact qy _<|(s1.2 b<|nD b o q).trans<|keep b o q
  have d3:g3.get? D=some (seqObj "list" #[] e1):=by rw[U];exact qy _ r
  show wpAny (model prog w) A.in1.in1 (ksk_rest D (.ref f) false (ps.map itV).toArray _<|.ref ((g2.update D<|Obj.mapSeq λ_=>(#[]:Array Value)).push<|seqObj "tuple" (ps.map itV).toArray 0).objs.size) _ _ { s with heap:=((g2.update D<|Obj.mapSeq λ_=>(#[]:Array Value)).push<|seqObj "tuple" (ps.map itV).toArray 0).push (seqObj "list" #[] 0) };rw[<-U];have a1:(g3.push<|seqObj "list" #[] 0).get? g3.objs.size=some (seqObj "list" #[] 0):=sy _ rfl;refine alm (s:={ s with heap:=g3.push (seqObj "list" #[] 0) }) (g:=s.heap) (kS:=g3.objs.size) (a:=D) (rk:=rk) (B:=B) K S j (Heap.get?_none_of_le ?_) (λb o q=>qy _<|k3 b o q) a1 (qy _ d3) ?_ hz hp hB nd λh' tk qs c kp hD pm pw=>?_
  ·have l1:g3.objs.size=g1.objs.size+2:=by rw[U,size_push',Heap.size_update,p,size_push']
   rw[l1,T];exact A0 (CY _)<|A7 _ 2
  ·exact(A4<|r4 d3).symm
  ·refine⟨_,rfl,Ag ⟨_,rfl,h h' tk qs D c (by rw[eD,T];exact CY _) (λb o q=>?_) hD pm pw⟩⟩;exact kp b o (A4<|r4<|k3 b o q) (nD b o q)<|qy _<|k3 b o q
end
end TS
namespace L2
open PySem PySem.Spec PyProof.Rows
theorem pi{i j:Int}{t u:Tok}{c:Value}(l:List Value)(h:TriplesOk l):TriplesOk (l++[.int i t,.int j u,c]):=by
 fun_induction TriplesOk l with
 |case1=>trivial
 |case2 _ _ _ _ _ rest I=>exact I h
 |case3=>exact h.elim
theorem wA{i j:Int}{t u:Tok}{c I:Value}(l:List Value)(h:TriplesOk l)(e:codeAmong pos (l++[.int i t,.int j u,c])=some I):codeAmong pos l=some I\/I=c:=by
 fun_induction TriplesOk l with
 |case1=>
  right;have e:(if i==pos.line&&j==pos.col then some c else none)=some I:=e;split at e
  ·cases e;rfl
  ·cases e
 |case2 a _ b _ d rest J=>
  have e:(if a==pos.line&&b==pos.col then some d else codeAmong pos (rest++[.int i t,.int j u,c]))=some I:=e;show(if a==pos.line&&b==pos.col then some d else codeAmong pos rest)=some I\/I=c;split at e
  ·rename_i z;rw[AA z];exact .inl e
  ·rename_i z;rw[Az z];exact J h e
 |case3=>exact h.elim
structure zU(K:Ah)(eK:Value)(P:Addr):Prop where
 ex:∃c oc,eK=.ref c/\K.lookup c=some oc/\∀h:Heap,h.get? c=some oc->PySem.W.CodeHd h c P
 bm:∃bm ob,PySem.W.nsIn K mainGlobals "__builtins__"=some (some<|.ref bm)/\bm≠builtinsNs/\bm≠mainGlobals/\K.lookup bm=some ob/\ob.cls=.type "module" /\ ob.dict=some builtinsNs/\ob.data=.plain
theorem uU:∀{l:List Nat} {us:List Value},zw (l.map λi:Nat=>V.int<|0+(i:Int)) us->∃ps:List (Nat×Tok),us=ps.map TS.itV/\ps.map (·.1)=l
 |[],_,.nil=>⟨[],rfl,rfl⟩
 |i::r,_,.cons (b:=u) h t=>by obtain⟨ps,I,J⟩:=uU (l:=r) t;obtain⟨tk,U⟩:=(show ∃tk,u=Value.int (0+(i:Int)) tk from h);refine⟨(i,tk)::ps,?_,by rw[AF,J]⟩;rw[AF,I,U];show _=Value.int (i:Int) tk::_;rw[B6]
theorem tQ:∀ps:List (Nat×Tok),zw (ps.map λx=>V.int ((x.1:Nat):Int))<|ps.map TS.itV
 |[]=>.nil
 |x::r=>.cons ⟨x.2,rfl⟩<|tQ r
def amf(P:Addr)(q:Str)(J:Nat)(te:TE):TE:=λσ H Q=>te σ H λv H1=>∃l I,∃n:Nat,∃rks:List Int,v=.ref l/\H1 l=some (.lst ((List.range n).map λi:Nat=>V.int<|0+(i:Int)))/\σ[J]?=some (some<|.ref I)/\H1 I=some (.lst<|rks.map V.int)/\rks.length=n/\n<=1000/\rG H1 P q/\
 ∀H2 D (qs:List Nat),(∀b u,b≠P->H1 b=some u->H2 b=some u)->rG H2 P q->H1 D=none->D≠P->H2 D=some (.lst (qs.map λi:Nat=>V.int (i:Int)))->qs.Perm (List.range n)->(qs.Pairwise λi j=>rks.getD i 0*1000000+(i:Int)<=rks.getD j 0*1000000+(j:Int))->Q (.ref D) H2
theorem zM{kk cell:Addr}{J:Arguments}{p:Value}{Q:VK}(I:qw X pins σ H s)(S:TS.KeySc fy kx px)(hr:X.A.depth+3<recursionLimit)
 (hf:s.heap.get? f=some (PySem.W.kla_obj name eH J (TS.keyBody kx px p1 p2 p3 p4 p5 x1) fy [(kx,cell)] pm c' p)) (a1:s.heap.CodeRec (.ref c') eH) (r:s.heap.IsCell cell<|some<|.ref kk)
 (hb:∀v:Value,bindArgs (PySem.W.kla_fn name eH J (TS.keyBody kx px p1 p2 p3 p4 p5 x1) fy [(kx,cell)] pm (.ref c') p) ⟨[v],[]⟩=pure [(px,v)])
 (hl:H l=some (.lst ((List.range n).map λi:Nat=>V.int<|0+(i:Int)))) (hk:H kk=some (.lst<|rks.map V.int)) (hn:rks.length=n) (hz:n<=1000)
 (q:∀D (qs:List Nat),H D=none->qs.Perm (List.range n)->(qs.Pairwise λi j=>rks.getD i 0*1000000+(i:Int)<=rks.getD j 0*1000000+(j:Int))->Q (.ref D) (upd H D<|.lst (qs.map λi:Nat=>V.int (i:Int)))):
 wpAny (model X.prog X.w) X.A (call (.builtin "sorted") [.ref l] [(Str.ofString "key",.ref f)]) (EP X pins σ Q) X.xe s:=by
 obtain⟨a4,rv,pl,_⟩:=I.list<|aI.of hl;obtain⟨g,rk,pk,_⟩:=I.list<|aI.of hk;obtain⟨ps,rfl,U⟩:=uU rv;have lk:g.length=n:=by rw[<-rk.length,Ae,hn]
 have lp:ps.length=n:=by have:=BG List.length U;rwa[Ae,BZ] at this
 have big:(100000:Nat)<=sizeLine:=by decide
 refine jq I.tk<|TS.w_sortedK (rk:=λi=>rks.getD i 0) (B:=1000000) (kvs:=g) ⟨⟨name,eH,J,p1,p2,p3,p4,p5,x1,pm,p,c',cell,kk,hf,a1,r,pk.isList,hb⟩,I.nolimit⟩ S ?_ pl.isList (by lia) (λx hx=>?_) (λx hx=>?_) ?_ λh' tk qs D c hD keep hg T pw ht=>?_
 ·show X.A.depth<recursionLimit;lia
 ·have C:x.1∈List.range n:=by rw[<-U];exact Di hx
  have a2:=A3.mp C;refine⟨by lia,?_⟩;have e1:(rks.map V.int)[x.1]?=some (V.int<|rks.getD x.1 0):=by rw[Aq,Ak (by lia),BB,Ak (by lia)];rfl
  obtain⟨u,e2,r2⟩:=Words.Paired.getP rk e1;obtain⟨t,rfl⟩:=(show ∃t,u=Value.int (rks.getD x.1 0) t from r2);exact⟨t,e2⟩
 ·have C:x.1∈List.range n:=by rw[<-U];exact Di hx
  have a2:=A3.mp C;omega
 ·rw[U];exact C5
 ·have a3:H D=none:=I.hok.fresh hD;refine⟨.ref D,_,I.laid (t':=tk) (o:=.lst ((qs.map (·.1)).map λi:Nat=>V.int (i:Int))) keep hD ?_,rfl,q D (qs.map (·.1)) a3 ?_ ?_⟩
  ·refine⟨?_,qs.map TS.itV,c,?_,hg⟩
   ·rw[Ae,Ae,T.length_eq];lia
   ·rw[Cu];exact tQ qs
  ·rw[<-U];exact T.map _
  ·exact Cv.mpr pw
theorem qw.tabbed{P:Addr}{ps more:Array Value}{oc fo:Obj}{tk:Nat}(I:qw X pins σ H s)(C:H P=some (.tbl ps))(hx:Heap.ExtBut P s.heap h')(U:h'.get? P=some (PySem.W.tabObj<|ps++more))
 (hc:s.heap.objs.size<=c') (g:h'.get? c'=some oc) (ht:0<tk):qw X pins σ (upd (upd H P<|.tbl<|ps++more) c'<|.frz oc<|.own 0) { s with heap:=h'.push fo,toks:=tk }:=by
 have nc:H c'=none:=I.hok.fresh hc;have p:∀b,H b=none->b≠P:=λb e z=>by rw[z,C] at e;cases e
 have j:∀b u,H b=some u->b≠c':=λb u e z=>by rw[z,nc] at e;cases e
 have l:∀b o,s.heap.get? b=some o->b≠c':=λb o e=>A4<|AO (r4 e) hc;have t:∀b o,b≠P->s.heap.get? b=some o->(h'.push fo).get? b=some o:=λb o n e=>qy _<|hx b o n e;have J:∀b u,H b=some u->(∀ps,u≠.tbl ps)->b≠P:=λb u e d z=>by rw[z,C] at e;cases e;exact d _ rfl
 refine I.step (ch:=[]) (g':=s.gens) (d':=s.drawn) (t':=tk) (λ_ z=>nomatch z) (λb o _ _ _ e n=>t b o (p b n) e) (λb o _ _ _ e n=>⟨o.slots,t b o (p b n) e⟩) (λb o _ e n=>?_) (λb o _ e=>?_) (λb xs e=>?_) (λb o u e=>?_) (λb qs e=>?_) (λm hm=>?_) (λb u e=>?_) I.bare ht
 ·rw[ql<|l b o e,ql<|p b n];exact n
 ·by_cases c:b=P
  ·subst c;exact⟨_,qy _ U⟩
  ·exact⟨o,t b o c e⟩
 ·rw[ql<|j b _ e,ql (J b _ e λ_ z=>by cases z)];exact e
 ·rw[ql<|j b _ e,ql (J b _ e λ_ z=>by cases z)];exact e
 ·rw[ql<|j b _ e];by_cases c:b=P
  ·subst c;rw[C] at e;cases e;exact⟨more,zh⟩
  ·rw[ql c];exact⟨#[],by rw[e];simp⟩
 ·exact(hm.extBut hx<|p _ I.free).push _
 ·by_cases c:b=c'
  ·subst c;rw[zh] at e;cases e;exact⟨qy _ g,_,qy _ g⟩
  ·rw[ql c] at e;by_cases d:b=P
   ·subst d;rw[zh] at e;cases e;exact qy _ U
   ·rw[ql d] at e;refine(I.hok b u e).stay (λa v T r=>t a v ?_ r) (λa r=>?_) (λa xs r=>?_)
    ·rcases T with rfl|T
     ·exact d
     ·exact J a _ T λ_ z=>by cases z
    ·rw[ql<|j a _ r,ql (J a _ r λ_ z=>by cases z)];exact r
    ·rw[ql<|j a _ r,ql (J a _ r λ_ z=>by cases z)];exact r
theorem adu{te:TE}{J:Arguments}{U p:Pos}{ik:Nat}{P:Addr}{q:Str}(hg:Gl X "sorted")(hm:X.mg "sorted"=none)(he:PE X e te)(S:TS.KeySc fy kx px)(C:zU X.K X.env.code P)(hr:X.A.depth+3<recursionLimit)
 (hq:X.env.qual ++ "<lambda>" = q) (bp:X.N[ik]?=some kx) (ax:X.env.scope.names.lookup kx=some .cell) (aL:∃cell,X.env.cells.lookup kx=some cell/\closureFor fy X.env=pure [(kx,cell)])
 (ba:defaultsOf J X.env=([],[])) (hb:∀(name eH:Str) (cl:List<|Str×Addr) (pm cd ct v:Value),bindArgs (PySem.W.kla_fn name eH J (TS.keyBody kx px p1 p2 p3 p4 p5 x1) fy cl pm cd ct) ⟨[v],[]⟩=pure [(px,v)])
 (h1:starEach [e] X.env=(false,eval e X.env)::starEach [] X.env:=by rfl) (h2:(backTo pos<|starEach [e] X.env).any (·.1)=false:=by rfl)
 (h3:backTo pos (starEach [e] X.env)=(false,eval e X.env)::backTo pos (starEach [] X.env):=by rfl):
 PE X (.Call (.Name "sorted" p) [e] [⟨some "key",.Lambda J (TS.keyBody kx px p1 p2 p3 p4 p5 x1) fy U,pR⟩] pos) (amf P q ik te):=by
 intro a1 s σ H Q I h;refine wpAny_Call_Name_kw<|fA I hg hm (by decide +kernel:bootBuiltins "sorted"=some (.builtin "sorted")) ?_ (by decide) (by decide);refine PyProof.Rows.callWith_kw ?_ h3 h2;rw[h3];refine DT<|aH (he a1 s σ H _ I h) λv s1 ψ=>?_;obtain⟨x,H1,g,rx,l,kk,n,rks,ev,hl,hs,hk,hn,hz,T,qq⟩:=ψ;refine Fa ?_;subst ev;cases (show v=Value.ref l from rx);show wpAny _ _ (evalAll ((do let v <-eval (.Lambda J (TS.keyBody kx px p1 p2 p3 p4 p5 x1) fy U) X.env;standAt pos;pure v)::[])) _ _ s1;refine wpAny_evalAll_cons<|Aa ?_;obtain⟨cell,a3,au⟩:=aL;obtain⟨c,bq,bb,lc,hC⟩:=C.ex;obtain⟨bm,ob,b1,b2,b3,b4,b5,b6,b7⟩:=C.bm;obtain⟨ac,tP,tok,a4⟩:=T;have bc:s1.heap.Ns mainGlobals X.mg:=g.ok.mod.glob.keeps g.bk;have bd:s1.heap.get? P=some (PySem.W.tabObj ac):=g.hok P _ tP;have bf:PySem.W.CodeHd s1.heap c P:=hC _<|g.kIn c bq lc;have a2:∀b o,X.base.get? b=some o->b≠P:=λb o e z=>by have:=(g.bs b o e).2;rw[z,tP] at this;cases this
 have av:=g.ok.mod.kin bm ob b4;have hB:s1.heap.BuiltinsAt X.mg P:=⟨bm,ob,Bx g.ok.mod.kin g.ok.mod.glob b1,b2,b3,a2 _ _ av,(g.bs _ _ av).1,b5,b6,b7⟩;have bS:mainGlobals≠P:=by obtain⟨o,es,ep,e,hd,_⟩:=g.ok.mod.glob;exact a2 _ _ e
 have a5:s1.heap.IsCell cell (some<|.ref kk):=by
  obtain⟨m,_,cb⟩:=g.loc;obtain⟨u,ru,lk⟩:=cb ik kx _ bp hs<|.inr<|.inl ax;cases (show u=Value.ref kk from ru);rcases lk with⟨k1,_⟩|⟨_,c2,e2,ck⟩
  ·have k1:X.env.scope.names.lookup kx=some .local:=k1;rw[ax] at k1;cases k1
  ·rw[a3] at e2;cases e2;exact ck
 refine PySem.W.kla_eval ba ?_;rw[hq];have x9:∀(s2:Shared) (H2:Hp) (f j:Addr) (r pm:Value),qw X a1 σ H2 s2->s2.heap.get? f=some (PySem.W.kla_obj "<lambda>" q J (TS.keyBody kx px p1 p2 p3 p4 p5 x1) fy [(kx,cell)] pm j r)->s2.heap.CodeRec (.ref j) q->s2.heap.IsCell cell (some<|.ref kk)->
  (∀b u,b≠P->H1 b=some u->H2 b=some u)->rG H2 P q->(∀b,H2 b=none->H1 b=none)->
  wpAny (model X.prog X.w) X.A (do standAt pos;pure (Value.ref f)) (λv s'=>wpAny (model X.prog X.w) X.A (evalAll []) (λvs cm=>wpAny (model X.prog X.w) X.A (call (.builtin "sorted") [.ref l]<|[Str.ofString "key"].zip<|v::vs) (EP X a1 σ Q) X.xe cm) X.xe s') X.xe s2:=by
  intro s2 H2 f j r pm I2 g1 g2 g3 g4 g5 g6;refine Aa<|wpAny_standAt<|Ag<|wpAny_evalAll_nil ?_;have lP:l≠P:=λz=>by rw[z,tP] at hl;cases hl
  have kP:kk≠P:=λz=>by rw[z,tP] at hk;cases hk
  refine zM (n:=n) (rks:=rks) I2 S hr g1 g2 g3 (λv=>hb _ _ _ _ _ _ v) (g4 _ _ lP hl) (g4 _ _ kP hk) hn hz λD qs hD cn pw=>?_;have bg:D≠P:=λz=>by obtain⟨cz,e2,_⟩:=g5;rw[z,e2] at hD;cases hD
  refine qq _ D qs (λb u n e=>?_) ?_ (g6 D hD) bg zh cn pw
  ·rw[ql<|zn (g4 b u n e) hD];exact g4 b u n e
  ·exact g5.keep (ql<|AJ bg) λb o u e=>by rw[ql<|zn e hD];exact e
 cases hf:codeAmong U ac.toList with
 |some cv=>
  obtain⟨j,oc,vs,t,cq,f1,f2,f3⟩:=a4 U cv hf;subst cq;refine jq g.tk<|PySem.W.kla_makeFunctionHit (mg:=X.mg) au g.ok.glob bc bb bf bd tok hf hB λr h' tk bh d0 ht=>?_;have I2:qw X a1 σ H1 { s1 with heap:=h'.push { cls:=.type "function",data:=.func (PySem.W.kla_fn "<lambda>" q J (TS.keyBody kx px p1 p2 p3 p4 p5 x1) fy [(kx,cell)] ((X.mg "__name__").getD .none) (.ref j) r) },toks:=tk }:=g.kept (t':=tk) λb o e=>qy _<|bh b o e;obtain⟨al,_⟩:=I2.hok j _ f1;refine x9 _ H1 _ j r _ I2 (sy _ rfl) ⟨j,oc,vs,t,rfl,al,f2,f3⟩ ?_ (λb u _ e=>e) ⟨ac,tP,tok,a4⟩ λb e=>e;obtain⟨o,e1,e2⟩:=a5;exact⟨o,qy _<|bh _ _ e1,e2⟩
 |none=>
  refine jq g.tk<|PySem.W.kla_makeFunction (mg:=X.mg) au g.ok.glob bc bb bf bd tok hf bS hB λj r h' tk hx bi de bj cw ht=>?_;obtain⟨c2,oc,vs,t,e2,al,f2,f3⟩:=bj;cases e2;have I2:=g.tabbed (fo:=PySem.W.kla_obj "<lambda>" q J (TS.keyBody kx px p1 p2 p3 p4 p5 x1) fy [(kx,cell)] ((X.mg "__name__").getD .none) j r) tP hx cw bi al ht;have nc:H1 j=none:=g.hok.fresh bi;have cP:j≠P:=λz=>by rw[z,tP] at nc;cases nc
  refine x9 _ _ _ j r _ I2 (sy _ rfl) ⟨j,oc,vs,t,rfl,qy _ al,f2,f3⟩ ?_ (λb u n e=>?_) ?_ λb e=>?_
  ·obtain⟨o,e1,e2⟩:=a5;have nP:cell≠P:=λz=>by have:=g.freeC kx cell a3;rw[z,tP] at this;cases this
   exact⟨o,qy _<|hx _ _ nP e1,e2⟩
  ·rw[ql<|zn e nc,ql n];exact e
  ·refine⟨ac++#[rawInt U.line,rawInt U.col,.ref j],by rw[ql<|AJ cP,zh],?_,λbn cv z=>?_⟩
   ·rw[A9];exact pi _ tok
   ·rw[A9] at z;rcases wA _ tok z with z|z
    ·obtain⟨d',od,cy,t',k1,k2,k3⟩:=a4 bn cv z;have nP:d'≠P:=λz=>by rw[z,tP] at k2;cases k2
     exact⟨d',od,cy,t',k1,by rw[ql<|zn k2 nc,ql nP];exact k2,k3⟩
    ·exact⟨j,oc,vs,t,z,zh,f2,f3⟩
  ·by_cases d:b=j
   ·subst d;exact nc
   ·rw[ql d] at e;by_cases d2:b=P
    ·subst d2;rw[zh] at e;cases e
    ·rw[ql d2] at e;exact e
end L2
namespace L3
open PySem L2
def abv(Pt:Addr)(q:Str)(J:Nat)(te:xz)(τ:jn)(L:qr)(Q:YK):Prop:=te τ L λy L1=>match y with
 |.ref l=>fM L1 l λys=>∃(n:Nat) (rks:List Int) (I:Addr),ys=aj 0 n/\aa4 τ J=some (.ref I)/\L1 I=some (.lst<|rks.map Y.int)/\rks.length=n/\n<=1000/\L1 Pt=some (.tb q)/\
  ∀(D:Addr) (qs:List Nat),L1 D=none->qs.Perm (List.range n)->(qs.Pairwise λi j=>rks.getD i 0*1000000+(i:Int)<=rks.getD j 0*1000000+(j:Int))->Q (.ref D) (qj L1 D<|.lst (qs.map λi:Nat=>Y.int (i:Int)))
 |_=>False
theorem oN{G:G3}{H:Hp}:∀{l:List Nat} {xs:List V},v3 G H (l.map λi:Nat=>Y.int<|0+(i:Int)) xs->xs=l.map λi:Nat=>V.int<|0+(i:Int)
 |[],_,h=>h
 |_::_,_,ψ=>by obtain⟨x,I,e,r,s⟩:=ψ;subst e;cases r;rw[oN s];rfl
theorem gv{G:G3}{H:Hp}:∀{l:List Int} {xs:List V},v3 G H (l.map Y.int) xs->xs=l.map V.int
 |[],_,h=>h
 |_::_,_,ψ=>by obtain⟨x,I,e,r,s⟩:=ψ;subst e;cases r;rw[gv s];rfl
theorem uN{G:G3}{H:Hp}:∀qs:List Nat,v3 G H (qs.map λi:Nat=>Y.int (i:Int)) (qs.map λi:Nat=>V.int (i:Int))
 |[]=>rfl
 |_::r=>⟨_,_,rfl,rfl,uN r⟩
theorem aed{I:Arguments}{U p:Pos}{r:Nat}{q:Str}(hg:Gl X "sorted")(hm:X.mg "sorted"=none)(he:QE X e te)(S:TS.KeySc fy kx px)(C:zU X.K X.env.code Pt)(hr:X.A.depth+3<recursionLimit)
 (hq:X.env.qual ++ "<lambda>" = q) (t:X.N[r]?=some kx) (a1:X.env.scope.names.lookup kx=some .cell) (g:∃cell,X.env.cells.lookup kx=some cell/\closureFor fy X.env=pure [(kx,cell)])
 (j:defaultsOf I X.env=([],[])) (hb:∀(name eH:Str) (cl:List<|Str×Addr) (pm cd ct v:Value),bindArgs (PySem.W.kla_fn name eH I (TS.keyBody kx px p1 p2 p3 p4 p5 x1) fy cl pm cd ct) ⟨[v],[]⟩=pure [(px,v)])
 (h1:starEach [e] X.env=(false,eval e X.env)::starEach [] X.env:=by rfl) (h2:(backTo pos<|starEach [e] X.env).any (·.1)=false:=by rfl)
 (h3:backTo pos (starEach [e] X.env)=(false,eval e X.env)::backTo pos (starEach [] X.env):=by rfl):
 QE X (.Call (.Name "sorted" p) [e] [⟨some "key",.Lambda I (TS.keyBody kx px p1 p2 p3 p4 p5 x1) fy U,pR⟩] pos) (abv Pt q r te):=
 EN (adu hg hm he S C hr hq t a1 g j hb h1 h2 h3) λσ H Q τ L Q3 rs rl z k=>by
  refine⟨τ,L,_,rs,rl,z,λv H1 y L1 t1 J rv z=>?_⟩;cases y with
  |ref l=>
   obtain⟨ys,e1,n,a2,kk,rfl,e2,e3,hn,hz,eP,qq⟩:=kn z;cases rv;obtain⟨xs,h1,r1⟩:=J l _ e1;obtain⟨xk,h2,r2⟩:=J kk _ e3;have T:rG H1 Pt q:=J Pt _ eP;cases oN r1;cases gv r2;obtain⟨v,hv,rv⟩:=rs.get r _<|qL _ _ e2;cases rv;refine⟨l,kk,n,a2,rfl,h1,hv,h2,hn,hz,T,λH2 D qs kp T2 hD a4 a3 pm pw=>?_⟩;have tb:∃o,H1 Pt=some (.tbl o):=let ⟨o,e,_⟩:=T;⟨o,e⟩;have t2:jj H1 H2:=λa u i h=>kp a u (λc=>by obtain⟨o,e⟩:=tb;rw[c,e] at h;cases h;cases i) h
   refine k _ _ _ _ (t1.trans t2) (λa u e=>?_) (by rfl)<|qq D qs (J.none hD) pm pw;by_cases c:a=D
   ·subst c;rw[q9] at e;cases e;exact⟨_,a3,uN qs⟩
   ·rw[qg c] at e;by_cases d:a=Pt
    ·subst d;rw[eP] at e;cases e;exact T2
    ·obtain⟨x,hx⟩:=(J a u e).ex;exact(J a u e).keep t2 (by rw[hx];exact kp a x d hx)
  |_=>exact z.elim
structure ajg(K:Ah)(x eH:Str)(st:Stmt)(f:Addr)(fd:FuncData)(Pt:Addr):Prop where
 ex:∃(oc:Value) (od:Option Addr) (kV hE pm:Value) (an:Option Addr) (eK ct:Value) (mR:Array<|Option Value),
  fd=PySem.W.fnOf x eH (vf st) (jg st) (qt st) .none kV hE pm an eK ct/\K.lookup f=some ⟨oc,od,.func fd,mR⟩/\PySem.W.codeIn K eK eH=true/\zU K eK Pt
 kp:PySem.W.keepIn K (.ref f)=true
theorem ase{P:Program}{w:World}{K:Ah}{N:List Str}{k:Nat}{sp:zp}(F:ajg K x eH st f fd Pt)(S:aG N ps<|qt st)(len:∀ys L Q,sp ys L Q->ys.length=ps.length)
 (I:∀(eK:Value) (A:Around) (outer:List Env) (s:Shared) (H:Hp) (E:XK),zU K eK Pt->w4 k (A.deeper<|PyProof.Rows.envOfC eH (qt st) s.heap.objs.size f eK)->
  ∃t,nv (cM CX0 P w K mg base N eH (qt st) f eK A outer s H E).nox (jg st) t/\∀ys L Q,sp ys L Q->t { nx:=λ_ L'=>hW Q .non L',rt:=hW Q } (eG N ys) L):Fn3 P w K mg base (k+1) f fd ps sp:=by
 obtain⟨oc,od,kV,g,pm,an,eK,ct,j,rfl,lk,U,C⟩:=F.ex;have F0:Fun K x eH st f _:=⟨⟨oc,od,kV,g,pm,an,eK,ct,j,rfl,lk,U⟩,F.kp⟩;refine ab0 lk U S (λvs H Q E ψ=>by obtain⟨ys,L,l,o,rl,z,_⟩:=ψ;rw[<-o.length];exact len ys L l z) λA outer s H vs Q E hr ψ=>?_;obtain⟨ys,L,l,o,rl,z,k⟩:=ψ;obtain⟨t,ht,q⟩:=I eK A outer s H E C hr;refine⟨_,gl.nox ht,eG N ys,L,_,ig o,rl,q ys L l z,?_⟩;exact⟨λσ p τ L' r a2 J ψ=>(by obtain⟨L2,T,q2⟩:=ψ;exact k .non p .non L2 r (J.sub T) (by rfl) q2),λv p y L' r J a1 ψ=>(by obtain⟨L2,T,q2⟩:=ψ;exact k v p y L2 r (J.sub T) a1 q2),λ_ _ _ _ _ _ _ z=>z.elim,λ_ _ _ _ _ _ _ z=>z.elim⟩
def pV(Pt:Addr)(q:Str):zp:=λys L Q=>∃I:List Int,ys=[.sq<|I.map Y.int]/\I.length<=63/\L=qj (λ_=>none) Pt (.tb q)/\∀L',Q (.bl true) L'
def spTopT(q:Str)(K:Ah)(Pt:Addr):Sp:=λvs H Q _=>∃(a:Addr) (I:List Int),vs=[.ref a]/\SqF K H a (I.map V.int)/\I.length<=63/\H Pt=some (.tbl #[])/\∀H',Q (.bl true) H'
theorem ah4{q:Str}{vs:List V}{Q:VK}{E:XK}(h:spTopT q G.K Pt vs H Q E):dn G (pV Pt q) vs H Q E:=by
 obtain⟨a,I,rfl,J,U,g,z⟩:=h;refine⟨[.sq<|I.map Y.int],qj (λ_=>none) Pt<|.tb q,λy _=>y=.bl true,v3.one ⟨a,_,rfl,J,rW I⟩,(λb u e=>?_),⟨I,rfl,U,rfl,λ_=>rfl⟩,?_⟩
 ·by_cases c:b=Pt
  ·subst c;rw[q9] at e;cases e;exact⟨#[],g,trivial,λpos o z=>by cases z⟩
  ·rw[qg c] at e;cases e
 ·rintro v j y p _ _ l rfl;cases l;exact z j
end L3
namespace L2
open PySem PySem.Spec PyProof.Rows
def lessK(Pt:Addr):Ah->Ah
 |[]=>[]
 |(a,o)::r=>if a==Pt then lessK Pt r else(a,o)::lessK Pt r
theorem xg{Pt a:Addr}(h:a≠Pt):∀K:Ah,(lessK Pt K).lookup a=K.lookup a
 |[]=>rfl
 |(b,o)::r=>by
  unfold lessK;by_cases c:(b==Pt)=true
  ·rw[AA c,xg h r,BJ];have:(a==b)=false:=by have I:=eq_of_beq c;subst I;exact EC h
   rw[this]
  ·rw[Az c,BJ,BJ,xg h r]
theorem k6{Pt:Addr}:∀K:Ah,(lessK Pt K).lookup Pt=none
 |[]=>rfl
 |(b,o)::r=>by
  unfold lessK;by_cases c:(b==Pt)=true
  ·rw[AA c];exact k6 r
  ·rw[Az c,BJ];have:(Pt==b)=false:=by cases d:Pt==b with|false=>rfl|true=>exact absurd (beq_iff_eq.mpr (eq_of_beq d).symm) c
   rw[this];exact k6 r
theorem nU{a:Addr}{K:Ah}{o:Obj}(e:(lessK Pt K).lookup a=some o):a≠Pt/\K.lookup a=some o:=by
 by_cases c:a=Pt
 ·subst c;rw[k6] at e;cases e
 ·rw[xg c] at e;exact⟨c,e⟩
theorem lessK_in{K:Ah}(X:K.In h):(lessK Pt K).In h:=λa o e=>X a o (nU e).2
structure aiq(K:Ah)(Pt:Addr):Prop where
 tab:K.lookup Pt=some (PySem.W.tabObj #[])
 hd:∃c,∀h:Heap,K.In h->PySem.W.CodeHd h c Pt
 st:Pt≠cStatics
section
variable {K:Ah}(T:K.lookup Pt=some (PySem.W.tabObj #[]))
include T
theorem ns_dn{a:Addr}{r:Option<|Option Value}(e:PySem.W.nsIn K a x=r):PySem.W.nsIn (lessK Pt K) a x=r:=by
 rw[<-e];unfold PySem.W.nsIn;by_cases c:a=Pt
 ·subst c;rw[k6,T]
 ·rw[xg c]
theorem lk_dn{a:Addr}{o:Obj}(e:K.lookup a=some o)(n:o.cls≠.none):(lessK Pt K).lookup a=some o:=by
 rw[xg ?_]
 ·exact e
 ·rintro rfl;rw[T] at e;cases e;exact n rfl
theorem code_dn{q:Str}(e:PySem.W.codeIn K cd q=true):PySem.W.codeIn (lessK Pt K) cd q=true:=by
 unfold PySem.W.codeIn at e ⊢;split at e
 ·rename_i c;by_cases d:c=Pt
  ·subst d;rw[T] at e;simp at e
  ·rw[xg d];exact e
 ·cases e
theorem alo :PySem.W.ownIn (lessK Pt K) x v=PySem.W.ownIn K x v:=by
 unfold PySem.W.ownIn;split
 ·rfl
 ·rename_i a;by_cases d:a=Pt
  ·subst d;rw[k6,T]
  ·rw[xg d];split
   ·exact ns_dn T rfl
   ·rfl
 ·rfl
theorem sV{x:Str}:∀l:List Value,PySem.W.alongIn (lessK Pt K) x l=PySem.W.alongIn K x l
 |[]=>rfl
 |c::r=>by unfold PySem.W.alongIn;rw[alo T,sV r]
theorem hV :PySem.W.findIn (lessK Pt K) v x=PySem.W.findIn K v x:=by
 unfold PySem.W.findIn;split
 ·rfl
 ·rename_i a;by_cases d:a=Pt
  ·subst d;rw[k6,T]
  ·rw[xg d];split
   ·exact sV T _
   ·rfl
 ·rfl
theorem vV{a:Addr}(n:a≠Pt):PySem.W.specialIn (lessK Pt K) (.ref a) x=PySem.W.specialIn K (.ref a) x:=by unfold PySem.W.specialIn PySem.W.typeIn;dsimp only;rw[xg n];congr 1;funext t;exact hV T
theorem keep_dn{f:Value}(e:PySem.W.keepIn K f=true):PySem.W.keepIn (lessK Pt K) f=true:=by
 unfold PySem.W.keepIn at e ⊢;split at e
 ·rename_i a;by_cases d:a=Pt
  ·subst d;rw[T] at e;simp at e
  ·rw[xg d,vV T d];exact e
 ·cases e
end
theorem aa2{P:Program}{w:World}{K:Ah}{mb:Str->Option Value}{CX:wT}{k:Nat}{a:Addr}{I:Shared}{T:List Int}
 (KX:K.In I.heap) (TI:aiq K Pt) (a1:I.heap.Ns mainGlobals mg) (hb:I.heap.Ns builtinsNs mb) (au:∀x:Str,x ≠ "__name__" -> mb x=bootBuiltins x) (a2:I.heap.NoLimit) (hg:I.gens=#[]) (av:0<I.toks)
 (p:I.heap.get? a=some { cls:=.type "list",data:=.seq vs.toArray }) (hi:IntsAre vs T) (hl:T.length<=sizeLine) (hr:w4 k callerA)
 (F:∀base:Heap,(lessK Pt K).In base->base.Ns mainGlobals mg->bP P w (lessK Pt K) mg base CX k fa fd [x] sp) (l:∀(s:Shared) (u:Value),BindsTo s fd ⟨[u],[]⟩ [(x,u)])
 (ax:∀H:Hp,H Pt=some (.tbl #[])->(H a=none\/∃o xs,H a=some (.frz o<|.lst xs))->aI (lessK Pt K) H a (T.map V.int)->sp [.ref a] H (λv _=>v=.bl true) λ_ _ _=>False)
 (aL:∀H e s',CX [] H I (λ_ _ _=>False) e s'->False):
 codeAny (model P w) callerA (.call (.ref fa) ⟨[.ref a],[]⟩) (λr s'=>r=.ok (.ret<|.bool true)/\OldK I.heap s'.heap/\s'.os=I.os/\AllBare s'.gens) I:=by
 have rv:=o6 hi;have a3:=hi.length;have hP:I.heap.get? Pt=some (PySem.W.tabObj #[]):=KX Pt _ TI.tab;have U:a≠Pt:=λz=>by rw[z,hP] at p;cases p
 have core:∀H:Hp,H Pt=some (.tbl #[])->(∀b,b≠a->b≠Pt->H b=none)->(H a=none\/∃o xs,H a=some (.frz o<|.lst xs))->aI (lessK Pt K) H a (T.map V.int)->(∀u,H a=some u->xi P w H I.heap a u)->(H a≠none->K.lookup a=none)->
  codeAny (model P w) callerA (.call (.ref fa) ⟨[.ref a],[]⟩) (λr s'=>r=.ok (.ret<|.bool true)/\OldK I.heap s'.heap/\s'.os=I.os/\AllBare s'.gens) I:=by
  intro H HP Hn HO HS a4 ba;have a5:dm P w H I.heap:=λb u e=>by
   by_cases c:b=a
   ·subst c;exact a4 u e
   ·by_cases d:b=Pt
    ·subst d;rw[HP] at e;cases e;exact hP
    ·rw[Hn b c d] at e;cases e
  have J:∀{b:Addr} {o:Obj},I.heap.get? b=some o->H b=none->(pO I.heap H).get? b=some o:=λe n=>abj e n;have bb:∀{b:Addr} {o:Obj} {t:Array DictEntry} {C:Nat},I.heap.get? b=some o->o.data=.dict t C->H b=none:=λ{b o t C} e d=>by
   refine Hn b (λz=>?_) λz=>?_
   ·subst z;rw[p] at e;cases e;have d':Data.seq vs.toArray _=Data.dict t C:=d;cases d'
   ·subst z;rw[hP] at e;cases e;have d':Data.fields _=Data.dict t C:=d;cases d'
  have g:∀{b:Addr} {m:Str->Option Value},I.heap.Ns b m->(pO I.heap H).Ns b m:=λ{b m} ψ=>(by obtain⟨o,t,C,e,d,r⟩:=ψ;exact ⟨o,t,C,J e<|bb e d,d,r⟩);have ac:(lessK Pt K).In (pO I.heap H):=λb o e=>by
   obtain⟨n,e⟩:=nU e;refine J (KX b o e) ?_;by_cases c:b=a
   ·subst c;cases q:H b with|none=>rfl|some u=>rw[ba (by rw[q];simp)] at e;cases e
   ·exact Hn b c n
  have hM:Mod (lessK Pt K) mg (pO I.heap H):=⟨ac,g a1,⟨mb,g hb,au⟩,let ⟨mc,h1,h2⟩:=a2;⟨mc,g h1,h2⟩⟩;have e0:ai5 P w (lessK Pt K) mg (pO I.heap H) callerA [] I H:=⟨rfl,hM,λb o e=>agy e,Nat.le_of_eq<|aal _ _,trivial,λb hb=>absurd (show b∈([]:List Addr) from hb) (by simp),a5,.of_eq hg,av⟩;refine codeAny_mono ((F _ ac<|g a1).run callerA [] I H ⟨[.ref a],[]⟩ [.ref a] [.ref a] _ _ hr e0 (l I<|.ref a) (.cons rfl .nil)<|ax H HP HO HS) λr s' h=>?_;cases r with
  |error e=>exact(aL H e s' h).elim
  |ok fl=>
   cases fl with
   |next=>exact False.elim h
   |brk=>exact False.elim h
   |cont=>exact False.elim h
   |ret u=>
    obtain⟨v,H',os,bare,un,j,r',q,_⟩:=h;have q':v=.bl true:=q;subst q';obtain rfl:u=Value.bool true:=r';obtain⟨more,em⟩:=un.tbls Pt _ HP;have gP:s'.heap.get? Pt=some (PySem.W.tabObj<|#[]++more):=j Pt _ em;have kp:∀b o,b≠Pt->I.heap.get? b=some o->s'.heap.get? b=some o:=λb o n e=>by
     have al:H b=none->s'.heap.get? b=some o:=λz=>un.keep b o e z (by intro z;exact absurd (show b∈([]:List Addr) from z) (by simp)) (by simp);by_cases c:b=a
     ·subst c;rcases HO with z|⟨ob,xs,z⟩
      ·exact al z
      ·have z2:=un.frzs _ _ _ z;obtain⟨e1,_⟩:=a5 _ _ z;obtain⟨e2,_⟩:=j _ _ z2;rw[e] at e1;cases e1;exact e2
     ·exact al<|Hn b c n
    obtain⟨c,hc⟩:=TI.hd;refine⟨rfl,⟨λb o e=>?_,λb o e=>?_⟩,os,bare⟩
    ·by_cases n:b=Pt
     ·subst n;rw[hP] at e;cases e;exact .inr<|.inl ⟨((hc _ KX).tab hP).isCodeTable,rfl,#[],more,rfl,gP⟩
     ·exact .inl<|kp b o n e
    ·by_cases n:b=Pt
     ·subst n;exact⟨_,gP⟩
     ·exact⟨o,kp b o n e⟩
 cases hk:K.lookup a with
 |some o=>
  have e:=KX a o hk;rw[p] at e;cases e;refine core (λb=>if b=Pt then some (.tbl #[]) else none) (AA rfl) (λb _ n=>Az n) (.inl<|Az U) (.inr ⟨_,vs.toArray,_,(xg U K).trans hk,rfl,rfl,rfl,by rw[Au,a3];exact hl,by simpa using rv⟩) (λu z=>by have z':=(Az U).symm.trans z;cases z') λz=>absurd (Az U) z
 |none=>
  refine core (λb=>if b=a then some (.frz { cls:=.type "list",data:=.seq vs.toArray }<|.lst<|T.map V.int) else if b=Pt then some (.tbl #[]) else none) ((Az<|AJ U).trans<|AA rfl) (λb n1 n2=>(Az n1).trans<|Az n2) (.inr ⟨_,_,AA rfl⟩) (.inl<|.inr ⟨_,AA rfl⟩) (λu z=>?_) λ_=>hk;have z':=(AA rfl).symm.trans z;cases z';exact⟨p,by rw[Ae];exact hl,vs,_,rv,p⟩
theorem walk_ofZT{l:PySem.W.OpenLaw}{k:Nat}{q:Program}{loose:List Str}{XP:(Str->Option Value)->Heap->Prop}{as0:List Addr}{N t:Nat}{d:DefRec}{K:Params->Ah}{CX:wT}{sp:Ah->Addr->Sp}
 (hn:l.most=some n) (r:n<=sizeLine) (C:d.params.defaults=[]) (hr:w4 k callerA) (ek:∀P,as0=(K P).map (·.1)) (a1:0<t)
 (F:∀(w:World) (mg:Str->Option Value) (fa:Addr) (h:Heap),(K w.params).In h->h.Ns mainGlobals mg->mg d.name=some (.ref fa)->
  ∃Pt:Addr,aiq (K w.params) Pt/\∃fd:FuncData,(∀(s:Shared) (u:Value),BindsTo s fd ⟨[u],[]⟩ [(x,u)])/\
   ∀base:Heap,(lessK Pt<|K w.params).In base->base.Ns mainGlobals mg->bP l.prog w (lessK Pt<|K w.params) mg base CX k fa fd [x] (sp (lessK Pt<|K w.params) Pt))
 (a2:∀(K:Ah) (Pt:Addr) (H:Hp) (a:Addr) (p:List Int),p.length<=n->H Pt=some (.tbl #[])->(H a=none\/∃o xs,H a=some (.frz o<|.lst xs))->aI K H a (p.map V.int)->sp K Pt [.ref a] H (λv _=>v=.bl true) λ_ _ _=>False)
 (a3:∀(H:Hp) (s:Shared) (e:Value) (s':Shared),CX [] H s (λ_ _ _=>False) e s'->False):
 PySem.W.WalkX q loose XP (PySem.W.X.obsZ as0) (PySem.W.X.valZ K N t) l.row.toRowW d [] (λf vs=>PySem.call f vs):=by
 refine Att.attach_callZ hn C ek a1 λw a5 U mg mb fa o pm cd ac a vs p G KX tk ho hd al a4 j J I hg=>?_;obtain⟨Pt,TI,fd,hb,hF⟩:=F w mg fa _ KX G.T.g a4;exact aa2 KX TI G.T.g G.T.b G.T.builtins G.T.nolimit hg tk j J (A0 I r) hr hF hb (λH hP hO hS=>a2 _ Pt H a p I hP hO hS) λH e s'=>a3 H U e s'
end L2
namespace L3
open PySem L2
theorem top_startT{q:Str}:∀(K:Ah) (Pt:Addr) (H:Hp) (a:Addr) (I:List Int),I.length<=63->H Pt=some (.tbl #[])->(H a=none\/∃o xs,H a=some (.frz o<|.lst xs))->aI K H a (I.map V.int)->spTopT q K Pt [.ref a] H (λv _=>v=.bl true) λ_ _ _=>False:=by
 intro K Pt H a I J U g j;refine⟨a,I,rfl,?_,J,U,λ_=>rfl⟩;rcases j with(h|⟨o,h⟩)|h
 ·rcases g with z|⟨o,xs,z⟩<;>rw[h] at z<;>cases z
 ·exact .inl ⟨o,h⟩
 ·exact .inr h
structure DefInT(K:Ah)(x:Str)(st:Stmt)(Pt:Addr):Prop where
 ex:∃(f:Addr) (kV hE pm:Value) (an:Option Addr) (eK ct:Value),PySem.W.nsIn K mainGlobals x=some (some<|.ref f)/\ajg K x x st f (PySem.W.fnOf x x (vf st) (jg st) (qt st) .none kV hE pm an eK ct) Pt
theorem DefInT.use{K:Ah}(D:DefInT K x st Pt)(X:K.In h)(G:h.Ns mainGlobals mg)
 (I:∀(kV hE pm:Value) (an:Option Addr) (eK ct:Value) (us:List Value),us.length=ps.length->bindArgs (PySem.W.fnOf x x (vf st) (jg st) (qt st) .none kV hE pm an eK ct) ⟨us,[]⟩=pure (ps.zip us)):
 ∃f fd,ajg K x x st f fd Pt/\da K fd ps []/\mg x=some (.ref f):=by
 obtain⟨f,kV,hE,pm,an,eK,ct,a,F⟩:=D.ex;exact⟨f,_,F,.all<|I kV hE pm an eK ct,Bx X G a⟩
end L3
namespace L2
open PySem PySem.Spec PyProof.Rows
section
variable {hQ:St}
theorem qw.ren(M:List Str)(I:qw X pins σ H s)(J:M.length=X.N.length)(hs:hQ.length=σ.length)(h:∀(j:Nat) v,hQ[j]?=some (some v)->σ[j]?=some (some v)/\X.N[j]?=M[j]?):qw { X with N:=M } pins hQ H s:=by obtain⟨m,U,l⟩:=I.loc;have o:=I.ok;exact { ok:=⟨o.mod,o.kind,o.glob,o.blt,o.above,o.inj,o.has,o.cab,o.hd,o.frames,o.stk,o.exf,o.bs,o.bsz,o.noex,o.exfs,o.funs,o.frf⟩,os:=I.os,bare:=I.bare,base:=I.base,cell:=I.cell,free:=I.free,freeC:=I.freeC,pin:=I.pin,hok:=I.hok,tk:=I.tk,len:=(by rw[hs,I.len];exact J.symm),loc:=⟨m,U,λi x v g p r=>by obtain⟨a,b⟩:=h i v p;exact l i x v (b.trans g) a r⟩ }
theorem uJ{v:V}(h:(σ.set i none)[j]?=some (some v)):j≠i/\σ[j]?=some (some v):=by
 by_cases c:i=j
 ·subst c;rw[Ep] at h;cases e:σ[i]? with|none=>rw[e] at h;cases h|some o=>rw[e] at h;cases h
 ·rw[Bh c] at h;exact⟨AJ c,h⟩
def apx(i:Nat)(t:TS):TS:=λD σ H=>t { nx:=λhQ H'=>D.nx (hQ.set i none) H',rt:=D.rt,bk:=λhQ H'=>D.bk (hQ.set i none) H',ct:=λhQ H'=>D.ct (hQ.set i none) H' } (σ.set i none) H
theorem agm{t:TS}(h:PS { X with N:=X.N.set i x } st t):PS X st (apx i t):=by
 intro g s p H D I z;have C:qw { X with N:=X.N.set i x } g (p.set i none) H s:=I.ren _ (by rw[BN]) (by rw[BN]) λj v e=>by obtain⟨a,b⟩:=uJ e;exact⟨b,by rw[Bh<|AJ a]⟩
 refine aH (h g s _ H _ C z) λf o q=>?_;have back:∀{U:St} {l:Hp},qw { X with N:=X.N.set i x } g U l o->qw X g (U.set i none) l o:=λ{U l} J=>
  qw.ren (X:={ X with N:=X.N.set i x }) X.N J (by show X.N.length=(X.N.set i x).length;rw[BN]) (by rw[BN]) λj v e=>by obtain⟨a,b⟩:=uJ e;exact⟨b,by show(X.N.set i x)[j]?=_;rw[Bh<|AJ a]⟩
 cases f with
 |next=>obtain⟨U,l,J,q⟩:=q;exact⟨_,l,back J,q⟩
 |brk=>obtain⟨U,l,J,q⟩:=q;exact⟨_,l,back J,q⟩
 |cont=>obtain⟨U,l,J,q⟩:=q;exact⟨_,l,back J,q⟩
 |ret u=>obtain⟨v,U,l,J,r,q⟩:=q;exact⟨v,_,l,back J,r,q⟩
end
end L2
namespace L3
open PySem L2
def gy:jn->Nat->jn
 |[],_=>[]
 |_::r,0=>none::r
 |o::r,i+1=>o::gy r i
theorem uB:∀(τ:jn) (i:Nat),gy τ i=τ.set i none
 |[],_=>rfl
 |_::_,0=>rfl
 |o::r,i+1=>by unfold gy;rw[uB r i];rfl
def aj6(i:Nat)(t:vt)(D:x6)(τ:jn)(L:qr):Prop:=t { nx:=λI L'=>D.nx (gy I i) L',rt:=D.rt,bk:=λI L'=>D.bk (gy I i) L',ct:=λI L'=>D.ct (gy I i) L' } (gy τ i) L
theorem xc.forget(h:xc G H σ τ)(i:Nat):xc G H (σ.set i none) (gy τ i):=by
 rw[uB];refine⟨by rw[BN,BN];exact h.len,λj y e=>?_⟩;by_cases c:i=j
 ·subst c;rw[Ep] at e;cases I:τ[i]? with|none=>rw[I] at e;cases e|some o=>rw[I] at e;cases e
 ·rw[Bh c] at e ⊢;exact h.get j y e
theorem afc(x:Str){t:vt}(h:QS { X with N:=X.N.set i x } st t):QS X st (aj6 i t):=
 ES (agm h) λD T H p L D3 r C z k=>⟨gy p i,L,_,r.forget i,C,z,
  ⟨λU g j l o I J q=>k.nx _ g _ l o (I.forget i) J q,k.rt,λU g j l o I J q=>k.bk _ g _ l o (I.forget i) J q,λU g j l o I J q=>k.ct _ g _ l o (I.forget i) J q⟩⟩
theorem gB:bootBuiltins "min"=some (.builtin "min"):=by decide +kernel
def at3(x:Y)(lo hi:Option Int)(L:qr)(Q:YK):Prop:=match x with
 |.tup ys=>¬(HT.sIx ys.length 0 lo=0/\HT.sIx ys.length ys.length hi=ys.length)/\Q (.tup<|gM ys lo hi) L
 |_=>False
theorem aau(K:Ah)(P:Program)(w:World)(U:X.K=K:=by rfl)(g:X.prog=P:=by rfl)(hw:X.w=w:=by rfl):rU X (ai0 ⟨K,P,w⟩ at3):=by
 subst U g hw;refine rU.imp alh λx lo J H Q ψ=>?_;obtain⟨y,L,Q3,j,l,z,k⟩:=ψ;cases y with
 |tup o=>
  obtain⟨a,t,e,sq,r⟩:=j;obtain⟨C,T⟩:=z;exact⟨a,t,e,sq,by rw[<-r.length];exact C,λp I=>k _ _ (.tup<|gM o lo J) L (EM I) (l.skip I) ⟨p,_,rfl,.inl<|.inl zh,(qK r lo J).ts<|EM I⟩ T⟩
 |_=>exact z.elim
theorem vE{a:Addr}{keep:qr->Prop}(h:∀H L,jj H₀ H->ja G H L->keep L->∃xs,dU G.K H a xs/\v3 G H ys xs):ie G H₀ (Itt G.K a) ys keep where
 go:=λi H L t I J U=>by
  obtain⟨xs,sq,r⟩:=h H L t I J;have:i<xs.length:=by rw[<-r.length];exact U
  exact⟨xs,xs[i],sq,Ak this⟩
 yld:=λi H L x o y t I J g ψ=>by obtain⟨e,f⟩:=ψ;subst e;obtain⟨xs,sq,r⟩:=h _ L t I J;obtain⟨p,j,l⟩:=r.get g;have:=f xs sq;rw[j] at this;cases this;exact⟨EL _,I,l⟩
 stop:=λH L t I J=>by obtain⟨xs,sq,r⟩:=h H L t I J;exact⟨xs,sq,by rw[r.length];exact Am _⟩
theorem rO(h:QE X e te):QI X tg e (adq te):=PI.imq (ako h) λσ H R j L R3 l o z k=>by
 refine⟨j,L,_,l,o,z,λv p y C T I J U=>?_⟩;cases y with
 |tup ys=>
  obtain⟨a,g,e,sq,r⟩:=J;exact⟨a,e,⟨g,sq⟩,k _ p ys (λ_=>True) C T I (vE λH L t _ _=>⟨g,dU.ts sq t,r.ts t⟩) U⟩
 |_=>exact U.elim
theorem dp3{k:Nat}(I:w4 k A):A.depth+3<recursionLimit:=by have:=I.dp;omega
abbrev lamQ:Str:="_law_order.<locals>.<lambda>"
open PySem L2 Words
def OkO(ks:List<|Option Kn):Prop:=∀(p:Nat) (e:Bool) (i j:Nat),ks[p]?=some (some<|.nd e i j)->i<p/\j<p
def zE(ks:List<|Option Kn)(rks:List Int):Prop:=∀(p:Nat) (e:Bool) (i j:Nat),p<rks.length->ks[p]?=some (some<|.nd e i j)->rks.getD i 0<rks.getD p 0/\rks.getD j 0<rks.getD p 0
theorem nK{r:Int}(h:i<rks.length):(rks++[r]).getD i 0=rks.getD i 0:=by rw[BB,BB,AB h]
theorem aeq{r:Int}:(rks++[r]).getD rks.length 0=r:=by rw[BB,Ap<|Am _,C3];rfl
theorem zE.snoc{ks:List<|Option Kn}{r:Int}{k:Option Kn}(ok:OkO ks)(h:zE ks rks)(U:ks[rks.length]?=some k)(g:∀e i j,k=some (.nd e i j)->rks.getD i 0<r/\rks.getD j 0<r):zE ks (rks++[r]):=by
 intro p e i j I J;obtain⟨l,o⟩:=ok p e i j J;rw[Ac] at I;have I:p<rks.length+1:=I;rw[nK (show i<rks.length by lia),nK (show j<rks.length by lia)];by_cases c:p<rks.length
 ·rw[nK c];exact h p e i j c J
 ·have:p=rks.length:=by lia
  subst this;rw[aeq];exact g e i j<|Bb<|U.symm.trans J
def dP(ks:List<|Option Kn)(qs:List Nat):Prop:=qs.Pairwise λx y=>∀e i j,ks[x]?=some (some<|.nd e i j)->y≠i/\y≠j
theorem acp{ks:List<|Option Kn}{qs:List Nat}(ok:OkO ks)(h:zE ks rks)(I:rks.length=ks.length)(hw:qs.Pairwise λi j=>rks.getD i 0*1000000+(i:Int)<=rks.getD j 0*1000000+(j:Int)):dP ks qs:=by refine hw.imp λ{x y} z e i j ex=>?_;obtain⟨J,U⟩:=ok x e i j ex;obtain⟨g,l⟩:=h x e i j (by rw[I];exact je ex) ex;exact⟨λc=>by subst c;lia,λc=>by subst c;lia⟩
theorem tN(h:i<rks.length):(rks.map Y.int)[i]?=some (.int<|rks.getD i 0):=by rw[Aq,BB,Ak h];rfl
theorem aM(a:jk)(b:Y)(r:List<|jk×Y)(k:jk):ko ((a,b)::r) k=if a=k then some b else ko r k:=by
 unfold ko;rw[BH];by_cases h:a=k
 ·rw[AA h,show decide ((a,b).1=k)=true from AI h];rfl
 ·rw[Az h,show decide ((a,b).1=k)=false from Ay h]
theorem tj(k I:jk)(y:Y):∀kvs:List (jk×Y),ko (kvs.map λJ=>if J.1=k then(J.1,y) else J) I=if I=k then(ko kvs I).map (λ_=>y) else ko kvs I
 |[]=>by rw[Ds];split<;>rfl
 |(a,b)::r=>by
  have U:=tj k I y r;rw[AF,aM];by_cases h:a=k
  ·rw[AA<|show(a,b).1=k from h,aM,U];by_cases h2:I=k
   ·rw[AA h2,AA h2,AA<|h.trans h2.symm,AA<|h.trans h2.symm];rfl
   ·rw[Az h2,Az h2,Az λz=>h2<|z.symm.trans h,Az λz=>h2<|z.symm.trans h]
  ·rw[Az<|show ¬(a,b).1=k from h,aM,U];by_cases h2:I=k
   ·rw[AA h2,AA h2,Az λz=>h<|z.trans h2,Az λz=>h<|z.trans h2]
   ·rw[Az h2,Az h2]
theorem tH(k I:jk)(y:Y):∀kvs:List (jk×Y),ko (kvs++[(k,y)]) I=(ko kvs I).or (if k=I then some y else none)
 |[]=>by rw[Cs,aM];have:ko [] I=none:=rfl;rw[this];split<;>rfl
 |(a,b)::r=>by rw[DD,aM,aM,tH k I y r];split<;>rfl
theorem tS(k:jk):∀kvs:List (jk×Y),(kvs.any λI=>decide<|I.1=k)=(ko kvs k).isSome
 |[]=>rfl
 |(a,b)::r=>by
  rw[Cw,aM,tS k r];by_cases h:a=k
  ·rw[AA h,show decide ((a,b).1=k)=true from AI h];rfl
  ·rw[Az h,show decide ((a,b).1=k)=false from Ay h];rfl
theorem sO(kvs:List<|jk×Y)(k I:jk)(y:Y):ko (mK kvs k y) I=if I=k then some y else ko kvs I:=by
 unfold mK;rw[tS];cases e:ko kvs k with
 |some v=>
  rw[AA<|show(some v).isSome=true from rfl,tj];by_cases h:I=k
  ·rw[AA h,AA h,h,e];rfl
  ·rw[Az h,Az h]
 |none=>
  rw[Az (by simp),tH];by_cases h:I=k
  ·rw[AA h,h,e,AA rfl];rfl
  ·rw[Az h,Az λz=>h z.symm];cases ko kvs I<;>rfl
theorem sI(kvs:List<|jk×Y)(k:jk)(y:Y):(mK kvs k y).length<=kvs.length+1:=by
 unfold mK;split
 ·rw[Ae];omega
 ·rw[Ac];simp
def iW(f:Nat->Nat):Option Kn->Option Kn
 |some (.nd e i j)=>some<|.nd e (f i)<|f j
 |k=>k
theorem wC{f g:Nat->Nat}:∀{k:Option Kn},(∀e i j,k=some (.nd e i j)->f i=g i/\f j=g j)->iW f k=iW g k
 |none,_=>rfl
 |some (.lf _ _),_=>rfl
 |some (.nd e i j),h=>by obtain⟨a,b⟩:=h e i j rfl;show some (Kn.nd e (f i)<|f j)=some (Kn.nd e (g i)<|g j);rw[a,b]
structure uv(ks:List<|Option Kn)(ps:List Nat)(f:Nat->Nat)(wd:List<|Option Kn):Prop where
 at_:∀p∈ps,∀k,ks[p]?=some k->wd[f p]?=some (iW f k)
 inj:∀p∈ps,∀q∈ps,f p=f q->p=q
 only:∀x k,wd[x]?=some (some k)->∃p∈ps,x=f p
 ok:OkO wd
theorem uv.nil(ks:List<|Option Kn)(f:Nat->Nat):uv ks [] f []:=⟨λp I=>(BK I).elim,λp I=>(BK I).elim,λx k h=>(by simp at h),λp e i j h=>(by simp at h)⟩
theorem OkO.gap(h:OkO wd):OkO (wd++[none]):=by
 intro p e i j I;by_cases c:p<wd.length
 ·rw[AB c] at I;exact h p e i j I
 ·rw[Ap (by exact zG)] at I;cases J:p-wd.length with|zero=>rw[J] at I;cases I|succ m=>rw[J] at I;cases I
theorem uv.gap{ks:List<|Option Kn}{ps:List Nat}{f:Nat->Nat}(h:uv ks ps f wd):uv ks ps f (wd++[none]):=by
 refine⟨λp U k g=>iU<|h.at_ p U k g,h.inj,λx k I=>?_,h.ok.gap⟩;by_cases c:x<wd.length
 ·rw[AB c] at I;exact h.only x k I
 ·rw[Ap (by lia)] at I;cases J:x-wd.length with|zero=>rw[J] at I;cases I|succ m=>rw[J] at I;cases I
theorem uv.lt{ks:List<|Option Kn}{ps:List Nat}{f:Nat->Nat}(h:uv ks ps f wd)(I:p∈ps)(J:p<ks.length):f p<wd.length:=je<|h.at_ p I _<|Ak J
theorem uv.step{ks:List<|Option Kn}{ps:List Nat}{f:Nat->Nat}(h:uv ks ps f wd)(r:∀p∈ps,p<ks.length){k:Option Kn}(C:p∉ps)(T:ks[p]?=some k)(o:∀x∈ps,∀e i j,ks[x]?=some (some<|.nd e i j)->i∈ps/\j∈ps)(J:∀e i j,k=some (.nd e i j)->i∈ps/\j∈ps):
 uv ks (ps++[p]) (λx=>if x=p then wd.length else f x) (wd++[iW f k]):=by
 have old:∀x∈ps,(if x=p then wd.length else f x)=f x:=λx I=>Az λ(c:x=p)=>C<|c▸I;have ren:∀l,(∀e i j,l=some (.nd e i j)->i∈ps/\j∈ps)->iW (λx=>if x=p then wd.length else f x) l=iW f l:=λl U=>wC λe i j z=>by obtain⟨a,b⟩:=U e i j z;exact⟨old i a,old j b⟩
 refine⟨λx I l U=>?_,λx I y g e=>?_,λx l I=>?_,λx e i j I=>?_⟩
 ·rcases Aj.mp I with I|I
  ·show(wd++[iW f k])[if x=p then wd.length else f x]?=_;rw[old x I,ren l λe i j z=>o x I e i j (by rw[U,z])];exact iU<|h.at_ x I l U
  ·have I:=Al.mp I;subst I;rw[T] at U;cases U;show(wd++[iW f k])[if x=x then wd.length else f x]?=_;rw[AA rfl,ren k J];exact fG wd _ []
 ·have e:(if x=p then wd.length else f x)=if y=p then wd.length else f y:=e
  rcases Aj.mp I with I|I<;>rcases Aj.mp g with g|g
  ·rw[old x I,old y g] at e;exact h.inj x I y g e
  ·cases Al.mp g;rw[old x I,AA rfl] at e;have:=h.lt I<|r x I;lia
  ·cases Al.mp I;rw[old y g,AA rfl] at e;have:=h.lt g<|r y g;lia
  ·rw[Al.mp I,Al.mp g]
 ·by_cases c:x<wd.length
  ·rw[AB c] at I;obtain⟨q,t,e⟩:=h.only x l I;exact⟨q,Ao _ t,by rw[e];exact(old q t).symm⟩
  ·refine⟨p,Ai _<|Al.mpr rfl,?_⟩;have:=je I;rw[Ac] at this;have:x<wd.length+1:=this;show x=if p=p then wd.length else f p
   rw[AA rfl];lia
 ·by_cases c:x<wd.length
  ·rw[AB c] at I;exact h.ok x e i j I
  ·have:=je I;rw[Ac] at this;have:x<wd.length+1:=this;have:x=wd.length:=by lia
   subst this;rw[Ap<|Am _,C3] at I;have I:iW f k=some (.nd e i j):=Bb I;cases k with
   |none=>cases I
   |some k=>
    cases k with
    |lf=>cases I
    |nd e' i' j'=>
     obtain⟨a,b⟩:=J e' i' j' rfl;cases I;exact⟨h.lt a<|r _ a,h.lt b<|r _ b⟩
theorem m7{ks:List<|Option Kn}{qs:List Nat}(ok:OkO ks)(pm:qs.Perm<|List.range ks.length)(g:dP ks qs)(J:qs[n]?=some p){e:Bool}(h:ks[p]?=some (some<|.nd e i j)):i∈qs.take n/\j∈qs.take n:=by
 obtain⟨T,l2⟩:=ok p e i j h;have hl:=je h;have r:=je J;have ind:∀x,x<ks.length->x≠p->(∀y∈qs.drop (n+1),y≠x)->x∈qs.take n:=λx C ne l=>by
  have I:x∈qs:=pm.mem_iff.mpr<|A3.mpr C;have o:qs=qs.take n++p::qs.drop (n+1):=by rw[Ak r] at J;rw[<-Bb J,CL,A8]
  rw[o] at I;rcases Aj.mp I with I|I
  ·exact I
  ·rcases An.mp I with I|I
   ·exact absurd I ne
   ·exact absurd rfl<|l x I
 have t:∀y∈qs.drop (n+1),y≠i/\y≠j:=λy U=>by
  have o:qs=qs.take n++p::qs.drop (n+1):=by rw[Ak r] at J;rw[<-Bb J,CL,A8]
  unfold dP at g;rw[o] at g;have:=(AS.mp g).2.1;exact(List.pairwise_cons.mp this).1 y U e i j h
 exact⟨ind i (by exact tF) (by exact ao8) λy U=>(t y U).1,ind j (by exact tF) (by exact ao8) λy U=>(t y U).2⟩
def aa(p q:Nat×Nat):Prop:=p.1<q.1\/(p.1=q.1/\p.2<=q.2)
def rZ(p:Nat×Nat):Int×Int:=((p.1:Int),(p.2:Int))
theorem aah{p q:Nat×Nat}(h:rZ p=rZ q):p=q:=by obtain⟨a,b⟩:=p;obtain⟨c,d⟩:=q;have h1:(a:Int)=c:=BG Prod.fst h;have h2:(b:Int)=d:=BG Prod.snd h;rw[Bt.mp h1,Bt.mp h2]
theorem rY(ps:List<|Nat×Nat):qu ps=(ps.map rZ).map prY:=by rw[Cu];rfl
theorem jQ{a:Addr}{ps:List<|Nat×Nat}{Q:YK}(U:L a=some (.lst<|qu ps))(g:∀p∈ps,p.2<1000000)(nd:ps.Nodup)(j:ps.length<=100000)
 (q:∀D qs,L D=none->qs.Perm ps->qs.Pairwise aa->Q (.ref D) (qj L D<|.lst<|qu qs)):xp [.ref a] L Q:=by
 refine qp U ⟨ps.map rZ,rY ps,λp l=>?_,?_,by rw[Ae];exact j,λD qs o pm t=>?_⟩
 ·obtain⟨r,C,rfl⟩:=B0.mp l;have:=g r C;exact⟨AY _,by show((r.2:Nat):Int)<1000000;omega⟩
 ·exact sF (λx _ y _ e=>aah e) nd
 ·obtain⟨T,pT,rfl⟩:=oF rZ pm rfl;rw[<-rY];refine q D T o pT<|(Cv.mp t).imp λ{x y} z=>?_;unfold aa;rcases z with z|⟨I,J⟩
  ·left;have z:((x.1:Nat):Int)<y.1:=z;lia
  ·right;have I:((x.1:Nat):Int)=y.1:=I;have J:((x.2:Nat):Int)<=y.2:=J;exact⟨by lia,by lia⟩
structure qD(L0:qr)(ks:List<|Option Kn)(qs:List Nat)(d w D:Addr)(i ex:Nat)(f:Nat->Nat)(wd:List<|Option Kn)(kvs:List<|jk×Y)(L:qr):Prop where
 sub:qh L0 L
 hd:L d=some (.dct kvs)
 hw:L w=some (.lst<|vh wd)
 hD:L D=some (.lst<|nY qs)
 len:kvs.length<=i
 val:∀p:Nat,ko kvs (.inl (p:Int))=if p∈qs.take i then some (.int (f p:Int)) else none
 gap:uv ks (qs.take i) f wd
 wlen:wd.length<=2*i+ex
def mmP(f:Nat->Nat)(p:Nat×Nat):Nat×Nat:=(min (f p.1)<|f p.2,max (f p.1)<|f p.2)
def ppP(f:Nat->Nat)(p:Nat×Nat):Nat×Nat:=(f p.1,f p.2)
structure yc(f:Nat->Nat)(ks wd:List<|Option Kn):Prop where
 gap:uv ks (List.range ks.length) f wd
 len:wd.length<=2*ks.length+1
theorem iA(wd:List<|Option Kn)(k:Option Kn):vh wd++[nu k]=vh (wd++[k]):=by unfold vh;rw[AH];rfl
theorem aQ(wd:List<|Option Kn):(vh wd).length=wd.length:=Ae ..
theorem qD.wide{ks:List<|Option Kn}{qs:List Nat}{d w:Addr}{ex ex':Nat}{f:Nat->Nat}{wd':List<|Option Kn}(G:qD L0 ks qs d w D i ex f wd kvs L)(h0:L0 w=none)(I:d≠w)(J:w≠D)(g:uv ks (qs.take i) f wd')(h:wd'.length<=2*i+ex'):
 qD L0 ks qs d w D i ex' f wd' kvs (qj L w<|.lst<|vh wd'):=
 ⟨G.sub.upd h0,(qg I).trans G.hd,q9,(qg<|AJ J).trans G.hD,G.len,G.val,g,h⟩
def zb:Ru->List (Nat×Nat)
 |.link p q=>[(p,q)]
 |.ei _ A=>zb A
 |.bo _ A B=>zb A++zb B
 |.cu _ _ A B=>zb A++zb B
def ze:Ru->List (Nat×Nat)
 |.link _ _=>[]
 |.ei _ A=>ze A
 |.bo _ A B=>ze A++ze B
 |.cu p q A B=>(p,q)::(ze A++ze B)
def iB:Ru->Nat
 |.link _ _=>1
 |.ei _ A=>iB A+1
 |.bo _ A B=>iB A+iB B+1
 |.cu _ _ A B=>iB A+iB B+1
def wz:Ru->List Ru
 |.link _ _=>[]
 |.ei _ A=>[A]
 |.bo _ A B=>[A,B]
 |.cu _ _ A B=>[A,B]
def tU:Ru->List (Nat×Nat)
 |.link p q=>[(p,q)]
 |_=>[]
def vS:Ru->List (Nat×Nat)
 |.cu p q _ _=>[(p,q)]
 |_=>[]
theorem wH(A:Ru):zb A=tU A++(wz A).flatMap zb:=by cases A<;>simp[zb,tU,wz]
theorem aa6(A:Ru):ze A=vS A++(wz A).flatMap ze:=by cases A<;>simp[ze,vS,wz]
theorem acf(A:Ru):((wz A).map iB).sum+1=iB A:=by cases A<;>simp[iB,wz]
theorem oz{A B:Ru}(h:B∈wz A):vj B<vj A:=by cases A<;>simp[wz] at h<;>(try rcases h with rfl|rfl)<;>(try subst h)<;>simp[vj]<;>omega
theorem xm(l:List<|Nat×Nat)(p:Nat×Nat):qu l++[vU p]=qu (l++[p]):=by unfold qu;rw[AH];rfl
theorem arn:(100000:Nat)<=sizeLine:=by decide
open Classical in
theorem uj{b:Bool}{A B:Prop}(h1:b=true->A)(h2:b=false->B):v4 b A B:=by cases b with|true=>exact h1 rfl|false=>exact h2 rfl
def plcs(lk:List<|Nat×Nat):List Nat:=lk.flatMap λx=>[x.1,x.2]
theorem x4(a b:List<|Nat×Nat):plcs (a++b)=plcs a++plcs b:=by unfold plcs;rw[A2]
theorem w9(x:Nat×Nat):plcs [x]=[x.1,x.2]:=by simp[plcs]
theorem cg(lk:List<|Nat×Nat):(plcs lk).length=2*lk.length:=by
 induction lk with
 |nil=>rfl
 |cons x r I=>
  have:=x4 [x] r;rw[DA] at this;rw[this,Ac,I,w9,AM];simp;exact Nat.add_comm _ _
theorem xu{c:Nat×Nat}(h:c∈ct):c.1∈plcs ct/\c.2∈plcs ct:=by
 induction ct with
 |nil=>cases h
 |cons d r I=>
  have e:plcs (d::r)=[d.1,d.2]++plcs r:=by rw[<-w9,<-x4];rfl
  rw[e];rcases An.mp h with rfl|h
  ·simp
  ·obtain⟨a,b⟩:=I h;exact⟨Ai _ a,Ai _ b⟩
theorem aX{x:Nat}(h:x∈plcs ct):∃c∈ct,x=c.1\/x=c.2:=by
 induction ct with
 |nil=>cases h
 |cons d r I=>
  have e:plcs (d::r)=[d.1,d.2]++plcs r:=by rw[<-w9,<-x4];rfl
  rw[e] at h;rcases Aj.mp h with h|h
  ·exact⟨d,Av ..,by simpa using h⟩
  ·obtain⟨c,h1,h2⟩:=I h;exact⟨c,Af _ h1,h2⟩
def yw(x:Nat×Nat):Da:=.tup [.s<|.int (x.1:Int),.s<|.int (x.2:Int)]
theorem afp(x y:Nat×Nat):Da.eq (yw x) (yw y)=decide (x=y):=by show(decide ((x.1:Int)=(y.1:Int))&&(decide ((x.2:Int)=(y.2:Int))&&true))=_;rw[EE,<-Bool.decide_and];exact decide_eq_decide.mpr ⟨λ ψ=>(by obtain⟨h1,h2⟩:=ψ;exact EJ (Bt.mp h1)<|Bt.mp h2),λh=>by subst h;exact⟨rfl,rfl⟩⟩
theorem acb(x:Nat×Nat):x8 L 1 (vU x) (yw x):=aV<|.cons (EU _)<|.cons (EU _) .nil
theorem uR{L:qr}:∀l:List (Nat×Nat),Paired (x8 L 1) (qu l)<|l.map yw
 |[]=>.nil
 |_::r=>.cons (aV<|.cons (EU _)<|.cons (EU _) .nil)<|uR r
theorem ai9{f:Nat×Nat->Bool}{keep:qr->Prop}{Q:YK}(hz:lk.length<=1000)(o:keep L)
 (turn:∀(i:Nat) (I:Nat×Nat) (R:List Y->qr->Prop) zs,lk[i]?=some I->(f I=true->R (zs++[vU I]) L)->(f I=false->R zs L)->g (vU I) (τ++List.replicate 1 none) L λJ L2=>tc J L2 λb L3=>v4 b (te J L3 λz r=>R (zs++[z]) r)<|R zs L3)
 (t:∀p,L p=none->Q (.ref p) (qj L p<|.lst<|qu<|lk.filter f)):lcK (qu lk) keep 1 g tc te τ L Q:=by
 refine gJ (λi zs=>zs=qu ((lk.take i).filter f)) (by rw[Ae];exact CI hz (by decide)) o rfl ?_ ?_
 ·rintro i y zs U rfl;rw[Aq] at U;obtain⟨I,j,rfl⟩:=Ax.mp U;have l:lk.take (i+1)=lk.take i++[I]:=by rw[Bf,j];rfl
  refine turn i I _ _ j (λh=>⟨L,EK _,rfl,?_⟩) λh=>⟨L,EK _,rfl,?_⟩
  ·rw[l,A5,BD h,Br,<-xm]
  ·rw[l,A5,BC (by rw[h];simp),Br,AD]
 ·rintro zs rfl p C;rw[Ae,Bo];exact t p C
structure LkI(ks:List Kn)(lk:List<|Nat×Nat):Prop where
 nd:(plcs lk).Nodup
 lt:∀p∈lk,p.1<p.2
 at_:∀p∈lk,∃t n,ks[p.1]?=some (.lf t n)/\ks[p.2]?=some (.lf (!t) n)
theorem zk(c:Nat×Nat)(r:List<|Nat×Nat):plcs (c::r)=c.1::c.2::plcs r:=by
 have e:plcs (c::r)=[c.1,c.2]++plcs r:=by rw[<-w9,<-x4];rfl
 rw[e];rfl
theorem vn{l m:List<|Nat×Nat}(h:l.Perm m):(plcs l).Perm (plcs m):=by
 induction h with
 |nil=>exact .nil
 |cons x _ I=>rw[zk,zk];exact(I.cons _).cons _
 |swap x y l=>
  rw[zk,zk,zk,zk];exact(Bd (l₁:=[y.1,y.2]) (l₂:=[x.1,x.2])).append_right (plcs l)
 |trans _ _ h1 h2=>exact h1.trans h2
theorem j9:∀{l:List<|Nat×Nat},(plcs l).Nodup->l.Nodup
 |[],_=>DX
 |c::r,h=>by rw[zk] at h;have h1:=AE.mp h;have h2:=AE.mp h1.2;exact AE.mpr ⟨λI=>h1.1<|Af _ (xu I).1,j9 h2.2⟩
theorem hZ{l:List<|Nat×Nat}(nd:l.Nodup){x y:Nat×Nat}(I:x∈l)(J:y∈l)(ne:x≠y):l.Perm (x::y::l.filter λz=>decide (z≠x)&&decide (z≠y)):=by
 refine(AZ nd ?_).mpr λz=>?_
 ·refine AE.mpr ⟨λh=>?_,AE.mpr ⟨λh=>?_,nd.filter _⟩⟩
  ·rcases An.mp h with h|h
   ·exact ne h
   ·simp at h
  ·simp at h
 ·by_cases c1:z=x
  ·subst c1;simp[I]
  ·by_cases c2:z=y
   ·subst c2;simp[J]
   ·simp[c1,c2]
def bv(a b:Nat):Nat×Nat:=(min a b,max a b)
theorem dJ(a b:Nat)(r:List Nat):(min a b::max a b::r).Perm (a::b::r):=by
 by_cases c:a<=b
 ·rw[BU c,CC c]
 ·rw[CA (by lia),CM (by lia)];exact List.Perm.swap ..
theorem eO{l:List<|Nat×Nat}{x:Nat×Nat}(h:l[i]?=some x):(qu l)[i]?=some (vU x):=by rw[Aq,h];rfl
theorem bG:∀R:Ru,iB R+1<=(qx R).length
 |.link _ _=>Am _
 |.ei r A=>by have:=bG A;show iB A+1+1<=(r::qx A).length;rw[AM];exact ami
 |.bo r A B=>by have:=bG A;have:=bG B;show iB A+iB B+1+1<=(r::(qx A++qx B)).length;rw[AM,Ac];lia
 |.cu _ _ A B=>by have:=bG A;have:=bG B;show iB A+iB B+1+1<=(qx A++qx B).length;rw[Ac];lia
theorem aN:∀R:Ru,∃rest,(plcs (zb R)++rest).Perm<|qx R
 |.link p q=>⟨[],.refl _⟩
 |.ei r A=>by obtain⟨u,h⟩:=aN A;exact⟨r::u,Cm.trans<|h.cons r⟩
 |.bo r A B=>by obtain⟨u,h⟩:=aN A;obtain⟨v,k⟩:=aN B;refine⟨r::(u++v),?_⟩;show(plcs (zb A++zb B)++r::(u++v)).Perm (r::(qx A++qx B));rw[x4];refine Cm.trans<|List.Perm.cons r ?_;refine List.Perm.trans ?_<|h.append k;rw[Aw,Aw];refine List.Perm.append_left _ ?_;rw[<-Aw,<-Aw];exact Ex _ Bd
 |.cu p q A B=>by obtain⟨u,h⟩:=aN A;obtain⟨v,k⟩:=aN B;refine⟨u++v,?_⟩;show(plcs (zb A++zb B)++(u++v)).Perm (qx A++qx B);rw[x4];refine List.Perm.trans ?_<|h.append k;rw[Aw,Aw];refine List.Perm.append_left _ ?_;rw[<-Aw,<-Aw];exact Ex _ Bd
theorem SR.links{E:List Nat}(h:SR ks R E):∀p∈zb R,p.1<p.2/\∃t n,ks[p.1]?=some (.lf t n)/\ks[p.2]?=some (.lf (!t) n):=by induction h with|@link p q t n E h1 h2 h3 j l=>intro x U;rw[Al.mp U];exact⟨h1,t,n,h2,h3⟩|ei _ _ _ _ _ _ _ g=>exact g|bo _ _ _ _ _ _ _ I J=>intro x U;exact(Aj.mp U).elim (I x) (J x)|cu _ _ _ _ _ _ _ _ I J=>intro x U;exact(Aj.mp U).elim (I x) (J x)
theorem SR.lkI{E:List Nat}(h:SR ks R E)(nd:(qx R).Nodup):LkI ks (zb R):=by obtain⟨u,J⟩:=aN R;exact⟨(Ar.mp<|J.nodup_iff.mpr nd).1,λp I=>(h.links p I).1,λp I=>(h.links p I).2⟩
theorem SR.cuts{E:List Nat}(h:SR ks R E):(qx R).Nodup->(plcs<|ze R).Nodup/\(∀x∈plcs (ze R),x∉E/\x∈qx R):=by
 induction h with
 |link _ _ _ _ _=>exactλ_=>⟨DX,λx I=>by cases I⟩
 |@ei r i j A EA E h1 h2 h3 h4 h5 t h7 ih=>
  intro nd;obtain⟨n1,n2⟩:=AE.mp<|show(r::qx A).Nodup from nd;obtain⟨a,b⟩:=ih n2;refine⟨a,λx I=>⟨λJ=>?_,Af _ (b x I).2⟩⟩;rcases (t x).mp J with⟨z,_⟩|rfl
  ·exact(b x I).1 z
  ·exact n1 (b x I).2
 |@bo r i j A B EA EB E h1 h2 h3 h4 h5 t h7 l o=>
  intro nd;obtain⟨n1,n2⟩:=AE.mp<|show(r::(qx A++qx B)).Nodup from nd;obtain⟨m1,m2,U⟩:=Ar.mp n2;obtain⟨a1,b1⟩:=l m1;obtain⟨a2,b2⟩:=o m2;have sA:=h2.sub;have C:=h3.sub;show(plcs<|ze A++ze B).Nodup/\∀x∈plcs (ze A++ze B),x∉E/\x∈r::(qx A++qx B);rw[x4];refine⟨Ar.mpr ⟨a1,a2,λx I y hy=>U x (b1 x I).2 y (b2 y hy).2⟩,λx I=>?_⟩;rcases Aj.mp I with I|I
  ·refine⟨λJ=>?_,Af _<|Ao _ (b1 x I).2⟩;rcases (t x).mp J with⟨z,_⟩|⟨z,_⟩|rfl
   ·exact(b1 x I).1 z
   ·exact U x (b1 x I).2 x (C x z) rfl
   ·exact n1<|Ao _ (b1 _ I).2
  ·refine⟨λJ=>?_,Af _<|Ai _ (b2 x I).2⟩;rcases (t x).mp J with⟨z,_⟩|⟨z,_⟩|rfl
   ·exact U x (sA x z) x (b2 x I).2 rfl
   ·exact(b2 x I).1 z
   ·exact n1<|Ai _ (b2 _ I).2
 |@cu p q A B EA EB E w h1 h2 h3 h4 h5 t h7 h8 l o=>
  intro nd;obtain⟨m1,m2,U⟩:=Ar.mp<|show(qx A++qx B).Nodup from nd;obtain⟨a1,b1⟩:=l m1;obtain⟨a2,b2⟩:=o m2;have sA:=h1.sub;have C:=h2.sub;show(plcs<|(p,q)::(ze A++ze B)).Nodup/\∀x∈plcs ((p,q)::(ze A++ze B)),x∉E/\x∈qx A++qx B;rw[zk,x4];have tp:=sA p h3;have tq:=C q h4;have a3:p≠q:=λe=>U p tp q tq e;have T:∀x,x∈plcs (ze A)++plcs (ze B)->x≠p/\x≠q:=λx I=>by
   rcases Aj.mp I with I|I
   ·exact⟨λe=>(b1 x I).1<|e▸h3,λe=>U x (b1 x I).2 q tq e⟩
   ·exact⟨λe=>U p tp x (b2 x I).2 e.symm,λe=>(b2 x I).1<|e▸h4⟩
  refine⟨AE.mpr ⟨λh=>?_,AE.mpr ⟨λh=>(T q h).2 rfl,Ar.mpr ⟨a1,a2,λx I y hy=>U x (b1 x I).2 y (b2 y hy).2⟩⟩⟩,λx I=>?_⟩
  ·rcases An.mp h with h|h
   ·exact a3 h
   ·exact(T p h).1 rfl
  ·have g:x∈E->(x∈EA/\x≠p)\/(x∈EB/\x≠q):=(h7 x).mp;rcases An.mp I with rfl|I
   ·exact⟨λJ=>(g J).elim (λz=>z.2 rfl) λz=>U x tp x (C x z.1) rfl,Ao _ tp⟩
   ·rcases An.mp I with rfl|I
    ·exact⟨λJ=>(g J).elim (λz=>U x (sA x z.1) x tq rfl) λz=>z.2 rfl,Ai _ tq⟩
    ·rcases Aj.mp I with I|I
     ·exact⟨λJ=>(g J).elim (λz=>(b1 x I).1 z.1) λz=>U x (b1 x I).2 x (C x z.1) rfl,Ao _ (b1 x I).2⟩
     ·exact⟨λJ=>(g J).elim (λz=>U x (sA x z.1) x (b2 x I).2 rfl) λz=>(b2 x I).1 z.1,Ai _ (b2 x I).2⟩
theorem tT(ok:dg ks):OkO (ks.map some):=by intro p e i j h;rw[Aq] at h;obtain⟨k,I,J⟩:=Ax.mp h;cases J;exact ok p _ I
theorem hJ(ks:List Kn):vh (ks.map some)=ju ks:=by show(ks.map some).map nu=ks.map qV;rw[Cu];rfl
theorem KW.lf{n:Str}(h:wd[p]?=some (some<|.lf t n)):KW (vh wd) p (.leaf t n):=by show(vh wd)[p]?=_;rw[Aq,h];rfl
theorem KW.nd{e:Bool}{l r:Wd}(h:wd[p]?=some (some<|.nd e i j))(I:KW (vh wd) i l)(J:KW (vh wd) j r):KW (vh wd) p (.node e l r):=
 ⟨i,j,by rw[Aq,h];rfl,I,J⟩
theorem zP{k:Kn}{n:Str}(h:qV k=.tup [.str<|kL t,.str n]):k=.lf t n:=by
 cases k with
 |lf u m=>
  have h1:kL u=kL t:=by injection h with h;injection h with h _;injection h
  have h2:m=n:=by injection h with h;injection h with _ h;injection h with h _;injection h
  subst h2;cases u<;>cases t<;>first|rfl|(exfalso;revert h1;decide)
 |nd e i j=>injection h with h;injection h with _ h;injection h with _ h;cases h
theorem aac{k:Kn}{e:Bool}(h:qV k=.tup [.str<|kN e,.int (i:Int),.int (j:Int)]):k=.nd e i j:=by
 cases k with
 |lf u m=>injection h with h;injection h with _ h;injection h with _ h;cases h
 |nd b I J=>
  have h1:kN b=kN e:=by injection h with h;injection h with h _;injection h
  have h2:((I:Nat):Int)=i:=by injection h with h;injection h with _ h;injection h with h _;injection h
  have h3:((J:Nat):Int)=j:=by injection h with h;injection h with _ h;injection h with _ h;injection h with h _;injection h
  have h2:=Bt.mp h2;have h3:=Bt.mp h3;subst h2 h3;cases b<;>cases e<;>first|rfl|(exfalso;revert h1;decide)
theorem abn(h:(vh wd)[p]?=some y):∃o,wd[p]?=some o/\nu o=y:=by rw[Aq] at h;obtain⟨o,a,b⟩:=Ax.mp h;exact⟨o,a,b⟩
theorem KW.inv_lf{n:Str}(h:KW (vh wd) p<|.leaf t n):wd[p]?=some (some<|.lf t n):=by
 obtain⟨o,a,b⟩:=abn<|show(vh wd)[p]?=some (.tup [.str<|kL t,.str n]) from h;cases o with
 |none=>cases b
 |some k=>rw[a,zP b]
theorem KW.inv_nd{e:Bool}{l r:Wd}(h:KW (vh wd) p<|.node e l r):∃i j,wd[p]?=some (some<|.nd e i j)/\KW (vh wd) i l/\KW (vh wd) j r:=by
 obtain⟨i,j,h1,h2,h3⟩:=h;obtain⟨o,a,b⟩:=abn h1;cases o with
 |none=>cases b
 |some k=>exact⟨i,j,by rw[a,aac b],h2,h3⟩
theorem yc.inv{f:Nat->Nat}(r:yc f fm wd){x:Nat}{k:Kn}(h:wd[x]?=some (some k)):∃p,p<fm.length/\x=f p/\∃o,fm[p]?=some o/\iW f o=some k:=by obtain⟨p,I,e⟩:=r.gap.only x k h;have I:=A3.mp I;have:=r.gap.at_ p (A3.mpr I) _<|Ak I;rw[<-e,h] at this;exact⟨p,I,e,_,Ak I,(Bb this).symm⟩
theorem yc.word{f:Nat->Nat}(r:yc f fm wd):∀{w:Wd} {p:Nat},KW (vh fm) p w->KW (vh wd) (f p) w
 |.leaf t n,p,h=>by have e:=h.inv_lf;exact KW.lf<|r.gap.at_ p (A3.mpr<|je e) _ e
 |.node b l rr,p,h=>by obtain⟨i,j,e,I,J⟩:=h.inv_nd;exact KW.nd (r.gap.at_ p (A3.mpr<|je e) _ e) (r.word I)<|r.word J
theorem SR.cutw{E:List Nat}(h:SR ks R E):∀c∈ze R,∃w,dC ks c.1 w/\dC ks c.2 w.turn:=by
 induction h with
 |link _ _ _ _ _=>intro c g;cases g
 |ei _ _ _ _ _ _ _ j=>exact j
 |bo _ _ _ _ _ _ _ I J=>intro x U;exact(Aj.mp U).elim (I x) (J x)
 |@cu p q A B r t E w h1 h2 h3 C l o T h8 I J=>
  intro x U;rcases An.mp U with rfl|U
  ·exact⟨w,l,o⟩
  ·exact(Aj.mp U).elim (I x) (J x)
noncomputable def jI:RD "_law_copy" du 0 ["_law_web_here"] (λ_=>True):=⟨_,λV B c _ _ _ _ _ _ _ I hN J=>(qf<|za<|zd<|cT (aW bF rfl B.bg aC<|xj<|J_ 0) (aW bF rfl B.bg aC<|xj<|J_ 0)<|aW bF rfl B.bg aC<|xj<|J_ 0)⟩
noncomputable def rc:vt:=(jI).1
def aK(wd:List<|Option Kn):List Nat:=wd.flatMap jx
theorem mZ(wd:List<|Option Kn)(k:Option Kn):aK (wd++[k])=aK wd++jx k:=by unfold aK;rw[A2,Bq,C4,AD]
theorem vD(k:Option Kn):(jx k).length<=2:=by cases k with|none=>exact Be _|some k=>cases k with|lf t n=>exact Be _|nd e i j=>exact Am _
theorem og(wd:List<|Option Kn):(aK wd).length<=2*wd.length:=by
 induction wd with
 |nil=>exact Am _
 |cons k r I=>
  have e:aK (k::r)=jx k++aK r:=Bq ..;have:=vD k;rw[e,Ac,AM];lia
def iI(wd:List<|Option Kn)(p:Nat):Bool:=match wd[p]? with
 |some (some _)=>true
 |_=>false
def jJ(wd:List<|Option Kn)(us:List Nat)(p:Nat):Bool:=iI wd p&&!(decide<|p∈us)
def ah(wd:List<|Option Kn)(us:List Nat)(i:Nat):List Nat:=(List.range i).filter<|jJ wd us
theorem mO(wd:List<|Option Kn)(us:List Nat)(i:Nat):ah wd us (i+1)=ah wd us i++if jJ wd us i=true then [i] else []:=by unfold ah;rw[List.range_succ,A5];congr 1;rw[C6,Br]
def aU(wd:List<|Option Kn)(ct:List<|Nat×Nat):List Nat:=aK wd++plcs ct
def gu:zp:=λys L Q=>∃a l c,∃xs zs us:List Y,ys=[vi a l c]/\L a=some (.lst xs)/\L l=some (.lst zs)/\L c=some (.lst us)/\∀I J c' L',qh L L'->L I=none->L J=none->L c'=none->I≠J->I≠c'->J≠c'->L' I=some (.lst xs)->L' J=some (.lst zs)->L' c'=some (.lst us)->Q (vi I J c') L'
theorem afy:∀ys L Q,gu ys L Q->vo rc 1 ys L Q:=by rintro ys L Q ⟨a,l,c,C,T,us,rfl,ha,hl,hc,q⟩;refine qb ha λg h1=>?_;have j:=By (o:=.lst C) h1;refine qb (j _ _ hl) λp h2=>?_;have r:=j.trans<|By (o:=.lst T) h2;refine qb (r _ _ hc) λt h3=>?_;have I:g≠p:=aZ q9 h2;have J:p≠t:=aZ q9 h3;have U:g≠t:=aZ ((qg I).trans q9) h3;exact x9<|q g p t _ (r.trans<|By h3) h1 (j.none h2) (r.none h3) I U J ((qg U).trans<|(qg I).trans q9) ((qg J).trans q9) q9
def nV(ks:List Kn)(l:List Nat):List Nat:=l.flatMap λp=>jx ks[p]?
theorem gq(ks:List Kn)(a b:List Nat):nV ks (a++b)=nV ks a++nV ks b:=by unfold nV;rw[A2]
theorem cX(ks:List Kn)(x:Nat)(l:List Nat):nV ks (x::l)=jx ks[x]?++nV ks l:=Bq ..
theorem cZ{E:List Nat}(h:E.Nodup)(hi:i∈E):E.Perm ([i]++E.filter λx=>!decide (x=i)):=by
 refine(AZ h ?_).mpr λx=>?_
 ·refine AE.mpr ⟨λz=>?_,h.filter _⟩;have:=(AL.mp z).2;simp at this
 ·rw[Aj,Al,AL];constructor
  ·intro I;by_cases c:x=i
   ·exact .inl c
   ·exact .inr ⟨I,by simp[c]⟩
  ·rintro(rfl|I)
   ·exact hi
   ·exact I.1
theorem SR.part{E:List Nat}(h:SR ks R E):(qx R).Nodup->(nV ks (qx R)++(plcs (ze R)++E)).Perm (qx R):=by
 induction h with
 |@link p q t n U h1 h2 h3 o C=>
  intro _;have e:nV ks [p,q]=[]:=by rw[cX,cX,h2,h3];rfl
  show(nV ks [p,q]++([]++U)).Perm [p,q];rw[e,Cs,Cs];refine(AZ C (by simp;lia)).mpr λx=>?_;rw[o x];simp
 |@ei r i j A g U h1 T h3 o C h6 h7 ih=>
  intro nd;obtain⟨n1,n2⟩:=AE.mp nd;have ih:=ih n2;have l:g.Nodup:=(Ar.mp (Ar.mp<|ih.nodup_iff.mpr n2).2.1).2.1;have p1:=cZ l h3;have p2:(g.filter λx=>!decide (x=i)).Perm _:=cZ (l.filter _) (i:=j) (AL.mpr ⟨o,by simp;exact AJ C⟩);have p3:U.Perm ([r]++(g.filter λx=>!decide (x=i)).filter λx=>!decide (x=j)):=by
   refine(AZ h7<|AE.mpr ⟨λz=>n1<|T.sub _ (AL.mp (AL.mp z).1).1,(l.filter _).filter _⟩).mpr λx=>?_;rw[h6 x,An,AL,AL];simp only[CU,decide_eq_false_iff_not];constructor
   ·rintro(⟨a,b,c⟩|rfl)
    ·exact .inr ⟨⟨a,b⟩,c⟩
    ·exact .inl rfl
   ·rintro(rfl|⟨⟨a,b⟩,c⟩)
    ·exact .inr rfl
    ·exact .inl ⟨a,b,c⟩
  show(nV ks (r::qx A)++(plcs (ze A)++U)).Perm ([r]++qx A);rw[cX,h1];show((([i]++[j])++nV ks (qx A))++(plcs (ze A)++U)).Perm _;refine Dj.mpr λa=>?_;have c1:=p1.count_eq a;have c2:=p2.count_eq a;have c3:=p3.count_eq a;have c4:=ih.count_eq a;simp only[Dy] at c1 c2 c3 c4 ⊢;lia
 |@bo r i j A B g EB U h1 T hB o C h6 h7 I J=>
  intro nd;obtain⟨n1,n2⟩:=AE.mp nd;obtain⟨m1,m2,m3⟩:=Ar.mp n2;have I:=I m1;have J:=J m2;have l:g.Nodup:=(Ar.mp (Ar.mp<|I.nodup_iff.mpr m1).2.1).2.1;have nB:EB.Nodup:=(Ar.mp (Ar.mp<|J.nodup_iff.mpr m2).2.1).2.1;have p1:=cZ l o;have p2:=cZ nB C;have p3:U.Perm ([r]++((g.filter λx=>!decide (x=i))++EB.filter λx=>!decide (x=j))):=by
   refine(AZ h7<|AE.mpr ⟨λz=>n1 ?_,Ar.mpr ⟨l.filter _,nB.filter _,λa ha b hb=>m3 a (T.sub _ (AL.mp ha).1) b<|hB.sub _ (AL.mp hb).1⟩⟩).mpr λx=>?_
   ·rcases Aj.mp z with z|z
    ·exact Ao _<|T.sub _ (AL.mp z).1
    ·exact Ai _<|hB.sub _ (AL.mp z).1
   ·rw[h6 x,An,Aj,AL,AL];simp only[CU,decide_eq_false_iff_not];constructor
    ·rintro(a|a|rfl)
     ·exact .inr<|.inl a
     ·exact .inr<|.inr a
     ·exact .inl rfl
    ·rintro(rfl|a|a)
     ·exact .inr<|.inr rfl
     ·exact .inl a
     ·exact .inr<|.inl a
  show(nV ks (r::(qx A++qx B))++(plcs (ze A++ze B)++U)).Perm ([r]++(qx A++qx B));rw[cX,h1,gq,x4];show((([i]++[j])++(nV ks (qx A)++nV ks (qx B)))++((plcs (ze A)++plcs (ze B))++U)).Perm _;refine Dj.mpr λa=>?_;have c1:=p1.count_eq a;have c2:=p2.count_eq a;have c3:=p3.count_eq a;have c4:=I.count_eq a;have c5:=J.count_eq a;simp only[Dy] at c1 c2 c3 c4 c5 ⊢;lia
 |@cu p q A B g EB U w T hB h3 o C h6 h7 h8 I J=>
  intro n2;obtain⟨m1,m2,m3⟩:=Ar.mp<|show(qx A++qx B).Nodup from n2;have I:=I m1;have J:=J m2;have l:g.Nodup:=(Ar.mp (Ar.mp<|I.nodup_iff.mpr m1).2.1).2.1;have nB:EB.Nodup:=(Ar.mp (Ar.mp<|J.nodup_iff.mpr m2).2.1).2.1;have p1:=cZ l h3;have p2:=cZ nB o;have p3:U.Perm ((g.filter λx=>!decide (x=p))++EB.filter λx=>!decide (x=q)):=by refine(AZ h8<|Ar.mpr ⟨l.filter _,nB.filter _,λa ha b hb=>m3 a (T.sub _ (AL.mp ha).1) b<|hB.sub _ (AL.mp hb).1⟩).mpr λx=>?_;rw[h7 x,Aj,AL,AL];simp only[CU,decide_eq_false_iff_not]
  show(nV ks (qx A++qx B)++(plcs ((p,q)::(ze A++ze B))++U)).Perm (qx A++qx B);rw[gq,zk,x4];show((nV ks (qx A)++nV ks (qx B))++(([p]++[q]++(plcs (ze A)++plcs (ze B)))++U)).Perm _;refine Dj.mpr λa=>?_;have c1:=p1.count_eq a;have c2:=p2.count_eq a;have c3:=p3.count_eq a;have c4:=I.count_eq a;have c5:=J.count_eq a;simp only[Dy] at c1 c2 c3 c4 c5 ⊢;lia
structure oo(wd:List<|Option Kn):Prop where
 ne:∀(p:Nat) (e:Bool) (i j:Nat),wd[p]?=some (some<|.nd e i j)->i≠j
 un:∀(p q:Nat) (k l:Kn) (x:Nat),wd[p]?=some (some k)->wd[q]?=some (some l)->x∈jx (some k)->x∈jx (some l)->p=q
theorem pJ{x:Nat}(h:x∈aK wd):∃(p:Nat) (k:Kn),wd[p]?=some (some k)/\x∈jx (some k):=by
 obtain⟨o,J,I⟩:=Bj.mp h;obtain⟨p,e⟩:=DF J;cases o with
 |none=>cases I
 |some k=>exact⟨p,k,e,I⟩
theorem aa9{x:Nat}{k:Kn}(h:wd[p]?=some (some k))(I:x∈jx (some k)):x∈aK wd:=Bj.mpr ⟨_,AC h,I⟩
theorem acd{l:List Nat}(h:(nV ks l).Nodup)(all:∀p,p<ks.length->p∈l):oo (ks.map some):=by
 have I:∀{p:Nat} {k:Kn},(ks.map some)[p]?=some (some k)->ks[p]?=some k/\p∈l:=λ{p k} e=>by rw[Aq] at e;obtain⟨k',g,o⟩:=Ax.mp e;cases o;exact⟨g,all p<|je g⟩
 clear all;constructor
 ·intro p e i j J;obtain⟨h1,h2⟩:=I J;obtain⟨a,b,rfl⟩:=Co h2;rw[gq,cX,h1] at h;have:=(Ar.mp (Ar.mp h).2.1).1;have:[i,j].Nodup:=this;simpa using this
 ·intro p q k m x J r t C;obtain⟨h1,h2⟩:=I J;obtain⟨h3,T⟩:=I r;by_cases c:p=q
  ·exact c
  ·exfalso;obtain⟨a,b,rfl⟩:=Co h2;have hm:q∈a++b:=by
    rcases Aj.mp T with z|z
    ·exact Ao _ z
    ·rcases An.mp z with z|z
     ·exact absurd z.symm c
     ·exact Ai _ z
   have pm:(nV ks<|a++p::b).Perm (jx (some k)++nV ks (a++b)):=by rw[gq,cX,h1,gq];refine Dj.mpr λz=>?_;simp only[Dy];lia
   have n:=pm.nodup_iff.mp h;have U:x∈nV ks (a++b):=Bj.mpr ⟨q,hm,by rw[h3];exact C⟩;exact(Ar.mp n).2.2 x t x U rfl
theorem yc.part{f:Nat->Nat}(r:yc f fm wd){x y:Nat}{k:Kn}(h:wd[x]?=some (some k))(I:y∈jx (some k)):∃(p:Nat) (o:Kn) (a:Nat),x=f p/\fm[p]?=some (some o)/\y=f a/\a∈jx (some o):=by
 obtain⟨p,g,e,o,U,J⟩:=r.inv h;cases o with
 |none=>cases J
 |some o=>
  cases o with
  |lf t n=>cases J;cases I
  |nd b i j=>
   cases J;have I:y∈[f i,f j]:=I;rcases An.mp I with I|I
   ·exact⟨p,_,i,e,U,I,Av ..⟩
   ·exact⟨p,_,j,e,U,Al.mp I,Af _<|Av ..⟩
theorem lu(ok:OkO fm){a:Nat}{o:Kn}(h:fm[p]?=some (some o))(I:a∈jx (some o)):a<fm.length:=by
 cases o with
 |lf t n=>cases I
 |nd e i j=>
  have:=ok p e i j h;have:=je h;have I:a∈[i,j]:=I;rcases An.mp I with rfl|I
  ·lia
  ·rw[Al.mp I];lia
theorem yc.inj{f:Nat->Nat}(r:yc f fm wd){a b:Nat}(I:a<fm.length)(J:b<fm.length)(e:f a=f b):a=b:=r.gap.inj a (A3.mpr I) b (A3.mpr J) e
theorem oo.ren{f:Nat->Nat}(U:oo fm)(ok:OkO fm)(r:yc f fm wd):oo wd:=by
 constructor
 ·intro x e i j h;obtain⟨p,hp,rfl,o,J,I⟩:=r.inv h;cases o with
  |none=>cases I
  |some o=>
   cases o with
   |lf t n=>cases I
   |nd b a c=>
    cases I;have:=ok p e a c J;exactλz=>U.ne p e a c J<|r.inj (by lia) (by lia) z
 ·intro x y k l z h1 h2 hz hw;obtain⟨p,o,a,rfl,g,rfl,C⟩:=r.part h1 hz;obtain⟨q,o',b,rfl,T,eb,hb⟩:=r.part h2 hw;cases r.inj (lu ok g C) (lu ok T hb) eb;rw[U.un p q o o' a g T C hb]
def lfB:Option Kn->Bool
 |some (.lf _ _)=>true
 |_=>false
theorem SR.leaves{E:List Nat}(h:SR ks R E):(plcs<|zb R).Perm ((qx R).filter λp=>lfB ks[p]?):=by
 induction h with
 |@link p q t n U h1 h2 h3 g l=>
  show(plcs [(p,q)]).Perm ([p,q].filter λp=>lfB ks[p]?);rw[w9,C6,C6,h2,h3];exact BI _
 |@ei r i j A o U h1 C h3 g l T h7 ih=>
  show(plcs<|zb A).Perm ((r::qx A).filter λp=>lfB ks[p]?);rw[C6,h1];exact ih
 |@bo r i j A B o EB U h1 C hB g l T h7 I J=>
  show(plcs<|zb A++zb B).Perm ((r::(qx A++qx B)).filter λp=>lfB ks[p]?);rw[C6,h1,x4];show(plcs (zb A)++plcs (zb B)).Perm ((qx A++qx B).filter λp=>lfB ks[p]?);rw[A5];exact I.append J
 |@cu p q A B o EB U w C hB h3 g l T h7 h8 I J=>
  show(plcs<|zb A++zb B).Perm ((qx A++qx B).filter λp=>lfB ks[p]?);rw[x4,A5];exact I.append J
theorem pL(f:Nat->Nat):∀lk:List (Nat×Nat),(plcs<|lk.map<|mmP f).Perm<|(plcs lk).map f
 |[]=>BI _
 |c::r=>by
  have I:=pL f r;rw[AF,zk,zk,AF,AF];show(min (f c.1) (f c.2)::max (f c.1) (f c.2)::_).Perm _;by_cases h:f c.1<=f c.2
  ·rw[BU h,CC h];exact(I.cons _).cons _
  ·rw[CA (by lia),CM (by lia)];exact((I.cons _).cons _).trans (List.Perm.swap _ _ _)
theorem kK(f:Nat->Nat):∀ct:List (Nat×Nat),plcs (ct.map<|ppP f)=(plcs ct).map f
 |[]=>rfl
 |c::r=>by rw[AF,zk,zk,AF,AF,kK f r];rfl
theorem cx{f:Nat->Nat}:∀{l:List Nat},l.Nodup->(∀a∈l,∀b∈l,f a=f b->a=b)->(l.map f).Nodup
 |[],_,_=>DX
 |a::r,h,g=>by obtain⟨h1,h2⟩:=AE.mp h;rw[AF,AE];refine⟨λz=>?_,cx h2 λx J y U=>g x (Af _ J) y<|Af _ U⟩;obtain⟨b,I,e⟩:=B0.mp z;exact h1<|g b (Af _ I) a (Av ..) e▸I
def cO(f:Nat->Nat):Ru->Ru
 |.link p q=>.link (min (f p)<|f q)<|max (f p)<|f q
 |.ei r A=>.ei (f r)<|cO f A
 |.bo r A B=>.bo (f r) (cO f A)<|cO f B
 |.cu p q A B=>.cu (f p) (f q) (cO f A)<|cO f B
theorem fU(f:Nat->Nat):∀R:Ru,(qx<|cO f R).Perm<|(qx R).map f
 |.link p q=>by
  show [min (f p)<|f q,max (f p)<|f q].Perm [f p,f q];by_cases h:f p<=f q
  ·rw[BU h,CC h]
  ·rw[CA (by lia),CM (by lia)];exact List.Perm.swap _ _ _
 |.ei r A=>(fU f A).cons _
 |.bo r A B=>by show(f r::(qx (cO f A)++qx (cO f B))).Perm (f r::(qx A++qx B).map f);rw[AH];exact((fU f A).append<|fU f B).cons _
 |.cu p q A B=>by show(qx (cO f A)++qx (cO f B)).Perm ((qx A++qx B).map f);rw[AH];exact(fU f A).append (fU f B)
theorem kW{x:Nat}{k:Kn}(h:(ks.map some)[x]?=some (some k)):ks[x]?=some k:=by rw[Aq] at h;obtain⟨I,e,z⟩:=Ax.mp h;cases z;exact e
structure TrO(ks:List Kn)(R:Ru)(E:List Nat):Prop where
 ok:dg ks
 sr:SR ks R E
 nd:(qx R).Nodup
 len:ks.length<=96
def eQ:Ru->List Ru
 |.link p q=>[.link p q]
 |.ei r A=>.ei r A::eQ A
 |.bo r A B=>.bo r A B::(eQ A++eQ B)
 |.cu p q A B=>.cu p q A B::(eQ A++eQ B)
theorem tZ(A:Ru):eQ A=A::(wz A).flatMap eQ:=by cases A<;>simp[eQ,wz]
end L3
namespace TS
open PySem PyProof.Rows PySem.W
section
variable {w:World}
end
end TS
namespace L2
open PySem PySem.Spec PyProof.Rows
end L2
namespace L3
open PySem L2
open PySem L2 Words
theorem wV(l:List Nat):nY l=(l.map λn:Nat=>(n:Int)).map Y.int:=by unfold nY;rw[Cu];rfl
theorem oG{L:qr}:∀xs:List Int,Paired (x8 L 0) (xs.map Y.int)<|xs.map λx=>Da.s<|.int x
 |[]=>.nil
 |_::r=>.cons ⟨rfl,rfl⟩<|oG r
theorem KW.ex{w:Wd}(h:KW (vh wd) p w):∃k,wd[p]?=some (some k):=by cases w with|leaf t n=>exact⟨_,h.inv_lf⟩|node e l r=>obtain⟨i,j,a,_⟩:=h.inv_nd;exact⟨_,a⟩
def rsK(ks:List Kn)(T:List Nat):List (Option Kn):=(List.range ks.length).map λp=>if p∈T then ks[p]? else none
theorem wP(ks:List Kn)(T:List Nat):(rsK ks T).length=ks.length:=by unfold rsK;rw[Ae,BZ]
theorem uf{T:List Nat}(I:p<ks.length):(rsK ks T)[p]?=some (if p∈T then ks[p]? else none):=by unfold rsK;rw[Aq,DK I];rfl
theorem ak0{T:List Nat}{k:Kn}(J:p∈T)(I:ks[p]?=some k):(rsK ks T)[p]?=some (some k):=by rw[uf<|je I,AA J,I]
theorem afu{T:List Nat}{k:Kn}(h:(rsK ks T)[p]?=some (some k)):p∈T/\ks[p]?=some k:=by
 have I:p<ks.length:=by rw[<-wP ks T];exact je h
 rw[uf I] at h;by_cases c:p∈T
 ·rw[AA c] at h;exact⟨c,Bb h⟩
 ·rw[Az c] at h;cases h
theorem agn{T:List Nat}(h:∀p,p<ks.length->p∈T):rsK ks T=ks.map some:=by
 refine Ef λp=>?_;by_cases c:p<ks.length
 ·rw[uf c,AA<|h p c,Aq,Ak c];rfl
 ·rw[B3 (by rw[wP];lia),B3 (by rw[Ae];lia)]
section
variable {E:List Nat}
theorem TrO.prts(T:TrO ks R E){x:Nat}:x∈aK (rsK ks<|qx R)↔x∈nV ks (qx R):=by
 constructor
 ·intro h;obtain⟨p,k,h1,h2⟩:=pJ h;obtain⟨a,b⟩:=afu h1;exact Bj.mpr ⟨p,a,by rw[b];exact h2⟩
 ·intro h;obtain⟨p,I,J⟩:=Bj.mp h;have e:=Ak<|T.sr.lt p I;rw[e] at J;exact aa9 (ak0 I e) J
theorem TrO.ends(T:TrO ks R E)(x:Nat):x∈E↔x∈qx R/\x∉aK (rsK ks<|qx R)/\x∉plcs (ze R):=by
 have P:=T.sr.part T.nd;have N:=P.nodup_iff.mpr T.nd;obtain⟨g,I,J⟩:=Ar.mp N;obtain⟨j,l,U⟩:=Ar.mp I;rw[T.prts];constructor
 ·intro h;exact⟨T.sr.sub x h,λz=>J x z x (Ai _ h) rfl,λz=>U x z x h rfl⟩
 ·rintro⟨a,b,c⟩;rcases Aj.mp (P.mem_iff.mpr a) with z|z
  ·exact absurd z b
  ·rcases Aj.mp z with z|z
   ·exact absurd z c
   ·exact z
theorem SR.rls(h:SR ks R E):∀B∈eQ R,(∃EB,SR ks B EB)/\(∀x∈qx B,x∈qx R)/\(qx B).Sublist (qx R)/\vj B<=vj R/\(∀c∈ze B,c∈ze R):=by
 induction h with
 |link h1 h2 h3 U g=>
  intro B J;cases Al.mp J;exact⟨⟨_,.link h1 h2 h3 U g⟩,λ_ h=>h,Dz _,Am _,λ_ h=>h⟩
 |@ei r i j A EA E h1 t h3 U g T h7 ih=>
  intro B J;rcases An.mp J with rfl|J
  ·exact⟨⟨_,.ei h1 t h3 U g T h7⟩,λ_ h=>h,Dz _,Am _,λ_ h=>h⟩
  ·obtain⟨a,b,c,d,e⟩:=ih B J;exact⟨a,λx h=>Af _<|b x h,c.cons _,BQ d,e⟩
 |@bo r i j A B EA EB E h1 t J U g T h7 l o=>
  intro C I;rcases An.mp I with rfl|I
  ·exact⟨⟨_,.bo h1 t J U g T h7⟩,λ_ h=>h,Dz _,Am _,λ_ h=>h⟩
  ·rcases Aj.mp I with I|I
   ·obtain⟨a,b,c,d,e⟩:=l C I;exact⟨a,λx h=>Af _<|Ao _<|b x h,(c.trans<|Ek ..).cons _,by show _<=max (vj A) (vj B)+1;lia,λx h=>Ao _<|e x h⟩
   ·obtain⟨a,b,c,d,e⟩:=o C I;exact⟨a,λx h=>Af _<|Ai _<|b x h,(c.trans<|C7 ..).cons _,by show _<=max (vj A) (vj B)+1;lia,λx h=>Ai _<|e x h⟩
 |@cu p q A B EA EB E w t J h3 U g T h7 h8 l o=>
  intro C I;rcases An.mp I with rfl|I
  ·exact⟨⟨_,.cu t J h3 U g T h7 h8⟩,λ_ h=>h,Dz _,Am _,λ_ h=>h⟩
  ·rcases Aj.mp I with I|I
   ·obtain⟨a,b,c,d,e⟩:=l C I;exact⟨a,λx h=>Ao _<|b x h,c.trans<|Ek ..,by show _<=max (vj A) (vj B)+1;lia,λx h=>Af _<|Ao _<|e x h⟩
   ·obtain⟨a,b,c,d,e⟩:=o C I;exact⟨a,λx h=>Ai _<|b x h,c.trans<|C7 ..,by show _<=max (vj A) (vj B)+1;lia,λx h=>Af _<|Ai _<|e x h⟩
theorem ay:∀{R A B:Ru},A∈eQ R->B∈eQ A->B∈eQ R
 |.link p q,A,B,h1,h2=>by cases Al.mp h1;exact h2
 |.ei r C,A,B,h1,h2=>by
  rcases An.mp h1 with rfl|h1
  ·exact h2
  ·exact Af _<|ay h1 h2
 |.bo r C D,A,B,h1,h2=>by
  rcases An.mp h1 with rfl|h1
  ·exact h2
  ·rcases Aj.mp h1 with h1|h1
   ·exact Af _<|Ao _<|ay h1 h2
   ·exact Af _<|Ai _<|ay h1 h2
 |.cu p q C D,A,B,h1,h2=>by
  rcases An.mp h1 with rfl|h1
  ·exact h2
  ·rcases Aj.mp h1 with h1|h1
   ·exact Af _<|Ao _<|ay h1 h2
   ·exact Af _<|Ai _<|ay h1 h2
theorem gQ(A:Ru):A∈eQ A:=by rw[tZ];exact Av ..
theorem afg{A B:Ru}(h:B∈wz A):B∈eQ A:=by rw[tZ];exact Af _<|Bj.mpr ⟨B,h,gQ B⟩
end
noncomputable def jN:RD "_law_stir" eV 0 ["_law_script","_law_total","_law_k","_law_cell"] (λ_=>True):=⟨_,λV B c _ _ _ _ _ _ _ I hN J=>(qa (S_ 1 hN qd)<|qa (wn vb rfl (kI rfl B.bp<|qv 0) (w5 (n:=2) rfl<|qz (G_ 2 hN)<|qz (G_ 3 hN) xw)<|qf<|S_ 1 hN<|qk jl (qk jr (qk jr (qk jr (qk gi (qv 1) qd)<|qk jl (qv 3) qd)<|qv 2) qd) qd)<|qf<|za<|qv 1)⟩
noncomputable def u3:vt:=(jN).1
noncomputable def jG:RD "_law_pick" eW 0 ["_law_stir_here","_law_factor"] (λ_=>True):=⟨_,λV B c _ _ _ _ _ _ _ I hN J=>(qf<|za<|qk xo (qk jl (qk gi (qv 0)<|qv 1) qd) qd)⟩
noncomputable def sG:vt:=(jG).1
noncomputable def jD(J:zp)(U:zp)(I:zp):RD "_law_sown" fB 172 ["_law_script","_law_stir_here","_law_wide","_law_room"] (λV=>q8_ V J/\apl V U/\q6_ V I):=⟨_,λV B c _ _ _ _ _ _ _ g hN j=>(qa (S_ 3 hN<|qk jr qd<|qk jl (C_ c.1 g<|xr (qv 1) qd) qd)<|xn (zq (E_ j (qk jl (C_ c.1 g<|xr (qv 1) qd) qd) qd) (qf<|S_ 3 hN<|qv 2) z0)<|qf<|za<|C_ c.2.1 g<|cT (aE (oW _ _ _) (qv 0) (aP qd) bw) (qk jl (C_ c.2.2 g<|xr (qv 0) qd) qd)<|qv 3)⟩
noncomputable def rh(J:zp)(U:zp)(I:zp):vt:=(jD J U I).1
def rM:zp:=λys L Q=>∃I:List Int,ys=[.sq<|I.map Y.int]/\∀v:Int,Q (.int v) L
theorem ag1:∀ys L Q,rM ys L Q->vo u3 4 ys L Q:=by
 rintro ys L Q ⟨g,rfl,q⟩;refine kw ⟨λ_ I J=>∃v c2 c3,I=[some<|.sq<|g.map Y.int,some<|.int v,c2,c3]/\J=L,⟨1,_,_,rfl,rfl⟩,λ_ _ _ _=>True.intro,?_,?_⟩
 ·rintro i y I J j ⟨v,c2,c3,rfl,rfl⟩;obtain⟨z,U,rfl⟩:=iC j;rw[Aq] at U;obtain⟨z,l,rfl⟩:=Ax.mp U;exact⟨.inr ⟨by decide,by decide⟩,(by decide:(0:Int)<1000003),(by decide:(0:Int)<2147483647),_,EK _,_,_,_,rfl,rfl⟩
 ·rintro I J ⟨v,c2,c3,rfl,rfl⟩;exact x9<|q v
def dW:zp:=λys L Q=>∃s f:Int,ys=[.int s,.int f]/\0<f/\f<1000000000/\∀v,0<=v->v<134217728->Q (.int v) L
theorem ah7:∀ys L Q,dW ys L Q->vo sG 2 ys L Q:=by
 rintro ys L Q ⟨s,f,rfl,h0,h1,q⟩;refine⟨.inr ⟨by omega,by omega⟩,(by decide:(0:Int)<2147483629),⟨by decide,by decide⟩,x9<|q _ ?_ ?_⟩
 all_goals
  generalize s*f=z;omega
structure kA(ks:List Kn)(R:Ru)(E:List Nat):Prop where
 ok:dg ks
 sr:SR ks R E
 tp:(qx R).Perm (List.range ks.length)
 len:ks.length<=96
theorem yY(I:List Int)(lo hi:Option Int):∃ms:List Int,gM (I.map Y.int) lo hi=ms.map Y.int/\ms.length<=I.length:=by unfold gM;refine⟨(I.drop<|HT.sIx (I.map Y.int).length 0 lo).take<|HT.sIx (I.map Y.int).length (I.map Y.int).length hi-HT.sIx (I.map Y.int).length 0 lo,by rw[EH,List.map_drop],?_⟩;rw[AR,Bm];lia
def pX:zp:=λys L Q=>∃I:List Int,∃s:Int,∃w:Nat,∃wi:Int,ys=[.sq<|I.map Y.int,.int s,.int wi]/\wi=(w:Int)/\I.length<=63/\w<=96/\∀ka ks R E L',qh L L'->L ka=none->L' ka=some (.lst<|ju ks)->kA ks R E->Q (.tup [.ref ka,zm R]) L'
theorem ahv:∀ys L Q,pX ys L Q->vo (rh dW lQ gA) 4 ys L Q:=by
 rintro ys L Q ⟨I,s,w,wi,rfl,rfl,hn,hw,q⟩;refine⟨s,774511,rfl,by decide,by decide,λv v0 _=>⟨(by decide:(0:Int)<37),?_⟩⟩;refine⟨λg j=>∃r:Nat,r<=96/\g=[some<|.sq<|I.map Y.int,some<|.int s,some<|.int (w:Int),some<|.int (r:Int)]/\j=L,?_,?_⟩
 ·refine⟨s,31337,rfl,by decide,by decide,λu _ _=>⟨(by decide:(0:Int)<8),zg (λ_=>⟨w,hw,rfl,rfl⟩) λ_=>⟨(24+v % 37).toNat,by lia,?_,rfl⟩⟩⟩;rw[show(((24+v % 37).toNat:Nat):Int)=24+v % 37 by lia];rfl
 ·rintro g j ⟨r,o,rfl,rfl⟩ pm J;obtain⟨p,U,t⟩:=yY I (some 1) none;rw[U];exact⟨I,0,rfl,by decide,λc=>⟨(by decide:(0:Int)<1000000000),pm,p,_,r,rfl,q9,by lia,o,λC T R E l ok sr tp hl=>x9<|q C T R E _ ((By J).trans<|By l) (bL l) q9 ⟨ok,sr,tp,by lia⟩⟩⟩
open PySem L2 PyProof.Rows
end L3
namespace L2
open PySem PySem.Spec PyProof.Rows
theorem ae0(neg:Bool)(p:X.A.units+128<cLine):we X (compareOp<|if neg then .NotIn else .In) (λx y H Q=>∃a kvs k,y=.ref a/\H a=some (.dK kvs)/\x=kV k/\Q (.bl<|if neg then !(bU kvs k).isSome else(bU kvs k).isSome) H):=by rintro U s r H x y v u Q I g j ⟨a,kvs,k,l,e,ex,q⟩;subst ex l;cases (show u=Value.ref a from j);cases neg with|false=>exact at7 (by omega) I (rR.k e) g λo J=>⟨.bl _,H,J,rfl,q⟩|true=>exact ah9 (by omega) I (rR.k e) g λo J=>⟨.bl _,H,J,rfl,q⟩
end L2
namespace L3
open PySem L2
theorem aa1{xs:List<|jk×V}(p:Paired (λ(p:jk×Y) (q:jk×V)=>p.1=q.1/\RV G H p.2 q.2) kvs xs)(k:jk):(bU xs k).isSome=(ko kvs k).isSome:=by
 unfold bU ko;rw[CT,CT]
 induction p with
 |nil=>rfl
 |@cons a b _ _ r t I=>
  rw[BH,BH,r.1];cases decide (b.1=k) with|true=>rfl|false=>exact I
def afm(neg:Bool)(x y:Y)(L:qr)(Q:YK):Prop:=match y,ahn x with
 |.ref a,some k=>pU L a λkvs=>Q (.bl<|nb neg (ko kvs k).isSome) L
 |_,_=>False
theorem alj(neg:Bool)(j:X.A.units+128<cLine):we X (compareOp<|if neg then .NotIn else .In) (iO X.g3<|afm neg):=E6 (ae0 neg j) λx y H Q C T L Q3 l o g z k=>by
 unfold afm at z;split at z
 ·rename_i a I p;obtain⟨J,e,z⟩:=gU z;obtain⟨U,r,t⟩:=g a _ e;refine⟨a,U,I,o,r,lJ p l,?_⟩;have:(if neg=true then !(bU U I).isSome else(bU U I).isSome)=nb neg (ko J I).isSome:=by rw[aa1 t];cases neg<;>simp[nb]
  rw[this];exact k _ H _ L (EL _) g (by rfl) z
 ·exact z.elim
theorem ajr(I:X.A.units+128<cLine):we X (compareOp .NotIn) (iO X.g3<|afm true):=alj true I
def ac4(xs:List Y)(L:qr)(Q:YK):Prop:=match xs with
 |[.ref a]=>fM L a λys=>Q (.tup ys) L
 |_=>False
theorem afi :jo X (.type "tuple") (upL X.g3 ac4):=EZ nw λt H Q C L T g J z k=>by
 unfold ac4 at z;split at z
 ·rename_i a;obtain⟨u,rfl,j⟩:=g.inv1;obtain⟨o,e,z⟩:=kn z;obtain⟨U,p,r⟩:=J a _ e;cases (show u=V.ref a from j);exact⟨a,U,rfl,.inl ⟨.inl<|.inl p,λl I=>k _ _ (.tup o) L (EM I) (J.skip I) ⟨l,U,rfl,.inl<|.inl zh,r.ts<|EM I⟩ z⟩⟩
 ·exact z.elim
open PySem L2 Words
def plR:Ru->List Nat
 |.link p q=>[p,q]
 |.ei r _=>[r]
 |.bo r _ _=>[r]
 |.cu p q _ _=>[p,q]
theorem tL(A:Ru):0<vj A:=by cases A<;>simp[vj]
structure UsI(us:List Nat)(kvs:List<|jk×Y):Prop where
 val:∀x:Nat,(ko kvs<|.inl (x:Int)).isSome=decide (x∈us)
 len:kvs.length<=us.length
theorem UsI.nil:UsI [] []:=⟨λ_=>rfl,Am _⟩
theorem UsI.put{us:List Nat}(h:UsI us kvs)(x:Nat)(y:Y):UsI (us++[x]) (mK kvs (.inl (x:Int)) y):=by
 refine⟨λz=>?_,?_⟩
 ·rw[sO];by_cases e:z=x
  ·subst e;rw[AA rfl,AI<|Ai _<|Al.mpr rfl];rfl
  ·rw[Az λq=>e<|Bt.mp<|Sum.inl.inj q,h.val];refine decide_eq_decide.mpr ⟨λq=>Ao _ q,λq=>?_⟩;rcases Aj.mp q with q|q
   ·exact q
   ·exact absurd (Al.mp q) e
 ·have:=sI kvs (.inl (x:Int)) y;have:=h.len;rw[Ac];show _<=us.length+1;lia
theorem aew{k:Option Kn}(h:wd[i]?=some k):eZ (vh wd) (0+(i:Int))=some (nu k):=by rw[B6];exact v5 h
def aes(Pt:Addr)(I:zp):vt:=(zj (jz (io jb)<|qo 2)
 (zj (m8 (ab8<|qc 0) (jS 2<|vz (qo 3)<|vz (qo 4) hU) (zj (jz (x5 rK (xh I<|qi (qc 1)<|bV (qc 3)<|bR 39373)<|bR 40)<|qo 5)
 (oH (wx (rdE (si 4)<|bR 3) (jz (x5 dh (x5 dh (qc 5)<|bR 1)<|af kD<|qi (x5 cV (qc 2)<|dq 4 1)<|qi (x5 cV (qc 2)<|dq 4 2) jb)<|qo 5) kh)
 (xt<|eI zv (qc 2)<|aJ<|qc 5))))
 (wc<|abv Pt lamQ 2<|sW<|si 0)))
def i6(Pt:Addr):zp:=λys L Q=>∃a,∃ks:List Kn,∃s:Int,ys=[.ref a,.int s]/\L a=some (.lst<|ju ks)/\OkO (ks.map some)/\ks.length<=1000/\L Pt=some (.tb lamQ)/\
 ∀D qs,L D=none->qs.Perm (List.range (ks.map some).length)->dP (ks.map some) qs->Q (.ref D) (qj L D<|.lst<|nY qs)
theorem yg :∀ys L Q,i6 Pt ys L Q->vo (aes Pt lg) 6 ys L Q:=by
 rintro ys L Q ⟨a,ac,s,rfl,ha,ok,hz,hP,q⟩;obtain⟨g,U⟩:∃g,g=ac.map some:=⟨_,rfl⟩;rw[<-hJ,<-U] at ha;rw[<-U] at ok q;have hz:g.length<=1000:=by rw[U,Ae];exact hz
 have all:∀i,g[i]?≠some none:=λi e=>by rw[U,Aq] at e;obtain⟨_,_,z⟩:=Ax.mp e;cases z
 have big:=bg_;intro J I;have s0:qh L (qj L J<|.lst []):=By I;have a3:a≠J:=aZ ha I;refine kz (s0 _ _ ha) λkeep kp=>kw ⟨λi τ l=>∃rks:List Int,∃c3 c4 c5,τ=[some<|Y.ref a,some<|.int s,some<|Y.ref J,c3,c4,c5]/\l=qj L J (.lst<|rks.map Y.int)/\rks.length=i/\zE g rks,⟨[],_,_,_,rfl,rfl,rfl,λp _ _ _ hp=>by cases hp⟩,?_,?_,?_⟩
 ·rintro i τ l ⟨rks,c3,c4,c5,rfl,rfl,_⟩;exact kp _ (by rw[qg a3,qg a3])
 ·rintro i y τ l hy ⟨rks,c3,c4,c5,rfl,rfl,C,T⟩;obtain⟨z,ez,rfl⟩:=iC hy;rw[Aq] at ez;obtain⟨k,ek,rfl⟩:=Ax.mp ez;have hi:=je ek;refine⟨s,i,39373,rfl,by exact AY _,by omega,by decide,by decide,λv h0 h1=>?_⟩;have m0:(0:Int)<=v % 40:=Ez _ (by decide);have a4:(rks.map Y.int).length=i:=by rw[Ae];exact C
  refine⟨show(0:Int)<40 by decide,λa5 l=>∃r:Int,a5=[some<|Y.ref a,some<|.int s,some<|Y.ref J,some<|.int (i:Nat),some<|nu k,some<|.int r]/\l=qj L J (.lst<|rks.map Y.int)/\∀e i j,k=some (.nd e i j)->rks.getD i 0<r/\rks.getD j 0<r,?_,?_⟩
  ·cases k with
   |none=>exact absurd ek<|all i
   |some k=>
    cases k with
    |lf t n=>exact⟨v % 40,rfl,rfl,λe i j z=>by cases z⟩
    |nd e p1 p2=>
     obtain⟨l1,l2⟩:=ok _ _ _ _ ek;have g1:=jw<|tN (rks:=rks) (i:=p1) (by lia);have g2:=jw<|tN (rks:=rks) (i:=p2) (by lia);refine qb q9<|qm g1 ?_;refine qb q9<|qm g2 ?_;refine⟨v % 40+1+max (rks.getD p1 0) (rks.getD p2 0),rfl,rfl,λe' i' j' z=>?_⟩;cases z;have a1:rks.getD p1 0<=max (rks.getD p1 0) (rks.getD p2 0):=Int.le_max_left ..;have a2:rks.getD p2 0<=max (rks.getD p1 0) (rks.getD p2 0):=Int.le_max_right ..;constructor<;>lia
  ·rintro a5 l ⟨r,rfl,rfl,hr⟩;refine qb q9 (qp q9 ⟨by rw[a4];exact big _ (by lia),?_⟩);refine⟨_,EK _,rks++[r],_,_,_,rfl,?_,by rw[Ac,C];rfl,zE.snoc ok T (by rw[C];exact ek) hr⟩;rw[jy,AH];rfl
 ·rintro τ l ⟨rks,c3,c4,c5,rfl,rfl,C,T⟩;rw[oQ,Ae] at C;have s1:qh L (qj L J<|.lst<|rks.map Y.int):=By I;refine qb (s1 _ _ ha) ?_;have lo:(vh g).length=g.length:=Ae ..;refine⟨⟨AY _,by rw[lo];lia⟩,λp hp=>qp q9 ?_⟩;have al:J≠p:=aZ q9 hp;have au:Pt≠p:=aZ (s1 _ _ hP) hp;have av:Pt≠J:=aZ hP I;refine⟨g.length,rks,J,by rw[BE,lo],rfl,(qg al).trans q9,C,hz,(qg au).trans<|(qg av).trans hP,λD qs hD pm pw=>?_⟩;have ax:=bL hD;have aL:=bL ax;refine⟨qj L D<|.lst<|nY qs,λb o e=>?_,q D qs aL pm<|acp ok T C pw⟩;by_cases c:b=D
  ·subst c;rw[q9] at e ⊢;exact e
  ·rw[qg c] at e ⊢;rw[qg (λz=>by subst z;rw[bL hp] at e;cases e),qg (λz=>by subst z;rw[I] at e;cases e)];exact e
theorem lM(y:Y)(l:List Y):gM (y::l) (some 1) none=l:=by
 unfold gM;have e:HT.sIx (y::l).length 0 (some 1)=1:=by show min 1 (l.length+1)=1;lia
 rw[e];show(l.take<|l.length+1-1)=l;rw[Nat.add_sub_cancel,Bo]
theorem rQ(y:Y)(l:List Y):¬(HT.sIx (y::l).length 0 (some 1)=0/\HT.sIx (y::l).length (y::l).length none=(y::l).length):=λz=>by
 have e:HT.sIx (y::l).length 0 (some 1)=1:=by show min 1 (l.length+1)=1;lia
 rw[e] at z;exact absurd z.1 (by decide)
def kdR:Ru->Str
 |.link _ _ => "link"
 |.ei _ _ => "either"
 |.bo _ _ _ => "both"
 |.cu _ _ _ _ => "cut"
theorem iH(A:Ru):zm A=.tup (.str (kdR A)::(nY (plR A)++(wz A).map zm)):=by cases A<;>rfl
def cW(n:Nat):zp:=λys L Q=>∃R:Ru,∃d,∃kvs:List (jk×Y),∃f:Nat->Nat,ys=[zm R,.ref d]/\L d=some (.dct kvs)/\(∀B∈eQ R,∀x∈plR B,ko kvs (.inl (x:Int))=some (.int (f x:Int)))/\vj R<=n/\Q (zm<|cO f R) L
theorem ad3:∀ys L Q,¬cW 0 ys L Q:=by rintro ys L Q ⟨A,_,_,_,_,_,_,h,_⟩;have:=tL A;lia
theorem qX{P:List Nat}{As:List Ru}(h:(nY P++As.map zm)[i]?=some y):(i<P.length/\∃x,P[i]?=some x/\y=.int (x:Int))\/(P.length<=i/\∃B,As[i-P.length]?=some B/\y=zm B):=by
 by_cases c:i<P.length
 ·rw[AB (by rw[dE];exact c)] at h;exact .inl ⟨c,aay h⟩
 ·rw[Ap (by rw[dE];lia),dE,Aq] at h;obtain⟨B,e,z⟩:=Ax.mp h;exact .inr ⟨by lia,B,e,z.symm⟩
theorem SR.pl{E:List Nat}(h:SR ks R E):∀B∈eQ R,∀x∈plR B,x<ks.length:=λB J x I=>by
 obtain⟨⟨o,s⟩,_⟩:=h.rls B J;have l:=s.lt;cases s with
 |link=>exact l x I
 |ei=>rw[Al.mp I];exact l _<|Av ..
 |bo=>rw[Al.mp I];exact l _<|Av ..
 |cu U g h3 j=>
  rcases An.mp I with rfl|I
  ·exact l _<|Ao _<|U.sub _ h3
  ·rw[Al.mp I];exact l _<|Ai _<|g.sub _ j
noncomputable def fh(I:zp):RR "_law_gather" cA 1 ["_law_rule","_law_links","_law_cuts"] ["_law_rule","_law_links","_law_cuts","_law_arm"] I (λ_=>True):=⟨_,λV B c _ _ J _ _ _ _ _ _ g hN U=>(xn (zq (E_ U (J_ 0) jv) (qf<|zf<|z9 (qv 1)<|xj<|zd<|xr (J_ 0)<|J_ 0) z0)<|xn (zq (E_ U (J_ 0) jv) (qf<|zf<|z9 (qv 2)<|xj<|zd<|xr (J_ 0)<|J_ 0) z0)<|qf<|wn vb rfl (rO<|aE (aau _ _ _) (qv 0) (aP qd) bw) (G_ 3 hN)<|qf<|zq (w6<|wf .tuple rfl B.bf rfl B.b_tuple fN<|qv 3) (qf<|zf<|C_ J g<|cT (qv 3) (qv 1)<|qv 2) z0)⟩
noncomputable def nj(I:zp):vt:=(fh I).1
noncomputable def adx(I:zp):RD "_law_web" fz 121 ["_law_tree_here","_law_links","_law_cuts"] (λV=>aoi V I):=⟨_,λV B c _ _ _ _ _ _ _ J hN U=>(qa (S_ 1 hN<|js wo)<|qa (S_ 2 hN<|js wo)<|qa (zf<|C_ c J<|cT (J_ 0) (qv 1)<|qv 2)<|qf<|za<|zd<|cT (aW bF rfl B.bg aC<|xj<|J_ 0) (jc br rfl B.bi wu<|xj<|qv 1)<|jc br rfl B.bi wu<|xj<|qv 2)⟩
noncomputable def akt(I:zp):vt:=(adx I).1
abbrev ao(L:qr)(l c:Addr)(lk ct:List<|Nat×Nat):qr:=qj (qj L l<|.lst<|qu lk) c<|.lst<|qu ct
theorem aaw{c:Addr}(h:l≠c):ao L l c lk ct l=some (.lst<|qu lk):=(qg h).trans q9
theorem acg{c:Addr}(h:l≠c):qj (ao L l c lk ct) l (.lst<|qu ir)=ao L l c ir ct:=by unfold ao;rw[oU<|AJ h,jy]
theorem xI{c:Addr}{I:List<|Nat×Nat}(h:l≠c):ao (ao L l c lk ct) l c ir I=ao L l c ir I:=by show qj (qj (ao L l c lk ct) l _) c _=_;rw[acg h,jy]
theorem ad5{c:Addr}(h1:L l=some (.lst<|qu lk))(h2:L c=some (.lst<|qu ct)):ao L l c lk ct=L:=by unfold ao;rw[i8 h1,i8 h2]
def bA(n:Nat):zp:=λys L Q=>∃R:Ru,∃l c,∃lk ct:List (Nat×Nat),ys=[zm R,.ref l,.ref c]/\L l=some (.lst<|qu lk)/\L c=some (.lst<|qu ct)/\l≠c/\vj R<=n/\lk.length+iB R<=1000/\ct.length+iB R<=1000/\Q .non (ao L l c (lk++zb R)<|ct++ze R)
theorem zF:∀ys L Q,¬bA 0 ys L Q:=by rintro ys L Q ⟨A,_,_,_,_,_,_,_,_,h,_⟩;have:=tL A;lia
theorem adt(R:Ru):(tU R).length<=1/\(vS R).length<=1:=by cases R<;>simp[tU,vS]
theorem km:∀R:Ru,(zb R).length+(ze R).length<=iB R
 |.link _ _=>Am _
 |.ei _ A=>by have:=km A;show _<=iB A+1;exact BQ this
 |.bo _ A B=>by have:=km A;have:=km B;show(zb A++zb B).length+(ze A++ze B).length<=iB A+iB B+1;rw[Ac,Ac];lia
 |.cu p q A B=>by have:=km A;have:=km B;show(zb A++zb B).length+((p,q)::(ze A++ze B)).length<=iB A+iB B+1;rw[Ac,AM,Ac];lia
theorem abg{As:List Ru} :((As.take j).flatMap zb).length<=((As.take j).map iB).sum/\((As.take j).flatMap ze).length<=((As.take j).map iB).sum:=by
 generalize As.take j=I
 induction I with
 |nil=>exact⟨Am _,Am _⟩
 |cons B r J=>
  have:=km B;rw[Bq,Bq,Ac,Ac,AF,EF];lia
theorem ae7{l:List Nat}{x:Nat}(h:l[j]?=some x):(l.take j).sum+x<=l.sum:=by
 obtain⟨I,e⟩:=AK.mp h;have:l=l.take j++x::l.drop (j+1):=by rw[<-e,CL,A8]
 have:=BG List.sum this;rw[List.sum_append,EF] at this;lia
theorem zQ(n:Nat):∀ys L Q,bA (n+1) ys L Q->vo (nj<|bA n) 4 ys L Q:=by
 rintro ys L Q ⟨R,l,c,lk,U,rfl,t,hc,ne,hr,hz,hy,q⟩;have big:=bg_;have pl:∀l:List (Nat×Nat),(qu l).length=l.length:=λl=>Ae ..;have rz:=acf R;have same:ao L l c (lk++[]) (U++[])=L:=by rw[AD,AD];exact ad5 t hc
 refine⟨λI J=>I=[some<|zm R,some<|.ref l,some<|.ref c,none]/\J=ao L l c (lk++tU R) (U++[]),?_,?_⟩
 ·cases R with|link p s=>exact qp t (qp t ⟨by rw[pl];exact big _ (by lia),rfl,by rw[AD];unfold ao;rw[oU ne,i8 hc];exact BG (λz=>qj L l<|.lst z)<|xm lk (p,s)⟩)|ei r A=>exact⟨rfl,same.symm⟩|bo r A B=>exact⟨rfl,same.symm⟩|cu p s A B=>exact⟨rfl,same.symm⟩
 rintro I L1 ⟨rfl,rfl⟩;refine⟨λI J=>I=[some<|zm R,some<|.ref l,some<|.ref c,none]/\J=ao L l c (lk++tU R) (U++vS R),?_,?_⟩
 ·cases R with|link p s=>exact⟨rfl,rfl⟩|ei r A=>exact⟨rfl,rfl⟩|bo r A B=>exact⟨rfl,rfl⟩|cu p s A B=>exact qp q9 (qp q9 ⟨by rw[pl,AD];exact big _ (by lia),rfl,by rw[AD,jy];exact BG (λz=>qj _ c<|.lst z)<|xm U (p,s)⟩)
 rintro I L1 ⟨rfl,rfl⟩;have va:∀B∈wz R,vj B<=n:=λB hB=>by have:=oz hB;lia
 have lp:(plR R).length<=2:=by cases R<;>simp[plR]
 have ol:=adt R;rw[wH,aa6,<-Aw,<-Aw] at q;have l1:(lk++tU R).length<=lk.length+1:=by rw[Ac];lia
 have l2:(U++vS R).length<=U.length+1:=by rw[Ac];lia
 rw[iH R];generalize lk++tU R=zW at q l1 ⊢;generalize U++vS R=g at q l2 ⊢;generalize plR R=P at lp ⊢;generalize wz R=As at va rz q ⊢;generalize kdR R=C;have ll:(nY P++As.map zm).length=P.length+As.length:=by rw[Ac,dE,Ae]
 refine⟨rQ _ _,?_⟩;rw[lM];refine kw ⟨λi I J=>∃c3,I=[some<|.tup<|.str C::(nY P++As.map zm),some<|.ref l,some<|.ref c,c3]/\J=ao L l c (zW++(As.take<|i-P.length).flatMap zb) (g++(As.take<|i-P.length).flatMap ze),⟨_,rfl,by rw[Nat.zero_sub,List.take_zero,C4,C4,AD,AD]⟩,λ_ _ _ _=>True.intro,?_,?_⟩
 ·rintro i y I J T ⟨c3,rfl,rfl⟩;rcases qX T with⟨o,x,ex,rfl⟩|⟨o,B,eB,rfl⟩
  ·exact⟨_,EK _,_,rfl,by rw[CQ o,CQ<|BO o]⟩
  ·have t1:=abg (As:=As) (j:=i-P.length);have t2:=ae7 (l:=As.map iB) (j:=i-P.length) (x:=iB B) (by rw[Aq,eB];rfl);rw[EH] at t1;have z:bA n [zm B,.ref l,.ref c] (ao L l c (zW++(As.take<|i-P.length).flatMap zb)<|g++(As.take<|i-P.length).flatMap ze) λz L4=>dk (λI J=>∃c3,I=[some<|.tup<|.str C::(nY P++As.map zm),some<|.ref l,some<|.ref c,c3]/\J=ao L l c (zW++(As.take<|i+1-P.length).flatMap zb) (g++(As.take<|i+1-P.length).flatMap ze)) [some<|.tup<|.str C::(nY P++As.map zm),some<|.ref l,some<|.ref c,some<|zm B] L4:=by refine⟨B,l,c,_,_,rfl,aaw ne,q9,ne,va B<|AC eB,by rw[Ac];lia,by rw[Ac];lia,_,EK _,_,rfl,?_⟩;rw[xI ne,Nat.succ_sub o,Bf,eB,A2,A2,Aw,Aw];simp
   rw[iH B] at z ⊢;exact z
 ·rintro I J ⟨c3,rfl,rfl⟩;rw[ll,BY,Bo];exact x9 q
def kR:zp:=λys L Q=>∃a,∃xs:List Y,∃R:Ru,ys=[.tup [.ref a,zm R]]/\L a=some (.lst xs)/\vj R<=120/\iB R<=1000/\(zb R).Nodup/\(ze R).Nodup/\(∀p∈zb R,p.2<1000000)/\(∀p∈ze R,p.2<1000000)/\
 ∀I J c' lk ct L',qh L L'->L I=none->L J=none->L c'=none->I≠J->I≠c'->J≠c'->L' I=some (.lst xs)->L' J=some (.lst<|qu lk)->L' c'=some (.lst<|qu ct)->lk.Perm (zb R)->lk.Pairwise aa->ct.Perm (ze R)->ct.Pairwise aa->Q (vi I J c') L'
theorem ai8:∀ys L Q,kR ys L Q->vo (akt<|bA 120) 3 ys L Q:=by rintro ys L Q ⟨a,xs,R,rfl,ha,hd,hz,n1,n2,b1,b2,q⟩ l hl c hc;have I:l≠c:=aZ q9 hc;have p:L c=none:=bL hc;have pz:=km R;have s0:qh L (ao L l c [] []):=(By hl).trans<|By hc;have e0:qj (qj L l<|.lst []) c (.lst [])=ao L l c [] []:=rfl;have a5:a≠l:=aZ ha hl;have ac:a≠c:=aZ ha p;rw[e0];refine⟨R,l,c,[],[],rfl,aaw I,q9,I,hd,by rw[DI];lia,by rw[DI];lia,?_⟩;rw[xI I,Cs,Cs];have T:qh L (ao L l c (zb R)<|ze R):=((EK _).upd hl).upd p;have g1:ao L l c (zb R) (ze R) l=some (.lst<|qu<|zb R):=aaw I;have g2:ao L l c (zb R) (ze R) c=some (.lst<|qu<|ze R):=q9;generalize ao L l c (zb R) (ze R)=L1 at T g1 g2 ⊢;refine qb (T _ _ ha) λr J=>?_;have s2:=T.trans<|By (o:=.lst xs) J;show xp [.ref l] (qj L1 r<|.lst xs) λz2 L2=>xp [.ref c] L2 λz3 L3=>hW Q (.tup [.ref r,z2,z3]) L3;refine jQ (By J _ _ g1) b1 n1 (by lia) λD1 lk U a1 a2=>?_;have s3:=s2.trans<|By (o:=.lst<|qu lk) U;refine jQ (((By J).trans<|By U) _ _ g2) b2 n2 (by lia) λD2 ct g a3 a4=>?_;have j:r≠D1:=aZ q9 U;have t:D1≠D2:=aZ q9 g;have C:r≠D2:=aZ ((qg j).trans q9) g;exact x9<|q r D1 D2 lk ct _ (s3.trans<|By g) (T.none J) (s2.none U) (s3.none g) j C t ((qg C).trans<|(qg j).trans q9) ((qg t).trans q9) q9 a1 a2 a3 a4
def uF:vt:=(zj (jz (qc 0)<|jS 3<|vz (qo 1)<|vz (qo 2)<|vz (qo 3) hU)
 (zj (jz aj2<|qo 4)
 (zj (m8 (dM<|qc 1) (qo 5) (wx (tJ (yB<|gp true<|qc 5)<|rdE (si 5)<|bR 3) (zj (uM (qc 4) (dq 5 1)<|yC<|.bl true)
 (uM (qc 4) (dq 5 2)<|yC<|.bl true)) kh))
 (zj (m8 (dM<|qc 3) (jS 2<|vz (qo 6)<|vz (qo 7) hU) (zj (uM (qc 4) (qc 6)<|yC<|.bl true)
 (uM (qc 4) (qc 7)<|yC<|.bl true)))
 (aj6 6<|wc<|yLC 1 (pW<|aJ<|si 1) (qo 8) (tJ (yB<|gp true<|x5 cV (qc 1)<|qc 8)<|yB<|x5 (afm true) (qc 8)<|qc 4)<|qc 8)))))
def qH:zp:=λys L Q=>∃a l c,∃wd:List (Option Kn),∃ct:List (Nat×Nat),ys=[vi a l c]/\L a=some (.lst<|vh wd)/\L c=some (.lst<|qu ct)/\wd.length<=1000/\ct.length<=1000/\∀p,L p=none->Q (.ref p) (qj L p<|.lst<|nY<|ah wd (aU wd ct) wd.length)
theorem agt:∀ys L Q,qH ys L Q->vo uF 8 ys L Q:=by
 rintro ys L Q ⟨wa,la,ca,I,l,rfl,e1,e3,wl,cl,q⟩;have big:=bg_;intro us T;have s2:qh L (qj L us<|.dct []):=By T;refine kz (s2 _ _ e1) λkeep kp=>kw ⟨λi r j=>∃J c3 c4 c5,r=[some<|vi wa la ca,some<|.ref wa,some<|.ref la,some<|.ref ca,some<|.ref us,c3,c4,c5]/\qh L j/\j us=some (.dct J)/\UsI (aK<|I.take i) J,⟨[],_,_,_,rfl,s2,q9,UsI.nil⟩,?_,?_,?_⟩
 ·rintro i r j ⟨J,c3,c4,c5,rfl,s,_⟩;exact kp j (by rw[s _ _ e1,s2 _ _ e1])
 ·rintro i y r j hy ⟨J,c3,c4,c5,rfl,s,g,U⟩;rw[Aq] at hy;obtain⟨k,ek,rfl⟩:=Ax.mp hy;have et:I.take (i+1)=I.take i++[k]:=by rw[Bf,ek];rfl
  have pl:=og<|I.take i;rw[AR] at pl;have ul:=U.len;have stay:jx k=[]->UsI (aK<|I.take<|i+1) J:=λh=>by rw[et,mZ,h,AD];exact U
  cases k with
  |none=>exact⟨_,EK _,_,_,_,_,rfl,s,g,stay rfl⟩
  |some k=>
   cases k with
   |lf t n=>exact⟨_,EK _,_,_,_,_,rfl,s,g,stay rfl⟩
   |nd e i' j'=>
    refine vv g ⟨big _ (by lia),?_⟩;have U1:=U.put i'<|.bl true;have C:=U1.len;rw[Ac] at C;refine vv q9 ⟨big _ (by simp at C;lia),?_⟩;have U2:=U1.put j'<|.bl true;rw[jy];exact⟨_,EK _,_,_,_,_,rfl,s.upd T,q9,by rw[et,mZ];rw[Aw] at U2;exact U2⟩
 rintro r L2 ⟨J,c3,c4,c5,rfl,s3,g,U⟩;rw[Ae,Bo] at U;have pl:=og I;have a1:=cg l;refine kz (s3 _ _ e3) λkeep kp=>kw ⟨λi r j=>∃J c4 c5,r=[some<|vi wa la ca,some<|.ref wa,some<|.ref la,some<|.ref ca,some<|.ref us,c3,c4,c5]/\qh L j/\j us=some (.dct J)/\UsI (aK I++plcs (l.take i)) J,⟨_,_,_,rfl,s3,g,by show UsI (aK I++[]) _;rw[AD];exact U⟩,?_,?_,?_⟩
 ·rintro i r j ⟨J,c4,c5,rfl,s,_⟩;exact kp j (by rw[s _ _ e3,s3 _ _ e3])
 ·rintro i y r j hy ⟨J,c4,c5,rfl,s,g,U⟩;rw[Aq] at hy;obtain⟨pr,ep,rfl⟩:=Ax.mp hy;have et:l.take (i+1)=l.take i++[pr]:=by rw[Bf,ep];rfl
  have pt:=cg<|l.take i;rw[AR] at pt;have ul:=U.len;rw[Ac] at ul;refine vv g ⟨big _ (by lia),?_⟩;have U1:=U.put pr.1<|.bl true;have C:=U1.len;rw[Ac,Ac] at C;refine vv q9 ⟨big _ (by simp at C;lia),?_⟩;have U2:=U1.put pr.2<|.bl true;rw[jy];exact⟨_,EK _,_,_,_,rfl,s.upd T,q9,by rw[et,x4,w9,<-Aw];rw[Aw<|_++_] at U2;exact U2⟩
 rintro r L3 ⟨J,a2,a3,rfl,s4,g,U⟩;rw[Ae,Bo] at U;have U:UsI (aU I l) J:=U;have C:=s4 _ _ e1;have lw:(vh I).length=I.length:=Ae ..;refine qb C ⟨⟨AY _,by rw[lw];omega⟩,?_⟩;rw[lw,BE];refine nG (λi o=>o=nY (ah I (aU I l) i)) (big _ (by lia)) rfl ?_ ?_
 ·rintro i o hi rfl;obtain⟨k,ek⟩:∃k,I[i]?=some k:=⟨_,Ak hi⟩;have no:jJ I (aU I l) i=false->dk (λo j=>j=L3/\o=nY (ah I (aU I l)<|i+1)) (nY<|ah I (aU I l) i) L3:=λh=>⟨L3,EK _,rfl,by rw[mO,Az (by rw[h];exact AG),AD]⟩;have yes:jJ I (aU I l) i=true->dk (λo j=>j=L3/\o=nY (ah I (aU I l)<|i+1)) (nY (ah I (aU I l) i)++[.int<|0+(i:Int)]) L3:=λh=>⟨L3,EK _,rfl,by rw[mO,AA h,ug,B6];rfl⟩;refine qb C<|qm (aew ek) ?_;cases k with
  |none=>exact no (by unfold jJ iI;rw[ek];rfl)
  |some k=>
   have key:pU L3 us λJ=>v4 (nb true (ko J<|.inl<|0+(i:Int)).isSome) (dk (λo j=>j=L3/\o=nY (ah I (aU I l)<|i+1)) (nY (ah I (aU I l) i)++[.int<|0+(i:Int)]) L3) (dk (λo j=>j=L3/\o=nY (ah I (aU I l)<|i+1)) (nY<|ah I (aU I l) i) L3):=by
    refine vv g ?_;rw[show(Sum.inl (0+(i:Int)):jk)=.inl (i:Int) by rw[B6],U.val];by_cases cu:i∈aU I l
    ·exact cN (by rw[AI cu];rfl) (no (by unfold jJ iI;rw[ek,AI cu];rfl))
    ·exact gH (by rw[Ay cu];rfl) (yes (by unfold jJ iI;rw[ek,Ay cu];rfl))
   cases k with|lf t n=>exact key|nd e i' j'=>exact key
 ·rintro o rfl p hp;exact lm (qh.put (s4.trans<|By hp) q9)<|q p<|s4.none hp
noncomputable def ac2(U:zp)(I:zp)(J:zp):RD "_law_gapped" cL 121 ["_law_tree_here","_law_stir_here","_law_number_here","_law_gap","_law_offset","_law_at","_law_made","_law_k","_law_p","_law_knot"] (λV=>q8_ V U/\anb V I/\aos V J):=⟨_,λV B c _ _ _ _ _ _ _ j hN g=>(qa (S_ 2 hN<|C_ c.1 j<|xr (qv 1) qd)<|qa (S_ 3 hN qd)<|xn (zq (E_ g (qk jl (qv 2) qd) qd) (qf<|S_ 3 hN<|qk jr qd<|qk jl (qk xo (qv 2) qd) qd) z0)<|qa (S_ 4 hN<|qk jl (qk xo (qv 2) qd)<|qk jr (qv 3) qd)<|qa (S_ 5 hN yD)<|qa (S_ 6 hN<|js wo)<|qa (wn vb rfl (kI rfl B.bp<|C_ c.2.1 j<|xr (J_ 0)<|qv 1) (w5 (n:=2) rfl<|qz (G_ 7 hN)<|qz (G_ 8 hN) xw)<|qa (ss vb (j8 qJ (L_ B.ba<|qv 6) (qk jr (qv 7)<|qk xo (qk jr (qv 7)<|qv 4)<|qv 3)<|ke _)<|qf<|zf<|z9 (qv 6)<|xj a6)<|qa (iM g (qv 5) (qv 8)<|L_ B.ba<|qv 6)<|qa (S_ 9 hN<|I_ (J_ 0)<|qv 8)<|qf<|zf<|z9 (qv 6)<|xj<|bE (E_ g (L_ B.ba<|qv 9) qd) (qv 9)<|zd<|cT (J_ 9) (dG g (qv 5) (J_ 9) λ_ _=>rfl)<|dG g (qv 5) (J_ 9) λ_ _=>rfl)<|qf<|za<|zd<|xr (qv 6)<|C_ c.2.2 j<|xr (J_ 0)<|qv 5)⟩
noncomputable def alt(U:zp)(I:zp)(J:zp):vt:=(ac2 U I J).1
def qY(Pt:Addr):zp:=λys L Q=>∃a,∃ks:List Kn,∃R:Ru,∃E:List Nat,∃s:Int,ys=[.tup [.ref a,zm R],.int s]/\L a=some (.lst<|ju ks)/\kA ks R E/\L Pt=some (.tb lamQ)/\
 ∀w f wd,L w=none->yc f (ks.map some) wd->Q (.tup [.ref w,zm<|cO f R]) (qj L w<|.lst<|vh wd)
theorem afe{i off g:Int}(hi:0<=i)(h1:1<=g)(I:off<=g):(i+off) / g<=i+1:=by refine Int.ediv_le_of_le_mul (by lia) ?_;have:=Int.mul_le_mul_of_nonneg_left h1 hi;rw[ED];lia
theorem ag2 :∀ys L Q,qY Pt ys L Q->vo (alt dW (i6 Pt)<|cW 120) 10 ys L Q:=by
 rintro ys L Q ⟨a,a2,R,E,s,rfl,ha,T,hP,q⟩;have big:=bg_;have hz:=T.len;have sr:=T.sr;obtain⟨U,l⟩:∃U,U=a2.map some:=⟨_,rfl⟩;have ax:U.length=a2.length:=by rw[l,Ae]
 have ok:OkO U:=by rw[l];exact tT T.ok
 refine⟨s,91827,rfl,by decide,by decide,λnum n0 _=>?_⟩;refine⟨λo L'=>∃g:Int,5<=g/\g<=200/\o=[some<|.tup [.ref a,zm R],some<|.int s,some<|.int num,some<|.int g,none,none,none,none,none,none]/\L'=L,?_,?_⟩
 ·exact⟨(by decide:(0:Int)<3),zg (λ_=>⟨⟨by decide,by decide⟩,(by decide:(0:Int)<9),_,by lia,by lia,rfl,rfl⟩) λ_=>⟨200,by decide,by decide,rfl,rfl⟩⟩
 rintro o L' ⟨g,g1,g2,rfl,rfl⟩;refine⟨⟨by decide,by decide⟩,(show(0:Int)<g+1 by lia),?_⟩;have ho:num / 27 % (g+1)<=g:=by have:=DS (num / 27) (show(0:Int)<g+1 by lia);lia
 show qo 4 (.int<|num / 27 % (g+1)) _ _ _;generalize num / 27 % (g+1)=off at ho ⊢;intro d hd w hw;have a4:L' w=none:=bL hw;have a1:d≠w:=aZ q9 hw;have s0:qh L' (qj (qj L' d<|.dct []) w<|.lst []):=(By hd).trans<|By hw;refine⟨a,a2,s,rfl,s0 _ _ ha,by rw[<-l];exact ok,by lia,s0 _ _ hP,λD I hD pm pf=>?_⟩;rw[<-l] at pm pf;have a5:w≠D:=aZ q9 hD;have au:d≠D:=aZ ((qg a1).trans q9) hD;have lq:I.length=U.length:=by rw[pm.length_eq,BZ]
 have aL:I.Nodup:=pm.nodup_iff.mpr C5;have mq:∀p∈I,p<U.length:=λp hp=>A3.mp<|pm.mem_iff.mp hp;have G0:qD L' U I d w D 0 0 (λ_=>0) [] [] (qj (qj (qj L' d<|.dct []) w<|.lst []) D<|.lst<|nY I):=
  ⟨s0.trans<|By hD,(qg au).trans<|(qg a1).trans q9,(qg a5).trans q9,q9,Am _,λp=>rfl,uv.nil _ _,Am _⟩
 refine kz q9 λkeep kp=>kw ⟨λi o L1=>∃f wd J c7 c8 c9,o=[some<|.tup [.ref a,zm R],some<|.int s,some<|.int num,some<|.int g,some<|.int off,some<|.ref d,some<|.ref w,c7,c8,c9]/\qD L' U I d w D i 0 f wd J L1,⟨_,_,_,_,_,_,rfl,G0⟩,?_,?_,?_⟩
 ·rintro i o L1 ⟨f,wd,J,c7,c8,c9,rfl,G⟩;exact kp L1 (by rw[G.hD,q9])
 ·rintro i y o L1 hy ⟨f,wd,J,c7,c8,c9,rfl,G⟩;obtain⟨z,ez,rfl⟩:=iC hy;obtain⟨p,ep,rfl⟩:=aay ez;have hi:=je ep;have hp:p<U.length:=mq p<|AC ep;obtain⟨k,hk⟩:∃k,a2[p]?=some k:=⟨_,Ak (by lia)⟩;have av:U[p]?=some (some k):=by rw[l,Aq,hk];rfl
  have pn:p∉I.take i:=λhm=>by
   have e2:I=I.take i++p::I.drop (i+1):=by rw[Ak hi] at ep;rw[<-Bb ep,CL,A8]
   have nd:=aL;rw[e2] at nd;exact(Ar.mp nd).2.2 p hm p (Av ..) rfl
  have et:I.take (i+1)=I.take i++[p]:=by rw[Bf,ep];rfl
  have a3:∀e i' j',some k=some (.nd e i' j')->i'∈I.take i/\j'∈I.take i:=λe i' j' z=>m7 ok pm pf ep (by rw[av,z]);have ac:∀x∈I.take i,∀e i' j',U[x]?=some (some<|.nd e i' j')->i'∈I.take i/\j'∈I.take i:=λx hx e i' j' z=>by
   obtain⟨n,hn⟩:=DF hx;have ba:=je hn;rw[AR] at ba;rw[Eh (by lia)] at hn;obtain⟨h1,h2⟩:=m7 ok pm pf hn z;have sb:∀y,y∈I.take n->y∈I.take i:=λy hy=>by
    have:I.take n=(I.take i).take n:=by rw[List.take_take,BU (by lia)]
    rw[this] at hy;exact BM hy
   exact⟨sb _ h1,sb _ h2⟩
  have plain:qD L' U I d w D i 1 f wd J L1:=⟨G.sub,G.hd,G.hw,G.hD,G.len,G.val,G.gap,BQ G.wlen⟩;refine⟨λm o L2=>∃wd',o=[some<|.tup [.ref a,zm R],some<|.int s,some<|.int num,some<|.int g,some<|.int off,some<|.ref d,some<|.ref w,some<|.int (i:Int),some<|.int (p:Int),c9]/\qD L' U I d w D i 1 f wd' J L2/\m=2*i+1-wd'.length,⟨_,wd,rfl,plain,rfl⟩,?_⟩;rintro m o L2 ⟨wd',rfl,C,rfl⟩;have wl:=C.wlen;refine qb C.hw ⟨⟨by lia,by lia⟩,?_⟩;refine zg (λc=>?_) λc=>?_
  ·have c:((vh wd').length:Int)<(i:Int)+((i:Int)+off) / g:=c;rw[aQ] at c;have dv:=afe (i:=(i:Int)) (AY _) (show 1<=g by lia) ho;refine⟨λo L3=>∃j,o=[some<|.tup [.ref a,zm R],some<|.int s,some<|.int num,some<|.int g,some<|.int off,some<|.ref d,some<|.ref w,some<|.int (i:Int),some<|.int (p:Int),c9]/\qD L' U I d w D i 1 f j J L3/\j.length=wd'.length+1,?_,?_⟩
   ·rintro o L3 ⟨j,rfl,G2,e⟩;exact⟨2*i+1-j.length,by lia,j,rfl,G2,rfl⟩
   ·refine qb C.hw (qp C.hw ⟨by rw[aQ];exact big _ (by lia),?_⟩);have:=C.wide (wd':=wd'++[none]) (ex':=1) a4 a1 a5 C.gap.gap (by rw[Ac];show wd'.length+1<=_;lia);rw[<-iA] at this;exact⟨_,EK _,wd'++[none],rfl,this,Ac⟩
  have vp:∀y:Nat,ko (mK J (.inl (p:Int))<|.int ((wd'.length:Nat):Int)) (.inl (y:Int))=if y∈I.take i++[p] then some (.int (((if y=p then wd'.length else f y):Nat):Int)) else none:=λy=>by
   rw[sO];by_cases e:y=p
   ·subst e;rw[AA rfl,AA rfl,AA<|Ai _<|Al.mpr rfl]
   ·rw[Az λz=>e<|Bt.mp<|Sum.inl.inj z,Az e,C.val];by_cases h:y∈I.take i
    ·rw[AA h,AA<|Ao _ h]
    ·rw[Az h,Az λz=>(Aj.mp z).elim h λz=>e<|Al.mp z]
  have kl:=C.len;refine qb C.hw ?_;rw[aQ];refine vv C.hd ⟨big _ (by lia),?_⟩;have bb:a≠d:=aZ ha hd;refine qb ((qg bb).trans<|C.sub _ _ ha)<|qm (v5 hk) ?_;have al:qj L2 d (.dct<|mK J (.inl (p:Int))<|.int ((wd'.length:Nat):Int)) w=some (.lst<|vh wd'):=(qg<|AJ a1).trans C.hw;have hb:∀x∈I.take i,x<U.length:=λx hx=>mq x<|BM hx;have done:dk (λo L1=>∃f wd J c7 c8 c9,o=[some<|.tup [.ref a,zm R],some<|.int s,some<|.int num,some<|.int g,some<|.int off,some<|.ref d,some<|.ref w,c7,c8,c9]/\qD L' U I d w D (i+1) 0 f wd J L1) [some<|.tup [.ref a,zm R],some<|.int s,some<|.int num,some<|.int g,some<|.int off,some<|.ref d,some<|.ref w,some<|.int (i:Int),some<|.int (p:Int),some<|qV k] (qj (qj L2 d<|.dct<|mK J (.inl (p:Int))<|.int ((wd'.length:Nat):Int)) w<|.lst<|vh wd'++[nu<|iW f<|some k]):=by
   rw[iA];refine⟨_,EK _,λx=>if x=p then wd'.length else f x,wd'++[iW f<|some k],_,_,_,_,rfl,(C.sub.upd hd).upd a4,(qg a1).trans q9,q9,(qg<|AJ a5).trans<|(qg<|AJ au).trans C.hD,?_,λy=>?_,?_,?_⟩
   ·have:=sI J (.inl (p:Int))<|.int ((wd'.length:Nat):Int);lia
   ·rw[et];exact vp y
   ·rw[et];exact C.gap.step hb pn av ac a3
   ·rw[Ac];show wd'.length+1<=_;lia
  refine qb al ?_;cases k with
  |lf t n=>exact qp al ⟨by rw[aQ];exact big _ (by lia),done⟩
  |nd e p1 p2=>
   obtain⟨m1,m2⟩:=a3 e p1 p2 rfl;have v1:=vp p1;have v2:=vp p2;rw[AA<|Ao _ m1,Az λ(z:p1=p)=>pn<|z▸m1] at v1;rw[AA<|Ao _ m2,Az λ(z:p2=p)=>pn<|z▸m2] at v2;refine vv ((q9:qj L2 d _ d=some _))<|qm v1 ?_;refine vv ((q9:qj L2 d _ d=some _))<|qm v2 ?_;exact qp al ⟨by rw[aQ];exact big _ (by lia),done⟩
 ·rintro o L1 ⟨f,wd,J,c7,c8,c9,rfl,G⟩;have eq:(nL<|nY I).length=I.length:=by rw[oQ];exact Ae ..
  rw[eq] at G;have et:I.take I.length=I:=Bo;have val:∀p,p<U.length->ko J (.inl (p:Int))=some (.int (f p:Int)):=λp hp=>by rw[G.val,et,AA<|pm.mem_iff.mpr<|A3.mpr hp]
  have gap:uv U (List.range U.length) f wd:=by have g:=G.gap;rw[et] at g;exact⟨λp hp=>g.at_ p<|pm.mem_iff.mpr hp,λp hp r hr=>g.inj p (pm.mem_iff.mpr hp) r<|pm.mem_iff.mpr hr,λx k hx=>let ⟨r,hr,e⟩:=g.only x k hx;⟨r,pm.mem_iff.mp hr,e⟩,g.ok⟩
  have rd:=ku R;have tl:=T.tp.length_eq;rw[BZ] at tl;refine⟨R,d,J,f,rfl,G.hd,λB hB x hx=>val x (by rw[ax];exact sr.pl B hB x hx),by lia,?_⟩;have wl:=G.wlen;rw[lq] at wl;exact lm (qh.put G.sub G.hw) (q w f wd a4 ⟨by rw[<-l];exact gap,by rw[<-l];lia⟩)
end L3
namespace L2
open PySem PySem.W
section
variable {K:Ah}(T:K.lookup Pt=some (PySem.W.tabObj #[]))
include T
theorem vP :clsIn (lessK Pt K) C=clsIn K C:=by
 unfold clsIn;by_cases d:C=Pt
 ·subst d;rw[k6,T]
 ·rw[xg d]
theorem aaz{b:Value}:mroIn (lessK Pt K) C b=mroIn K C b:=by unfold mroIn;rw[vP T]
theorem rC{t b:Value}:subIn (lessK Pt K) t b=subIn K t b:=by
 unfold subIn;split
 ·rfl
 ·exact aaz T
 ·rfl
theorem wB{i:String} :specialIn (lessK Pt K) (.builtin i) x=specialIn K (.builtin i) x:=by unfold specialIn typeIn;dsimp only;congr 1;funext t;exact hV T
theorem ame{i:String}:takesIn (lessK Pt K) (.builtin i)=takesIn K (.builtin i):=by unfold takesIn;rw[wB T,wB T]
theorem oZ{t c:Value}{b:Bool}(e:kitCls K t c=some b):kitCls (lessK Pt K) t c=some b:=by
 unfold kitCls at e ⊢;split at e
 ·rename_i C;have n:C≠Pt:=by rintro rfl;unfold clsIn at e;rw[T] at e;cases e
  have h:typeIn (lessK Pt K) (.ref C)=typeIn K (.ref C):=by show(List.lookup C<|lessK Pt K).map _=(List.lookup C K).map _;rw[xg n]
  rw[vP T,rC T,h];exact e
 ·rw[rC T];exact e
 ·cases e
theorem fQ{t c:Value}{b:Bool}(e:kitOne K t c=some b):kitOne (lessK Pt K) t c=some b:=by
 unfold kitOne at e ⊢;split at e
 ·rename_i h;rw[AA h];exact e
 ·rename_i h;rw[Az h];exact oZ T e
theorem i0{t:Value}{b:Bool}:∀{l:List Value},kitAny K t l=some b->kitAny (lessK Pt K) t l=some b
 |[],e=>e
 |c::r,e=>by
  unfold kitAny at e ⊢;split at e
  ·rename_i h;rw[fQ T h];exact e
  ·rename_i h;rw[fQ T h];exact i0 e
  ·cases e
theorem akc{t c:Value}{b:Bool}(e:exmOne K t c=some b):exmOne (lessK Pt K) t c=some b:=by
 unfold exmOne at e ⊢;rw[rC T];split at e
 ·rename_i h;rw[AA h];exact oZ T e
 ·cases e
theorem alz(x:XHd K C):XHd (lessK Pt K) C:=by obtain⟨⟨ga,gt,cl,ge,tk,mo,be⟩,h⟩:=x;exact⟨⟨(hV T).trans ga,(hV T).trans gt,(hV T).trans cl,(wB T).trans ge,(ame T).trans tk,(aaz T).trans mo,(rC T).trans be⟩,by rw[vP T];exact h⟩
theorem xE{N:Addr}:nsOkIn (lessK Pt K) N=nsOkIn K N:=by
 unfold nsOkIn;by_cases d:N=Pt
 ·subst d;rw[k6,T]
 ·rw[xg d]
theorem wO{bm:List Value}:∀l:List Value,tailIn (lessK Pt K) bm l=tailIn K bm l
 |[]=>rfl
 |v::r=>by
  unfold tailIn;congr 1;split
  ·rename_i A;by_cases d:A=Pt
   ·subst d;rw[k6,T]
   ·rw[xg d];split
    ·rw[xE T,ns_dn T rfl,wO r]
    ·rfl
  ·rfl
theorem exc_dn{bm:List Value}{i:String}(e:excIn K C bm i=true):excIn (lessK Pt K) C bm i=true:=by
 unfold excIn at e ⊢;by_cases d:C=Pt
 ·subst d;rw[T] at e;cases e
 ·rw[xg d];split at e
  ·split at e
   ·rw[wO T,xE T,ns_dn T rfl];exact e
   ·cases e
  ·cases e
end
section
variable {K:Ah}(T:K.lookup Pt=some (PySem.W.tabObj #[]))
include T
end
end L2
namespace L3
open PySem L2
open PySem L2 Words
theorem oV{x y:Nat×Nat}(hN:(plcs lk).Nodup)(I:x∈lk)(J:y∈lk)(ne:x≠y){r s:Nat}(h:r=y.1/\s=y.2\/r=y.2/\s=y.1):(plcs<|(lk.filter λz=>decide (z≠x)&&decide (z≠y))++[bv x.1 r,bv x.2 s]).Perm (plcs lk):=by
 have pm:=vn<|hZ (j9 hN) I J ne;rw[zk,zk] at pm;rw[x4,zk,w9];refine Bd.trans<|List.Perm.trans ?_ pm.symm;refine(dJ x.1 r _).trans ((((dJ x.2 s _).cons _).cons _).trans<|List.Perm.cons _<|(List.Perm.swap ..).trans<|List.Perm.cons _ ?_);rcases h with⟨rfl,rfl⟩|⟨rfl,rfl⟩
 ·exact .refl _
 ·exact .swap ..
theorem yA{a b r:Int}{Q:YK}(h:0<b)(e:a % b=r)(q:Q (.int r) L):rK (.int a) (.int b) L Q:=by subst e;exact⟨h,q⟩
noncomputable def eX:RD "_law_swapped" bO 0 ["_law_web_here","_law_number_here","_law_knots","_law_links","_law_cuts","_law_one","_law_name_here","_law_alike_here","_law_two","_law_row","_law_p","_law_q","_law_x","_law_y"] (λ_=>True):=⟨_,λV B c _ _ _ _ _ _ _ J hN I=>(qa (ae (qv 0)<|w5 (n:=3) rfl<|qz (aB (i:=2) hN rfl<|Or.inr rfl)<|qz (aB (i:=3) hN rfl<|Or.inr rfl)<|qz (G_ 4 hN) xw)<|qa (cB (i:=5) hN rfl (Or.inr rfl)<|qk jl (qv 1)<|L_ B.ba<|qv 3)<|qa (cB (i:=6) hN rfl (Or.inr rfl)<|I_ (I_ (qv 2)<|I_ (I_ (qv 3)<|qv 5) qd) qd)<|qa (wb ["_law_k"] (i:=7) hN rfl (Or.inl rfl) (EY (by rfl)) rfl (wv rfl B.bh<|xj<|L_ B.ba<|qv 3) (qE 14) (λ_ _ _ _=>cD<|aS<|bz (N_ I (qv 14)<|qv 5)<|aR<|E_ I (I_ (I_ (qv 2)<|I_ (I_ (qv 3)<|qv 14) qd) qd)<|qv 6) λ_ _ _ _=>(qv 14))<|qa (zq (E_ I (qv 7)<|js wo) (qf<|za<|qv 0) z0)<|qa (cB (i:=8) hN rfl (Or.inr rfl)<|I_ (qv 7)<|qk jl (qk xo (qv 1) qd)<|L_ B.ba<|qv 7)<|qa (wb ["_law_k"] (i:=9) hN rfl (Or.inl rfl) (EY (by rfl)) rfl (wv rfl B.bh<|xj<|L_ B.ba<|qv 3) (qE 14) (λ_ _ _ _=>cD<|j8 (lV _ _ _) (qv 14) (zd<|xr (qv 5)<|qv 8) (by with_unfolding_all rfl)) λ_ _ _ _=>(I_ (qv 3)<|qv 14))<|qa (ae (I_ (qv 3)<|qv 5)<|w5 (n:=2) rfl<|qz (G_ 10 hN)<|qz (G_ 11 hN) xw)<|qa (ae (I_ (qv 3)<|qv 8)<|w5 (n:=2) rfl<|qz (G_ 12 hN)<|qz (G_ 13 hN) xw)<|xn (zq (N_ I (I_ (I_ (qv 2)<|qv 10) qd)<|I_ (I_ (qv 2)<|qv 12) qd) (qf<|vN (i:=12) (j:=13) rfl hN rfl rfl (by decide) rfl rfl (xr (qv 13)<|qv 12) rfl) z0)<|qa (zf<|z9 (qv 9)<|xj<|zd<|xr (jc uD rfl B.bn gB<|xr (qv 10)<|qv 13)<|jc lZ rfl B.bj dD<|xr (qv 10)<|qv 13)<|qa (zf<|z9 (qv 9)<|xj<|zd<|xr (jc uD rfl B.bn gB<|xr (qv 12)<|qv 11)<|jc lZ rfl B.bj dD<|xr (qv 12)<|qv 11)<|qf<|za<|zd<|cT (qv 2) (jc br rfl B.bi wu<|xj<|qv 9)<|qv 4)⟩
noncomputable def mC:vt:=(eX).1
def rq:vt:=(zj (xt<|eI zv (qc 9)<|qi (kc<|qi (af oB<|bV (qc 10)<|qc 13)<|qi (af kD<|bV (qc 10)<|qc 13) jb) jb)
 (zj (xt<|eI zv (qc 9)<|qi (kc<|qi (af oB<|bV (qc 12)<|qc 11)<|qi (af kD<|bV (qc 12)<|qc 11) jb) jb)
 (wc<|kc<|qi (qc 2)<|qi (af xp<|aJ<|qc 9)<|aJ<|qc 4)))
def aid:vt:=(oH (wx (rdN (x5 cV (x5 cV (qc 2)<|qc 10)<|bR 0)<|x5 cV (x5 cV (qc 2)<|qc 12)<|bR 0) (afn 12 13<|bV (qc 13)<|qc 12) kh)
 (zj (xt<|eI zv (qc 9)<|qi (kc<|qi (af oB<|bV (qc 10)<|qc 13)<|qi (af kD<|bV (qc 10)<|qc 13) jb) jb)
 (zj (xt<|eI zv (qc 9)<|qi (kc<|qi (af oB<|bV (qc 12)<|qc 11)<|qi (af kD<|bV (qc 12)<|qc 11) jb) jb)
 (wc<|kc<|qi (qc 2)<|qi (af xp<|aJ<|qc 9)<|aJ<|qc 4))))
def afa:vt:=(zj (jz (yLC 1 (pW<|aJ<|si 3) (qo 14) (yB<|x5 (aw true) (qc 14)<|rdT (qc 5)<|qc 8)<|x5 cV (qc 3)<|qc 14)<|qo 9)
 (zj (jz (x5 cV (qc 3)<|qc 5)<|jS 2<|vz (qo 10)<|vz (qo 11) hU)
 (zj (jz (x5 cV (qc 3)<|qc 8)<|jS 2<|vz (qo 12)<|vz (qo 13) hU)
 (oH (wx (rdN (x5 cV (x5 cV (qc 2)<|qc 10)<|bR 0)<|x5 cV (x5 cV (qc 2)<|qc 12)<|bR 0) (afn 12 13<|bV (qc 13)<|qc 12) kh)
 (zj (xt<|eI zv (qc 9)<|qi (kc<|qi (af oB<|bV (qc 10)<|qc 13)<|qi (af kD<|bV (qc 10)<|qc 13) jb) jb)
 (zj (xt<|eI zv (qc 9)<|qi (kc<|qi (af oB<|bV (qc 12)<|qc 11)<|qi (af kD<|bV (qc 12)<|qc 11) jb) jb)
 (wc<|kc<|qi (qc 2)<|qi (af xp<|aJ<|qc 9)<|aJ<|qc 4)))))))
structure iP(wd:List<|Option Kn)(lk:List<|Nat×Nat):Prop where
 lkA:∀c∈lk,c.1<c.2/\∃t n,wd[c.1]?=some (some<|.lf t n)/\wd[c.2]?=some (some<|.lf (!t) n)
 lkN:(plcs lk).Nodup
 lkL:∀p,p∈plcs lk↔∃t n,wd[p]?=some (some<|.lf t n)
 lkS:lk.Pairwise aa
 ll:lk.length<=60
 ne:lk≠[]
 wl:wd.length<=241
theorem gZ(a b:Nat):bv a b=bv b a:=by unfold bv;rw[Nat.min_comm,Nat.max_comm]
theorem lB{a b:Nat}{n:Str}(J:wd[a]?=some (some<|.lf t n))(I:wd[b]?=some (some<|.lf (!t) n)):(bv a b).1<(bv a b).2/\∃t n,wd[(bv a b).1]?=some (some<|.lf t n)/\wd[(bv a b).2]?=some (some<|.lf (!t) n):=by
 have U:a≠b:=λh=>by subst h;rw[J] at I;cases t<;>cases I
 unfold bv;by_cases c:a<b
 ·rw[BU (by lia),CC (by lia)];exact⟨c,t,n,J,I⟩
 ·rw[CA (by lia),CM (by lia)];exact⟨by show b<a;lia,!t,n,I,by rw[Du];exact J⟩
theorem iP.of(I:iP wd lk)(J:(plcs qs).Perm<|plcs lk)(h:∀c∈qs,c.1<c.2/\∃t n,wd[c.1]?=some (some<|.lf t n)/\wd[c.2]?=some (some<|.lf (!t) n))(U:qs.Pairwise aa):iP wd qs:=by have e:=J.length_eq;rw[cg,cg] at e;have l:=DL.mpr I.ne;exact⟨h,J.nodup_iff.mpr I.lkN,λp=>(J.mem_iff).trans<|I.lkL p,U,by have:=I.ll;lia,DL.mp (by lia),I.wl⟩
theorem iP.swap(I:iP wd lk){x y:Nat×Nat}(l:x∈lk)(o:y∈lk)(ne:x≠y){u:Bool}{n:Str}(x1:wd[x.1]?=some (some<|.lf t n))(p:wd[x.2]?=some (some<|.lf (!t) n))(g:wd[y.1]?=some (some<|.lf u n))(U:wd[y.2]?=some (some<|.lf (!u) n)){r s:Nat}(h:t=u/\s=y.1/\r=y.2\/t≠u/\s=y.2/\r=y.1)
 (pm:qs.Perm<|(lk.filter λz=>decide (z≠x)&&decide (z≠y))++[bv x.1 r,bv s x.2]) (C:qs.Pairwise aa):iP wd qs:=by
 have j:wd[s]?=some (some<|.lf t n)/\wd[r]?=some (some<|.lf (!t) n):=by
  rcases h with⟨rfl,rfl,rfl⟩|⟨e,rfl,rfl⟩
  ·exact⟨g,U⟩
  ·have:u=!t:=by cases t<;>cases u<;>simp at e ⊢
   subst this;rw[Du] at U;exact⟨U,g⟩
 refine I.of ((vn pm).trans (by rw[gZ s];exact oV I.lkN l o ne<|h.elim (λh=>.inr ⟨h.2.2,h.2.1⟩) λh=>.inl ⟨h.2.2,h.2.1⟩)) (λc J=>?_) C;rcases Aj.mp (pm.mem_iff.mp J) with J|J
 ·exact I.lkA c (AL.mp J).1
 ·rcases An.mp J with rfl|J
  ·exact lB x1 j.2
  ·rw[Al.mp J];exact lB j.1 p
theorem i4(a b:Nat):(Y.tup [.int<|min (a:Int) (b:Int),.int<|max (a:Int) (b:Int)])=vU (bv a b):=by
 have I:min (a:Int) (b:Int)=((min a b:Nat):Int):=by omega
 have J:max (a:Int) (b:Int)=((max a b:Nat):Int):=by omega
 unfold vU bv;rw[I,J]
def gD:zp:=λys L Q=>∃a l c,∃wd:List (Option Kn),∃lk:List (Nat×Nat),∃num:Int,ys=[vi a l c,.int num]/\L a=some (.lst<|vh wd)/\L l=some (.lst<|qu lk)/\iP wd lk/\∀D ir L',qh L L'->L' D=some (.lst<|qu ir)->iP wd ir->Q (vi a D c) L'
theorem afr{wd:List<|Option Kn}{lk I:List<|Nat×Nat}{a c p9:Addr}{A B C D:Nat}(g:L p9=some (.lst<|qu I))(hz:I.length<=60)(nd:(I++[bv A D,bv C B]).Nodup)(U:∀p∈I++[bv A D,bv C B],p.2<1000000)(s:qh L0 L)(h0:L0 p9=none)
 (q:∀J qs L',qh L0 L'->L' J=some (.lst<|qu qs)->qs.Perm (I++[bv A D,bv C B])->qs.Pairwise aa->En.rt (vi a J c) L'):
 rq En [c0,c1,some<|.ref a,some<|.ref l,some<|.ref c,c5,c6,c7,c8,some<|.ref p9,some<|.int (A:Int),some<|.int (B:Int),some<|.int (C:Int),some<|.int (D:Int)] L:=by
 have big:=bg_;have pl:∀l:List (Nat×Nat),(qu l).length=l.length:=λl=>Ae ..;refine qp g (qp g ⟨by rw[pl];exact big _ (by lia),?_⟩);rw[i4,xm];refine qp q9 (qp q9 ⟨by rw[pl,Ac];exact big _ (by show I.length+1<=_;lia),?_⟩);rw[i4,xm,jy,Aw];show xp [.ref p9] (qj L p9<|.lst<|qu<|I++[bv A D,bv C B]) λz L'=>En.rt (.tup [.ref a,z,.ref c]) L';exact jQ q9 U nd (by rw[Ac];show I.length+2<=_;lia) λJ qs j pm o=>q J qs _ ((s.upd h0).trans<|By j) q9 pm o
theorem am4{a c p9:Addr}{x y:Nat×Nat}{u:Bool}{n:Str}(I:iP wd lk)(o:x∈lk)(C:y∈lk)(j:x≠y)(x1:wd[x.1]?=some (some<|.lf t n))(x2:wd[x.2]?=some (some<|.lf (!t) n))(y1:wd[y.1]?=some (some<|.lf u n))(y2:wd[y.2]?=some (some<|.lf (!u) n))
 (ha:L a=some (.lst<|vh wd)) (g:L p9=some (.lst<|qu<|lk.filter λz=>decide (z≠x)&&decide (z≠y))) (s:qh L0 L) (h0:L0 p9=none) (q:∀T qs L',qh L0 L'->L' T=some (.lst<|qu qs)->iP wd qs->En.rt (vi a T c) L'):
 aid En [c0,c1,some<|.ref a,some<|.ref l,some<|.ref c,c5,c6,c7,c8,some<|.ref p9,some<|.int (x.1:Int),some<|.int (x.2:Int),some<|.int (y.1:Int),some<|.int (y.2:Int)] L:=by
 have wl:=I.wl;have z2:=I.ll;have tail:∀r J:Nat,(t=u/\J=y.1/\r=y.2\/t≠u/\J=y.2/\r=y.1)->rq En [c0,c1,some<|.ref a,some<|.ref l,some<|.ref c,c5,c6,c7,c8,some<|.ref p9,some<|.int (x.1:Int),some<|.int (x.2:Int),some<|.int (J:Int),some<|.int (r:Int)] L:=λr J h=>by
  have fl:=Bk (λz=>decide (z≠x)&&decide (z≠y)) lk;have nd:((lk.filter λz=>decide (z≠x)&&decide (z≠y))++[bv x.1 r,bv J x.2]).Nodup:=by refine j9 ?_;rw[gZ J];exact(oV I.lkN o C j<|h.elim (λh=>.inr ⟨h.2.2,h.2.1⟩) λh=>.inl ⟨h.2.2,h.2.1⟩).nodup_iff.mpr I.lkN
  refine afr (lk:=lk) (wd:=wd) g (by lia) nd (λp U=>?_) s h0 λT qs L' t1 t2 pm pw=>q T qs L' t1 t2<|I.swap o C j x1 x2 y1 y2 h pm pw;have lt:∀p∈plcs lk,p<wd.length:=λp U=>by obtain⟨_,_,e⟩:=(I.lkL p).mp U;exact je e
  have l1:=lt _ (xu o).1;have l2:=lt _ (xu o).2;have l3:=lt _ (xu C).1;have l4:=lt _ (xu C).2;rcases Aj.mp U with U|U
  ·have:=lt _ (xu (AL.mp U).1).2;lia
  ·rcases An.mp U with rfl|U
   ·show max _ _<_;lia
   ·rw[Al.mp U];show max _ _<_;lia
 refine⟨λτ L'=>∃r J:Nat,(t=u/\J=y.1/\r=y.2\/t≠u/\J=y.2/\r=y.1)/\τ=[c0,c1,some<|.ref a,some<|.ref l,some<|.ref c,c5,c6,c7,c8,some<|.ref p9,some<|.int (x.1:Int),some<|.int (x.2:Int),some<|.int (J:Int),some<|.int (r:Int)]/\L'=L,?_,?_⟩
 ·refine qb ha<|qm (v5 x1)<|qb ha<|qm (v5 y1) ?_;cases t<;>cases u
  ·exact⟨y.2,y.1,.inl ⟨rfl,rfl,rfl⟩,rfl,rfl⟩
  ·exact⟨y.1,y.2,.inr ⟨by decide,rfl,rfl⟩,rfl,rfl⟩
  ·exact⟨y.1,y.2,.inr ⟨by decide,rfl,rfl⟩,rfl,rfl⟩
  ·exact⟨y.2,y.1,.inl ⟨rfl,rfl,rfl⟩,rfl,rfl⟩
 ·rintro τ L' ⟨r,J,h,rfl,rfl⟩;exact tail r J h
theorem akx{g:qr}{a c:Addr}{c12 c13:Option Y}{k:Nat}{x y:Nat×Nat}{u:Bool}{n:Str}(I:iP wd lk)(ex:lk[k]?=some x)(T:lk[j]?=some y)(a1:x≠y)(x1:wd[x.1]?=some (some<|.lf t n))(x2:wd[x.2]?=some (some<|.lf (!t) n))(y1:wd[y.1]?=some (some<|.lf u n))(y2:wd[y.2]?=some (some<|.lf (!u) n))
 (a2:g a=some (.lst<|vh wd)) (J:g l=some (.lst<|qu lk)) (s8:qh L g) (q:∀Dd qs L',qh L L'->L' Dd=some (.lst<|qu qs)->iP wd qs->En.rt (vi a Dd c) L'):
 afa En [c0,c1,some<|.ref a,some<|.ref l,some<|.ref c,some<|.int (k:Int),c6,c7,some<|.int (j:Int),c9,bW,jH,c12,c13] g:=by
 have big:=bg_;have pl:(qu lk).length=lk.length:=Ae ..;have z2:=I.ll;have mx:=AC ex;have my:=AC T;refine qb J ⟨⟨AY _,by rw[pl];lia⟩,?_⟩;rw[pl,BE];refine nG (λi us=>us=qu ((lk.take i).filter λz=>decide (z≠x)&&decide (z≠y))) (big _ (by lia)) rfl ?_ ?_
 ·rintro i us hi rfl;have U:lk[i]?=some lk[i]:=Ak hi;generalize lk[i]=z at U;have e0:(0:Int)+(i:Int)=(i:Int):=B6 _;rw[e0];refine⟨rfl,rfl,?_⟩;show v4 (!(jP (ak<|.int (i:Int))<|([.int (k:Int),.int (j:Int)]:List Y).map ak)) _ _;rw[vm];have idx:∀m w,lk[m]?=some w->(z=w↔i=m):=λm w ew=>by obtain⟨hm,ew⟩:=AK.mp ew;obtain⟨hi,U⟩:=AK.mp U;rw[<-U,<-ew];exact El (j9 I.lkN)
  have i1:=idx k x ex;have i2:=idx j y T;by_cases c:i=k\/i=j
  ·refine cN (by rw[AI c];rfl) ⟨_,EK _,rfl,?_⟩;rw[Bf,U,A5];have:([z].filter λz=>decide (z≠x)&&decide (z≠y))=[]:=BC (by rw[<-i1,<-i2] at c;simp;intro h;exact c.resolve_left h);rw[Cp,this,AD]
  ·refine gH (by rw[Ay c];rfl)<|qb J<|qm (jw<|eO U) ⟨_,EK _,rfl,?_⟩;rw[<-i1,<-i2] at c;rw[Bf,U,A5];have:([z].filter λz=>decide (z≠x)&&decide (z≠y))=[z]:=BD (by simp;exact⟨λh=>c<|.inl h,λh=>c<|.inr h⟩);rw[Cp,this,xm]
 rintro us rfl p9 p;rw[Bo];have C:=By (o:=.lst<|qu<|lk.filter λz=>decide (z≠x)&&decide (z≠y)) p;have g9:qj g p9 (.lst<|qu<|lk.filter λz=>decide (z≠x)&&decide (z≠y)) p9=some (.lst<|qu<|lk.filter λz=>decide (z≠x)&&decide (z≠y)):=q9;have n9:=s8.none p;generalize qj g p9 (.lst<|qu<|lk.filter λz=>decide (z≠x)&&decide (z≠y))=L9 at C g9 ⊢;have r:=C _ _ J;have a3:=C _ _ a2;refine qb r<|qm (jw<|eO ex)<|qb r<|qm (jw<|eO T) ?_;exact am4 I mx my a1 x1 x2 y1 y2 a3 g9 (s8.trans C) n9 q
theorem vX:∀ys L Q,gD ys L Q->vo mC 14 ys L Q:=by
 rintro ys L Q ⟨a,l,c,wd,lk,num,rfl,ha,g,I,q⟩;have big:=bg_;have pl:(qu lk).length=lk.length:=Ae ..;have z2:=I.ll;have wl:=I.wl;obtain⟨k,x,ek,hk,ex⟩:=iq (DL.mpr I.ne) num;have mx:=AC ex;obtain⟨lx,t,n,x1,x2⟩:=I.lkA x mx;have em:num % ((qu lk).length:Int)=(k:Int):=by rw[pl];exact ek
 refine qb g (yA (by rw[pl];lia) em ?_);refine qb g<|qm (jw<|eO ex)<|qb ha<|qm (v5 x1) ?_;refine qb g ⟨⟨AY _,by rw[pl];lia⟩,?_⟩;rw[pl,BE];refine nG (λi C=>∃os:List Nat,C=nY os/\os.length<=i/\∀j∈os,j≠k/\∃y u,lk[j]?=some y/\wd[y.1]?=some (some<|.lf u n)/\wd[y.2]?=some (some<|.lf (!u) n)) (big _ (by lia)) ⟨[],rfl,Am _,nofun⟩ ?_ ?_
 ·rintro i C hi ⟨os,rfl,lo,ho⟩;have U:lk[i]?=some lk[i]:=Ak hi;generalize lk[i]=y at U;obtain⟨_,u,m,y1,y2⟩:=I.lkA y<|AC U;have no:dk (λC L'=>L'=L/\∃os:List Nat,C=nY os/\os.length<=i+1/\∀j∈os,j≠k/\∃y u,lk[j]?=some y/\wd[y.1]?=some (some<|.lf u n)/\wd[y.2]?=some (some<|.lf (!u) n)) (nY os) L:=⟨_,EK _,rfl,os,rfl,BQ lo,ho⟩;have e0:(0:Int)+(i:Int)=(i:Int):=B6 _;rw[e0];by_cases ck:i=k
  ·exact cN (by rw[AI<|BG Nat.cast ck];rfl) no
  ·refine gH (by rw[Ay λz=>ck<|Bt.mp z];rfl) ?_;refine qb g<|qm (jw<|eO U)<|qb ha<|qm (v5 y1) ?_;refine zg (λh=>?_) λ_=>no;have h:m=n:=h;subst h;refine⟨_,EK _,rfl,os++[i],by rw[ug];rfl,by rw[Ac];exact DB lo,λj p=>?_⟩;rcases Aj.mp p with p|p
   ·exact ho j p
   ·rw[Al.mp p];exact⟨ck,y,u,U,y1,y2⟩
 rintro C ⟨os,rfl,lo,ho⟩ p7 a1;have s7:=By (o:=.lst<|nY os) a1;have g7:qj L p7 (.lst<|nY os) p7=some (.lst<|(os.map λn:Nat=>(n:Int)).map Y.int):=by rw[q9,wV]
 generalize qj L p7 (.lst<|nY os)=L7 at s7 g7 ⊢;intro p8 T;have s8:=s7.trans<|By (o:=.lst []) T;have g8:=By (o:=.lst []) T _ _ g7;refine iJ (n:=0) (m:=0) (by decide) g8 q9 (oG _) .nil ?_;generalize qj L7 p8 (.lst [])=L8 at s8 g8 ⊢;cases os with
 |nil=>exact lm s8<|q l lk L (EK _) g I
 |cons o os=>
  rw[<-wV] at g8;obtain⟨j,mj,ej⟩:∃r,r∈o::os/\eZ (nY<|o::os) (num / 64 % ((nY<|o::os).length:Int))=some (.int ((r:Nat):Int)):=gY (E:=o::os) (B9 _)<|num / 64;obtain⟨a2,y,u,U,y1,y2⟩:=ho j mj;have my:=AC U;have a3:x≠y:=λe=>by obtain⟨p,U⟩:=AK.mp U;obtain⟨hk,ex⟩:=AK.mp ex;exact a2<|(El<|j9 I.lkN).mp<|U.trans<|e.symm.trans ex.symm
  refine⟨⟨by decide,by decide⟩,qb g8 ⟨by rw[dE];exact Int.ofNat_lt.mpr<|B9 _,qb g8<|qm ej ?_⟩⟩;exact akx I ex U a3 x1 x2 y1 y2 (s8 _ _ ha) (s8 _ _ g) s8 λDd qs L' t1 t2 J=>x9<|q Dd qs L' t1 t2 J
end L3
namespace L2
open PySem PySem.Spec PyProof.Rows
theorem uT{a:Addr}{i j:Int}(I:qw X pins σ H s)(sq:aI X.K H a [.int i,.int j]):∃t t',s.heap.IsList a (intItems #[(i,t),(j,t')]):=by obtain⟨U,g,pl,_⟩:=I.list sq;obtain⟨u,v,rfl,⟨t,rfl⟩,⟨t',rfl⟩⟩:=acy g;have J:=jh pl;rw[show #[Value.int i t,Value.int j t']=intItems #[(i,t),(j,t')] by simp[intItems]] at J;exact⟨t,t',J⟩
theorem zA(hc:X.calm=true:=by rfl):jo X (.builtin "min") (λxs H Q=>∃(a:Addr) (i j:Int),xs=[.ref a]/\aI X.K H a [.int i,.int j]/\Q (.int<|if j<i then j else i) H):=by
 intro U s C H xs T Q I r h;obtain⟨a,i,j,rfl,sq,q⟩:=h;obtain⟨u,rfl,g⟩:=lT r;cases g;obtain⟨t,t',l⟩:=uT I sq;refine jq I.tk<|min_intList (I.ok.hd hc) l (show 0<2 by decide) λv h' tk J o p=>⟨_,H,I.kept (h':=h') (t':=tk) o p,?_,q⟩;have J:(intItems #[(i,t),(j,t')])[if decide (j<i) then 1 else 0]?=some v:=J;by_cases c:j<i
 ·rw[AA c];rw[AA<|AI c] at J;exact⟨t',by simpa[intItems] using J.symm⟩
 ·rw[Az c];rw[Az (by simpa using c)] at J;exact⟨t,by simpa[intItems] using J.symm⟩
theorem aa8(hc:X.calm=true:=by rfl):jo X (.builtin "max") (λxs H Q=>∃(a:Addr) (i j:Int),xs=[.ref a]/\aI X.K H a [.int i,.int j]/\Q (.int<|if j > i then j else i) H):=by
 intro U s C H xs T Q I r h;obtain⟨a,i,j,rfl,sq,q⟩:=h;obtain⟨u,rfl,g⟩:=lT r;cases g;obtain⟨t,t',l⟩:=uT I sq;refine jq I.tk<|max_intList (I.ok.hd hc) l (show 0<2 by decide) λv h' tk J o p=>⟨_,H,I.kept (h':=h') (t':=tk) o p,?_,q⟩;have J:(intItems #[(i,t),(j,t')])[if decide (j > i) then 1 else 0]?=some v:=J;by_cases c:j > i
 ·rw[AA c];rw[AA<|AI c] at J;exact⟨t',by simpa[intItems] using J.symm⟩
 ·rw[Az c];rw[Az (by simpa using c)] at J;exact⟨t,by simpa[intItems] using J.symm⟩
end L2
namespace L3
open PySem L2
def aag(L:qr)(Q:Int->Int->Prop):List Y->Prop
 |[.ref a]=>match L a with
  |some (.lst [.int i,.int j])=>Q i j
  |_=>False
 |_=>False
theorem kJ{a:Addr}{i j:Int}{Q:Int->Int->Prop}(h:L a=some (.lst [.int i,.int j]))(q:Q i j):aag L Q [.ref a]:=by unfold aag;simp only[h];exact q
theorem uY{Q:Int->Int->Prop}(h:aag L Q ys):∃a i j,ys=[.ref a]/\L a=some (.lst [.int i,.int j])/\Q i j:=by
 unfold aag at h;split at h
 ·split at h
  ·rename_i e;exact⟨_,_,_,rfl,e,h⟩
  ·exact h.elim
 ·exact h.elim
theorem wU{a:Addr}{i j:Int}(I:v3 X.g3 H [.ref a] xs)(J:ja X.g3 H L)(e:L a=some (.lst [.int i,.int j])):∃b,xs=[.ref b]/\aI X.K H b [.int i,.int j]:=by obtain⟨x,rfl,r⟩:=I.inv1;obtain⟨b,U,rfl,sq,rr⟩:=om J r rfl<|wr e;cases o8 (bs:=[i,j]) rfl rr;exact⟨b,rfl,sq⟩
def o4(xs:List Y)(L:qr)(Q:YK):Prop:=aag L (λi j=>Q (.int<|min i j) L) xs
def oK(xs:List Y)(L:qr)(Q:YK):Prop:=aag L (λi j=>Q (.int<|max i j) L) xs
theorem abp(hc:X.calm=true:=by rfl):jo X (.builtin "min") (upL X.g3 o4):=EZ (zA hc) λU H Q g L l J I z k=>by obtain⟨a,i,j,rfl,e,z⟩:=uY z;obtain⟨b,rfl,sq⟩:=wU J I e;refine⟨b,i,j,rfl,sq,?_⟩;rw[aee];exact k _ H _ L (EL _) I (by rfl) z
theorem acm(hc:X.calm=true:=by rfl):jo X (.builtin "max") (upL X.g3 oK):=EZ (aa8 hc) λU H Q g L l J I z k=>by obtain⟨a,i,j,rfl,e,z⟩:=uY z;obtain⟨b,rfl,sq⟩:=wU J I e;refine⟨b,i,j,rfl,sq,?_⟩;rw[aeo];exact k _ H _ L (EL _) I (by rfl) z
open PySem L2 Words
noncomputable def fk:RD "_law_looped" cJ 0 ["_law_web_here","_law_number_here","_law_knots","_law_links","_law_cuts","_law_leaf","_law_p","_law_q","_law_row","_law_others","_law_link"] (λ_=>True):=⟨_,λV B c _ _ _ _ _ _ _ J hN I=>(qa (ae (qv 0)<|w5 (n:=3) rfl<|qz (aB (i:=2) hN rfl<|Or.inr rfl)<|qz (G_ 3 hN)<|qz (G_ 4 hN) xw)<|qa (wb ["_law_cut_here"] (i:=5) hN rfl (Or.inl rfl) (EY (by rfl)) rfl (wy<|qv 4) (qE 11) (λ_ _ _ _=>cD<|E_ I (L_ B.ba<|I_ (qv 2)<|J_ 11) qd) λ_ _ _ _=>(qv 11))<|qa (zq (E_ I (qv 5)<|js wo) (qf<|za<|qv 0) z0)<|qa (ae (I_ (qv 5)<|qk jl (qv 1)<|L_ B.ba<|qv 5)<|w5 (n:=2) rfl<|qz (G_ 6 hN)<|qz (G_ 7 hN) xw)<|qa (S_ 8 hN<|js<|xj<|zd<|xr (jc uD rfl B.bn gB<|xr (qv 6)<|qv 7)<|jc lZ rfl B.bj dD<|xr (qv 6)<|qv 7)<|qa (S_ 9 hN<|js wo)<|qa (wn vb rfl (wy<|qv 3) (G_ 10 hN)<|qf<|zq (aS<|mS (j8 (e9 _ _ _) (qv 6) (qv 10) (by with_unfolding_all rfl))<|fu<|j8 (e9 _ _ _) (qv 7) (qv 10) (by with_unfolding_all rfl)) (qf<|zf<|z9 (qv 9)<|xj<|qk ag (qk jr (J_ 10)<|J_ 10)<|bE (j8 (e9 _ _ _) (qv 6) (qv 10) (by with_unfolding_all rfl)) (qv 6)<|qv 7)<|qf<|zf<|z9 (qv 8)<|xj<|qv 10)<|qa (zq (aS<|mS (j8 qJ (L_ B.ba<|qv 9) qd<|ke _)<|fu<|j8 (e9 _ _ _) (qv 7) (qv 9) (by with_unfolding_all rfl)) (qf<|za<|qv 0) z0)<|qa (zf<|z9 (qv 8)<|xj<|zd<|xr (jc abp rfl B.bn gB<|xj<|qv 9)<|jc acm rfl B.bj dD<|xj<|qv 9)<|qf<|za<|zd<|cT (qv 2) (jc br rfl B.bi wu<|xj<|qv 8)<|qv 4)⟩
noncomputable def ni:vt:=(fk).1
def agk:vt:=(zj (jz (io<|qi (kc<|qi (af oB<|bV (qc 6)<|qc 7)<|qi (af kD<|bV (qc 6)<|qc 7) jb) jb)<|qo 8)
 (zj (jz (io jb)<|qo 9)
 (zj (m8 (dM<|qc 3) (qo 10)<|wx (yOr (yB<|x5 (aw false) (qc 6)<|qc 10)<|yB<|x5 (aw false) (qc 7)<|qc 10) (xt<|eI zv (qc 9)<|qi (x5 lh (x5 dh (dq 10 0)<|dq 10 1)<|yIf (yB<|x5 (aw false) (qc 6)<|qc 10) (qc 6)<|qc 7) jb)<|xt<|eI zv (qc 8)<|aJ<|qc 10)
 (zj (wx (yOr (yB<|x5 yLt (si 9)<|bR 2)<|yB<|x5 (aw false) (qc 7)<|qc 9) (wc<|qc 0) kh)
 (zj (xt<|eI zv (qc 8)<|qi (kc<|qi (af o4<|aJ<|qc 9)<|qi (af oK<|aJ<|qc 9) jb) jb)
 (wc<|kc<|qi (qc 2)<|qi (af xp<|aJ<|qc 8)<|aJ<|qc 4))))))
def wL:vt:=(zj (wx (yOr (yB<|x5 yLt (si 9)<|bR 2)<|yB<|x5 (aw false) (qc 7)<|qc 9) (wc<|qc 0) kh)
 (zj (xt<|eI zv (qc 8)<|qi (kc<|qi (af o4<|aJ<|qc 9)<|qi (af oK<|aJ<|qc 9) jb) jb)
 (wc<|kc<|qi (qc 2)<|qi (af xp<|aJ<|qc 8)<|aJ<|qc 4)))
theorem ww(nd:(plcs lk).Nodup){x y:Nat×Nat}(I:x∈lk)(J:y∈lk)(px:p=x.1\/p=x.2)(py:p=y.1\/p=y.2):x=y:=Decidable.byContradiction λc=>by have pm:=vn<|hZ (j9 nd) I J c;rw[zk,zk] at pm;have:=pm.nodup_iff.mp nd;rcases px with rfl|rfl<;>rcases py with e|e<;>simp[e] at this
theorem aef{l:List α}{a b:α}(h:l.Perm [a,b]):l=[a,b]\/l=[b,a]:=by
 cases l with
 |nil=>exact absurd h.length_eq (by simp)
 |cons u r=>
  rcases An.mp (h.mem_iff.mp Av) with rfl|e
  ·exact .inl (by rw[DM.mp<|DY h])
  ·cases Al.mp e;exact .inr (by rw[DM.mp<|DY<|h.trans<|List.Perm.swap ..])
def zu(p q:Nat)(z:Nat×Nat):Bool:=!(decide (p=z.1\/p=z.2)||decide (q=z.1\/q=z.2))
theorem ab2{z:Nat×Nat}:(!zu p q z)=true↔(p=z.1\/p=z.2)\/(q=z.1\/q=z.2):=by unfold zu;simp
def cU(p q:Nat)(z:Nat×Nat):Int:=(z.1:Int)+(z.2:Int)-(if p=z.1\/p=z.2 then(p:Int) else(q:Int))
def ny(p x:Nat)(z:Nat×Nat):Prop:=z=(p,x)\/z=(x,p)
theorem ip{z:Nat×Nat}(h:p=z.1\/p=z.2):∃x,ny p x z:=by
 rcases h with rfl|rfl
 ·exact⟨z.2,.inl rfl⟩
 ·exact⟨z.1,.inr rfl⟩
theorem ny.mem{x:Nat}{z:Nat×Nat}(h:ny p x z):p=z.1\/p=z.2:=by rcases h with rfl|rfl;exact .inl rfl;exact .inr rfl
theorem ny.lf(I:∀c∈lk,c.1<c.2/\∃t n,wd[c.1]?=some (some<|.lf t n)/\wd[c.2]?=some (some<|.lf (!t) n)){x:Nat}{z:Nat×Nat}{n:Str}(h:ny p x z)(hz:z∈lk)(J:wd[p]?=some (some<|.lf t n)):wd[x]?=some (some<|.lf (!t) n):=by
 obtain⟨_,U,g,h1,h2⟩:=I z hz;rcases h with rfl|rfl
 ·rw[J] at h1;cases h1;exact h2
 ·rw[J] at h2;cases h2;rw[Du];exact h1
theorem ny.plcs{x:Nat}{z:Nat×Nat}(h:ny p x z)(r:List Nat):(z.1::z.2::r).Perm (p::x::r):=by
 rcases h with rfl|rfl
 ·exact .refl _
 ·exact .swap ..
theorem nJ(nd:(plcs lk).Nodup){I J:Nat×Nat}(U:I∈lk)(j:J∈lk)(px:p=I.1\/p=I.2)(l:q=J.1\/q=J.2):
 (I=J/\(lk.filter λz=>!zu p q z)=[I])\/(I≠J/\lk.filter (zu p q)=(lk.filter λz=>decide (z≠I)&&decide (z≠J))/\((lk.filter λz=>!zu p q z)=[I,J]\/(lk.filter λz=>!zu p q z)=[J,I])):=by
 have key:∀z∈lk,(!zu p q z)=true↔z=I\/z=J:=λz g=>by
  rw[ab2];constructor
  ·rintro(h|h)
   ·exact .inl<|ww nd g U h px
   ·exact .inr<|ww nd g j h l
  ·rintro(rfl|rfl)
   ·exact .inl px
   ·exact .inr l
 have nl:=j9 nd;by_cases c:I=J
 ·refine .inl ⟨c,DM.mp<|(AZ (nl.filter _) (by simp)).mpr λz=>?_⟩;rw[AL,Al];constructor
  ·rintro⟨h1,h2⟩;rcases (key z h1).mp h2 with e|e;exact e;exact e.trans c.symm
  ·rintro rfl;exact⟨U,(key _ U).mpr<|.inl rfl⟩
 ·refine .inr ⟨c,List.filter_congr λz g=>?_,aef<|(AZ (nl.filter _) (by simp[c])).mpr λz=>?_⟩
  ·have:=key z g;cases o:zu p q z with
   |true=>
    rw[o] at this;have:¬(z=I\/z=J):=λh=>by have:=this.mpr h;cases this
    simp at this;simp[this]
   |false=>
    rw[o] at this;rcases this.mp rfl with rfl|rfl<;>simp
  ·rw[AL];constructor
   ·rintro⟨h1,h2⟩;rcases (key z h1).mp h2 with rfl|rfl<;>simp
   ·intro h;have h:z=I\/z=J:=by simpa using h
    rcases h with rfl|rfl
    ·exact⟨U,(key _ U).mpr<|.inl rfl⟩
    ·exact⟨j,(key _ j).mpr<|.inr rfl⟩
theorem iP.loop(I:iP wd lk){U g:Nat×Nat}(j:U∈lk)(l:g∈lk)(ne:U≠g){x y:Nat}(o:ny p x U)(r:ny q y g){n:Str}(C:wd[p]?=some (some<|.lf t n))(T:wd[q]?=some (some<|.lf (!t) n))
 (pm:qs.Perm<|bv p q::(lk.filter λz=>decide (z≠U)&&decide (z≠g))++[bv x y]) (pw:qs.Pairwise aa):iP wd qs:=by
 have h1:=o.lf I.lkA j C;have h2:=r.lf I.lkA l T;refine I.of ((vn pm).trans ?_) (λc J=>?_) pw
 ·have e:=vn<|hZ (j9 I.lkN) j l ne;rw[zk,zk] at e;refine List.Perm.trans ?_ e.symm;refine List.Perm.trans ?_ (o.plcs _).symm;rw[DD,zk,x4,w9];refine(dJ p q _).trans (List.Perm.cons _<|List.Perm.trans ?_<|(r.plcs _).symm.cons _);refine(List.Perm.cons q<|Bd.trans<|dJ x y _).trans ?_;exact List.Perm.swap ..
 ·rcases Aj.mp (pm.mem_iff.mp J) with J|J
  ·rcases An.mp J with rfl|J
   ·exact lB C T
   ·exact I.lkA c (AL.mp J).1
  ·rw[Al.mp J];exact lB h1 (by rw[Du] at h2 ⊢;exact h2)
theorem alp{M:qr}{a c g:Addr}{r:Nat}{n:Str}(I:iP wd lk)(j:wd[p]?=some (some<|.lf t n))(hr:wd[r]?=some (some<|.lf (!t) n))(s:qh L M)(hl:L l=some (.lst<|qu lk))(n8:L g=none)(g8:M g=some (.lst<|qu<|bv p r::lk.filter (zu p r)))(U:M r9=some (.lst<|((lk.filter λz=>!zu p r z).map<|cU p r).map Y.int))
 (q:∀Dd qs L',qh L L'->L' Dd=some (.lst<|qu qs)->iP wd qs->En.rt (vi a Dd c) L'):
 wL En [some<|vi a l c,c1,some<|.ref a,some<|.ref l,some<|.ref c,c5,some<|.int (p:Int),some<|.int (r:Int),some<|.ref g,some<|.ref r9,bW] M:=by
 have big:=bg_;have pl:∀l:List (Nat×Nat),(qu l).length=l.length:=λl=>Ae ..;have z2:=I.ll;have wl:=I.wl;obtain⟨x0,o,px⟩:=aX<|(I.lkL p).mpr ⟨t,n,j⟩;obtain⟨y0,C,ry⟩:=aX<|(I.lkL r).mpr ⟨_,n,hr⟩;have back:En.rt (vi a l c) M:=q l lk M s (s _ _ hl) I;rcases nJ I.lkN o C px ry with⟨_,e⟩|⟨ne,e1,T⟩
 ·rw[e] at U;exact qb U back
 obtain⟨x,ox⟩:=ip px;obtain⟨y,oy⟩:=ip ry;have fl:=Bk (λz=>decide (z≠x0)&&decide (z≠y0)) lk;rw[e1] at g8;have v1:cU p r x0=(x:Int):=by unfold cU;rw[AA px];rcases ox with rfl|rfl<;>simp only<;>lia
 have v2:cU p r y0=(y:Int):=by unfold cU;rw[Az λh=>ne<|ww I.lkN o C px h];rcases oy with rfl|rfl<;>simp only<;>lia
 have lt:∀p∈plcs lk,p<wd.length:=λp j=>by obtain⟨_,_,e⟩:=(I.lkL p).mp j;exact je e
 have lp:=je j;have lr:=je hr;have lx:x<wd.length:=je<|ox.lf I.lkA o j;have ly:y<wd.length:=je<|oy.lf I.lkA C hr;have fin2:∀M',qh L M'->M' g=some (.lst<|qu<|bv p r::(lk.filter λz=>decide (z≠x0)&&decide (z≠y0))++[bv x y])->xp [.ref g] M' λz L'=>En.rt (.tup [.ref a,z,.ref c]) L':=λM' s' g'=>by
  have J:=λqs pm pw=>I.loop (qs:=qs) o C ne ox oy j hr pm pw;refine jQ g' (λd hd=>?_) (j9 ?_) (by rw[Ac,AM];show _+1+1<=_;lia) λD qs hD pm pw=>q D qs _ (s'.trans<|By hD) q9<|J qs pm pw
  ·rcases Aj.mp hd with hd|hd
   ·rcases An.mp hd with rfl|hd
    ·show max _ _<_;lia
    ·have:=lt _ (xu (AL.mp hd).1).2;lia
   ·rw[Al.mp hd];show max _ _<_;lia
  ·have e:=vn<|hZ (j9 I.lkN) o C ne;rw[zk,zk] at e;have:=(e.trans<|ox.plcs _).nodup_iff.mp I.lkN;rw[DD,zk,x4,w9];refine(((dJ p r _).trans<|List.Perm.cons _<|List.Perm.trans ?_<|(oy.plcs _).symm.cons _).nodup_iff).mpr this;exact(List.Perm.cons r<|Bd.trans<|dJ x y _).trans (List.Perm.swap ..)
 have go:∀u v:Nat,bv u v=bv x y->M r9=some (.lst [.int (u:Int),.int (v:Int)])->wL En [some<|vi a l c,c1,some<|.ref a,some<|.ref l,some<|.ref c,c5,some<|.int (p:Int),some<|.int (r:Int),some<|.ref g,some<|.ref r9,bW] M:=λu v e U=>by refine qb U<|qb U ⟨rfl,rfl,uj (λ_=>back) λ_=>?_⟩;refine qp g8 (kJ U (kJ U (qp g8 ⟨by rw[pl,AM];exact big _ (by lia),?_⟩)));rw[i4,e,xm];exact fin2 _ (s.upd n8) q9
 rcases T with T|T
 ·rw[T] at U;exact go x y rfl (by rw[U,<-v1,<-v2];rfl)
 ·rw[T] at U;exact go y x (gZ y x) (by rw[U,<-v1,<-v2];rfl)
theorem akr{a c:Addr}{r:Nat}{n:Str}(I:iP wd lk)(hp:wd[p]?=some (some<|.lf t n))(hr:wd[r]?=some (some<|.lf (!t) n))(s0:qh L0 L)(hl:L0 l=some (.lst<|qu lk))
 (q:∀Dd qs L',qh L0 L'->L' Dd=some (.lst<|qu qs)->iP wd qs->En.rt (vi a Dd c) L'):
 agk En [some<|vi a l c,c1,some<|.ref a,some<|.ref l,some<|.ref c,c5,some<|.int (p:Int),some<|.int (r:Int),c8,c9,bW] L:=by
 have big:=bg_;have pl:∀l:List (Nat×Nat),(qu l).length=l.length:=λl=>Ae ..;have z2:=I.ll;intro U h8;rw[i4];intro J h9;have n8:=s0.none h8;have n9:=s0.none<|bL h9;have g:U≠J:=aZ q9 h9;have s2:qh L0 (qj (qj L U<|.lst [vU<|bv p r]) J<|.lst []):=s0.trans<|(By h8).trans<|By h9;refine kz (s2 _ _ hl) λkeep kp=>kw ⟨λi C L'=>∃bW,C=[some<|vi a l c,c1,some<|.ref a,some<|.ref l,some<|.ref c,c5,some<|.int (p:Int),some<|.int (r:Int),some<|.ref U,some<|.ref J,bW]/\qh L0 L'/\L' U=some (.lst<|qu<|bv p r::(lk.take i).filter (zu p r))/\L' J=some (.lst<|(((lk.take i).filter λz=>!zu p r z).map<|cU p r).map Y.int),⟨_,rfl,s2,(qg g).trans q9,q9⟩,?_,?_,?_⟩
 ·rintro i C L' ⟨bW,rfl,s,_⟩;exact kp L' (by rw[s _ _ hl,s2 _ _ hl])
 ·rintro i y C L' hy ⟨bW,rfl,s,T,j⟩;rw[Aq] at hy;obtain⟨z,ez,rfl⟩:=Ax.mp hy;have f1:=Bk (zu p r)<|lk.take i;have f2:=Bk (λz=>!zu p r z)<|lk.take i;rw[AR] at f1 f2;have et:lk.take (i+1)=lk.take i++[z]:=by rw[Bf,ez];rfl
  have yes:∀w:Int,zu p r z=false->cU p r z=w->fM L' J λys=>ys.length<sizeLine/\dk (λC L'=>∃bW,C=[some<|vi a l c,c1,some<|.ref a,some<|.ref l,some<|.ref c,c5,some<|.int (p:Int),some<|.int (r:Int),some<|.ref U,some<|.ref J,bW]/\qh L0 L'/\L' U=some (.lst<|qu<|bv p r::(lk.take<|i+1).filter (zu p r))/\L' J=some (.lst<|(((lk.take<|i+1).filter λz=>!zu p r z).map<|cU p r).map Y.int)) [some<|vi a l c,c1,some<|.ref a,some<|.ref l,some<|.ref c,c5,some<|.int (p:Int),some<|.int (r:Int),some<|.ref U,some<|.ref J,some<|vU z] (qj L' J<|.lst<|ys++[.int w]):=λw hk ho=>by
   refine qp j ⟨by rw[Ae,Ae];exact big _ (by lia),_,EK _,_,rfl,s.upd n9,?_,?_⟩
   ·rw[qg g,T,et,A5,BC (by rw[hk];decide),Br,AD]
   ·rw[q9,et,A5,BD (by rw[hk];rfl),Br,AH,AH,<-ho];rfl
  refine⟨rfl,rfl,?_⟩;show v4 (jP (ak<|.int (p:Int))<|([.int (z.1:Int),.int (z.2:Int)]:List Y).map ak) _ _;rw[vm];refine zg (λo=>?_) λo=>?_
  ·refine qp j ⟨rfl,rfl,?_⟩;show v4 (jP (ak<|.int (p:Int))<|([.int (z.1:Int),.int (z.2:Int)]:List Y).map ak) _ _;rw[vm];exact mM o (yes _ (by unfold zu;rw[AI o];rfl) (by unfold cU;rw[AA o]))
  ·refine⟨rfl,rfl,?_⟩;show v4 (jP (ak<|.int (r:Int))<|([.int (z.1:Int),.int (z.2:Int)]:List Y).map ak) _ _;rw[vm];refine zg (λcr=>?_) λcr=>?_
   ·refine qp j ⟨rfl,rfl,?_⟩;show v4 (jP (ak<|.int (p:Int))<|([.int (z.1:Int),.int (z.2:Int)]:List Y).map ak) _ _;rw[vm];exact pQ o (yes _ (by unfold zu;rw[AI cr,Bool.or_true];rfl) (by unfold cU;rw[Az o]))
   ·have hk:zu p r z=true:=by unfold zu;rw[Ay o,Ay cr];rfl
    refine qp T (qp T ⟨by rw[pl,AM];exact big _ (by lia),_,EK _,_,rfl,s.upd n8,?_,?_⟩)
    ·rw[q9,et,A5,BD hk,Br,<-DD,xm]
    ·rw[qg<|AJ g,j,et,A5,BC (by rw[hk];decide),Br,AD]
 ·rintro C L' ⟨bW,rfl,s,T,j⟩;rw[pl,Bo] at T j;exact alp I hp hr s hl n8 T j q
def iQ:zp:=λys L Q=>∃a l c,∃wd:List (Option Kn),∃lk ct:List (Nat×Nat),∃num:Int,ys=[vi a l c,.int num]/\L a=some (.lst<|vh wd)/\L l=some (.lst<|qu lk)/\L c=some (.lst<|qu ct)/\iP wd lk/\(∀d∈ct,∃w,KW (vh wd) d.1 w/\KW (vh wd) d.2 w.turn)/\ct.length<=200/\∀D ir L',qh L L'->L' D=some (.lst<|qu ir)->iP wd ir->Q (vi a D c) L'
theorem zT:∀ys L Q,iQ ys L Q->vo ni 11 ys L Q:=by
 rintro ys L Q ⟨a,l,c,wd,lk,ct,num,rfl,ha,hl,hc,I,hw,hz,q⟩;have big:=bg_;have pl:∀l:List (Nat×Nat),(qu l).length=l.length:=λl=>Ae ..;refine kz hc λkeep kp=>gJ (λi T=>∃fs:List (Nat×Nat),T=qu fs/\fs.length<=i/\∀f∈fs,∃t n,wd[f.1]?=some (some<|.lf t n)/\wd[f.2]?=some (some<|.lf (!t) n)) (by rw[pl];exact big _ (by lia)) (kp _ rfl) ⟨[],rfl,Am _,nofun⟩ ?_ ?_
 ·rintro i y T hy ⟨fs,rfl,lo,p⟩;rw[Aq] at hy;obtain⟨f,r,rfl⟩:=Ax.mp hy;obtain⟨w,h1,h2⟩:=hw f<|AC r;cases w with
  |leaf t n=>
   refine qb ha (qm (v5 h1.inv_lf) ⟨_,EK _,rfl,fs++[f],xm fs f,by rw[Ac];exact DB lo,λg U=>?_⟩);rcases Aj.mp U with U|U
   ·exact p g U
   ·rw[Al.mp U];exact⟨t,n,h1.inv_lf,h2.inv_lf⟩
  |node e u v=>
   obtain⟨i',j',e1,_,_⟩:=h1.inv_nd;exact qb ha<|qm (v5 e1) ⟨_,EK _,rfl,fs,rfl,BQ lo,p⟩
 rintro T ⟨fs,rfl,lo,p⟩ p5 a1;have s5:=By (o:=.lst<|qu fs) a1;have g5:qj L p5 (.lst<|qu fs) p5=some (.lst<|qu fs):=q9;generalize qj L p5 (.lst<|qu fs)=L5 at s5 g5 ⊢;intro p6 j;have s6:=s5.trans<|By (o:=.lst []) j;have C:=By (o:=.lst []) j _ _ g5;refine iJ (n:=1) (m:=0) (by decide) C q9 (uR fs) .nil ?_;generalize qj L5 p6 (.lst [])=L6 at s6 C ⊢;cases fs with
 |nil=>exact lm s6<|q l lk L (EK _) hl I
 |cons f0 fs=>
  obtain⟨k,f,ek,hk,r⟩:=iq (l:=f0::fs) (B9 _) num;obtain⟨t,n,h1,h2⟩:=p f<|AC r;have em:num % ((qu<|f0::fs).length:Int)=(k:Int):=by rw[pl];exact ek
  refine qb C (yA (by rw[pl];exact Int.ofNat_lt.mpr<|B9 _) em<|qb C<|qm (jw<|eO r) ?_);exact akr I h1 h2 s6 hl λDd qs L' t1 t2 J=>x9<|q Dd qs L' t1 t2 J
noncomputable def tW(U:zp)(I:zp)(g:zp)(J:zp):RD "_law_crossed" bH 1 ["_law_web_here","_law_stir_here","_law_number_here","_law_k"] (λV=>q8_ V U/\ap3 V I/\q9_ V g/\aov V J):=⟨_,λV B c _ _ _ _ _ _ _ j hN l=>(qa (S_ 2 hN<|C_ c.1 j<|xr (qv 1) qd)<|qa (wn vb rfl (wv rfl B.bh<|xj<|qk jl (qv 2) qd) (G_ 3 hN)<|qf<|S_ 0 hN<|C_ c.2.1 j<|xr (qv 0)<|C_ c.2.2.1 j<|cT (qv 2) (qv 3) qd)<|xn (zq (E_ l (qk jl (qk xo (qv 2) qd) qd) qd) (qf<|S_ 0 hN<|C_ c.2.2.2 j<|xr (qv 0)<|qk xo (qv 2) qd) z0)<|qf<|za<|qv 0)⟩
noncomputable def adc(U:zp)(I:zp)(g:zp)(J:zp):vt:=(tW U I g J).1
def iX:zp:=λys L Q=>∃a l c,∃wd:List (Option Kn),∃lk ct:List (Nat×Nat),∃s:Int,ys=[vi a l c,.int s]/\L a=some (.lst<|vh wd)/\L l=some (.lst<|qu lk)/\L c=some (.lst<|qu ct)/\iP wd lk/\(∀d∈ct,∃w,KW (vh wd) d.1 w/\KW (vh wd) d.2 w.turn)/\ct.length<=200/\∀D ir L',qh L L'->L' D=some (.lst<|qu ir)->iP wd ir->Q (vi a D c) L'
theorem zO:∀ys L Q,iX ys L Q->vo (adc dW gD lg iQ) 4 ys L Q:=by
 rintro ys L Q ⟨a,l,c,t,lk,ct,s,rfl,ha,hl,hc,I,hw,hz,q⟩;refine⟨s,52813309,rfl,by decide,by decide,λnum _ _=>⟨(by decide:(0:Int)<4),⟨by show _<=num % 4;lia,by show num % 4<_;lia⟩,?_⟩⟩;refine kF (λi p C=>∃D U c3,p=[some<|vi a D c,some<|.int s,some<|.int num,c3]/\qh L C/\C D=some (.lst<|qu U)/\iP t U) ⟨l,lk,_,rfl,EK _,hl,I⟩ ?_ ?_
 ·rintro i p C hi ⟨D,U,c3,rfl,o,r,J⟩;exact⟨num,_,39373,rfl,by lia,by lia,by decide,by decide,λv _ _=>⟨a,D,c,t,U,v,rfl,o _ _ ha,r,J,λT j g u1 u2 J'=>⟨_,EK _,T,j,_,rfl,o.trans u1,u2,J'⟩⟩⟩
 ·rintro p C ⟨D,U,c3,rfl,o,r,J⟩;refine⟨λp g=>∃D U c3,p=[some<|vi a D c,some<|.int s,some<|.int num,c3]/\qh L g/\g D=some (.lst<|qu U)/\iP t U,?_,?_⟩
  ·refine⟨⟨by decide,by decide⟩,(by decide:(0:Int)<8),zg (λ_=>?_) λ_=>⟨D,U,_,rfl,o,r,J⟩⟩;exact⟨⟨by decide,by decide⟩,a,D,c,t,U,ct,_,rfl,o _ _ ha,r,o _ _ hc,J,hw,hz,λT j g u1 u2 J'=>⟨T,j,_,rfl,o.trans u1,u2,J'⟩⟩
  ·rintro p g ⟨D,U,c3,rfl,o,r,J⟩;exact x9<|q D U g o r J
end L3
namespace L2
open PySem PySem.Spec PyProof.Rows
section
variable {w:World}
theorem sM{a:Addr}{Q:Option Obj->Shared->Prop}(h:Q (s.heap.get? a) s):wpAny M A (loadIfAlive a) Q E s:=by intro J I p;simp only[loadIfAlive,Sem.wp_loadIfAlive];exact h
abbrev iS(h:Heap)(z TI TO t:Addr)(b:Bool):Prop:=h.get? z=some { cls:=.type "zip",dict:=none,data:=.fields #[rawInt t,.bool b,.bool false,.ref TI,.ref TO],slots:=#[] }
theorem tD{z TI TO t:Addr}{b:Bool}{o:Obj}{Q:Bool->Shared->Prop}(hz:iS s.heap z TI TO t b)(I:s.heap.get? t=some o)(q:∀h',iS h' z TI TO t true->Heap.SameBut z s.heap h'->Q false { s with heap:=h' }):
 wpAny (model prog w) A (Builtin.SmallTypes.ownedTupleIsFree<|.ref z) Q E s:=by
 unfold Builtin.SmallTypes.ownedTupleIsFree;refine Aa<|AW hz rfl (x:=rawInt t) rfl ?_;show wpAny _ _ (loadIfAlive (t:Int).toNat >>= _) _ _ _;refine Aa<|sM ?_;rw[BE,I];refine Aa<|AW hz rfl (x:=.bool b) rfl ?_;cases b with
 |true=>
  dsimp only;rw[Az (by decide)];exact Ag<|q s.heap hz ⟨rfl,λ_ _=>rfl⟩
 |false=>
  dsimp only;rw[AA (by decide)];exact Aa<|wpAny_setField_rec hz (by simp) λh' J U=>Ag<|q h' J U
theorem y7{z TI TO t:Addr}{c:Bool}{o:Obj}{k:Nat}{xs ys:Array Value}{x y:Value}(D:ZAp z TI TO i1 i2 l1 l2)(hz:iS s.heap z TI TO t c)(r:s.heap.get? t=some o)(C:IsPair s.heap TI (.ref i1)<|.ref i2)
 (h1:df t1 s.heap i1 l1 k) (h2:df t2 s.heap i2 l2 k) (T:iN t1 s.heap l1 xs) (q2:iN t2 s.heap l2 ys) (hx:xs[k]?=some x) (hy:ys[k]?=some y)
 (q:∀h',iS h' z TI TO t true->df t1 h' i1 l1 (k+1)->df t2 h' i2 l2 (k+1)->IsPair h' s.heap.objs.size x y->
  (∀c o,c≠z->c≠i1->c≠i2->s.heap.get? c=some o->h'.get? c=some o)->Q (.ref s.heap.objs.size) { s with heap:=h' }):
 wpAny (model prog w) A (Builtin.«zip.__next__» ⟨[.ref z],[]⟩) (λx9 s'=>∃v,x9=.done (.ret v)/\Q v s') E s:=by
 refine Aa (m:=field (.ref z) 2)<|AW hz rfl (x:=.bool false) rfl<|Aa (m:=field (.ref z) 3)<|AW hz rfl (x:=.ref TI) rfl<|Aa<|Bl C rfl ?_;refine Aa (m:=Builtin.SmallTypes.ownedTupleIsFree<|.ref z)<|tD hz r λg1 z1 I=>?_;simp only[BW,if_false];refine Aa ?_;rw[<-Array.forIn_toList];simp only[Cr,Dt];refine Aa<|Aa<|A1<|Aa (m:=Builtin.SmallTypes.nextOf<|.ref i1)<|(h1.on λo e=>I.extBut _ _ D.n3 e).next (T.on λo e=>I.extBut _ _ D.n8 e) hx λg2 j J=>Ag<|Ag ?_;refine Aa<|Aa<|A1<|Aa (m:=Builtin.SmallTypes.nextOf<|.ref i2)<|df.next (l:=l2) (i:=k) (xs:=ys) (x:=y) (t:=t2) (h2.on λo e=>J.extBut _ _ (AJ D.n7)<|I.extBut _ _ D.n4 e) (q2.on λo e=>J.extBut _ _ D.n14<|I.extBut _ _ D.n12 e) hy λU p g=>Ag<|Ag<|Ag ?_;refine Aa (wpAny_newTuple (Ag ⟨_,rfl,?_⟩) (by show 2<=sizeLine;decide));have sz:U.objs.size=s.heap.objs.size:=by rw[g.1,J.1,I.1]
 have k4:∀c o,c≠z->c≠i1->c≠i2->s.heap.get? c=some o->(U.push { cls:=.type "tuple",data:=.seq #[x,y] }).get? c=some o:=λc o a1 a3 a4 e=>qy _<|g.extBut _ _ a4<|J.extBut _ _ a3<|I.extBut _ _ a1 e;have x9:=q (U.push { cls:=.type "tuple",data:=.seq #[x,y] }) (qy _<|g.extBut _ _ (AJ D.n4)<|J.extBut _ _ (AJ D.n3) z1) (j.on λo e=>qy _<|g.extBut _ _ D.n7 e) (p.on λo e=>qy _ e)
  (by rw[<-sz];exact sy _ rfl) k4
 show Q (.ref U.objs.size) _;rw[sz];exact x9
theorem zI{z TI TO t:Addr}{c:Bool}{o:Obj}{k:Nat}{xs ys:Array Value}{Q:Fin->Shared->Prop}(hh:A.handled=none)(D:ZAp z TI TO i1 i2 l1 l2)(hz:iS s.heap z TI TO t c)(ht:s.heap.get? t=some o)(hI:IsPair s.heap TI (.ref i1)<|.ref i2)
 (h1:df t1 s.heap i1 l1 k) (h2:df t2 s.heap i2 l2 k) (q1:iN t1 s.heap l1 xs) (q2:iN t2 s.heap l2 ys) (J:xs[k]?=none\/ys[k]?=none)
 (q:∀h' e,(∀c o,c≠z->c≠TO->c≠i1->c≠i2->s.heap.get? c=some o->h'.get? c=some o)->(∃o,h'.get? e=some o/\o.cls=.type "StopIteration")->E (.ref e) { s with heap:=h' }):
 wpAny (model prog w) A (Builtin.«zip.__next__» ⟨[.ref z],[]⟩) Q E s:=by
 refine Aa (m:=field (.ref z) 2)<|AW hz rfl (x:=.bool false) rfl<|Aa (m:=field (.ref z) 3)<|AW hz rfl (x:=.ref TI) rfl<|Aa<|Bl hI rfl ?_;refine Aa (m:=Builtin.SmallTypes.ownedTupleIsFree<|.ref z)<|tD hz ht λg1 z1 I=>?_;simp only[BW,if_false];refine Aa ?_;rw[<-Array.forIn_toList];simp only[Cr,Dt];refine Aa<|Aa<|A1<|Aa (m:=Builtin.SmallTypes.nextOf<|.ref i1) ?_;have U:=h1.on λo e=>I.extBut _ _ D.n3 e;have g:=q1.on λo e=>I.extBut _ _ D.n8 e;cases j:xs[k]? with
 |none=>exact df.stop hh U g j λg2 e s2 p=>q g2 e (λc o r _ C _ w=>s2 _ _ C<|I.extBut _ _ r w) p
 |some x=>
  have hy:ys[k]?=none:=by rcases J with h|h;rw[j] at h;cases h;exact h
  refine df.next U g j λg2 a2 T=>Ag<|Ag ?_;refine Aa<|Aa<|A1<|Aa (m:=Builtin.SmallTypes.nextOf<|.ref i2)<|df.stop (t:=t2) (l:=l2) (i:=k) (xs:=ys) hh (h2.on λo e=>T.extBut _ _ (AJ D.n7)<|I.extBut _ _ D.n4 e) (q2.on λo e=>T.extBut _ _ D.n14<|I.extBut _ _ D.n12 e) hy λg4 e s4 p=>?_;exact q g4 e (λc o r _ C a4 w=>s4 _ _ a4<|T.extBut _ _ C<|I.extBut _ _ r w) p
def ZS(t1 t2:Bool)(z TI TO i1 i2 l1 l2 B:Addr)(i:Nat)(h:Heap):Prop:=
 ((IsZip h z TI TO .none/\∃a b,IsPair h TO a b)\/∃t c u v,B<=t/\iS h z TI TO t c/\IsPair h t u v)/\IsPair h TI (.ref i1) (.ref i2)/\df t1 h i1 l1 i/\df t2 h i2 l2 i
structure ZB(z TI TO i1 i2 l1 l2 B:Addr):Prop where
 ap:ZAp z TI TO i1 i2 l1 l2
 d1:TI≠TO
 d2:TI≠i1
 d3:TI≠i2
 lt:∀c∈[z,TI,TO,i1,i2],c<B
section
variable {z TI TO B:Addr}{xs ys:Array Value}
theorem ZS.keep(st:ZS t1 t2 z TI TO i1 i2 l1 l2 B i h)(k:∀b o,b∈[z,TI,TO,i1,i2]\/B<=b->h.get? b=some o->h'.get? b=some o):ZS t1 t2 z TI TO i1 i2 l1 l2 B i h':=by
 obtain⟨J,U,g,j⟩:=st;refine⟨?_,k _ _ (.inl (by simp)) U,g.on λo e=>k _ o (.inl (by simp)) e,j.on λo e=>k _ o (.inl (by simp)) e⟩;rcases J with⟨a,u,v,b⟩|⟨t,c,u,v,I,a,b⟩
 ·exact .inl ⟨k _ _ (.inl (by simp)) a,u,v,k _ _ (.inl (by simp)) b⟩
 ·exact .inr ⟨t,c,u,v,I,k _ _ (.inl (by simp)) a,k _ _ (.inr I) b⟩
theorem ZS.type(st:ZS t1 t2 z TI TO i1 i2 l1 l2 B i s.heap):s.TypeIs (.ref z) "zip" := by
 rcases st.1 with⟨a,_⟩|⟨t,c,u,v,I,a,b⟩
 ·exact⟨_,a,rfl⟩
 ·exact⟨_,a,rfl⟩
theorem ahi{x y:Value}{Q:Option Value->Shared->Prop}(D:ZB z TI TO i1 i2 l1 l2 B)(hB:B<=s.heap.objs.size)(st:ZS t1 t2 z TI TO i1 i2 l1 l2 B i s.heap)(p:iN t1 s.heap l1 xs)(r:iN t2 s.heap l2 ys)(C:xs[i]?=some x)(T:ys[i]?=some y)
 (q:∀h',ZS t1 t2 z TI TO i1 i2 l1 l2 B (i+1) h'->IsPair h' s.heap.objs.size x y->(∀c o,c∉[z,TI,TO,i1,i2]->s.heap.get? c=some o->h'.get? c=some o)->Q (some<|.ref s.heap.objs.size) { s with heap:=h' }):
 wpAny (model prog w) A (pyNext<|.ref z) Q E s:=by
 have hT:=st.type;obtain⟨s1,U,s3,s4⟩:=st;unfold pyNext;refine Aa<|wpAny_attempt<|wpAny_callSpecial?_slot (name:="__next__") hT Ff<|wpAny_call_entry Ff hT F.entry_zip_next ?_<|F.args_zip_next_1 _;have ne:∀{c d:Addr},c∈[z,TI,TO,i1,i2]->B<=d->d≠c:=λh1 h2 z=>by have:=D.lt _ h1;rw[z] at h2;exact absurd h2<|Nat.not_le.mpr this
 rcases s1 with⟨a,u,v,b⟩|⟨t,c,u,v,g,a,b⟩
 ·refine aby D.ap a U b s3 s4 p r C T λh' g1 g2 g3 l j J=>Ag<|q h' ⟨.inr ⟨_,false,x,y,hB,g1,j⟩,J _ _ D.ap.n1 D.d1 D.d2 D.d3 U,g3,l⟩ j λc o I e=>?_;simp only[An,BK,or_false,not_or] at I;exact J c o I.1 I.2.2.1 I.2.2.2.1 I.2.2.2.2 e
 ·refine y7 D.ap a b U s3 s4 p r C T λh' g1 g3 l j J=>Ag<|q h' ⟨.inr ⟨t,true,u,v,g,g1,J _ _ (ne (by simp) g) (ne (by simp) g) (ne (by simp) g) b⟩,J _ _ D.ap.n1 D.d2 D.d3 U,g3,l⟩ j λc o I e=>?_;simp only[An,BK,or_false,not_or] at I;exact J c o I.1 I.2.2.2.1 I.2.2.2.2 e
theorem ahc{Q:Option Value->Shared->Prop}(g:A.handled=none)(D:ZB z TI TO i1 i2 l1 l2 B)(st:ZS t1 t2 z TI TO i1 i2 l1 l2 B i s.heap)(j:iN t1 s.heap l1 xs)(l:iN t2 s.heap l2 ys)(I:xs[i]?=none\/ys[i]?=none)
 (q:∀h',(∀c o,c∉[z,TI,TO,i1,i2]->s.heap.get? c=some o->h'.get? c=some o)->Q none { s with heap:=h' }):wpAny (model prog w) A (pyNext<|.ref z) Q E s:=by
 have p:=st.type;obtain⟨s1,r,C,s4⟩:=st;unfold pyNext;refine Aa<|wpAny_attempt<|wpAny_callSpecial?_slot (name:="__next__") p Ff<|wpAny_call_entry Ff p F.entry_zip_next ?_<|F.args_zip_next_1 _;have x9:∀h' e,(∀c o,c≠z->c≠TO->c≠i1->c≠i2->s.heap.get? c=some o->h'.get? c=some o)->(∃o,h'.get? e=some o/\o.cls=.type "StopIteration")->wpAny (model prog w) A (isInstance (.ref e) (.type "StopIteration") >>= λb=>if b=true then pure none else throw (.ref e)) Q E { s with heap:=h' }:=λh' e gk he=>by obtain⟨o,ho,U⟩:=he;refine Aa<|wpAny_isInstance (T:="StopIteration") (b:=true) ⟨o,ho,U⟩ isSubtype_stop<|Ag<|q h' λc o J e=>?_;simp only[An,BK,or_false,not_or] at J;exact gk c o J.1 J.2.2.1 J.2.2.2.1 J.2.2.2.2 e
 rcases s1 with⟨a,u,v,b⟩|⟨t,c,u,v,hb,a,b⟩
 ·exact ac9 g D.ap a r b C s4 j l I x9
 ·exact zI g D.ap a b r C s4 j l I x9
end
end
inductive tV:Hp->List Addr->List (V×V)->Hp->Prop
 |nil {H:Hp}:tV H [] [] H
 |snoc {H H1:Hp} {ps:List Addr} {vs:List<|V×V} {p:Addr} {v:V×V}:tV H ps vs H1->H1 p=none->tV H (ps++[p]) (vs++[v]) (upd H1 p<|.tup [v.1,v.2])
theorem acs{a b:Addr}{o u:HO}(h:a≠b):upd (upd H a o) b u=upd (upd H b u) a o:=by
 funext c;by_cases I:c=a
 ·subst I;rw[ql h,zh,zh]
 ·by_cases J:c=b
  ·subst J;rw[zh,ql I,zh]
  ·rw[ql J,ql I,ql I,ql J]
theorem Sq.new{K:Ah}{a p:Addr}{o:HO}(h:Sq t K H a xs)(I:H p=none):Sq t K (upd H p o) a xs:=by
 have rd:∀u,Rd H a u->Rd (upd H p o) a u:=λu r=>by
  rcases r with r|⟨c,r⟩
  ·exact .inl (by rw[ql<|zn r I];exact r)
  ·exact .inr ⟨c,by rw[ql<|zn r I];exact r⟩
 cases t with|false=>exact h.imp (rd _) id|true=>exact h.imp (rd _) id
section
variable {σ:L2.St}{z TI TO S:Addr}{ys:List V}{R:Result->Shared->Prop}{res:Value}
theorem afs(hh:A.handled=none)(D:ZB z TI TO i1 i2 l1 l2<|S+1)(hS:S∉[z,TI,TO,i1,i2])(hR:∀s' G ps,qw X pins σ (upd G S<|.lst<|ps.map V.ref) s'->tV H ps (xs.zip ys) G->G S=none->R (.ok<|.ret res) s'):
 ∀(k i:Nat) (s:Shared) (G:Hp) (ps:List Addr),min xs.length ys.length-i=k->i<=min xs.length ys.length->qw X pins σ (upd G S<|.lst<|ps.map V.ref) s->(∀b∈[z,TI,TO,i1,i2],kB X pins (upd G S<|.lst<|ps.map V.ref) b)->ZS t1 t2 z TI TO i1 i2 l1 l2 (S+1) i s.heap->tV H ps ((xs.zip ys).take i) G->G S=none->Sq t1 X.K G l1 xs->Sq t2 X.K G l2 ys->ps.length=i->
  codeAny (model X.prog X.w) A (.builtin "list.extend.loop" ⟨[.ref S,.ref z,res],[]⟩) R s:=by
 have zl:(xs.zip ys).length=min xs.length ys.length:=Dk;intro k
 induction k with
 |zero=>
  intro i s G ps hk hi I hf st nt j J U hl;have hi:min xs.length ys.length<=i:=by lia
  obtain⟨a2,p,p1,_⟩:=I.seq<|J.new j;obtain⟨a3,t,p2,_⟩:=I.seq<|U.new j;have e1:=p.length;have e2:=t.length;refine codeAny_builtin F.entry_extend_loop ?_;rw[Ev EQ _];rw[AV (by lia)] at nt;refine Aa (m:=pyNext<|.ref z) (ahc hh D st p1 p2 (by rcases Nat.le_total xs.length ys.length with h|h;exact .inl (by simp;lia);exact .inr (by simp;lia)) λh' kk=>Ag<|hR _ G ps (I.turnedL (t':=s.toks) (fp:=[z,TI,TO,i1,i2]) kk hf) nt j)
 |succ k ih=>
  intro i s G ps hk hi I hf st nt j J U hl;obtain⟨a2,p,p1,z1⟩:=I.seq<|J.new j;obtain⟨a3,t,p2,_⟩:=I.seq<|U.new j;have hx:xs[i]?=some (xs[i]'(by lia)):=Ak (by lia);have hy:ys[i]?=some (ys[i]'(by lia)):=Ak (by lia);have ez:(xs.zip ys).take (i+1)=(xs.zip ys).take i++[(xs[i]'(by lia),ys[i]'(by lia))]:=by rw[Bf,(Eb (z:=(xs[i]'(by lia),ys[i]'(by lia)))).mpr ⟨hx,hy⟩];rfl
  generalize xs[i]'(by lia)=x at hx ez;generalize ys[i]'(by lia)=y at hy ez;obtain⟨ux,a4,a5⟩:=p.get hx;obtain⟨uy,ac,al⟩:=t.get hy;obtain⟨_,_,_,_,_,eS⟩:=I.lstM (l:=S) zh;have lS:S<s.heap.objs.size:=r4 eS;refine codeAny_builtin F.entry_extend_loop ?_;rw[Ev EQ _];refine Aa (m:=pyNext<|.ref z)<|ahi D lS st p1 p2 (x:=ux) (y:=uy) (by simpa using a4) (by simpa using ac) λh' au tp kk=>?_;have I1:=I.turnedN (t':=s.toks) (fp:=[z,TI,TO,i1,i2]) (h':=h') (a:=s.heap.objs.size) (o:=.tup [x,y]) kk hf (Am _) ⟨by show 2<=sizeLine;decide,[ux,uy],.cons a5<|.cons al .nil,⟨_,tp,rfl,_,rfl⟩⟩;have C:S≠s.heap.objs.size:=A4 lS;have gP:G s.heap.objs.size=none:=by have:=I.hok.fresh<|Am s.heap.objs.size;rw[ql<|AJ C] at this;exact this
  generalize s.heap.objs.size=P at I1 C gP lS tp ⊢;have T:upd (upd G S<|.lst<|ps.map V.ref) P (.tup [x,y]) S=some (.lst<|ps.map V.ref):=by rw[ql C,zh]
  obtain⟨_,a1,n,r,hn,e⟩:=I1.lstM T;rw[Ae,hl] at hn;have I2:=I1.lset (its':=a1++[.ref P]) (f:=(·.push (.ref P))) (ys:=(ps++[P]).map V.ref) (t':=s.toks) T e (by simp) (by rw[AH];exact r.append<|.cons rfl .nil) (by rw[Ae,Ac,CP];lia);rw[acs C,xA] at I2;have li:a1.length=i:=by lia
  refine Aa (m:=updateSeq S (·.push (.ref P))) (wpAny_updateSeq (s:={ s with heap:=h' }) e rfl (Ag ⟨plainId_quiet EQ _,ih (i+1) _ (upd G P<|.tup [x,y]) (ps++[P]) (by lia) (by lia) I2 (λb g=>?_) (au.keep λb o g q=>?_) (by rw[ez];exact nt.snoc gP) (by rw[ql C];exact j) (J.new gP) (U.new gP) (by rw[Ac,hl];rfl)⟩)
   (by rw[Au];lia) (by rw[Bp,Au];lia))
  ·obtain⟨f0,f1⟩:=hf b g;have bl:=D.lt b g;have bS:b≠S:=λz=>hS<|z▸g;refine⟨?_,f1⟩;rw[ql bS,ql (by lia)];rw[ql bS] at f0;exact f0
  ·have bS:S≠b:=by
    rcases g with g|g
    ·exactλz=>hS<|z▸g
    ·lia
   exact(xT _ _ bS).trans q
theorem yn:typeLookup (.type "zip") "__len__" = pure none:=by rw[typeLookup_type,builtinLookup_eq_fast];kernel_rfl
theorem ur:typeLookup (.type "zip") "__length_hint__" = pure none:=by rw[typeLookup_type,builtinLookup_eq_fast];kernel_rfl
theorem acq{r:Addr}{Q:Bool->Shared->Prop}(J:s.TypeIs (.ref r) "zip")(h:Q true s):wpAny (model X.prog X.w) A (Builtin.List.listLengthHint<|.ref r) Q E s:=by unfold Builtin.List.listLengthHint;refine Aa<|wpAny_specialOf J yn ?_;refine wpAny_ite_split (λI=>absurd I (by decide)) λ_=>?_;refine wpAny_ite_split (λI=>absurd I (by decide)) λ_=>?_;refine Aa<|wpAny_specialOf J ur<|Ag h
theorem qU(hh:A.handled=none)(I:qw X pins σ H s)(D:ZB z TI TO i1 i2 l1 l2 s.heap.objs.size)(hz:IsZip s.heap z TI TO .none)(hf:∀b∈[z,TI,TO,i1,i2],kB X pins H b)(st:ZS t1 t2 z TI TO i1 i2 l1 l2 (s.heap.objs.size+1) 0 s.heap)(t:Sq t1 X.K H l1 xs)(C:Sq t2 X.K H l2 ys)
 (q:∀s' G ps,qw X pins σ (upd G s.heap.objs.size<|.lst<|ps.map V.ref) s'->tV H ps (xs.zip ys) G->G s.heap.objs.size=none->Q (.ref s.heap.objs.size) s'):wpAny (model X.prog X.w) A (call (.type "list") [.ref z]) Q E s:=by
 have hn:=I.hok.fresh<|Am s.heap.objs.size;have I0:=I.laid (t':=s.toks) (h':=s.heap.push { cls:=.type "list",data:=.seq #[] }) (a:=s.heap.objs.size) (o:=.lst []) (λb u e=>qy _ e) (Am _) ⟨Be _,[],0,.nil,sy _ rfl⟩;have hS:s.heap.objs.size∉[z,TI,TO,i1,i2]:=λh=>CN _<|D.lt _ h;have D':ZB z TI TO i1 i2 l1 l2 (s.heap.objs.size+1):=⟨D.ap,D.d1,D.d2,D.d3,λc hc=>B7<|D.lt c hc⟩;refine callType_codes (Q₁:=λobj U=>obj=.ref s.heap.objs.size/\U={ s with heap:=s.heap.push { cls:=.type "list",data:=.seq #[] } }) F.called_list (F.typeCall_list_1 _) F.entry_list_init (code_list_new _ ⟨rfl,rfl⟩) λobj U g=>?_;obtain⟨rfl,rfl⟩:=g;have l:(s.heap.push { cls:=.type "list",data:=.seq #[] }).get? s.heap.objs.size=some { cls:=.type "list",data:=.seq #[] }:=sy _ rfl;have st0:=st.keep (h':=s.heap.push { cls:=.type "list",data:=.seq #[] }) λb o _ e=>qy _ e;refine⟨⟨_,l,rfl⟩,F.args_list_init_2 _ _,?_⟩;have key:∀(h:Heap) (c:Nat),h.get? s.heap.objs.size=some { cls:=.type "list",data:=.seq #[] c }->(∀b o,b≠s.heap.objs.size->(s.heap.push { cls:=.type "list",data:=.seq #[] }).get? b=some o->h.get? b=some o)->
  codeAny (model X.prog X.w) A.in1 (.builtin "list.extend.loop" ⟨[.ref s.heap.objs.size,.ref z,.none],[]⟩) (wants (λr j=>r=.none/\Q (.ref s.heap.objs.size) j) E) { s with heap:=h }:=λh c e k=>by
  refine afs (X:=X) (pins:=pins) (σ:=σ) (H:=H) (xs:=xs) (ys:=ys) (A:=A.in1) hh D' hS (λs' G ps I' nt gS=>⟨rfl,q s' G ps I' nt gS⟩) _ 0 _ H [] rfl (Be _) ?_ (λb J=>?_) (st0.keep λb o J e=>k b o ?_ e) .nil hn t C rfl
  ·exact I.laid (t':=s.toks) (h':=h) (a:=s.heap.objs.size) (o:=.lst []) (λb u e=>k b u (A4<|r4 e)<|qy _ e) (Am _) ⟨Be _,[],c,.nil,e⟩
  ·obtain⟨f0,f1⟩:=hf b J;exact⟨by rw[ql<|A4<|D.lt b J];exact f0,f1⟩
  ·rcases J with J|J
   ·exact A4<|D.lt b J
   ·exact C2 J
 show wpAny _ _ (Builtin.List.listItems (.ref s.heap.objs.size) >>= λold=>Builtin.List.listUpdate (.ref s.heap.objs.size) (λ_=>#[]) >>= λ_=>letGo old.toList.reverse >>= λ_=>Builtin.List.listExtendWith (.ref s.heap.objs.size) (.ref z) .none) _ _ _;refine Aa ?_;unfold Builtin.List.listItems;refine Aa<|Bl l rfl<|Ag ?_;refine Aa (m:=updateSeq s.heap.objs.size λ_=>#[])<|wpAny_updateSeq l rfl ?_;have e2:=ya (Obj.mapSeq λ_=>(#[]:Array Value)) l rfl;have p:∀b o,b≠s.heap.objs.size->(s.heap.push { cls:=.type "list",data:=.seq #[] }).get? b=some o->((s.heap.push { cls:=.type "list",data:=.seq #[] }).update s.heap.objs.size<|Obj.mapSeq λ_=>(#[]:Array Value)).get? b=some o:=λb o J e=>(xT _ _<|AJ J).trans e;generalize (s.heap.push { cls:=.type "list",data:=.seq #[] }).update s.heap.objs.size (Obj.mapSeq λ_=>(#[]:Array Value))=g2 at e2 p ⊢;refine Aa<|wpAny_letGo ?_;unfold Builtin.List.listExtendWith;have a1:=st0.keep (h':=g2) λb o J e=>p b o (by rcases J with J|J;exact A4<|D.lt b J;exact C2 J) e;have T2:=a1.type (s:={ s with heap:=g2 });refine Aa<|wpAny_typeOf (T:="zip") T2 ?_;have sr:Builtin.List.listSameRef (.ref s.heap.objs.size) (.ref z)=false:=by have:s.heap.objs.size≠z:=λe=>hS (by rw[e];simp);simp[Builtin.List.listSameRef,this]
 rw[Az (by rw[sr];decide)];refine Aa<|wpAny_pyIter_zip (s:={ s with heap:=g2 }) (p _ _ (A4<|D.lt z (by simp))<|qy _ hz) ?_;refine Aa<|A1<|acq T2 ?_;rw[AA (by decide)];refine Aa<|BA<|Aa ?_;show wpAny _ _ (updateSeq s.heap.objs.size (·.push .none) >>= λ_=>updateSeq s.heap.objs.size (·.pop)) _ _ _;refine Aa<|wpAny_updateSeq (s:={ s with heap:=g2 }) e2 rfl ?_;have e3:=ya (Obj.mapSeq (·.push Value.none)) e2 rfl;refine wpAny_updateSeq (hz:=by seq_fits) e3 rfl ?_;have e4:=ya (Obj.mapSeq (·.pop)) e3 rfl;exact Ag ⟨plainId_quiet EQ _,key _ _ e4 λb o J e=>(xT _ _<|AJ J).trans<|(xT _ _<|AJ J).trans<|p b o J e⟩
end
def tLZ(X:Cx)(ta:TA):TE:=λσ H Q=>ta σ H λvs H1=>∃t1 t2 a b xs ys,vs=[.ref a,.ref b]/\Sq t1 X.K H1 a xs/\Sq t2 X.K H1 b ys/\∀S G ps,tV H1 ps (xs.zip ys) G->G S=none->Q (.ref S) (upd G S<|.lst<|ps.map V.ref)
theorem wF{a b:Expr}{ta:TA}{ps:Pos}(hc:X.calm=true)(t:Gl X "list")(C:X.mg "list"=none)(T:Gl X "zip")(a1:X.mg "zip"=none)(ha:PA X [a,b] ta)(hs:starEach [a,b] X.env=[(false,eval a X.env),(false,eval b X.env)]:=by rfl)
 (j:starEach [b] X.env=[(false,eval b X.env)]:=by rfl):PE X (.Call (.Name "list" p1) [.Call (.Name "zip" p2) [a,b] [] ps] [] pos) (tLZ X ta):=by
 intro J s σ H Q I h;refine wpAny_Call_Name_kw<|fA I t C aC ?_;refine callWith_type1 ?_ rfl rfl;show wpAny _ _ (spliced<|(false,eval (.Call (.Name "zip" p2) [a,b] [] ps) X.env)::[]) _ _ s;refine DT ?_;refine wpAny_Call_Name_kw<|fA I T a1 al8 ?_;refine callWith_type1 (aH (ha ps J s σ H _ I h) λus U ψ=>?_) (by rw[hs,j]) (by rw[j];rfl);obtain⟨vs,H1,g,r1,q1⟩:=ψ;obtain⟨t1,t2,l1,l2,xs,ys,e,hx,hy,q⟩:=q1;subst e;obtain⟨u1,u2,rfl,a2,a3⟩:=zw.two r1;cases a2;cases a3;obtain⟨au,_,w1,_⟩:=g.seq hx;obtain⟨av,_,w2,_⟩:=g.seq hy;have a4:l1<U.heap.objs.size:=by
  cases t1 with
  |false=>obtain⟨o,e,_⟩:=w1;exact r4 e
  |true=>obtain⟨o,e,_⟩:=w1;exact r4 e
 have a5:l2<U.heap.objs.size:=by
  cases t2 with
  |false=>obtain⟨o,e,_⟩:=w2;exact r4 e
  |true=>obtain⟨o,e,_⟩:=w2;exact r4 e
 refine yW w1 w2 λg1 gz gI gO l p gk=>Fa ?_;have I2:qw X J σ H1 { U with heap:=g1 }:=g.kept (t':=U.toks) gk;refine qU (s:={ U with heap:=g1 }) (g.ok.hd hc) I2 ⟨?_,?_,?_,?_,λc hc=>?_⟩ gz (λc hc=>?_) ⟨.inl ⟨gz,_,_,gO⟩,gI,l,p⟩ hx hy λs' G ps I' nt gS=>⟨.ref _,_,I',rfl,q _ G ps nt gS⟩
 ·have ac:@LT.lt Nat instLTNat l1 U.heap.objs.size:=a4;have al:@LT.lt Nat instLTNat l2 U.heap.objs.size:=a5;constructor<;>exact u6 (by lia)
 ·exact u6 (by lia)
 ·exact u6 (by lia)
 ·exact u6 (by lia)
 ·simp only[An,BK,or_false] at hc;rcases hc with rfl|rfl|rfl|rfl|rfl
  ·exact r4 gz
  ·exact r4 gI
  ·exact r4 gO
  ·obtain⟨o,e,_⟩:=l.ob;exact r4 e
  ·obtain⟨o,e,_⟩:=p.ob;exact r4 e
 ·have r:U.heap.objs.size<=c:=by simp only[An,BK,or_false] at hc;rcases hc with rfl|rfl|rfl|rfl|rfl<;>exact leN (by simp +arith only)
  exact g.fpOk r<|g.hok.fresh r
end L2
namespace L3
open PySem L2
theorem ahs{H1:Hp}{ps:List Addr}{vs:List<|V×V}(n:tV H ps vs H1)(J:ja G H L):jj H H1/\ja G H1 L/\Paired (λp (v:V×V)=>H1 p=some (.tup [v.1,v.2])) ps vs:=by
 induction n with
 |nil=>exact⟨EL _,J,.nil⟩
 |snoc _ I U=>
  obtain⟨a,b,c⟩:=U;exact⟨a.trans<|EM I,b.skip I,Words.Paired.app (ER c λq v e=>(ql<|zn e I).trans e)<|.cons zh .nil⟩
theorem sd{G:G3}{H H1:Hp}(t:jj H H1):∀{xs ys:List Y} {us vs:List V} {ps:List Addr},v3 G H xs us->v3 G H ys vs->Paired (λp (v:V×V)=>H1 p=some (.tup [v.1,v.2])) ps (us.zip vs)->v3 G H1 (akw xs ys) (ps.map V.ref)
 |[],ys,us,vs,ps,h1,h2,h3=>by cases h1;cases h3;rfl
 |x::xs,[],us,vs,ps,h1,h2,h3=>by cases h2;rw[List.zip_nil_right] at h3;cases h3;rfl
 |x::xs,y::ys,us,vs,ps,ψ,χ,h3=>by obtain⟨u,I,J,U,h1⟩:=ψ;obtain⟨v,g,j,l,h2⟩:=χ;subst J j;cases h3 with|cons a b=>exact⟨_,_,rfl,⟨_,_,rfl,dU.of a,⟨_,_,rfl,U.ts t,_,_,rfl,l.ts t,rfl⟩⟩,sd t h1 h2 b⟩
def uc(ta:f9)(τ:jn)(L:qr)(Q:YK):Prop:=ta τ L λvs L1=>match vs with
 |[x,y]=>mD L1 x λxs=>mD L1 y λys=>∀p,L1 p=none->Q (.ref p) (qj L1 p<|.lst<|akw xs ys)
 |_=>False
theorem ae4{a b:Expr}{ta:f9}{ps:Pos}(hc:X.calm=true)(U:Gl X "list")(g:X.mg "list"=none)(j:Gl X "zip")(l:X.mg "zip"=none)(ha:QA X [a,b] ta)(hs:starEach [a,b] X.env=[(false,eval a X.env),(false,eval b X.env)]:=by rfl)
 (o:starEach [b] X.env=[(false,eval b X.env)]:=by rfl):QE X (.Call (.Name "list" p1) [.Call (.Name "zip" p2) [a,b] [] ps] [] pos) (uc ta):=EN (wF hc U g j l ha hs o) λσ H Q τ L Q3 rs rl z k=>
 ⟨τ,L,_,rs,rl,z,λus H1 ys L1 t1 I p r=>by
  split at r
  ·rename_i x y;obtain⟨xs,ex,z2⟩:=bK r;obtain⟨zs,ez,z3⟩:=bK z2;obtain⟨u,v,rfl,r1,r2⟩:=p.inv2;obtain⟨b1,q1,t,rfl,s1,w1⟩:=adl I r1 ex;obtain⟨b2,q2,C,rfl,s2,w2⟩:=adl I r2 ez;refine⟨b1,b2,q1,q2,t,C,rfl,s1,s2,λS G ps nt T=>?_⟩;obtain⟨t2,J,pr⟩:=ahs nt I;exact k _ _ _ _ ((t1.trans t2).trans<|EM T) (J.newL T<|sd t2 w1 w2 pr) (by rfl) (z3 S<|J.none T)
  ·exact r.elim⟩
end L3
namespace L3
open PySem L2
open PySem L2 Words
theorem Paired.len{α β:Type}{F:α->β->Prop}:∀{xs:List α} {ys:List β},Paired F xs ys->xs.length=ys.length
 |_,_,.nil=>rfl
 |_,_,.cons _ r=>BG (· + 1)<|Paired.len r
def ae8:Y->Bool
 |.non=>true
 |.int _=>true
 |.str _=>true
 |_=>false
def gc(L:qr):Nat->Y->Y->Prop
 |0,_,_=>False
 |n+1,x,y=>(ae8 x=true/\y=x)\/(∃xs ys,x=.tup xs/\y=.tup ys/\ys.length<=1000/\Paired (gc L n) xs ys)\/(∃a b xs ys,x=.ref a/\y=.ref b/\L a=some (.lst xs)/\L b=some (.lst ys)/\ys.length<=1000/\Paired (gc L n) xs ys)
theorem gc.flat{x:Y}(h:ae8 x=true):gc L (n+1) x x:=.inl ⟨h,rfl⟩
theorem gc.tup{xs:List Y}(h:Paired (gc L n) xs ys)(l:Nat.ble ys.length 1000=true:=by rfl):gc L (n+1) (.tup xs) (.tup ys):=.inr<|.inl ⟨xs,ys,rfl,rfl,B4 l,h⟩
theorem qG{L:qr}{n:Nat}:∀wd:List (Option Kn),Paired (gc L<|n+2) (vh wd)<|vh wd
 |[]=>.nil
 |none::r=>.cons (.flat rfl)<|qG r
 |some (.lf t m)::r=>.cons (.tup<|.cons (.flat rfl)<|.cons (.flat rfl) .nil)<|qG r
 |some (.nd e i j)::r=>.cons (.tup<|.cons (.flat rfl)<|.cons (.flat rfl)<|.cons (.flat rfl) .nil)<|qG r
def aO(n:Nat):zp:=λys L Q=>∃x y,ys=[x,y]/\gc L n x y/\Q (.bl true) L
theorem yt:∀ys L Q,¬aO 0 ys L Q:=λys L Q ψ=>(by obtain⟨x,y,_,h,_⟩:=ψ;exact h)
noncomputable def sL(I:zp):RR "_law_moved" dI 1 ["_law_rule","_law_at"] ["_law_rule","_law_at","_law_places","_law_arms"] I (λ_=>True):=⟨_,λV B c _ _ J _ _ _ _ _ _ g hN U=>(qa (zq (E_ U (J_ 0) jv) (qf<|za<|zd<|cT jv (jc uD rfl B.bn gB<|xr (dG U (qv 1) (J_ 0) λ_ _=>rfl)<|dG U (qv 1) (J_ 0) λ_ _=>rfl)<|jc lZ rfl B.bj dD<|xr (dG U (qv 1) (J_ 0) λ_ _=>rfl)<|dG U (qv 1) (J_ 0) λ_ _=>rfl) z0)<|qa (wb ["_law_x"] (i:=2) hN rfl (Or.inl rfl) (EY (by rfl)) rfl (rO<|aE (aau _ _ _) (qv 0) (aP qd) bw) (qE 4) (λ_ _ _ _=>cD<|w6<|wf .int rfl B.bf rfl B.b_int vR<|qv 4) λ_ _ _ _=>(dG U (qv 1) (qv 4) λ_ _=>rfl))<|qa (wb ["_law_x"] (i:=3) hN rfl (Or.inl rfl) (EY (by rfl)) rfl (rO<|aE (aau _ _ _) (qv 0) (aP qd) bw) (qE 4) (λ_ _ _ _=>cD<|w6<|wf .tuple rfl B.bf rfl B.b_tuple fN<|qv 4) λ_ _ _ _=>(C_ J g<|xr (qv 4)<|qv 1))<|qf<|za<|aW afi rfl B.b_tuple fN<|xj<|qk jr (qk jr (js<|xj<|J_ 0)<|qv 2)<|qv 3)⟩
noncomputable def ace(I:zp):vt:=(sL I).1
theorem aaj(n:Nat):∀ys L Q,cW (n+1) ys L Q->vo (ace<|cW n) 4 ys L Q:=by
 rintro ys L Q ⟨R,d,g,f,rfl,hd,l,hr,q⟩;have big:=bg_;by_cases U:∃a b,R=.link a b
 ·obtain⟨a,b,rfl⟩:=U;have v1:=l _ (gQ _) a<|Av ..;have v2:=l _ (gQ _) b<|Af _<|Av ..;refine vv hd<|qm v1 ?_;refine vv hd<|qm v2 ?_;refine vv hd<|qm v1 ?_;refine vv hd<|qm v2 ?_;refine x9 ?_;have e1:min (f a:Int) (f b:Int)=((min (f a) (f b):Nat):Int):=aqq _ _;have e2:max (f a:Int) (f b:Int)=((max (f a) (f b):Nat):Int):=at0 _ _;have q:Q (.tup [.str "link",.int ((min (f a) (f b):Nat):Int),.int ((max (f a) (f b):Nat):Int)]) L:=q;rw[<-e1,<-e2] at q;exact q
 have hk:kdR R ≠ "link" := by cases R with|link a b=>exact absurd ⟨a,b,rfl⟩ U|ei r A=>show(Str.ofString "either") ≠ "link";decide +kernel|bo r A B=>show(Str.ofString "both") ≠ "link";decide +kernel|cu p s A B=>show(Str.ofString "cut") ≠ "link";decide +kernel
 have T:Q (.tup<|[.str<|kdR R]++nY ((plR R).map f)++(wz R).map λB=>zm<|cO f B) L:=by cases R with|link a b=>exact absurd ⟨a,b,rfl⟩ U|ei r A=>exact q|bo r A B=>exact q|cu p s A B=>exact q
 have vp:∀x∈plR R,ko g (.inl (x:Int))=some (.int (f x:Int)):=l R<|gQ R;have va:∀B∈wz R,vj B<=n/\∀C∈eQ B,∀x∈plR C,ko g (.inl (x:Int))=some (.int (f x:Int)):=λB hB=>⟨by have:=oz hB;lia,λC hC=>l C<|ay (afg hB) hC⟩;have lp:(plR R).length<=2:=by cases R<;>simp[plR]
 have lA:(wz R).length<=2:=by cases R<;>simp[wz]
 rw[iH R];generalize plR R=P at vp T lp;generalize wz R=I at va T lA;generalize kdR R=t at hk T;clear q l U hr;have e0:eZ (Y.str t::(nY P++I.map zm)) 0=some (Y.str t):=jw (xs:=Y.str t::(nY P++I.map zm)) (j:=0) rfl;have ll:(nY P++I.map zm).length=P.length+I.length:=by rw[Ac,dE,Ae]
 walk_at "w";rw[e0];refine cN (Ay hk) ?_;refine⟨rQ _ _,?_⟩;rw[lM];refine gJ (λi J=>J=nY ((P.take i).map f)) (by rw[ll];exact big _ (by lia)) trivial rfl ?_ ?_
 ·rintro i y J hy rfl;rcases qX hy with⟨c,x,ex,rfl⟩|⟨c,B,eB,rfl⟩
  ·refine vv hd<|qm (vp x<|AC ex) ⟨_,EK _,rfl,?_⟩;rw[Bf,ex,AH,ug];rfl
  ·have e1:P.take (i+1)=P.take i:=by rw[AV (by lia),AV c]
   have z:dk (λJ L'=>L'=L/\J=nY ((P.take<|i+1).map f)) (nY<|(P.take i).map f) L:=⟨_,EK _,rfl,by rw[e1]⟩;rw[iH B];exact z
 rintro J rfl p1 h1;rw[ll,AV (by lia)];have s3:=By (o:=.lst<|nY<|P.map f) h1;have g3:qj L p1 (.lst<|nY<|P.map f) p1=some (.lst<|nY<|P.map f):=q9;refine⟨rQ _ _,?_⟩;rw[lM];generalize qj L p1 (.lst<|nY<|P.map f)=L3 at s3 g3 ⊢;refine gJ (λi J=>J=(I.take<|i-P.length).map λB=>zm<|cO f B) (by rw[ll];exact big _ (by lia)) trivial (by rw[Nat.zero_sub];rfl) ?_ ?_
 ·rintro i y J hy rfl;rcases qX hy with⟨c,x,ex,rfl⟩|⟨c,B,eB,rfl⟩
  ·exact⟨_,EK _,rfl,by rw[CQ c,CQ<|BO c]⟩
  ·obtain⟨h1,h2⟩:=va B<|AC eB;have z:cW n [zm B,.ref d] L3 λz L4=>dk (λJ L'=>L'=L3/\J=(I.take<|i+1-P.length).map λB=>zm<|cO f B) (((I.take<|i-P.length).map λB=>zm<|cO f B)++[z]) L4:=by refine⟨B,d,g,f,rfl,s3 _ _ hd,h2,h1,_,EK _,rfl,?_⟩;rw[Nat.succ_sub c,Bf,eB,AH];rfl
   rw[iH B] at z ⊢;exact z
 rintro J rfl p4 h4;rw[ll,BY,Bo];have a1:=aZ g3 h4;have s4:=s3.trans<|By (o:=.lst<|I.map λB=>zm<|cO f B) h4;have g4:=(qg (o:=.lst<|I.map λB=>zm<|cO f B) a1).trans g3;have k4:qj L3 p4 (.lst<|I.map λB=>zm<|cO f B) p4=some (.lst<|I.map λB=>zm<|cO f B):=q9;generalize qj L3 p4 (.lst<|I.map λB=>zm<|cO f B)=L4 at s4 g4 k4 ⊢;walk_at "w";rw[e0];intro p2 h2;have s2:=By (o:=.lst [Y.str t]) h2;refine⟨_,_,q9,s2 _ _ g4,?_,λp3 h3=>?_⟩
 ·rw[dE,Ae];exact BO (big _ (by show 1+P.length<=20000;lia))
 have s5:=s2.trans<|By (o:=.lst<|[Y.str t]++nY (P.map f)) h3;refine⟨_,_,q9,s5 _ _ k4,?_,λp5 h5=>?_⟩
 ·rw[Ac,dE,Ae,Ae];exact BO (big _ (by show 1+P.length+I.length<=20000;lia))
 exact qp q9<|lm ((s4.trans s5).trans<|By h5) T
noncomputable def fc:RD "_law_number" bx 0 ["_law_x"] (λ_=>True):=⟨_,λV B c _ _ _ _ _ _ _ I hN J=>(qf<|za<|wG (wf .int rfl B.bf rfl B.b_int vR<|qv 0)<|vY<|ak8<|wf .bool rfl B.bf rfl B.b_bool agz<|qv 0)⟩
noncomputable def nr:vt:=(fc).1
noncomputable def sK(I:zp)(J:zp):RR "_law_alike" dX 2 ["_law_found","_law_due_here"] ["_law_found","_law_due_here","_law_k"] J (λV=>anq V I):=⟨_,λV B c _ _ U _ _ _ _ _ _ j hN g=>(qa (zq (iT<|qv 1) (qf<|za<|am1<|qv 0) z0)<|qa (zq (w6<|wf .int rfl B.bf rfl B.b_int vR<|qv 1) (qf<|za<|wG (C_ c j<|xj<|qv 0)<|vY<|kG (yG _ _ _ g) (qv 0) (qv 1)<|ke _) z0)<|qa (zq (w6<|wf .str rfl B.bf rfl B.b_str acv<|qv 1) (qf<|za<|wG (wf .str rfl B.bf rfl B.b_str acv<|qv 0)<|vY<|kG (yG _ _ _ g) (qv 0) (qv 1)<|ke _) z0)<|qa (zq (aS<|bz (w6<|wf .tuple rfl B.bf rfl B.b_tuple fN<|qv 1)<|aR<|dF<|w6<|wf .tuple rfl B.bf rfl B.b_tuple fN<|qv 0) (qf<|za bX) z0)<|qa (zq (aS<|bz (w6<|wf .list rfl B.bf rfl B.bg aC<|qv 1)<|aR<|dF<|w6<|wf .list rfl B.bf rfl B.bg aC<|qv 0) (qf<|za bX) z0)<|qa (zq (N_ g (L_ B.ba<|qv 0)<|L_ B.ba<|qv 1) (qf<|za bX) z0)<|qa (wn vb rfl (wv rfl B.bh<|xj<|L_ B.ba<|qv 1) (G_ 2 hN)<|qf<|zq (dF<|w6<|C_ U j<|xr (I_ (qv 0)<|qv 2)<|I_ (qv 1)<|qv 2) (qf<|za bX) z0)<|qf<|za bX)⟩
noncomputable def abe(I:zp)(J:zp):vt:=(sK I J).1
noncomputable def jV(U:zp)(j:zp)(g:zp)(I:zp)(J:zp):RD "_law_deep" fF 170 ["_law_tree_here","_law_number_here","_law_knots","_law_ends","_law_p","_law_word_here","_law_rule","_law_q","_law_same"] (λV=>aox V U/\aqb V j/\ap5 V g/\aq6 V I/\apg V J):=⟨_,λV B c _ _ _ _ _ _ _ l hN o=>(qa (S_ 2 hN<|aW bF rfl B.bg aC<|xj<|J_ 0)<|qa (S_ 3 hN<|C_ c.1 l<|xj<|C_ c.2.1 l<|xj<|qv 0)<|qa (S_ 4 hN<|I_ (qv 3)<|qk jl (qv 1)<|L_ B.ba<|qv 3)<|qa (S_ 5 hN<|C_ c.2.2.1 l<|xr (qv 2)<|qv 4)<|qa (zq (j8 zR (qk jr (qk gi qd<|C_ c.2.2.2.1 l<|xj<|qv 5)<|L_ B.ba<|qv 2) qd<|ke _) (qf<|za<|qv 0) z0)<|qa (ae (C_ c.2.2.2.2 l<|xr (qv 2)<|qv 5)<|acu (n:=3) rfl<|qz (G_ 6 hN)<|qz (G_ 7 hN)<|qz (G_ 8 hN) xw)<|qa (zq (E_ o (qk jl (qk xo (qv 1) qd) qd) qd) (qf<|za<|zd<|xr (qv 2)<|zd<|vg jv<|vg (qv 4)<|cT (qv 7) (J_ 0)<|qv 6) z0)<|qf<|za<|zd<|xr (qv 2)<|zd<|vg jv<|vg (qv 7)<|cT (qv 4) (qv 6)<|J_ 0)⟩
noncomputable def tI(U:zp)(j:zp)(g:zp)(I:zp)(J:zp):vt:=(jV U j g I J).1
noncomputable def iD(J:zp)(U:zp)(g:zp)(I:zp):RD "_law_grown" dR 173 ["_law_script","_law_stir_here","_law_wide","_law_tree_here"] (λV=>aon V J/\q8_ V U/\ao5 V g/\anl V I):=⟨_,λV B c _ _ _ _ _ _ _ j hN l=>(qa (S_ 3 hN<|C_ c.1 j<|cT (qv 0) (qv 1)<|qv 2)<|xn (zq (j8 zR (qk jl (C_ c.2.1 j<|xr (qv 1) qd) qd) qd<|ke _) (qf<|S_ 3 hN<|C_ c.2.2.1 j<|xr (qv 3)<|C_ c.2.1 j<|xr (qv 1) qd) z0)<|xn (zq (E_ l (qk jl (C_ c.2.1 j<|xr (qv 1) qd) qd) qd) (qf<|S_ 3 hN<|C_ c.2.2.1 j<|xr (qv 3)<|C_ c.2.1 j<|xr (qv 1) qd) z0)<|qf<|za<|C_ c.2.2.2 j<|xr (qv 3)<|qv 1)⟩
noncomputable def rL(J:zp)(U:zp)(g:zp)(I:zp):vt:=(iD J U g I).1
def jA:zp:=λys L Q=>∃i:Int,ys=[.int i]/\Q (.bl true) L
theorem aad:∀ys L Q,jA ys L Q->vo nr 1 ys L Q:=by rintro ys L Q ⟨i,rfl,q⟩;exact x9 q
theorem aa7(n:Nat):∀ys L Q,aO (n+1) ys L Q->vo (abe jA<|aO n) 3 ys L Q:=by
 rintro ys L Q ⟨x,y,rfl,h,q⟩;rcases h with⟨f,rfl⟩|⟨I,ys,rfl,rfl,l,p⟩|⟨a,b,I,ys,rfl,rfl,h1,h2,l,p⟩
 ·cases y with
  |non=>exact x9 q
  |int i=>
   refine⟨i,rfl,x9 ?_⟩;show Q (.bl<|nb false<|decide<|i=i) L;rw[AI rfl];exact q
  |str i=>
   refine x9 ?_;show Q (.bl<|nb false<|decide<|i=i) L;rw[AI rfl];exact q
  |_=>cases f
 ·have j:=Paired.len p;walk_at "w";refine cN (b:=nb true<|decide<|(I.length:Int)=ys.length) (by rw[j,AI rfl];rfl) ?_;refine⟨⟨AY _,by lia⟩,?_⟩;rw[BE];refine kF (λi J U=>U=L/\∃c,J=[some<|.tup I,some<|.tup ys,c]) ⟨rfl,_,rfl⟩ ?_ ?_
  ·rintro i J U o ⟨rfl,c,rfl⟩;have g:I[i]?=some (I[i]'(by lia)):=Ak (by lia);have ev:ys[i]?=some ys[i]:=Ak o;have r:eZ I (0+(i:Int))=some (I[i]'(by lia)):=by rw[B6];exact jw g
   have t:eZ ys (0+(i:Int))=some ys[i]:=by rw[B6];exact jw ev
   walk_at "w";rw[r];walk_at "w";rw[t];exact⟨_,_,rfl,ET p g ev,_,EK _,rfl,_,rfl⟩
  ·rintro J U ⟨rfl,c,rfl⟩;exact x9 q
 ·have j:=Paired.len p;refine iE h2 ?_;walk_at "w";refine iE h2 ?_;walk_at "w";refine iE h2 ?_;walk_at "w";refine iE h2<|iE h1 ?_;walk_at "w";refine qb h1 (qb h2 (cN (by rw[j,AI rfl];rfl) ?_));refine qb h2 ⟨⟨AY _,by lia⟩,?_⟩;rw[BE];refine kF (λi J U=>U=L/\∃c,J=[some<|.ref a,some<|.ref b,c]) ⟨rfl,_,rfl⟩ ?_ ?_
  ·rintro i J U o ⟨rfl,c,rfl⟩;have g:I[i]?=some (I[i]'(by lia)):=Ak (by lia);have ev:ys[i]?=some ys[i]:=Ak o;have r:eZ I (0+(i:Int))=some (I[i]'(by lia)):=by rw[B6];exact jw g
   have t:eZ ys (0+(i:Int))=some ys[i]:=by rw[B6];exact jw ev
   refine qb h1<|qm r<|qb h2<|qm t ?_;exact⟨_,_,rfl,ET p g ev,_,EK _,rfl,_,rfl⟩
  ·rintro J U ⟨rfl,c,rfl⟩;exact x9 q
theorem am0(h:m<=n)(I:n<=120):∀ys L Q,ky m ys L Q->ky n ys L Q:=by rintro ys L Q ⟨a,J,w,e,U,hd,_,z⟩;exact⟨a,J,w,e,U,by lia,I,z⟩
theorem kA.nd{E:List Nat}(T:kA ks R E):(qx R).Nodup:=T.tp.nodup_iff.mpr C5
theorem kA.dep{E:List Nat}(T:kA ks R E):vj R<=96/\iB R<=96:=by have rd:=ku R;have J:=bG R;have I:=T.tp.length_eq;have:=T.len;rw[BZ] at I;exact⟨by lia,by lia⟩
theorem kA.pairs{E:List Nat}(T:kA ks R E):(zb R).Nodup/\(ze R).Nodup/\(∀p∈zb R,p.1<ks.length/\p.2<ks.length)/\∀p∈ze R,p.1<ks.length/\p.2<ks.length:=by
 have cu:=T.sr.cuts T.nd;refine⟨j9 (T.sr.lkI T.nd).nd,j9 cu.1,λp I=>?_,λp I=>?_⟩
 ·obtain⟨_,_,_,h1,h2⟩:=T.sr.links p I;exact⟨je h1,je h2⟩
 ·obtain⟨h1,h2⟩:=xu I;exact⟨T.sr.lt _ (cu.2 _ h1).2,T.sr.lt _ (cu.2 _ h2).2⟩
theorem kA.trO{E:List Nat}(T:kA ks R E):TrO ks R E/\rsK ks (qx R)=ks.map some:=⟨⟨T.ok,T.sr,T.nd,T.len⟩,agn λp I=>T.tp.mem_iff.mpr<|A3.mpr I⟩
theorem kA.open{E:List Nat}(T:kA ks R E)(I:ct.Perm<|ze R)(x:Nat):x∈ah (ks.map some) (aU (ks.map some) ct) (ks.map some).length↔x∈E:=by
 obtain⟨TO,e⟩:=T.trO;rw[TO.ends x,e];unfold ah jJ iI aU;rw[AL,A3,Ae,A6,CU,decide_eq_false_iff_not,Aj,(vn I).mem_iff,T.tp.mem_iff,A3];constructor
 ·rintro⟨a,b,c⟩;exact⟨a,λz=>c<|.inl z,λz=>c<|.inr z⟩
 ·rintro⟨a,b,c⟩;refine⟨a,?_,λz=>z.elim b c⟩;rw[Aq,Ak a];rfl
theorem kA.cut{A:Ru}{E:List Nat}(T:kA ks R E){tp sp:Nat}{w:Wd}(j:p∈E)(hw:dC ks p w)(M:Mir ks w ms A tp sp)(C:ks.length+ms.length<=96):(∃U,kA (ks++ms) (.cu p tp R A) U)/\∃U,kA (ks++ms) (.cu tp p A R) U:=by
 have l:=M.sr.nod;have hs:sp≠tp:=λe=>by rw[e] at l;simp at l
 have ls:=(M.tm sp).mp<|M.sr.sub sp (by simp);have lE:∀x∈E,x<ks.length:=λx I=>T.sr.lt x<|T.sr.sub x I;have o:(E.filter (λx=>decide<|x≠p)++[sp]).Nodup:=Ar.mpr ⟨T.sr.nod.filter _,by simp,λx I y g e=>by rw[Al.mp g] at e;have:=lE x (AL.mp I).1;lia⟩
 have r:∀x,x∈E.filter (λx=>decide<|x≠p)++[sp]↔(x∈E/\x≠p)\/(x∈[tp,sp]/\x≠tp):=λx=>by
  rw[Aj,AL,decide_eq_true_iff,Al];constructor
  ·rintro(h|rfl)
   ·exact .inl h
   ·exact .inr ⟨by simp,hs⟩
  ·rintro(h|⟨h,n⟩)
   ·exact .inl h
   ·rcases An.mp h with h|h
    ·exact(n h).elim
    ·exact .inr<|Al.mp h
 have t:∀x,x∈qx R↔x<ks.length:=λx=>by rw[T.tp.mem_iff,A3]
 have len:(ks++ms).length<=96:=by rw[Ac];exact C
 have tn:(qx R++qx A).Nodup:=Ar.mpr ⟨T.nd,M.nd,λx I y g e=>by have:=(t x).mp I;have:=(M.tm y).mp g;lia⟩
 have J:(qx R++qx A).Perm (List.range (ks++ms).length):=(AZ tn C5).mpr λx=>by rw[Aj,t,M.tm,A3,Ac];lia
 refine⟨⟨_,M.ok,.cu (T.sr.more ms) M.sr j (by simp) (hw.more ms) M.wt r o,J,len⟩,_,M.ok,.cu (w:=w.turn) M.sr (T.sr.more ms) (by simp) j M.wt (by rw[iK];exact hw.more ms) (λx=>(r x).trans Or.comm) o,Bd.trans J,len⟩
theorem Wd.dep_size:∀w:Wd,w.depth<=w.size
 |.leaf _ _=>Am _
 |.node _ l r=>by have:=Wd.dep_size l;have:=Wd.dep_size r;show max l.depth r.depth+1<=1+l.size+r.size;lia
def mL:zp:=λys L Q=>∃a,∃ks:List Kn,∃R:Ru,∃E:List Nat,∃num:Int,ys=[.tup [.ref a,zm R],.int num]/\L a=some (.lst<|ju ks)/\kA ks R E/\∀J I R' U L',qh L L'->L' J=some (.lst<|ju I)->kA I R' U->Q (.tup [.ref J,zm R']) L'
theorem abq:∀ys L Q,mL ys L Q->vo (tI qH kR (wg 120) (az 120)<|ky 48) 9 ys L Q:=by
 rintro ys L Q ⟨a,I,R,E,num,rfl,ha,T,q⟩;have hz:=T.len;obtain⟨d1,d2⟩:=T.dep;obtain⟨n1,n2,b1,b2⟩:=T.pairs;refine qb ha λJ g=>?_;have j:=By (o:=.lst<|ju I) g;have g1:qj L J (.lst<|ju I) J=some (.lst<|ju I):=q9;generalize qj L J (.lst<|ju I)=L1 at j g1 ⊢;refine⟨a,ju I,R,rfl,j _ _ ha,by lia,by lia,n1,n2,λp U=>by have:=b1 p U;lia,λp U=>by have:=b2 p U;lia,λa' l' c' lk ct L2 s2 _ _ _ _ _ _ g2 _ g3 _ _ pc _=>?_⟩;refine⟨a',l',c',I.map some,ct,rfl,by rw[hJ];exact g2,g3,by rw[Ae];lia,by rw[pc.length_eq];have:=km R;lia,λp3 a2=>?_⟩;have op:=T.open pc;generalize ah (I.map some) (aU (I.map some) ct) (I.map some).length=F at op ⊢;have nF:0<F.length:=by obtain⟨x,hx⟩:=DG<|T.sr.ends T.ok;exact Eu<|(op x).mpr hx
 have l:=s2.trans<|By (o:=.lst<|nY F) a2;have g4:qj L2 p3 (.lst<|nY F) p3=some (.lst<|nY F):=q9;generalize qj L2 p3 (.lst<|nY F)=L3 at l g4 ⊢;obtain⟨p,mp,ep⟩:∃r,r∈F/\eZ (nY F) (num % ((nY F).length:Int))=some (.int ((r:Nat):Int)):=gY nF num;refine qb g4 ⟨by rw[dE];exact Int.ofNat_lt.mpr nF,qb g4<|qm ep ?_⟩;have U:=(op p).mp mp;have lp:=T.sr.lt p<|T.sr.sub p U;obtain⟨w,hw,a3,t⟩:=fw T.ok (p+1) p (by exact B5 _) lp;have k3:=l _ _ g1;refine⟨J,ju I,p,w,rfl,k3,hw,by lia,?_⟩;refine⟨w,rfl,by lia,.inl ⟨by decide,by decide⟩,qb k3 ?_⟩;have C:(ju I).length=I.length:=Ae ..;refine zg (λ_=>x9<|q a I R E L3 (j.trans l) (l _ _<|j _ _ ha) T) λcz=>?_;have cz:¬(2*(w.size:Int)+((ju I).length:Int) > 96):=cz;rw[C] at cz;have ds:=Wd.dep_size w;refine⟨J,I,w,rfl,k3,by lia,by decide,t,T.ok,by lia,λms A tp sp p5 a1 M=>?_⟩;have ml:=M.len;obtain⟨⟨E1,T1⟩,E2,T2⟩:=T.cut U hw M (by lia);have n5:J≠p5:=aZ k3 a1;have nk:L J=none:=g;have s5:qh L (qj (qj L3 J<|.lst<|ju<|I++ms) p5<|.lst [zm A,.int ((tp:Nat):Int),.int ((sp:Nat):Int)]):=((j.trans l).upd nk).trans (By (by rw[qg<|AJ n5];exact a1));have g5:qj (qj L3 J<|.lst<|ju<|I++ms) p5 (.lst [zm A,.int ((tp:Nat):Int),.int ((sp:Nat):Int)]) J=some (.lst<|ju<|I++ms):=(qg n5).trans q9;refine qp q9 ?_;generalize qj (qj L3 J<|.lst<|ju<|I++ms) p5 (.lst [zm A,.int ((tp:Nat):Int),.int ((sp:Nat):Int)])=L5 at s5 g5 ⊢;refine⟨⟨by decide,by decide⟩,(by decide:(0:Int)<2),zg (λ_=>?_) λ_=>?_⟩
 ·exact x9<|q J _ (.cu p tp R A) E1 L5 s5 g5 T1
 ·exact x9<|q J _ (.cu tp p A R) E2 L5 s5 g5 T2
def nS(Pt:Addr):zp:=λys L Q=>∃I:List Int,∃s:Int,∃w:Nat,∃wi:Int,ys=[.sq<|I.map Y.int,.int s,.int wi]/\wi=(w:Int)/\I.length<=63/\w<=96/\L Pt=some (.tb lamQ)/\∀ks R E wd f a L',qh L L'->L' a=some (.lst<|vh wd)->kA ks R E->yc f (ks.map some) wd->Q (.tup [.ref a,zm<|cO f R]) L'
theorem aem :∀ys L Q,nS Pt ys L Q->vo (rL pX dW mL<|qY Pt) 4 ys L Q:=by
 rintro ys L Q ⟨j,s,w,wi,rfl,rfl,hn,hw,hP,q⟩;refine⟨j,s,w,_,rfl,rfl,hn,hw,λka I R E L1 s1 _ g1 T=>?_⟩;refine⟨λg J=>∃a I R E,g=[some<|.sq<|j.map Y.int,some<|.int s,some<|.int (w:Int),some<|.tup [.ref a,zm R]]/\qh L J/\J a=some (.lst<|ju I)/\kA I R E,?_,?_⟩
 ·refine⟨s,24680,rfl,by decide,by decide,λv _ _=>⟨(by decide:(0:Int)<8),zg (λ_=>?_) λ_=>⟨ka,I,R,E,rfl,s1,g1,T⟩⟩⟩;exact⟨s,1234577,rfl,by decide,by decide,λv _ _=>⟨ka,I,R,E,v,rfl,g1,T,λl U o p J r t C=>⟨l,U,o,p,rfl,s1.trans r,t,C⟩⟩⟩
 rintro g L2 ⟨a,I,R,E,rfl,s2,g2,T⟩;refine⟨λg J=>∃a I R E,g=[some<|.sq<|j.map Y.int,some<|.int s,some<|.int (w:Int),some<|.tup [.ref a,zm R]]/\qh L J/\J a=some (.lst<|ju I)/\kA I R E,?_,?_⟩
 ·refine⟨s,55667,rfl,by decide,by decide,λv _ _=>⟨(by decide:(0:Int)<3),zg (λ_=>?_) λ_=>⟨a,I,R,E,rfl,s2,g2,T⟩⟩⟩;exact⟨s,7654321,rfl,by decide,by decide,λv _ _=>⟨a,I,R,E,v,rfl,g2,T,λl U o p J r t C=>⟨l,U,o,p,rfl,s2.trans r,t,C⟩⟩⟩
 rintro g L3 ⟨a,I,R,E,rfl,s3,g3,T⟩;exact⟨a,I,R,E,s,rfl,g3,T,s3 _ _ hP,λw f wd hw rn=>x9<|q I R E wd f w _ (s3.trans<|By hw) q9 T rn⟩
theorem bM(f:Nat->Nat):∀R:Ru,zb (cO f R)=(zb R).map (mmP f)
 |.link _ _=>rfl
 |.ei _ A=>bM f A
 |.bo _ A B=>by show zb (cO f A)++zb (cO f B)=(zb A++zb B).map _;rw[bM f A,bM f B,AH]
 |.cu _ _ A B=>by show zb (cO f A)++zb (cO f B)=(zb A++zb B).map _;rw[bM f A,bM f B,AH]
theorem dY(f:Nat->Nat):∀R:Ru,ze (cO f R)=(ze R).map (ppP f)
 |.link _ _=>rfl
 |.ei _ A=>dY f A
 |.bo _ A B=>by show ze (cO f A)++ze (cO f B)=(ze A++ze B).map _;rw[dY f A,dY f B,AH]
 |.cu p q A B=>by show(f p,f q)::(ze (cO f A)++ze (cO f B))=((p,q)::(ze A++ze B)).map _;rw[dY f A,dY f B,AF,AH];rfl
structure fv(wd:List<|Option Kn)(ct:List<|Nat×Nat):Prop where
 pu:oo wd
 cw:∀c∈ct,∃w,KW (vh wd) c.1 w/\KW (vh wd) c.2 w.turn
 ctN:(plcs ct).Nodup
 ctP:∀x∈plcs ct,x∉aK wd
 ctS:ct.Pairwise aa
 wl:wd.length<=241
theorem fv.lt(I:fv wd ct){c:Nat×Nat}(hc:c∈ct):c.1<wd.length/\c.2<wd.length:=by obtain⟨w,h1,h2⟩:=I.cw c hc;obtain⟨_,J⟩:=h1.ex;obtain⟨_,U⟩:=h2.ex;exact⟨je J,je U⟩
theorem fv.len(I:fv wd ct):ct.length<=120:=by
 have:=wq wd.length _ I.ctN λx J=>by
  obtain⟨c,U,e⟩:=aX J;have:=I.lt U;rcases e with rfl|rfl
  ·exact this.1
  ·exact this.2
 rw[cg] at this;have:=I.wl;lia
theorem KW.leafI :∀{w:Wd} {p:Nat},KW (vh wd) p w->∃(q:Nat) (t:Bool) (n:Str),wd[q]?=some (some<|.lf t n)
 |.leaf t n,p,h=>⟨p,t,n,h.inv_lf⟩
 |.node e l r,p,h=>by obtain⟨i,j,_,I,_⟩:=h.inv_nd;exact I.leafI
theorem kA.cutI{E:List Nat}{f:Nat->Nat}(T:kA ks R E)(U:yc f (ks.map some) wd)(pl:lk.Perm<|zb<|cO f R)(a2:lk.Pairwise aa)(pc:ct.Perm<|ze<|cO f R)(a3:ct.Pairwise aa):fv wd ct/\iP wd lk:=by
 rw[bM] at pl;rw[dY] at pc;have nd:=T.nd;have hz:=T.len;have lt:∀x∈qx R,x<ks.length:=λx g=>A3.mp<|T.tp.mem_iff.mp g;have N:=(T.sr.part nd).nodup_iff.mpr nd;obtain⟨N1,N2,N3⟩:=Ar.mp N;have U0:oo (ks.map some):=acd N1 λp hp=>T.tp.mem_iff.mpr<|A3.mpr hp;have a1:=tT T.ok;have lo:(ks.map some).length=ks.length:=Ae ..;have ev:∀{p:Nat} {k:Kn},ks[p]?=some k->(ks.map some)[p]?=some (some k):=λh=>by rw[Aq,h];rfl
 have up:∀{p:Nat} {k:Kn},ks[p]?=some k->wd[f p]?=some (iW f<|some k):=λ{p k} h=>U.gap.at_ p (A3.mpr (by rw[lo];exact je h)) _<|ev h;have inj:∀a b,a<ks.length->b<ks.length->f a=f b->a=b:=λa b ha hb=>U.inj (by lia) (by lia);have a4:∀x,x∈plcs ct->∃y,y∈plcs (ze R)/\x=f y:=λx g=>by have:=(vn pc).mem_iff.mp g;rw[kK] at this;obtain⟨y,J,e⟩:=B0.mp this;exact⟨y,J,e.symm⟩
 have l:∀y∈plcs (ze R),y<ks.length:=λy J=>lt y<|(T.sr.part nd).mem_iff.mp<|Ai _<|Ao _ J;have r:(plcs lk).Perm ((plcs<|zb R).map f):=(vn pl).trans<|pL f _;have zW:∀y∈plcs (zb R),y<ks.length:=λy J=>lt y (AL.mp<|T.sr.leaves.mem_iff.mp J).1;have wl:=U.len;have I:=T.sr.lkI nd;refine⟨⟨U0.ren a1 U,λc hc=>?_,?_,λx g z=>?_,a3,by lia⟩,λc hc=>?_,?_,λp=>?_,a2,?_,?_,by lia⟩
 ·obtain⟨c0,C,rfl⟩:=B0.mp<|pc.mem_iff.mp hc;obtain⟨w,w1,w2⟩:=T.sr.cutw c0 C;have e:∀{p w},dC ks p w->KW (vh<|ks.map some) p w:=λh=>by rw[hJ];exact h
  exact⟨w,U.word<|e w1,U.word<|e w2⟩
 ·have e:(plcs ct).Perm ((plcs<|ze R).map f):=by rw[<-kK];exact vn pc
  exact e.nodup_iff.mpr<|cx (Ar.mp N2).1 λa ha b hb=>inj a b (l a ha)<|l b hb
 ·obtain⟨y,J,rfl⟩:=a4 x g;obtain⟨y',k,h1,h2⟩:=pJ z;obtain⟨p,o,a,_,h3,e,h4⟩:=U.part h1 h2;have la:=lu a1 h3 h4;have e1:ks[p]?=some o:=kW h3;cases inj _ _ (l y J) (by lia) e;exact N3 y (Bj.mpr ⟨p,T.tp.mem_iff.mpr<|A3.mpr<|je e1,by rw[e1];exact h4⟩) y (Ao _ J) rfl
 ·obtain⟨c0,C,rfl⟩:=B0.mp<|pl.mem_iff.mp hc;obtain⟨t,n,h1,h2⟩:=I.at_ c0 C;exact lB (up h1)<|up h2
 ·exact r.nodup_iff.mpr<|cx I.nd λa ha b hb=>inj a b (zW a ha)<|zW b hb
 ·rw[r.mem_iff,B0];constructor
  ·rintro⟨y,J,rfl⟩;have:=(AL.mp<|T.sr.leaves.mem_iff.mp J).2;cases e:ks[y]? with
   |none=>rw[e] at this;cases this
   |some k=>
    cases k with|lf t n=>exact⟨t,n,up e⟩|nd b i j=>rw[e] at this;cases this
  ·rintro⟨t,n,h⟩;obtain⟨y,J,rfl,o,eo,ek⟩:=U.inv h;cases o with
   |none=>cases ek
   |some o=>
    cases o with
    |nd b i j=>cases ek
    |lf t' n'=>
     have e1:=kW eo;exact⟨y,T.sr.leaves.mem_iff.mpr (AL.mpr ⟨T.tp.mem_iff.mpr<|A3.mpr<|je e1,by rw[e1];rfl⟩),rfl⟩
 ·have h1:=pl.length_eq;have h2:=wq _ _ I.nd zW;rw[Ae] at h1;rw[cg] at h2;lia
 ·intro z;obtain⟨x,g⟩:=DG<|T.sr.ends T.ok;have lx:=T.sr.lt x<|T.sr.sub x g;obtain⟨w,hw,_⟩:=fw T.ok (x+1) x (by exact B5 _) lx;have hw:KW (vh<|ks.map some) x w:=by rw[hJ];exact hw
  obtain⟨q,t,n,h⟩:=hw.leafI;have:=T.sr.leaves.mem_iff.mpr (AL.mpr ⟨T.tp.mem_iff.mpr<|A3.mpr<|je<|kW h,by rw[kW h];rfl⟩);have:=r.mem_iff.mpr<|B0.mpr ⟨q,this,rfl⟩;rw[z] at this;cases this
noncomputable def gj:RD "partner_of" dN 0 ["links","place","p","q"] (λ_=>True):=⟨_,λV B c _ _ _ _ _ _ _ J hN I=>(qa (wn vb rfl (wy<|qv 0) (w5 (n:=2) rfl<|qz (G_ 2 hN)<|qz (G_ 3 hN) xw)<|qa (zq (E_ I (qv 2)<|qv 1) (qf<|za<|qv 3) z0)<|qf<|zq (E_ I (qv 3)<|qv 1) (qf<|za<|qv 2) z0)<|qf<|za a6)⟩
noncomputable def rD:vt:=(gj).1
def ait(J:Addr)(E3:X3)(I:zp):vt:=(zj (jz (xh I<|bV (qc 0)<|qc 1)<|qo 3)
 (zj (jz (xh I<|bV (qc 0)<|qc 2)<|qo 4)
 (zj (wx (rdE (qc 3)<|qc 2) (uq J E3<|qi (aja<|iV (rdS "the places ")<|iV (ab4<|qc 1)<|iV (rdS " and ")<|iV (ab4<|qc 2)<|iV (rdS " of the cut are linked with one another") ail) jb) kh)
 (zj (jz (yLC 1 (dM<|qc 0) (qo 6) (tJ (yB<|x5 (aw true) (qc 1)<|qc 6)<|yB<|x5 (aw true) (qc 2)<|qc 6)<|qc 6)<|qo 5)
 (wc<|af xp<|qi (x5 dh (qc 5)<|io<|qi (kc<|qi (af oB<|bV (qc 3)<|qc 4)<|qi (af kD<|bV (qc 3)<|qc 4) jb) jb) jb)))))
theorem sk:∀k:Nat,k<242->(toString ((k:Nat):Int):Str).length<=10:=by decide +kernel
theorem t9:∀k:Nat,k<242->((k:Nat):Int).natAbs.log2<1920:=by decide +kernel
theorem qB(nd:(plcs lk).Nodup){z:Nat×Nat}(hz:z∈lk):z.1≠z.2:=by obtain⟨a,b,rfl⟩:=Co hz;rw[x4,zk] at nd;have:=(Ar.mp nd).2.1;simp at this;exact this.1.1
theorem aeb(nd:(plcs lk).Nodup){z:Nat×Nat}(hz:z∈lk){x:Nat}(o:ny p x z):p≠x:=by
 have:=qB nd hz;rcases o with rfl|rfl
 ·exact this
 ·exact AJ this
def dQ:zp:=λys L Q=>∃l,∃lk:List (Nat×Nat),∃p x:Nat,∃z:Nat×Nat,ys=[.ref l,.int (p:Int)]/\L l=some (.lst<|qu lk)/\(plcs lk).Nodup/\z∈lk/\ny p x z/\Q (.int (x:Int)) L
theorem u7:∀ys L Q,dQ ys L Q->vo rD 4 ys L Q:=by
 rintro ys L Q ⟨l,lk,p,x,z,rfl,T,nd,U,o,q⟩;have J:=aeb nd U o;refine kz T λkeep kp=>kw ⟨λi g j=>∃c2 c3,g=[some<|.ref l,some<|.int (p:Int),c2,c3]/\j=L/\∀y∈lk.take i,¬(p=y.1\/p=y.2),⟨_,_,rfl,rfl,nofun⟩,?_,?_,?_⟩
 ·rintro i g j ⟨c2,c3,rfl,rfl,_⟩;exact kp _ rfl
 ·rintro i y g j r ⟨c2,c3,rfl,rfl,no⟩;rw[Aq] at r;obtain⟨y,t,rfl⟩:=Ax.mp r;have C:=AC t;refine zg (λh=>?_) λh1=>zg (λh=>?_) λh2=>?_
  ·have h:y.1=p:=Bt.mp h;cases ww nd C U (.inl h.symm) o.mem;rcases o with rfl|rfl
   ·exact x9 q
   ·exact(J h.symm).elim
  ·have h:y.2=p:=Bt.mp h;cases ww nd C U (.inr h.symm) o.mem;rcases o with rfl|rfl
   ·exact(J h.symm).elim
   ·exact x9 q
  ·refine⟨_,EK _,_,_,rfl,rfl,λu I=>?_⟩;rw[Bf,t] at I;rcases Aj.mp I with I|I
   ·exact no u I
   ·rw[Al.mp I];rintro(e|e)
    ·exact h1<|BG Nat.cast e.symm
    ·exact h2<|BG Nat.cast e.symm
 ·rintro g j ⟨c2,c3,rfl,rfl,no⟩;rw[Ae,Bo] at no;exact(no z U o.mem).elim
theorem yR{lk:List<|Nat×Nat}{x:Nat}{I:Nat×Nat}(ne:p≠q)(J:ny p x I)(h:q=I.1\/q=I.2):x=q:=by
 rcases J with rfl|rfl<;>rcases h with h|h<;>simp only at h
 ·exact(ne h.symm).elim
 ·exact h.symm
 ·exact h.symm
 ·exact(ne h.symm).elim
theorem oD(nd:(plcs lk).Nodup){x y:Nat}{I J:Nat×Nat}(U:I∈lk)(g:J∈lk)(ne:I≠J)(j:ny p x I)(l:ny q y J):(plcs lk).Perm (p::q::plcs (lk.filter (zu p q)++[bv x y])):=by
 rcases nJ nd U g j.mem l.mem with⟨e,_⟩|⟨_,e,_⟩
 ·exact(ne e).elim
 have pm:=vn<|hZ (j9 nd) U g ne;rw[zk,zk] at pm;rw[e];refine(pm.trans<|j.plcs _).trans (List.Perm.cons p ?_);rw[x4,w9];refine((l.plcs _).cons x).trans ((List.Perm.swap ..).trans<|List.Perm.cons q ?_);exact(dJ x y _).symm.trans (Bd (l₁:=[min x y,max x y]))
def qO(C:Addr):fW:=λys L Q E=>∃l,∃lk:List (Nat×Nat),∃p q x y:Nat,∃I J:Nat×Nat,ys=[.ref l,.int (p:Int),.int (q:Int)]/\L l=some (.lst<|qu lk)/\(plcs lk).Nodup/\lk.length<=60/\(∀c∈plcs lk,c<242)/\I∈lk/\J∈lk/\p≠q/\ny p x I/\ny q y J/\(x=q->E C L)/\
 (I≠J->∀D qs L',qh L L'->L D=none->L' D=some (.lst<|qu qs)->qs.Perm (lk.filter (zu p q)++[bv x y])->qs.Pairwise aa->Q (.ref D) L')
theorem ajx :∀ys L Q E,qO C ys L Q E->vo (ait C (tw E) dQ) 6 ys L Q:=by
 rintro ys L Q E ⟨l,lk,p,q,x,y,x0,y0,rfl,hl,nd,hz,lt,hx,I,a1,g,j,qe,qq⟩;have big:=bg_;have pl:∀l:List (Nat×Nat),(qu l).length=l.length:=λl=>Ae ..;have J:∀{p:Nat} {z:Nat×Nat},z∈lk->(p=z.1\/p=z.2)->p∈plcs lk:=λhz h=>by rcases h with rfl|rfl;exact(xu hz).1;exact(xu hz).2
 refine⟨l,lk,p,x,x0,rfl,hl,nd,hx,g,⟨l,lk,q,y,y0,rfl,hl,nd,I,j,zg (λh=>?_) λh=>?_⟩⟩
 ·have h:x=q:=Bt.mp h;have lp:=lt p<|J hx g.mem;have lq:=lt q<|J I j.mem;have sl:=sk p lp;have sm:=sk q lq;have ap:∀a b:Str,(a++b).length=a.length+b.length:=λa b=>BR;have l1:(Str.empty++Str.ofString "the places ").length=11:=by decide
  have l2:(Str.ofString " and ").length=5:=by decide
  have l3:(Str.ofString " of the cut are linked with one another").length=39:=by decide
  have a3:=arn;refine⟨by decide,t9 p lp,?_,?_,t9 q lq,?_,?_,?_,by show 1<=1000;decide,L,EK _,qe h⟩
  ·rw[ap];omega
  ·rw[ap,ap];omega
  ·rw[ap,ap,ap];omega
  ·rw[ap,ap,ap,ap];omega
  ·rw[ap,ap,ap,ap];omega
 have h:¬x=q:=λe=>h<|BG Nat.cast e;have ne:x0≠y0:=λe=>h<|yR (lk:=lk) a1 g<|e▸j.mem;have jp:=oD nd hx I ne g j;refine kz hl λkeep kp=>gJ (λi U=>U=qu ((lk.take i).filter<|zu p q)) (by rw[pl];exact big _ (by lia)) (kp _ rfl) rfl ?_ ?_
 ·rintro i y U I rfl;rw[Aq] at I;obtain⟨z,ez,rfl⟩:=Ax.mp I;have no:zu p q z=false->dk (λU L'=>L'=L/\U=qu ((lk.take<|i+1).filter<|zu p q)) (qu<|(lk.take i).filter<|zu p q) L:=λe=>⟨_,EK _,rfl,by rw[Bf,ez,A5,Cp,BC (by rw[e];decide),Br,AD]⟩;refine⟨rfl,rfl,?_⟩;show v4 (!(jP (ak<|.int (p:Int))<|([.int (z.1:Int),.int (z.2:Int)]:List Y).map ak)) _ _;rw[vm];by_cases r:p=z.1\/p=z.2
  ·exact cN (by rw[AI r];rfl) (no (by unfold zu;rw[AI r];rfl))
  refine gH (by rw[Ay r];rfl) ⟨rfl,rfl,?_⟩;show v4 (!(jP (ak<|.int (q:Int))<|([.int (z.1:Int),.int (z.2:Int)]:List Y).map ak)) _ _;rw[vm];by_cases t:q=z.1\/q=z.2
  ·exact cN (by rw[AI t];rfl) (no (by unfold zu;rw[AI t,Bool.or_true];rfl))
  refine gH (by rw[Ay t];rfl) ⟨_,EK _,rfl,?_⟩;rw[Bf,ez,A5,Cp,BD (by unfold zu;rw[Ay r,Ay t];rfl),Br,xm]
 rintro U rfl T h5;rw[pl,Bo];have fl:=Bk (zu p q) lk;have s5:=By (o:=.lst<|qu<|lk.filter<|zu p q) h5;have g5:qj L T (.lst<|qu<|lk.filter<|zu p q) T=some (.lst<|qu<|lk.filter<|zu p q):=q9;generalize qj L T (.lst<|qu<|lk.filter<|zu p q)=L5 at s5 g5 ⊢;intro p6 h6;rw[i4];show dh (.ref T) (.ref p6) (qj L5 p6<|.lst [vU<|bv x y]) λz L'=>xp [z] L'<|hW Q;have s6:=By (o:=.lst [vU<|bv x y]) h6;refine⟨_,_,s6 _ _ g5,q9,by rw[pl];exact BO (big _ (by show _+1<=_;lia)),λp7 h7=>?_⟩;have s7:=s5.trans<|s6.trans<|By (o:=.lst<|qu (lk.filter<|zu p q)++[vU<|bv x y]) h7;have a2:=jp.nodup_iff.mp nd;refine jQ (ps:=lk.filter (zu p q)++[bv x y]) (by rw[q9,xm]) (λd hd=>?_) (j9 (AE.mp (AE.mp a2).2).2) (by rw[Ac];show _+1<=_;lia) λD qs hD pm pw=>x9<|qq ne D qs _ (s7.trans<|By hD) (s7.none hD) q9 pm pw;have:=lt d.2<|jp.mem_iff.mpr<|Af _<|Af _ (xu hd).2;lia
def yL(I:Addr)(E3:X3)(J:zp)(p1:fW)(p2:zp):vt:=(zj (jz (dq 0 2)<|qo 2)
 (zj (wx (nX<|yB<|vI (bR 0)<|adb yLe (qc 1)<|ad0 yLt<|si 2) (uq I E3<|aJ<|rdS "no cut has that number") kh)
 (zj (jz (af kH<|aJ<|dq 0 0)<|qo 3)
 (zj (jz (x5 cV (x5 cV (qc 2)<|qc 1)<|bR 0)<|qo 4)
 (zj (jz (x5 cV (x5 cV (qc 2)<|qc 1)<|bR 1)<|qo 5)
 (zj (jz (yIf (yB<|xh J<|qi (x5 cV (qc 3)<|qc 4) jb) (lI p1 E3<|qi (dq 0 1)<|bV (qc 4)<|qc 5)<|af kH<|aJ<|dq 0 1)<|qo 6)
 (zj (jz (uc<|qi (xh p2<|qi (x5 cV (qc 3)<|qc 4) jb)<|qi (xh p2<|qi (x5 cV (qc 3)<|qc 5) jb) jb)<|qo 7)
 (zj (uQ (qc 3) (qc 4)<|yC .non)
 (zj (uQ (qc 3) (qc 5)<|yC .non)
 (wc<|kc<|qi (qc 3)<|qi (qc 6)<|qi (af xp<|qi (x5 dh (x5 dh (ySl ae9 (qc 2) gw<|rf<|qc 1)<|ySl ae9 (qc 2) (rf<|x5 dh (qc 1)<|bR 1) gw)<|qc 7) jb) jb))))))))))
def adf(E3:X3)(I:zp):vt:=(zj (jz (uc<|qi (xh I<|qi (x5 cV (qc 3)<|qc 4) jb)<|qi (xh I<|qi (x5 cV (qc 3)<|qc 5) jb) jb)<|qo 7)
 (zj (uQ (qc 3) (qc 4)<|yC .non)
 (zj (uQ (qc 3) (qc 5)<|yC .non)
 (wc<|kc<|qi (qc 3)<|qi (qc 6)<|qi (af xp<|qi (x5 dh (x5 dh (ySl ae9 (qc 2) gw<|rf<|qc 1)<|ySl ae9 (qc 2) (rf<|x5 dh (qc 1)<|bR 1) gw)<|qc 7) jb) jb))))
def vq(wd:List<|Option Kn)(x:Nat×Nat):List (Option Kn):=(wd.set x.1 none).set x.2 none
def bT(wd:List<|Option Kn)(x:Nat×Nat):List (Nat×Nat):=(jx<|wd[x.1]?.getD none).zip<|jx<|wd[x.2]?.getD none
theorem fv.two(I:fv wd ct){x:Nat×Nat}(p:x∈ct):(∃t n,wd[x.1]?=some (some<|.lf t n)/\wd[x.2]?=some (some<|.lf (!t) n)/\bT wd x=[])\/∃e i j g o,wd[x.1]?=some (some<|.nd e i j)/\wd[x.2]?=some (some<|.nd (!e) g o)/\bT wd x=[(i,g),(j,o)]:=by
 obtain⟨w,h1,h2⟩:=I.cw x p;unfold bT;cases w with
 |leaf t n=>
  have J:=h1.inv_lf;have U:=h2.inv_lf;exact .inl ⟨t,n,J,U,by rw[J,U];rfl⟩
 |node e l r=>
  obtain⟨i,j,J,_⟩:=h1.inv_nd;obtain⟨g,o,U,_⟩:=h2.inv_nd;exact .inr ⟨e,i,j,g,o,J,U,by rw[J,U];rfl⟩
theorem aj5{e:Bool}(h:wd[p]?=some (some<|.nd e i j)):i∈aK wd/\j∈aK wd:=⟨Bj.mpr ⟨_,AC h,Av⟩,Bj.mpr ⟨_,AC h,Af _ Av⟩⟩
theorem fv.ins(I:fv wd ct){k:Nat}{x:Nat×Nat}(ex:ct[k]?=some x):(ct.eraseIdx k++bT wd x).Nodup/\(∀c∈ct.eraseIdx k++bT wd x,c.2<1000000)/\(ct.eraseIdx k++bT wd x).length<=200:=by
 have T:=AC ex;have sub:=List.eraseIdx_sublist ct k;have cl:=I.len;have wl:=I.wl;have lt:∀c∈ct.eraseIdx k,c.2<1000000:=λc J=>by have:=I.lt<|sub.subset J;lia
 have nd:=sub.nodup<|j9 I.ctN;have le:=sub.length_le;rcases I.two T with⟨t,n,_,_,e⟩|⟨e,i,j,i',j',g,e2,ei⟩
 ·rw[e,AD];exact⟨nd,lt,by lia⟩
 ·obtain⟨w,h1,h2⟩:=I.cw x T;cases w with
  |leaf t n=>have:=h1.inv_lf;rw[g] at this;cases this
  |node b l r=>
   obtain⟨i2,j2,U,o,p⟩:=h2.inv_nd;rw[e2] at U;obtain⟨rfl,rfl⟩:i'=i2/\j'=j2:=by injection U with U;injection U with U;injection U with _ a b;exact⟨a,b⟩
   obtain⟨_,z1⟩:=o.ex;obtain⟨_,z2⟩:=p.ex;have l1:=je z1;have l2:=je z2;have ne:=I.pu.ne _ _ _ _ g;rw[ei];refine⟨Ar.mpr ⟨nd,by simp;intro h;exact(ne h).elim,λc J d hd z=>?_⟩,λc J=>?_,by rw[Ac];show _+2<=_;lia⟩
   ·subst z;have C:=I.ctP _ (xu<|sub.subset J).1;rcases An.mp hd with rfl|hd
    ·exact C (aj5 g).1
    ·rw[Al.mp hd] at C;exact C (aj5 g).2
   ·rcases Aj.mp J with J|J
    ·exact lt c J
    ·rcases An.mp J with rfl|J
     ·show i'<_;lia
     ·rw[Al.mp J];show j'<_;lia
theorem xD(wd:List<|Option Kn)(p:Nat):(vh wd).set p .non=vh (wd.set p none):=by unfold vh;rw[List.map_set];rfl
theorem xG{M:qr}{J g c:Addr}{k:Nat}{x:Nat×Nat}{E3:X3}(I:fv wd ct)(ex:ct[k]?=some x)(s:qh L M)(na:L J=none)(nl:L g=none)(n1:J≠g)(k1:M J=some (.lst<|vh wd))(k2:M g=some (.lst<|qu ir))(k3:M c=some (.lst<|qu ct))(nc:J≠c)
 (q:∀U c' L',qh L L'->L c'=none->J≠c'->g≠c'->L' J=some (.lst<|vh<|vq wd x)->L' g=some (.lst<|qu ir)->L' c'=some (.lst<|qu U)->U.Perm (ct.eraseIdx k++bT wd x)->U.Pairwise aa->En.rt (vi J g c') L'):
 adf E3 eE En [c0,some<|.int (k:Int),some<|.ref c,some<|.ref J,some<|.int (x.1:Int),some<|.int (x.2:Int),some<|.ref g,c7] M:=by
 have big:=bg_;have pl:∀l:List (Nat×Nat),(qu l).length=l.length:=λl=>Ae ..;have hx:=AC ex;have hk:=je ex;obtain⟨lx,ly⟩:=I.lt hx;obtain⟨nd,lt,le⟩:=I.ins ex;have cl:=I.len;have e1:wd[x.1]?=some wd[x.1]:=Ak lx;have e2:wd[x.2]?=some wd[x.2]:=Ak ly;have ei:bT wd x=(jx wd[x.1]).zip (jx wd[x.2]):=by unfold bT;rw[e1,e2];rfl
 have ez:akw (nY<|jx wd[x.1]) (nY<|jx wd[x.2])=qu (bT wd x):=by
  rw[ei];generalize wd[x.1]=u;generalize wd[x.2]=v;cases u with
  |none=>rfl
  |some u=>
   cases u with
   |lf t n=>rfl
   |nd e i j=>
    cases v with|none=>rfl|some v=>cases v<;>rfl
 refine qb k1<|qm (v5 e1) ⟨_,rfl,λT h1=>?_⟩;have s1:=By (o:=.lst<|nY<|jx wd[x.1]) h1;have g1:qj M T (.lst<|nY<|jx wd[x.1]) T=some (.lst<|nY<|jx wd[x.1]):=q9;generalize qj M T (.lst<|nY<|jx wd[x.1])=M1 at s1 g1 ⊢;refine qb (s1 _ _ k1)<|qm (v5 e2) ⟨_,rfl,λp2 h2=>?_⟩;have s2:=s1.trans<|By (o:=.lst<|nY<|jx wd[x.2]) h2;refine qb (By h2 _ _ g1)<|qb q9 λp h3=>?_;rw[ez];have r:=s2.trans<|By (o:=.lst<|qu<|bT wd x) h3;have g3:qj (qj M1 p2<|.lst<|nY<|jx wd[x.2]) p (.lst<|qu<|bT wd x) p=some (.lst<|qu<|bT wd x):=q9;generalize qj (qj M1 p2<|.lst<|nY<|jx wd[x.2]) p (.lst<|qu<|bT wd x)=M3 at r g3 ⊢;have j1:=r _ _ k1;have a1:J≠p:=λe=>by have:=(s.trans s2).none h3;subst e;have:=s2 _ _ k1;rw[this] at h3;cases h3
 refine qp j1 (qm (by rw[aQ];exact xN lx:ym (vh wd).length (x.1:Int)=some x.1) ?_);rw[xD];refine qp q9 (qm (by rw[aQ,BN];exact xN ly:ym (vh<|wd.set x.1 none).length (x.2:Int)=some x.2) ?_);rw[xD,jy];have s4:qh L (qj M3 J<|.lst<|vh<|vq wd x):=(s.trans r).upd na;have j4:qj M3 J (.lst<|vh<|vq wd x) J=some (.lst<|vh<|vq wd x):=q9;have j5:=(qg (o:=.lst<|vh<|vq wd x)<|AJ n1).trans<|r _ _ k2;have j6:=(qg (o:=.lst<|vh<|vq wd x)<|AJ nc).trans<|r _ _ k3;have j7:=(qg (o:=.lst<|vh<|vq wd x)<|AJ a1).trans g3;rw[show(wd.set x.1 none).set x.2 none=vq wd x from rfl];generalize qj M3 J (.lst<|vh<|vq wd x)=M4 at s4 j4 j5 j6 j7 ⊢;refine qp j6 λC h5=>?_;rw[ahj];have s5:=By (o:=.lst<|(qu ct).take k) h5;have g5:qj M4 C (.lst<|(qu ct).take k) C=some (.lst<|(qu ct).take k):=q9;generalize qj M4 C (.lst<|(qu ct).take k)=M5 at s5 g5 ⊢;refine qp (s5 _ _ j6) λp6 h6=>?_;have ek:((k:Int)+1)=((k+1:Nat):Int):=by lia
 show dh (.ref C) (.ref p6) (qj M5 p6<|.lst<|gM (qu ct) (some<|(k:Int)+1) none) λy L2=>dh y (.ref p) L2 λz L3=>xp [z] L3 λz' L4=>En.rt (.tup [.ref J,.ref g,z']) L4;rw[ek,zX];have s6:=s5.trans<|By (o:=.lst<|(qu ct).drop<|k+1) h6;refine⟨_,_,By h6 _ _ g5,q9,by rw[AR,Bm,pl];exact BO<|big _ (by lia),λp7 h7=>?_⟩;have ee:(qu ct).take k++(qu ct).drop (k+1)=qu (ct.eraseIdx k):=by unfold qu;rw[List.eraseIdx_eq_take_drop_succ,AH,EH,List.map_drop]
 rw[ee];have lE:=(List.eraseIdx_sublist ct k).length_le;have s7:=s6.trans<|By (o:=.lst<|qu<|ct.eraseIdx k) h7;refine⟨_,_,q9,s7 _ _ j7,by rw[pl,pl];rw[Ac] at le;exact BO<|big _ (by lia),λp8 h8=>?_⟩;have s8:=s7.trans<|By (o:=.lst<|qu (ct.eraseIdx k)++qu (bT wd x)) h8;refine jQ (ps:=ct.eraseIdx k++bT wd x) (by rw[q9];unfold qu;rw[AH]) lt nd (by lia) λD U hD pm pw=>?_;have s9:=s8.trans<|By (o:=.lst<|qu U) hD;have nD:=s8.none hD;exact q U D _ (s4.trans s9) (s4.none nD) (aZ j4 nD) (aZ j5 nD) (s9 _ _ j4) (s9 _ _ j5) q9 pm pw
structure LkC(wd:List<|Option Kn)(lk:List<|Nat×Nat):Prop where
 lkA:∀c∈lk,c.1<c.2/\∃t n,wd[c.1]?=some (some<|.lf t n)/\wd[c.2]?=some (some<|.lf (!t) n)
 lkN:(plcs lk).Nodup
 lkL:∀p,p∈plcs lk↔∃t n,wd[p]?=some (some<|.lf t n)
 lkS:lk.Pairwise aa
 ll:lk.length<=60
theorem iP.c(I:iP wd lk):LkC wd lk:=⟨I.lkA,I.lkN,I.lkL,I.lkS,I.ll⟩
def cI(wd:List<|Option Kn)(lk:List<|Nat×Nat)(x:Nat×Nat)(ir:List<|Nat×Nat):Prop:=
 ((∃e i j,wd[x.1]?=some (some<|.nd e i j))/\ir=lk)\/∃t n I J u v,wd[x.1]?=some (some<|.lf t n)/\I∈lk/\J∈lk/\I≠J/\ny x.1 u I/\ny x.2 v J/\ir.Perm (lk.filter (zu x.1 x.2)++[bv u v])/\ir.Pairwise aa
def ah2(lk:List<|Nat×Nat)(x:Nat×Nat):Prop:=∃z∈lk,ny x.1 x.2 z
theorem xZ(nd:(plcs lk).Nodup){z y:Nat×Nat}(hz:z∈lk)(I:y∈lk){x:Nat}(o:ny p x z)(o':ny p q y):x=q/\z=y:=by
 cases ww nd hz I o.mem o'.mem;have:=aeb nd hz o;refine⟨?_,rfl⟩;rcases o with rfl|rfl<;>rcases o' with h|h<;>injection h with h1 h2
 ·exact(this h2.symm).elim
 ·exact(this h1.symm).elim
def fK(C:Addr):fW:=λys L Q E=>∃a l c,∃wd:List (Option Kn),∃lk ct:List (Nat×Nat),∃ki:Int,ys=[vi a l c,.int ki]/\L a=some (.lst<|vh wd)/\L l=some (.lst<|qu lk)/\L c=some (.lst<|qu ct)/\fv wd ct/\LkC wd lk/\
 ((∀(k:Nat) (x:Nat×Nat),ki=(k:Int)->ct[k]?=some x->ah2 lk x)->E C L)/\∀(k:Nat) (x:Nat×Nat),ki=(k:Int)->ct[k]?=some x->
   ∀ir I J U c' L',qh L L'->L J=none->L U=none->L c'=none->J≠U->J≠c'->U≠c'->L' J=some (.lst<|vh<|vq wd x)->L' U=some (.lst<|qu ir)->L' c'=some (.lst<|qu I)->cI wd lk x ir->I.Perm (ct.eraseIdx k++bT wd x)->I.Pairwise aa->Q (vi J U c') L'
theorem adi :∀ys L Q E,fK C ys L Q E->vo (yL C (tw E) bN (qO C) eE) 8 ys L Q:=by
 rintro ys L Q E ⟨a,l,c,wd,lk,ct,ki,rfl,ha,hl,hc,I,J,qe,q⟩;have pl:∀l:List (Nat×Nat),(qu l).length=l.length:=λl=>Ae ..;cases ki with
 |negSucc n=>exact⟨by decide,L,EK _,qe λk x e=>by cases e⟩
 |ofNat k=>
  refine qb hc<|uj (b:=!decide ((k:Int)<((qu ct).length:Int))) (λh=>?_) λh=>?_
  ·exact⟨by decide,L,EK _,qe λk' x e ex=>by cases Bt.mp e;rw[pl] at h;simp at h;exact absurd (je ex)<|Nat.not_lt.mpr h⟩
  have hk:k<ct.length:=by rw[pl] at h;simp at h;exact h
  have ex:ct[k]?=some ct[k]:=Ak hk;generalize ct[k]=x at ex;have q2:=q k x rfl ex;have hx:=AC ex;have a4:∀{r:Addr},L r=none->r≠c:=λh e=>by subst e;rw[hc] at h;cases h
  refine qb ha λr U=>?_;have g:=By (o:=.lst<|vh wd) U;have g1:qj L r (.lst<|vh wd) r=some (.lst<|vh wd):=q9;generalize qj L r (.lst<|vh wd)=L1 at g g1 ⊢;have ax:eZ (qu ct) (k:Int)=some (vU x):=jw<|eO ex;have c1:=g _ _ hc;refine qb c1<|qm ax<|qb c1<|qm ax ?_;rcases I.two hx with⟨t,n,e1,e2,_⟩|⟨e,i,j,i',j',e1,e2,_⟩
  ·refine qb g1<|qm (v5 e1) ⟨true,t,_,rfl,?_⟩;obtain⟨x0,mx,ox⟩:=aX<|(J.lkL x.1).mpr ⟨t,n,e1⟩;obtain⟨y0,my,oy⟩:=aX<|(J.lkL x.2).mpr ⟨_,n,e2⟩;obtain⟨u,ou⟩:=ip ox;obtain⟨v,ov⟩:=ip oy;have wl:=I.wl;have lt:∀p∈plcs lk,p<242:=λp hp=>by obtain⟨_,_,e⟩:=(J.lkL p).mp hp;have:=je e;lia
   refine⟨l,lk,x.1,x.2,u,v,x0,y0,rfl,g _ _ hl,J.lkN,J.ll,lt,mx,my,qB I.ctN hx,ou,ov,λe=>⟨L,g,qe λk' x' e' a5=>by cases Bt.mp e';rw[ex] at a5;cases a5;exact⟨x0,mx,e▸ou⟩⟩,λne D ac L2 s2 T g2 pm pw=>?_⟩;have n1:r≠D:=aZ g1 T;exact xG (E3:=tw E) I ex (g.trans s2) U (g.none T) n1 (s2 _ _ g1) g2 (s2 _ _ c1) (a4 U) λa1 c' L' t1 t2 t3 t4 t5 t6 t7 a2 a3=>x9<|q2 ac a1 r D c' L' t1 U (g.none T) t2 n1 t3 t4 t5 t6 t7 (.inr ⟨t,n,x0,y0,u,v,e1,mx,my,ne,ou,ov,pm,pw⟩) a2 a3
  ·refine qb g1<|qm (v5 e1) ⟨false,e,_,rfl,?_⟩;refine qb (g _ _ hl) λD T=>?_;have n1:r≠D:=aZ g1 T;have s2:=By (o:=.lst<|qu lk) T;exact xG (E3:=tw E) I ex (g.trans s2) U (g.none T) n1 (s2 _ _ g1) q9 (s2 _ _ c1) (a4 U) λa1 c' L' t1 t2 t3 t4 t5 t6 t7 a2 a3=>x9<|q2 lk a1 r D c' L' t1 U (g.none T) t2 n1 t3 t4 t5 t6 t7 (.inl ⟨⟨_,_,_,e1⟩,rfl⟩) a2 a3
noncomputable def xY:RD "_law_due" gC 0 ["_law_web_here","_law_k","_law_knots","_law_links","_law_cuts","_law_p","_law_q","_law_left","_law_rest","_law_others","_law_row","_law_link"] (λ_=>True):=⟨_,λV B c _ _ _ _ _ _ _ J hN I=>(qa (ae (qv 0)<|w5 (n:=3) rfl<|qz (aB (i:=2) hN rfl<|Or.inr rfl)<|qz (G_ 3 hN)<|qz (G_ 4 hN) xw)<|qa (zq (dF<|tM qd<|oE aoh (qv 1)<|oI qJ<|L_ B.ba<|qv 4) (qf<|za a6) z0)<|qa (ae (I_ (qv 4)<|qv 1)<|w5 (n:=2) rfl<|qz (aB (i:=5) hN rfl<|Or.inr rfl)<|qz (aB (i:=6) hN rfl<|Or.inr rfl) xw)<|qa (wb ["_law_x"] (i:=7) hN rfl (Or.inl rfl) (EY (by rfl)) rfl (wv rfl B.bh<|xj<|L_ B.ba<|qv 2) (qE 12) (λ_ _ _ _=>aei) λ_ _ _ _=>(bE (j8 (e9 _ _ _) (qv 12) (zd<|xr (qv 5)<|qv 6) (by with_unfolding_all rfl)) a6<|I_ (qv 2)<|qv 12))<|qa (wb ["_law_cut_here"] (i:=8) hN rfl (Or.inl rfl) (EY (by rfl)) rfl (wy<|qv 4) (qE 12) (λ_ _ _ _=>cD<|N_ I (qv 12)<|zd<|xr (qv 5)<|qv 6) λ_ _ _ _=>(qv 12))<|qa (zq (E_ I (L_ B.ba<|I_ (qv 2)<|qv 5) qd) (qa (zf<|z9 (qv 8)<|xj<|zd<|xr (I_ (I_ (qv 2)<|qv 5) qd)<|I_ (I_ (qv 2)<|qv 6) qd)<|qa (zf<|z9 (qv 8)<|xj<|zd<|xr (I_ (I_ (qv 2)<|qv 5) qd)<|I_ (I_ (qv 2)<|qv 6) qd)<|qf<|za<|zd<|cT (qv 7) (qv 3)<|jc br rfl B.bi wu<|xj<|qv 8) z0)<|qa (S_ 9 hN<|js wo)<|qa (S_ 10 hN<|js wo)<|qa (wn vb rfl (wy<|qv 3) (G_ 11 hN)<|qa (zq (aS<|bz (j8 (e9 _ _ _) (qv 5) (qv 11) (by with_unfolding_all rfl))<|aR<|j8 (e9 _ _ _) (qv 6) (qv 11) (by with_unfolding_all rfl)) (qf<|za a6) z0)<|qf<|zq (aS<|mS (j8 (e9 _ _ _) (qv 5) (qv 11) (by with_unfolding_all rfl))<|fu<|j8 (e9 _ _ _) (qv 6) (qv 11) (by with_unfolding_all rfl)) (qf<|zf<|z9 (qv 9)<|xj<|qk ag (qk jr (J_ 11)<|J_ 11)<|bE (j8 (e9 _ _ _) (qv 5) (qv 11) (by with_unfolding_all rfl)) (qv 5)<|qv 6)<|qf<|zf<|z9 (qv 10)<|xj<|qv 11)<|qa (zf<|z9 (qv 10)<|xj<|zd<|xr (jc abp rfl B.bn gB<|xj<|qv 9)<|jc acm rfl B.bj dD<|xj<|qv 9)<|qf<|za<|zd<|cT (qv 7) (jc br rfl B.bi wu<|xj<|qv 10)<|qv 8)⟩
noncomputable def ah5:vt:=(xY).1
def ag6:vt:=(zj (wx (rdE (af sv<|qi (x5 cV (qc 2)<|qc 5) jb)<|bR 3) (zj (xt<|eI zv (qc 8)<|qi (kc<|qi (x5 cV (x5 cV (qc 2)<|qc 5)<|bR 1)<|qi (x5 cV (x5 cV (qc 2)<|qc 6)<|bR 1) jb) jb)
 (zj (xt<|eI zv (qc 8)<|qi (kc<|qi (x5 cV (x5 cV (qc 2)<|qc 5)<|bR 2)<|qi (x5 cV (x5 cV (qc 2)<|qc 6)<|bR 2) jb) jb)
 (wc<|kc<|qi (qc 7)<|qi (qc 3)<|qi (af xp<|aJ<|qc 8) jb))) kh)
 (zj (jz (io jb)<|qo 9)
 (zj (jz (io jb)<|qo 10)
 (zj (m8 (dM<|qc 3) (qo 11) (zj (wx (tJ (yB<|x5 (aw false) (qc 5)<|qc 11)<|yB<|x5 (aw false) (qc 6)<|qc 11) (wc<|yC .non) kh)
 (wx (yOr (yB<|x5 (aw false) (qc 5)<|qc 11)<|yB<|x5 (aw false) (qc 6)<|qc 11) (xt<|eI zv (qc 9)<|qi (x5 lh (x5 dh (dq 11 0)<|dq 11 1)<|yIf (yB<|x5 (aw false) (qc 5)<|qc 11) (qc 5)<|qc 6) jb)<|xt<|eI zv (qc 10)<|aJ<|qc 11)))
 (zj (xt<|eI zv (qc 10)<|qi (kc<|qi (af o4<|aJ<|qc 9)<|qi (af oK<|aJ<|qc 9) jb) jb)
 (wc<|kc<|qi (qc 7)<|qi (af xp<|aJ<|qc 10)<|aJ<|qc 8))))))
def aly:vt:=(zj (m8 (dM<|qc 3) (qo 11) (zj (wx (tJ (yB<|x5 (aw false) (qc 5)<|qc 11)<|yB<|x5 (aw false) (qc 6)<|qc 11) (wc<|yC .non) kh)
 (wx (yOr (yB<|x5 (aw false) (qc 5)<|qc 11)<|yB<|x5 (aw false) (qc 6)<|qc 11) (xt<|eI zv (qc 9)<|qi (x5 lh (x5 dh (dq 11 0)<|dq 11 1)<|yIf (yB<|x5 (aw false) (qc 5)<|qc 11) (qc 5)<|qc 6) jb)<|xt<|eI zv (qc 10)<|aJ<|qc 11)))
 (zj (xt<|eI zv (qc 10)<|qi (kc<|qi (af o4<|aJ<|qc 9)<|qi (af oK<|aJ<|qc 9) jb) jb)
 (wc<|kc<|qi (qc 7)<|qi (af xp<|aJ<|qc 10)<|aJ<|qc 8)))
def xK:vt:=(zj (xt<|eI zv (qc 10)<|qi (kc<|qi (af o4<|aJ<|qc 9)<|qi (af oK<|aJ<|qc 9) jb) jb)
 (wc<|kc<|qi (qc 7)<|qi (af xp<|aJ<|qc 10)<|aJ<|qc 8))
def aie(L:qr)(wd:List<|Option Kn)(lk ct:List<|Nat×Nat)(k:Nat)(x:Nat×Nat)(Q:YK):Prop:=(ah2 lk x->∀L',qh L L'->Q .non L')/\∀ir I J U c' L',qh L L'->L' J=some (.lst<|vh<|vq wd x)->L' U=some (.lst<|qu ir)->L' c'=some (.lst<|qu I)->cI wd lk x ir->I.Perm (ct.eraseIdx k++bT wd x)->I.Pairwise aa->Q (vi J U c') L'
theorem amt{M:qr}{I:Addr}{c2 c3:Option Y}{k:Nat}{x:Nat×Nat}{n:Str}(J:LkC wd lk)(wl:wd.length<=241)(ne:x.1≠x.2)(hp:wd[x.1]?=some (some<|.lf t n))(hr:wd[x.2]?=some (some<|.lf (!t) n))(nl:∀z∈lk,¬((x.1=z.1\/x.1=z.2)/\(x.2=z.1\/x.2=z.2)))(s:qh L M)(a1:L I=none)(k7:M a7=some (.lst<|vh<|vq wd x))(k8:M a8=some (.lst<|qu<|ct.filter λz=>decide<|z≠x))(n1:I≠a7)(n2:I≠a8)
 (U:M r9=some (.lst<|((lk.filter λz=>!zu x.1 x.2 z).map<|cU x.1 x.2).map Y.int)) (j:M I=some (.lst<|qu<|lk.filter<|zu x.1 x.2)) (pc:(ct.filter λz=>decide<|z≠x).Perm<|ct.eraseIdx k++bT wd x) (pw:(ct.filter λz=>decide<|z≠x).Pairwise aa) (q:aie L wd lk ct k x En.rt):
 xK En [c0,c1,c2,c3,c4,c5,c6,some<|.ref a7,some<|.ref a8,some<|.ref r9,some<|.ref I,jH] M:=by
 have big:=bg_;have pl:∀l:List (Nat×Nat),(qu l).length=l.length:=λl=>Ae ..;have z2:=J.ll;obtain⟨x0,p,r⟩:=aX<|(J.lkL x.1).mpr ⟨t,n,hp⟩;obtain⟨y0,T,ry⟩:=aX<|(J.lkL x.2).mpr ⟨_,n,hr⟩;rcases nJ J.lkN p T r ry with⟨e,_⟩|⟨g,_,C⟩
 ·exact(nl x0 p ⟨r,e▸ry⟩).elim
 obtain⟨u,ou⟩:=ip r;obtain⟨v,ov⟩:=ip ry;have fl:=Bk (zu x.1 x.2) lk;have v1:cU x.1 x.2 x0=(u:Int):=by unfold cU;rw[AA r];rcases ou with rfl|rfl<;>simp only<;>lia
 have v2:cU x.1 x.2 y0=(v:Int):=by unfold cU;rw[Az λh=>g<|ww J.lkN p T r h];rcases ov with rfl|rfl<;>simp only<;>lia
 have jp:=oD J.lkN p T g ou ov;have a2:=jp.nodup_iff.mp J.lkN;have go:∀a b:Nat,bv a b=bv u v->M r9=some (.lst [.int (a:Int),.int (b:Int)])->xK En [c0,c1,c2,c3,c4,c5,c6,some<|.ref a7,some<|.ref a8,some<|.ref r9,some<|.ref I,jH] M:=λa b e U=>by
  refine qp j (kJ U (kJ U (qp j ⟨by rw[pl];exact big _ (by lia),?_⟩)));rw[i4,e,xm];show xp [.ref I] (qj M I<|.lst<|qu<|lk.filter (zu x.1 x.2)++[bv u v]) λz L'=>En.rt (.tup [.ref a7,z,.ref a8]) L';refine jQ q9 (λd hd=>?_) (j9 (AE.mp (AE.mp a2).2).2) (by rw[Ac];show _+1<=_;lia) λD qs hD pm a3=>?_
  ·obtain⟨_,_,e⟩:=(J.lkL d.2).mp<|jp.mem_iff.mpr<|Af _<|Af _ (xu hd).2;have:=je e;lia
  ·have sD:=By (o:=.lst<|qu qs) hD;exact q.2 qs _ a7 D a8 _ ((s.upd a1).trans sD) (sD _ _<|(qg<|AJ n1).trans k7) q9 (sD _ _<|(qg<|AJ n2).trans k8) (.inr ⟨t,n,x0,y0,u,v,hp,p,T,g,ou,ov,pm,a3⟩) pc pw
 rcases C with C|C
 ·rw[C] at U;exact go u v rfl (by rw[U,<-v1,<-v2];rfl)
 ·rw[C] at U;exact go v u (gZ v u) (by rw[U,<-v1,<-v2];rfl)
theorem ank{M:qr}{I:Addr}{c2:Option Y}{k:Nat}{x:Nat×Nat}{n:Str}(J:LkC wd lk)(wl:wd.length<=241)(ne:x.1≠x.2)(hp:wd[x.1]?=some (some<|.lf t n))(hr:wd[x.2]?=some (some<|.lf (!t) n))(s:qh L M)(hl:L l=some (.lst<|qu lk))(n9:L r9=none)(a1:L I=none)(C:r9≠I)(k7:M a7=some (.lst<|vh<|vq wd x))(k8:M a8=some (.lst<|qu<|ct.filter λz=>decide<|z≠x))(d1:r9≠a7)(d2:r9≠a8)(n1:I≠a7)(n2:I≠a8)
 (o:M r9=some (.lst [])) (j:M I=some (.lst [])) (pc:(ct.filter λz=>decide<|z≠x).Perm<|ct.eraseIdx k++bT wd x) (pw:(ct.filter λz=>decide<|z≠x).Pairwise aa) (q:aie L wd lk ct k x En.rt):
 aly En [c0,c1,c2,some<|.ref l,c4,some<|.int (x.1:Int),some<|.int (x.2:Int),some<|.ref a7,some<|.ref a8,some<|.ref r9,some<|.ref I,jH] M:=by
 have big:=bg_;have pl:∀l:List (Nat×Nat),(qu l).length=l.length:=λl=>Ae ..;have z2:=J.ll;generalize ep:x.1=p at *;generalize er:x.2=r at *;refine kz (s _ _ hl) λkeep kp=>kw ⟨λi τ U=>∃jH,τ=[c0,c1,c2,some<|.ref l,c4,some<|.int (p:Int),some<|.int (r:Int),some<|.ref a7,some<|.ref a8,some<|.ref r9,some<|.ref I,jH]/\qh L U/\U a7=some (.lst<|vh<|vq wd x)/\U a8=some (.lst<|qu<|ct.filter λz=>decide<|z≠x)/\(∀z∈lk.take i,¬((p=z.1\/p=z.2)/\(r=z.1\/r=z.2)))/\U r9=some (.lst<|(((lk.take i).filter λz=>!zu p r z).map<|cU p r).map Y.int)/\U I=some (.lst<|qu<|(lk.take i).filter<|zu p r),⟨_,rfl,s,k7,k8,nofun,o,j⟩,?_,?_,?_⟩
 ·rintro i τ U ⟨jH,rfl,T,_⟩;exact kp U (by rw[T _ _ hl,s _ _ hl])
 ·rintro i y τ U hy ⟨jH,rfl,T,k7,k8,no,o,j⟩;rw[Aq] at hy;obtain⟨z,ez,rfl⟩:=Ax.mp hy;have mz:=AC ez;have f1:=Bk (zu p r)<|lk.take i;have f2:=Bk (λz=>!zu p r z)<|lk.take i;rw[AR] at f1 f2;have et:lk.take (i+1)=lk.take i++[z]:=by rw[Bf,ez];rfl
  have a2:¬((p=z.1\/p=z.2)/\(r=z.1\/r=z.2))->∀z∈lk.take (i+1),¬((p=z.1\/p=z.2)/\(r=z.1\/r=z.2)):=λh u hu=>by
   rw[et] at hu;rcases Aj.mp hu with hu|hu
   ·exact no u hu
   ·rw[Al.mp hu];exact h
  have yes:¬((p=z.1\/p=z.2)/\(r=z.1\/r=z.2))->∀w:Int,zu p r z=false->cU p r z=w->fM U r9 λys=>ys.length<sizeLine/\dk (λτ U=>∃jH,τ=[c0,c1,c2,some<|.ref l,c4,some<|.int (p:Int),some<|.int (r:Int),some<|.ref a7,some<|.ref a8,some<|.ref r9,some<|.ref I,jH]/\qh L U/\U a7=some (.lst<|vh<|vq wd x)/\U a8=some (.lst<|qu<|ct.filter λz=>decide<|z≠x)/\(∀z∈lk.take (i+1),¬((p=z.1\/p=z.2)/\(r=z.1\/r=z.2)))/\U r9=some (.lst<|(((lk.take<|i+1).filter λz=>!zu p r z).map<|cU p r).map Y.int)/\U I=some (.lst<|qu<|(lk.take<|i+1).filter<|zu p r)) [c0,c1,c2,some<|.ref l,c4,some<|.int (p:Int),some<|.int (r:Int),some<|.ref a7,some<|.ref a8,some<|.ref r9,some<|.ref I,some<|vU z] (qj U r9<|.lst<|ys++[.int w]):=λh w hk ho=>by
   refine qp o ⟨by rw[Ae,Ae];exact big _ (by lia),_,EK _,_,rfl,T.upd n9,(qg<|AJ d1).trans k7,(qg<|AJ d2).trans k8,a2 h,?_,?_⟩
   ·rw[q9,et,A5,BD (by rw[hk];rfl),Br,AH,AH,<-ho];rfl
   ·rw[qg<|AJ C,j,et,A5,BC (by rw[hk];decide),Br,AD]
  refine⟨rfl,rfl,?_⟩;show v4 (jP (ak<|.int (p:Int))<|([.int (z.1:Int),.int (z.2:Int)]:List Y).map ak) _ _;rw[vm];refine zg (λg=>?_) λg=>?_
  ·refine⟨rfl,rfl,?_⟩;show v4 (jP (ak<|.int (r:Int))<|([.int (z.1:Int),.int (z.2:Int)]:List Y).map ak) _ _;rw[vm];refine zg (λcr=>?_) λcr=>?_
   ·refine q.1 ⟨z,mz,?_⟩ U T;rw[ep,er];rcases g with g|g<;>rcases cr with cr|cr
    ·exact(ne<|g.trans cr.symm).elim
    ·exact .inl<|EJ g.symm cr.symm
    ·exact .inr<|EJ cr.symm g.symm
    ·exact(ne<|g.trans cr.symm).elim
   refine⟨rfl,rfl,?_⟩;show v4 (jP (ak<|.int (p:Int))<|([.int (z.1:Int),.int (z.2:Int)]:List Y).map ak) _ _;rw[vm];refine mM g<|qp o ⟨rfl,rfl,?_⟩;show v4 (jP (ak<|.int (p:Int))<|([.int (z.1:Int),.int (z.2:Int)]:List Y).map ak) _ _;rw[vm];exact mM g (yes (λh=>cr h.2) _ (by unfold zu;rw[AI g];rfl) (by unfold cU;rw[AA g]))
  refine⟨rfl,rfl,?_⟩;show v4 (jP (ak<|.int (p:Int))<|([.int (z.1:Int),.int (z.2:Int)]:List Y).map ak) _ _;rw[vm];refine pQ g ⟨rfl,rfl,?_⟩;show v4 (jP (ak<|.int (r:Int))<|([.int (z.1:Int),.int (z.2:Int)]:List Y).map ak) _ _;rw[vm];refine zg (λcr=>?_) λcr=>?_
  ·refine qp o ⟨rfl,rfl,?_⟩;show v4 (jP (ak<|.int (p:Int))<|([.int (z.1:Int),.int (z.2:Int)]:List Y).map ak) _ _;rw[vm];exact pQ g (yes (λh=>g h.1) _ (by unfold zu;rw[AI cr,Bool.or_true];rfl) (by unfold cU;rw[Az g]))
  ·have hk:zu p r z=true:=by unfold zu;rw[Ay g,Ay cr];rfl
   refine qp j (qp j ⟨by rw[pl];exact big _ (by lia),_,EK _,_,rfl,T.upd a1,(qg<|AJ n1).trans k7,(qg<|AJ n2).trans k8,a2 λh=>g h.1,?_,?_⟩)
   ·rw[qg C,o,et,A5,BC (by rw[hk];decide),Br,AD]
   ·rw[q9,et,A5,BD hk,Br,xm]
 ·rintro τ U ⟨jH,rfl,T,k7,k8,no,o,j⟩;rw[pl,Bo] at no o j;subst ep er;exact amt J wl ne hp hr no T a1 k7 k8 n1 n2 o j pc pw q
theorem ud(nd:ct.Nodup){k:Nat}{x:Nat×Nat}(ex:ct[k]?=some x):(ct.filter λz=>decide<|z≠x).Perm (ct.eraseIdx k):=by
 have h2:ct.Perm (x::ct.filter λz=>decide<|z≠x):=(AZ nd<|AE.mpr ⟨by simp,nd.filter _⟩).mpr λz=>by
  by_cases c:z=x
  ·subst c;simp[AC ex]
  ·simp[c]
 exact DY<|h2.symm.trans<|xb ex
theorem adn{x:Nat×Nat}(hi:i<wd.length):(vq wd x)[i]?=if i=x.1\/i=x.2 then some none else wd[i]?:=by
 unfold vq;by_cases c2:i=x.2
 ·rw[AA<|.inr c2,c2,BF (by rw[BN];lia)]
 ·rw[Bh<|AJ c2];by_cases c1:i=x.1
  ·rw[AA<|.inl c1,c1,BF (by lia)]
  ·rw[Bh<|AJ c1,Az λh=>h.elim c1 c2]
theorem i9(wd:List<|Option Kn)(x:Nat×Nat):(vq wd x).length=wd.length:=by unfold vq;rw[BN,BN]
theorem am5{M:qr}{a:Addr}{k:Nat}{x:Nat×Nat}(I:fv wd ct)(J:LkC wd lk)(ex:ct[k]?=some x)(s:qh L M)(ha:L a=some (.lst<|vh wd))(hl:L l=some (.lst<|qu lk))(h8:L a8=none)(a3:a7≠a8)(k7:M a7=some (.lst<|vh<|vq wd x))(C:M a8=some (.lst<|qu<|ct.filter λz=>decide<|z≠x))(q:aie L wd lk ct k x En.rt):
 ag6 En [c0,c1,some<|.ref a,some<|.ref l,c4,some<|.int (x.1:Int),some<|.int (x.2:Int),some<|.ref a7,some<|.ref a8,c9,bW,jH] M:=by
 have big:=bg_;have pl:∀l:List (Nat×Nat),(qu l).length=l.length:=λl=>Ae ..;have hx:=AC ex;have T:=s _ _ ha;have cl:=I.len;obtain⟨nd,lt,le⟩:=I.ins ex;have fe:=ud (j9 I.ctN) ex;have lf:=Bk (λz=>decide<|z≠x) ct;rcases I.two hx with⟨t,n,e1,e2,ei⟩|⟨e,i,j,i',j',e1,e2,ei⟩
 ·refine qb T<|qm (v5 e1) ?_;intro r9 h9 a4 p;have s9:=By (o:=.lst []) h9;have r:=s9.trans<|By (o:=.lst []) p;have g:r9≠a4:=aZ q9 p;have nn:=s9.none p;exact ank J I.wl (qB I.ctN hx) e1 e2 (s.trans r) hl (s.none h9) (s.none nn) g (r _ _ k7) (r _ _ C) (AJ<|aZ k7 h9) (AJ<|aZ C h9) (AJ<|aZ k7 nn) (AJ<|aZ C nn) ((qg g).trans q9) q9 (by rw[ei,AD];exact fe) (I.ctS.filter _) q
 ·have b1:eZ (vh wd) (x.1:Int)=some (nu<|some<|.nd e i j):=v5 e1;have b2:eZ (vh wd) (x.2:Int)=some (nu<|some<|.nd (!e) i' j'):=v5 e2;have a5:a≠a8:=aZ ha h8;have a1:∀o,qj M a8 o a=some (.lst<|vh wd):=λo=>(qg a5).trans T;refine qb T (qm b1 (qp C (qb T (qm b1 (qb T (qm b2 (qp C ⟨by rw[pl];exact big _ (by lia),?_⟩)))))));refine qp q9 (qb (a1 _) (qm b1 (qb (a1 _) (qm b2 (qp q9 ⟨by rw[Ac,pl];exact big _ (by show _+1<=_;lia),?_⟩)))));rw[jy];have ee:qu (ct.filter λz=>decide<|z≠x)++[Y.tup [.int (i:Int),.int (i':Int)]]++[Y.tup [.int (j:Int),.int (j':Int)]]=qu ((ct.filter λz=>decide<|z≠x)++[(i,i'),(j,j')]):=by unfold qu;rw[AH,Aw];rfl
  show xp [.ref a8] (qj M a8<|.lst<|qu (ct.filter λz=>decide<|z≠x)++[Y.tup [.int (i:Int),.int (i':Int)]]++[Y.tup [.int (j:Int),.int (j':Int)]]) λz L'=>En.rt (.tup [.ref a7,.ref l,z]) L';rw[ee];have U:((ct.filter λz=>decide<|z≠x)++[(i,i'),(j,j')]).Perm (ct.eraseIdx k++bT wd x):=by rw[ei];exact fe.append_right _
  refine jQ q9 (λc hc=>lt c<|U.mem_iff.mp hc) (U.nodup_iff.mpr nd) (by rw[U.length_eq];lia) λD a2 hD pm pw=>?_;have sD:=By (o:=.lst<|qu a2) hD;exact q.2 lk a2 a7 l D _ ((s.upd h8).trans sD) (sD _ _<|(qg a3).trans k7) (sD _ _<|(qg<|aZ hl h8).trans<|s _ _ hl) q9 (.inl ⟨⟨_,_,_,e1⟩,rfl⟩) (pm.trans U) pw
def mQ:zp:=λys L Q=>∃a l c,∃wd:List (Option Kn),∃lk ct:List (Nat×Nat),∃ki:Int,ys=[vi a l c,.int ki]/\L a=some (.lst<|vh wd)/\L l=some (.lst<|qu lk)/\L c=some (.lst<|qu ct)/\fv wd ct/\LkC wd lk/\((∀k:Nat,ki=(k:Int)->ct.length<=k)->Q .non L)/\∀(k:Nat) (x:Nat×Nat),ki=(k:Int)->ct[k]?=some x->aie L wd lk ct k x Q
theorem ab3:∀ys L Q,mQ ys L Q->vo ah5 12 ys L Q:=by
 rintro ys L Q ⟨a,l,c,U,lk,g,ki,rfl,r,hl,C,I,J,qn,q⟩;have big:=bg_;have pl:∀l:List (Nat×Nat),(qu l).length=l.length:=λl=>Ae ..;have wl:=I.wl;have cl:=I.len;cases ki with
 |negSucc n=>exact x9 (qn λk e=>by cases e)
 |ofNat k=>
  refine qb C<|uj (b:=!decide ((k:Int)<((qu g).length:Int))) (λh=>?_) λh=>?_
  ·exact x9 (qn λk' e=>by cases Bt.mp e;rw[pl] at h;simp at h;exact h)
  have hk:k<g.length:=by rw[pl] at h;simp at h;exact h
  have ex:g[k]?=some g[k]:=Ak hk;generalize g[k]=x at ex;have qq:=q k x rfl ex;refine qb C<|qm (jw<|eO ex) ?_;refine qb r ⟨⟨AY _,by rw[aQ];lia⟩,?_⟩;rw[aQ,BE];refine nG (λi T=>T=vh ((vq U x).take i)) (big _ (by lia)) rfl ?_ ?_
  ·rintro i T hi rfl;have e0:(0:Int)+(i:Int)=(i:Int):=B6 _;rw[e0];have j:=adn (x:=x) hi;refine⟨rfl,rfl,?_⟩;show v4 (jP (ak<|.int (i:Int))<|([.int (x.1:Int),.int (x.2:Int)]:List Y).map ak) _ _;rw[vm];refine zg (λc=>?_) λc=>?_
   ·rw[AA c] at j;exact⟨_,EK _,rfl,by rw[Bf,j,Cp,<-iA];rfl⟩
   ·rw[Az c,Ak hi] at j;exact qb r<|qm (v5<|Ak hi) ⟨_,EK _,rfl,by rw[Bf,j,Cp,<-iA]⟩
  rintro T rfl a7 h7;rw[<-i9 U x,Bo];have p:=By (o:=.lst<|vh<|vq U x) h7;have g7:qj L a7 (.lst<|vh<|vq U x) a7=some (.lst<|vh<|vq U x):=q9;generalize qj L a7 (.lst<|vh<|vq U x)=L7 at p g7 ⊢;refine kz (p _ _ C) λkeep kp=>ai9 (f:=λz=>decide<|z≠x) (by lia) (kp _ rfl) (λi pr R zs ep hy a1=>?_) λa8 h8=>?_
  ·refine⟨rfl,rfl,1,1,yw pr,yw x,by decide,acb pr,acb x,?_⟩;rw[afp];by_cases c:pr=x
   ·exact cN (by rw[AI c];rfl)<|a1 (by rw[Ay (by simpa using c)])
   ·exact gH (by rw[Ay c];rfl)<|hy (by rw[AI c])
  have s8:=By (o:=.lst<|qu<|g.filter λz=>decide<|z≠x) h8;exact am5 I J ex (p.trans s8) r hl (p.none h8) (aZ g7 h8) (s8 _ _ g7) q9 ⟨λh L' t=>x9<|qq.1 h L' t,λa2 a3 a' l' c' L' t1 t2 t3 t4 t5 t6 t7=>x9<|qq.2 a2 a3 a' l' c' L' t1 t2 t3 t4 t5 t6 t7⟩
def ahy(K:Ah)(I:Addr)(J:Addr)(U:Addr)(g:Addr)(j:Addr)(l:Addr)(o:Addr)(Ch:Addr)(p:Addr)(r:Addr)(t:Addr)(C:zp)(p1:zp)(p2:zp)(p3:zp)(p4:zp)(p5:zp)(p6:zp)(p7:fW)(p8:zp):vt:=(zj (jz (xh C<|aJ<|qc 0)<|qo 1)
 (zj (jz (xh p1<|qi (xh p2<|qi (xh p3<|qi (qc 0)<|bV (qc 1)<|bR 96) jb)<|aJ<|qc 1)<|qo 2)
 (zj (jz (xh p4<|bV (qc 1)<|bR 445566)<|qo 3)
 (zj (jz (x5 rK (x5 xU (qc 3)<|bR 4)<|af kD<|qi (bR 1)<|qi (af sv<|aJ<|dq 2 2) jb)<|qo 4)
 (oH (wx (rdE (x5 rK (qc 3)<|bR 4)<|bR 1) (jz (x5 lh (x5 lh (x5 rK (x5 xU (qc 3)<|bR 4)<|x5 dh (af sv<|aJ<|dq 2 2)<|bR 4)<|bR 1)<|x5 asy (x5 rK (x5 xU (qc 3)<|bR 512)<|bR 2)<|bR 2)<|qo 4) kh)
 (zj (jz (xh p5<|bV (qc 2)<|qc 4)<|qo 5)
 (zj (jz (xh p6<|aJ<|qc 2)<|qo 6)
 (zj (jz (yC .non)<|qo 7)
 (zj (jz (yC .non)<|qo 8)
 (zj (am9 K I 9 (λE3=>jz (lI p7 E3<|bV (qc 6)<|qc 4)<|qo 7)<|jz (qc 9)<|qo 8)
 (zj (wx (nX<|yB<|xh p8<|bV (qc 6)<|qc 2) (wc<|yC<|.bl false) kh)
 (zj (wx (yB<|gp false<|qc 5) (zj (wx (yOr (nX<|yB<|lO K (.ref J)<|qc 8)<|nX<|yB<|lO K (.type "ValueError")<|qc 8) (wc<|yC<|.bl false) kh)
 (zj (jz (kc<|qi (gT K [(.ref o),(.ref Ch),(.ref p),(.ref r),(.ref t)]<|qc 8)<|qi (gT K [(.ref U),(.ref g),(.ref j),(.ref l)]<|qc 8) jb)<|qo 10)
 (wc<|x5 (yEq false) (qc 10)<|rdT (yC<|.bl false)<|yC<|.bl false))) kh)
 (zj (wx (yOr (yB<|gp true<|qc 8)<|nX<|yB<|xh p8<|bV (qc 7)<|qc 5) (wc<|yC<|.bl false) kh)
 (zj (m8 (adq<|qc 7) (qo 11)<|xt<|eI zv (qc 11)<|aJ<|yC .non)
 (wc<|xh p8<|bV (qc 6)<|qc 2)))))))))))))))
def rj(K:Ah)(I:Addr)(J:Addr)(U:Addr)(g:Addr)(j:Addr)(l:Addr)(o:Addr)(Ch:Addr)(p:Addr)(r:Addr)(t:Addr)(C:zp)(p1:fW)(p2:zp):vt:=(zj (jz (xh C<|aJ<|qc 2)<|qo 6)
 (zj (jz (yC .non)<|qo 7)
 (zj (jz (yC .non)<|qo 8)
 (zj (am9 K I 9 (λE3=>jz (lI p1 E3<|bV (qc 6)<|qc 4)<|qo 7)<|jz (qc 9)<|qo 8)
 (zj (wx (nX<|yB<|xh p2<|bV (qc 6)<|qc 2) (wc<|yC<|.bl false) kh)
 (zj (wx (yB<|gp false<|qc 5) (zj (wx (yOr (nX<|yB<|lO K (.ref J)<|qc 8)<|nX<|yB<|lO K (.type "ValueError")<|qc 8) (wc<|yC<|.bl false) kh)
 (zj (jz (kc<|qi (gT K [(.ref o),(.ref Ch),(.ref p),(.ref r),(.ref t)]<|qc 8)<|qi (gT K [(.ref U),(.ref g),(.ref j),(.ref l)]<|qc 8) jb)<|qo 10)
 (wc<|x5 (yEq false) (qc 10)<|rdT (yC<|.bl false)<|yC<|.bl false))) kh)
 (zj (wx (yOr (yB<|gp true<|qc 8)<|nX<|yB<|xh p2<|bV (qc 7)<|qc 5) (wc<|yC<|.bl false) kh)
 (zj (m8 (adq<|qc 7) (qo 11)<|xt<|eI zv (qc 11)<|aJ<|yC .non)
 (wc<|xh p2<|bV (qc 6)<|qc 2)))))))))
structure XF51(K:Ah)(O N b1 b2 b3 b4 b5 b6 b7 b8 b9:Addr):Prop where
 hd:XHd K N
 em:PySem.W.exmOne K (.ref N) (.ref O)=some true
 o1:PySem.W.kitAny K (.ref N) [.ref b1,.ref b2,.ref b3,.ref b4]=some false
 o2:PySem.W.kitAny K (.ref N) [.ref b5,.ref b6,.ref b7,.ref b8,.ref b9]=some false
 on:PySem.W.kitOne K (.ref N) (.ref N)=some true
 ve:PySem.W.kitOne K (.ref N) (.type "ValueError")=some true
theorem XF51.dn{K:Ah}{N I J U g j l o p r:Addr}(T:K.lookup Pt=some (PySem.W.tabObj #[]))(x:XF51 K O N I J U g j l o p r):XF51 (lessK Pt K) O N I J U g j l o p r:=⟨alz T x.hd,akc T x.em,i0 T x.o1,i0 T x.o2,fQ T x.on,fQ T x.ve⟩
theorem qQ{L:qr}{n:Nat}:∀l:List (Nat×Nat),Paired (gc L<|n+2) (qu l)<|qu l
 |[]=>.nil
 |_::r=>.cons (.tup<|.cons (.flat rfl)<|.cons (.flat rfl) .nil)<|qQ r
theorem rA{a b:Addr}{xs:List Y}(I:L a=some (.lst xs))(J:L b=some (.lst xs))(l:xs.length<=1000)(p:Paired (gc L n) xs xs):gc L (n+1) (.ref a) (.ref b):=.inr<|.inr ⟨a,b,xs,xs,rfl,rfl,I,J,l,p⟩
theorem pN{a c I J:Addr}(h1:L a=some (.lst<|vh wd))(h2:L l=some (.lst<|qu lk))(h3:L c=some (.lst<|qu ct))(g1:L I=some (.lst<|vh wd))(g2:L J=some (.lst<|qu lk))(g3:L c'=some (.lst<|qu ct))(U:wd.length<=1000)(g:lk.length<=1000)(j:ct.length<=1000):gc L 4 (vi a l c) (vi I J c'):=
 .tup (.cons (rA h1 g1 (by rw[Ae];exact U)<|qG wd) (.cons (rA h2 g2 (by rw[Ae];exact g)<|qQ lk) (.cons (rA h3 g3 (by rw[Ae];exact j)<|qQ ct) .nil)))
theorem ot{l m:List<|Nat×Nat}(h:l.Perm m)(I:l.Pairwise aa)(J:m.Pairwise aa):l=m:=
 List.Perm.eq_of_pairwise (le:=aa) (λa b _ _ h1 h2=>by unfold aa at h1 h2;exact EJ (by lia) (by lia)) I J h
theorem cI.no{x:Nat×Nat}(J:LkC wd lk)(h:cI wd lk x ir):¬ah2 lk x:=by
 rintro⟨z,I,o⟩;rcases h with⟨⟨e,i,j,U⟩,_⟩|⟨t,n,T,y0,u,v,_,g,l,ne,p,r,_⟩
 ·obtain⟨t,n,h⟩:=(J.lkL x.1).mp (by rcases o with rfl|rfl;exact(xu I).1;exact(xu I).2);rw[U] at h;cases h
 ·have U:=ww J.lkN I g o.mem p.mem;have C:=ww J.lkN I l (by rcases o with rfl|rfl;exact .inr rfl;exact .inl rfl) r.mem;exact ne<|U.symm.trans C
theorem cI.same{l1 l2:List<|Nat×Nat}{x:Nat×Nat}(J:LkC wd lk)(h1:cI wd lk x l1)(h2:cI wd lk x l2):l1=l2:=by
 rcases h1 with⟨⟨e,i,j,U⟩,rfl⟩|⟨t,n,x0,y0,u,v,U,T,hy,ne,ou,ov,pm,pw⟩
 ·rcases h2 with⟨_,rfl⟩|⟨t,n,_,_,_,_,I,_⟩
  ·rfl
  ·rw[U] at I;cases I
 ·rcases h2 with⟨⟨e,i,j,I⟩,_⟩|⟨t',n',x1,y1,u',v',_,g,l,_,o,p,r,C⟩
  ·rw[U] at I;cases I
  ·cases (xZ J.lkN T g ou o).1;cases (xZ J.lkN hy l ov p).1;exact ot (pm.trans r.symm) pw C
theorem cI.len{x:Nat×Nat}(J:LkC wd lk)(h:cI wd lk x ir):ir.length<=61:=by
 have:=J.ll;rcases h with⟨_,rfl⟩|⟨_,_,_,_,_,_,_,_,_,_,_,_,pm,_⟩
 ·lia
 ·rw[pm.length_eq,Ac];have:=Bk (zu x.1 x.2) lk;show _+1<=_;lia
section
variable {K:Ah}{N b1 b2 b3 b4 b5 b6 b7 b8 b9:Addr}{a c:Addr}{o0 o1 o3:Option Y}{ki:Int}
theorem xM(xf:XF51 K O N b1 b2 b3 b4 b5 b6 b7 b8 b9)(I:fv wd ct)(J:LkC wd lk)(p:L a=some (.lst<|vh wd))(r:L l=some (.lst<|qu lk))(hc:L c=some (.lst<|qu ct))(t:∀(k:Nat) (x:Nat×Nat),ki=(k:Int)->ct[k]?=some x->ah2 lk x)(q:∀L',qh L L'->En.rt (.bl true) L'):
 rj K O N b1 b2 b3 b4 b5 b6 b7 b8 b9 gu (fK N) (aO 4) En [o0,o1,some<|vi a l c,o3,some<|.int ki,some .non,none,none,none,none,none,none] L:=by
 have wl:=I.wl;have cl:=I.len;have ll:=J.ll;refine⟨a,l,c,_,_,_,rfl,p,r,hc,λC T c2 L2 s2 _ _ _ _ _ _ g1 g2 g3=>?_⟩;refine⟨C,T,c2,wd,lk,ct,ki,rfl,g1,g2,g3,I,J,λ_=>⟨xf.em,λe he=>?_⟩,λk x ek ex a1 a3 _ _ _ _ _ _ _ _ _ _ _ _ _ _ j _ _=>(j.no J<|t k x ek ex).elim⟩;have U:=By (o:=.exc N) he;have ge:qj L2 e (.exc N) e=some (.exc N):=q9;generalize qj L2 e (.exc N)=L3 at U ge ⊢;have g:=s2.trans U;refine⟨_,_,rfl,pN (U _ _ g1) (U _ _ g2) (U _ _ g3) (g _ _ p) (g _ _ r) (g _ _ hc) (by lia) (by lia) (by lia),?_⟩;refine kE ge ⟨xf.hd,true,xf.on,kE ge ⟨xf.hd,true,xf.ve,?_⟩⟩;refine kE ge ⟨xf.hd,false,xf.o2,kE ge ⟨xf.hd,false,xf.o1,?_⟩⟩;exact⟨rfl,rfl,1,1,.tup [.s<|.bl false,.s<|.bl false],.tup [.s<|.bl false,.s<|.bl false],by decide,aV<|.cons ⟨rfl,rfl⟩<|.cons ⟨rfl,rfl⟩ .nil,aV<|.cons ⟨rfl,rfl⟩<|.cons ⟨rfl,rfl⟩ .nil,q L3 g⟩
theorem afz(I:fv wd ct)(J:LkC wd lk)(ha:L a=some (.lst<|vh wd))(hl:L l=some (.lst<|qu lk))(hc:L c=some (.lst<|qu ct)){k:Nat}{x:Nat×Nat}(ek:ki=(k:Int))(ex:ct[k]?=some x){d1 d2 d3:Addr}{zW U:List<|Nat×Nat}(h1:L d1=some (.lst<|vh<|vq wd x))(h2:L d2=some (.lst<|qu zW))(h3:L d3=some (.lst<|qu U))(st:cI wd lk x zW)(pm:U.Perm<|ct.eraseIdx k++bT wd x)(pw:U.Pairwise aa)(q:∀L',qh L L'->En.rt (.bl true) L'):
 rj K O N b1 b2 b3 b4 b5 b6 b7 b8 b9 gu (fK N) (aO 4) En [o0,o1,some<|vi a l c,o3,some<|.int ki,some<|vi d1 d2 d3,none,none,none,none,none,none] L:=by
 have big:=bg_;have wl:=I.wl;have cl:=I.len;have ll:=J.ll;have sl:=st.len J;have ci:=(I.ins ex).2.2;have z3:U.length<=200:=by rw[pm.length_eq];exact ci
 refine⟨a,l,c,_,_,_,rfl,ha,hl,hc,λC T c2 L2 g _ _ _ _ _ _ g1 g2 g3=>?_⟩;refine⟨C,T,c2,wd,lk,ct,ki,rfl,g1,g2,g3,I,J,λh=>(st.no J<|h k x ek ex).elim,λk' x' a1 j au av o r c3 L3 s3 na nl nc n1 n2 n3 r1 r2 r3 a4 a5 ac=>?_⟩;cases Bt.mp (ek.symm.trans a1);rw[ex] at j;cases j;cases st.same J a4;cases ot (pm.trans a5.symm) pw ac;have t3:=g.trans s3;have keep:∀L',qh L2 L'->gc L' 4 (vi C T c2) (vi a l c):=λL' t=>pN (t _ _ g1) (t _ _ g2) (t _ _ g3) (t _ _<|g _ _ ha) (t _ _<|g _ _ hl) (t _ _<|g _ _ hc) (by lia) (by lia) (by lia);refine⟨_,_,rfl,keep L3 s3,?_⟩;refine⟨_,_,rfl,pN r1 r2 r3 (t3 _ _ h1) (t3 _ _ h2) (t3 _ _ h3) (by rw[i9];lia) (by lia) (by lia),?_⟩;refine kw ⟨λi τ L'=>∃jH,τ=[o0,o1,some<|vi a l c,o3,some<|.int ki,some<|vi d1 d2 d3,some<|vi C T c2,some<|vi o r c3,some .non,none,none,jH]/\qh L2 L'/\∀p,p=o\/p=r\/p=c3->∃xs:List Y,L' p=some (.lst xs)/\xs.length<=300+i,⟨_,rfl,s3,λp hp=>?_⟩,λ_ _ _ _=>True.intro,?_,?_⟩
 ·rcases hp with rfl|rfl|rfl
  ·exact⟨_,r1,by rw[aQ,i9];lia⟩
  ·exact⟨_,r2,by rw[Ae];lia⟩
  ·exact⟨_,r3,by rw[Ae];lia⟩
 ·rintro i y τ L' hy ⟨jH,rfl,t,hh⟩;have hi:i<3:=je hy;obtain⟨p,hp,rfl,np⟩:∃p,(p=o\/p=r\/p=c3)/\y=.ref p/\L2 p=none:=by
   rcases (show i=0\/i=1\/i=2 by lia) with rfl|rfl|rfl<;>cases hy
   ·exact⟨o,.inl rfl,rfl,na⟩
   ·exact⟨r,.inr<|.inl rfl,rfl,nl⟩
   ·exact⟨c3,.inr<|.inr rfl,rfl,nc⟩
  obtain⟨xs,ex,lx⟩:=hh p hp;refine qp ex<|qp ex ⟨big _ (by lia),_,EK _,_,rfl,t.upd np,λp' al=>?_⟩;by_cases c:p'=p
  ·subst c;exact⟨_,q9,by rw[Ac];show _+1<=_;lia⟩
  ·obtain⟨ys,ey,ly⟩:=hh p' al;exact⟨ys,(qg c).trans ey,by lia⟩
 ·rintro τ L' ⟨jH,rfl,t,_⟩;exact⟨_,_,rfl,keep L' t,q L'<|g.trans t⟩
end
theorem kA.mvp{E:List Nat}{f:Nat->Nat}(T:kA ks R E)(j:yc f (ks.map some) wd):vj (cO f R)<=96/\iB (cO f R)<=96/\(zb<|cO f R).Nodup/\(ze<|cO f R).Nodup/\(∀p∈zb (cO f R),p.2<1000000)/\∀p∈ze (cO f R),p.2<1000000:=by
 have rd:=ku<|cO f R;have C:=bG<|cO f R;have o:=(fU f R).length_eq;have r:=T.tp.length_eq;have hz:=T.len;have wl:=j.len;have lo:(ks.map some).length=ks.length:=Ae ..;rw[Ae] at o;rw[BZ] at r;obtain⟨_,_,b1,b2⟩:=T.pairs;have inj:∀a b,a<ks.length->b<ks.length->f a=f b->a=b:=λa b U g=>j.inj (by lia) (by lia);have flt:∀p,p<ks.length->f p<wd.length:=λp J=>j.gap.lt (A3.mpr (by lia)) (by lia);have cu:=T.sr.cuts T.nd;rw[bM,dY];have I:∀{l:List<|Nat×Nat},(∀p∈l,p.1<ks.length/\p.2<ks.length)->∀x∈plcs l,x<ks.length:=λh x t=>by
  obtain⟨p,J,e⟩:=aX t;rcases e with rfl|rfl
  ·exact(h p J).1
  ·exact(h p J).2
 refine⟨by lia,by lia,j9<|(pL f _).nodup_iff.mpr<|cx (T.sr.lkI T.nd).nd λa U b g=>inj a b (I b1 a U)<|I b1 b g,j9 (by rw[kK];exact cx cu.1 λa U b g=>inj a b (I b2 a U)<|I b2 b g),λp J=>?_,λp J=>?_⟩
 ·obtain⟨d,hd,rfl⟩:=B0.mp J;have:=flt _ (b1 d hd).1;have:=flt _ (b1 d hd).2;show max _ _<_;lia
 ·obtain⟨d,hd,rfl⟩:=B0.mp J;have:=flt _ (b2 d hd).2;show f d.2<_;lia
theorem ae3{K:Ah}{N b1 b2 b3 b4 b5 b6 b7 b8 b9:Addr}(xf:XF51 K O N b1 b2 b3 b4 b5 b6 b7 b8 b9):∀ys L Q,pV Pt lamQ ys L Q->vo (ahy K O N b1 b2 b3 b4 b5 b6 b7 b8 b9 rM iX kR (nS Pt) dW mQ gu (fK N)<|aO 4) 12 ys L Q:=by
 rintro ys L Q ⟨r,rfl,ac,hL,q⟩;have hP:L Pt=some (.tb lamQ):=by rw[hL];exact q9
 clear hL;refine⟨r,rfl,λst=>?_⟩;refine⟨r,st,96,_,rfl,rfl,by lia,by decide,hP,λks R E C f a L1 s1 g1 T rn=>?_⟩;obtain⟨m1,m2,m3,m4,m5,m6⟩:=T.mvp rn;refine⟨a,vh C,cO f R,rfl,g1,by lia,by lia,m3,m4,m5,m6,λa' l' c' lk j L2 s2 _ _ _ _ _ _ e1 e2 e3 pl a1 pc a2=>?_⟩;obtain⟨I,J0⟩:=T.cutI rn pl a1 pc a2;have cl:=I.len;refine⟨a',l',c',C,lk,j,st,rfl,e1,e2,e3,J0,I.cw,by lia,λD a3 L3 s3 g3 J'=>?_⟩;have J:=J'.c;have o:=s3 _ _ e1;have g:=s3 _ _ e3;have fn:∀U,qh L3 U->hW Q (.bl true) U:=λU t=>x9<|q U;have al:(qu j).length=j.length:=Ae ..;refine⟨st,445566,rfl,by decide,by decide,λnum _ _=>?_⟩;refine⟨⟨by decide,by decide⟩,qb g ⟨by show(0:Int)<max 1 _;lia,?_⟩⟩;refine⟨λτ U=>∃ki:Int,τ=[some<|.sq<|r.map Y.int,some<|.int st,some<|vi a' D c',some<|.int num,some<|.int ki,none,none,none,none,none,none,none]/\U=L3,?_,?_⟩
 ·refine⟨(by decide:(0:Int)<4),zg (λ_=>?_) λ_=>⟨_,rfl,rfl⟩⟩;exact⟨⟨by decide,by decide⟩,qb g ⟨by show(0:Int)<((qu j).length:Int)+4;lia,⟨by decide,by decide⟩,(by decide:(0:Int)<2),.inr ⟨by decide,by decide⟩,_,rfl,rfl⟩⟩
 rintro τ U ⟨ki,rfl,rfl⟩;refine⟨a',D,c',C,a3,j,ki,rfl,o,g3,g,I,J,λh=>?_,λk x p ex=>⟨λln M t=>?_,λzW au d1 d2 d3 M t h1 h2 h3 a4 pm pw=>?_⟩⟩
 ·exact xM xf I J o g3 g (λk x p ex=>absurd (je ex)<|Nat.not_lt.mpr<|h k p) fn
 ·refine xM xf I J (t _ _ o) (t _ _ g3) (t _ _ g) (λk' x' a5 l=>?_) λU t'=>fn U<|t.trans t';cases Bt.mp (p.symm.trans a5);rw[ex] at l;cases l;exact ln
 ·exact afz I J (t _ _ o) (t _ _ g3) (t _ _ g) p ex h1 h2 h3 a4 pm pw λU t'=>fn U<|t.trans t'
end L3
end
set_option maxRecDepth 100000
set_option maxHeartbeats 8000000
namespace K51
open PySem L2 L3 Words
abbrev ng:Str:="_law_script"
abbrev nh:Str:="_law_knots"
theorem asw{us:List Value}{n:Nat}(h:us.length=n+1):∃a r,us=a::r/\r.length=n:=by cases us with|nil=>cases h|cons a r=>exact⟨a,r,rfl,Nat.succ.inj h⟩
structure B_(V:V_):Prop extends B0_ V where
 hp:∃h:Heap,V.K.In h/\h.Ns mainGlobals V.mg
 D0:zc V.K "is_leaf" pG
 D1:zc V.K "parts_of" gG
 D2:zc V.K "partner_of" dN
 D3:zc V.K "links_without" dc
 D4:zc V.K "cut_step" l6
 D5:zc V.K "_law_cell_at" bQ
 D6:zc V.K "_law_stir" eV
 D7:zc V.K "_law_pick" eW
 D8:zc V.K "_law_mix" ft
 D9:zc V.K "_law_name" fH
 D10:zc V.K "_law_word" fE
 D11:zc V.K "_law_flip" eJ
 D12:zc V.K "_law_weight" cH
 D13:zc V.K "_law_mirror" fq
 D14:zc V.K "_law_join" fJ
 D15:zc V.K "_law_fold" eU
 D16:zc V.K "_law_cut" nN
 D17:zc V.K "_law_tree" eL
 D18:zc V.K "_law_gather" cA
 D19:zc V.K "_law_web" fz
 D20:zc V.K "_law_open" jU
 D21:DefInT V.K "_law_order" s__law_order V.Pt
 D22:zc V.K "_law_moved" dI
 D23:zc V.K "_law_gapped" cL
 D24:zc V.K "_law_swapped" bO
 D25:zc V.K "_law_looped" cJ
 D26:zc V.K "_law_crossed" bH
 D27:zc V.K "_law_number" bx
 D28:zc V.K "_law_alike" dX
 D29:zc V.K "_law_copy" du
 D30:zc V.K "_law_sown" fB
 D31:zc V.K "_law_deep" fF
 D32:zc V.K "_law_grown" dR
 D33:zc V.K "_law_due" gC
 md:V.mg "NoCut"=some (.ref V.Ca)
 mv:V.mg "OnceError"=some (.ref V.Cd)
 mf:V.mg "NoTree"=some (.ref V.Ck)
 mm:V.mg "NoExchange"=some (.ref V.Cc)
 mab:V.mg "OtherWeb"=some (.ref V.Ce)
 maa:V.mg "TooMany"=some (.ref V.Cg)
 mw:V.mg "NoWord"=some (.ref V.Cj)
 mh:V.mg "BadText"=some (.ref V.Ch)
 mn:V.mg "BadWeb"=some (.ref V.Cb)
 mac:V.mg "BadTree"=some (.ref V.Ci)
 me:V.mg "BadChoices"=some (.ref V.Cf)
 x_NoCut:ada V.K V.Ca
 xf:L3.XF51 V.K V.Cd V.Ca V.Ck V.Cc V.Ce V.Cg V.Cj V.Ch V.Cb V.Ci V.Cf
abbrev c0(_:V_):Prop:=True
local macro_rules|`(tactic| walk_at "s")=>`(tactic| exact⟨rfl,rfl,rfl,by decide +kernel,rfl,by decide +kernel,by decide +kernel⟩)
local macro_rules|`(tactic| walk_at "l")=>`(tactic| first|(rintro _ _ _ ⟨_,e,_⟩;rw[e];rfl)|(rintro _ _ _ ⟨_,_,e,_⟩;rw[e];rfl)|(rintro _ _ _ ⟨_,_,_,e,_⟩;rw[e];rfl)|(rintro _ _ _ ⟨_,_,_,_,e,_⟩;rw[e];rfl)|(rintro _ _ _ ⟨_,_,_,_,_,e,_⟩;rw[e];rfl)|(rintro _ _ _ ⟨_,_,_,_,_,_,e,_⟩;rw[e];rfl)|(rintro _ _ _ ⟨_,_,_,_,_,_,_,e,_⟩;rw[e];rfl)|(rintro _ _ _ ⟨_,_,_,_,_,_,_,_,e,_⟩;rw[e];rfl)|(rintro _ _ _ ⟨_,_,_,_,_,_,_,_,_,e,_⟩;rw[e];rfl))
local macro_rules|`(tactic| walk_at "x")=>`(tactic| (intro _;walk_at "l"))
local macro_rules|`(tactic| walk_at "b")=>`(tactic| (intro _ _ _ _ _ _ us hl;(repeat (obtain⟨_,_,e,h⟩:=asw hl;clear hl;subst e;have hl:=h;clear h));cases List.eq_nil_of_length_eq_zero hl;rfl))
section
variable {f:Addr}{fd:FuncData}{x q:Str}{st:Stmt}{ps:List Str}(V:V_)(k:Nat)(N:List Str)
theorem W_{sp:zp}{t:vt}(F:Fun V.K x q st f fd)(U:∀ys L Q,sp ys L Q->vo t N.length ys L Q)(h:∀(eK:Value) (A:Around) (outer:List Env) (s:Shared) (H:Hp) (E:XK),w4 k (A.deeper<|PyProof.Rows.envOfC q (qt st) s.heap.objs.size f eK)->N.Nodup->(A.deeper<|PyProof.Rows.envOfC q (qt st) s.heap.objs.size f eK).units+128<cLine->nv (cM CX0 V.P V.w V.K V.mg V.base N q (qt st) f eK A outer s H E).nox (jg st) t)(I:aG N ps (qt st):=by walk_at "s")(len:∀ys L Q,sp ys L Q->ys.length=ps.length:=by walk_at "l"):Fn3 V.P V.w V.K V.mg V.base (k+1) f fd ps sp:=
 ok3 F I len λeK A outer s H E J=>⟨t,h eK A outer s H E J I.nd<|huK J,U⟩
theorem M_{sp:zp}{t:vt}(I:∃h:Heap,V.K.In h/\h.Ns mainGlobals V.mg)(D:zc V.K x st)(J:∀ys L Q,sp ys L Q->vo t N.length ys L Q)(h:∀f,∀(eK:Value) (A:Around) (outer:List Env) (s:Shared) (H:Hp) (E:XK),w4 k (A.deeper<|PyProof.Rows.envOfC x (qt st) s.heap.objs.size f eK)->N.Nodup->(A.deeper<|PyProof.Rows.envOfC x (qt st) s.heap.objs.size f eK).units+128<cLine->nv (cM CX0 V.P V.w V.K V.mg V.base N x (qt st) f eK A outer s H E).nox (jg st) t)(U:aG N ps (qt st):=by walk_at "s")(len:∀ys L Q,sp ys L Q->ys.length=ps.length:=by walk_at "l")(g:∀(kV hE pm:Value) (an:Option Addr) (eK ct:Value) (us:List Value),us.length=ps.length->bindArgs (PySem.W.fnOf x x (vf st) (jg st) (qt st) .none kV hE pm an eK ct) ⟨us,[]⟩=pure (ps.zip us):=by walk_at "b"):Q_ V (k+1) x ps sp:=by obtain⟨_,X,G⟩:=I;obtain⟨f,fd,F,b,m⟩:=D.use X G g;exact Cal.of (W_ V k N F J (h f) U len) b F.kp m
theorem R_{sp:Nat->zp}{t:Nat->vt}(I:∃h:Heap,V.K.In h/\h.Ns mainGlobals V.mg)(D:zc V.K x st)(no:∀ys L Q,¬sp 0 ys L Q)(J:∀n ys L Q,sp (n+1) ys L Q->vo (t n) N.length ys L Q)(h:∀n f,Q_ V (n+k) x ps (sp n)->∀(eK:Value) (A:Around) (outer:List Env) (s:Shared) (H:Hp) (E:XK),w4 (n+k) (A.deeper<|PyProof.Rows.envOfC x (qt st) s.heap.objs.size f eK)->N.Nodup->(A.deeper<|PyProof.Rows.envOfC x (qt st) s.heap.objs.size f eK).units+128<cLine->nv (cM CX0 V.P V.w V.K V.mg V.base N x (qt st) f eK A outer s H E).nox (jg st) (t n))(n:Nat)(U:aG N ps (qt st):=by walk_at "s")(len:∀n ys L Q,sp n ys L Q->ys.length=ps.length:=by walk_at "x")(g:∀(kV hE pm:Value) (an:Option Addr) (eK ct:Value) (us:List Value),us.length=ps.length->bindArgs (PySem.W.fnOf x x (vf st) (jg st) (qt st) .none kV hE pm an eK ct) ⟨us,[]⟩=pure (ps.zip us):=by walk_at "b"):Q_ V (n+k) x ps (sp n):=by
 obtain⟨_,X,G⟩:=I;obtain⟨f,fd,F,b,m⟩:=D.use X G g
 induction n with|zero=>exact Cal.of (Fn3.never no) b F.kp m|succ n j=>rw[Nat.add_right_comm];exact Cal.of (W_ V (n+k) N F (J n) (h n f j) U<|len _) b F.kp m
theorem X_{sp:fW}{t:X3->vt}(U:∃h:Heap,V.K.In h/\h.Ns mainGlobals V.mg)(D:zc V.K x st)(g:∀ys L Q E,sp ys L Q E->vo (t<|tw E) N.length ys L Q)(h:∀f,∀(eK:Value) (A:Around) (outer:List Env) (s:Shared) (H:Hp) (E:XK) (E3:X3),w4 k (A.deeper<|PyProof.Rows.envOfC x (qt st) s.heap.objs.size f eK)->bZ (cM (CXE V.P V.w) V.P V.w V.K V.mg V.base N x (qt st) f eK A outer s H E) (upX ⟨V.K,V.P,V.w⟩ E3)->N.Nodup->(A.deeper<|PyProof.Rows.envOfC x (qt st) s.heap.objs.size f eK).units+128<cLine->nv (cM (CXE V.P V.w) V.P V.w V.K V.mg V.base N x (qt st) f eK A outer s H E) (jg st) (t E3))(I:aG N ps (qt st):=by walk_at "s")(len:∀ys L Q E,sp ys L Q E->ys.length=ps.length:=by walk_at "x")(j:∀(kV hE pm:Value) (an:Option Addr) (eK ct:Value) (us:List Value),us.length=ps.length->bindArgs (PySem.W.fnOf x x (vf st) (jg st) (qt st) .none kV hE pm an eK ct) ⟨us,[]⟩=pure (ps.zip us):=by walk_at "b"):jX V.P V.w V.K V.mg V.base (k+1) x ps sp:=by obtain⟨_,X,G⟩:=U;obtain⟨f,fd,F,b,m⟩:=D.use X G j;exact⟨_,_,aqo F I len (λeK A outer s H E E3 J l=>h f eK A outer s H E E3 J l I.nd<|huK J) g,b,F.kp,m⟩
theorem T_{sp:zp}{t:vt}(U:∃h:Heap,V.K.In h/\h.Ns mainGlobals V.mg)(D:DefInT V.K x st V.Pt)(g:∀ys L Q,sp ys L Q->vo t N.length ys L Q)(h:∀f,∀(eK:Value) (A:Around) (outer:List Env) (s:Shared) (H:Hp) (E:XK),zU V.K eK V.Pt->w4 k (A.deeper<|PyProof.Rows.envOfC x (qt st) s.heap.objs.size f eK)->N.Nodup->(A.deeper<|PyProof.Rows.envOfC x (qt st) s.heap.objs.size f eK).units+128<cLine->nv (cM CX0 V.P V.w V.K V.mg V.base N x (qt st) f eK A outer s H E).nox (jg st) t)(I:aG N ps (qt st):=by walk_at "s")(len:∀ys L Q,sp ys L Q->ys.length=ps.length:=by walk_at "l")(j:∀(kV hE pm:Value) (an:Option Addr) (eK ct:Value) (us:List Value),us.length=ps.length->bindArgs (PySem.W.fnOf x x (vf st) (jg st) (qt st) .none kV hE pm an eK ct) ⟨us,[]⟩=pure (ps.zip us):=by walk_at "b"):Q_ V (k+1) x ps sp:=by obtain⟨_,X,G⟩:=U;obtain⟨f,fd,F,b,m⟩:=D.use X G j;exact Cal.of (ase F I len λeK A outer s H E C J=>⟨t,h f eK A outer s H E C J I.nd<|huK J,g⟩) b F.kp m
end
abbrev c1(V:V_):Prop:=c0 V/\q1_ V (bN)
theorem d1(V:V_)(B:B_ V)(c:c0 V):c1 V:=⟨c,M_ V 0 ["word"] B.hp B.D0 u8 λ_ _ _ _ _ _ _ I hN J=>(qf<|za<|kG (e9 _ _ _) (J_ 0) (alg B.k_LEAF_KINDS rfl) (by with_unfolding_all rfl))⟩
abbrev c2(V:V_):Prop:=c1 V/\q2_ V (eE)
theorem d2(V:V_)(B:B_ V)(c:c1 V):c2 V:=⟨c,M_ V _ _ B.hp B.D1 ab9<|(nI _).2 V B.toB0_ c.2⟩
abbrev c3(V:V_):Prop:=c2 V/\q3_ V (dQ)
theorem d3(V:V_)(B:B_ V)(c:c2 V):c3 V:=⟨c,M_ V _ _ B.hp B.D2 u7<|(gj).2 V B.toB0_ ⟨⟩⟩
abbrev c4(V:V_):Prop:=c3 V/\q4_ V (qO V.Ca)
theorem d4(V:V_)(B:B_ V)(c:c3 V):c4 V:=⟨c,X_ V 1 ["links","p","q","x","y","kept"] (t:=(λJ=>ait V.Ca J<|dQ)) B.hp B.D3 ajx λ_ _ _ _ _ _ _ _ I U hN g=>(qa (S_ 3 hN<|C_ c.2 I<|xr (qv 0)<|qv 1)<|qa (S_ 4 hN<|C_ c.2 I<|xr (qv 0)<|qv 2)<|qa (zq (E_ g (qv 3)<|qv 2) (qf<|sj B.x_NoCut rfl B.md rfl U rfl<|xj<|ahz<|iF jv<|iF (xX<|qv 1)<|iF jv<|iF (xX<|qv 2)<|iF jv als) z0)<|qa (wb ["link"] (i:=5) hN rfl (Or.inl rfl) (EY (by rfl)) rfl (wy<|qv 0) (gh nd_ (λ_ _ _ _=>Or.inl rfl) λ_ _ _ _=>rfl) (λ_ _ _ _=>cD<|aS<|bz (j8 (lV _ _ _) (qv 1) (qv 6) (by with_unfolding_all rfl))<|aR<|j8 (lV _ _ _) (qv 2) (qv 6) (by with_unfolding_all rfl)) λ_ _ _ _=>(qv 6))<|qf<|za<|jc br rfl B.bi wu<|xj<|qk jr (qv 5)<|js<|xj<|zd<|xr (jc uD rfl B.bn gB<|xr (qv 3)<|qv 4)<|jc lZ rfl B.bj dD<|xr (qv 3)<|qv 4)⟩
abbrev c5(V:V_):Prop:=c4 V/\q5_ V (fK V.Ca)
theorem d5(V:V_)(B:B_ V)(c:c4 V):c5 V:=⟨c,X_ V 2 ["web","k","cuts","knots","p","q","links","inner"] (t:=(λU=>yL V.Ca U (bN) (qO V.Ca)<|eE)) B.hp B.D4 adi λ_ _ _ _ _ _ _ _ I J hN g=>(qa (S_ 2 hN<|J_ 0)<|qa (zq (dF<|tM qd<|oE aoh (qv 1)<|oI qJ<|L_ B.ba<|qv 2) (qf<|sj B.x_NoCut rfl B.md rfl J rfl<|xj jv) z0)<|qa (S_ 3 hN<|aW bF rfl B.bg aC<|xj<|J_ 0)<|qa (S_ 4 hN<|I_ (I_ (qv 2)<|qv 1) qd)<|qa (S_ 5 hN<|I_ (I_ (qv 2)<|qv 1) qd)<|qa (S_ 6 hN<|bE (w6<|C_ c.1.1.1.2 I<|xj<|I_ (qv 3)<|qv 4) (ap6 (c.2.mono (by decide)) I rfl J rfl<|cT (J_ 0) (qv 4)<|qv 5)<|aW bF rfl B.bg aC<|xj<|J_ 0)<|qa (S_ 7 hN<|ae4 rfl rfl B.bg rfl B.bq<|xr (C_ c.1.1.2 I<|xj<|I_ (qv 3)<|qv 4)<|C_ c.1.1.2 I<|xj<|I_ (qv 3)<|qv 5)<|qa (rB (qv 3) (qv 4) a6)<|qa (rB (qv 3) (qv 5) a6)<|qf<|za<|zd<|cT (qv 3) (qv 6)<|jc br rfl B.bi wu<|xj<|qk jr (qk jr (aE (oW _ _ _) (qv 2) bw<|aP<|qv 1)<|aE (oW _ _ _) (qv 2) (aP<|qk jr (qv 1) qd) bw)<|qv 7)⟩
abbrev c6(V:V_):Prop:=c5 V/\q6_ V (gA)
theorem d6(V:V_)(B:B_ V)(c:c5 V):c6 V:=⟨c,M_ V _ _ B.hp B.D5 uz<|(fC).2 V B.toB0_ ⟨⟩⟩
abbrev c7(V:V_):Prop:=c6 V/\q7_ V (rM)
theorem d7(V:V_)(B:B_ V)(c:c6 V):c7 V:=⟨c,M_ V _ _ B.hp B.D6 ag1<|(jN).2 V B.toB0_ ⟨⟩⟩
abbrev c8(V:V_):Prop:=c7 V/\q8_ V (dW)
theorem d8(V:V_)(B:B_ V)(c:c7 V):c8 V:=⟨c,M_ V _ _ B.hp B.D7 ah7<|(jG).2 V B.toB0_ ⟨⟩⟩
abbrev c9(V:V_):Prop:=c8 V/\q9_ V (lg)
theorem d9(V:V_)(B:B_ V)(c:c8 V):c9 V:=⟨c,M_ V _ _ B.hp B.D8 amu<|(lC).2 V B.toB0_ ⟨⟩⟩
abbrev bW(V:V_):Prop:=c9 V/\aq7 V (mF)
theorem d10(V:V_)(B:B_ V)(c:c9 V):bW V:=⟨c,M_ V _ _ B.hp B.D9 aax<|(sJ).2 V B.toB0_ ⟨⟩⟩
abbrev jH(V:V_):Prop:=bW V/\ap5 V (wg 120)
theorem d11(V:V_)(B:B_ V)(c:bW V):jH V:=⟨c,R_ V _ _ B.hp B.D10 qA sC (λn=>(jO _).2 V B.toB0_ ⟨⟩ n) 120⟩
abbrev c12(V:V_):Prop:=jH V/\arh V (aY 120)
theorem d12(V:V_)(B:B_ V)(c:jH V):c12 V:=⟨c,R_ V _ _ B.hp B.D11 aeg ae2 (λn=>(yJ _).2 V B.toB0_ ⟨⟩ n) 120⟩
abbrev c13(V:V_):Prop:=c12 V/\aq6 V (az 120)
theorem d13(V:V_)(B:B_ V)(c:c12 V):c13 V:=⟨c,R_ V _ _ B.hp B.D12 mX zV (λn=>(fi _).2 V B.toB0_ ⟨⟩ n) 120⟩
abbrev c14(V:V_):Prop:=c13 V/\apg V (ky 48)
theorem d14(V:V_)(B:B_ V)(c:c13 V):c14 V:=⟨c,R_ V 122 [nh,"_law_word_here","_law_left","_law_right","_law_turn","_law_same","_law_low","_law_high"] B.hp B.D13 y8 (aa3 (FS:=aY 120) λ_ _ _ h=>h) (λ_ _ I _ _ _ _ _ _ J hN U=>(qa (zq (E_ U (L_ B.ba<|qv 1) qd) (qa (zf<|z9 (qv 0)<|xj<|C_ c.1.2 J<|xj<|qv 1)<|qa (zf<|z9 (qv 0)<|xj<|qv 1)<|qf<|za<|js<|cT (zd<|cT jv (qk ag (L_ B.ba<|qv 0) qd)<|qk ag (L_ B.ba<|qv 0) qd) (qk ag (L_ B.ba<|qv 0) qd)<|qk ag (L_ B.ba<|qv 0) qd) z0)<|qa (S_ 2 hN<|C_ I J<|xr (qv 0)<|J_ 1)<|qa (S_ 3 hN<|C_ I J<|xr (qv 0)<|J_ 1)<|qa (zf<|z9 (qv 0)<|xj<|zd<|cT (I_ (C_ c.1.2 J<|xj<|qv 1) qd) (J_ 2)<|J_ 3)<|qa (zf<|z9 (qv 0)<|xj<|zd<|cT (J_ 1) (J_ 2)<|J_ 3)<|qa (vN (i:=4) (j:=5) rfl hN rfl rfl (by decide) rfl rfl (xr (qk ag (L_ B.ba<|qv 0) qd)<|qk ag (L_ B.ba<|qv 0) qd) rfl)<|qa (S_ 6 hN<|bE (E_ U (J_ 1) jv) (qv 4)<|qv 5)<|qa (S_ 7 hN<|bE (E_ U (J_ 1) jv) (qv 5)<|qv 4)<|qf<|za<|js<|cT (zd<|cT jv (qv 7)<|zd<|vg jv<|cT (qv 6) (J_ 2)<|J_ 3) (qv 4)<|qv 5)) 48⟩
abbrev c15(V:V_):Prop:=c14 V/\ao2 V (pK)
theorem d15(V:V_)(B:B_ V)(c:c14 V):c15 V:=⟨c,M_ V _ _ B.hp B.D14 agw<|(abr).2 V B.toB0_ ⟨⟩⟩
abbrev c16(V:V_):Prop:=c15 V/\apd V (nH)
theorem d16(V:V_)(B:B_ V)(c:c15 V):c16 V:=⟨c,M_ V _ _ B.hp B.D15 aba<|(xJ).2 V B.toB0_ ⟨⟩⟩
abbrev c17(V:V_):Prop:=c16 V/\apr V (qM)
theorem d17(V:V_)(B:B_ V)(c:c16 V):c17 V:=⟨c,M_ V 170 [nh,"_law_forest","_law_one","_law_two","_law_first","_law_p","_law_word_here","_law_second","_law_q","_law_at","_law_end","_law_rule","_law_same","_law_ends"] B.hp B.D16 (ahx (FS:=aY 120) (MS:=ky 48) (λ_ _ _ h=>h)<|am0 (by decide) (by decide)) λ_ _ _ _ _ _ _ I hN J=>(qa (S_ 4 hN<|cc (qv 1)<|xj<|qk jl (qv 3)<|L_ B.ba<|qv 1)<|qa (cB (i:=5) hN rfl (Or.inr rfl)<|I_ (J_ 4)<|qk jl (qk xo (qv 3) qd)<|L_ B.ba<|J_ 4)<|qa (S_ 6 hN<|C_ c.1.1.1.1.1.2 I<|xr (qv 0)<|qv 5)<|qa (ae (zd<|xr a6 a6)<|w5 rfl<|qz (G_ 7 hN)<|qz (aB (i:=8) hN rfl<|Or.inr rfl) xw)<|qa (wn vb rfl (wv rfl B.bh<|xj<|L_ B.ba<|qv 1) (G_ 9 hN)<|qf<|wn vb rfl (wy<|I_ (I_ (qv 1)<|qv 9) qd) (G_ 10 hN)<|qf<|zq (aS<|bz (iT<|qv 7)<|aR<|E_ J (C_ c.1.1.1.1.1.2 I<|xr (qv 0)<|qv 10)<|C_ c.1.1.1.1.2 I<|xj<|qv 6) (qf<|ae (zd<|xr (I_ (qv 1)<|qv 9)<|qv 10)<|w5 rfl<|qz (G_ 7 hN)<|qz (aB (i:=8) hN rfl<|Or.inr rfl) xw) z0)<|qa (zq (aS<|bz (iT<|qv 7)<|aR<|j8 zR (C_ c.1.1.1.2 I<|xj<|qv 6) qd<|ke _) (qa (zf<|z9 (qv 1)<|xj<|qv 4)<|qf xL) z0)<|xn (zq (iT<|qv 7) (qa (ae (C_ c.1.1.2 I<|xr (qv 0)<|qv 6)<|acu rfl<|qz (G_ 11 hN)<|qz (aB (i:=8) hN rfl<|Or.inr rfl)<|qz (G_ 12 hN) xw)<|qf<|S_ 7 hN<|js<|xr (qv 11)<|js<|xr (qv 8)<|qv 12)<|qf<|zf<|aa5 J (qv 1)<|xj<|qv 7)<|qa (wb ["_law_x"] (i:=13) hN rfl (Or.inl rfl) (EY (by rfl)) rfl (wy<|qk jr (J_ 4)<|J_ 7) (gh nd_ (λ_ _ _ _=>Or.inl rfl) λ_ _ _ _=>rfl) (λ_ _ _ _=>cD<|j8 (lV _ _ _) (qv 14) (zd<|xr (qv 5)<|qv 8) (by with_unfolding_all rfl)) λ_ _ _ _=>(qv 14))<|qf<|zq (E_ J (qk jl (qv 2) qd) qd) (qf<|zf<|z9 (qv 1)<|xj<|js<|xr (zd<|vg jv<|vg (qv 5)<|cT (qv 8) (J_ 4)<|J_ 7)<|qv 13)<|qf<|zf<|z9 (qv 1)<|xj<|js<|xr (zd<|vg jv<|vg (qv 8)<|cT (qv 5) (J_ 7)<|J_ 4)<|qv 13)⟩
abbrev c18(V:V_):Prop:=c17 V/\apl V (lQ)
theorem d18(V:V_)(B:B_ V)(c:c17 V):c18 V:=⟨c,M_ V _ _ B.hp B.D17 abi<|(xQ _ _ _ _ _).2 V B.toB0_ ⟨c.1.1.1.1.1.1.1.1.2,c.1.1.1.1.1.1.1.2,c.1.2,c.1.1.2,c.2⟩⟩
abbrev c19(V:V_):Prop:=c18 V/\aoi V (bA 120)
theorem d19(V:V_)(B:B_ V)(c:c18 V):c19 V:=⟨c,R_ V _ _ B.hp B.D18 zF zQ (λn=>(fh _).2 V B.toB0_ ⟨⟩ n) 120⟩
abbrev c20(V:V_):Prop:=c19 V/\aqb V (kR)
theorem d20(V:V_)(B:B_ V)(c:c19 V):c20 V:=⟨c,M_ V _ _ B.hp B.D19 ai8<|(adx _).2 V B.toB0_ c.2⟩
abbrev c21(V:V_):Prop:=c20 V/\aox V (qH)
theorem d21(V:V_)(B:B_ V)(c:c20 V):c21 V:=⟨c,M_ V 0 ["_law_web_here",nh,"_law_links","_law_cuts","_law_taken","_law_knot","_law_p","_law_q"] B.hp B.D20 agt λ_ _ _ _ _ _ _ J hN I=>(qa (ae (qv 0)<|w5 rfl<|qz (aB (i:=1) hN rfl<|Or.inr rfl)<|qz (G_ 2 hN)<|qz (G_ 3 hN) xw)<|qa (cB (i:=4) hN rfl (Or.inr rfl) yD)<|qa (wn vb rfl (wy<|qv 1) (G_ 5 hN)<|qf<|zq (aS<|bz (qS<|qv 5)<|aR<|E_ I (L_ B.ba<|qv 5) qd) (qa (iM I (qv 4) (J_ 5) bX)<|qf<|iM I (qv 4) (J_ 5) bX) z0)<|qa (wn vb rfl (wy<|qv 3) (w5 rfl<|qz (G_ 6 hN)<|qz (G_ 7 hN) xw)<|qa (iM I (qv 4) (qv 6) bX)<|qf<|iM I (qv 4) (qv 7) bX)<|qf<|afc "_law_p'"<|za<|ajb ["_law_p"] (EY (by rfl)) rfl (wv rfl B.bh<|xj<|L_ B.ba<|qv 1) (gh nd_ (λ_ _ _ _=>Or.inl rfl) λ_ _ _ _=>rfl) (λ_ _ _ _=>cD<|aS<|bz (qS<|I_ (qv 1)<|qv 8)<|aR<|j8 (ajr I) (qv 8) (qv 4) (by with_unfolding_all rfl)) λ_ _ _ _=>(qv 8))⟩
abbrev c22(V:V_):Prop:=c21 V/\anb V (i6 V.Pt)
theorem d22(V:V_)(B:B_ V)(c:c21 V):c22 V:=⟨c,T_ V 1 [nh,"_law_seed","_law_ranks","_law_p","_law_knot","_law_rank"] B.hp B.D21 yg λ_ _ _ _ _ _ _ C I hN J=>(qa (cB (i:=2) hN rfl (Or.inr rfl)<|js wo)<|qa (wn vb rfl (kI rfl B.bp<|qv 0) (w5 rfl<|qz (G_ 3 hN)<|qz (G_ 4 hN) xw)<|qa (S_ 5 hN<|qk jl (C_ c.1.1.1.1.1.1.1.1.1.1.1.1.2 I<|cT (qv 1) (qv 3) qd) qd)<|xn (zq (E_ J (L_ B.ba<|qv 4) qd) (qf<|S_ 5 hN<|qk jr (qk jr (qv 5) qd)<|jc lZ rfl B.bj dD<|xr (I_ (qv 2)<|J_ 4)<|I_ (qv 2)<|J_ 4) z0)<|qf<|zf<|z9 (qv 2)<|xj<|qv 5)<|qf<|za<|aed rfl B.bi (vW rfl rfl B.bg rfl B.bh<|L_ B.ba<|qv 0) ⟨rfl,rfl,rfl,by decide +kernel,rfl,rfl,by decide,by decide,by decide⟩ C (dp3 I) rfl rfl rfl ⟨_,rfl,rfl⟩ rfl λ_ _ _ _ _ _ _=>rfl)⟩
abbrev c23(V:V_):Prop:=c22 V/\aos V (cW 120)
theorem d23(V:V_)(B:B_ V)(c:c22 V):c23 V:=⟨c,R_ V _ _ B.hp B.D22 ad3 aaj (λn=>(sL _).2 V B.toB0_ ⟨⟩ n) 120⟩
abbrev c24(V:V_):Prop:=c23 V/\anl V (qY V.Pt)
theorem d24(V:V_)(B:B_ V)(c:c23 V):c24 V:=⟨c,M_ V _ _ B.hp B.D23 ag2<|(ac2 _ _ _).2 V B.toB0_ ⟨c.1.1.1.1.1.1.1.1.1.1.1.1.1.1.1.2,c.1.2,c.2⟩⟩
abbrev c25(V:V_):Prop:=c24 V/\ap3 V (gD)
theorem d25(V:V_)(B:B_ V)(c:c24 V):c25 V:=⟨c,M_ V _ _ B.hp B.D24 vX<|(eX).2 V B.toB0_ ⟨⟩⟩
abbrev c26(V:V_):Prop:=c25 V/\aov V (iQ)
theorem d26(V:V_)(B:B_ V)(c:c25 V):c26 V:=⟨c,M_ V _ _ B.hp B.D25 zT<|(fk).2 V B.toB0_ ⟨⟩⟩
abbrev c27(V:V_):Prop:=c26 V/\ar4 V (iX)
theorem d27(V:V_)(B:B_ V)(c:c26 V):c27 V:=⟨c,M_ V _ _ B.hp B.D26 zO<|(tW _ _ _ _).2 V B.toB0_ ⟨c.1.1.1.1.1.1.1.1.1.1.1.1.1.1.1.1.1.1.2,c.1.2,c.1.1.1.1.1.1.1.1.1.1.1.1.1.1.1.1.1.2,c.2⟩⟩
abbrev c28(V:V_):Prop:=c27 V/\anq V (jA)
theorem d28(V:V_)(B:B_ V)(c:c27 V):c28 V:=⟨c,M_ V _ _ B.hp B.D27 aad<|(fc).2 V B.toB0_ ⟨⟩⟩
abbrev c29(V:V_):Prop:=c28 V/\aqt V (aO 4)
theorem d29(V:V_)(B:B_ V)(c:c28 V):c29 V:=⟨c,R_ V _ _ B.hp B.D28 yt aa7 (λn=>(sK _ _).2 V B.toB0_ c.2 n) 4⟩
abbrev c30(V:V_):Prop:=c29 V/\arx V (gu)
theorem d30(V:V_)(B:B_ V)(c:c29 V):c30 V:=⟨c,M_ V _ _ B.hp B.D29 afy<|(jI).2 V B.toB0_ ⟨⟩⟩
abbrev c31(V:V_):Prop:=c30 V/\aon V (pX)
theorem d31(V:V_)(B:B_ V)(c:c30 V):c31 V:=⟨c,M_ V _ _ B.hp B.D30 ahv<|(jD _ _ _).2 V B.toB0_ ⟨c.1.1.1.1.1.1.1.1.1.1.1.1.1.1.1.1.1.1.1.1.1.1.2,c.1.1.1.1.1.1.1.1.1.1.1.1.2,c.1.1.1.1.1.1.1.1.1.1.1.1.1.1.1.1.1.1.1.1.1.1.1.1.2⟩⟩
abbrev c32(V:V_):Prop:=c31 V/\ao5 V (mL)
theorem d32(V:V_)(B:B_ V)(c:c31 V):c32 V:=⟨c,M_ V _ _ B.hp B.D31 abq<|(jV _ _ _ _ _).2 V B.toB0_ ⟨c.1.1.1.1.1.1.1.1.1.1.2,c.1.1.1.1.1.1.1.1.1.1.1.2,c.1.1.1.1.1.1.1.1.1.1.1.1.1.1.1.1.1.1.1.1.2,c.1.1.1.1.1.1.1.1.1.1.1.1.1.1.1.1.1.1.2,c.1.1.1.1.1.1.1.1.1.1.1.1.1.1.1.1.1.2⟩⟩
abbrev c33(V:V_):Prop:=c32 V/\as8 V (nS V.Pt)
theorem d33(V:V_)(B:B_ V)(c:c32 V):c33 V:=⟨c,M_ V _ _ B.hp B.D32 aem<|(iD _ _ _ _).2 V B.toB0_ ⟨c.1.2,c.1.1.1.1.1.1.1.1.1.1.1.1.1.1.1.1.1.1.1.1.1.1.1.1.2,c.2,c.1.1.1.1.1.1.1.1.2⟩⟩
abbrev c34(V:V_):Prop:=c33 V/\ara V (mQ)
theorem d34(V:V_)(B:B_ V)(c:c33 V):c34 V:=⟨c,M_ V _ _ B.hp B.D33 ab3<|(xY).2 V B.toB0_ ⟨⟩⟩
theorem dL(V:V_)(B:B_ V)(c:c34 V){f:Addr}{fd:FuncData}(F:Fun V.K "law" "law" re f fd):Fn3 V.P V.w V.K V.mg V.base 175 f fd [ng] (pV V.Pt lamQ):=
 W_ V 174 [ng,"_law_stir_here","_law_web_here","_law_number_here","_law_k","_law_due_here","_law_handed","_law_found","_law_caught","e","_law_others","_law_part"] F (ae3 B.xf) λ_ _ _ _ _ _ I hN J=>(qa (S_ 1 hN<|C_ c.1.1.1.1.1.1.1.1.1.1.1.1.1.1.1.1.1.1.1.1.1.1.1.1.1.1.1.2 I<|xj<|qv 0)<|qa (S_ 2 hN<|C_ c.1.1.1.1.1.1.1.2 I<|xr (C_ c.1.1.1.1.1.1.1.1.1.1.1.1.1.1.2 I<|xj<|C_ c.1.2 I<|cT (qv 0) (qv 1) qd)<|qv 1)<|qa (S_ 3 hN<|C_ c.1.1.1.1.1.1.1.1.1.1.1.1.1.1.1.1.1.1.1.1.1.1.1.1.1.1.2 I<|xr (qv 1) qd)<|qa (S_ 4 hN<|qk jl (qk xo (qv 3) qd)<|jc lZ rfl B.bj dD<|xr qd<|L_ B.ba<|J_ 2)<|xn (zq (E_ J (qk jl (qv 3) qd) qd) (qf<|S_ 4 hN<|qk ag (qk ag (qk jl (qk xo (qv 3) qd)<|qk jr (L_ B.ba<|J_ 2) qd) qd)<|qk gi (qk jl (qk xo (qv 3) qd) qd) qd) z0)<|qa (S_ 5 hN<|C_ c.2 I<|xr (qv 2)<|qv 4)<|qa (S_ 6 hN<|C_ c.1.1.1.1.2 I<|xj<|qv 2)<|qa (S_ 7 hN a6)<|qa (S_ 8 hN a6)<|qa (ajh (i:=9) rfl rfl rfl hN rfl rfl rfl B.mv (ajo (i:=7) (c.1.1.1.1.1.1.1.1.1.1.1.1.1.1.1.1.1.1.1.1.1.1.1.1.1.1.1.1.1.2.mono (by decide)) I rfl rfl hN rfl (Or.inl rfl) λ_ _=>(xr (qv 6)<|qv 4)) λ_=>(qf<|S_ 8 hN<|qv 9))<|qa (zq (dF<|w6<|C_ c.1.1.1.1.1.2 I<|xr (qv 6)<|qv 2) (qf<|za bX) z0)<|qa (zq (iT<|qv 5) (qa (zq (aS<|mS (dF<|w6<|uC rfl B.bf (qv 8) (cR rfl B.md) rfl)<|fu<|dF<|w6<|uC rfl B.bf (qv 8) (aik rfl B.b_ValueError nZ) rfl) (qf<|za bX) z0)<|qa (S_ 10 hN<|zd<|xr (oM rfl B.bf (qv 8) (aD (cR rfl B.mw)<|aD (cR rfl B.mh)<|aD (cR rfl B.mn)<|aD (cR rfl B.mac)<|aD (cR rfl B.me) wY) rfl<|B4 rfl)<|oM rfl B.bf (qv 8) (aD (cR rfl B.mf)<|aD (cR rfl B.mm)<|aD (cR rfl B.mab)<|aD (cR rfl B.maa) wY) rfl<|B4 rfl)<|qf<|za<|kG (yG _ _ _ J) (qv 10) (zd<|xr bX bX)<|ke _) z0)<|qa (zq (aS<|mS (qS<|qv 8)<|fu<|dF<|w6<|C_ c.1.1.1.1.1.2 I<|xr (qv 7)<|qv 5) (qf<|za bX) z0)<|qa (wn vb rfl (rO<|qv 7) (G_ 11 hN)<|qf<|zf<|z9 (qv 11)<|xj a6)<|qf<|za<|C_ c.1.1.1.1.1.2 I<|xr (qv 6)<|qv 2)
theorem all_mk{l:PySem.W.OpenLaw}{w:World}{K:Ah}{h:Heap}{mg:Str->Option Value}{fa:Addr}{I:Addr}{g:Option Addr}{j:Nat}{o:Array<|Option Value}{J U:Tok}{p:Addr}{r:Addr}{t:Addr}{C:Addr}{T:Addr}{Cg:Addr}{Cj:Addr}{Ch:Addr}{Cb:Addr}{Ci:Addr}{Cf:Addr}{Pt:Addr}(X:K.In h)(G:h.Ns mainGlobals mg)(a1:mg "law"=some (.ref fa))
 (D0:zc K "is_leaf" pG)
 (D1:zc K "parts_of" gG)
 (D2:zc K "partner_of" dN)
 (D3:zc K "links_without" dc)
 (D4:zc K "cut_step" l6)
 (D5:zc K "_law_cell_at" bQ)
 (D6:zc K "_law_stir" eV)
 (D7:zc K "_law_pick" eW)
 (D8:zc K "_law_mix" ft)
 (D9:zc K "_law_name" fH)
 (D10:zc K "_law_word" fE)
 (D11:zc K "_law_flip" eJ)
 (D12:zc K "_law_weight" cH)
 (D13:zc K "_law_mirror" fq)
 (D14:zc K "_law_join" fJ)
 (D15:zc K "_law_fold" eU)
 (D16:zc K "_law_cut" nN)
 (D17:zc K "_law_tree" eL)
 (D18:zc K "_law_gather" cA)
 (D19:zc K "_law_web" fz)
 (D20:zc K "_law_open" jU)
 (D21:DefInT K "_law_order" s__law_order Pt)
 (D22:zc K "_law_moved" dI)
 (D23:zc K "_law_gapped" cL)
 (D24:zc K "_law_swapped" bO)
 (D25:zc K "_law_looped" cJ)
 (D26:zc K "_law_crossed" bH)
 (D27:zc K "_law_number" bx)
 (D28:zc K "_law_alike" dX)
 (D29:zc K "_law_copy" du)
 (D30:zc K "_law_sown" fB)
 (D31:zc K "_law_deep" fF)
 (D32:zc K "_law_grown" dR)
 (D33:zc K "_law_due" gC)
 (D34:zc K "law" re)
 (aLEAF_KINDS:PySem.W.nsIn K mainGlobals "LEAF_KINDS"=some (some<|.ref I))
 (lLEAF_KINDS:K.lookup I=some ⟨.type "tuple",g,.seq #[.str "plain" J,.str "turned" U] j,o⟩)
 (aCNoCut:PySem.W.nsIn K mainGlobals "NoCut"=some (some<|.ref p))
 (aCOnceError:PySem.W.nsIn K mainGlobals "OnceError"=some (some<|.ref r))
 (aCNoTree:PySem.W.nsIn K mainGlobals "NoTree"=some (some<|.ref t))
 (aCNoExchange:PySem.W.nsIn K mainGlobals "NoExchange"=some (some<|.ref C))
 (aCOtherWeb:PySem.W.nsIn K mainGlobals "OtherWeb"=some (some<|.ref T))
 (aCTooMany:PySem.W.nsIn K mainGlobals "TooMany"=some (some<|.ref Cg))
 (aCNoWord:PySem.W.nsIn K mainGlobals "NoWord"=some (some<|.ref Cj))
 (aCBadText:PySem.W.nsIn K mainGlobals "BadText"=some (some<|.ref Ch))
 (aCBadWeb:PySem.W.nsIn K mainGlobals "BadWeb"=some (some<|.ref Cb))
 (aCBadTree:PySem.W.nsIn K mainGlobals "BadTree"=some (some<|.ref Ci))
 (aCBadChoices:PySem.W.nsIn K mainGlobals "BadChoices"=some (some<|.ref Cf))
 (qCNoCut:PySem.W.excIn K p [.type "ValueError",.type "Exception",.type "BaseException",.type "object"] "ValueError.__new__"=true)
 (xf:L3.XF51 K r p t C T Cg Cj Ch Cb Ci Cf)
 (zmax:PySem.W.nsIn K mainGlobals "max"=some none)
 (zmin:PySem.W.nsIn K mainGlobals "min"=some none)
 (zsorted:PySem.W.nsIn K mainGlobals "sorted"=some none)
 (zlen:PySem.W.nsIn K mainGlobals "len"=some none)
 (zlist:PySem.W.nsIn K mainGlobals "list"=some none)
 (zzip:PySem.W.nsIn K mainGlobals "zip"=some none)
 (zenumerate:PySem.W.nsIn K mainGlobals "enumerate"=some none)
 (zrange:PySem.W.nsIn K mainGlobals "range"=some none)
 (zisinstance:PySem.W.nsIn K mainGlobals "isinstance"=some none)
 (ztuple:PySem.W.nsIn K mainGlobals "tuple"=some none)
 (zint:PySem.W.nsIn K mainGlobals "int"=some none)
 (zbool:PySem.W.nsIn K mainGlobals "bool"=some none)
 (zstr:PySem.W.nsIn K mainGlobals "str"=some none)
 (zValueError:PySem.W.nsIn K mainGlobals "ValueError"=some none):
 ∃fd:FuncData,(∀(s:Shared) (v:Value),BindsTo s fd ⟨[v],[]⟩ [(ng,v)])/\∀base:Heap,K.In base->base.Ns mainGlobals mg->bP l.prog w K mg base CX0 175 fa fd [ng] (spTopT lamQ K Pt):=by
 obtain⟨fL,kV,a2,pm,an,a3,ct,aL,FL⟩:=D34.ex;have e:=a1.symm.trans<|Bx X G aL;cases e;refine⟨PySem.W.fnOf "law" "law" (vf re) (jg re) (qt re) .none kV a2 pm an a3 ct,λs v=>.of_eq rfl,λbase _ _=>?_⟩;have B:B_ ⟨l.prog,w,K,mg,base,Pt,p,r,t,C,T,Cg,Cj,Ch,Cb,Ci,Cf⟩:=⟨⟨Bg X G zmax,Bg X G zmin,Bg X G zsorted,Bg X G zlen,Bg X G zlist,Bg X G zzip,Bg X G zenumerate,Bg X G zrange,Bg X G zisinstance,Bg X G ztuple,Bg X G zint,Bg X G zbool,Bg X G zstr,Bg X G zValueError,⟨I,Bx X G aLEAF_KINDS,λH=>⟨I,[V.str "plain",V.str "turned"],rfl,.inr ⟨_,_,_,lLEAF_KINDS,rfl,rfl,by show 2<=sizeLine;decide,.cons ⟨_,rfl⟩<|.cons ⟨_,rfl⟩<|.nil⟩,⟨_,_,rfl,rfl,⟨_,_,rfl,rfl,rfl⟩⟩⟩⟩⟩,⟨h,X,G⟩,D0,D1,D2,D3,D4,D5,D6,D7,D8,D9,D10,D11,D12,D13,D14,D15,D16,D17,D18,D19,D20,D21,D22,D23,D24,D25,D26,D27,D28,D29,D30,D31,D32,D33,Bx X G aCNoCut,Bx X G aCOnceError,Bx X G aCNoTree,Bx X G aCNoExchange,Bx X G aCOtherWeb,Bx X G aCTooMany,Bx X G aCNoWord,Bx X G aCBadText,Bx X G aCBadWeb,Bx X G aCBadTree,Bx X G aCBadChoices,vB qCNoCut,xf⟩;exact bP.imp (dL _ B (d34 _ B<|d33 _ B<|d32 _ B<|d31 _ B<|d30 _ B<|d29 _ B<|d28 _ B<|d27 _ B<|d26 _ B<|d25 _ B<|d24 _ B<|d23 _ B<|d22 _ B<|d21 _ B<|d20 _ B<|d19 _ B<|d18 _ B<|d17 _ B<|d16 _ B<|d15 _ B<|d14 _ B<|d13 _ B<|d12 _ B<|d11 _ B<|d10 _ B<|d9 _ B<|d8 _ B<|d7 _ B<|d6 _ B<|d5 _ B<|d4 _ B<|d3 _ B<|d2 _ B<|d1 _ B trivial) FL) λvs H Q E q=>ah4 q
theorem def_inT{K:Ah}{x:Str}{st:Stmt}{f Pt:Addr}{oc:Value}{od an:Option Addr}{mR:Array<|Option Value}{kV hE pm eK ct:Value}(a:PySem.W.nsIn K mainGlobals x=some (some<|.ref f))
 (l:K.lookup f=some ⟨oc,od,.func<|PySem.W.fnOf x x (vf st) (jg st) (qt st) .none kV hE pm an eK ct,mR⟩) (c:PySem.W.codeIn K eK x=true) (k:PySem.W.keepIn K (.ref f)=true) (C:zU K eK Pt):DefInT K x st Pt:=
 ⟨f,kV,hE,pm,an,eK,ct,a,⟨⟨oc,od,kV,hE,pm,an,eK,ct,mR,rfl,l,c,C⟩,k⟩⟩
end K51
namespace H51
noncomputable section
open PySem PySem.W PySem.W.X L2 L3 PyProof.Rows
abbrev rr:=PySem.Challenge.rw_oncewise_k51_a_step_done
abbrev p:Program:=PySem.Challenge.pw_oncewise_k51_a_step_done
abbrev top:=L3.top
abbrev ap0(i k:Nat):Stmt:=(aft<|top i).getD k<|.Pass ⟨0,0,0,0⟩
abbrev s(x:String):Str:=Str.ofString x
noncomputable abbrev S (x:String) (t:Tok):Value:=.str (Str.ofString x) t
noncomputable abbrev I (i:Int) (t:Tok):Value:=.int i t
noncomputable abbrev R (a:Addr):Value:=.ref a
abbrev E(P:Params)(k:String)(t:Tok)(v:Value):DictEntry:=⟨PyData.keyHash P<|Str.ofString k,.str (Str.ofString k) t,v⟩
noncomputable abbrev O (c:Value) (d:Data):Obj:=⟨c,none,d,#[]⟩
abbrev FN(n q:String)(st:Stmt)(I kV hE pm:Value)(an:Option Addr)(cd ct:Value):FuncData:=fnOf (Str.ofString n) (Str.ofString q) (vf st) (jg st) (qt st) I kV hE pm an cd ct
abbrev FG(n q:String)(st:Stmt):FuncData:={ fnOf (Str.ofString n) (Str.ofString q) (vf st) (jg st) (qt st) .none .none .none .none none .none .none with globals:=0 }
abbrev tu(l:Array Value):Obj:=O (.type "tuple")<|.seq l 0
abbrev fo(f:FuncData):Obj:=O (.type "function")<|.func f
abbrev go(f:FuncData):Obj:=O .none<|.func f
abbrev co(n q:String)(t l a b c fl v:Nat)(o:Bool)(m k:Nat)(x y z u:Value)(d:Nat):Obj:=O (.type "code")<|.fields #[S n t,S q<|t+1,S "/claim/cut.py"<|t+2,I l 0,I a 0,I b 0,I c 0,I fl 0,R v,.bool o,I m 0,R k,x,y,z,u,I d 0,I l 0,S "/claim/cut.py"<|d+1]
abbrev gN:Value:=S "law_oncewise_k51_a_step_done" 430
abbrev m1_:Value:=S "oncewise.cutting" 398
abbrev fX(n:String)(i:Nat)(m:Value)(r:Nat):Obj:=fo<|FN n n (top i) .none .none .none m none (R r) .none
abbrev gX(n:String)(i:Nat):Obj:=go<|FG n n<|top i
abbrev cF(n:String)(t l a v d:Nat):Obj:=co n n t l a 0 0 3 v true 181 (v+1) .none (R<|v+2) (R<|v+3) (R<|v+4) d
abbrev cC(n:String)(t l v d:Nat):Obj:=co n n t l 0 0 0 0 v false 181 (v+1) .none .none .none .none d
abbrev cS(n:String)(a I k t v:Nat):Obj:=⟨.type "type",none,.cls<|ClassData.mk (s n) [R 24] [R a,R 24,.type "ValueError",.type "Exception",.type "BaseException",.type "object"] I (s n) true [] [] false none false,#[some<|R k,none,some<|S n t,some<|S n v,some<|.builtin "ValueError.__new__",some<|.bool true]⟩
abbrev dA(P:Params)(a b:Nat)(l:Int)(c d r e:Nat):Obj:=O (.type "dict")<|.dict #[E P "__module__" a<|S "oncewise.errors" 187,E P "__firstlineno__" b<|I l c,E P "__static_attributes__" d<|R r,E P "__doc__" e .none] 2
abbrev dB(P:Params)(a q:Nat)(n:String)(J b:Nat)(l:Int)(c d r:Nat):Obj:=O (.type "dict")<|.dict #[E P "__module__" a<|S "oncewise.errors" 187,E P "__qualname__" q<|S n J,E P "__firstlineno__" b<|I l c,E P "__static_attributes__" d<|R r] 4
abbrev fR(a b:Nat):Obj:=⟨.type "frame",none,.plain,#[some<|R a,some<|R 3,some<|R b,none,some<|S "oncewise.errors" 187,none,some<|R 0]⟩
abbrev bI(a:Nat):Obj:=O (.type "builtin_function_or_method")<|.fields #[.builtin "object.__init_subclass__",R a]
abbrev sU(a:Nat):Obj:=O (.type "super")<|.fields #[R a,R a,R a]
abbrev Ob:=Params->Obj
def ev{α:Type}:Bool->List α->List α
 |_,[]=>[]
 |true,x::r=>x::ev false r
 |false,_::r=>ev true r
def bt:Nat->List Obj->BT
 |0,_=>.nil
 |_,[]=>.nil
 |n+1,x::r=>.node x (bt n<|ev true r)<|bt n<|ev false r
def env0:Env:={ scope:=p.main.scope,locals:=mainNs,globals:=mainNs,cells:=[],code:=.ref 13,frame:=some 14 }
abbrev cE:Code:=.body (behindTheImports p) env0
abbrev q0:Pos:=⟨0,0,0,0⟩
abbrev an:Option Value:=some<|.ref 6
abbrev Pc(n:Nat)(S I:World->OsState->SharedT)(l:List Stmt)(q J:Pos)(w:World):Prop:=(λos=>segRunT treeTable p w 11 an 1 n (S w os)<|piecesOf l env0 cE q [topFrame q0])=λos=>some (Flow.next,I w os,cE,J)
abbrev b0:=PySem.W.boot_o_0
abbrev b1:=PySem.W.boot_o_1
abbrev b2:=PySem.W.boot_o_2
abbrev b3:=PySem.W.boot_o_3
abbrev b4:=PySem.W.boot_o_4
abbrev b5:=PySem.W.boot_o_5
abbrev b6:=PySem.W.boot_o_6
abbrev b7:=PySem.W.boot_o_7
abbrev b8:=PySem.W.boot_o_8
abbrev b9:=PySem.W.boot_o_9
abbrev b10:=PySem.W.boot_o_10
def vk:Ob:=λ_=>tu #[]
def aq:Ob:=λ_=>O .none<|.fields #[]
def xac:Ob:=λ_=>cC "<module>" 182 1 11 185
def xad:Ob:=λ_=>⟨(.type "frame"),none,.plain,#[(some<|R 13),(some<|R 3),(some<|R 3),none,(some<|S "__main__" 164),none,(some<|R 0)]⟩
def xag:Ob:=λP=>O (.type "dict")<|.dict #[(E P "__module__" 196<|S "oncewise.errors" 187),(E P "__firstlineno__" 200<|I 2 199),(E P "__static_attributes__" 201<|R 22),(E P "__weakref__" 203<|R 25),(E P "__doc__" 204 .none)] 3
def xaj:Ob:=λ_=>O (.type "getset_descriptor")<|.fields #[S "__weakref__" 202,R 24,(.builtin "ExceptionGroup.__weakref__"),.none]
def xal:Ob:=λ_=>O (.type "builtin_function_or_method")<|.fields #[(.builtin "type.__prepare__"),(.type "type")]
def xat:Ob:=λ_=>cS "NoWord" 37 36 28 207 215
def xaw:Ob:=λP=>dA P 214 218 4 217 219 35 220
def xax:Ob:=λ_=>tu #[R 24]
def xa3:Ob:=λ_=>cS "BadText" 49 48 40 223 231
def xa5:Ob:=λP=>dA P 230 234 6 233 235 47 236
def xbe:Ob:=λ_=>cS "BadWeb" 61 60 52 239 247
def xbh:Ob:=λP=>dA P 246 250 8 249 251 59 252
def xbn:Ob:=λ_=>cS "BadTree" 73 72 64 255 263
def xbq:Ob:=λP=>dA P 262 266 10 265 267 71 268
def xby:Ob:=λ_=>cS "BadChoices" 85 84 76 271 279
def xb1:Ob:=λP=>dA P 278 282 12 281 283 83 284
def xb6:Ob:=λP=>O (.type "dict")<|.dict #[(E P "__module__" 294<|S "oncewise.errors" 187),(E P "__firstlineno__" 298<|I 14 297),(E P "__init__" 307<|R 101),(E P "__static_attributes__" 309<|R 102),(E P "__doc__" 310 .none)] 2
def xca:Ob:=λ_=>fo<|FN "__init__" "NoTree.__init__" (ap0 7 0) .none .none .none (S "oncewise.errors" 187) none (R 100) .none
def xcd:Ob:=λ_=>cS "NoTree" 104 103 88 287 295
def xcf:Ob:=λ_=>co "__init__" "NoTree.__init__" 299 16 3 0 0 3 95 true 181 96 .none (R 97) (R 98) (R 99) 305
def xcm:Ob:=λP=>dA P 320 324 19 323 325 114 326
def xct:Ob:=λ_=>cS "NoCut" 116 115 107 313 321
def xcw:Ob:=λP=>dA P 336 340 21 339 341 126 342
def xc0:Ob:=λ_=>cS "NoExchange" 128 127 119 329 337
def xc6:Ob:=λP=>dA P 352 356 23 355 357 138 358
def xdd:Ob:=λ_=>cS "OtherWeb" 140 139 131 345 353
def xdg:Ob:=λ_=>cF "partner_of" 400 37 2 170 407
def xdi:Ob:=λP=>dA P 368 372 25 371 373 150 374
def xdk:Ob:=λ_=>tu #[S "plain" 379,S "turned" 380]
def xdl:Ob:=λ_=>cF "is_leaf" 382 29 1 156 386
def xdn:Ob:=λ_=>fo<|FN "parts_of" "parts_of" (top 16) .none .none .none (S "oncewise.webs" 389) none (R 168) .none
def xdr:Ob:=λ_=>fX "links_without" 19 m1_ 180
def xdt:Ob:=λ_=>fX "partner_of" 18 m1_ 175
def xdu:Ob:=λ_=>⟨(.type "type"),none,(.cls<|ClassData.mk (s "OnceError") [(.type "ValueError")] [R 24,(.type "ValueError"),(.type "Exception"),(.type "BaseException"),(.type "object")] 23 (s "OnceError") true [] [R 37,R 49,R 61,R 73,R 85,R 104,R 116,R 128,R 140,R 152] false none false),#[(some<|R 15),none,(some<|S "OnceError" 189),(some<|S "OnceError" 197),(some<|.builtin "ValueError.__new__"),(some<|.bool true)]⟩
def xdv:Ob:=λ_=>cF "parts_of" 391 32 1 163 395
def xdw:Ob:=λ_=>cS "TooMany" 152 151 143 361 369
def xdz:Ob:=λ_=>co "links_without" "links_without" 410 44 3 0 0 3 177 true 181 178 .none .none .none (R 179) 413
def xd1:Ob:=λ_=>fo<|FN "is_leaf" "is_leaf" (top 14) .none .none .none (S "oncewise.words" 377) none (R 161) .none
def xd9:Ob:=λ_=>cF "_law_mix" 458 75 3 210 464
def xec:Ob:=λ_=>fX "_law_cell_at" 22 gN 194
def xed:Ob:=λ_=>cF "_law_word" 473 86 2 222 479
def xee:Ob:=λ_=>fX "_law_flip" 28 gN 234
def xeg:Ob:=λ_=>cF "cut_step" 416 51 2 182 427
def xej:Ob:=λ_=>fX "_law_pick" 24 gN 208
def xek:Ob:=λ_=>cF "_law_weight" 490 96 1 236 494
def xel:Ob:=λ_=>cF "_law_stir" 440 68 1 196 447
def xen:Ob:=λ_=>fX "_law_mirror" 30 gN 248
def xeo:Ob:=λ_=>fX "_law_fold" 32 gN 260
def xer:Ob:=λ_=>fX "_law_name" 26 gN 220
def xes:Ob:=λ_=>co "_law_join" "_law_join" 511 113 4 0 0 3 250 true 181 251 .none .none .none (R 252) 514
def xeu:Ob:=λ_=>cF "_law_pick" 450 73 2 203 455
def xex:Ob:=λ_=>fX "_law_mix" 25 gN 215
def xez:Ob:=λ_=>cF "_law_mirror" 497 100 2 243 508
def xe1:Ob:=λ_=>cF "_law_fold" 517 121 4 255 526
def xe2:Ob:=λ_=>fX "_law_word" 27 gN 227
def xe4:Ob:=λ_=>co "_law_name" "_law_name" 467 77 2 0 0 3 217 true 181 218 .none .none .none (R 219) 470
def xe5:Ob:=λ_=>fX "cut_step" 20 m1_ 187
def xe7:Ob:=λ_=>cF "_law_cell_at" 432 64 2 189 437
def xe9:Ob:=λ_=>fX "_law_weight" 29 gN 241
def xfa:Ob:=λ_=>fX "_law_stir" 23 gN 201
def xfb:Ob:=λ_=>cF "_law_flip" 482 91 1 229 487
def xfg:Ob:=λ_=>fX "_law_join" 31 gN 253
def xfj:Ob:=λ_=>fX "_law_web" 36 gN 286
def xfl:Ob:=λ_=>fX "_law_number" 44 gN 334
def xfm:Ob:=λ_=>co "_law_moved" "_law_moved" 589 212 2 0 0 3 300 true 181 301 .none .none .none (R 302) 592
def xfn:Ob:=λ_=>cF "_law_crossed" 623 266 2 322 630
def xfp:Ob:=λ_=>cF "_law_gather" 552 180 3 274 559
def xfq:Ob:=λ_=>fX "_law_gapped" 40 gN 310
def xfr:Ob:=λ_=>co "_law_open" "_law_open" 571 193 1 0 0 3 288 true 181 289 .none .none .none (R 290) 574
def xfu:Ob:=λ_=>fX "_law_order" 38 gN 298
def xfw:Ob:=λ_=>co "_law_swapped" "_law_swapped" 611 233 2 0 0 3 312 true 181 313 .none .none .none (R 314) 614
def xfx:Ob:=λ_=>fX "_law_looped" 42 gN 320
def xfy:Ob:=λ_=>fX "_law_tree" 34 gN 272
def xfz:Ob:=λ_=>co "_law_cut" "_law_cut" 529 129 4 0 0 3 262 true 181 263 .none .none .none (R 264) 532
def xf1:Ob:=λ_=>cF "_law_alike" 640 275 2 336 646
def xf6:Ob:=λ_=>co "_law_looped" "_law_looped" 617 249 2 0 0 3 317 true 181 318 .none .none .none (R 319) 620
def xf7:Ob:=λ_=>cF "_law_tree" 535 151 3 267 549
def xf8:Ob:=λ_=>fX "_law_moved" 39 gN 303
def xga:Ob:=λ_=>fX "_law_crossed" 43 gN 327
def xgc:Ob:=λ_=>fX "_law_gather" 35 gN 279
def xgf:Ob:=λ_=>fX "_law_open" 37 gN 291
def xgi:Ob:=λ_=>fX "_law_swapped" 41 gN 315
def xgl:Ob:=λ_=>fX "_law_cut" 33 gN 265
def xgm:Ob:=λ_=>cF "_law_order" 577 204 2 293 586
def xgq:Ob:=λ_=>fX "_law_alike" 45 gN 341
def xgr:Ob:=λ_=>cF "_law_gapped" 595 218 2 305 608
def xgs:Ob:=λ_=>cF "_law_number" 633 273 1 329 637
def xgu:Ob:=λ_=>cF "_law_web" 562 188 1 281 568
def xgv:Ob:=λP=>O (.type "dict")<|.dict #[(E P "__name__" 165<|S "law_oncewise_k51_a_step_done" 430),(E P "__doc__" 166 .none),(E P "__package__" 167 .none),(E P "__loader__" 168<|.builtin "__main__.__loader__#opaque"),(E P "__spec__" 169 .none),(E P "__annotations__" 170<|R 6),(E P "__builtins__" 171<|R 4),(E P "__file__" 173<|S "/claim/cut.py" 172),(E P "__cached__" 174 .none),(E P "OnceError" 206<|R 24),(E P "NoWord" 222<|R 37),(E P "BadText" 238<|R 49),(E P "BadWeb" 254<|R 61),(E P "BadTree" 270<|R 73),(E P "BadChoices" 286<|R 85),(E P "NoTree" 312<|R 104),(E P "NoCut" 328<|R 116),(E P "NoExchange" 344<|R 128),(E P "OtherWeb" 360<|R 140),(E P "TooMany" 376<|R 152),(E P "LEAF_KINDS" 381<|R 155),(E P "is_leaf" 388<|R 162),(E P "parts_of" 397<|R 169),(E P "partner_of" 409<|R 176),(E P "links_without" 415<|R 181),(E P "cut_step" 429<|R 188),(E P "_law_cell_at" 439<|R 195),(E P "_law_stir" 449<|R 202),(E P "_law_pick" 457<|R 209),(E P "_law_mix" 466<|R 216),(E P "_law_name" 472<|R 221),(E P "_law_word" 481<|R 228),(E P "_law_flip" 489<|R 235),(E P "_law_weight" 496<|R 242),(E P "_law_mirror" 510<|R 249),(E P "_law_join" 516<|R 254),(E P "_law_fold" 528<|R 261),(E P "_law_cut" 534<|R 266),(E P "_law_tree" 551<|R 273),(E P "_law_gather" 561<|R 280),(E P "_law_web" 570<|R 287),(E P "_law_open" 576<|R 292),(E P "_law_order" 588<|R 299),(E P "_law_moved" 594<|R 304),(E P "_law_gapped" 610<|R 311),(E P "_law_swapped" 616<|R 316),(E P "_law_looped" 622<|R 321),(E P "_law_crossed" 632<|R 328),(E P "_law_number" 639<|R 335),(E P "_law_alike" 648<|R 342),(E P "_law_copy" 655<|R 349),(E P "_law_sown" 665<|R 356),(E P "_law_deep" 680<|R 363),(E P "_law_grown" 690<|R 370),(E P "_law_due" 696<|R 375),(E P "law" 714<|R 382)] 56
def xgx:Ob:=λ_=>fX "_law_due" 50 gN 374
def xgy:Ob:=λ_=>cF "_law_sown" 656 294 3 350 663
def xgz:Ob:=λ_=>fX "_law_deep" 48 gN 362
def xg1:Ob:=λ_=>cF "_law_grown" 681 310 3 364 688
def xg5:Ob:=λ_=>fX "_law_copy" 46 gN 348
def xg6:Ob:=λ_=>cF "law" 697 339 1 376 712
def xha:Ob:=λ_=>fX "_law_sown" 47 gN 355
def xhb:Ob:=λ_=>cF "_law_copy" 649 292 1 343 653
def xhe:Ob:=λ_=>fX "_law_grown" 49 gN 369
def xhf:Ob:=λ_=>cF "_law_deep" 666 299 2 357 678
def xhh:Ob:=λ_=>co "_law_due" "_law_due" 691 317 2 0 0 3 371 true 181 372 .none .none .none (R 373) 694
def xhj:Ob:=λ_=>fX "law" 51 gN 381
def ar3:List Ob:=[b0,b1,b2,b3,b4,b5,b6,b7,b8,b9,b10,vk,aq,xac,xad]
def ao9:List Ob:=[b0,b1,b2,xgv,b4,b5,b6,b7,b8,b9,b10,vk,λ_=>O .none<|.fields #[I 2 0,I 0 0,R 20,I 4 0,I 0 0,R 33,I 6 0,I 0 0,R 45,I 8 0,I 0 0,R 57,I 10 0,I 0 0,R 69,I 12 0,I 0 0,R 81,I 14 0,I 0 0,R 93,I 19 0,I 0 0,R 112,I 21 0,I 0 0,R 124,I 23 0,I 0 0,R 136,I 25 0,I 0 0,R 148,I 29 0,I 0 0,R 161,I 32 0,I 0 0,R 168,I 37 0,I 0 0,R 175,I 44 0,I 0 0,R 180,I 51 0,I 0 0,R 187,I 64 0,I 0 0,R 194,I 68 0,I 0 0,R 201,I 73 0,I 0 0,R 208,I 75 0,I 0 0,R 215,I 77 0,I 0 0,R 220,I 86 0,I 0 0,R 227,I 91 0,I 0 0,R 234,I 96 0,I 0 0,R 241,I 100 0,I 0 0,R 248,I 113 0,I 0 0,R 253,I 121 0,I 0 0,R 260,I 129 0,I 0 0,R 265,I 151 0,I 0 0,R 272,I 180 0,I 0 0,R 279,I 188 0,I 0 0,R 286,I 193 0,I 0 0,R 291,I 204 0,I 0 0,R 298,I 212 0,I 0 0,R 303,I 218 0,I 0 0,R 310,I 233 0,I 0 0,R 315,I 249 0,I 0 0,R 320,I 266 0,I 0 0,R 327,I 273 0,I 0 0,R 334,I 275 0,I 0 0,R 341,I 292 0,I 0 0,R 348,I 294 0,I 0 0,R 355,I 299 0,I 0 0,R 362,I 310 0,I 0 0,R 369,I 317 0,I 0 0,R 374,I 339 0,I 0 0,R 381],xac,xad,λ_=>tu #[(.type "ValueError")],xal,λP=>dB P 196 198 "OnceError" 197 200 2 199 201 22,vk,aq,λ_=>cC "OnceError" 191 2 18 194,λ_=>fR 20 17,vk,xag,xdu,xaj,λ_=>sU 24,λ_=>bI 24,xax,xal,λP=>dB P 214 216 "NoWord" 215 218 4 217 219 35,vk,aq,λ_=>cC "NoWord" 209 4 31 212,λ_=>fR 33 30,vk,xaw,xat,λ_=>sU 37,λ_=>bI 37,xax,xal,λP=>dB P 230 232 "BadText" 231 234 6 233 235 47,vk,aq,λ_=>cC "BadText" 225 6 43 228,λ_=>fR 45 42,vk,xa5,xa3,λ_=>sU 49,λ_=>bI 49,xax,xal,λP=>dB P 246 248 "BadWeb" 247 250 8 249 251 59,vk,aq,λ_=>cC "BadWeb" 241 8 55 244,λ_=>fR 57 54,vk,xbh,xbe,λ_=>sU 61,λ_=>bI 61,xax,xal,λP=>dB P 262 264 "BadTree" 263 266 10 265 267 71,vk,aq,λ_=>cC "BadTree" 257 10 67 260,λ_=>fR 69 66,vk,xbq,xbn,λ_=>sU 73,λ_=>bI 73,xax,xal,λP=>dB P 278 280 "BadChoices" 279 282 12 281 283 83,vk,aq,λ_=>cC "BadChoices" 273 12 79 276,λ_=>fR 81 78,vk,xb1,xby,λ_=>sU 85,λ_=>bI 85,xax,xal,λP=>O (.type "dict")<|.dict #[(E P "__module__" 294<|S "oncewise.errors" 187),(E P "__qualname__" 296<|S "NoTree" 295),(E P "__firstlineno__" 298<|I 14 297),(E P "__init__" 307<|R 101),(E P "__static_attributes__" 309<|R 102)] 5,vk,λ_=>O .none<|.fields #[I 16 0,I 4 0,R 100],λ_=>cC "NoTree" 289 14 91 292,λ_=>fR 93 90,vk,aq,λ_=>tu #[S "self" 302,S "words" 303,S "choices" 304],vk,λ_=>go<|FG "__init__" "NoTree.__init__"<|ap0 7 0,xcf,xca,λ_=>tu #[S "choices" 308],xb6,xcd,λ_=>sU 104,λ_=>bI 104,xax,xal,λP=>dB P 320 322 "NoCut" 321 324 19 323 325 114,vk,aq,λ_=>cC "NoCut" 315 19 110 318,λ_=>fR 112 109,vk,xcm,xct,λ_=>sU 116,λ_=>bI 116,xax,xal,λP=>dB P 336 338 "NoExchange" 337 340 21 339 341 126,vk,aq,λ_=>cC "NoExchange" 331 21 122 334,λ_=>fR 124 121,vk,xcw,xc0,λ_=>sU 128,λ_=>bI 128,xax,xal,λP=>dB P 352 354 "OtherWeb" 353 356 23 355 357 138,vk,aq,λ_=>cC "OtherWeb" 347 23 134 350,λ_=>fR 136 133,vk,xc6,xdd,λ_=>sU 140,λ_=>bI 140,xax,xal,λP=>dB P 368 370 "TooMany" 369 372 25 371 373 150,vk,aq,λ_=>cC "TooMany" 363 25 146 366,λ_=>fR 148 145,vk,xdi,xdw,λ_=>sU 152,λ_=>bI 152,xdk,vk,aq,λ_=>tu #[S "word" 385],vk,λ_=>gX "is_leaf" 14,xdl,xd1,vk,aq,λ_=>tu #[S "knot" 394],vk,λ_=>gX "parts_of" 16,xdv,xdn,vk,aq,λ_=>tu #[S "links" 403,S "place" 404,S "p" 405,S "q" 406],vk,λ_=>gX "partner_of" 18,xdg,xdt,vk,aq,λ_=>gX "links_without" 19,xdz,xdr,vk,aq,λ_=>tu #[S "web" 419,S "k" 420,S "cuts" 421,S "knots" 422,S "p" 423,S "q" 424,S "links" 425,S "inner" 426],vk,λ_=>gX "cut_step" 20,xeg,xe5,vk,aq,λ_=>tu #[S "_law_script" 435,S "_law_k" 436],vk,λ_=>gX "_law_cell_at" 22,xe7,xec,vk,aq,λ_=>tu #[S "_law_script" 443,S "_law_total" 444,S "_law_k" 445,S "_law_cell" 446],vk,λ_=>gX "_law_stir" 23,xel,xfa,vk,aq,λ_=>tu #[S "_law_stir_here" 453,S "_law_factor" 454],vk,λ_=>gX "_law_pick" 24,xeu,xej,vk,aq,λ_=>tu #[S "_law_cell" 461,S "_law_k" 462,S "_law_factor" 463],vk,λ_=>gX "_law_mix" 25,xd9,xex,vk,aq,λ_=>gX "_law_name" 26,xe4,xer,vk,aq,λ_=>tu #[S "_law_knots" 476,S "_law_p" 477,S "_law_knot" 478],vk,λ_=>gX "_law_word" 27,xed,xe2,vk,aq,λ_=>tu #[S "_law_word_here" 485,S "_law_sides" 486],vk,λ_=>gX "_law_flip" 28,xfb,xee,vk,aq,λ_=>tu #[S "_law_word_here" 493],vk,λ_=>gX "_law_weight" 29,xek,xe9,vk,aq,λ_=>tu #[S "_law_knots" 500,S "_law_word_here" 501,S "_law_left" 502,S "_law_right" 503,S "_law_turn" 504,S "_law_same" 505,S "_law_low" 506,S "_law_high" 507],vk,λ_=>gX "_law_mirror" 30,xez,xen,vk,aq,λ_=>gX "_law_join" 31,xes,xfg,vk,aq,λ_=>tu #[S "_law_knots" 520,S "_law_tree_here" 521,S "_law_one" 522,S "_law_two" 523,S "_law_left" 524,S "_law_right" 525],vk,λ_=>gX "_law_fold" 32,xe1,xeo,vk,aq,λ_=>gX "_law_cut" 33,xfz,xgl,vk,aq,λ_=>tu #[S "_law_cells" 538,S "_law_seed" 539,S "_law_room" 540,S "_law_knots" 541,S "_law_forest" 542,S "_law_k" 543,S "_law_cell" 544,S "_law_one" 545,S "_law_two" 546,S "_law_deed" 547,S "_law_at" 548],vk,λ_=>gX "_law_tree" 34,xf7,xfy,vk,aq,λ_=>tu #[S "_law_rule" 555,S "_law_links" 556,S "_law_cuts" 557,S "_law_arm" 558],vk,λ_=>gX "_law_gather" 35,xfp,xgc,vk,aq,λ_=>tu #[S "_law_tree_here" 565,S "_law_links" 566,S "_law_cuts" 567],vk,λ_=>gX "_law_web" 36,xgu,xfj,vk,aq,λ_=>gX "_law_open" 37,xfr,xgf,vk,aq,λ_=>tu #[S "_law_knots" 580,S "_law_seed" 581,S "_law_p" 582,S "_law_knot" 583,S "_law_rank" 584],λ_=>tu #[S "_law_ranks" 585],λ_=>gX "_law_order" 38,xgm,xfu,vk,aq,λ_=>gX "_law_moved" 39,xfm,xf8,vk,aq,λ_=>tu #[S "_law_tree_here" 598,S "_law_stir_here" 599,S "_law_number_here" 600,S "_law_gap" 601,S "_law_offset" 602,S "_law_at" 603,S "_law_made" 604,S "_law_k" 605,S "_law_p" 606,S "_law_knot" 607],vk,λ_=>gX "_law_gapped" 40,xgr,xfq,vk,aq,λ_=>gX "_law_swapped" 41,xfw,xgi,vk,aq,λ_=>gX "_law_looped" 42,xf6,xfx,vk,aq,λ_=>tu #[S "_law_web_here" 626,S "_law_stir_here" 627,S "_law_number_here" 628,S "_law_k" 629],vk,λ_=>gX "_law_crossed" 43,xfn,xga,vk,aq,λ_=>tu #[S "_law_x" 636],vk,λ_=>gX "_law_number" 44,xgs,xfl,vk,aq,λ_=>tu #[S "_law_found" 643,S "_law_due_here" 644,S "_law_k" 645],vk,λ_=>gX "_law_alike" 45,xf1,xgq,vk,aq,λ_=>tu #[S "_law_web_here" 652],vk,λ_=>gX "_law_copy" 46,xhb,xg5,vk,aq,λ_=>tu #[S "_law_script" 659,S "_law_stir_here" 660,S "_law_wide" 661,S "_law_room" 662],vk,λ_=>gX "_law_sown" 47,xgy,xha,vk,aq,λ_=>tu #[S "_law_tree_here" 669,S "_law_number_here" 670,S "_law_knots" 671,S "_law_ends" 672,S "_law_p" 673,S "_law_word_here" 674,S "_law_rule" 675,S "_law_q" 676,S "_law_same" 677],vk,λ_=>gX "_law_deep" 48,xhf,xgz,vk,aq,λ_=>tu #[S "_law_script" 684,S "_law_stir_here" 685,S "_law_wide" 686,S "_law_tree_here" 687],vk,λ_=>gX "_law_grown" 49,xg1,xhe,vk,aq,λ_=>gX "_law_due" 50,xhh,xgx,vk,aq,λ_=>tu #[S "_law_script" 700,S "_law_stir_here" 701,S "_law_web_here" 702,S "_law_number_here" 703,S "_law_k" 704,S "_law_due_here" 705,S "_law_handed" 706,S "_law_found" 707,S "_law_caught" 708,S "e" 709,S "_law_others" 710,S "_law_part" 711],vk,λ_=>gX "law" 51,xg6,xhj]
def ar5:List Ob:=[b0,b1,b2,b3,b4,b5,b6,b7,b8,b9,b10,vk,aq,xac,xad]
def apk:List Ob:=ao9
def hpA(P:Params):Heap:=⟨⟨ar3.map (· P)⟩,{}⟩
def hpZ(P:Params):Heap:=⟨⟨ao9.map (· P)⟩,{}⟩
def tr0(P:Params):BT:=bt 20 (ar5.map (· P))
def asu(P:Params):BT:=bt 20 (apk.map (· P))
def sA(w:World)(os:OsState):Shared:=⟨hpA w.params,#[],{},187,os⟩
def sZ(w:World)(os:OsState):Shared:=⟨hpZ w.params,#[],{},715,os⟩
def st0(w:World)(os:OsState):SharedT:=⟨tr0 w.params,15,{},#[],{},187,os⟩
def ap9(w:World)(os:OsState):SharedT:=⟨asu w.params,383,{},#[],{},715,os⟩
def alx:List Stmt:=((behindTheImports p).drop 0).take 52
theorem ar9(w:World):(λos=>topGo treeTable p w 11 an 12 ⟨boot_heap w.params,#[],boot_drawn,boot_toks,os⟩<|topStub p)=λos=>some (sA w os,⟨denote treeTable cE,cE,⟨0,0,0,0⟩,[topFrame q0]⟩):=by kernel_rfl
theorem aqp(w:World):(λos=>segRun treeTable p w 11 an 1 1 (sA w os)<|blockOf (behindTheImports p) env0 cE ⟨0,0,0,0⟩ [topFrame q0])=λos=>some (.next,(st0 w os).abs,cE,⟨0,0,0,0⟩):=by kernel_rfl
theorem pc1:∀w,Pc 3499 st0 ap9 alx ⟨0,0,0,0⟩ ⟨339,0,365,49⟩ w:=λw=>by kernel_rfl
theorem ark(w:World):(λos=>topRun treeTable p w 11 an 2 (ap9 w os).abs ⟨doneF .next,cE,⟨339,0,365,49⟩,[topFrame q0]⟩)=λos=>some (sZ w os):=by kernel_rfl
theorem apy:alx++([])=behindTheImports p:=by kernel_rfl
theorem arp(w:World)(os:OsState):topRun treeTable p w 11 an (12+(1+(3499+(2)))) ⟨boot_heap w.params,#[],boot_drawn,boot_toks,os⟩ (topStub p)=some (sZ w os):=by have h:=(piece_app (l:=alx) (rest:=[]) (segRun_of<|Er (pc1 w) os)<|piece_nil (env:=env0)<|Er (ark w) os);rw[apy] at h;exact go_top (Er (ar9 w) os)<|piece_block (Er (aqp w) os) h
def as0:List Nat:=[0,1,2,3,4,5,6,7,8,9,10,13,23,24,25,36,37,48,49,60,61,72,73,84,85,100,101,103,104,115,116,127,128,139,140,151,152,155,161,162,168,169,175,176,180,181,187,188,194,195,201,202,208,209,215,216,220,221,227,228,234,235,241,242,248,249,253,254,260,261,265,266,272,273,279,280,286,287,291,292,294,298,299,303,304,310,311,315,316,320,321,327,328,334,335,341,342,348,349,355,356,362,363,369,370,374,375,381,382]
def vw:Program:={ p with main:={ p.main with body:=[top 1,top 2,top 3,top 4,top 5,top 6,top 7,top 8,top 9,top 10,top 11,top 13,top 14,top 16,top 18,top 19,top 20,top 22,top 23,top 24,top 25,top 26,top 27,top 28,top 29,top 30,top 31,top 32,top 33,top 34,top 35,top 36,top 37,top 38,top 39,top 40,top 41,top 42,top 43,top 44,top 45,top 46,top 47,top 48,top 49,top 50,top 51] } }
def K0:Params->Frag:=λP=>(nat_lit 0,b0 P)::(nat_lit 1,b1 P)::(nat_lit 2,b2 P)::(nat_lit 3,xgv P)::(nat_lit 4,b4 P)::(nat_lit 5,b5 P)::(nat_lit 6,b6 P)::(nat_lit 7,b7 P)::(nat_lit 8,b8 P)::(nat_lit 9,b9 P)::(nat_lit 10,b10 P)::(nat_lit 13,xac P)::(nat_lit 23,xag P)::(nat_lit 24,xdu P)::(nat_lit 25,xaj P)::(nat_lit 36,xaw P)::(nat_lit 37,xat P)::(nat_lit 48,xa5 P)::(nat_lit 49,xa3 P)::(nat_lit 60,xbh P)::(nat_lit 61,xbe P)::(nat_lit 72,xbq P)::(nat_lit 73,xbn P)::(nat_lit 84,xb1 P)::(nat_lit 85,xby P)::(nat_lit 100,xcf P)::(nat_lit 101,xca P)::(nat_lit 103,xb6 P)::(nat_lit 104,xcd P)::(nat_lit 115,xcm P)::(nat_lit 116,xct P)::(nat_lit 127,xcw P)::(nat_lit 128,xc0 P)::(nat_lit 139,xc6 P)::(nat_lit 140,xdd P)::(nat_lit 151,xdi P)::(nat_lit 152,xdw P)::(nat_lit 155,xdk P)::(nat_lit 161,xdl P)::(nat_lit 162,xd1 P)::(nat_lit 168,xdv P)::(nat_lit 169,xdn P)::(nat_lit 175,xdg P)::(nat_lit 176,xdt P)::(nat_lit 180,xdz P)::(nat_lit 181,xdr P)::(nat_lit 187,xeg P)::(nat_lit 188,xe5 P)::(nat_lit 194,xe7 P)::(nat_lit 195,xec P)::(nat_lit 201,xel P)::(nat_lit 202,xfa P)::(nat_lit 208,xeu P)::(nat_lit 209,xej P)::(nat_lit 215,xd9 P)::(nat_lit 216,xex P)::(nat_lit 220,xe4 P)::(nat_lit 221,xer P)::(nat_lit 227,xed P)::(nat_lit 228,xe2 P)::(nat_lit 234,xfb P)::(nat_lit 235,xee P)::(nat_lit 241,xek P)::(nat_lit 242,xe9 P)::(nat_lit 248,xez P)::(nat_lit 249,xen P)::(nat_lit 253,xes P)::(nat_lit 254,xfg P)::(nat_lit 260,xe1 P)::(nat_lit 261,xeo P)::(nat_lit 265,xfz P)::(nat_lit 266,xgl P)::(nat_lit 272,xf7 P)::(nat_lit 273,xfy P)::(nat_lit 279,xfp P)::(nat_lit 280,xgc P)::(nat_lit 286,xgu P)::(nat_lit 287,xfj P)::(nat_lit 291,xfr P)::(nat_lit 292,xgf P)::(nat_lit 294,aq P)::(nat_lit 298,xgm P)::(nat_lit 299,xfu P)::(nat_lit 303,xfm P)::(nat_lit 304,xf8 P)::(nat_lit 310,xgr P)::(nat_lit 311,xfq P)::(nat_lit 315,xfw P)::(nat_lit 316,xgi P)::(nat_lit 320,xf6 P)::(nat_lit 321,xfx P)::(nat_lit 327,xfn P)::(nat_lit 328,xga P)::(nat_lit 334,xgs P)::(nat_lit 335,xfl P)::(nat_lit 341,xf1 P)::(nat_lit 342,xgq P)::(nat_lit 348,xhb P)::(nat_lit 349,xg5 P)::(nat_lit 355,xgy P)::(nat_lit 356,xha P)::(nat_lit 362,xhf P)::(nat_lit 363,xgz P)::(nat_lit 369,xg1 P)::(nat_lit 370,xhe P)::(nat_lit 374,xhh P)::(nat_lit 375,xgx P)::(nat_lit 381,xg6 P)::(nat_lit 382,xhj P)::[]
abbrev lamC:Nat:=298
abbrev lamT:Nat:=294
abbrev lamO:Ob:=xgm
abbrev ls:List Str:=[]
abbrev Xt:Shared->Bool:=λs=>xlAt vw [] s&&recOk (RowW.records rr.row.toRowW) s
theorem aot(w:World):((boot_heap w.params).isNs mainGlobals&&(#[]:Array GenState).size==0,(boot_heap w.params).objs.size,(boot_heap w.params).nsMap mainGlobals "__annotations__")=(true,11,an):=by kernel_rfl
theorem asj:opening p=plainProg p.main.scope.names:=by kernel_rfl
theorem arc(s:Shared):fenceModules? p s=some s:=by kernel_rfl
theorem zW(w:World):(λos=>(staticsOk (importedModules p.main.body) (boot_heap w.params) (hpZ w.params)&&namesBound p (hpZ w.params)&&gensDone (sZ w os)&&laidKept (boot_heap w.params) (hpZ w.params)))=λ_=>true:=by kernel_rfl
theorem lk2(w:World):(λos=>openSeen vw ls (importedModules p.main.body) Xt true<|sZ w os)=λ_=>openGood vw ls:=by kernel_rfl
theorem lk3(w:World):(λos=>obsZ as0<|sZ w os)=λ_=>valZ K0 383 715 w:=by kernel_rfl
theorem left_:LeftO p vw ls Xt (obsZ as0) (valZ K0 383 715) 7096:=LeftO.of_pieces (boot_open asj rfl arc) aot arp rfl λw=>funext λos=>looks_pair (Er (zW w) os)<|looks_pair (Er (lk2 w) os)<|Er (lk3 w) os
end
end H51
open PySem PySem.W PyProof.Rows
set_option maxRecDepth 100000 in
set_option maxHeartbeats 0 in
theorem PySem.Challenge.cw_oncewise_k51_a_step_done_holds : PySem.Challenge.rw_oncewise_k51_a_step_done.Holds := by
 w_on;refine holds_law (by unfold OpenLaw.wellSaid OpenRow.wellSaid OpenRow.partSaid looksOpen;walk_at "y";walk_at "y";walk_at "y";walk_at "y";walk_at "y";walk_at "y";all_goals decide +kernel) λJ=>?_
 refine holds_openX (q:=H51.vw) (loose:=H51.ls) (Xt:=H51.Xt) (XP:=XL H51.vw []) (Yf:=PySem.W.X.obsZ H51.as0) (Ya:=PySem.W.X.valZ H51.K0 383 715) (N:=7096) H51.left_ (λs e=>xl_of s (Bool.and_eq_true_iff.mp e).1)
  XL.keeps (by rfl) (by rfl) (by rfl) (λs e=>recFacts_of (Bool.and_eq_true_iff.mp e).2)
  (by rfl) (by decide +kernel) (by decide +kernel) ⟨rfl,rfl,rfl,rfl,rfl,by decide +kernel⟩ ?hw ?hc
 case hw=>w_witness2
 k_fill
 refine L2.walk_ofZT (l:=PySem.Challenge.rw_oncewise_k51_a_step_done) (n:=63) (k:=175) (x:="_law_script") (CX:=L2.CX0) (sp:=L3.spTopT L3.lamQ) rfl (by decide) rfl ⟨rfl,by decide,by decide⟩ (λ_=>rfl) (by decide) ?F ?S ?C
 case F=>
  intro w r t h g G I;have T:(H51.K0 w.params).lookup H51.lamT=some (PySem.W.tabObj #[]):=by k_is
  have U:(H51.K0 w.params).lookup H51.lamC=some (H51.lamO w.params):=by k_is
  have hd:∀h:Heap,h.get? H51.lamC=some (H51.lamO w.params)->PySem.W.CodeHd h H51.lamC H51.lamT:=λh e=>⟨_,_,_,_,_,_,_,_,_,e,rfl,rfl,rfl,rfl,rfl,rfl,rfl,rfl,by decide⟩;have j:(H51.K0 w.params).lookup 4=some (PySem.W.boot_o_4 w.params):=by k_is
  have o:L3.DefInT (L2.lessK H51.lamT<|H51.K0 w.params) "_law_order" L3.s__law_order H51.lamT:=by
   refine' K51.def_inT (L2.ns_dn T ?a) (L2.lk_dn T ?l ?n) (L2.code_dn T ?c) (L2.keep_dn T ?k) ?LC
   (case a=>k_is);(case l=>k_is);(case n=>(intro e;cases e));(case c=>k_is);(case k=>k_is)
   refine'⟨⟨H51.lamC,_,rfl,L2.lk_dn T U ?m,hd⟩,⟨4,_,L2.ns_dn T ?b,by decide,by decide,L2.lk_dn T j ?p,rfl,rfl,rfl⟩⟩
   (case m=>(intro e;cases e));(case b=>k_is);(case p=>(intro e;cases e))
  refine⟨H51.lamT,⟨T,⟨H51.lamC,λh X=>hd h<|X _ _ U⟩,by decide⟩,?_⟩;refine' K51.all_mk (K:=L2.lessK H51.lamT<|H51.K0 w.params) (L2.lessK_in g) G I ?D0 ?D1 ?D2 ?D3 ?D4 ?D5 ?D6 ?D7 ?D8 ?D9 ?D10 ?D11 ?D12 ?D13 ?D14 ?D15 ?D16 ?D17 ?D18 ?D19 ?D20 ?D21 ?D22 ?D23 ?D24 ?D25 ?D26 ?D27 ?D28 ?D29 ?D30 ?D31 ?D32 ?D33 ?D34 ?aLEAF_KINDS ?lLEAF_KINDS ?aCNoCut ?aCOnceError ?aCNoTree ?aCNoExchange ?aCOtherWeb ?aCTooMany ?aCNoWord ?aCBadText ?aCBadWeb ?aCBadTree ?aCBadChoices ?qCNoCut ?xf ?zmax ?zmin ?zsorted ?zlen ?zlist ?zzip ?zenumerate ?zrange ?zisinstance ?ztuple ?zint ?zbool ?zstr ?zValueError
  (case aCNoCut=>(refine' L2.ns_dn T ?_;k_is))
  (case aCOnceError=>(refine' L2.ns_dn T ?_;k_is))
  (case aCNoTree=>(refine' L2.ns_dn T ?_;k_is))
  (case aCNoExchange=>(refine' L2.ns_dn T ?_;k_is))
  (case aCOtherWeb=>(refine' L2.ns_dn T ?_;k_is))
  (case aCTooMany=>(refine' L2.ns_dn T ?_;k_is))
  (case aCNoWord=>(refine' L2.ns_dn T ?_;k_is))
  (case aCBadText=>(refine' L2.ns_dn T ?_;k_is))
  (case aCBadWeb=>(refine' L2.ns_dn T ?_;k_is))
  (case aCBadTree=>(refine' L2.ns_dn T ?_;k_is))
  (case aCBadChoices=>(refine' L2.ns_dn T ?_;k_is))
  (case D0|D1|D2|D3|D4|D5|D6|D7|D8|D9|D10|D11|D12|D13|D14|D15|D16|D17|D18|D19|D20|D22|D23|D24|D25|D26|D27|D28|D29|D30|D31|D32|D33|D34=>refine' L2.def_in (L2.ns_dn T ?a) (L2.lk_dn T ?l ?n) (L2.code_dn T ?c)<|L2.keep_dn T ?k;(case a=>k_is);(case l=>k_is);(case n=>(intro e;cases e));(case c=>k_is);(case k=>k_is))
  (case D21=>exact o)
  (case aLEAF_KINDS=>(refine' L2.ns_dn T ?_;k_is))
  (case lLEAF_KINDS=>(refine' L2.lk_dn T ?x ?n;(case x=>k_is);(case n=>(intro e;cases e))))
  (case qCNoCut=>(refine' L2.exc_dn T ?_;k_exc))
  (case xf=>(refine' L3.XF51.dn T ?_;(refine' L3.XF51.mk ?hd ?em ?o1 ?o2 ?on ?ve;(case hd=>(refine' L3.xhd_of ?ga ?gt ?cl ?ge ?tk ?mo ?be ?h;(case ga=>k_is);(case gt=>k_is);(case cl=>k_is);(case ge=>k_is);(case tk=>k_is);(case mo=>k_is);(case be=>k_is);(case h=>k_is)));(case em=>(refine' L3.exm_own ?h0 ?h1 ?h2 ?h3;(case h0=>k_is);(case h1=>k_is);(case h2=>k_is);(case h3=>k_is)));(case o1=>(refine' L3.kitAny_no ?z ?_;(case z=>(refine' L3.kit_own ?a ?b ?c ?d;(case a=>rfl);(case b=>k_is);(case c=>k_is);(case d=>k_is)));refine' L3.kitAny_no ?z ?_;(case z=>(refine' L3.kit_own ?a ?b ?c ?d;(case a=>rfl);(case b=>k_is);(case c=>k_is);(case d=>k_is)));refine' L3.kitAny_no ?z ?_;(case z=>(refine' L3.kit_own ?a ?b ?c ?d;(case a=>rfl);(case b=>k_is);(case c=>k_is);(case d=>k_is)));refine' L3.kitAny_no ?z ?_;(case z=>(refine' L3.kit_own ?a ?b ?c ?d;(case a=>rfl);(case b=>k_is);(case c=>k_is);(case d=>k_is)));exact rfl));(case o2=>(refine' L3.kitAny_no ?z ?_;(case z=>(refine' L3.kit_own ?a ?b ?c ?d;(case a=>rfl);(case b=>k_is);(case c=>k_is);(case d=>k_is)));refine' L3.kitAny_no ?z ?_;(case z=>(refine' L3.kit_own ?a ?b ?c ?d;(case a=>rfl);(case b=>k_is);(case c=>k_is);(case d=>k_is)));refine' L3.kitAny_no ?z ?_;(case z=>(refine' L3.kit_own ?a ?b ?c ?d;(case a=>rfl);(case b=>k_is);(case c=>k_is);(case d=>k_is)));refine' L3.kitAny_no ?z ?_;(case z=>(refine' L3.kit_own ?a ?b ?c ?d;(case a=>rfl);(case b=>k_is);(case c=>k_is);(case d=>k_is)));refine' L3.kitAny_no ?z ?_;(case z=>(refine' L3.kit_own ?a ?b ?c ?d;(case a=>rfl);(case b=>k_is);(case c=>k_is);(case d=>k_is)));exact rfl));(case on=>exact L3.kit_self);(case ve=>(refine' L3.kit_blt ?a ?b;(case a=>rfl);(case b=>k_is))))))
  (case zmax|zmin|zsorted|zlen|zlist|zzip|zenumerate|zrange|zisinstance|ztuple|zint|zbool|zstr|zValueError=>(refine' L2.ns_dn T ?_;k_is))
 case S=>exact L3.top_startT
 case C=>exactλ_ _ _ _ z=>z
#print axioms PySem.Challenge.cw_oncewise_k51_a_step_done_holds
