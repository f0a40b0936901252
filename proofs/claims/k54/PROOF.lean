import PyProof.Rows.All
import Wide.All
import OpenK.AllK
import Wide.FinOn
import Lean
import PyProof.EqAt
import PyProof.EqKinds
import PyProof.TupleCall
import PyProof.NeKinds
import PySem.Challenge.RW_oncewise_k54_links_walked_through_cuts
import OpenK.ZGo
set_option genSizeOf false
set_option bootstrap.genMatcherCode false
set_option compiler.extract_closed false
set_option hygiene false
local macro_rules|`(tactic| walk_at "t")=>`(tactic| (first|assumption|exact Nat.succ_pos _|exact qw.tk (by assumption)|exact Nat.lt_of_lt_of_le (qw.tk (by assumption)) (Nat.le_add_right _ _)|exact Nat.lt_of_lt_of_le (qw.tk (by assumption)) (by assumption)))
set_option hygiene true
local macro_rules|`(tactic| walk_at "w")=>`(tactic| conv=>whnf)
local macro_rules|`(tactic| walk_at "y")=>`(tactic| ((refine PySem.W.look_both ?_ ?_);(refine PySem.W.look_both ?_ ?_);(refine PySem.W.look_both ?_ ?_);(refine PySem.W.look_both ?_ ?_);(refine PySem.W.look_both ?_ ?_);(refine PySem.W.look_both ?_ ?_)))
set_option Elab.async false
set_option linter.all false
set_option maxRecDepth 100000
abbrev Aa:=@PySem.wpAny_bind
abbrev Ab:=@List.mem_cons_of_mem
abbrev Ac:=@PyProof.Rows.wpS_bind
abbrev Ad:=@List.length_append
abbrev Ae:=@PyProof.Rows.wpS_pure
abbrev Af:=@List.length_map
abbrev Ag:=@List.mem_append_right
abbrev Ah:=@PySem.W.Frag
abbrev Ai:=@PySem.wpAny_pure
abbrev Aj:=@List.mem_cons_self
abbrev Ak:=@List.mem_append
abbrev Al:=@List.getElem?_eq_getElem
abbrev Am:=@List.mem_cons
abbrev An:=@List.mem_singleton
abbrev Ao:=@List.mem_append_left
abbrev Ap:=@Nat.le_refl
abbrev Aq:=@List.nodup_append
abbrev Ar:=@List.append_assoc
abbrev Au:=@List.getElem?_map
abbrev Av:=@List.nodup_cons
abbrev Aw:=@List.size_toArray
abbrev Ay:=@if_neg
abbrev Az:=@List.mem_of_getElem?
abbrev AA:=@if_pos
abbrev AB:=@Option.map_eq_some_iff
abbrev AC:=@List.append_nil
abbrev AD:=@decide_eq_false
abbrev AE:=@List.getElem?_append_left
abbrev AF:=@List.length_cons
abbrev AG:=@Ne.symm
abbrev AH:=@List.mem_filter
abbrev AI:=@List.map_append
abbrev AJ:=@List.map_cons
abbrev AK:=@decide_eq_true
abbrev AL:=@List.getElem?_eq_some_iff
abbrev AM:=@PyProof.Rows.wpS_forRange
abbrev AN:=@List.getElem?_append_right
abbrev AO:=@Nat.lt_of_lt_of_le
abbrev AQ:=@Bool.false_ne_true
abbrev AR:=@List.pairwise_append
abbrev AS:=@List.take_of_length_le
abbrev AU:=@List.perm_append_comm
abbrev AV:=@PyProof.Rows.wpS_mono
abbrev AW:=@Nat.le_trans
abbrev AX:=@PySem.wpAny_field
abbrev AY:=@PySem.wpAny_mono
abbrev AZ:=@List.length_take
abbrev A3:=@Int.natCast_nonneg
abbrev A4:=@List.perm_ext_iff_of_nodup
abbrev A5:=@List.getElem?_set_ne
abbrev A6:=@PySem.wpAny_holding
abbrev A7:=@List.flatMap_append
abbrev A8:=@List.take_append_drop
abbrev A9:=@Nat.ne_of_lt
abbrev Ba:=@List.mem_range
abbrev Bb:=@Nat.zero_le
abbrev Bc:=@Array.length_toList
abbrev Bd:=@Bool.and_eq_true
abbrev Be:=@Option.some.inj
abbrev Bf:=@Array.toList_append
abbrev Bg:=@Nat.le_add_right
abbrev Bh:=@List.mem_flatMap
abbrev Bi:=@Array.getElem?_toList
abbrev Bj:=@Nat.add_sub_cancel_left
abbrev Bk:=@List.length_set
abbrev Bl:=@PySem.W.mg_none_of
abbrev Bm:=@List.take_succ
abbrev Bo:=@PySem.wpAny_seqItems
abbrev Bp:=@Array.size_push
abbrev Bq:=@List.flatMap_cons
abbrev Br:=@List.filter_append
abbrev Bt:=@PySem.W.kia_one
abbrev Bu:=@PySem.wpAny_newObj_type
abbrev Bv:=@PySem.wpAny_rule
abbrev Bw:=@List.getD_eq_getElem?_getD
abbrev Bx:=@List.not_mem_nil
abbrev Bz:=@List.take_length
abbrev BA:=@List.perm_append_right_iff
abbrev BB:=@Int.toNat_natCast
abbrev BC:=@Nat.lt_succ_of_lt
abbrev BD:=@List.perm_append_left_iff
abbrev BE:=@List.find?_cons
abbrev BF:=@List.length_drop
abbrev BG:=@List.lookup_cons
abbrev BH:=@Nat.lt_succ_self
abbrev BI:=@PySem.mem_of_lookup
abbrev BJ:=@List.getElem?_eq_none
abbrev BK:=@Nat.le_of_lt
abbrev BL:=@List.getElem_take
abbrev BM:=@congrArg
abbrev BN:=@List.mem_of_mem_take
abbrev BO:=@Nat.min_eq_left
abbrev BP:=@Int.ofNat_inj
abbrev BQ:=@Nat.succ_pos
abbrev BR:=@List.getElem?_set_self
abbrev BS:=@Int.le_of_lt
abbrev BU:=@List.getElem_of_mem
abbrev BV:=@Nat.le_succ_of_le
abbrev BW:=@Array.size_append
abbrev BX:=@List.mem_map
abbrev BY:=@Int.le_trans
abbrev BZ:=@Bool.false_eq_true
abbrev B0:=@PySem.W.hideAll_none
abbrev B1:=@List.length_range
abbrev B3:=@Int.zero_add
abbrev B4:=@List.filter_nil
abbrev B5:=@List.drop_eq_getElem_cons
abbrev B6:=@List.length_filter_le
abbrev B7:=@List.eq_nil_of_length_eq_zero
abbrev B8:=@List.filter_cons_of_neg
abbrev B9:=@List.filter_cons_of_pos
abbrev Ce:=@Nat.exists_eq_add_of_le
abbrev Cf:=@PySem.W.mg_of
abbrev Cg:=@Nat.min_eq_right
abbrev Ci:=@List.perm_middle
abbrev Cj:=@Nat.max_eq_right
abbrev Ck:=@Nat.lt_of_le_of_ne
abbrev Cm:=@List.perm_append_singleton
abbrev Cn:=@List.append_of_mem
abbrev Co:=@List.length_replicate
abbrev Cp:=@Nat.le_of_ble_eq_true
abbrev Cq:=@List.forIn_cons
abbrev Cr:=@List.nil_append
abbrev Cs:=@Nat.max_eq_left
abbrev Ct:=@PySem.W.look_both
abbrev Cu:=@List.map_map
abbrev Cv:=@Nat.lt_or_ge
abbrev Cw:=@List.pairwise_map
abbrev Cy:=@List.Sublist.refl
abbrev Cz:=@Nat.lt_irrefl
abbrev CA:=@List.any_cons
abbrev CB:=@PyProof.Rows.slot_tuple_getitem
abbrev CC:=@List.getElem_mem
abbrev CD:=@List.Perm.refl
abbrev CF:=@Int.mul_le_mul_of_nonneg_right
abbrev CG:=@PySem.W.of_hideAll
abbrev CH:=@Nat.ne_of_gt
abbrev CI:=@PySem.W.funFrames_hide
abbrev CK:=@List.getElem_cons_drop
abbrev CL:=@List.length_singleton
abbrev CM:=@Nat.sub_eq_zero_of_le
abbrev CN:=@PyProof.Rows.callWith_type1
abbrev CO:=@Option.isSome_map
abbrev CP:=@Nat.le_of_lt_succ
abbrev CQ:=@Bool.not_eq_true'
abbrev CS:=@Nat.le_succ
abbrev CT:=@List.mem_of_mem_drop
abbrev CU:=@Array.toList_reverse
abbrev CV:=@Nat.le_sub_one_of_lt
abbrev CW:=@List.nodup_nil
abbrev CY:=@Nat.succ_le_succ
abbrev CZ:=@List.flatMap_nil
abbrev C0:=@List.nodup_range
abbrev C1:=@List.filter_cons
abbrev C2:=@List.sublist_append_right
abbrev C3:=@List.pairwise_iff_getElem
abbrev C4:=@PySem.W.hideAll_get
abbrev C5:=@List.filterMap_cons
abbrev C6:=@List.reverse_append
abbrev C7:=@List.mem_map_of_mem
abbrev C8:=@List.perm_iff_count
abbrev C9:=@Nat.le_add_left
abbrev De:=@List.length_zip
abbrev Df:=@Nat.lt_of_le_of_lt
abbrev Dg:=@Array.size_extract
abbrev Di:=@Option.toList_some
abbrev Dj:=@List.getElem?_replicate
abbrev Dk:=@List.getElem?_cons_succ
abbrev Dl:=@List.length_eraseIdx_le
abbrev Dm:=@List.eraseIdx_cons_succ
abbrev Do:=@Int.le_refl
abbrev Dp:=@Nat.lt_add_of_pos_right
abbrev Dq:=@List.getElem?_set_self'
abbrev Dr:=@List.map_nil
abbrev Ds:=@List.forIn_nil
abbrev Dt:=@Bool.not_not
abbrev Du:=@List.mem_range'_1
abbrev Dv:=@Array.toList_push
abbrev Dw:=@List.length_take_of_le
abbrev Dx:=@List.ext_getElem?
abbrev Dy:=@List.count_append
abbrev Dz:=@List.singleton_append
abbrev DA:=@List.eraseIdx_sublist
abbrev DB:=@List.all_eq_true
abbrev DC:=@List.cons_append
abbrev DE:=@List.take_append_of_le_length
abbrev DF:=@List.getElem?_of_mem
abbrev DG:=@List.exists_mem_of_length_pos
abbrev DH:=@List.of_mem_zip
abbrev DI:=@List.length_nil
abbrev DJ:=@List.getElem?_range
abbrev DK:=@List.length_reverse
abbrev DL:=@List.length_pos_iff
abbrev DM:=@List.perm_singleton
abbrev DN:=@Nat.sub_self
abbrev DO:=@Nat.zero_add
abbrev DP:=@Int.ofNat_lt
abbrev DQ:=@List.mem_filterMap
abbrev DR:=@Option.isSome_some
abbrev DS:=@List.drop_zero
abbrev DU:=@PySem.F.excBase_ValueError
abbrev DV:=@Int.emod_lt_of_pos
abbrev DW:=@Nat.lt_or_eq_of_le
abbrev DX:=@PySem.F.slot_dict_getitem
abbrev DY:=@List.getElem?_zip_eq_some
abbrev DZ:=@PySem.W.kitx_list
abbrev Eb:=@List.take_sublist
abbrev Ec:=@List.nodup_range'
abbrev Ed:=@List.getElem_drop
abbrev Ee:=@List.reverse_perm
abbrev Ef:=@List.getElem?_take_of_lt
abbrev Eg:=@List.all_cons
abbrev Eh:=@List.cons.inj
abbrev Ei:=@List.getElem_append_left
abbrev Ej:=@List.Pairwise.imp_of_mem
abbrev Ek:=@List.sublist_append_left
abbrev El:=@List.getElem_inj
abbrev Em:=@List.zipIdx_cons
abbrev Eo:=@List.range'_succ
abbrev Ep:=@List.pairwise_singleton
abbrev Er:=@congrFun
abbrev Es:=@PySem.W.cellsFrom_some
abbrev Et:=@Nat.not_lt
abbrev Eu:=@List.drop_of_length_le
abbrev Ew:=@List.length_pos_of_mem
abbrev Ex:=@List.drop_eq_nil_of_le
abbrev Ey:=@List.Perm.append_right
abbrev Ez:=@Bool.eq_iff_iff
abbrev EC:=@Bool.or_eq_true
abbrev ED:=@Int.emod_nonneg
abbrev EE:=@List.Perm.of_eq
abbrev EF:=@beq_false_of_ne
abbrev EG:=@Int.add_mul
abbrev EH:=@List.sum_cons
abbrev EI:=@Nat.add_assoc
abbrev EJ:=@List.map_take
abbrev vb:=@PySem.Heap.get?_push_of_some
abbrev wh:=@PySem.Heap.lt_size
abbrev xT:=@PySem.Heap.get?_push_size
abbrev ya:=@PySem.PassesOwn.never
abbrev yp:=@PySem.Heap.SameBut.update
abbrev At:=@PySem.Heap.get?_update_other
abbrev Bs:=@PySem.Heap.get?_update_self
abbrev Db:=@PySem.F.slot_tuple_iterator_next
abbrev DT:=@PySem.MeetsSeq.plain_remove_loop
abbrev Ev:=@PySem.W.look_both
abbrev EQ:=@PySem.Calls.spliced_cons
abbrev Fa:=@PySem.Around.under_plainId
abbrev Fe:=@PySem.F.plain_extend_loop
abbrev Ff:=@PySem.Calls.spliced_nil
abbrev Fg:=@PySem.Heap.size_push
abbrev Fh:=@PySem.F.slot_zip_next
abbrev Fj:=@Sum.inl.inj
abbrev Vd:=PySem.Value->PySem.Shared->Prop
abbrev Ve:=Unit->PySem.Shared->Prop
abbrev Vf:=PySem.Str->Option PySem.Value
abbrev Vg:=List<|Nat×Nat
abbrev Vh:=List (Nat×Nat)
abbrev Vi:=List PySem.Value
abbrev Vj:=Array PySem.Value
abbrev Vk:=List Nat
abbrev Vl:=List PySem.Str
abbrev Vm:=List PySem.Expr
abbrev Vn:=List PySem.Stmt
abbrev Vo:=List Int
abbrev Vp:=Option PySem.Value
abbrev Vq:=Option Int
abbrev Vr:=Nat->Nat
abbrev Vs:=Nat×Nat
abbrev Vt:=PySem.Value
abbrev Vu:=PySem.Shared
abbrev Vv:=PySem.Program
abbrev Vw:=PySem.World
abbrev Vx:=PySem.Heap
abbrev Vy:=String
noncomputable section
namespace L2
open PySem PyProof.Rows
def jO{M:Model}{U:Ctx}{p:Pos}{t:Sem Fin}{fs:List Frame}{s s':Vu}{e:End}(h:Runs M U p t fs s e s'):s.toks<=s'.toks:=by induction h with|fresh _ g=>exact AW (CS _) g|call _ _ I J=>exact AW I J|resumeFresh _ _ _ _ I J=>exact AW I J|resumeSuspended _ _ _ _ I J=>exact AW I J|segRet _ _ I J=>exact AW I J|segGen _ _ I J=>exact AW I J|segSuspGen _ _ _ _ I J=>exact AW I J|_=>first|exact Ap _|assumption
def vV{M:Model}{J:Ctx}{p:Pos}{g:Nat}{r:Resume}{s s':Vu}{res:GenResult}(h:Wakes M J p g r s res s'):s.toks<=s'.toks:=by
 unfold Wakes at h;split at h
 ·exact h.elim
 ·split at h
  ·obtain⟨e,U,I,_,_,rfl⟩:=h;have q:=jO I;exact q
  ·obtain⟨_,rfl⟩:=h;exact Ap _
  ·obtain⟨_,rfl⟩:=h;exact Ap _
 ·obtain⟨e,U,I,_,_,rfl⟩:=h;have q:=jO I;exact q
 ·obtain⟨_,rfl⟩:=h;exact Ap _
 ·obtain⟨_,rfl⟩:=h;exact Ap _
def LD{α:Type}{M:Model}{j:Ctx}(t:Sem α):∀{Q:α->Pos->Vu->Prop} {E:Vt->Pos->Vu->Prop} {p:Pos} {s:Vu} (n:Nat),n<=s.toks->Sem.wp M j t Q E p s->Sem.wp M j t (λa U s'=>Q a U s'/\n<=s'.toks) (λe U s'=>E e U s'/\n<=s'.toks) p s:=by induction t with|pure a=>intro Q E p s n I h;exact⟨h,I⟩|raise e=>intro Q E p s n I h;exact⟨h,I⟩|load a part k J=>intro Q E p s n I ⟨o,h1,h2⟩;exact⟨o,h1,J o n I h2⟩|update a part f k J=>intro Q E p s n I ⟨h1,h2⟩;exact⟨h1,J () n I h2⟩|fresh k J=>intro Q E p s n I h;exact J s.toks n (AW I<|CS _) h|choose C m k J=>intro Q E p s n I ⟨h1,h2⟩;exact⟨h1,J _ n I h2⟩|call c hd g l k J=>intro Q E p s n I ⟨r,s',h1,h2⟩;exact⟨r,s',h1,J r n (AW I<|jO h1) h2⟩|genState g k J=>intro Q E p s n I ⟨st,h1,h2⟩;exact⟨st,h1,J _ n I h2⟩|resume g r l k J=>intro Q E p s n I ⟨res,s',h1,h2⟩;exact⟨res,s',h1,J _ n (AW I<|vV h1) h2⟩|rule tag k J=>intro Q E p s n I h;exact J () n I h|«at» pos k J=>intro Q E p s n I h;exact J () n I h|alloc o k J=>intro Q E p s n I h;exact J _ n I h|loadIfAlive a k J=>intro Q E p s n I h;exact J _ n I h|point l k J=>intro Q E p s n I h;exact J _ n I h|ask k J=>intro Q E p s n I h;exact J _ n I h|os q l k J=>intro Q E p s n I h;exact J _ n I h|handled own k J=>intro Q E p s n I h;exact J _ n I h|newGen c k J=>intro Q E p s n I h;exact J _ n I h|stack k J=>intro Q E p s n I h;exact J _ n I h|thread k J=>intro Q E p s n I h;exact J _ n I h|unsupported w=>intro Q E p s n I h;exact h.elim|finish e=>intro Q E p s n I h;exact h.elim|register a k J=>intro Q E p s n I h;exact h.elim|yield v g l k J=>intro Q E p s n I h;exact h.elim|fork c k J=>intro Q E p s n I h;exact h.elim|await a f d l k J=>intro Q E p s n I h;exact h.elim
def wI{α:Type}{M:Model}{A:Around}{t:Sem α}{Q:α->Vu->Prop}{E:Vd}{s:Vu}(h:wpAny M A t Q E s):wpAny M A t (λa s'=>Q a s'/\s.toks<=s'.toks) (λe s'=>E e s'/\s.toks<=s'.toks) s:=
 λJ p I=>LD t s.toks (Ap _)<|h J p I
def jq{α:Type}{M:Model}{A:Around}{t:Sem α}{Q:α->Vu->Prop}{E:Vd}{s:Vu}(I:0<s.toks)(h:wpAny M A t (λa s'=>0<s'.toks->Q a s') (λe s'=>0<s'.toks->E e s') s):wpAny M A t Q E s:=
 AY (wI h) (λ_ _ z=>z.1<|AO I z.2) λ_ _ z=>z.1<|AO I z.2
end L2
variable {M:PySem.Model}{i j m n na p q t' x1 y:Nat}{t t1 t2:Bool}{s s':PySem.Shared}{e nq o target tg value:PySem.Expr}{α β κ:Type}{A:PySem.Around}{E Q xe:PySem.Value->PySem.Shared->Prop}{eH us vs:List PySem.Value}{cd fv kt oc pm u:PySem.Value}{base h h':PySem.Heap}{ch fp:List PySem.Addr}{C D O Pt W c' dx f fa i1 i2 it ka l l1 l2 pa pb:PySem.Addr}{kx name px eK x:PySem.Str}{pins:List<|PySem.Addr×PySem.Obj}{apos hE sy np p1 p2 p3 p4 p5 pos hQ tp:PySem.Pos}{st:PySem.Stmt}{nC es mR:List PySem.Expr}{body:List PySem.Stmt}{lo:Int}{mA mg:PySem.Str->Option PySem.Value}{fd:PySem.FuncData}{ps:List PySem.Str}{fy scope:PySem.Scope}{outer:List PySem.Env}{ct ln lk fx mE qs:Vg}{an od:Option PySem.Addr}{oi:Array<|Option PySem.Value}{prog:PySem.Program}{env:PySem.Env}{rks:Vo}
namespace L2
open PySem PySem.Spec PyProof.Rows
abbrev j9:=Sum Int Str
abbrev VB:=List j9
def oH:j9->Vt->Bool
 |.inl k,v=>Value.isInt k v
 |.inr x,v=>Value.isStrOf x v
def LG(w:Vw):j9->Int
 |.inl k=>hashInt k
 |.inr x=>hashStr w x
theorem xx:∀{k:j9} {v:Vt},oH k v=true->(∃i t,k=Sum.inl i/\v=Value.int i t)\/(∃x t,k=Sum.inr x/\v=Value.str x t)
 |.inl i,v,h=>by obtain⟨t,e⟩:=Value.isInt_shape (k:=i) (v:=v) h;exact .inl ⟨i,t,rfl,e⟩
 |.inr x,v,h=>by obtain⟨t,e⟩:=Value.isStrOf_shape (x:=x) (v:=v) h;exact .inr ⟨x,t,rfl,e⟩
def LH(i:Int)(t:Tok):oH (.inl i) (.int i t)=true:=by simp[oH,Value.isInt]
def zX(x:Str)(t:Tok):oH (.inr x) (.str x t)=true:=by simp[oH,Value.isStrOf]
def LI(a b:Int):decide ((Sum.inl a:j9)=Sum.inl b)=(a==b):=by
 by_cases e:a=b
 ·subst e;simp
 ·have h:¬(Sum.inl a:j9)=Sum.inl b:=λq=>e<|Fj q;rw[AD h];exact(beq_eq_false_iff_ne.mpr e).symm
def LJ(a b:Str):decide ((Sum.inr a:j9)=Sum.inr b)=decide (a=b):=by
 by_cases e:a=b
 ·subst e;simp
 ·have h:¬(Sum.inr a:j9)=Sum.inr b:=λq=>e<|Sum.inr.inj q;rw[AD h,AD e]
def LK(a:Int)(b:Str):decide ((Sum.inl a:j9)=Sum.inr b)=false:=AD λq=>nomatch q
def LL(a:Str)(b:Int):decide ((Sum.inr a:j9)=Sum.inl b)=false:=AD λq=>nomatch q
def xz(prog:Vv)(w:Vw):PySem.KeyKind prog w j9 where
 is:=oH
 hash:=LG w
 inj:=λv a b g U=>by
  rcases xx g with⟨i,t,rfl,rfl⟩|⟨x,t,rfl,rfl⟩
  ·rcases xx U with⟨j,u,rfl,e⟩|⟨y,u,rfl,e⟩
   ·injection e with I _;rw[I]
   ·exact nomatch e
  ·rcases xx U with⟨j,u,rfl,e⟩|⟨y,u,rfl,e⟩
   ·exact nomatch e
   ·injection e with I _;rw[I]
 byValue:=λk v h=>by rcases xx h with⟨i,t,rfl,rfl⟩|⟨x,t,rfl,rfl⟩<;>rfl
 pyHash:=λJ h=>by
  rcases xx J with⟨i,t,rfl,rfl⟩|⟨x,t,rfl,rfl⟩
  ·exact wpAny_pyHash_int h
  ·exact wpAny_pyHash_str h
 eqBool:=λl J h=>by
  rcases xx l with⟨i,t,rfl,rfl⟩|⟨x,t,rfl,rfl⟩
  ·rcases xx J with⟨j,u,rfl,rfl⟩|⟨y,u,rfl,rfl⟩
   ·rw[LI] at h;exact wpAny_eqBool_int h
   ·rw[LK] at h;exact SeqAt.EqAt.int_str i t y u _ _ _ _ h
  ·rcases xx J with⟨j,u,rfl,rfl⟩|⟨y,u,rfl,rfl⟩
   ·rw[LL] at h;exact SeqAt.EqAt.str_int x t j u _ _ _ _ h
   ·rw[LJ] at h;exact wpAny_eqBool_str h
 «strs» := λk x t v h=>by
  rcases xx h with⟨i,u,rfl,e⟩|⟨y,u,rfl,e⟩
  ·exact nomatch e
  ·injection e with I _
   subst I;cases v<;>rfl
def u4(prog:Vv)(w:Vw)(i:Int)(t:Tok):(xz prog w).is (.inl i) (.int i t)=true:=LH i t
def uo(prog:Vv)(w:Vw)(x:Str)(t:Tok):(xz prog w).is (.inr x) (.str x t)=true:=zX x t
inductive V where
 |non|bl (b:Bool)|int (i:Int)|str (x:Str)|byt (b:Array UInt8)|flt (b:UInt64)|ref (a:Addr)|ty (n:Vy)
 deriving DecidableEq
abbrev VA:=Option V
abbrev Vz:=List V
def zv:V->Vt->Prop
 |.non,u=>u=Value.none
 |.bl b,u=>u=Value.bool b
 |.int i,u=>∃t,u=Value.int i t
 |.str x,u=>∃t,u=Value.str x t
 |.byt b,u=>∃t,u=Value.bytes b t
 |.flt b,u=>∃t,u=Value.float b t
 |.ref a,u=>u=Value.ref a
 |.ty n,u=>u=Value.type n
abbrev zu:Vz->Vi->Prop:=Paired zv
theorem zu.length{xs:Vz}(r:zu xs us):xs.length=us.length:=Paired.length r
theorem zu.get:∀{xs:Vz} {us:Vi} {i:Nat} {x:V},zu xs us->xs[i]?=some x->∃u,us[i]?=some u/\zv x u
 |_,_,_,_,.nil,e=>by simp at e
 |_,_,0,_,.cons r _,e=>by simp at e;subst e;exact⟨_,rfl,r⟩
 |_,_,i+1,x,.cons _ t,e=>by obtain⟨u,h1,h2⟩:=zu.get (i:=i) (x:=x) t (by simpa using e);exact⟨u,by simpa using h1,h2⟩
theorem zu.set{x:V}{u:Vt}(r:zv x u):∀{xs:Vz} {us:Vi} (i:Nat),zu xs us->zu (xs.set i x) (us.set i u)
 |_,_,_,.nil=>.nil
 |_,_,0,.cons _ t=>.cons r t
 |_,_,i+1,.cons q t=>.cons q<|zu.set r i t
def zu.append:∀{xs ys:Vz} {us I:Vi},zu xs us->zu ys I->zu (xs++ys) (us++I):=by
 intro xs ys us I h s
 induction h with|nil=>exact s|cons r t J=>exact .cons r J
theorem zu.take:∀{xs:Vz} {us:Vi} (n:Nat),zu xs us->zu (xs.take n) (us.take n)
 |_,_,0,_=>.nil
 |_,_,_+1,.nil=>.nil
 |_,_,n+1,.cons r t=>.cons r<|zu.take n t
theorem zu.drop:∀{xs:Vz} {us:Vi} (n:Nat),zu xs us->zu (xs.drop n) (us.drop n)
 |_,_,0,r=>r
 |_,_,_+1,.nil=>.nil
 |_,_,n+1,.cons _ t=>zu.drop n t
def jJ:VA->Vp->Prop
 |some v,some u=>zv v u
 |none,none=>True
 |_,_=>False
def KV :List (κ×V)->List (κ×Vt)->Prop:=Paired λ(p:κ×V) (q:κ×Vt)=>p.1=q.1/\zv p.2 q.2
def kV:j9->V
 |.inl i=>.int i
 |.inr x=>.str x
inductive HO where
 |lst (xs:Vz)
 |tup (xs:Vz)
 |dK (kvs:List<|j9×V)|dT (kvs:List<|VB×V)
 |set (S:Int->Bool) (n:Nat)
 |ins (C dx:Addr) (fs:List<|Str×V)
 |own (x:Addr)
 |xd (fs:List<|Str×V)
 |met (f x:Addr)
 |rng (lo hi:Int)
 |frz (o:Obj) (u:HO)
 |tbl (ps:Vj)
 |ext (φ:Vx->Prop)
abbrev Hp:=Addr->Option HO
def upd(H:Hp)(a:Addr)(o:HO):Hp:=λb=>if b=a then some o else H b
def zg{H:Hp}{a:Addr}{o:HO}:upd H a o a=some o:=by unfold upd;rw[AA rfl]
def ql{H:Hp}{a b:Addr}{o:HO}(h:b≠a):upd H a o b=H b:=by unfold upd;rw[Ay h]
def yc{H:Hp}{a:Addr}{o u:HO}:upd (upd H a o) a u=upd H a u:=by funext b;unfold upd;split<;>rfl
def LM{H:Hp}{a b:Addr}{o u:HO}(h:H a=some o)(h':H b=some u)(d:o≠u):a≠b:=by intro e;subst e;rw[h] at h';exact d<|Be h'
def zo{H:Hp}{a b:Addr}{o:HO}(h:H a=some o)(h':H b=none):a≠b:=by intro e;subst e;rw[h] at h';cases h'
section
variable (P:Vv)(w:Vw)
def xj(H:Hp)(h:Vx)(a:Addr):HO->Prop
 |.lst xs=>xs.length<=sizeLine/\∃(eH:Vi) (n:Nat),zu xs eH/\h.get? a=some {cls:=.type "list",data:=.seq eH.toArray n}
 |.tup xs=>xs.length<=sizeLine/\∃eH:Vi,zu xs eH/\IsTup h a eH.toArray
 |.dK kvs=>kvs.length<=sizeLine/\(a==sysModules)=false/\∃vs,KV kvs vs/\h.DictOf (xz P w) a vs
 |.dT kvs=>kvs.length<=sizeLine/\(a==sysModules)=false/\∃xs:List (VB×Addr×Vt),
  Paired (λ(p:VB×V) (q:VB×Addr×Vt)=>p.1=q.1/\H q.2.1=some (.tup<|p.1.map kV)/\zv p.2 q.2.2) kvs xs/\
  ∃o es J,h.get? a=some o/\o.ExactDict/\o.data=.dict es J/\es.toList=xs.map (entryOfKey<|tupleKind<|xz P w)/\(xs.map (·.1)).Nodup
 |.set S n=>h.SetOf (intKind P w) a S n
 |.ins C dx fs=>H dx=some (.own a)/\fs.length<=1000/\dx≠a/\h.get? a=some (PySem.W.instObj C dx)/\
  ∃mA,h.Ns1 dx mA/\(∀f,jJ (fs.lookup f)<|mA f)/\PySem.Within mA (fs.map (·.1))
 |.own _=>∃o,h.get? a=some o
 |.xd fs=>∃mA,h.Ns1 a mA/\∀f,jJ (fs.lookup f)<|mA f
 |.rng lo hi=>∃t u v,h.get? a=some {cls:=.type "range",data:=.fields #[.int lo t,.int hi u,.int 1 v]}
 |.frz o u=>h.get? a=some o/\xj H h a u
 |.tbl ps=>h.get? a=some {cls:=.none,data:=.fields ps}
 |.met f x=>h.get? a=some (PySem.W.methodObj (.ref f)<|.ref x)
 |.ext I=>I h/\(∃o,h.get? a=some o)/\∀h1 h2:Vx,I h1->(∀o,h1.get? a=some o->h2.get? a=some o)->I h2
def dQ(H:Hp)(h:Vx):Prop:=∀a o,H a=some o->xj P w H h a o
end
section
variable {P:Vv}{w:Vw}{H H':Hp}{a:Addr}{o:HO}
theorem xj.lt(x:xj P w H h a o):a<h.objs.size:=by
 cases o with
 |lst J=>obtain⟨_,_,_,_,e⟩:=x;exact wh e
 |tup J=>obtain⟨_,_,_,p⟩:=x;exact p.lt
 |dK I=>obtain⟨_,_,_,_,o,_,_,e,_⟩:=x;exact wh e
 |dT I=>obtain⟨_,_,_,_,o,_,_,e,_⟩:=x;exact wh e
 |set S n=>obtain⟨o,_,_,_,e,_⟩:=x;exact wh e
 |ins C U fs=>obtain⟨_,_,_,e,_⟩:=x;exact wh e
 |own y=>obtain⟨_,e⟩:=x;exact wh e
 |xd fs=>obtain⟨_,⟨_,_,_,e,_⟩,_⟩:=x;exact wh e
 |rng lo g=>obtain⟨_,_,_,e⟩:=x;exact wh e
 |frz ob u=>obtain⟨e,_⟩:=x;exact wh e
 |tbl j=>exact wh<|show h.get? a=some _ from x
 |met f y=>exact wh<|show h.get? a=some _ from x
 |ext l=>obtain⟨_,⟨_,e⟩,_⟩:=x;exact wh e
def Paired.mapP{F G:α->β->Prop}:∀{l₁:List α} {l₂:List β},Paired F l₁ l₂->(∀a b,F a b->G a b)->Paired G l₁ l₂:=by
 intro l₁ l₂ h f
 induction h with|nil=>exact .nil|cons r t I=>exact .cons (f _ _ r) I
abbrev ER:=@Paired.mapP
def xj.stay(x:xj P w H h a o)(k:∀b u,(b=a\/H b=some (.own a))->h.get? b=some u->h'.get? b=some u)
 (ho:∀b,H b=some (.own a)->H' b=some (.own a)) (ht:∀b xs,H b=some (.tup xs)->H' b=some (.tup xs)):xj P w H' h' a o:=by
 induction o with
 |lst xs=>obtain⟨z,U,n,r,e⟩:=x;exact⟨z,U,n,r,k _ _ (.inl rfl) e⟩
 |tup xs=>obtain⟨z,U,r,ob,e,c⟩:=x;exact⟨z,U,r,ob,k _ _ (.inl rfl) e,c⟩
 |dK g=>obtain⟨z,y,vs,r,ob,I,J,e,c⟩:=x;exact⟨z,y,vs,r,ob,I,J,k _ _ (.inl rfl) e,c⟩
 |dT g=>
  obtain⟨z,y,xs,r,ob,I,J,e,c⟩:=x;exact⟨z,y,xs,ER r λp q z=>⟨z.1,ht _ _ z.2.1,z.2.2⟩,ob,I,J,k _ _ (.inl rfl) e,c⟩
 |set S n=>obtain⟨ob,I,J,t,e,c⟩:=x;exact⟨ob,I,J,t,k _ _ (.inl rfl) e,c⟩
 |ins C dx fs=>
  obtain⟨d,z,ne,e,j,⟨l,I,J,e2,c⟩,r⟩:=x;exact⟨ho _ d,z,ne,k _ _ (.inl rfl) e,j,⟨l,I,J,k _ _ (.inr d) e2,c⟩,r⟩
 |own y=>obtain⟨ob,e⟩:=x;exact⟨ob,k _ _ (.inl rfl) e⟩
 |xd fs=>obtain⟨j,⟨l,I,J,e,c⟩,r⟩:=x;exact⟨j,⟨l,I,J,k _ _ (.inl rfl) e,c⟩,r⟩
 |rng lo hi=>obtain⟨t,u,v,e⟩:=x;exact⟨t,u,v,k _ _ (.inl rfl) e⟩
 |frz ob u ih=>obtain⟨e,q⟩:=x;exact⟨k _ _ (.inl rfl) e,ih q⟩
 |tbl T=>
  have e:h.get? a=some {cls:=.none,data:=.fields T}:=x;show h'.get? a=some {cls:=.none,data:=.fields T};exact k a _ (.inl rfl) e
 |met f y=>
  have e:h.get? a=some (PySem.W.methodObj (.ref f)<|.ref y):=x;show h'.get? a=some (PySem.W.methodObj (.ref f)<|.ref y);exact k a _ (.inl rfl) e
 |ext φ=>obtain⟨p,⟨o,e⟩,st⟩:=x;exact⟨st _ _ p λo q=>k _ _ (.inl rfl) q,⟨o,k _ _ (.inl rfl) e⟩,st⟩
theorem dQ.lt(x:dQ P w H h)(e:H a=some o):a<h.objs.size:=(x a o e).lt
def dQ.fresh(x:dQ P w H h)(e:h.objs.size<=a):H a=none:=by cases q:H a with|none=>rfl|some u=>exact absurd (AO (x.lt q) e)<|Cz _
def dQ.kept(x:dQ P w H h)(k:∀b u,h.get? b=some u->h'.get? b=some u):dQ P w H h':=λa o e=>
 (x a o e).stay (λb u _ q=>k b u q) (λ_ q=>q) λ_ _ q=>q
def dQ.laid(x:dQ P w H h)(k:∀b u,h.get? b=some u->h'.get? b=some u)(U:h.objs.size<=a)(new:xj P w (upd H a o) h' a o):dQ P w (upd H a o) h':=λb u e=>by
 have I:=x.fresh U;by_cases J:b=a
 ·subst J;rw[zg] at e;cases e;exact new
 ·rw[ql J] at e;exact(x b u e).stay (λc v _ q=>k c v q) (λc q=>by rw[ql<|zo q I];exact q) λc g q=>by rw[ql<|zo q I];exact q
end
def Rd(H:Hp)(a:Addr)(u:HO):Prop:=H a=some u\/∃o,H a=some (.frz o u)
def Rd.ok{P:Vv}{w:Vw}{H:Hp}{a:Addr}{u:HO}(r:Rd H a u)(x:dQ P w H h):xj P w H h a u:=by
 rcases r with r|⟨o,r⟩
 ·exact x a u r
 ·obtain⟨_,q⟩:=x a _ r;exact q
def Fv:Option HO->Prop
 |some (.lst _)=>True
 |some (.dK _)=>True
 |some (.dT _)=>True
 |some (.set _ _)=>True
 |some (.ins _ _ _)=>True
 |some (.ext _)=>True
 |_=>False
section
variable {P:Vv}{w:Vw}{H:Hp}{x e:Addr}{o':HO}
def dQ.write(ok:dQ P w H h)(g:Fv<|H x)(t:e=x\/H e=some (.own x))(k:∀b u,b≠e->h.get? b=some u->h'.get? b=some u)(p:∃u,h'.get? e=some u)
 (new:xj P w (upd H x o') h' x o'):dQ P w (upd H x o') h':=λb u q=>by
 have J:∀c y,H c=some (.own y)->c≠x:=λc y r z=>by subst z;rw[r] at g;exact g
 have U:∀c j,H c=some (.tup j)->c≠x:=λc j r z=>by subst z;rw[r] at g;exact g
 by_cases l:b=x
 ·subst l;rw[zg] at q;cases q;exact new
 ·rw[ql l] at q;by_cases I:b=e
  ·have C:H b=some (.own x):=by
    rcases t with z|z
    ·exact absurd (I.trans z) l
    ·rw[I];exact z
   rw[q] at C;cases C;obtain⟨v,T⟩:=p;exact⟨v,by rw[I];exact T⟩
  ·refine(ok b u q).stay (λc v o r=>k c v ?_ r) (λc r=>by rw[ql<|J c b r];exact r) λc j r=>by rw[ql<|U c j r];exact r
   rcases o with rfl|o
   ·exact I
   ·rintro rfl;rcases t with z|z
    ·exact J c b o z
    ·rw[o] at z;cases z;exact l rfl
end
structure Un(fs ex:List Addr)(H H':Hp)(h h':Vx):Prop where
 keep:∀b o,h.get? b=some o->H b=none->b∉fs->b∉ex->h'.get? b=some o
 slot:∀b o,h.get? b=some o->H b=none->b∈fs->b∉ex->∃sl,h'.get? b=some {o with slots:=sl}
 free:∀b o,h.get? b=some o->H b=none->b∉ex->H' b=none
 there:∀b o,h.get? b=some o->b∉ex->∃o',h'.get? b=some o'
 tups:∀b xs,H b=some (.tup xs)->H' b=some (.tup xs)
 frzs:∀b o u,H b=some (.frz o u)->H' b=some (.frz o u)
 tbls:∀b ps,H b=some (.tbl ps)->∃more,H' b=some (.tbl<|ps++more)
section
variable {fs fs' ex ex':List Addr}{H H1 H2:Hp}{h1 h2:Vx}{a x e:Addr}{o:HO}
def Un.any(u:Un fs ex H H1 h h1){b:Addr}{ob:Obj}(q:h.get? b=some ob)(n:H b=none)(I:b∉ex):∃U,h1.get? b=some {ob with slots:=U}:=by
 by_cases J:b∈fs
 ·exact u.slot b ob q n J I
 ·exact⟨ob.slots,u.keep b ob q n J I⟩
def Un.kept(k:∀b u,h.get? b=some u->h'.get? b=some u):Un fs ex H H h h':=
 ⟨λb ob q _ _ _=>k b ob q,λb ob q _ _ _=>⟨ob.slots,k b ob q⟩,λ_ _ _ n _=>n,λb ob q _=>⟨ob,k b ob q⟩,λ_ _ q=>q,λ_ _ _ q=>q,λ_ I q=>⟨#[],by rw[q];simp⟩⟩
def Un.refl:Un fs ex H H h h:=Un.kept λ_ _ q=>q
def Un.laid(k:∀b u,h.get? b=some u->h'.get? b=some u)(J:h.objs.size<=a)(I:H a=none):Un fs ex H (upd H a o) h h' where
 keep:=λb u q _ _ _=>k b u q
 slot:=λb u q _ _ _=>⟨u.slots,k b u q⟩
 free:=λb u q n _=>by rw[ql<|A9<|AO (wh q) J];exact n
 there:=λb u q _=>⟨u,k b u q⟩
 tups:=λb U q=>by rw[ql<|zo q I];exact q
 frzs:=λb u U q=>by rw[ql<|zo q I];exact q
 tbls:=λb g q=>⟨#[],by rw[ql<|zo q I,q];simp⟩
def Un.write(J:Fv<|H x)(p:e=x\/H e=some (.own x))(k:∀b u,b≠e->h.get? b=some u->h'.get? b=some u)(U:∃u,h'.get? e=some u):Un fs ex H (upd H x o) h h':=by
 have j:∀b,H b=none->b≠x:=λb n z=>by subst z;rw[n] at J;exact J
 have l:∀b,H b=none->b≠e:=λb n z=>by
  subst z;rcases p with r|r
  ·exact j b n r
  ·rw[n] at r;cases r
 have g:∀b u,H b=some u->¬Fv (some u)->b≠x:=λb u q nm z=>by subst z;rw[q] at J;exact nm J
 refine⟨λb u q n _ _=>k b u (l b n) q,λb u q n _ _=>⟨u.slots,k b u (l b n) q⟩,λb u q n _=>by rw[ql<|j b n];exact n,λb u q _=>?_,
  λb t q=>by rw[ql<|g b _ q λz=>z];exact q,λb u t q=>by rw[ql<|g b _ q λz=>z];exact q,λb C q=>⟨#[],by rw[ql<|g b _ q λz=>z,q];simp⟩⟩
 by_cases I:b=e
 ·subst I;exact U
 ·exact⟨u,k b u I q⟩
end
def FZ(h:Vx)(H:Hp):List Addr:=(List.range h.objs.size).filter λa=>(H a).isSome
def rK(h:Vx)(H:Hp):Vx:=PySem.W.hideAll h<|FZ h H
def LN(h:Vx)(H:Hp):(rK h H).objs.size=h.objs.size:=PySem.W.hideAll_size _ _
def LP{H:Hp}{b:Addr}{o:Obj}(e:h.get? b=some o)(n:H b=none):(rK h H).get? b=some o:=
 C4 _ e λI=>by have q:(H b).isSome=true:=(AH.mp I).2;rw[n] at q;simp at q
def LQ{H:Hp}{b:Addr}{o:Obj}(e:(rK h H).get? b=some o):h.get? b=some o/\H b=none:=by
 have I:h.get? b=some o:=CG (FZ h H) e;refine⟨I,?_⟩;cases q:H b with
 |none=>rfl
 |some x=>
  have J:b∈FZ h H:=AH.mpr ⟨Ba.mpr<|wh I,by simp[q]⟩;have z:(rK h H).get? b=none:=B0 (FZ h H) J;rw[z] at e;cases e
end L2
variable {xs zs:List L2.V}{H H' H₀:L2.Hp}{v:L2.V}
namespace L2
open PySem PySem.Spec PyProof.Rows
structure Mod(K:Ah)(mg:Vf)(base:Vx):Prop where
 kin:K.In base
 glob:base.Ns mainGlobals mg
 blt:∃mb,base.Ns builtinsNs mb/\∀x:Str,x ≠ "__name__" -> mb x=bootBuiltins x
 nolimit:base.NoLimit
structure Cx where
 prog:Vv
 w:Vw
 K:Ah
 mg:Vf
 base:Vx
 A:Around
 N:Vl
 s₀:Vu
 H₀:Hp
 env:Env
 outer:List Env
 stack:List Env
 ex:List Addr
 fn:Str->Bool
 calm:Bool
 pn:List (Addr×Obj)
 xe:Vd
def br(l:List Env):List Addr:=l.filterMap (·.frame)
abbrev Cx.fs(X:Cx):List Addr:=br X.outer
def y_(I:Scope)(x:Str):Prop:=I.names.lookup x=some .local\/I.names.lookup x=some .cell\/I.names.lookup x=some .free
def Loc(I:Scope)(x:Str):Prop:=I.names.lookup x=some .local\/I.names.lookup x=some .cell
def LR(env:Env)(h:Vx)(m:Vf)(x:Str)(u:Vt):Prop:=
 (env.kindOf x=some .local/\m x=some u)\/((env.kindOf x=some .cell\/env.kindOf x=some .free)/\∃c,env.cells.lookup x=some c/\h.IsCell c (some u))
structure Cx.Ok(X:Cx):Prop where
 mod:Mod X.K X.mg X.base
 kind:X.env.scope.kind=.function
 glob:X.env.globals=mainGlobals
 blt:X.env.builtins=builtinsNs
 above:X.s₀.heap.objs.size<=X.env.locals
 inj:∀x y c,X.env.cells.lookup x=some c->X.env.cells.lookup y=some c->x=y
 has:∀x,(X.env.kindOf x=some .cell\/X.env.kindOf x=some .free)->∃c,X.env.cells.lookup x=some c
 cab:∀x c,X.fn x=true->X.env.cells.lookup x=some c->X.s₀.heap.objs.size<=c
 hd:X.calm=true->X.A.handled=none
 frames:X.A.frames=some X.stack
 stk:X.stack=X.outer\/(X.stack=X.env::X.outer/\X.env.frame=some X.env.locals)
 exf:∀b∈X.ex,b≠X.env.locals/\∀x c,X.env.cells.lookup x=some c->c≠b
 bs:∀b o,X.base.get? b=some o->X.s₀.heap.get? b=some o/\X.H₀ b=none
 bsz:X.base.objs.size<=X.s₀.heap.objs.size
 noex:∀b o,X.base.get? b=some o->b∉X.ex
 exfs:∀b∈X.ex,b∉X.fs
 funs:X.s₀.heap.FunFrames X.base X.outer
 frf:∀b∈X.fs,X.H₀ b=none
structure qw(X:Cx)(pins:List<|Addr×Obj)(σ:List<|VA)(H:Hp)(s:Vu):Prop where
 ok:X.Ok
 os:s.os=X.s₀.os
 bare:AllBare s.gens
 base:Un X.fs X.ex X.H₀ H X.s₀.heap s.heap
 loc:∃m,s.heap.Ns X.env.locals m/\∀(i:Nat) (x:Str) (v:V),X.N[i]?=some x->σ[i]?=some (some v)->y_ X.env.scope x->∃u,zv v u/\LR X.env s.heap m x u
 cell:∀x c,X.env.cells.lookup x=some c->∃v,s.heap.IsCell c v
 free:H X.env.locals=none
 freeC:∀x c,X.env.cells.lookup x=some c->H c=none
 pin:∀p∈X.pn++pins,s.heap.get? p.1=some p.2/\H p.1=none/\p.1≠X.env.locals/\p.1∉X.fs/\∀v,p.2.data≠.cell v
 hok:dQ X.prog X.w H s.heap
 len:σ.length=X.N.length
 tk:0<s.toks
section
variable {X:Cx}{σ:List<|VA}
theorem Cx.Ok.nofr(ok:X.Ok){b:Addr}{o:Obj}(e:X.base.get? b=some o):b∉X.fs:=λI=>by have:=(ok.funs.mem I).1;rw[e] at this;cases this
theorem qw.bs(I:qw X pins σ H s):∀b o,X.base.get? b=some o->s.heap.get? b=some o/\H b=none:=λb o e=>
 ⟨I.base.keep b o (I.ok.bs b o e).1 (I.ok.bs b o e).2 (I.ok.nofr e)<|I.ok.noex b o e,I.base.free b o (I.ok.bs b o e).1 (I.ok.bs b o e).2<|I.ok.noex b o e⟩
def qw.bk(I:qw X pins σ H s):∀b o,X.base.get? b=some o->s.heap.get? b=some o:=λb o e=>(I.bs b o e).1
theorem qw.mod(I:qw X pins σ H s):Mod X.K X.mg X.base:=I.ok.mod
def qw.kIn(I:qw X pins σ H s):X.K.In s.heap:=I.ok.mod.kin.keeps I.bk
theorem qw.nolimit(I:qw X pins σ H s):s.heap.NoLimit:=I.ok.mod.nolimit.keeps I.bk
theorem qw.lt(I:qw X pins σ H s):X.env.locals<s.heap.objs.size:=let ⟨_,J,_⟩:=I.loc;J.lt
def qw.sz(I:qw X pins σ H s):X.s₀.heap.objs.size<=s.heap.objs.size:=AW I.ok.above<|BK I.lt
def qw.nofs(I:qw X pins σ H s){a:Addr}(h:s.heap.objs.size<=a):a∉X.fs:=λJ=>by obtain⟨_,o,U,_⟩:=I.ok.funs.mem J;exact absurd (AO (wh U)<|AW I.sz h)<|Cz _
def qw.cne(I:qw X pins σ H s):∀x c,X.env.cells.lookup x=some c->c≠X.env.locals:=λx c e z=>by obtain⟨v,o,g,hd⟩:=I.cell x c e;obtain⟨m,⟨j,l,p,J,U,_⟩,_⟩:=I.loc;rw[z,J] at g;cases g;rw[U] at hd;cases hd
theorem qw.funs(I:qw X pins σ H s):s.heap.FunFrames X.base X.outer:=by
 have all:∀(l:List Env),(∀b∈br l,b∈X.fs)->X.s₀.heap.FunFrames X.base l->s.heap.FunFrames X.base l:=by
  intro l
  induction l with
  |nil=>intro _ _;trivial
  |cons p r t=>
   rintro j⟨T,⟨L,o,J,hn,ho,hd⟩,hr⟩;have U:L∈X.fs:=j L (by unfold br;rw[C5,J];exact Aj);obtain⟨sl,e⟩:=I.base.slot L o ho (I.ok.frf L U) U λz=>I.ok.exfs L z U;exact⟨T,⟨L,_,J,hn,e,hd⟩,t (λb g=>j b (by unfold br;rw[C5,J];exact Ab _ g)) hr⟩
 exact all X.outer (λ_ g=>g) I.ok.funs
def qw.stack(I:qw X pins σ H s):s.heap.FunFrames X.base X.stack:=by
 rcases I.ok.stk with e|⟨e,J⟩
 ·rw[e];exact I.funs
 ·rw[e];obtain⟨m,U,_⟩:=I.loc;refine .cons (by rw[I.ok.kind];decide) J U ?_ I.funs;exact Heap.get?_none_of_le<|AW I.ok.bsz I.ok.above
def qw.stkSub(I:qw X pins σ H s):∀b∈br X.stack,b∈X.env.locals::X.fs:=λb J=>by
 rcases I.ok.stk with e|⟨e,U⟩
 ·rw[e] at J;exact Ab _ J
 ·rw[e] at J;unfold br at J;rw[C5,U] at J;exact J
def qw.stkFree(I:qw X pins σ H s):∀b∈br X.stack,H b=none:=λb J=>by
 rcases Am.mp (I.stkSub b J) with e|J
 ·rw[e];exact I.free
 ·obtain⟨_,o,U,_⟩:=I.ok.funs.mem J;exact I.base.free b o U (I.ok.frf b J) λz=>I.ok.exfs b z J
def qw.step{g':Array GenState}{d':Drawn}(I:qw X pins σ H s)
 (U:∀b∈ch,(b∈X.ex\/X.s₀.heap.objs.size<=b)/\b≠X.env.locals/\(∀x c,X.env.cells.lookup x=some c->c≠b)/\∀p∈X.pn++pins,p.1≠b)
 (keep:∀b o,b≠X.env.locals->b∉X.fs->b∉ch->s.heap.get? b=some o->H b=none->h'.get? b=some o)
 (slot:∀b o,b≠X.env.locals->b∈X.fs->b∉ch->s.heap.get? b=some o->H b=none->∃sl,h'.get? b=some {o with slots:=sl}) (free:∀b o,b∉ch->s.heap.get? b=some o->H b=none->H' b=none)
 (there:∀b o,b∉ch->s.heap.get? b=some o->∃o',h'.get? b=some o')
 (tups:∀b xs,H b=some (.tup xs)->H' b=some (.tup xs)) (frzs:∀b o u,H b=some (.frz o u)->H' b=some (.frz o u)) (tbls:∀b ps,H b=some (.tbl ps)->∃more,H' b=some (.tbl<|ps++more))
 (ns:∀m,s.heap.Ns X.env.locals m->h'.Ns X.env.locals m) (hok:dQ X.prog X.w H' h') (hg:AllBare g') (ht:0<t':=by walk_at "t"):
 qw X pins σ H' {s with heap:=h',gens:=g',drawn:=d',toks:=t'}:=by
 have aP:∀b o,X.s₀.heap.get? b=some o->b≠X.env.locals:=λb o e=>A9<|AO (wh e) I.ok.above;have t:∀b o,X.s₀.heap.get? b=some o->b∉X.ex->b∉ch:=λb o e J T=>by
  rcases (U b T).1 with z|z
  ·exact J z
  ·exact absurd (AO (wh e) z)<|Cz _
 have g:∀x c,X.env.cells.lookup x=some c->∀v,s.heap.IsCell c v->h'.IsCell c v:=λx c e v ⟨o,ho,hd⟩=>by
  have j:c∉ch:=λz=>(U c z).2.2.1 x c e rfl;by_cases hc:c∈X.fs
  ·obtain⟨sl,q⟩:=slot c o (I.cne x c e) hc j ho<|I.freeC x c e;exact⟨_,q,hd⟩
  ·exact⟨o,keep c o (I.cne x c e) hc j ho<|I.freeC x c e,hd⟩
 refine⟨I.ok,I.os,hg,⟨λb o e n T J=>?_,λb o e n T J=>?_,λb o e n J=>?_,λb o e J=>?_,λb xs e=>tups b xs<|I.base.tups b xs e,λb o xs e=>frzs b o xs<|I.base.frzs b o xs e,λb ps e=>?_⟩,?_,λx c e=>?_,?_,λx c e=>?_,λp hp=>?_,hok,I.len,ht⟩
 ·exact keep b o (aP b o e) T (t b o e J) (I.base.keep b o e n T J)<|I.base.free b o e n J
 ·obtain⟨sl,C⟩:=I.base.slot b o e n T J;obtain⟨a1,e2⟩:=slot b _ (aP b o e) T (t b o e J) C<|I.base.free b o e n J;exact⟨a1,e2⟩
 ·obtain⟨o',C⟩:=I.base.there b o e J;exact free b o' (t b o e J) C<|I.base.free b o e n J
 ·obtain⟨o',C⟩:=I.base.there b o e J;exact there b o' (t b o e J) C
 ·obtain⟨m1,C⟩:=I.base.tbls b ps e;obtain⟨m2,e2⟩:=tbls b _ C;exact⟨m1++m2,by rw[e2,Array.append_assoc]⟩
 ·obtain⟨m,hn,hl⟩:=I.loc;refine⟨m,ns m hn,λi x v C e2 e3=>?_⟩;obtain⟨u,r,l⟩:=hl i x v C e2 e3;refine⟨u,r,?_⟩;rcases l with l|⟨k,c,e,z⟩
  ·exact .inl l
  ·exact .inr ⟨k,c,e,g x c e _ z⟩
 ·obtain⟨v,z⟩:=I.cell x c e;exact⟨v,g x c e v z⟩
 ·obtain⟨m,⟨o,_,_,ho,_⟩,_⟩:=I.loc;exact free _ o (λz=>(U _ z).2.1 rfl) ho I.free
 ·obtain⟨v,o,ho,hd⟩:=I.cell x c e;exact free c o (λz=>(U c z).2.2.1 x c e rfl) ho<|I.freeC x c e
 ·obtain⟨e,n,ne,nf,d⟩:=I.pin p hp;have j:p.1∉ch:=λz=>(U p.1 z).2.2.2 p hp rfl;exact⟨keep p.1 p.2 ne nf j e n,free p.1 p.2 j e n,ne,nf,d⟩
def qw.un(I:qw X pins σ H s)(u:Un X.fs [] H H' s.heap h')(hok:dQ X.prog X.w H' h')(T:0<t':=by walk_at "t"):qw X pins σ H' {s with heap:=h',toks:=t'}:=by obtain⟨m,⟨o,es,ep,l,r⟩,_⟩:=id I.loc;obtain⟨sl,p⟩:=u.any l I.free (by simp);exact I.step (g':=s.gens) (d':=s.drawn) (ch:=[]) (λ_ z=>nomatch z) (λb o _ U _ e n=>u.keep b o e n U (by simp)) (λb o _ U _ e n=>u.slot b o e n U (by simp)) (λb o _ e n=>u.free b o e n (by simp)) (λb o _ e=>u.there b o e (by simp)) u.tups u.frzs u.tbls (λm' t=>by obtain⟨o',g,j,J,C⟩:=t;rw[l] at J;cases J;exact⟨_,g,j,p,C⟩) hok I.bare
def qw.call{g':Array GenState}{d':Drawn}(I:qw X pins σ H s)(u:Un (br X.stack) ch H H' s.heap h')(hok:dQ X.prog X.w H' h')(T:AllBare g')
 (U:∀b∈ch,(b∈X.ex\/X.s₀.heap.objs.size<=b)/\b≠X.env.locals/\(∀x c,X.env.cells.lookup x=some c->c≠b)/\∀p∈X.pn++pins,p.1≠b) (ht:0<t':=by walk_at "t"):
 qw X pins σ H' {s with heap:=h',gens:=g',drawn:=d',toks:=t'}:=by
 obtain⟨m,⟨o,es,ep,C,r⟩,_⟩:=id I.loc;obtain⟨sl,j⟩:=u.any C I.free λz=>(U _ z).2.1 rfl;exact I.step (ch:=ch) U (λb o j hb J e n=>u.keep b o e n (λz=>(Am.mp<|I.stkSub b z).elim j hb) J) (λb o _ _ J e n=>u.any e n J) (λb o J e n=>u.free b o e n J) (λb o J e=>u.there b o e J) u.tups u.frzs u.tbls (λm' hm=>by obtain⟨o',l,t,g,r'⟩:=hm;rw[C] at g;cases g;exact⟨_,l,t,j,r'⟩) hok T
def qw.turned(I:qw X pins σ H s)(k:∀b o,b≠it->s.heap.get? b=some o->h'.get? b=some o)(j:H it=none)(g:it≠X.env.locals)
 (h1:it∈X.ex\/X.s₀.heap.objs.size<=it) (h2:∀x c,X.env.cells.lookup x=some c->c≠it) (h3:∀p∈X.pn++pins,p.1≠it) (ht:0<t':=by walk_at "t"):qw X pins σ H {s with heap:=h',toks:=t'}:=by
 have U:∀b u,H b=some u->b≠it:=λb u e z=>by rw[z,j] at e;cases e
 refine I.step (g':=s.gens) (d':=s.drawn) (ch:=[it]) (λb l=>?_) (λb o _ _ J e _=>k b o (λz=>J (by simp[z])) e) (λb o _ _ J e _=>⟨o.slots,k b o (λz=>J (by simp[z])) e⟩) (λ_ _ _ _ n=>n)
  (λb o J e=>⟨o,k b o (λz=>J (by simp[z])) e⟩) (λ_ _ e=>e) (λ_ _ _ e=>e) (λb ps e=>⟨#[],by rw[e];simp⟩) (λm t=>?_) (λb u e=>?_) I.bare
 ·have e:b=it:=by simpa using l
  subst e;exact⟨h1,g,h2,h3⟩
 ·obtain⟨o,C,T,ho,r⟩:=t;exact⟨o,C,T,k _ o (AG g) ho,r⟩
 ·refine(I.hok b u e).stay (λc v J q=>k c v ?_ q) (λ_ q=>q) λ_ _ q=>q;rcases J with z|z
  ·rw[z];exact U b u e
  ·exact U c _ z
def qw.tok(I:qw X pins σ H s)(t:Nat)(J:0<t:=by walk_at "t"):qw X pins σ H {s with toks:=t}:=I.un (h':=s.heap) (t':=t) Un.refl I.hok
theorem qw.kept(I:qw X pins σ H s)(k:∀b u,s.heap.get? b=some u->h'.get? b=some u)(J:0<t':=by walk_at "t"):qw X pins σ H {s with heap:=h',toks:=t'}:=I.un (Un.kept k)<|I.hok.kept k
theorem qw.laid{a:Addr}{o:HO}(I:qw X pins σ H s)(k:∀b u,s.heap.get? b=some u->h'.get? b=some u)(J:s.heap.objs.size<=a)(new:xj X.prog X.w (upd H a o) h' a o)(U:0<t':=by walk_at "t"):
 qw X pins σ (upd H a o) {s with heap:=h',toks:=t'}:=I.un (Un.laid k J<|I.hok.fresh J)<|I.hok.laid k J new
theorem qw.write{x e:Addr}{o:HO}(I:qw X pins σ H s)(U:Fv<|H x)(g:e=x\/H e=some (.own x))(k:∀b u,b≠e->s.heap.get? b=some u->h'.get? b=some u)(J:∃u,h'.get? e=some u)
 (new:xj X.prog X.w (upd H x o) h' x o) (j:0<t':=by walk_at "t"):qw X pins σ (upd H x o) {s with heap:=h',toks:=t'}:=I.un (Un.write U g k J)<|I.hok.write U g k J new
def qw.weak{ir:List<|VA}(I:qw X pins σ H s)(U:ir.length=σ.length)(w:∀(i:Nat) v,ir[i]?=some (some v)->σ[i]?=some (some v)):qw X pins ir H s:=
 ⟨I.ok,I.os,I.bare,I.base,let ⟨m,g,J⟩:=I.loc;⟨m,g,λi x v j l o=>J i x v j (w i v l) o⟩,I.cell,I.free,I.freeC,I.pin,I.hok,U.trans I.len,I.tk⟩
def qw.pins_of{J:List<|Addr×Obj}(I:qw X pins σ H s)(h:∀p∈J,s.heap.get? p.1=some p.2/\H p.1=none/\p.1≠X.env.locals/\p.1∉X.fs/\∀v,p.2.data≠.cell v):qw X J σ H s:=
 ⟨I.ok,I.os,I.bare,I.base,I.loc,I.cell,I.free,I.freeC,λp U=>(Ak.mp U).elim (λz=>I.pin p<|Ao _ z)<|h p,I.hok,I.len,I.tk⟩
def nV{N:Vl}(hN:N.Nodup)(a:N[i]?=some x)(b:N[j]?=some x):i=j:=by obtain⟨h1,I⟩:=AL.mp a;obtain⟨h2,J⟩:=AL.mp b;exact(El hN).mp (I.trans J.symm)
def qK{Q:Ve}(I:qw X pins σ H s)(hN:X.N.Nodup)(hi:X.N[i]?=some x)(t:Loc X.env.scope x)(r:zv v u)
 (h:∀s',qw X pins (σ.set i<|some v) H s'->(∃a,Heap.SameBut a s.heap s'.heap/\(a=X.env.locals\/X.env.cells.lookup x=some a))->(X.env.kindOf x=some .local->∃m',s'.heap.Ns X.env.locals m'/\m' x=some u)->Q () s') (hf:X.fn x=true\/X.env.scope.names.lookup x=some .local:=by first|exact .inl rfl|exact .inr rfl|assumption):wpAny M A (storeName X.env x u) Q E s:=by
 obtain⟨m,hn,hl⟩:=id I.loc;have a3:(X.env.scope.kind==.class||(X.env.scope.kind==.module&&X.env.locals != X.env.globals))=false:=by rw[I.ok.kind];rfl
 have a1:i<σ.length:=by rw[I.len];exact(AL.mp hi).1
 have cne:=I.cne;have U:∀{a:Addr} {h':Vx},(∃o,s.heap.get? a=some o/\H a=none)->Heap.SameBut a s.heap h'->dQ X.prog X.w H h':=λ{a h'} ha J b ob e=>by
  obtain⟨_,_,C⟩:=ha;refine(I.hok b ob e).stay (λc w' l q=>(J.2 c ?_).trans q) (λ_ q=>q) λ_ _ q=>q;rintro rfl;rcases l with rfl|l
  ·rw[C] at e;cases e
  ·rw[C] at l;cases l
 rcases t with T|T
 ·refine wpAny_storeName_local T hn (λh' a4 J=>?_) a3;obtain⟨oL,_,_,av,_⟩:=id hn;refine h _ ⟨I.ok,I.os,I.bare,⟨λb o e n hb t=>?_,λb o e n hb t=>?_,I.base.free,λb o e t=>?_,I.base.tups,I.base.frzs,I.base.tbls⟩,⟨_,a4,λj y v' g e2 e3=>?_⟩,λy c e=>?_,I.free,I.freeC,λp hp=>?_,U ⟨oL,av,I.free⟩ J,by simpa using I.len,by first|exact I.tk|exact BQ _⟩ ⟨_,J,.inl rfl⟩ λ_=>⟨_,a4,by simp⟩
  ·exact(J.2 b<|A9<|AO (wh e) I.ok.above).trans (I.base.keep b o e n hb t)
  ·obtain⟨sl,g⟩:=I.base.slot b o e n hb t;exact⟨sl,(J.2 b<|A9<|AO (wh e) I.ok.above).trans g⟩
  ·obtain⟨o',g⟩:=I.base.there b o e t;exact⟨o',(J.2 b<|A9<|AO (wh e) I.ok.above).trans g⟩
  ·by_cases hj:j=i
   ·subst hj;rw[hi] at g;cases g;rw[BR a1] at e2;cases e2;exact⟨u,r,.inl ⟨T,by simp⟩⟩
   ·rw[A5<|AG hj] at e2;obtain⟨u',r',q⟩:=hl j y v' g e2 e3;refine⟨u',r',?_⟩;rcases q with⟨k,e⟩|⟨k,c,e,z⟩
    ·refine .inl ⟨k,?_⟩;have:y≠x:=λe=>hj<|nV hN g<|e▸hi;simp[this,e]
    ·exact .inr ⟨k,c,e,z.sameBut J<|cne y c e⟩
  ·obtain⟨w',z⟩:=I.cell y c e;exact⟨w',z.sameBut J<|cne y c e⟩
  ·obtain⟨e,n,ne,nf,d⟩:=I.pin p hp;exact⟨(J.2 p.1 ne).trans e,n,ne,nf,d⟩
 ·have a2:X.fn x=true:=by
   rcases hf with z|z
   ·exact z
   ·rw[z] at T;cases T
  obtain⟨c,l⟩:=I.ok.has x<|.inl T;obtain⟨w',z⟩:=I.cell x c l;refine wpAny_storeName_cell I.ok.kind T l z λh' a5 J=>?_;obtain⟨oc,ac,al⟩:=id z;refine h {s with heap:=h'} ⟨I.ok,I.os,I.bare,⟨λb o e n hb t=>?_,λb o e n hb t=>?_,I.base.free,λb o e t=>?_,I.base.tups,I.base.frzs,I.base.tbls⟩,⟨m,hn.sameBut J<|AG<|cne x c l,λj y v' g e2 e3=>?_⟩,λy c' e=>?_,I.free,I.freeC,λp hp=>?_,U ⟨oc,ac,I.freeC x c l⟩ J,by simpa using I.len,I.tk⟩ ⟨c,J,.inr l⟩ (λz=>by have e:=(show X.env.kindOf x=some .cell from T).symm.trans z;cases e)
  ·exact(J.2 b<|A9<|AO (wh e)<|I.ok.cab x c a2 l).trans (I.base.keep b o e n hb t)
  ·obtain⟨sl,g⟩:=I.base.slot b o e n hb t;exact⟨sl,(J.2 b<|A9<|AO (wh e)<|I.ok.cab x c a2 l).trans g⟩
  ·obtain⟨o',g⟩:=I.base.there b o e t;exact⟨o',(J.2 b<|A9<|AO (wh e)<|I.ok.cab x c a2 l).trans g⟩
  ·by_cases hj:j=i
   ·subst hj;rw[hi] at g;cases g;rw[BR a1] at e2;cases e2;exact⟨u,r,.inr ⟨.inl T,c,l,a5⟩⟩
   ·rw[A5<|AG hj] at e2;obtain⟨u',r',q⟩:=hl j y v' g e2 e3;refine⟨u',r',?_⟩;rcases q with q|⟨k,c',e,z'⟩
    ·exact .inl q
    ·refine .inr ⟨k,c',e,z'.sameBut J ?_⟩;rintro rfl;exact hj<|nV hN g<|I.ok.inj _ _ _ e l▸hi
  ·by_cases au:c'=c
   ·subst au;exact⟨_,a5⟩
   ·obtain⟨w2,z2⟩:=I.cell y c' e;exact⟨w2,z2.sameBut J au⟩
  ·obtain⟨e,n,ne,nf,d⟩:=I.pin p hp;refine⟨(J.2 p.1 ?_).trans e,n,ne,nf,d⟩;intro q;rw[q,ac] at e;have q':oc=p.2:=Be e;exact d w' (by rw[<-q'];exact al)
def dt{Q:Ve}(I:qw X pins σ H s)(hN:X.N.Nodup)(hi:X.N[i]?=some x)(J:Loc X.env.scope x)(r:zv v u)
 (h:∀s',qw X pins (σ.set i<|some v) H s'->Q () s') (U:X.fn x=true\/X.env.scope.names.lookup x=some .local:=by first|exact .inl rfl|exact .inr rfl|assumption):wpAny M A (storeName X.env x u) Q E s:=
 qK I hN hi J r (λs' g _ _=>h s' g) U
def qw.call'(I:qw X pins σ H s)(U:s'.os=s.os)(u:Un (br X.stack) ch H H' s.heap s'.heap)(hok:dQ X.prog X.w H' s'.heap)(g:AllBare s'.gens)
 (J:∀b∈ch,(b∈X.ex\/X.s₀.heap.objs.size<=b)/\b≠X.env.locals/\(∀x c,X.env.cells.lookup x=some c->c≠b)/\∀p∈X.pn++pins,p.1≠b) (j:0<s'.toks:=by walk_at "t"):qw X pins σ H' s':=by
 obtain⟨o,g',d',t',l⟩:=s';have e:l=s.os:=U;subst e;exact I.call (g':=g') (t':=t') (d':=d') u hok g J j
end
abbrev XK:=Vt->Option Addr->Hp->Prop
abbrev St:=List<|VA
abbrev VK:=V->Hp->Prop
abbrev TE:=St->Hp->VK->Prop
abbrev TT:=St->Hp->(Bool->Hp->Prop)->Prop
abbrev TA:=St->Hp->(Vz->Hp->Prop)->Prop
structure oB where
 nx:St->Hp->Prop
 rt:VK
 bk:St->Hp->Prop:=λ_ _=>False
 ct:St->Hp->Prop:=λ_ _=>False
abbrev TS:=oB->St->Hp->Prop
def EP(X:Cx)(pins:List<|Addr×Obj)(σ:St)(Q:VK)(u:Vt)(s':Vu):Prop:=∃v H',qw X pins σ H' s'/\zv v u/\Q v H'
def TP(X:Cx)(pins:List<|Addr×Obj)(σ:St)(Q:Bool->Hp->Prop)(b:Bool)(s':Vu):Prop:=∃H',qw X pins σ H' s'/\Q b H'
def AP(X:Cx)(pins:List<|Addr×Obj)(σ:St)(Q:Vz->Hp->Prop)(us:Vi)(s':Vu):Prop:=∃vs H',qw X pins σ H' s'/\zu vs us/\Q vs H'
def SP(X:Cx)(pins:List<|Addr×Obj)(D:oB)(f:Flow)(s':Vu):Prop:=
 match f with
 |.next=>∃ir H',qw X pins ir H' s'/\D.nx ir H'
 |.brk=>∃ir H',qw X pins ir H' s'/\D.bk ir H'
 |.cont=>∃ir H',qw X pins ir H' s'/\D.ct ir H'
 |.ret u=>∃v ir H',qw X pins ir H' s'/\zv v u/\D.rt v H'
def PE(X:Cx)(e:Expr)(t:TE):Prop:=
 ∀(pins:List<|Addr×Obj) (s:Vu) (σ:St) (H:Hp) (Q:VK),qw X pins σ H s->t σ H Q->wpAny (model X.prog X.w) X.A (eval e X.env) (EP X pins σ Q) X.xe s
def PT(X:Cx)(e:Expr)(t:TT):Prop:=
 ∀(pins:List<|Addr×Obj) (s:Vu) (σ:St) (H:Hp) (Q:Bool->Hp->Prop),qw X pins σ H s->t σ H Q->wpAny (model X.prog X.w) X.A (isTrue e X.env<|eval e X.env) (TP X pins σ Q) X.xe s
def PW(X:Cx)(e:Expr)(t:TT):Prop:=
 ∀(whole:Sem Vt) (pins:List<|Addr×Obj) (s:Vu) (σ:St) (H:Hp) (Q:Bool->Hp->Prop),qw X pins σ H s->t σ H Q->wpAny (model X.prog X.w) X.A (isTrue e X.env whole) (TP X pins σ Q) X.xe s
def PW.pt{X:Cx}{t:TT}(h:PW X e t):PT X e t:=h _
def PA(X:Cx)(es:Vm)(t:TA):Prop:=
 ∀(pos:Pos) (pins:List<|Addr×Obj) (s:Vu) (σ:St) (H:Hp) (Q:Vz->Hp->Prop),qw X pins σ H s->t σ H Q->wpAny (model X.prog X.w) X.A (spliced<|backTo pos<|starEach es X.env) (AP X pins σ Q) X.xe s
def PS(X:Cx)(st:Stmt)(t:TS):Prop:=
 ∀(pins:List<|Addr×Obj) (s:Vu) (σ:St) (H:Hp) (D:oB),qw X pins σ H s->t D σ H->wpAny (model X.prog X.w) X.A (exec st X.env) (SP X pins D) X.xe s
def gT(X:Cx)(st:Vn)(t:TS):Prop:=
 ∀(pins:List<|Addr×Obj) (s:Vu) (σ:St) (H:Hp) (D:oB),qw X pins σ H s->t D σ H->wpAny (model X.prog X.w) X.A (execs st X.env) (SP X pins D) X.xe s
def aI{t:Sem α}{Q I:α->Vu->Prop}(h:wpAny M A t Q E s)(J:∀a s,Q a s->I a s):wpAny M A t I E s:=AY h J λ_ _ x=>x
def aj{t:Sem Vt}{X:Cx}{σ:St}{Q:VK}{I:Vd}(h:wpAny M A t (EP X pins σ Q) E s)(J:∀v s x H,qw X pins σ H s->zv x v->Q x H->I v s):wpAny M A t I E s:=aI h λv s ⟨x,H,a,b,c⟩=>J v s x H a b c
def zC{t:Sem<|Vi}{X:Cx}{σ:St}{Q:Vz->Hp->Prop}{I:Vi->Vu->Prop}(h:wpAny M A t (AP X pins σ Q) E s)(J:∀v s x H,qw X pins σ H s->zu x v->Q x H->I v s):wpAny M A t I E s:=aI h λv s ⟨x,H,a,b,c⟩=>J v s x H a b c
end L2
variable {r:L2.V->Vq->Vq->L2.Hp->L2.VK->Prop}{X:L2.Cx}{σ:L2.St}{tc:L2.TT}
namespace L2
open PySem PySem.Spec PyProof.Rows
section
def Gu(i:Nat):TE:=λσ H Q=>∃v,σ[i]?=some (some v)/\Q v H
def tC(v:V):TE:=λ_ H Q=>Q v H
abbrev Fb(x:Str):Prop:=(x==("__debug__":Str))=false
abbrev Fc(x:Str):Prop:=(x==("__classdict__":Str))=false
def LS(hN:X.N[i]?=some x)(p:y_ X.env.scope x)(hd:Fb x:=by decide)(j:Fc x:=by decide):PE X (.Name x pos) (Gu i):=by
 rintro g s t H Q I⟨v,e,h⟩;obtain⟨m,C,T⟩:=I.loc;obtain⟨u,r,l⟩:=T i x v hN e p;have xa:EP X g t Q u s:=⟨v,H,I,r,h⟩;rcases l with⟨U,hm⟩|⟨U,c,o,J⟩
 ·exact wpAny_Name (wpAny_loadName_local I.ok.kind U C hm xa) hd
 ·rcases U with U|U
  ·exact wpAny_Name (wpAny_loadName_cell I.ok.kind U o J xa) hd
  ·exact wpAny_Name (wpAny_loadName_free I.ok.kind U o J xa j) hd
def LU{i j pos}:PE X (.Constant (.int i) j pos) (tC<|.int i):=λ_ _ _ H _ I h=>wpAny_Constant_int ⟨.int i,H,I.tok _,⟨_,rfl⟩,h⟩
def LV{b j pos}:PE X (.Constant (.bool b) j pos) (tC<|.bl b):=λ_ _ _ H _ I h=>Constant_bool ⟨.bl b,H,I,rfl,h⟩
def LW{j pos}:PE X (.Constant .none j pos) (tC .non):=λ_ _ _ H _ I h=>Constant_none ⟨.non,H,I,rfl,h⟩
def cx{x j pos}:PE X (.Constant (.str x) j pos) (tC<|.str x):=λ_ _ _ H _ I h=>Calls.Constant_str ⟨.str x,H,I.tok _,⟨_,rfl⟩,h⟩
def Gl(X:Cx)(x:Str):Prop:=X.env.kindOf x=some .globalImplicit
def gm(I:qw X pins σ H s)(J:Gl X x)(U:X.mg x=some u)(h:Q u s)
 (hd:Fb x:=by decide):wpAny (model X.prog X.w) X.A (eval (.Name x pos) X.env) Q E s:=
 Calls.Name_function_global I.ok.kind J (Calls.loadGlobal_global (by rw[I.ok.glob];exact I.mod.glob.keeps I.bk) U h) hd
def e9(I:qw X pins σ H s)(J:Gl X x)(U:X.mg x=none)(g:bootBuiltins x=some u)(h:Q u s)
 (j:x ≠ "__name__" := by decide) (hd:Fb x:=by decide):wpAny (model X.prog X.w) X.A (eval (.Name x pos) X.env) Q E s:=by
 obtain⟨l,h1,h2⟩:=I.mod.blt;exact Calls.Name_function_global I.ok.kind J (Calls.loadGlobal_builtin (by rw[I.ok.glob];exact I.mod.glob.keeps I.bk) U (by rw[I.ok.blt];exact h1.keeps I.bk) ((h2 x j).trans g) h) hd
def LX(J:Gl X x)(U:X.mg x=some u)(r:zv v u)(hd:Fb x:=by decide):PE X (.Name x pos) (tC v):=
 λ_ _ _ H _ I h=>gm I J U ⟨v,H,I,r,h⟩ hd
def LY(J:Gl X x)(U:X.mg x=none)(g:bootBuiltins x=some u)(r:zv v u)(j:x ≠ "__name__" := by decide)(hd:Fb x:=by decide):PE X (.Name x pos) (tC v):=
 λ_ _ _ H _ I h=>e9 I J U g ⟨v,H,I,r,h⟩ j hd
variable {a b:Expr}{ta tb:TE}
def PC(X:Cx)(op:CmpOp)(a b:Expr)(t:TE):Prop:=
 ∀(pins:List<|Addr×Obj) (s:Vu) (σ:St) (H:Hp) (Q:VK),qw X pins σ H s->t σ H Q->
  wpAny (model X.prog X.w) X.A (eval a X.env) (λv I=>wpAny (model X.prog X.w) X.A (eval b X.env) (λu J=>wpAny (model X.prog X.w) X.A (compareOp op v u) (EP X pins σ Q) X.xe J) X.xe I) X.xe s
def uB(b:Expr){op:CmpOp}(h:op≠.In)(h2:op≠.NotIn):behindInMarks op b=false:=by
 have I:(op==CmpOp.In)=false:=by cases op<;>first|rfl|exact absurd rfl h
 have J:(op==CmpOp.NotIn)=false:=by cases op<;>first|rfl|exact absurd rfl h2
 cases b<;>simp[behindInMarks,I,J]
def HB(ta:TE):TE:=λσ H Q=>ta σ H λx H1=>Q (.bl<|decide<|x=.non) H1
def HE(ta:TE):TE:=λσ H Q=>ta σ H λx H1=>Q (.bl<|!decide (x=.non)) H1
def zv.none_iff{x:V}{v:Vt}(r:zv x v):(v==Value.none)=decide (x=.non):=by
 cases x with
 |non=>cases r;rfl
 |bl _=>cases r;rfl
 |int _=>obtain⟨t,rfl⟩:=r;rfl
 |str _=>obtain⟨t,rfl⟩:=r;rfl
 |byt _=>obtain⟨t,rfl⟩:=r;rfl
 |flt _=>obtain⟨t,rfl⟩:=r;rfl
 |ref _=>cases r;rfl
 |ty _=>cases r;rfl
def HF{j hQ}(U:PE X a ta):PC X .Is a (.Constant .none j hQ) (HB ta):=by intro J s g H Q I h;refine aj (U J s g H _ I h) λv t x l o p r=>?_;exact Constant_none (is_none_gen ⟨.bl _,l,o,by rw[p.none_iff];rfl,r⟩)
def LZ{j hQ}(U:PE X a ta):PC X .IsNot a (.Constant .none j hQ) (HE ta):=by intro J s g H Q I h;refine aj (U J s g H _ I h) λv t x l o p r=>?_;exact Constant_none (isnot_none_gen ⟨.bl _,l,o,by rw[p.none_iff];rfl,r⟩)
def tB(t:TE):TT:=λσ H Q=>t σ H λx H1=>∃c,x=.bl c/\Q c H1
def L9{op:CmpOp}{t:TE}(h:PC X op a b t)(h1:behindInMarks op b=false:=by first|exact uB _ (by decide) (by decide)|rfl):PE X (.Compare a [op] [b] pos) t:=λJ s U H Q I hw=>wpAny_Compare1 (h J s U H Q I hw) h1
def HG{op:CmpOp}{t:TE}(h:PC X op a b t)(h1:behindInMarks op b=false:=by first|exact uB _ (by decide) (by decide)|rfl):PT X (.Compare a [op] [b] pos) (tB t):=by intro J s U H Q I hw;refine wpAny_isTrue_Compare1 (aI (h J s U H _ I hw) λv p h1=>aI h1 λu r h2=>aI h2 λc C ⟨x,g,j,l,o⟩=>?_) h1;obtain⟨d,rfl,q⟩:=o;cases l;exact wpAny_truthy_bool ⟨g,j,q⟩
def Ma{t:TE}(h:PE X e t)(U:∀whole,isTrue e X.env whole=(do let v <-whole;standAt e.pos;holding [v] (truthy v)):=by intro _;rfl):PT X e (tB t):=by intro J s g H Q I hw;refine isTrue_plain (aj (h J s g H _ I hw) λv r x j l o p=>?_)<|U _;obtain⟨d,rfl,q⟩:=p;cases o;exact wpAny_truthy_bool ⟨j,l,q⟩
variable {tA um:TT}{rest:Vm}
def Mb(t u:TT):TT:=λσ H Q=>t σ H λc H1=>if c=true then u σ H1 Q else Q false H1
def Mc(t u:TT):TT:=λσ H Q=>t σ H λc H1=>if c=true then Q true H1 else u σ H1 Q
def Md(t:TT):TT:=λσ H Q=>t σ H λc H1=>Q (!c) H1
def Me(U:PT X a tA):PW X (.BoolOp .And [a] pos) tA:=by intro j J s g H Q I h;refine isTrue_and<|aI (U J s g H Q I h) λc l e=>?_;cases c with|true=>exact isTrue_and_nil e|false=>exact e
def Mf(U:PT X a tA):PW X (.BoolOp .Or [a] pos) tA:=by intro j J s g H Q I h;refine isTrue_or<|aI (U J s g H Q I h) λc l e=>?_;cases c with|false=>exact isTrue_or_nil e|true=>exact e
def Mg(o:PT X a tA)(p:PW X (.BoolOp .And (b::rest) pos) um):PW X (.BoolOp .And (a::b::rest) pos) (Mb tA um):=by intro r J s U H Q I h;refine isTrue_and<|aI (o J s U H _ I h) λc t ⟨g,j,l⟩=>?_;cases c with|true=>exact p r J t U g Q j l|false=>exact⟨g,j,l⟩
def Mh(o:PT X a tA)(p:PW X (.BoolOp .Or (b::rest) pos) um):PW X (.BoolOp .Or (a::b::rest) pos) (Mc tA um):=by intro r J s U H Q I h;refine isTrue_or<|aI (o J s U H _ I h) λc t ⟨g,j,l⟩=>?_;cases c with|true=>exact⟨g,j,l⟩|false=>exact p r J t U g Q j l
def Mi(U:PT X a tA):PT X (.UnaryOp .Not a pos) (Md tA):=by intro J s g H Q I h;exact isTrue_not<|U J s g H (λc j=>Q (!c) j) I h
def Mj(ta tb:TE):TE:=λσ H Q=>ta σ H λx H1=>∃c,x=.bl c/\if c=true then tb σ H1 Q else Q (.bl false) H1
def Mk(ta:TE):TE:=λσ H Q=>ta σ H λx H1=>∃c,x=.bl c/\Q (.bl<|!c) H1
def Ml{op}{t:TE}(h:PE X a t):PE X (.BoolOp op [a] pos) t:=λJ s U H Q I hw=>BoolOp_one<|h J s U H Q I hw
def Mm(o:PE X a ta)(p:PE X (.BoolOp .And (b::rest) pos) tb):PE X (.BoolOp .And (a::b::rest) pos) (Mj ta tb):=by
 intro J s g H Q I h;refine BoolOp_and<|aj (o J s g H _ I h) λv r x j l t U=>?_;obtain⟨c,rfl,U⟩:=U;cases t;refine wpAny_truthy_bool ?_;cases c with
 |true=>exact p J r g j Q l U
 |false=>exact⟨.bl false,j,l,rfl,U⟩
def Mn(g:PE X a ta):PE X (.UnaryOp .Not a pos) (Mk ta):=by intro J s j H Q I h;refine UnaryOp_<|aj (g J s j H _ I h) λv r x l o p U=>?_;obtain⟨c,rfl,U⟩:=U;cases p;exact not_of<|wpAny_truthy_bool ⟨.bl<|!c,l,o,rfl,U⟩
def Mo(t:TT)(ta tb:TE):TE:=λσ H Q=>t σ H λc H1=>if c=true then ta σ H1 Q else tb σ H1 Q
def Mp{c:Expr}(hc:PT X c tA)(p:PE X a ta)(r:PE X b tb):PE X (.IfExp c a b pos) (Mo tA ta tb):=by intro J s U H Q I h;refine wpAny_IfExp<|aI (hc J s U H _ I h) λd g ⟨j,l,o⟩=>?_;cases d with|true=>exact p J g U j Q l o|false=>exact r J g U j Q l o
end
def aS(K:Ah)(H:Hp)(a:Addr)(xs:Vz):Prop:=
 Rd H a (.lst xs)\/
  ∃(o:Obj) (eH:Vj) (n:Nat),K.lookup a=some o/\o.cls=.type "list" /\ o.dict=none/\o.data=.seq eH n/\eH.size<=sizeLine/\zu xs eH.toList
def dS(K:Ah)(H:Hp)(a:Addr)(xs:Vz):Prop:=
 Rd H a (.tup xs)\/
  ∃(o:Obj) (eH:Vj) (n:Nat),K.lookup a=some o/\o.cls=.type "tuple" /\ o.data=.seq eH n/\eH.size<=sizeLine/\zu xs eH.toList
def Mq:Vt->VA
 |.none=>some .non
 |.bool b=>some<|.bl b
 |.int i _=>some<|.int i
 |.str x _=>some<|.str x
 |.bytes b _=>some<|.byt b
 |.float b _=>some<|.flt b
 |.ref a=>some<|.ref a
 |.type n=>some<|.ty n
 |_=>none
def zv.abs{x:V}(r:zv x u):Mq u=some x:=by
 cases x with
 |non=>cases r;rfl
 |bl _=>cases r;rfl
 |int _=>obtain⟨t,rfl⟩:=r;rfl
 |str _=>obtain⟨t,rfl⟩:=r;rfl
 |byt _=>obtain⟨t,rfl⟩:=r;rfl
 |flt _=>obtain⟨t,rfl⟩:=r;rfl
 |ref _=>cases r;rfl
 |ty _=>cases r;rfl
def zv.inj{x y:V}(r:zv x u)(q:zv y u):x=y:=Be<|r.abs.symm.trans q.abs
theorem zu.inj:∀{xs ys:Vz} {us:Vi},zu xs us->zu ys us->xs=ys:=by
 intro xs ys us h k
 induction h generalizing ys with
 |nil=>cases k;rfl
 |cons r t I=>
  cases k with|cons J U=>rw[r.inj J,I U]
section
variable {a:Addr}{ys:Vz}
def aS.of{K:Ah}(h:H a=some (.lst xs)):aS K H a xs:=.inl<|.inl h
def dS.of{K:Ah}(h:H a=some (.tup xs)):dS K H a xs:=.inl<|.inl h
def qw.list(I:qw X pins σ H s)(h:aS X.K H a xs):∃eH:Vi,zu xs eH/\PlainL s.heap a eH.toArray/\xs.length<=sizeLine:=by
 rcases h with h|⟨o,eH,n,J,U,hd,g,j,r⟩
 ·obtain⟨z,eH,n,r,e⟩:=h.ok I.hok;exact⟨eH,r,⟨_,n,e,rfl,rfl,rfl⟩,z⟩
 ·refine⟨eH.toList,r,⟨o,n,I.kIn a o J,U,hd,by simpa using g⟩,?_⟩;have e:=r.length;simp only[Bc] at e;lia
def qw.tuple(I:qw X pins σ H s)(h:dS X.K H a xs):∃eH:Vi,zu xs eH/\IsTup s.heap a eH.toArray/\xs.length<=sizeLine:=by
 rcases h with h|⟨o,eH,n,J,U,g,j,r⟩
 ·obtain⟨z,eH,r,p⟩:=h.ok I.hok;exact⟨eH,r,p,z⟩
 ·refine⟨eH.toList,r,⟨o,I.kIn a o J,U,n,by simpa using g⟩,?_⟩;have e:=r.length;simp only[Bc] at e;lia
def qw.list_inj(I:qw X pins σ H s)(h:aS X.K H a xs)(h':aS X.K H a ys):xs=ys:=by
 obtain⟨U,r,⟨o,n,e,_,_,d⟩,_⟩:=I.list h;obtain⟨J,l,⟨p,t,g,_,_,j⟩,_⟩:=I.list h';rw[e] at g;cases g;rw[d] at j;injection j with d1 _
 have:U=J:=by simpa using BM Array.toList d1
 subst this;exact r.inj l
def qw.tuple_inj(I:qw X pins σ H s)(h:dS X.K H a xs)(h':dS X.K H a ys):xs=ys:=by
 obtain⟨U,r,⟨o,e,_,n,d⟩,_⟩:=I.tuple h;obtain⟨J,l,⟨p,g,_,t,j⟩,_⟩:=I.tuple h';rw[e] at g;cases g;rw[d] at j;injection j with d1 _
 have:U=J:=by simpa using BM Array.toList d1
 subst this;exact r.inj l
end
abbrev Cx.wish(X:Cx)(E:Vd):Cx:={X with xe:=E}
abbrev Cx.nox(X:Cx):Cx:=X.wish λ_ _=>False
theorem Cx.Ok.wish(ok:X.Ok)(E:Vd):(X.wish E).Ok:=
 ⟨ok.mod,ok.kind,ok.glob,ok.blt,ok.above,ok.inj,ok.has,ok.cab,ok.hd,ok.frames,ok.stk,ok.exf,ok.bs,ok.bsz,ok.noex,ok.exfs,ok.funs,ok.frf⟩
theorem Cx.Ok.unwish(ok:(X.wish E).Ok):X.Ok:=
 ⟨ok.mod,ok.kind,ok.glob,ok.blt,ok.above,ok.inj,ok.has,ok.cab,ok.hd,ok.frames,ok.stk,ok.exf,ok.bs,ok.bsz,ok.noex,ok.exfs,ok.funs,ok.frf⟩
theorem qw.wish(I:qw X pins σ H s)(E:Vd):qw (X.wish E) pins σ H s:=⟨I.ok.wish E,I.os,I.bare,I.base,I.loc,I.cell,I.free,I.freeC,I.pin,I.hok,I.len,I.tk⟩
theorem qw.unwish(I:qw (X.wish E) pins σ H s):qw X pins σ H s:=⟨I.ok.unwish,I.os,I.bare,I.base,I.loc,I.cell,I.free,I.freeC,I.pin,I.hok,I.len,I.tk⟩
theorem SP.unwish{D:oB}{f:Flow}(h:SP (X.wish E) pins D f s'):SP X pins D f s':=by
 cases f with
 |next=>obtain⟨J,U,I,q⟩:=h;exact⟨J,U,I.unwish,q⟩
 |brk=>obtain⟨J,U,I,q⟩:=h;exact⟨J,U,I.unwish,q⟩
 |cont=>obtain⟨J,U,I,q⟩:=h;exact⟨J,U,I.unwish,q⟩
 |ret u=>obtain⟨v,J,U,I,r,q⟩:=h;exact⟨v,J,U,I.unwish,r,q⟩
def gT.nox{st:Vn}{t:TS}(h:gT X.nox st t):gT X st t:=λJ s U H D I hw=>
 AY (h J s U H D (I.wish _) hw) (λ_ _ q=>q.unwish) λ_ _ z=>False.elim z
section
variable {rest:Vn}{t u:TS}{te:TE}
def Mr:TS:=λD σ H=>D.nx σ H
def Ms(t u:TS):TS:=λD σ H=>t {D with nx:=u D} σ H
def Mt:gT X [] Mr:=λ_ _ J H _ I h=>wpAny_execs_nil ⟨J,H,I,h⟩
def uQ(h1:PS X st t)(h2:gT X rest u):gT X (st::rest) (Ms t u):=by
 intro J s g H D I h;refine wpAny_execs_cons<|aI (h1 J s g H {D with nx:=u D} I h) λf j q=>?_;cases f with
 |next=>
  obtain⟨U,l,o,q⟩:=q;exact h2 J j U l D o q
 |ret v=>exact q
 |brk=>exact q
 |cont=>exact q
def yN(h1:PS X st t):gT X [st] t:=by intro J s U H D I h;refine wpAny_execs_cons<|aI (h1 J s U H D I h) λf g q=>?_;cases f with|next=>exact wpAny_execs_nil q|ret v=>exact q|brk=>exact q|cont=>exact q
def Mu:TS:=λD σ H=>D.ct σ H
def vB:PS X (.Continue pos) Mu:=λ_ _ J H _ I h=>wpAny_Continue ⟨J,H,I,h⟩
def qw.quiet(I:qw X pins σ H s):interactive X.env=false:=by simp[interactive,I.ok.kind]
def Mv(te:TE):TS:=λD σ H=>te σ H λ_ H1=>D.nx σ H1
def Mw(g:PE X e te)(hs:swapsWith e none pos.line X.env=pure false:=by rfl):PS X (.Expr e pos) (Mv te):=by intro J s U H D I h;exact wpAny_Expr_any (aj (g J s U H _ I h) λv p x j l r o=>⟨U,j,l,o⟩) I.quiet hs
def Mx(te:TE):TS:=λD σ H=>te σ H D.rt
def My(g:PE X e te):PS X (.Return (some e) pos) (Mx te):=by intro J s U H D I h;exact wpAny_Return_some<|aj (g J s U H _ I h) λv r x j l o p=>⟨x,U,j,l,o,p⟩
def Mz:TS:=λD _ H=>D.rt .non H
def MA:PS X (.Return none pos) Mz:=λ_ _ J H _ I h=>wpAny_Return_none ⟨.non,J,H,I,rfl,h⟩
def MB(c:TT)(t u:TS):TS:=λD σ H=>c σ H λb H1=>if b=true then t D σ H1 else u D σ H1
def MC{c:Expr}{a b:Vn}(hc:PT X c tc)(p:gT X a t)(r:gT X b u):PS X (.If c a b pos) (MB tc t u):=by intro J s U H D I h;refine wpAny_If<|aI (hc J s U H _ I h) λd g ⟨j,l,o⟩=>?_;cases d with|true=>exact p J g U j D l o|false=>exact r J g U j D l o
end
abbrev TG:=V->St->Hp->(St->Hp->Prop)->Prop
abbrev c_:=Vz->St->Hp->(St->Hp->Prop)->Prop
def PG(X:Cx)(target:Expr)(t:TG):Prop:=
 ∀(pins:List<|Addr×Obj) (s:Vu) (σ:St) (H:Hp) (v:V) (u:Vt) (Q:St->Hp->Prop),qw X pins σ H s->zv v u->t v σ H Q->
  wpAny (model X.prog X.w) X.A (assign target X.env u) (λ_ s'=>∃ir H',qw X pins ir H' s'/\Q ir H') X.xe s
def PGs(X:Cx)(ts:Vm)(t:c_):Prop:=
 ∀(pins:List<|Addr×Obj) (s:Vu) (σ:St) (H:Hp) (vs:Vz) (us:Vi) (Q:St->Hp->Prop),qw X pins σ H s->zu vs us->t vs σ H Q->
  wpAny (model X.prog X.w) X.A (assignInOrder ((assignEach ts X.env).map (·.2)) us) (λ_ s'=>∃ir H',qw X pins ir H' s'/\Q ir H') X.xe s
abbrev Gv:=V->V->V->Hp->(Hp->Prop)->Prop
def HH(X:Cx)(t:Gv):Prop:=
 ∀(pins:List<|Addr×Obj) (s:Vu) (σ:St) (H:Hp) (o i v:V) (I J u:Vt) (Q:Hp->Prop),qw X pins σ H s->zv o I->zv i J->zv v u->t o i v H Q->
  wpAny (model X.prog X.w) X.A (setItem I J u) (λ_ s'=>∃H',qw X pins σ H' s'/\Q H') X.xe s
def mO(i:Nat):TG:=λv σ H Q=>Q (σ.set i<|some v) H
def yh(hN:X.N.Nodup)(hi:X.N[i]?=some x)(U:Loc X.env.scope x)(g:X.fn x=true\/X.env.scope.names.lookup x=some .local:=by first|exact .inl rfl|exact .inr rfl|assumption):PG X (.Name x pos) (mO i):=by intro J s l H v u Q I r h;exact wpAny_assign_Name<|dt I hN hi U r (λo j=>⟨_,H,j,h⟩) g
def MD:c_:=λvs σ H Q=>vs=[]/\Q σ H
def ME(t:TG)(u:c_):c_:=λvs σ H Q=>∃v r,vs=v::r/\t v σ H λir H'=>u r ir H' Q
def MF:PGs X [] MD:=by rintro J s U H g j Q I r⟨e,h⟩;subst e;cases r;exact assignInOrder_nil ⟨U,H,I,h⟩
def MG{t:TG}{u:c_}(h1:PG X e t)(h2:PGs X es u)
 (hs:(assignEach (e::es) X.env).map (·.2)=assign e X.env::(assignEach es X.env).map (·.2):=by rfl):PGs X (e::es) (ME t u):=by
 rintro J s g H T us Q I r⟨v,vr,j,h⟩;subst j;cases r with
 |cons r rr=>
  rw[hs];refine assignInOrder_cons<|aI (h1 J s g H _ _ _ I r h) λ_ l ⟨U,o,p,C⟩=>?_;exact h2 J l U o _ _ Q p rr C
def MJ(K:Ah)(n:Nat)(t:c_):TG:=λv σ H Q=>∃a xs,v=.ref a/\dS K H a xs/\xs.length=n/\t xs σ H Q
def MK{k:Nat}{t:c_}(hc:X.calm=true)(h:PGs X es t)
 (l:(assignEach es X.env).length=n:=by rfl) (U:(assignEach es X.env).findIdx? (·.1)=none:=by rfl):PG X (.Tuple es k pos) (MJ X.K n t):=by
 rintro J s g H v u Q I r⟨a,p,C,T,hl,hw⟩;subst C;cases r;obtain⟨a1,j,ht,hz⟩:=I.tuple T;refine assign_Tuple_tuple (I.ok.hd hc) ht (by simp[l,<-hl,j.length]) U λh' hx=>?_;have I1:qw X J g H {s with heap:=h'}:=I.kept (t':=s.toks) λb o e=>hx b o (A9<|wh e) e;exact h J _ g H p _ Q I1 (by simpa using j) hw
def MN(to ti:TE)(t:Gv):TG:=λv σ H Q=>to σ H λo H1=>ti σ H1 λi H2=>t o i v H2 λI=>Q σ I
def MO{i:Expr}{to ti:TE}{t:Gv}(l:PE X o to)(hi:PE X i ti)(hs:HH X t)
 (p:∀v,assign (.Subscript o i pos) X.env v=(do
  let U <-holding [v] (eval o X.env)
  let g <-holding [v,U] (eval i X.env)
  standAt pos
  holding [v,U,g] (setItem U g v)
  release [v,U,g] []):=by intro _;rfl):PG X (.Subscript o i pos) (MN to ti t):=by
 intro J s j H v u Q I r h;rw[p];refine Aa<|A6<|aj (l J s j H _ I h) λU C x T I1 r1 q1=>?_;refine Aa<|A6<|aj (hi J C j T _ I1 q1) λg s2 y H2 I2 r2 q2=>?_;refine Aa<|wpAny_standAt<|Aa<|A6<|aI (hs J s2 j H2 x y v U g u _ I2 r1 r2 r q2) λ_ s3 ⟨H3,I3,q3⟩=>?_;exact wpAny_release ⟨j,H3,I3,q3⟩
def Gw(te:TE)(g:TG):TS:=λD σ H=>te σ H λx H1=>g x σ H1 D.nx
def HI{te:TE}{g:TG}(j:PE X e te)(l:PG X tg g)(hs:swapsWithSole [tg] e pos.line X.env=pure false:=by rfl)(hw:swappedStores [tg] e X.env=pure none:=by rfl)
 (h1:(assignEach [tg] X.env).map (·.2)=[assign tg X.env]:=by rfl):PS X (.Assign [tg] e pos) (Gw te g):=by
 intro J s U H D I h;refine wpAny_Assign_stores (aj (j J s U H _ I h) λv o x p r t C=>?_) hs hw;rw[h1];exact aI (l J o U p x v _ r t C) λ_ T q=>q
def HJ{te:TE}(hN:X.N.Nodup)(hi:X.N[i]?=some x)(U:Loc X.env.scope x)(g:PE X e te)(hs:swapsWith e (some<|.Name x hQ) pos.line X.env=pure false:=by rfl)(j:X.fn x=true\/X.env.scope.names.lookup x=some .local:=by first|exact .inl rfl|exact .inr rfl|assumption):
 PS X (.Assign [.Name x hQ] e pos) (Gw te<|mO i):=by
 intro J s l H D I h;refine wpAny_Assign_Name (aj (g J s l H _ I h) λv T y o p r t=>?_) hs;exact dt p hN hi U r (λs2 C=>⟨_,o,C,t⟩) j
def MQ(i j:Nat)(ta:TA):TS:=λD σ H=>ta σ H λvs H1=>∃v w,vs=[v,w]/\D.nx ((σ.set i<|some v).set j<|some w) H1
def MT{y:Str}{a b:Expr}{ta:TA}{px py pt:Pos}{t k2 U}(hc:X.calm=true)(hN:X.N.Nodup)(hi:X.N[i]?=some x)(hj:X.N[j]?=some y)(C:i≠j)
 (hx:X.env.scope.names.lookup x=some .local) (hy:X.env.scope.names.lookup y=some .local) (ha:PA X [a,b] ta)
 (hw:swappedStores [.Tuple [.Name x px,.Name y py] t pt] (.Tuple [a,b] k2 U) X.env=pure (some [x,y]))
 (hs:swapsWithSole [.Tuple [.Name x px,.Name y py] t pt] (.Tuple [a,b] k2 U) pos.line X.env=pure false:=by rfl):
 PS X (.Assign [.Tuple [.Name x px,.Name y py] t pt] (.Tuple [a,b] k2 U) pos) (MQ i j ta):=by
 intro J s σ H D I h;rw[exec_Assign_arm];refine Aa<|wpAny_standAt ?_;rw[hs];refine Aa<|Ai ?_;rw[Ay (by decide)];refine Aa<|Tuple_<|zC (ha _ J s σ H _ I h) λus g vs H1 I1 r1 T=>?_;obtain⟨v,w,e1,T⟩:=T;subst e1;obtain⟨l,r,rfl,rv,a1⟩:∃l r,us=[l,r]/\zv v l/\zv w r:=by
  cases r1 with
  |cons p q=>
   cases q with
   |cons p' q'=>
    cases q';exact⟨_,_,rfl,p,p'⟩
 refine Bu ?_ (by show 2<=sizeLine;decide);have I2:qw X J σ H1 {g with heap:=g.heap.push {cls:=.type "tuple",data:=.seq [l,r].toArray}}:=I1.kept (t':=g.toks) λb o e=>vb _ e;rw[hw];refine Aa<|Ai ?_;show wpAny (model X.prog X.w) X.A (do rule "assign.swapped-stores";let items <-unpackItems (.ref g.heap.objs.size) 2 none;assignInOrder [λv=>bindName X.env y v,λv=>bindName X.env x v] items.reverse;pure Flow.next) _ _ _;refine Aa<|Bv<|Aa<|unpackItems_tuple (items:=#[l,r]) (I.ok.hd hc) (IsTup.new g.heap _) λh' a2=>?_;have I3:=I2.kept (h':=h') (t':=g.toks) λb o e=>a2 b o (A9<|wh e) e;show wpAny _ _ (assignInOrder [λv=>bindName X.env y v,λv=>bindName X.env x v] [r,l] >>= λ_=>pure Flow.next) _ _ _;refine Aa<|assignInOrder_cons<|wpAny_bindName<|dt I3 hN hj (.inl hy) a1 (λs2 I4=>?_)<|.inr hy;refine assignInOrder_cons<|wpAny_bindName<|dt I4 hN hi (.inl hx) rv (λs3 I5=>assignInOrder_nil<|Ai ?_)<|.inr hx;rw[List.set_comm _ _<|AG C] at I5;exact⟨_,H1,I5,T⟩
def MU(c:TT)(tb:TS):TS:=λD σ H=>∃W:Nat->St->Hp->Prop,(∃m,W m σ H)/\∀m σ H,W m σ H->
 c σ H λb H1=>if b=true then ∃N:St->Hp->Prop,(∀ir H',N ir H'->∃I,I<m/\W I ir H')/\tb {D with nx:=N,ct:=N,bk:=D.nx} σ H1 else D.nx σ H1
def MV{c:Expr}{tb:TS}(hp:PassesOwn (model X.prog X.w) X.A X.env X.xe)(hc:PT X c tc)(hb:gT X body tb):PS X (.While c body [] pos) (MU tc tb):=by
 rintro J s σ H D I⟨W,⟨m0,w0⟩,turn⟩;refine wpAny_While<|codeAny_whileLoop (λn s'=>∃j H',qw X J j H' s'/\W n j H') ?_ m0 ⟨σ,H,I,w0⟩;rintro n s1 ⟨g,H1,I1,w1⟩;refine wpAny_passesOwn hp<|aI (hc J s1 g H1 _ I1<|turn n g H1 w1) λb s2 ⟨H2,I2,o⟩=>?_;cases b with
 |true=>
  obtain⟨N,hN,o⟩:=o;rw[AA rfl];refine wpAny_passesOwn hp<|aI (hb J s2 g H2 _ I2 o) λf s3 p=>?_;cases f with
  |next=>
   obtain⟨U,l,r,t⟩:=p;obtain⟨C,T,w3⟩:=hN U l t;exact⟨C,T,U,l,r,w3⟩
  |cont=>
   obtain⟨U,l,r,t⟩:=p;obtain⟨C,T,w3⟩:=hN U l t;exact⟨C,T,U,l,r,w3⟩
  |brk=>exact p
  |ret v=>exact p
 |false=>
  rw[Ay AQ];exact wpAny_execs_nil ⟨g,H2,I2,o⟩
structure It where
 go:Nat->Hp->Prop
 yld:Nat->Hp->V->Hp->Prop
 stop:Nat->Hp->Prop
def lW(X:Cx)(pins:List<|Addr×Obj)(H:Hp)(b:Addr):Prop:=
 H b=none/\b≠X.env.locals/\b∉X.fs/\(b∈X.ex\/X.s₀.heap.objs.size<=b)/\(∀x c,X.env.cells.lookup x=some c->c≠b)/\∀p∈X.pn++pins,p.1≠b
def qw.fpOk{b:Addr}(I:qw X pins σ H s)(J:s.heap.objs.size<=b)(U:H' b=none):lW X pins H' b:=by
 refine⟨U,CH<|AO I.lt J,I.nofs J,.inr<|AW I.sz J,λx c e z=>?_,λp g z=>?_⟩
 ·obtain⟨v,q⟩:=I.cell x c e;exact absurd (AO q.lt (by rw[z];exact J))<|Cz _
 ·exact absurd (AO (wh (I.pin p g).1) (by rw[z];exact J))<|Cz _
structure Fw(P:Vv)(w:Vw)(K:Ah)(tg:Expr)(J:It)(fp:List Addr)(it:Addr)(tn:Nat->Vx->Prop):Prop where
 mem:it∈fp
 obj:∀i h,tn i h->∀b∈fp,∃o,h.get? b=some o/\∀v,o.data≠.cell v
 keep:∀i h h',tn i h->(∀b∈fp,∀o,h.get? b=some o->h'.get? b=some o)->tn i h'
 item:∀(X:Cx),X.prog=P->X.w=w->X.K=K->X.calm=true->∀(i:Nat) (pins:List<|Addr×Obj) (s:Vu) (σ:St) (H:Hp) (E:Vd),qw X pins σ H s->(∀b∈fp,lW X pins H b)->tn i s.heap->J.go i H->
  wpAny (model P w) X.A (pyNext<|.ref it) (λr s1=>∃u,r=some u/\
   wpAny (model P w) X.A (letOwnedTupleGo tg (.ref it) u) (λ_ s2=>∃x H',qw X pins σ H' s2/\zv x u/\J.yld i H x H'/\tn (i+1) s2.heap/\∀b∈fp,H' b=none) E s1) E s
 done:∀(X:Cx),X.prog=P->X.w=w->X.K=K->X.calm=true->∀(i:Nat) (pins:List<|Addr×Obj) (s:Vu) (σ:St) (H:Hp) (E:Vd),qw X pins σ H s->(∀b∈fp,lW X pins H b)->tn i s.heap->J.stop i H->
  wpAny (model P w) X.A (pyNext<|.ref it) (λr s1=>r=none/\qw X pins σ H s1) E s
 self:∀(A:Around) (i:Nat) (s:Vu) (Q:Vd) (E:Vd),tn i s.heap->Q (.ref it) s->wpAny (model P w) A (pyIter<|.ref it) Q E s
abbrev TI:=St->Hp->(It->Hp->Prop)->Prop
def Gy(X:Cx)(pins:List<|Addr×Obj)(σ:St)(tg:Expr)(R:It->Hp->Prop)(I:Vt)(U:Vu):Prop:=
 ∃(it:Addr) (fp:List Addr) (g:Nat->Vx->Prop) (J:It) (H':Hp),I=.ref it/\qw X pins σ H' U/\Fw X.prog X.w X.K tg J fp it g/\g 0 U.heap/\(∀b∈fp,lW X pins H' b)/\R J H'
def PI(X:Cx)(tg iter:Expr)(wi:TI):Prop:=
 ∀(pins:List<|Addr×Obj) (s:Vu) (σ:St) (H:Hp) (R:It->Hp->Prop),qw X pins σ H s->wi σ H R->
  wpAny (model X.prog X.w) X.A (eval iter X.env) (λv I=>wpAny (model X.prog X.w) X.A (pyIter v) (Gy X pins σ tg R) X.xe I) X.xe s
def Gz{o:Obj}{n:Vy}{vs:Vj}{Q:Ve}(J:s.heap.get? it=some o)(hc:o.cls=.type n)(hd:o.data=.fields vs)
 (U:["enumerate","zip","dict_itemiterator","dict_reverseitemiterator","odict_iterator","itertools.zip_longest","itertools.pairwise"].contains n=false) (I:Q () s):wpAny M A (letOwnedTupleGo tg (.ref it) u) Q E s:=by
 unfold letOwnedTupleGo;cases tg<;>first
  |exact Ai I
  |(cases u<;>first
   |exact Ai I
   |(refine Aa (wpAny_load J ?_)
     rw[hc,hd];show wpAny M A (if (["enumerate","zip","dict_itemiterator","dict_reverseitemiterator","odict_iterator","itertools.zip_longest","itertools.pairwise"].contains n&&vs[0]?==some (rawInt _))=true then _ else _) Q E s;rw[Ay (by intro h;rw[U,Bool.false_and] at h;cases h)];exact Ai I))
def GA(K:Ah)(a:Addr):It:=
 ⟨λi H=>∃xs x,aS K H a xs/\xs[i]?=some x,λi H x H'=>H'=H/\∀xs,aS K H a xs->xs[i]?=some x,λi H=>∃xs,aS K H a xs/\xs.length<=i⟩
def GB(K:Ah)(a:Addr):It:=
 ⟨λi H=>∃xs x,dS K H a xs/\xs[i]?=some x,λi H x H'=>H'=H/\∀xs,dS K H a xs->xs[i]?=some x,λi H=>∃xs,dS K H a xs/\xs.length<=i⟩
def Fx(lo:Int)(n:Nat):It:=⟨λi _=>i<n,λi H x H'=>H'=H/\x=.int (lo+i),λi _=>n<=i⟩
def MW{P:Vv}{w:Vw}{K:Ah}(a it:Addr):Fw P w K tg (GA K a) [it] it (λi h=>h.IsListIter it a i) where
 mem:=by simp
 obj:=λi h st b U=>by
  have e:b=it:=by simpa using U
  subst e;obtain⟨o,e,c,d⟩:=st;exact⟨o,e,λv z=>by rw[d] at z;cases z⟩
 keep:=λi h j st k=>st.at λo e=>k it (by simp) o e
 item:=by intro X t hw C hc i J s σ H E I l st T;subst t hw C;obtain⟨xs,x,r,hx⟩:=T;obtain⟨a1,rv,p,hz⟩:=I.list r;obtain⟨u,hu,ru⟩:=rv.get hx;obtain⟨f0,f1,f2,f3,f4,f5⟩:=l it (by simp);refine wpAny_pyNext_list_item st p.isList (x:=u) (by simpa using hu) λj g sb=>?_;have I1:qw X J σ H {s with heap:=j}:=I.turned (t':=s.toks) (λb o U e=>(sb.2 b U).trans e) f0 f1 f3 f4 f5;obtain⟨o,e,c,d⟩:=id g;exact⟨u,rfl,Gz (s:={s with heap:=j}) e c d (by decide) ⟨x,H,I1,ru,⟨rfl,λys hy=>by rw[I.list_inj hy r];exact hx⟩,g,λb U=>(l b U).1⟩⟩
 done:=by intro X t hw C hc i J s σ H E I l st T;subst t hw C;obtain⟨xs,r,hx⟩:=T;obtain⟨a1,rv,p,hz⟩:=I.list r;obtain⟨f0,f1,f2,f3,f4,f5⟩:=l it (by simp);have hl:=rv.length;exact wpAny_pyNext_list_end (I.ok.hd hc) st p.isList (by simp;lia) λj eb=>⟨rfl,I.turned (t':=s.toks) (λb o U e=>eb b o U e) f0 f1 f3 f4 f5⟩
 self:=λ_ _ _ _ _ st h=>wpAny_pyIter_listiter st h
def vW{P:Vv}{w:Vw}{K:Ah}(a it:Addr):Fw P w K tg (GB K a) [it] it (λi h=>h.IsTupleIter it a i) where
 mem:=by simp
 obj:=λi h st b U=>by
  have e:b=it:=by simpa using U
  subst e;obtain⟨o,e,c,d⟩:=st;exact⟨o,e,λv z=>by rw[d] at z;cases z⟩
 keep:=λi h l st k=>st.at λo e=>k it (by simp) o e
 item:=by intro X C hw T hc i J s σ H E I r st hg;subst C hw T;obtain⟨xs,x,t,hx⟩:=hg;obtain⟨g,rv,p,hz⟩:=I.tuple t;obtain⟨u,hu,ru⟩:=rv.get hx;obtain⟨f0,f1,f2,f3,f4,f5⟩:=r it (by simp);refine wpAny_pyNext_tuple_item st (show s.heap.IsTuple a g.toArray from p) (x:=u) (by simpa using hu) λl j sb=>?_;have I1:qw X J σ H {s with heap:=l}:=I.turned (t':=s.toks) (λb o U e=>(sb.2 b U).trans e) f0 f1 f3 f4 f5;obtain⟨o,e,c,d⟩:=id j;exact⟨u,rfl,Gz (s:={s with heap:=l}) e c d (by decide) ⟨x,H,I1,ru,⟨rfl,λys hy=>by rw[I.tuple_inj hy t];exact hx⟩,j,λb U=>(r b U).1⟩⟩
 done:=by intro X C hw T hc i J s σ H E I r st hg;subst C hw T;obtain⟨xs,t,hx⟩:=hg;obtain⟨g,rv,p,hz⟩:=I.tuple t;obtain⟨f0,f1,f2,f3,f4,f5⟩:=r it (by simp);have hl:=rv.length;exact wpAny_pyNext_tuple_end (I.ok.hd hc) st (show s.heap.IsTuple a g.toArray from p) (by simp;lia) λl eb=>⟨rfl,I.turned (t':=s.toks) (λb o U e=>eb b o U e) f0 f1 f3 f4 f5⟩
 self:=λ_ _ _ _ _ st h=>wpAny_pyIter_tupleiter st h
theorem vX{P:Vv}{w:Vw}{K:Ah}(it:Addr)(lo:Int)(n:Nat):Fw P w K tg (Fx lo n) [it] it (λi h=>IsRangeIter h it (lo+(i:Nat)*1) ((n:Int)-(i:Nat)) 1) where
 mem:=by simp
 obj:=λi h st b U=>by
  have e:b=it:=by simpa using U
  subst e;exact⟨_,st,λv z=>by have z':Data.fields _=Data.cell v:=z;cases z'⟩
 keep:=λi h j st k=>k it (by simp) _ st
 item:=by intro X p hw r C i J s σ H E I l st T;subst p hw r;obtain⟨f0,f1,f2,f3,f4,f5⟩:=l it (by simp);have W:=Walks.range (prog:=X.prog) (w:=X.w) (I.ok.hd C) it lo 1 n;refine jq I.tk<|W.item i s _ _ T st λv j tk hv g kk ht=>?_;obtain⟨t,rfl⟩:=hv;have I1:qw X J σ H {s with heap:=j,toks:=tk}:=I.turned (λb o U e=>kk b o (by simpa using U) e) f0 f1 f3 f4 f5;refine⟨_,rfl,Gz (s:={s with heap:=j,toks:=tk}) (n:="range_iterator") g rfl rfl (by decide) ⟨.int<|lo+i,H,I1,⟨t,?_⟩,⟨rfl,rfl⟩,g,λb U=>(l b U).1⟩⟩;rw[Int.mul_one]
 done:=by intro X p hw r C i J s σ H E I l st T;subst p hw r;obtain⟨f0,f1,f2,f3,f4,f5⟩:=l it (by simp);exact wpAny_pyNext_range_end (I.ok.hd C) st (by have:n<=i:=T;lia) λj eb=>⟨rfl,I.turned (t':=s.toks) (λb o U e=>eb b o U e) f0 f1 f3 f4 f5⟩
 self:=λ_ _ _ _ _ st h=>wpAny_pyIter_rangeiter st h
end L2
variable {wi:L2.TI}
namespace L2
open PySem PySem.Spec PyProof.Rows
def MX(K:Ah)(tl:TE):TI:=λσ H R=>tl σ H λx H1=>∃a,x=.ref a/\(∃xs,aS K H1 a xs)/\R (GA K a) H1
def MY(K:Ah)(tl:TE):TI:=λσ H R=>tl σ H λx H1=>∃a,x=.ref a/\(∃xs,dS K H1 a xs)/\R (GB K a) H1
def MZ{l:Expr}{tl:TE}(j:PE X l tl):PI X tg l (MX X.K tl):=by
 intro J s r H R I h;refine aj (j J s r H _ I h) λv U x t g C T=>?_;obtain⟨a,e,⟨xs,hq⟩,q⟩:=T;subst e;cases C;obtain⟨a1,rv,p,hz⟩:=g.list hq;refine wpAny_pyIter_list p.isList ?_;refine⟨U.heap.objs.size,[U.heap.objs.size],_,_,t,rfl,g.kept (t':=U.toks) λb o e=>vb _ e,MW a _,⟨_,xT _ rfl,rfl,rfl⟩,λb hb=>?_,q⟩;have e:b=U.heap.objs.size:=by simpa using hb
 subst e;exact g.fpOk (Ap _)<|g.hok.fresh<|Ap _
def M6{l:Expr}{tl:TE}(r:PE X l tl):PI X tg l (MY X.K tl):=by
 intro J s t H R I h;refine aj (r J s t H _ I h) λv U x C g T q1=>?_;obtain⟨a,e,⟨xs,hq⟩,q⟩:=q1;subst e;cases T;obtain⟨j,rv,p,hz⟩:=g.tuple hq;refine wpAny_pyIter_tuple (show U.heap.IsTuple a j.toArray from p) ?_;refine⟨U.heap.objs.size,[U.heap.objs.size],_,_,C,rfl,g.kept (t':=U.toks) λb o e=>vb _ e,vW a _,⟨_,xT _ rfl,rfl,rfl⟩,λb hb=>?_,q⟩;have e:b=U.heap.objs.size:=by simpa using hb
 subst e;exact g.fpOk (Ap _)<|g.hok.fresh<|Ap _
def M7{R:It->Hp->Prop}{hi:Int}{t u v:Tok}{tk:Nat}(I:qw X pins σ H s)(h1 : -(2 ^ 62)<=lo)(h2:lo<2 ^ 62)(h3 : -(2 ^ 62)<=hi)(U:hi<2 ^ 62)
 (q:R (Fx lo (hi-lo).toNat) H) (p:0<tk:=by walk_at "t"):wpAny (model X.prog X.w) X.A (pyIter<|.ref s.heap.objs.size) (Gy X pins σ tg R) E {s with heap:=s.heap.push {cls:=.type "range",data:=.fields #[.int lo t,.int hi u,.int 1 v]},toks:=tk}:=by
 refine wpAny_pyIter_range (IsRange.new ..) (small_one h1 h2 h3 U) ?_;have J:qw X pins σ H {s with heap:=s.heap.push {cls:=.type "range",data:=.fields #[.int lo t,.int hi u,.int 1 v]},toks:=tk}:=I.kept λb o e=>vb _ e;refine⟨(s.heap.push {cls:=.type "range",data:=.fields #[.int lo t,.int hi u,.int 1 v]}).objs.size,[(s.heap.push {cls:=.type "range",data:=.fields #[.int lo t,.int hi u,.int 1 v]}).objs.size],_,_,H,rfl,
  J.kept (t':=tk) λb o e=>vb _ e,vX _ lo (hi-lo).toNat,?_,λb g=>?_,q⟩
 ·have j:lo+((0:Nat):Int)*1=lo:=by simp
  have l:(((hi-lo).toNat:Nat):Int)-((0:Nat):Int)=Builtin.Range.rangeSize lo hi 1:=by rw[rangeSize_one];split<;>lia
  show IsRangeIter _ _ (lo+((0:Nat):Int)*1) ((((hi-lo).toNat:Nat):Int)-((0:Nat):Int)) 1;rw[j,l];exact xT _ rfl
 ·have e:b=(s.heap.push {cls:=.type "range",data:=.fields #[.int lo t,.int hi u,.int 1 v]}).objs.size:=by simpa using g
  subst e;exact J.fpOk (Ap _)<|J.hok.fresh<|Ap _
def M8(ta:TA):TI:=λσ H R=>ta σ H λvs H1=>∃j:Int,vs=[.int j] /\ -(2 ^ 62)<=j/\j<2 ^ 62/\R (Fx 0 j.toNat) H1
def M9{a:Expr}{ta:TA}{p:Pos}(g:Gl X "range")(l:X.mg "range"=none)(o:PA X [a] ta)(hs:starEach [a] X.env=[(false,eval a X.env)]:=by rfl):PI X tg (.Call (.Name "range" p) [a] [] pos) (M8 ta):=by
 intro J s C H R I h;refine Call_<|e9 I g l boot_range<|CN (zC (o pos J s C H _ I h) λus s1 vs H1 T r1 U=>?_) hs rfl;obtain⟨j,e,U,q2,q⟩:=U;subst e;cases r1 with
 |cons r rr=>
  cases rr;obtain⟨t,rfl⟩:=r;exact call_range_1<|M7 T (by lia) (by lia) U q2 (by simpa using q)
def Na(wi:TI)(g:TG)(tb:TS):TS:=λD σ H=>wi σ H λJ H1=>∃W:Nat->Nat->St->Hp->Prop,(∃m,W 0 m σ H1)/\∀i m σ H,W i m σ H->
 (J.stop i H/\D.nx σ H)\/(J.go i H/\∃N:St->Hp->Prop,(∀ir H',N ir H'->∃U,U<m/\W (i+1) U ir H')/\∀x H',J.yld i H x H'->g x σ H' λI H2=>tb {D with nx:=N,ct:=N,bk:=D.nx} I H2)
def mZ(fp:List Addr)(h:Vx):List (Addr×Obj):=fp.filterMap λb=>(h.get? b).map λo=>(b,o)
def dF{b:Addr}{o:Obj}(I:b∈fp)(e:h.get? b=some o):(b,o)∈mZ fp h:=DQ.mpr ⟨b,I,by rw[e];rfl⟩
def yq{p:Addr×Obj}(I:p∈mZ fp h):p.1∈fp/\h.get? p.1=some p.2:=by
 obtain⟨b,J,e⟩:=DQ.mp I;cases q:h.get? b with
 |none=>rw[q] at e;cases e
 |some o=>
  rw[q] at e;have U:(b,o)=p:=Be e;subst U;exact⟨J,q⟩
def qw.pinned(I:qw X pins σ H s)(g:∀b∈fp,lW X pins H b)(j:∀b∈fp,∃o,s.heap.get? b=some o/\∀v,o.data≠.cell v):qw X (pins++mZ fp s.heap) σ H s:=
 I.pins_of λp l=>(Ak.mp l).elim (λz=>I.pin p<|Ag _ z) λz=>by obtain⟨J,e⟩:=yq z;obtain⟨r,f1,f2,_⟩:=g p.1 J;obtain⟨o,U,d⟩:=j p.1 J;rw[e] at U;cases U;exact⟨e,r,f1,f2,d⟩
def qw.unpinned{pl:List<|Addr×Obj}(I:qw X (pins++pl) σ H s):qw X pins σ H s:=I.pins_of λp J=>I.pin p<|Ag _<|Ao _ J
def Nb{iter:Expr}{g:TG}{tb:TS}(hp:PassesOwn (model X.prog X.w) X.A X.env X.xe)(hc:X.calm=true)(hi:PI X tg iter wi)(hg:PG X tg g)(l:gT X body tb)
 (hs:∀x,foldedSetIterable iter X.env x=pure x:=by intro _;rfl):PS X (.For tg iter body [] pos) (Na wi g tb):=by
 intro U s σ H D I h;refine wpAny_For (aI (hi U s σ H _ I h) λv s1 h1=>aI h1 λau s2 h2=>?_) hs;obtain⟨it,fp,tn,J,H2,e,I2,T,a4,f2,W,⟨m0,w0⟩,turn⟩:=h2;subst e;have p:∀{H':Hp},(∀b∈fp,H' b=none)->∀b∈fp,lW X U H' b:=λhn b l=>⟨hn b l,(f2 b l).2⟩;refine codeAny_forLoop_any (λn s'=>∃i t H',qw X U t H' s'/\tn i s'.heap/\(∀b∈fp,H' b=none)/\W i n t H') ?_ m0 ⟨0,σ,H2,I2,a4,λb l=>(f2 b l).1,w0⟩;rintro n s3 ⟨i,C,H3,I3,a2,a3,w3⟩;rcases turn i n C H3 w3 with⟨stop,qn⟩|⟨go,N,hN,step⟩
 ·refine wpAny_passesOwn hp<|aI (T.done X rfl rfl rfl hc i U s3 C H3 X.xe I3 (p a3) a2 stop) λr s4 ⟨hr,I4⟩=>?_;subst hr;exact wpAny_execs_nil ⟨C,H3,I4,qn⟩
 ·refine wpAny_passesOwn hp<|aI (T.item X rfl rfl rfl hc i U s3 C H3 X.xe I3 (p a3) a2 go) λr s4 ⟨u,hr,h4⟩=>?_;subst hr;refine wpAny_passesOwn hp<|aI h4 λ_ s5 ⟨x,H5,I5,r5,y5,a1,a5⟩=>?_;have ac:=I5.pinned (p a5)<|T.obj _ _ a1;refine wpAny_passesOwn hp<|aI (hg _ s5 C H5 x u _ ac r5<|step x H5 y5) λ_ s6 ⟨al,H6,I6,q6⟩=>?_;refine wpAny_passesOwn hp<|aI (l _ s6 al H6 _ I6 q6) λf s7 q7=>?_;have again:∀{j:St} {H7:Hp},qw X (U++mZ fp s5.heap) j H7 s7->N j H7->∃m,m<n/\∃i t H',qw X U t H' s7/\tn i s7.heap/\(∀b∈fp,H' b=none)/\W i m t H':=λ{j H7} I7 n7=>by obtain⟨m',hm,w7⟩:=hN j H7 n7;refine⟨m',hm,i+1,j,H7,I7.unpinned,T.keep _ _ _ a1 λb l o e=>(I7.pin (b,o)<|Ag _<|Ag _<|dF l e).1,λb l=>?_,w7⟩;obtain⟨o,e,d⟩:=T.obj _ _ a1 b l;exact(I7.pin (b,o)<|Ag _<|Ag _<|dF l e).2.1
  cases f with
  |next=>obtain⟨j,H7,I7,n7⟩:=q7;exact again I7 n7
  |cont=>obtain⟨j,H7,I7,n7⟩:=q7;exact again I7 n7
  |brk=>obtain⟨j,H7,I7,q7⟩:=q7;exact⟨j,H7,I7.unpinned,q7⟩
  |ret v=>obtain⟨x7,j,H7,I7,r7,q7⟩:=q7;exact⟨x7,j,H7,I7.unpinned,r7,q7⟩
abbrev R2:=V->V->Hp->VK->Prop
def wn(X:Cx)(f:Vt->Vt->Sem Vt)(r:R2):Prop:=
 ∀(pins:List<|Addr×Obj) (s:Vu) (σ:St) (H:Hp) (x y:V) (v u:Vt) (Q:VK),qw X pins σ H s->zv x v->zv y u->r x y H Q->
  wpAny (model X.prog X.w) X.A (f v u) (EP X pins σ Q) X.xe s
def jg(X:Cx)(f:Vt)(r:Vz->Hp->VK->Prop):Prop:=
 ∀(pins:List<|Addr×Obj) (s:Vu) (σ:St) (H:Hp) (xs:Vz) (us:Vi) (Q:VK),qw X pins σ H s->zu xs us->r xs H Q->
  wpAny (model X.prog X.w) X.A (call f us) (EP X pins σ Q) X.xe s
def Fy(r:R2)(ta tb:TE):TE:=λσ H Q=>ta σ H λx H1=>tb σ H1 λy H2=>r x y H2 Q
def rI(C:Int->Int->Prop)(g:Int->Int->V):R2:=λx y H Q=>∃i j,x=.int i/\y=.int j/\C i j/\Q (g i j) H
def o_(g:Int->Int->V):R2:=λx y H Q=>∃i j,x=.int i/\y=.int j/\Q (g i j) H
section
variable {a b c:Expr}{ta tb tc:TE}
def GC(j:PE X a ta)(l:PE X b tb){R:V->V->Hp->Prop}(I:qw X pins σ H s)
 (h:ta σ H λx H1=>tb σ H1 λy H2=>R x y H2) {f:Vt->Vt->Sem Vt}
 (o:∀v u g x y H2,qw X pins σ H2 g->zv x v->zv y u->R x y H2->wpAny (model X.prog X.w) X.A (f v u) Q X.xe g):
 wpAny (model X.prog X.w) X.A (eval a X.env) (λv J=>wpAny (model X.prog X.w) X.A (eval b X.env) (λu U=>wpAny (model X.prog X.w) X.A (f v u) Q X.xe U) X.xe J) X.xe s:=by
 refine aj (j pins s σ H _ I h) λv p x H1 r t C=>?_;refine aj (l pins p σ H1 _ r C) λu g y H2 T r2 q2=>?_;exact o v u g x y H2 T t r2 q2
def Nc{op:Operator}{r:R2}(U:wn X (binaryOp op) r)(g:PE X a ta)(j:PE X b tb):PE X (.BinOp a op b pos) (Fy r ta tb):=by intro J s l H Q I h;exact wpAny_BinOp<|GC g j I h λv u o x y p t C T q=>U J o l p x y v u Q t C T q
def GD{f:Vt->Vt->Sem Vt}{C:Int->Int->Prop}{g:Int->Int->Int}
 (rule:∀(i j:Int) (t u:Tok) (s:Vu) (Q:Vd) (E:Vd),C i j->Q (.int (g i j) s.toks) {s with toks:=s.toks+1}->wpAny (model X.prog X.w) X.A (f (.int i t)<|.int j u) Q E s):
 wn X f (rI C λi j=>.int<|g i j):=by
 rintro J s r H x y v u Q I U l⟨i,j,rfl,rfl,o,q⟩;obtain⟨t,rfl⟩:=U;obtain⟨p,rfl⟩:=l;exact rule i j t p s _ _ o ⟨.int<|g i j,H,I.tok _,⟨_,rfl⟩,q⟩
def HK{f:Vt->Vt->Sem Vt}{g:Int->Int->Int}
 (rule:∀(i j:Int) (t u:Tok) (s:Vu) (Q:Vd) (E:Vd),Q (.int (g i j) s.toks) {s with toks:=s.toks+1}->wpAny (model X.prog X.w) X.A (f (.int i t)<|.int j u) Q E s):
 wn X f (o_ λi j=>.int<|g i j):=by
 rintro J s p H x y v u Q I U l⟨i,j,rfl,rfl,q⟩;obtain⟨t,rfl⟩:=U;obtain⟨o,rfl⟩:=l;exact rule i j t o s _ _ ⟨.int<|g i j,H,I.tok _,⟨_,rfl⟩,q⟩
def GF{f:Vt->Vt->Sem Vt}{g:Int->Int->Bool}
 (rule:∀(i j:Int) (t u:Tok) (s:Vu) (Q:Vd) (E:Vd),Q (.bool<|g i j) s->wpAny (model X.prog X.w) X.A (f (.int i t)<|.int j u) Q E s):
 wn X f (o_ λi j=>.bl<|g i j):=by
 rintro J s p H x y v u Q I U l⟨i,j,rfl,rfl,q⟩;obtain⟨t,rfl⟩:=U;obtain⟨o,rfl⟩:=l;exact rule i j t o s _ _ ⟨.bl<|g i j,H,I,rfl,q⟩
def GG(i j:Int):Prop:=0<j/\j<1073741824
def acn(i j:Int):Prop:=(-(2 ^ 64)<i/\i<2 ^ 64)\/(-(2 ^ 64)<j/\j<2 ^ 64)
def acn.ok{i j:Int}(h:acn i j):IntMulOk i j:=by
 rcases h with⟨h1,h2⟩|⟨h1,h2⟩
 ·exact .of_left<|intBits_le_64 h1 h2
 ·exact .of_right<|intBits_le_64 h1 h2
def Nd:wn X (binaryOp .Add) (o_ λi j=>.int<|i+j):=HK λ_ _ _ _ _ _ _ q=>add_int q
def Nf:wn X (binaryOp .Sub) (o_ λi j=>.int<|i-j):=HK λ_ _ _ _ _ _ _ q=>sub_int q
def Ng:wn X (binaryOp .Mult) (rI acn λi j=>.int<|i*j):=GD λ_ _ _ _ _ _ _ I q=>mul_int q I.ok
def Nh:wn X (binaryOp .FloorDiv) (rI GG λi j=>.int<|i / j):=GD λi j _ _ _ _ _ I q=>by have h1:(0:Int)<j:=I.1;have h2:j<1073741824:=I.2;exact floordiv_int (by lia) (by rw[Int.fdiv_eq_ediv_of_nonneg i (by lia)];exact q)<|.inl<|PyProof.noPylong_small (by lia)
def Ni:wn X (binaryOp .Mod) (rI (λ_ j=>0<j) λi j=>.int<|i % j):=GD λi j _ _ _ _ _ I q=>by have h1:(0:Int)<j:=I;exact mod_int' (by lia) (by rw[Int.fmod_eq_emod_of_nonneg i (by lia)];exact q)
end
def HL:V->V->Bool
 |.int _,.int _=>true
 |.bl _,.bl _=>true
 |.str _,.str _=>true
 |_,_=>false
def F1:Bool->CmpOp
 |true=>.NotEq
 |false=>.Eq
def Fz(ne b:Bool):Bool:=match ne with
 |true=>!b
 |false=>b
def Nj(ne:Bool):R2:=λx y H Q=>HL x y=true/\Q (.bl<|Fz ne<|decide<|x=y) H
def yG{i j:Int}:decide (V.int i=V.int j)=(i==j):=by rw[Ez];simp
def HM{i j:Bool}:decide (V.bl i=V.bl j)=(i==j):=by rw[Ez];simp
def yA{i j:Str}:decide (V.str i=V.str j)=(i==j):=by rw[Ez];simp
section
variable {a b c:Expr}{ta tb tc:TE}
def ie{Q:VK}{k J:Bool}(I:qw X pins σ H s)(q:Q (.bl k) H)(e:k=J):EP X pins σ Q (.bool J) s:=by subst e;exact⟨.bl k,H,I,rfl,q⟩
def HN(ne:Bool):wn X (compareOp<|F1 ne) (Nj ne):=by
 rintro l s o H x y v u Q I U g⟨J,q⟩;cases x with
 |bl i=>
  cases y with|bl j=>cases U;cases g;cases ne;exact eq_bool<|ie I q HM;exact ne_bool (ie I q<|BM not HM)|_=>exact(AQ J).elim
 |int i=>
  cases y with
  |int j=>obtain⟨_,rfl⟩:=U;obtain⟨_,rfl⟩:=g;cases ne;exact eq_int<|ie I q yG;exact ne_int<|ie I q<|BM not yG
  |_=>exact(AQ J).elim
 |str i=>
  cases y with
  |str j=>obtain⟨_,rfl⟩:=U;obtain⟨_,rfl⟩:=g;cases ne;exact eq_str<|ie I q yA;exact ne_str<|ie I q<|BM not yA
  |_=>exact(AQ J).elim
 |_=>cases y<;>exact(AQ J).elim
def Nk:wn X (compareOp .Lt) (o_ λi j=>.bl<|decide<|i<j):=GF λ_ _ _ _ _ _ _ q=>lt_int q
def Nl:wn X (compareOp .LtE) (o_ λi j=>.bl<|decide<|i<=j):=GF λ_ _ _ _ _ _ _ q=>le_int q
def Nm:wn X (compareOp .Gt) (o_ λi j=>.bl<|decide<|j<i):=GF λ_ _ _ _ _ _ _ q=>gt_int q
def vn(b:Expr){op:CmpOp}(h:op≠.In:=by decide)(h2:op≠.NotIn:=by decide):behindInMarks op b=false:=by
 have I:(op==CmpOp.In)=false:=by cases op<;>first|rfl|exact absurd rfl h
 have J:(op==CmpOp.NotIn)=false:=by cases op<;>first|rfl|exact absurd rfl h2
 cases b<;>simp[behindInMarks,I,J]
def Nn{op:CmpOp}{r:R2}(U:wn X (compareOp op) r)(g:PE X a ta)(j:PE X b tb)(l:behindInMarks op b=false):PE X (.Compare a [op] [b] pos) (Fy r ta tb):=by intro J s o H Q I h;exact wpAny_Compare1 (GC g j I h λv u p x y t C T ry q=>U J p o t x y v u Q C T ry q) l
def GH(t:TE):TT:=λσ H Q=>t σ H λx H'=>∃k,x=.bl k/\Q k H'
def No{op:CmpOp}{r:R2}(g:wn X (compareOp op) r)(j:PE X a ta)(l:PE X b tb)(o:behindInMarks op b=false):PT X (.Compare a [op] [b] pos) (GH<|Fy r ta tb):=by
 intro J s U H Q I h;refine wpAny_isTrue_Compare1 (aj (j J s U H _ I h) λv p x t C T q1=>aj (l J p U t _ C q1) λu s2 y H2 I2 r2 q2=>
  aI (g J s2 U H2 x y v u _ I2 T r2 q2) λc s3 ⟨z,H3,I3,r3,k,e,q3⟩=>?_) o
 subst e;cases r3;exact wpAny_truthy_bool ⟨H3,I3,q3⟩
def iy:(sizeLine:Nat)<2 ^ 63:=by rw[sizeLine_eq];decide
def wD:wn X (binaryOp .Add) (λx y H Q=>∃i j,x=.str i/\y=.str j/\i.length+j.length<=sizeLine/\Q (.str<|i++j) H):=by rintro J s p H x y v u Q I U g⟨i,j,rfl,rfl,l,q⟩;obtain⟨t,rfl⟩:=U;obtain⟨o,rfl⟩:=g;exact jq I.tk<|add_str (λo tk r=>⟨.str<|i++j,H,I.tok _,⟨_,rfl⟩,q⟩) l
def lL{x:V}(r:zu [x] us):∃u,us=[u]/\zv x u:=by cases r with|cons I J=>cases J;exact⟨_,rfl,I⟩
def GI{x y:V}(r:zu [x,y] us):∃u I,us=[u,I]/\zv x u/\zv y I:=by
 cases r with
 |cons J U=>
  cases U with|cons g j=>cases j;exact⟨_,_,rfl,J,g⟩
def Np(hc:X.calm=true):jg X (.builtin "max") (λxs H Q=>∃i j,xs=[.int i,.int j]/\Q (.int<|if j > i then j else i) H):=by
 rintro U s g H xs l Q I r⟨i,j,rfl,q⟩;obtain⟨u,o,rfl,⟨t,rfl⟩,⟨p,rfl⟩⟩:=GI r;refine jq I.tk<|max_two_ints (I.ok.hd hc) λC tk k T=>⟨_,H,I.kept k,?_,q⟩;by_cases J:j > i
 ·rw[AA J,AA J];exact⟨_,rfl⟩
 ·rw[Ay J,Ay J];exact⟨_,rfl⟩
def Nq(hc:X.calm=true):jg X (.builtin "min") (λxs H Q=>∃i j,xs=[.int i,.int j]/\Q (.int<|if j<i then j else i) H):=by
 rintro U s g H xs l Q I r⟨i,j,rfl,q⟩;obtain⟨u,o,rfl,⟨t,rfl⟩,⟨p,rfl⟩⟩:=GI r;refine jq I.tk<|min_two_ints (I.ok.hd hc) λC tk k T=>⟨_,H,I.kept k,?_,q⟩;by_cases J:j<i
 ·rw[AA J,AA J];exact⟨_,rfl⟩
 ·rw[Ay J,Ay J];exact⟨_,rfl⟩
end
structure akz(h:Vx)(x dx C:Addr)(mA:Vf):Prop where
 obj:h.get? x=some (PySem.W.instObj C dx)
 ns:h.Ns1 dx mA
 ne:dx≠x
def Nr(n:h.Ns1 dx mA):∃od,h.get? dx=some od/\∀name,PySem.W.lookIn name od=some (mA name):=by
 obtain⟨o,J,r,U,hd,g,_,j⟩:=n;refine⟨o,U,λname=>?_⟩;have e:=j name;unfold nsFind findBy at e;rw[<-Array.find?_toList] at e;unfold PySem.W.lookIn;rw[hd];dsimp only;split
 ·rename_i y q;rw[q] at e;exact BM some e
 ·rename_i q;rw[q] at e;have a:J.toList.any (·.refKey)=false:=by rw[List.any_eq_false];intro y l;obtain⟨z,t,I⟩:=g y<|Array.mem_toList_iff.mp l;simp[DictEntry.refKey,I]
  have p:¬J.toList.any (·.refKey)=true:=by rw[a];exact AQ
  rw[Ay p];exact BM some e
def akz.look{x:Addr}(I:akz h x dx C mA):∃od,PySem.W.InstAt h x (PySem.W.instObj C dx) C (some od)/\∀name,PySem.W.lookIn name od=some (mA name):=
 let ⟨od,J,U⟩:=Nr I.ns
 ⟨od,⟨I.obj,rfl,rfl,J⟩,U⟩
section
variable {w:Vw}{K:Ah}{x:Addr}{v:Vt}
end
def jJ.some_of{o:Vp}(r:jJ (some v) o):∃u,o=some u/\zv v u:=by cases o with|none=>exact(show False from r).elim|some u=>exact⟨u,rfl,r⟩
abbrev EW:=@jJ.some_of
section
variable {P:Vv}{w:Vw}{a:Addr}{fs fs':List<|Str×V}
def Nt(hok:dQ P w H h)(e:H a=some (.ins C dx fs)):∃mA,akz h a dx C mA/\(∀f,jJ (fs.lookup f)<|mA f)/\PySem.Within mA (fs.map (·.1))/\fs.length<=1000/\H dx=some (.own a):=by obtain⟨d,z,ne,ob,mA,n,r,q⟩:=(show xj P w H h a (.ins C dx fs) from hok a _ e);exact⟨mA,⟨ob,n,ne⟩,r,q,z,d⟩
end
structure Cls(K:Ah)(C:Addr):Prop where
 pg:PySem.W.plainGet K C Str.empty=true
 hd:PySem.W.hasDictIn K C=true
 po:PySem.W.plainOver K C=true
 sa:PySem.W.findIn K (.ref C) "__setattr__"=some (some<|.builtin "object.__setattr__")
def Cls.get{K:Ah}(c:Cls K C)(f:Str):PySem.W.plainGet K C f=true:=c.pg
section
variable {a:Addr}{fs:List<|Str×V}{f:Str}
end
section
variable {f:Str}{tpos:Pos}{ta tv:TE}
end
section
variable {c:Vt}{b:Bool}
inductive lV(K:Ah)(H:Hp):V->Vt->Prop where
 |non:lV K H .non (.type "NoneType")
 |bl (x:Bool):lV K H (.bl x) (.type "bool")
 |int (i:Int):lV K H (.int i) (.type "int")
 |str (x:Str):lV K H (.str x) (.type "str")
 |flt (x:UInt64):lV K H (.flt x) (.type "float")
 |lst {a:Addr} {xs:Vz} (e:H a=some (.lst xs)):lV K H (.ref a) (.type "list")
 |frz {a:Addr} {o:Obj} {xs:Vz} (e:H a=some (.frz o<|.lst xs)):lV K H (.ref a) (.type "list")
 |tup {a:Addr} {xs:Vz} (e:H a=some (.tup xs)):lV K H (.ref a) (.type "tuple")
 |dK {a:Addr} {kvs:List<|j9×V} (e:H a=some (.dK kvs)):lV K H (.ref a) (.type "dict")
 |dT {a:Addr} {kvs:List<|VB×V} (e:H a=some (.dT kvs)):lV K H (.ref a) (.type "dict")
 |ins {a C dx:Addr} {fs:List<|Str×V} (e:H a=some (.ins C dx fs)) (cl:Cls K C) (ha:PySem.W.findIn K (.ref C) "__class__"=some (some<|.builtin "object.__class__"))
  (hn:PySem.W.specialIn K (.builtin "object.__class__") "__get__"=some (some<|.builtin "getset_descriptor.__get__")) (htk:PySem.W.takesIn K (.builtin "object.__class__")=some true)
  (hm:PySem.W.mroIn K C (.type "object")=some true):lV K H (.ref a) (.ref C)
theorem ay{x:V}{t:Vt}(I:qw X pins σ H s)(U:zv x u)(ty:lV X.K H x t)(e:PySem.W.kitOne X.K t c=some b)(h:∀tk,Q (.bool b) {s with toks:=tk}):
 wpAny (model X.prog X.w) A (call (.builtin "isinstance") [u,c]) Q E s:=by
 cases ty with
 |non=>cases (show u=Value.none from U);exact Bt PySem.W.kitx_none I.kIn True.intro e (λz=>nomatch z) h
 |bl y=>cases (show u=Value.bool y from U);exact Bt PySem.W.kitx_bool I.kIn True.intro e (λz=>nomatch z) h
 |int i=>obtain⟨t,q⟩:=(show ∃t,u=Value.int i t from U);cases q;exact Bt PySem.W.kitx_int I.kIn True.intro e (λz=>nomatch z) h
 |str y=>obtain⟨t,q⟩:=(show ∃t,u=Value.str y t from U);cases q;exact Bt PySem.W.kitx_str I.kIn True.intro e (λz=>nomatch z) h
 |flt y=>obtain⟨t,q⟩:=(show ∃t,u=Value.float y t from U);cases q;exact Bt PySem.W.kitx_float I.kIn True.intro e (λz=>nomatch z) h
 |@lst a j ea=>
  cases (show u=Value.ref a from U);obtain⟨_,_,n,_,h1⟩:=(show xj X.prog X.w H s.heap a (.lst j) from I.hok a _ ea);exact Bt DZ I.kIn ⟨_,h1,rfl⟩ e (λz=>nomatch z) h
 |@frz a ob j ea=>
  cases (show u=Value.ref a from U);obtain⟨_,_,_,n,_,h1⟩:=(show xj X.prog X.w H s.heap a (.frz ob<|.lst j) from I.hok a _ ea);exact Bt DZ I.kIn ⟨_,h1,rfl⟩ e (λz=>nomatch z) h
 |@tup a j ea=>
  cases (show u=Value.ref a from U);obtain⟨_,_,_,p⟩:=(show xj X.prog X.w H s.heap a (.tup j) from I.hok a _ ea);obtain⟨o,h1,h2,_⟩:=p;exact Bt PySem.W.kitx_tuple I.kIn ⟨o,h1,h2⟩ e (λz=>nomatch z) h
 |@dK a g ea=>
  cases (show u=Value.ref a from U);obtain⟨_,_,vs,_,p⟩:=(show xj X.prog X.w H s.heap a (.dK g) from I.hok a _ ea);obtain⟨o,r,T,h1,h2,_⟩:=p;exact Bt PySem.W.kitx_dict I.kIn ⟨o,h1,h2.1⟩ e (λz=>nomatch z) h
 |@dT a g ea=>
  cases (show u=Value.ref a from U);obtain⟨_,_,j,_,o,r,T,h1,h2,_⟩:=(show xj X.prog X.w H s.heap a (.dT g) from I.hok a _ ea);exact Bt PySem.W.kitx_dict I.kIn ⟨o,h1,h2.1⟩ e (λz=>nomatch z) h
 |@ins a C dx fs ea cl ha hn l hm=>
  cases (show u=Value.ref a from U);obtain⟨mA,O,_⟩:=Nt I.hok ea;obtain⟨od,J,_⟩:=O.look;exact Bt (PySem.W.kitx_own (cl.get _) cl.hd ha hn l hm) I.kIn J e (λz=>nomatch z) h
end
structure ww(k:Nat)(A:Around):Prop where
 hd:A.handled=none
 dp:A.depth+3*k+5<recursionLimit
 un:A.units+16*k+200<cLine
def ww.mono{k:Nat}(r:ww k A)(h:j<=k):ww j A:=⟨r.hd,by have:=r.dp;lia,by have:=r.un;lia⟩
def ww.deeper{k:Nat}(r:ww (k+1) A)(env:Env):ww k (A.deeper env):=
 ⟨r.hd,by have:=r.dp;show A.depth+1+3*k+5<_;lia,by have:=r.un;show A.units+3+16*k+200<_;lia⟩
def ww.depth{k:Nat}(r:ww k A):A.depth<recursionLimit:=by have:=r.dp;lia
def Nu:TA:=λ_ H Q=>Q [] H
def Nv(ta:TE)(tr:TA):TA:=λσ H Q=>ta σ H λx H1=>tr σ H1 λxs H2=>Q (x::xs) H2
section
variable {te:TE}{t:TA}
def dX:PA X [] Nu:=λ_ _ _ _ H Q I h=>Ff ⟨[],H,I,.nil,h⟩
abbrev E8(e:Expr)(es:Vm)(X:Cx):Prop:=starEach (e::es) X.env=(false,eval e X.env)::starEach es X.env
def wz(g:PE X e te)(j:PA X es t)(hs:E8 e es X:=by rfl):PA X (e::es) (Nv te t):=by intro pos J s U H Q I h;rw[hs];show wpAny _ _ (spliced<|(false,eval e X.env)::backTo pos (starEach es X.env)) _ _ s;refine EQ<|aj (g J s U H _ I h) λu l x o p r C=>?_;exact zC (j pos J l U o _ p C) λus s2 T H2 I2 r2 q2=>⟨x::T,H2,I2,.cons r r2,q2⟩
def Nw(t:TA):TE:=λσ H Q=>t σ H λxs H1=>xs.length<=sizeLine/\∀p,H1 p=none->Q (.ref p) (upd H1 p<|.tup xs)
def asg(t:TA):TE:=λσ H Q=>t σ H λxs H1=>xs.length<=sizeLine/\∀p,H1 p=none->Q (.ref p) (upd H1 p<|.lst xs)
def HQ{x1}(h:PA X es t):PE X (.Tuple es x1 pos) (Nw t):=by intro J s l H Q I o;refine wpAny_Tuple_spliced (aI (h pos J s l H _ I o) λp U ⟨C,g,j,r,z,q⟩=>⟨by rw[<-r.length];exact z,?_⟩);have T:g U.heap.objs.size=none:=j.hok.fresh<|Ap _;refine⟨.ref U.heap.objs.size,upd g U.heap.objs.size<|.tup C,j.laid (t':=U.toks) (λb u e=>vb _ e) (Ap _) ?_,rfl,q _ T⟩;exact⟨z,p,r,⟨_,xT _ rfl,rfl,_,rfl⟩⟩
def Nx(h:PA X es t):PE X (.List es pos) (asg t):=by intro J s l H Q I o;refine wpAny_List_spliced (aI (h pos J s l H _ I o) λp U ⟨C,g,j,r,z,q⟩=>⟨by rw[<-r.length];exact z,?_⟩);have T:g U.heap.objs.size=none:=j.hok.fresh<|Ap _;refine⟨.ref U.heap.objs.size,upd g U.heap.objs.size<|.lst C,j.laid (t':=U.toks) (λb u e=>vb _ e) (Ap _) ?_,rfl,q _ T⟩;exact⟨z,p,0,r,xT _ rfl⟩
end
abbrev Sp:=Vz->Hp->VK->XK->Prop
abbrev yQ:=List Env->Hp->Vu->XK->Vd
structure F2(P:Vv)(w:Vw)(K:Ah)(mg:Vf)(base:Vx)(A:Around)(outer:List Env)(s:Vu)(H:Hp):Prop where
 frames:A.frames=some outer
 mod:Mod K mg base
 bs:∀b o,base.get? b=some o->s.heap.get? b=some o/\H b=none
 bsz:base.objs.size<=s.heap.objs.size
 funs:s.heap.FunFrames base outer
 frf:∀b∈br outer,H b=none
 hok:dQ P w H s.heap
 bare:AllBare s.gens
 tk:0<s.toks
def CE(outer:List Env)(P:Vv)(w:Vw)(H:Hp)(s:Vu)(Q:VK)(u:Vt)(s':Vu):Prop:=
 ∃v H',s'.os=s.os/\AllBare s'.gens/\Un (br outer) [] H H' s.heap s'.heap/\dQ P w H' s'.heap/\zv v u/\Q v H'/\0<s'.toks
def CR(CX:yQ)(outer:List Env)(P:Vv)(w:Vw)(H:Hp)(s:Vu)(Q:VK)(E:XK)(r:Result)(s':Vu):Prop:=
 match r with
 |.ok (.ret u)=>CE outer P w H s Q u s'
 |.ok _=>False
 |.error e=>CX outer H s E e s'
structure bP(P:Vv)(w:Vw)(K:Ah)(mg:Vf)(base:Vx)(CX:yQ)(k:Nat)(f:Addr)(fd:FuncData)(ps:Vl)(sp:Sp):Prop where
 len:∀vs H Q E,sp vs H Q E->vs.length=ps.length
 run:∀(A:Around) (outer:List Env) (s:Vu) (H:Hp) (args:Args) (us:Vi) (vs:Vz) (Q:VK) (E:XK),ww k A->F2 P w K mg base A outer s H->BindsTo s fd args (ps.zip us)->zu vs us->sp vs H Q E->
  codeAny (model P w) A (.call (.ref f) args) (CR CX outer P w H s Q E) s
theorem bP.mono{P:Vv}{w:Vw}{K:Ah}{CX:yQ}{k:Nat}{sp:Sp}(F:bP P w K mg base CX j f fd ps sp)(h:j<=k):
 bP P w K mg base CX k f fd ps sp:=⟨F.len,λA I s H args J U Q E g=>F.run A I s H args J U Q E<|g.mono h⟩
def bP.imp{P:Vv}{w:Vw}{K:Ah}{CX:yQ}{k:Nat}{sp J:Sp}(F:bP P w K mg base CX k f fd ps sp)
 (h:∀vs H Q E,J vs H Q E->sp vs H Q E):bP P w K mg base CX k f fd ps J:=
 ⟨λvs H Q E q=>F.len vs H Q E<|h _ _ _ _ q,λA I s H args U vs Q E g j l o p=>F.run A I s H args U vs Q E g j l o<|h _ _ _ _ p⟩
def qw.env0(I:qw X pins σ H s):F2 X.prog X.w X.K X.mg X.base X.A X.stack s H:=
 ⟨I.ok.frames,I.ok.mod,I.bs,AW I.ok.bsz I.sz,I.stack,I.stkFree,I.hok,I.bare,I.tk⟩
def qw.after{Q:VK}(I:qw X pins σ H s)(h:CE X.stack X.prog X.w H s Q u s'):EP X pins σ Q u s':=by obtain⟨v,j,os,bare,un,J,r,q,o⟩:=h;obtain⟨l,g,d,t,U⟩:=s';obtain rfl:U=s.os:=os;exact⟨v,j,I.call (h':=l) (g':=g) (d':=d) (t':=t) (ch:=[]) un J bare λb z=>absurd z (by simp),r,q⟩
def HR(sp:Sp)(r4:Vz)(E:XK)(t:TA):TE:=λσ H Q=>t σ H λvs H1=>sp (vs++r4) H1 Q E
def dM(K:Ah)(fd:FuncData)(ps:Vl)(ds:Vi):Prop:=
 ∀(s:Vu) (us:Vi),K.In s.heap->(us++ds).length=ps.length->BindsTo s fd ⟨us,[]⟩ (ps.zip<|us++ds)
def dM.all{K:Ah}(h:∀us:Vi,us.length=ps.length->bindArgs fd ⟨us,[]⟩=pure (ps.zip us)):dM K fd ps []:=λs us _ I=>by rw[AC] at I ⊢;exact .of_eq<|h us I
def vN(CX:yQ)(X:Cx)(E:XK):Prop:=∀(pins:List<|Addr×Obj) (σ:St) (H:Hp) (s:Vu) (e:Vt) (s':Vu),qw X pins σ H s->CX X.stack H s E e s'->X.xe e s'
section
variable {CX:yQ}{k:Nat}{sp:Sp}{r4:Vz}{ds:Vi}{E:XK}{m:Str}{p:Pos}{ta:TE}{t:TA}
def Ny{Q:VK}{vs:Vz}(F:bP X.prog X.w X.K X.mg X.base CX k f fd ps sp)(g:ww k X.A)(j:dM X.K fd ps ds)(hd:zu r4 ds)(l:vN CX X E)
 (I:qw X pins σ H s) (r:zu vs us) (h:sp (vs++r4) H Q E):wpAny (model X.prog X.w) X.A (call (.ref f) us) (EP X pins σ Q) X.xe s:=by
 have U:zu (vs++r4) (us++ds):=r.append hd;have o:(us++ds).length=ps.length:=by rw[<-U.length];exact F.len _ _ _ _ h
 refine wpAny_call<|codeAny_mono (F.run X.A X.stack s H ⟨us,[]⟩ (us++ds) (vs++r4) Q E g I.env0 (j s us I.kIn o) U h) λr p J=>?_;cases r with
 |error e=>exact l pins σ H s e p I J
 |ok t=>
  cases t with|ret u=>exact I.after J|next=>exact False.elim J|brk=>exact False.elim J|cont=>exact False.elim J
abbrev E9(p:Pos)(es:Vm)(X:Cx):Prop:=(backTo p<|starEach es X.env).any (·.1)=false
def Nz(F:bP X.prog X.w X.K X.mg X.base CX k f fd ps sp)(l:ww k X.A)(o:Gl X x)(C:X.mg x=some (.ref f))(T:PySem.W.keepIn X.K (.ref f)=true)(hb:dM X.K fd ps ds)(hd:zu r4 ds)(hx:vN CX X E)
 (ha:PA X (e::es) t) (U:Fb x:=by decide) (he:E8 e es X:=by rfl) (g:E9 pos es X:=by rfl):
 PE X (.Call (.Name x p) (e::es) [] pos) (HR sp r4 E t):=by
 intro J s σ H Q I h;refine wpAny_Call_Name_kw<|gm I o C ?_ U;refine PySem.W.callWith_K (h₀:=X.base) I.ok.mod.kin T (zC (ha pos J s σ H _ I h) λus s1 vs H1 j r q=>⟨j.kIn,?_⟩) he g;exact Ny F l hb hd hx j r q
end
section
variable {CX:yQ}{k:Nat}{ks:Vl}{sp:Sp}{E:XK}{m:Str}{p:Pos}{kws:List Keyword}{te ta:TE}{t tk:TA}{nm:Option Str}
variable {g:Vi->Vi->Vi}{gV:Vz->Vz->Vz}
end
structure wy(N P:Vl)(sc:Scope):Prop where
 kind:sc.kind=.function
 co:sc.isCoroutine=false
 gen:sc.isGenerator=false
 nd:N.Nodup
 pre:N.take P.length=P
 par:∀x∈P,sc.names.lookup x=some .local\/sc.names.lookup x=some .cell
 nofree:∀y∈sc.names,y.2≠.free
theorem qG{kindOf:Str->Option NameKind}{x:Str}:∀{I:List<|Str×Vt} {m:Vf},(∀v,(x,v)∉I)->bindL kindOf I m x=m x
 |[],_,_=>rfl
 |(n,v)::r,m,h=>by
  unfold bindL;rw[qG λw hw=>h w<|Ab _ hw];split
  ·have:x≠n:=by rintro rfl;exact h v Aj
   simp[this]
  ·rfl
theorem pQ{kindOf:Str->Option NameKind}{x:Str}:∀{I:List<|Str×Vt} {m:Vf},(∀v,(x,v)∉I)->bindC kindOf I m x=m x
 |[],_,_=>rfl
 |(n,v)::r,m,h=>by
  unfold bindC;rw[pQ λw hw=>h w<|Ab _ hw];split
  ·rfl
  ·have:x≠n:=by rintro rfl;exact h v Aj
   simp[this]
theorem qE{kindOf:Str->Option NameKind}{x:Str}{v:Vt}:∀{P:Vl} {vs:Vi} {i:Nat} {m:Vf},P.Nodup->P[i]?=some x->vs[i]?=some v->kindOf x=some .local->
 bindL kindOf (P.zip vs) m x=some v
 |[],_,_,_,_,h,_,_=>by simp at h
 |_::_,[],_,_,_,_,h,_=>by simp at h
 |p::P,w::vs,0,m,nd,h1,h2,I=>by simp at h1 h2;subst h1;subst h2;show bindL kindOf ((p,w)::P.zip vs) m p=_;unfold bindL;rw[qG λv J=>(Av.mp nd).1 (DH J).1,AA I];simp
 |p::P,w::vs,i+1,m,nd,h1,h2,I=>by show bindL kindOf ((p,w)::P.zip vs) m x=_;unfold bindL;exact qE (i:=i) (Av.mp nd).2 (by simpa using h1) (by simpa using h2) I
theorem qJ{kindOf:Str->Option NameKind}{x:Str}{v:Vt}:∀{P:Vl} {vs:Vi} {i:Nat} {m:Vf},P.Nodup->P[i]?=some x->vs[i]?=some v->kindOf x≠some .local->
 bindC kindOf (P.zip vs) m x=some v
 |[],_,_,_,_,h,_,_=>by simp at h
 |_::_,[],_,_,_,_,h,_=>by simp at h
 |p::P,w::vs,0,m,nd,h1,h2,I=>by simp at h1 h2;subst h1;subst h2;show bindC kindOf ((p,w)::P.zip vs) m p=_;unfold bindC;rw[pQ λv J=>(Av.mp nd).1 (DH J).1,Ay I];simp
 |p::P,w::vs,i+1,m,nd,h1,h2,I=>by show bindC kindOf ((p,w)::P.zip vs) m x=_;unfold bindC;exact qJ (i:=i) (Av.mp nd).2 (by simpa using h1) (by simpa using h2) I
def start(N:Vl)(vs:Vz):St:=vs.map some++List.replicate (N.length-vs.length) none
def eY(CX:yQ)(P:Vv)(w:Vw)(K:Ah)(mg:Vf)(base:Vx)(N:Vl)(eK:Str)(scope:Scope)(f:Addr)(cd:Vt)(A:Around)(outer:List Env)(s:Vu)(H:Hp)(E:XK):Cx where
 prog:=P
 w:=w
 K:=K
 mg:=mg
 base:=base
 A:=A.deeper<|envOfC eK scope s.heap.objs.size f cd
 N:=N
 s₀:=s
 H₀:=H
 env:=envOfC eK scope s.heap.objs.size f cd
 outer:=outer
 stack:=envOfC eK scope s.heap.objs.size f cd::outer
 ex:=[]
 calm:=true
 fn:=λ_=>true
 pn:=[]
 xe:=λe s'=>wpAny (model P w) (A.deeper<|envOfC eK scope s.heap.objs.size f cd) (leaving (envOfC eK scope s.heap.objs.size f cd) e) (λ_ I=>CX outer H s E e I) (λJ I=>CX outer H s E J I) s'
def tO{I:Scope}(h:I.names.lookup x=some .cell):∃c,(cellsFrom n I.names []).lookup x=some c:=by have q:=Es I.names n []<|.inl h;exact Option.isSome_iff_exists.mp q
def NA{CX:yQ}{P:Vv}{w:Vw}{K:Ah}{N:Vl}{o:Vu}{E:XK}{vs:Vz}
 (S:wy N ps scope) (hd:A.handled=none) (I:F2 P w K mg base A outer s H) (hl:vs.length=ps.length) (r:zu vs us)
 (x:InCallC s s.heap.objs.size (bindL (envOfC eK scope s.heap.objs.size f cd).kindOf (ps.zip us) λ_=>none) (cellsFrom (s.heap.objs.size+1) scope.names []) (bindC (envOfC eK scope s.heap.objs.size f cd).kindOf (ps.zip us) λ_=>none) o) (T:0<o.toks):
 qw (eY CX P w K mg base N eK scope f cd A outer s H E) [] (start N vs) H o:=by
 have a1:ps.length<=N.length:=by have:=BM List.length S.pre;rw[AZ] at this;lia
 obtain⟨h1,tk,rfl,t⟩:=x.done;have J:∀b:Addr,b∉(eY CX P w K mg base N eK scope f cd A outer s H E).ex:=λb z=>absurd (show b∈([]:List Addr) from z) (by simp);refine⟨⟨I.mod,S.kind,rfl,rfl,Ap _,λy z c h1 h2=>?_,λy U=>?_,λy c _ h=>?_,λ_=>hd,Around.frames_deeper I.frames,.inr ⟨rfl,rfl⟩,λb z=>absurd z<|J b,I.bs,I.bsz,λb _ _=>J b,λb z=>absurd z<|J b,I.funs,I.frf⟩,
  rfl,I.bare,Un.kept t,⟨_,x.toInCall.ns,λi y v h1 h2 h3=>?_⟩,λy c h=>⟨_,x.cell y c h⟩,I.hok.fresh<|Ap _,λy c h=>?_,λp g=>absurd (show p∈([]:List<|Addr×Obj) from g) (by simp),I.hok.kept t,?_,T⟩
 ·exact name_of_addr x.apart (BI h1)<|BI h2
 ·have U:scope.names.lookup y=some .cell\/scope.names.lookup y=some .free:=U;rcases U with U|U
  ·exact tO U
  ·exact absurd rfl<|S.nofree _<|BI U
 ·exact BK<|x.above y c<|BI h
 ·have l:i<vs.length:=by
   unfold start at h2;by_cases l:i<vs.length
   ·exact l
   ·rw[AN (by simpa using l)] at h2;rw[Dj] at h2;split at h2<;>cases h2
  have ha:vs[i]?=some v:=by unfold start at h2;rw[AE (by simpa using l),Au] at h2;cases e:vs[i]? with|none=>rw[e] at h2;cases h2|some a=>rw[e] at h2;cases h2;rfl
  obtain⟨u,C,rv⟩:=r.get ha;have g:ps[i]?=some y:=by rw[<-S.pre,Ef (by lia)];exact h1
  have j:ps.Nodup:=by rw[<-S.pre];exact S.nd.sublist<|Eb _ _
  refine⟨u,rv,?_⟩;rcases S.par y (Az g) with k|k
  ·exact .inl ⟨k,qE j g C k⟩
  ·obtain⟨c,e⟩:=tO (n:=s.heap.objs.size+1) k;refine .inr ⟨.inl k,c,e,?_⟩;have q:=x.cell y c e;rw[qJ j g C (by show scope.names.lookup y≠_;rw[k];decide)] at q;exact q
 ·exact I.hok.fresh<|BK<|x.above y c<|BI h
 ·unfold start;show _=N.length;rw[Ad,Af,Co];lia
theorem GJ{CX:yQ}{P:Vv}{w:Vw}{K:Ah}{k:Nat}{U:Arguments}{dV kV ct:Vt}
 {N:Vl} {sp:Sp} (lk:K.lookup f=some ⟨oc,od,.func<|PySem.W.fnOf name eK U body scope dV kV kt pm an fv ct,oi⟩) (a1:PySem.W.codeIn K fv eK=true) (S:wy N ps scope)
 (len:∀vs H Q E,sp vs H Q E->vs.length=ps.length)
 (j:∀(A:Around) (outer:List Env) (s:Vu) (H:Hp) (vs:Vz) (Q:VK) (E:XK),ww k (A.deeper<|envOfC eK scope s.heap.objs.size f fv)->sp vs H Q E->
  ∃t,gT (eY CX P w K mg base N eK scope f fv A outer s H E) body t/\t {nx:=λ_ H'=>Q .non H',rt:=Q} (start N vs) H):
 bP P w K mg base CX (k+1) f (PySem.W.fnOf name eK U body scope dV kV kt pm an fv ct) ps sp:=by
 refine⟨len,λA outer s H args us vs Q E hr p hb r T=>?_⟩;have hl:=len _ _ _ _ T;have KX:K.In s.heap:=p.mod.kin.keeps λb o e=>(p.bs b o e).1;have a2:s.heap.NoLimit:=p.mod.nolimit.keeps λb o e=>(p.bs b o e).1;have l:∀y∈ps.zip us,scope.names.lookup y.1=some .local\/(scope.names.lookup y.1=some .cell/\((cellsFrom (s.heap.objs.size+1) scope.names []).lookup y.1).isSome=true):=λ⟨n,v⟩ hy=>by
  rcases S.par n (DH hy).1 with q|q
  ·exact .inl q
  ·exact .inr ⟨q,Es _ _ _<|.inl q⟩
 refine codeAny_call_function hr.depth (KX _ _ lk) rfl S.co S.gen rfl (PySem.W.codeRec_of KX a1)<|hb _ _ _ _ ?_;refine jq p.tk<|wpAny_newFunctionEnv_cells S.kind l λa4 he s1 x a3=>?_;subst he;refine⟨a2.keeps x.toInCall.keep,codeAny_func ?_⟩;obtain⟨t,ht,hq⟩:=j A outer s H vs Q E (hr.deeper _) T;have I:qw (eY CX P w K mg base N eK scope f fv A outer s H E) [] (start N vs) H s1:=NA S hr.hd p hl r x a3;refine AY (ht [] s1 (start N vs) H _ I hq) (λfl s' C=>?_) λe s' C=>C;have xa:∀{g:St} {H':Hp} {v:V} {u:Vt},qw (eY CX P w K mg base N eK scope f fv A outer s H E) [] g H' s'->zv v u->Q v H'->CE outer P w H s Q u s':=
  λ{g H' v u} J rv q=>⟨v,H',J.os,J.bare,J.base,J.hok,rv,q,J.tk⟩
 cases fl with
 |ret u=>
  obtain⟨v,g,H',J,rv,q⟩:=C;exact xa J rv q
 |next=>
  obtain⟨g,H',J,q⟩:=C;exact xa (v:=V.non) (u:=Value.none) J rfl q
 |brk=>
  obtain⟨_,_,_,q⟩:=C;exact False.elim q
 |cont=>
  obtain⟨_,_,_,q⟩:=C;exact False.elim q
end L2
variable {sp:L2.Sp}
namespace L2
open PySem PySem.Spec PyProof.Rows
section
variable {p:Pos}{t:TA}{id T:Vy}{r:Vz->Hp->VK->Prop}
def HU(r:Vz->Hp->VK->Prop)(t:TA):TE:=λσ H Q=>t σ H λvs H1=>r vs H1 Q
def hX(hc:jg X (.builtin id) r)(l:Gl X x)(o:X.mg x=none)(C:bootBuiltins x=some (.builtin id))(T:PA X (e::es) t)(hn:x ≠ "__name__" := by decide)(U:Fb x:=by decide)
 (he:E8 e es X:=by rfl) (g:E9 pos es X:=by rfl):PE X (.Call (.Name x p) (e::es) [] pos) (HU r t):=by
 intro J s j H Q I h;refine wpAny_Call_Name_kw<|e9 I l o C ?_ hn U;exact PyProof.Rows.callWith_builtin1 (zC (T pos J s j H _ I h) λus s1 vs H1 I1 r1 q1=>hc J s1 j H1 vs us Q I1 r1 q1) he g
def jZ(hc:jg X (.type T) r)(l:Gl X x)(o:X.mg x=none)(C:bootBuiltins x=some (.type T))(ha:PA X (e::es) t)(hn:x ≠ "__name__" := by decide)(U:Fb x:=by decide)
 (he:E8 e es X:=by rfl) (g:E9 pos es X:=by rfl):PE X (.Call (.Name x p) (e::es) [] pos) (HU r t):=by
 intro J s j H Q I h;refine wpAny_Call_Name_kw<|e9 I l o C ?_ hn U;exact CN (zC (ha pos J s j H _ I h) λus s1 vs H1 I1 r1 q1=>hc J s1 j H1 vs us Q I1 r1 q1) he g
end
section
variable [DecidableEq κ]
def bT(kvs:List<|κ×V)(k:κ):VA:=(kvs.find? λI=>decide<|I.1=k).map (·.2)
def eO(kvs:List<|κ×V)(k:κ)(v:V):List (κ×V):=
 if (kvs.any λI=>decide<|I.1=k)=true then kvs.map (λI=>if I.1=k then(I.1,v) else I) else kvs++[(k,v)]
def ni{p:κ×V}{r:List<|κ×V}{k:κ}(e:p.1=k):bT (p::r) k=some p.2:=by simp[bT,BE,e]
def oN{p:κ×V}{r:List<|κ×V}{k:κ}(e:¬p.1=k):bT (p::r) k=bT r k:=by simp[bT,BE,e]
theorem uK(k:κ):∀kvs:List (κ×V),(kvs.any λI=>decide<|I.1=k)=(bT kvs k).isSome
 |[]=>rfl
 |p::r=>by
  rw[CA];by_cases e:p.1=k
  ·simp only[ni e,AK e,Bool.true_or,DR]
  ·rw[oN e,AD e,Bool.false_or];exact uK k r
def eV(kvs:List<|κ×V)(k:κ)(v:V):(eO kvs k v).length<=kvs.length+1:=by
 unfold eO;split
 ·rw[Af];lia
 ·rw[Ad,AF,DI];lia
def jJ.isSome_eq{o:VA}{u:Vp}(r:jJ o u):o.isSome=u.isSome:=by
 cases o with
 |none=>cases u with|none=>rfl|some _=>exact(show False from r).elim
 |some _=>cases u with|none=>exact(show False from r).elim|some _=>rfl
def KV.val{kvs:List<|κ×V}{vs:List<|κ×Vt}(r:KV kvs vs)(k:κ):jJ (bT kvs k) (valueAt vs k):=by
 unfold KV at r
 induction r with
 |nil=>exact True.intro
 |@cons p q g I h t U=>
  obtain⟨h1,h2⟩:=h;by_cases e:p.1=k
  ·have J:q.1=k:=h1.symm.trans e;have b:valueAt (q::I) k=some q.2:=by simp[valueAt,BE,J]
   rw[ni e,b];exact h2
  ·have J:¬q.1=k:=λz=>e<|h1.trans z;have b:valueAt (q::I) k=valueAt I k:=by simp[valueAt,BE,J]
   rw[oN e,b];exact U
def KV.any{kvs:List<|κ×V}{vs:List<|κ×Vt}(r:KV kvs vs)(k:κ):(kvs.any λI=>decide<|I.1=k)=vs.any λI=>decide (I.1=k):=by
 unfold KV at r
 induction r with|nil=>rfl|cons h t J=>rw[CA,CA,J,h.1]
def KV.repl{kvs:List<|κ×V}{vs:List<|κ×Vt}(r:KV kvs vs)(k:κ){y:V}(J:zv y u):
 KV (kvs.map λI=>if I.1=k then(I.1,y) else I) (vs.map λI=>if I.1=k then(I.1,u) else I):=by
 unfold KV at r ⊢
 induction r with
 |nil=>exact .nil
 |@cons p q g j h t U=>
  rw[AJ,AJ];refine .cons ?_ U;obtain⟨h1,h2⟩:=h;by_cases e:p.1=k
  ·rw[AA e,AA<|h1.symm.trans e];exact⟨h1,J⟩
  ·rw[Ay e,Ay λz=>e<|h1.trans z];exact⟨h1,h2⟩
def KV.put{kvs:List<|κ×V}{vs:List<|κ×Vt}(r:KV kvs vs)(k:κ){y:V}(I:zv y u):KV (eO kvs k y) (stored vs k u):=by
 unfold eO stored;rw[r.any k];by_cases e:(vs.any λJ=>decide<|J.1=k)=true
 ·rw[AA e,AA e];exact r.repl k I
 ·rw[Ay e,Ay e];exact Paired.snoc r ⟨rfl,I⟩
theorem KV.length{kvs:List<|κ×V}{vs:List<|κ×Vt}(r:KV kvs vs):kvs.length=vs.length:=Paired.length r
end
def kU{P:Vv}{w:Vw}{k:j9}(r:zv (kV k) u):(xz P w).is k u=true:=by
 cases k with
 |inl i=>obtain⟨t,e⟩:=(show ∃t,u=Value.int i t from r);subst e;exact u4 P w i t
 |inr x=>obtain⟨t,e⟩:=(show ∃t,u=Value.str x t from r);subst e;exact uo P w x t
theorem pZ{P:Vv}{w:Vw}:∀{ks:VB} {us:Vi},zu (ks.map kV) us->ItemsAre (xz P w) ks us
 |[],_,r=>by rw[Dr] at r;cases r;exact .nil
 |k::ks,_,r=>by rw[AJ] at r;cases r with|cons h t=>exact .cons (kU h)<|pZ t
abbrev KT(H:Hp):List (VB×V)->List (VB×Addr×Vt)->Prop:=Paired λp q=>p.1=q.1/\H q.2.1=some (.tup<|p.1.map kV)/\zv p.2 q.2.2
def KT.val{kvs:List<|VB×V}{xs:List<|VB×Addr×Vt}(r:KT H kvs xs)(k:VB):jJ (bT kvs k) ((atKey xs k).map (·.2)):=by
 induction r with
 |nil=>exact True.intro
 |@cons p q g I h t U=>
  obtain⟨h1,_,h2⟩:=h;by_cases e:p.1=k
  ·have J:q.1=k:=h1.symm.trans e;have b:atKey (q::I) k=some q.2:=by simp[atKey,BE,J]
   rw[ni e,b];exact h2
  ·have J:¬q.1=k:=λz=>e<|h1.trans z;have b:atKey (q::I) k=atKey I k:=by simp[atKey,BE,J]
   rw[oN e,b];exact U
def KT.repl{kvs:List<|VB×V}{xs:List<|VB×Addr×Vt}(r:KT H kvs xs)(k:VB){y:V}(J:zv y u):
 KT H (kvs.map λI=>if I.1=k then(I.1,y) else I) (xs.map<|putAt k u):=by
 induction r with
 |nil=>exact .nil
 |@cons p q g j h t U=>
  rw[AJ,AJ];refine .cons ?_ U;obtain⟨h1,h2,h3⟩:=h;unfold putAt;by_cases e:p.1=k
  ·rw[AA e,AA<|h1.symm.trans e];exact⟨h1,h2,J⟩
  ·rw[Ay e,Ay λz=>e<|h1.trans z];exact⟨h1,h2,h3⟩
def KT.put{kvs:List<|VB×V}{xs:List<|VB×Addr×Vt}(r:KT H kvs xs)(k:VB){b:Addr}{y:V}(J:H b=some (.tup<|k.map kV))(I:zv y u):
 KT H (eO kvs k y) (storedH xs k b u):=by
 have e:(kvs.any λU=>decide<|U.1=k)=(atKey xs k).isSome:=by rw[uK,(r.val k).isSome_eq,CO]
 unfold eO storedH;rw[e];by_cases q:(atKey xs k).isSome=true
 ·rw[AA q,AA q];exact r.repl k I
 ·rw[Ay q,Ay q];exact Paired.snoc r ⟨rfl,J,I⟩
def KT.keeps{kvs:List<|VB×V}{xs:List<|VB×Addr×Vt}(r:KT H kvs xs)(I:∀b ys,H b=some (.tup ys)->H' b=some (.tup ys)):KT H' kvs xs:=
 ER r λ_ _ z=>⟨z.1,I _ _ z.2.1,z.2.2⟩
section
variable {P:Vv}{w:Vw}{a:Addr}
def HV{u:HO}(ok:dQ P w H h)(e:Rd H a u):xj P w H h a u:=e.ok ok
def mX{kvs:List<|j9×V}(ok:dQ P w H h)(e:Rd H a<|.dK kvs):kvs.length<=sizeLine/\(a==sysModules)=false/\∃vs,KV kvs vs/\h.DictOf (xz P w) a vs:=
 show xj P w H h a (.dK kvs) from HV ok e
def HW{kvs:List<|j9×V}(ok:dQ P w H h)(e:H a=some (.dK kvs)):kvs.length<=sizeLine/\(a==sysModules)=false/\∃vs,KV kvs vs/\h.DictOf (xz P w) a vs:=mX ok<|.inl e
def oO{ks:VB}(ok:dQ P w H h)(e:H a=some (.tup<|ks.map kV)):(tupleKind<|xz P w).is h ks a:=by obtain⟨_,I,r,o,h1,h2,n,h3⟩:=(show xj P w H h a (.tup<|ks.map kV) from ok a _ e);exact⟨o,I.toArray,n,h1,h2,h3,by simpa using pZ r⟩
def sd{kvs:List<|VB×V}(ok:dQ P w H h)(e:Rd H a<|.dT kvs):kvs.length<=sizeLine/\(a==sysModules)=false/\
 ∃xs,KT H kvs xs/\h.DictOfH (tupleKind<|xz P w) a xs:=by
 obtain⟨z,y,xs,r,o,U,g,h1,h2,h3,j,C⟩:=(show xj P w H h a (.dT kvs) from HV ok e);refine⟨z,y,xs,r,o,U,g,h1,h2,h3,j,λx I=>?_,C⟩;have all:∀{l:List<|VB×V} {m:List<|VB×Addr×Vt},KT H l m->∀x∈m,(tupleKind<|xz P w).is h x.1 x.2.1:=by
  intro l m q
  induction q with
  |nil=>intro x I;exact nomatch I
  |@cons p q ps qs J t T=>
   intro x I;rcases Am.mp I with e|I
   ·subst e;exact oO ok (by rw[<-J.1];exact J.2.1)
   ·exact T x I
 exact all r x I
def NB{kvs:List<|VB×V}(ok:dQ P w H h)(e:H a=some (.dT kvs)):kvs.length<=sizeLine/\(a==sysModules)=false/\
 ∃xs,KT H kvs xs/\h.DictOfH (tupleKind<|xz P w) a xs:=sd ok<|.inl e
end
def qZ(H:Hp)(a:Addr)(y:V)(r:VA):Prop:=
 (∃kvs k,Rd H a (.dK kvs)/\y=kV k/\r=bT kvs k)\/∃kvs k b,Rd H a (.dT kvs)/\y=.ref b/\H b=some (.tup<|k.map kV)/\r=bT kvs k
def HX(H:Hp)(a:Addr)(y v:V)(H':Hp):Prop:=
 (∃kvs k,H a=some (.dK kvs)/\y=kV k/\kvs.length<sizeLine/\H'=upd H a (.dK<|eO kvs k v))\/
 ∃kvs k b,H a=some (.dT kvs)/\y=.ref b/\H b=some (.tup<|k.map kV)/\kvs.length<sizeLine/\H'=upd H a (.dT<|eO kvs k v)
theorem qZ.k{a:Addr}{kvs:List<|j9×V}{k:j9}(e:H a=some (.dK kvs)):qZ H a (kV k) (bT kvs k):=.inl ⟨kvs,k,.inl e,rfl,rfl⟩
section
variable {a:Addr}{y:V}{r:Vt}{o:VA}
def qw.big(I:qw X pins σ H s):sysModules<s.heap.objs.size:=by have h:mainGlobals<s.heap.objs.size:=(I.mod.glob.keeps I.bk).lt;exact Nat.lt_trans (by decide) h
def NC(hu:A.units+1<cLine)(I:qw X pins σ H s)(g:qZ H a y<|some v)(T:zv y u)(h:∀U s',qw X pins σ H s'->zv v U->Q U s'):
 wpAny (model X.prog X.w) A (getItem (.ref a) u) Q E s:=by
 rcases g with⟨j,k,e,r,l⟩|⟨j,k,b,e,r,eb,l⟩
 ·subst r;obtain⟨z,hd,vs,rel,t⟩:=mX I.hok e;obtain⟨U,hw,J⟩:=EW (v:=v) (o:=valueAt vs k) (by rw[l];exact rel.val k);exact wpAny_getItem_of (kU T) t.mapOf hw<|h U _ (I.tok _) J
 ·subst r;cases (show u=Value.ref b from T);obtain⟨z,hd,xs,rel,t⟩:=sd I.hok e;obtain⟨U,hw,J⟩:=EW (v:=v) (o:=(atKey xs k).map (·.2)) (by rw[l];exact rel.val k);obtain⟨p,hp,C⟩:=AB.mp hw;refine wpAny_getItem_heap (tupleKind_room_in1 hu) (oO I.hok eb) t hp ?_;rw[C];exact h U _ (I.tok _) J
def ND(r:A.units+1<cLine)(I:qw X pins σ H s)(g:qZ H a y o)(p:zv y u)(h:∀s',qw X pins σ H s'->Q (.bool o.isSome) s'):
 wpAny (model X.prog X.w) A (compareOp .In u<|.ref a) Q E s:=by
 rcases g with⟨J,k,e,U,l⟩|⟨J,k,b,e,U,eb,l⟩
 ·subst U;obtain⟨z,hd,t,rel,j⟩:=mX I.hok e;refine wpAny_in_of (kU p) hd j.mapOf ?_;rw[<-(rel.val k).isSome_eq,<-l];exact h _<|I.tok _
 ·subst U;cases (show u=Value.ref b from p);obtain⟨z,hd,C,rel,j⟩:=sd I.hok e;refine wpAny_in_heap (tupleKind_room_in1 r) (oO I.hok eb) hd j ?_;have q:=(rel.val k).isSome_eq;rw[CO] at q;rw[<-q,<-l];exact h _<|I.tok _
def NE(r:A.units+1<cLine)(I:qw X pins σ H s)(g:qZ H a y o)(p:zv y u)(h:∀s',qw X pins σ H s'->Q (.bool<|!o.isSome) s'):
 wpAny (model X.prog X.w) A (compareOp .NotIn u<|.ref a) Q E s:=by
 rcases g with⟨J,k,e,U,l⟩|⟨J,k,b,e,U,eb,l⟩
 ·subst U;obtain⟨z,hd,t,rel,j⟩:=mX I.hok e;refine wpAny_notIn_of (kU p) hd j.mapOf ?_;rw[<-(rel.val k).isSome_eq,<-l];exact h _<|I.tok _
 ·subst U;cases (show u=Value.ref b from p);obtain⟨z,hd,C,rel,j⟩:=sd I.hok e;refine wpAny_notIn_heap (tupleKind_room_in1 r) (oO I.hok eb) hd j ?_;have q:=(rel.val k).isSome_eq;rw[CO] at q;rw[<-q,<-l];exact h _<|I.tok _
def rE{ob:HO}(I:qw X pins σ H s)(J:Fv<|H a)(hs:Heap.SameBut a s.heap h')(U:∃q,h'.get? a=some q)(new:xj X.prog X.w (upd H a ob) h' a ob)(j:0<t':=by walk_at "t"):
 qw X pins σ (upd H a ob) {s with heap:=h',toks:=t'}:=
 I.write (x:=a) (e:=a) J (.inl rfl) (λb q g z=>(hs.2 b g).trans z) U new
def HY{P:Vv}{w:Vw}{kvs:List<|j9×V}{vs:List<|j9×Vt}(z:kvs.length<=sizeLine)(hd:(a==sysModules)=false)(rel:KV kvs vs)(dd:h'.DictOf (xz P w) a vs):
 xj P w H' h' a (.dK kvs):=⟨z,hd,vs,rel,dd⟩
def zL{Q:Ve}(hu:A.units+1<cLine)(I:qw X pins σ H s)(g:HX H a y v H')(ry:zv y u)(rv:zv v r)(h:∀s',qw X pins σ H' s'->Q () s'):
 wpAny (model X.prog X.w) A (setItem (.ref a) u r) Q E s:=by
 rcases g with⟨J,k,e,o,l,p⟩|⟨J,k,b,e,o,eb,l,p⟩
 ·subst o p;obtain⟨z,hd,vs,rel,t⟩:=HW I.hok e;have C:vs.length<=sizeLine:=by rw[<-rel.length];exact z
  have T:(eO J k v).length<=sizeLine:=by have:=eV J k v;lia
  refine wpAny_setItem_pairs (hsz:=C) (kU ry) t λh' U hs=>h _ ?_;have he:∃q,h'.get? a=some q:=let ⟨q,_,_,j,_⟩:=U;⟨q,j⟩;exact rE I (by rw[e];exact True.intro) hs he<|HY T hd (rel.put k rv) U
 ·subst o p;cases (show u=Value.ref b from ry);obtain⟨z,hd,xs,rel,t⟩:=NB I.hok e;have C:xs.length<=sizeLine:=by rw[<-Paired.length rel];exact z
  have T:(eO J k v).length<=sizeLine:=by have:=eV J k v;lia
  refine wpAny_setItem_heap (hsz:=C) (tupleKind_room_in1 hu) (oO I.hok eb) t λh' U hs=>h _ ?_;obtain⟨q,es,ep,j,h2,h3,h4,_,h5⟩:=U;refine rE I (by rw[e];exact True.intro) hs ⟨q,j⟩ ⟨T,hd,_,(rel.put k eb rv).keeps λc ys ec=>?_,q,es,ep,j,h2,h3,h4,h5⟩;rw[ql<|LM ec e λz=>nomatch z];exact ec
end
section
variable {a:Addr}{kvs:List<|j9×V}{k:j9}
def NF(I:qw X pins σ H s)(e:Rd H a<|.dK kvs)(h:∀t s',qw X pins σ H s'->Q (.int kvs.length t) s'):wpAny (model X.prog X.w) A (call (.builtin "len") [.ref a]) Q E s:=by obtain⟨z,hd,U,rel,J⟩:=mX I.hok e;refine call_len_dict hd J (by rw[<-rel.length];rw[sizeLine_eq] at z;lia) ?_;rw[<-rel.length];exact h _ _<|I.tok _
end
def GK(i:Expr):Prop:=∀I J,subscripted i false I J=operate [I,J] (getItem I J)
def NG{w:Vw}{slice:Expr}{T id:Vy}
 (t:typeLookup (.type T) "__getitem__" = pure (some<|.builtin id)) (hs:GK slice)
 (h:wpAny (model prog w) A (eval value env) (λo U=>wpAny (model prog w) A (eval slice env) (λi I=>I.TypeIs o T/\wpAny (model prog w) A (getItem o i) Q E I) E U) E s):
 wpAny (model prog w) A (eval (.Subscript value slice pos) env) Q E s:=by
 refine Subscript_<|AY h (λo U j=>AY j (λi I J=>?_) λ_ _ x=>x) λ_ _ x=>x;obtain⟨p,J⟩:=J;unfold subscriptTail;refine Aa ?_;rw[getitemInPython_of_ne p.not_modules];refine Aa<|wpAny_specialOf p t ?_;have xa:wpAny (model prog w) A (subscripted slice false o i) (λr g=>wpAny (model prog w) A (letTemporaryGo value o r >>= λ_=>pure r) Q E g) E I:=by rw[hs o i];exact wpAny_operating<|AY J (λr g l=>Aa<|wpAny_letTemporaryGo<|Ai l) λ_ _ x=>x
 first
  |exact Ai<|Aa xa
  |exact Aa<|Ai<|Aa xa
  |exact Aa xa
def tF{a:Addr}{y:V}{o:VA}(I:qw X pins σ H s)(g:qZ H a y o):s.TypeIs (.ref a) "dict" := by
 rcases g with⟨J,k,e,_,_⟩|⟨J,k,b,e,_,_,_⟩
 ·obtain⟨_,_,j,_,U⟩:=mX I.hok e;exact U.typeIs
 ·obtain⟨_,_,l,_,U⟩:=sd I.hok e;exact U.typeIs
def NH(td ty:TE):TE:=λσ H Q=>td σ H λx H1=>ty σ H1 λy H2=>∃a v,x=.ref a/\qZ H2 a y (some v)/\Q v H2
def NI(td ty tv:TE):TS:=λD σ H=>tv σ H λv H1=>td σ H1 λx H2=>ty σ H2 λy J=>∃a I,x=.ref a/\HX J a y v I/\D.nx σ I
section
variable {i:Expr}{tpos:Pos}{td ty tv:TE}
def NJ(p:X.A.units+1<cLine)(r:PE X o td)(hi:PE X i ty)(hs:GK i):PE X (.Subscript o i pos) (NH td ty):=by intro J s j H Q I h;refine NG DX.lookup hs<|aj (r J s j H _ I h) λu t x C T rx q1=>aI (hi J t j C _ T q1) λiv s2 ⟨y,H2,l,ry,a,v,ex,g,q2⟩=>?_;subst ex;obtain rfl:u=Value.ref a:=rx;exact⟨tF l g,NC p l g ry λw' s3 I3 U=>⟨v,H2,I3,U,q2⟩⟩
def NK(j:X.A.units+1<cLine)(l:PE X o td)(hi:PE X i ty)(p:PE X value tv)(hs:swapsWith value (some<|.Subscript o i hQ) pos.line X.env=pure false):
 PS X (.Assign [.Subscript o i hQ] value pos) (NI td ty tv):=by
 intro J s U H D I h;refine wpAny_Assign_Subscript (aj (p J s U H _ I h) λr t v C T rv q1=>aj (l J t U C _ T q1) λu s2 x H2 I2 rx q2=>aI (hi J s2 U H2 _ I2 q2) λiv s3 ⟨y,H3,I3,ry,a,H4,ex,g,q3⟩=>?_) hs;subst ex;obtain rfl:u=Value.ref a:=rx;exact zL j I3 g ry rv λs4 I4=>⟨U,H4,I4,q3⟩
end
def u6{P:Vv}{w:Vw}(h:Vx)(I:sysModules<h.objs.size):xj P w H (h.push {cls:=.type "dict",data:=.dict #[]}) h.objs.size (.dK []):=
 ⟨Bb _,beq_eq_false_iff_ne.mpr<|AG<|A9 I,[],.nil,Heap.DictOf.new h⟩
def NL:TE:=λ_ H Q=>∀p,H p=none->Q (.ref p) (upd H p<|.dK [])
def NM:PE X (.Dict [] [] pos) NL:=λJ s U H Q I h=>
 wpAny_Dict_empty ⟨.ref s.heap.objs.size,_,I.laid (a:=s.heap.objs.size) (o:=.dK []) (t':=s.toks) (λ_ _ q=>vb _ q) (Ap _)<|u6 s.heap I.big,rfl,h _<|I.hok.fresh<|Ap _⟩
def rG:List (TE×TE)->St->Hp->(List (V×V)->Hp->Prop)->Prop
 |[],_,H,Q=>Q [] H
 |(tk,tv)::r,σ,H,Q=>tk σ H λx H1=>tv σ H1 λy H2=>rG r σ H2 λps I=>Q ((x,y)::ps) I
abbrev VV:List (V×V)->List (Vt×Vt)->Prop:=Paired λp q=>zv p.1 q.1/\zv p.2 q.2
def FA(X:Cx)(pos:Pos)(keys:List<|Option Expr)(values:Vm)(I:List<|TE×TE):Prop:=
 ∀(pins:List<|Addr×Obj) (s:Vu) (σ:St) (H:Hp) (Q:List (V×V)->Hp->Prop),qw X pins σ H s->rG I σ H Q->
  wpAny (model X.prog X.w) X.A (evalPairs<|pairTrees keys values X.env pos) (λvs s'=>∃ps H',qw X pins σ H' s'/\VV ps vs/\Q ps H') X.xe s
def NN :FA X pos [] [] []:=λJ s U H Q I h=>pairTrees_nil_walk ⟨[],H,I,.nil,h⟩
def iC{k v:Expr}{ks:List<|Option Expr}{vs:Vm}{tk tv:TE}{U:List<|TE×TE}(j:PE X k tk)(l:PE X v tv)(o:FA X pos ks vs U):
 FA X pos (some k::ks) (v::vs) ((tk,tv)::U):=λJ s g H Q I h=>
 pairTrees_cons_walk (aj (j J s g H _ I h) λu p x r t C T=>aj (l J p g r _ t T) λw2 s2 y H2 I2 ry q2=>
  aI (o J s2 g H2 _ I2 q2) λws s3 ⟨ps,H3,I3,rel,q3⟩=>⟨(x,y)::ps,H3,I3,.cons ⟨C,ry⟩ rel,q3⟩)
def ix(kvs more:List<|j9×V):List (j9×V):=more.foldl (λI J=>eO I J.1 J.2) kvs
def KV.merge:∀{more:List<|j9×V} {I:List<|j9×Vt} {kvs:List<|j9×V} {vs:List<|j9×Vt},KV more I->KV kvs vs->KV (ix kvs more) (merged vs I):=by
 intro more I kvs vs r;unfold KV at r
 induction r generalizing kvs vs with
 |nil=>intro q;exact q
 |@cons p q g j h t J=>
  intro U;have e:KV (eO kvs p.1 p.2) (stored vs q.1 q.2):=by have:=U.put p.1 h.2;rw[<-h.1];exact this
  exact J e
theorem ft:∀(more kvs:List<|j9×V),(ix kvs more).length<=kvs.length+more.length
 |[],kvs=>by show kvs.length<=kvs.length+0;lia
 |p::r,kvs=>by have h1:=ft r<|eO kvs p.1 p.2;have h2:=eV kvs p.1 p.2;show(ix (eO kvs p.1 p.2) r).length<=_;rw[AF];lia
theorem oE{P:Vv}{w:Vw}:∀{kvs:List<|j9×V} {J:List<|Vt×Vt},VV (kvs.map λU=>(kV U.1,U.2)) J->∃I,Carries (xz P w) J I/\KV kvs I
 |[],_,r=>by rw[Dr] at r;cases r;exact⟨[],True.intro,.nil⟩
 |p::kvs,_,r=>by
  rw[AJ] at r;cases r with
  |@cons a b as bs h t=>
   obtain⟨I,c,q⟩:=oE (P:=P) (w:=w) t;obtain⟨b1,b2⟩:=b;exact⟨(p.1,b2)::I,⟨kU h.1,rfl,c⟩,.cons ⟨rfl,h.2⟩ q⟩
def NO(I:List<|TE×TE):TE:=λσ H Q=>∀p,H p=none->rG I σ (upd H p<|.dK []) λps H2=>H2 p=some (.dK [])/\∃kvs:List (j9×V),ps=kvs.map (λJ=>(kV J.1,J.2))/\kvs.length<=15/\Q (.ref p) (upd H2 p<|.dK<|ix [] kvs)
def NP{keys:List<|Option Expr}{values:Vm}{J:List<|TE×TE}(h:FA X pos keys values J)(U:keys.all (·.isSome)=true)(t:keys.length=values.length)(h0:keys≠[])
 (p:keys.length<=15):PE X (.Dict keys values pos) (NO J):=by
 intro g s C H Q I q;have T:=I.hok.fresh<|Ap s.heap.objs.size;have I1:=I.laid (a:=s.heap.objs.size) (o:=.dK []) (h':=s.heap.push {cls:=.type "dict",data:=.dict #[]}) (t':=s.toks) (λ_ _ q=>vb _ q) (Ap _)<|u6 s.heap I.big;refine wpAny_Dict_walk (knd:=xz X.prog X.w) U t h0 p<|aI (h g _ C _ _ I1<|q _ T) λws s2 ⟨ps,H2,r,rel,e,j,ep,lk,q2⟩=>?_;subst ep;obtain⟨rs,c,rk⟩:=oE (P:=X.prog) (w:=X.w) rel;obtain⟨z,hd,a1,r0,dd⟩:=HW r.hok e;cases r0;refine⟨rs,c,dd,λh' l hs=>⟨.ref s.heap.objs.size,_,?_,rfl,q2⟩⟩;have hz:(ix [] j).length<=sizeLine:=by have h1:=ft j [];rw[DI] at h1;rw[sizeLine_eq];lia
 have he:∃q,h'.get? s.heap.objs.size=some q:=let ⟨q,_,_,hq,_⟩:=l;⟨q,hq⟩;exact rE r (by rw[e];exact True.intro) hs he<|HY hz hd (rk.merge .nil) l
section
variable {a:Addr}{y d:V}{r:Vt}{o:VA}
end
section
variable {f:Expr}{td ty tx:TE}
end
section
variable {a:Addr}{kvs:List<|j9×V}
end
section
variable {a:Addr}{y:V}
end
end L2
namespace HT
open PySem PyProof.Rows
section
open PySem.SeqAt
open PySem.AutoSeq1 (wpAny_loadPart')
open PySem.MeetsSeq PySem.MeetsSeq2 PySem.MeetsSeq3
end
section
variable {w:Vw}
def sIx(n d:Nat):Vq->Nat
 |none=>d
 |some v=>if v<0 then(v+(n:Int)).toNat else min v.toNat n
def sIx_none(n d:Nat):sIx n d none=d:=rfl
def sIx_nat(n d k:Nat):sIx n d (some (k:Int))=min k n:=by show(if (k:Int)<0 then((k:Int)+(n:Int)).toNat else min (k:Int).toNat n)=min k n;rw[Ay (by lia),BB]
def sIx_le(n d:Nat)(hd:d<=n)(o:Vq):sIx n d o<=n:=by
 cases o with
 |none=>exact hd
 |some v=>
  show(if v<0 then(v+(n:Int)).toNat else min v.toNat n)<=n;by_cases I:v<0
  ·rw[AA I];lia
  ·rw[Ay I];exact Nat.min_le_right _ _
def yR(v:Int)(n d:Nat):(if v<0 then max (v+(n:Int)) 0 else min v (n:Int))=((sIx n d (some v):Nat):Int):=by
 show(if v<0 then max (v+(n:Int)) 0 else min v (n:Int))=(((if v<0 then(v+(n:Int)).toNat else min v.toNat n):Nat):Int);by_cases I:v<0
 ·simp only[AA I];lia
 ·simp only[Ay I];lia
def xJ(lo hi:Vq)(n:Nat):Builtin.Slice.sliceAdjust lo hi 1 (n:Int)=(((sIx n 0 lo:Nat):Int),(sIx n n hi:Int)):=by
 have h1:¬((1:Int)<0):=by lia
 unfold Builtin.Slice.sliceAdjust;simp only[h1,if_false];refine Prod.ext ?_ ?_
 ·cases lo with|none=>rfl|some v=>exact yR v n 0
 ·cases hi with|none=>rfl|some v=>exact yR v n n
def wR(i j:Nat):Builtin.Slice.slicePlaces (i:Int) (j:Int) 1=j-i:=by
 unfold Builtin.Slice.slicePlaces;have h1:(1:Int) > 0:=by lia
 simp only[h1,if_true,Int.ediv_one];split<;>lia
def nS{v:Vt}{o:Vq}{Q:Vq->Vu->Prop}(p:IsPart v o)(h:Q o s):wpAny (model prog w) A (Builtin.Slice.slicePartIndex v) Q E s:=by cases p with|none=>exact slicePart_none h|int i t=>exact slicePart_int h
def i8{j:Addr}{U g:Vt}{lo hi:Vq}{Q:Int×Int×Nat->Vu->Prop}(hs:s.heap.IsSliceOf j U g .none)(pl:IsPart U lo)(l:IsPart g hi)
 (h:Q (((sIx n 0 lo:Nat):Int),1,sIx n n hi-sIx n 0 lo) s):wpAny (model prog w) A (Builtin.Slice.sliceApplied (.ref j)<|pure (n:Int)) Q E s:=by
 obtain⟨os,I,o,J⟩:=id hs;unfold Builtin.Slice.sliceApplied Builtin.Slice.sliceFields;refine Aa<|Aa<|AX I J (x:=U) rfl<|Aa<|AX I J (x:=g) rfl<|Aa<|AX I J (x:=.none) rfl<|Ai ?_;refine Aa<|slicePart_none ?_;show wpAny _ _ (if ((1:Int)==0)=true then _ else _) _ _ s;rw[Ay (by decide)];refine Aa<|nS pl<|Aa<|nS l<|Aa<|Ai ?_;show wpAny _ _ (match Builtin.Slice.sliceAdjust lo hi 1 (n:Int) with|(lo,hi)=>pure (lo,(1:Int),Builtin.Slice.slicePlaces lo hi 1)) _ _ s;rw[xJ lo hi n];show wpAny _ _ (pure (((sIx n 0 lo:Nat):Int),(1:Int),Builtin.Slice.slicePlaces ((sIx n 0 lo:Nat):Int) (sIx n n hi:Int) 1)) _ _ s;rw[wR];exact Ai h
def NQ(xs:Vj)(i k:Nat):((List.range k).filterMap λ(m:Nat)=>xs[((i:Int)+(m:Int)*1).toNat]?).toArray=((xs.toList.drop i).take k).toArray:=by
 have e:(λ(m:Nat)=>xs[((i:Int)+(m:Int)*1).toNat]?)=λm=>xs[i+m]?:=by
  funext m;have:((i:Int)+(m:Int)*1).toNat=i+m:=by lia
  rw[this]
 rw[e];have:=pick_run xs i k;rw[List.filterMap_map] at this;have I:((λx=>xs[x]?)∘λx=>i+x)=λm=>xs[i+m]?:=rfl;rw[I] at this;rw[this]
def getItem_tuple_cut{t U:Addr}{items:Vj}{p r:Vt}{lo hi:Vq}(J:IsTup s.heap t items)(hs:s.heap.IsSliceOf U p r .none)(pl:IsPart p lo)(C:IsPart r hi)
 (hw:¬(sIx items.size 0 lo=0/\sIx items.size items.size hi=items.size))
 (h:Q (.ref s.heap.objs.size) {s with heap:=s.heap.push {cls:=.type "tuple",data:=.seq ((items.toList.drop<|sIx items.size 0 lo).take<|sIx items.size items.size hi-sIx items.size 0 lo).toArray}})
 (hsz:items.size<=sizeLine):wpAny (model prog w) A (getItem (.ref t)<|.ref U) Q E s:=by
 have I:sizeOk (.seq ((items.toList.drop<|sIx items.size 0 lo).take<|sIx items.size items.size hi-sIx items.size 0 lo).toArray):=by show((items.toList.drop<|sIx items.size 0 lo).take<|sIx items.size items.size hi-sIx items.size 0 lo).toArray.size<=sizeLine;rw[Aw,AZ,BF,Bc];lia
 have hj:sIx items.size items.size hi<=items.size:=sIx_le _ _ (Ap _) hi;obtain⟨os,g,j,T⟩:=id hs;have l:s.TypeIs (.ref U) "slice" := ⟨os,g,j⟩;unfold getItem
 try with_reducible refine A6 ?_
 first|refine Aa (Ai ?_)|skip
 refine Aa<|wpAny_sequenceKey J.typeIs (by decide) ?_;refine Aa (wpAny_callSpecial?_slot (name:=Str.ofString "__getitem__") J.typeIs CB
  (wpAny_call_entry CB J.typeIs entry_tuple_getitem ?_<|args_tuple_getitem _ _))
 show wpAny _ _ (Builtin.Tuple.tupleItemsOf (.ref t) >>= _) _ _ s;refine Aa<|tupleItemsOf_ J ?_;refine Aa<|wpAny_typeOf l ?_;rw[AA (by decide)];refine Aa<|i8 hs pl C ?_;have o:¬((((sIx items.size 0 lo:Nat):Int)==0&&(1:Int)==1&&(sIx items.size items.size hi-sIx items.size 0 lo)==items.size)=true):=by intro q;rw[Bd,Bd] at q;have q1:((sIx items.size 0 lo:Nat):Int)=0:=eq_of_beq q.1.1;have q2:sIx items.size items.size hi-sIx items.size 0 lo=items.size:=eq_of_beq q.2;exact hw ⟨by lia,by lia⟩
 show wpAny _ _ (if (((sIx items.size 0 lo:Nat):Int)==0&&(1:Int)==1&&(sIx items.size items.size hi-sIx items.size 0 lo)==items.size)=true then _ else _) _ _ s;rw[Ay o,NQ]
 first
  |exact Aa (m:=Builtin.Tuple.tupleExact _)<|Bu (Ai ⟨_,rfl,Ai h⟩) I
  |exact Aa (m:=Builtin.Tuple.tupleExact _)<|Bu (Aa<|Ai<|Ai ⟨_,rfl,Ai h⟩) I
  |exact Aa<|Aa (m:=Builtin.Tuple.tupleExact _)<|Bu (Ai<|Ai ⟨_,rfl,Ai h⟩) I
  |exact Aa<|Aa (m:=Builtin.Tuple.tupleExact _)<|Bu (Ai ⟨_,rfl,Ai h⟩) I
end
end HT
namespace L2
open PySem PySem.Spec PyProof.Rows
abbrev TO:=St->Hp->(Vq->Hp->Prop)->Prop
def PO(X:Cx)(e:Option Expr)(t:TO):Prop:=
 ∀(pins:List<|Addr×Obj) (s:Vu) (σ:St) (H:Hp) (Q:Vq->Hp->Prop),qw X pins σ H s->t σ H Q->
  wpAny (model X.prog X.w) X.A (evalPart e X.env) (λu s'=>∃o H',qw X pins σ H' s'/\IsPart u o/\Q o H') X.xe s
def NR:TO:=λ_ H Q=>Q none H
def NS(t:TE):TO:=λσ H Q=>t σ H λx H1=>∃i,x=.int i/\Q (some i) H1
section
variable {te:TE}{lo hi:Option Expr}{tl th:TO}
def NT:PO X none NR:=by intro J s U H Q I h;rw[evalPart_none];exact Ai ⟨none,H,I,.none,h⟩
def NU(h:PE X e te):PO X (some e) (NS te):=by intro J s U H Q I hw;rw[evalPart_some];refine aj (h J s U H _ I hw) λu p x g j l o=>?_;obtain⟨i,rfl,q⟩:=o;obtain⟨t,rfl⟩:=l;exact⟨some i,g,j,.int i t,q⟩
def sP(X:Cx)(r:V->Vq->Vq->Hp->VK->Prop):Prop:=
 ∀(pins:List<|Addr×Obj) (s:Vu) (σ:St) (H:Hp) (x:V) (v I J:Vt) (lo hi:Vq) (U:Addr) (Q:VK),qw X pins σ H s->zv x v->s.heap.IsSliceOf U I J .none->IsPart I lo->IsPart J hi->r x lo hi H Q->
  ∃T id,typeLookup (.type T) "__getitem__" = pure (some<|.builtin id)/\s.TypeIs v T/\wpAny (model X.prog X.w) X.A (getItem v<|.ref U) (EP X pins σ Q) X.xe s
def sP.or{U:V->Vq->Vq->Hp->VK->Prop}(h:sP X r)(h':sP X U):sP X (λx lo hi H Q=>r x lo hi H Q\/U x lo hi H Q):=by
 intro J s g H x v j l lo hi o Q I p t pl C q;rcases q with q|q
 ·exact h J s g H x v j l lo hi o Q I p t pl C q
 ·exact h' J s g H x v j l lo hi o Q I p t pl C q
def NV(r:V->Vq->Vq->Hp->VK->Prop)(te:TE)(tl th:TO):TE:=λσ H Q=>te σ H λx H1=>tl σ H1 λl H2=>th σ H2 λu I=>r x l u I Q
def NW(t:sP X r)(C:PE X e te)(hl:PO X lo tl)(hu:PO X hi th):PE X (.Subscript e (.Slice lo hi none p2) pos) (NV r te tl th):=by intro J s g H Q I h;refine Subscript_<|aI (C J s g H _ I h) λv s1 ⟨x,H1,I1,r1,q1⟩=>?_;refine wpAny_Slice<|aI (hl J s1 g H1 _ I1 q1) λj s2 ⟨l,H2,I2,pl,q2⟩=>aI (hu J s2 g H2 _ I2 q2) λo U ⟨u,p,I3,pu,q3⟩=>?_;rw[evalPart_none];refine Ai ?_;have I4:qw X J g p {U with heap:=U.heap.push {cls:=.type "slice",data:=.fields #[j,o,.none]}}:=I3.kept (t':=U.toks) λb ob q=>vb _ q;obtain⟨T,id,hT,ht,hg⟩:=t J {U with heap:=U.heap.push {cls:=.type "slice",data:=.fields #[j,o,.none]}} g p x v j o l u U.heap.objs.size Q I4 r1 (Heap.IsSliceOf.new ..) pl pu q3;show wpAny (model X.prog X.w) X.A (subscriptTail e (.Slice lo hi none p2) v<|.ref U.heap.objs.size) (EP X J g Q) X.xe {U with heap:=U.heap.push {cls:=.type "slice",data:=.fields #[j,o,.none]}};exact tail_any (ops:=[.ref U.heap.objs.size,v]) ht hT hg (by with_unfolding_all rfl)
def tI(xs:Vz)(lo hi:Vq):Vz:=(xs.drop<|HT.sIx xs.length 0 lo).take<|HT.sIx xs.length xs.length hi-HT.sIx xs.length 0 lo
def lD(xs:Vz)(lo hi:Vq):(tI xs lo hi).length<=xs.length:=by unfold tI;rw[AZ,BF];lia
def ast(K:Ah):V->Vq->Vq->Hp->VK->Prop:=λx lo hi H Q=>∃a xs,x=.ref a/\dS K H a xs/\
 ¬(HT.sIx xs.length 0 lo=0/\HT.sIx xs.length xs.length hi=xs.length)/\∀p,H p=none->Q (.ref p) (upd H p<|.tup<|tI xs lo hi)
def NX:sP X (ast X.K):=by
 rintro l s σ H x v vl vu lo g sl Q I C T pl pu⟨a,U,rfl,hx,hw,q⟩;cases C;obtain⟨j,r,p,t⟩:=I.tuple hx;have J:j.toArray.size=U.length:=by rw[Aw];exact r.length.symm
 refine⟨"tuple",_,CB.lookup,p.typeIs,?_⟩;refine HT.getItem_tuple_cut p T pl pu (by rw[J];exact hw) ?_ (by rw[J];exact t);rw[J];refine⟨.ref s.heap.objs.size,_,I.laid (t':=s.toks) (o:=.tup<|tI U lo g) (λb ob q=>vb _ q) (Ap _) ?_,rfl,q _<|I.hok.fresh<|Ap _⟩;exact⟨AW (lD U lo g) t,_,(r.drop<|HT.sIx U.length 0 lo).take<|HT.sIx U.length U.length g-HT.sIx U.length 0 lo,IsTup.new _ _⟩
end
def wG(n:Nat)(i:Int):Option Nat:=if 0<=i then(if i<n then some i.toNat else none) else if -(n:Int)<=i then some (i+n).toNat else none
def dW(xs:List α)(i:Int):Option α:=(wG xs.length i).bind λj=>xs[j]?
def xZ{i:Int}(h:wG n i=some j):seqIndex? i n=some j/\j<n /\ -(n:Int)<=i/\i<n:=by
 unfold wG at h;by_cases h0:0<=i
 ·rw[AA h0] at h;by_cases h1:i<n
  ·rw[AA h1] at h;have e:i.toNat=j:=Be h;exact⟨by rw[seqIndex_of h0 h1,e],by lia,by lia,h1⟩
  ·rw[Ay h1] at h;cases h
 ·rw[Ay h0] at h;by_cases h1 : -(n:Int)<=i
  ·rw[AA h1] at h;have e:(i+n).toNat=j:=Be h;exact⟨by rw[seqIndex_neg (by lia) h1,e],by lia,h1,by lia⟩
  ·rw[Ay h1] at h;cases h
def qY{xs:List α}{i:Int}{v:α}(h:dW xs i=some v):∃j,seqIndex? i xs.length=some j/\xs[j]?=some v/\j<xs.length /\ -(xs.length:Int)<=i/\i<xs.length:=by
 unfold dW at h;cases e:wG xs.length i with
 |none=>rw[e] at h;cases h
 |some j=>
  rw[e] at h;obtain⟨h1,h2,h3,I⟩:=xZ e;exact⟨j,h1,h,h2,h3,I⟩
def jx{xs:List α}{v:α}(h:xs[j]?=some v):dW xs (j:Int)=some v:=by
 have I:j<xs.length:=(AL.mp h).1;have e:wG xs.length (j:Int)=some j:=by unfold wG;rw[AA (by lia),AA (by lia)];simp
 unfold dW;rw[e];exact h
def qU(b:Expr):Prop:=∀o i,subscripted b false o i=operate [o,i] (getItem o i)
def IxR(X:Cx)(r:R2):Prop:=
 ∀(value slice:Expr) (pins:List<|Addr×Obj) (s:Vu) (σ:St) (H:Hp) (x y:V) (v u:Vt) (Q:VK),qw X pins σ H s->zv x v->zv y u->r x y H Q->
  subscripted slice false v u=operate [v,u] (getItem v u)->wpAny (model X.prog X.w) X.A (subscriptTail value slice v u) (EP X pins σ Q) X.xe s
def NY(X:Cx)(id:Vy)(r:V->Vz->Hp->VK->Prop):Prop:=
 ∀(pins:List<|Addr×Obj) (s:Vu) (σ:St) (H:Hp) (x:V) (xs:Vz) (v:Vt) (us:Vi) (Q:VK),qw X pins σ H s->zv x v->zu xs us->r x xs H Q->
  wpAny (model X.prog X.w) X.A (call (.builtin id)<|v::us) (EP X pins σ Q) X.xe s
section
variable {a b:Expr}{ta tb:TE}
def NZ{r:R2}(U:IxR X r)(g:PE X a ta)(j:PE X b tb)(hs:qU b):PE X (.Subscript a b pos) (Fy r ta tb):=by intro J s l H Q I h;exact Subscript_<|GC g j I h λv u o x y p t C T q=>U a b J o l p x y v u Q t C T q<|hs _ _
def N0(K:Ah):R2:=λx y H Q=>∃p xs i v,x=.ref p/\y=.int i/\aS K H p xs/\dW xs i=some v/\Q v H
def N4(K:Ah):R2:=λx y H Q=>∃p xs i v,x=.ref p/\y=.int i/\dS K H p xs/\dW xs i=some v/\Q v H
def N5:R2:=λx y H Q=>∃z i c,x=.str z/\y=.int i/\z.length<=sizeLine/\dW z.cps.toList i=some c/\Q (.str ⟨#[c]⟩) H
def N6:IxR X (N0 X.K):=by
 intro value slice J s o H x y v u Q I rx ry h C;obtain⟨p,xs,i,z,rfl,rfl,hq,he,q⟩:=h;cases rx;obtain⟨t,rfl⟩:=ry;obtain⟨U,r,pl,hz⟩:=I.list hq;obtain⟨j,h1,h2,h3,h4,h5⟩:=qY he;obtain⟨w,T,g⟩:=r.get h2;have hl:=r.length;have hn:=iy;have xa:EP X J o Q w s:=⟨z,H,I,g,q⟩;by_cases h0:0<=i
 ·have l:i.toNat=j:=by rw[seqIndex_of h0 h5] at h1;exact Be h1
  exact item_listR pl.isList h0 (by lia) (by rw[l];simpa using T) xa C
 ·have l:(i+(U.toArray.size:Int)).toNat=j:=by rw[seqIndex_neg (by lia) h4] at h1;rw[Aw,<-hl];exact Be h1
  exact subscriptTail_builtinR (x:=w) pl.isList.typeIs slot_list_getitem.lookup
   (wpAny_getItem_list_neg (Q:=λr s'=>r=w/\EP X J o Q r s') pl.isList (by lia) (by rw[Aw]<;>lia) (by lia) (by rw[l];simpa using T) ⟨rfl,xa⟩) C
def N7:IxR X (N4 X.K):=by
 intro value slice J s g H x y v u Q I l o h C;obtain⟨p,xs,i,z,rfl,rfl,T,he,q⟩:=h;cases l;obtain⟨t,rfl⟩:=o;obtain⟨a1,r,pl,hz⟩:=I.tuple T;obtain⟨j,h1,h2,h3,h4,h5⟩:=qY he;obtain⟨w,ew,U⟩:=r.get h2;have hl:=r.length;have hn:=iy;have xa:EP X J g Q w s:=⟨z,H,I,U,q⟩;exact subscriptTail_builtinR (x:=w) pl.typeIs slot_tuple_getitem.lookup
  (getItem_tuple (j:=j) (Q:=λr s'=>r=w/\EP X J g Q r s') pl (by lia) (by lia) (by rw[Aw,<-hl];exact h1) (by simpa using ew) ⟨rfl,xa⟩) C
def N8:IxR X N5:=by
 intro value slice J s σ H x y v u Q I U g h l;obtain⟨z,i,c,rfl,rfl,hz,o,q⟩:=h;obtain⟨t,rfl⟩:=U;obtain⟨t',rfl⟩:=g;obtain⟨j,h1,h2,h3,p,r⟩:=qY o;have C:z.cps.toList.length=z.length:=by simp[Str.length]
 rw[C] at h1 p r;have hn:=iy;exact tail_any (typeIs_str s z t) slot_str_getitem.lookup (getItem_str (c:=c) (by have T:decide (i < -(2 ^ 63:Int))=false:=AD (by lia);have e2:decide (i>=2 ^ 63)=false:=AD (by lia);rw[T,e2,Bool.or_false]) (by rw[h1];simpa using h2) ⟨.str ⟨#[c]⟩,H,I.tok _,⟨_,rfl⟩,q⟩) l
def wH(eH:Vi)(n j:Nat)(u:Vt):Obj.mapSeq (·.setIfInBounds j u) {cls:=.type "list",data:=.seq eH.toArray n}={cls:=.type "list",data:=.seq (eH.set j u).toArray n}:=by simp[Obj.mapSeq]
def qw.lst{p:Addr}(I:qw X pins σ H s)(h:H p=some (.lst xs)):
 ∃(eH:Vi) (n:Nat),zu xs eH/\s.heap.get? p=some {cls:=.type "list",data:=.seq eH.toArray n}/\xs.length<=sizeLine:=by
 obtain⟨z,eH,n,r,e⟩:=I.hok p _ h;exact⟨eH,n,r,e,z⟩
def qw.lstUpd{p:Addr}{ys:Vz}{its':Vi}{J:Nat}{f:Obj->Obj}(I:qw X pins σ H s)(h:H p=some (.lst xs))
 (g:s.heap.get? p=some {cls:=.type "list",data:=.seq eH.toArray n}) (U:f {cls:=.type "list",data:=.seq eH.toArray n}={cls:=.type "list",data:=.seq its'.toArray J}) (r:zu ys its') (hz:ys.length<=sizeLine) (t:Nat) (l:0<t:=by walk_at "t"):
 qw X pins σ (upd H p<|.lst ys) {s with heap:=s.heap.update p f,toks:=t}:=by
 have e:(s.heap.update p f).get? p=some {cls:=.type "list",data:=.seq its'.toArray J}:=by rw[Bs f g (by rw[U]<;>rfl),U]
 refine I.write (x:=p) (e:=p) (by rw[h];trivial) (.inl rfl) (λb u j q=>(At _ _<|AG j).trans q) ⟨_,e⟩ ?_;exact⟨hz,its',J,r,e⟩
def N9:V->V->V->Hp->(Hp->Prop)->Prop:=λo i v H Q=>∃p xs k j,o=.ref p/\i=.int k/\H p=some (.lst xs)/\wG xs.length k=some j/\Q (upd H p<|.lst<|xs.set j v)
def N':HH X N9:=by
 rintro J s σ H o i v ov iv u Q I ro ri rv⟨p,xs,k,j,rfl,rfl,T,hj,q⟩;cases ro;obtain⟨t,rfl⟩:=ri;obtain⟨U,n,r,g,hz⟩:=I.lst T;obtain⟨h1,h2,h3,h4⟩:=xZ hj;have l:=r.length;have hn:=iy;have I':qw X J σ (upd H p<|.lst<|xs.set j v) {s with heap:=s.heap.update p (Obj.mapSeq (·.setIfInBounds j u))}:=
  I.lstUpd T g (wH U n j u) (r.set rv j) (by rw[Bk];exact hz) s.toks
 by_cases h0:0<=k
 ·have C:k.toNat=j:=by rw[seqIndex_of h0 h4] at h1;exact Be h1
  exact PySem.W.ki_setAt g h0 (by lia) (by rw[Aw,<-l];exact h4) (by rw[C];exact⟨_,I',q⟩)
 ·have C:(k+(U.toArray.size:Int)).toNat=j:=by rw[seqIndex_neg (by lia) h3] at h1;rw[Aw,<-l];exact Be h1
  exact PySem.W.ki_setBack g (by lia) (by rw[Aw,<-l];exact h3) (by lia) (by rw[C];exact⟨_,I',q⟩)
def sM(lo hi:Vq)(n:Nat):(sliceBounds lo hi none n).1=((HT.sIx n 0 lo:Nat):Int)/\(sliceBounds lo hi none n).2.1=((HT.sIx n n hi:Nat):Int)/\(sliceBounds lo hi none n).2.2=1:=by
 refine⟨?_,?_,rfl⟩
 ·cases lo with
  |none=>simp[sliceBounds,HT.sIx]
  |some i=>
   simp only[sliceBounds,HT.sIx,Option.getD_none,show(1:Int) > 0 by decide,if_true];by_cases h:i<0
   ·simp only[h,if_true]<;>lia
   ·simp only[h,if_false]<;>lia
 ·cases hi with
  |none=>simp[sliceBounds,HT.sIx]
  |some i=>
   simp only[sliceBounds,HT.sIx,Option.getD_none,show(1:Int) > 0 by decide,if_true];by_cases h:i<0
   ·simp only[h,if_true]<;>lia
   ·simp only[h,if_false]<;>lia
def og(eH:Vi)(lo hi:Vq):slicePick eH.toArray lo hi none=((eH.drop<|HT.sIx eH.length 0 lo).take<|HT.sIx eH.length eH.length hi-HT.sIx eH.length 0 lo).toArray:=by obtain⟨h1,h2,h3⟩:=sM lo hi eH.toArray.size;unfold slicePick;rw[h1,h2,h3];simp only[sliceRange_one,pick_run,Aw]<;>rfl
def Oa(K:Ah):V->Vq->Vq->Hp->VK->Prop:=λx lo hi H Q=>∃a xs,x=.ref a/\aS K H a xs/\∀p,H p=none->Q (.ref p) (upd H p<|.lst<|tI xs lo hi)
def Oc:sP X (Oa X.K):=by rintro j s σ H x v vl vu lo g sl Q I p t pl C⟨a,J,rfl,T,q⟩;cases p;obtain⟨a1,r,l,hz⟩:=I.list T;have U:=r.length;refine⟨"list",_,slot_list_getitem.lookup,l.isList.typeIs,?_⟩;refine wpAny_getItem_list_slice l.isList t pl C .none (by simp) ?_ (by rw[Aw]<;>lia);rw[og,<-U];refine⟨.ref s.heap.objs.size,_,I.laid (t':=s.toks) (o:=.lst<|tI J lo g) (λb ob q=>vb _ q) (Ap _) ?_,rfl,q _<|I.hok.fresh<|Ap _⟩;exact⟨AW (lD J lo g) hz,_,0,(r.drop<|HT.sIx J.length 0 lo).take<|HT.sIx J.length J.length g-HT.sIx J.length 0 lo,xT _ rfl⟩
def af:V->Bool
 |.non=>true
 |.bl _=>true
 |.int _=>true
 |.str _=>true
 |_=>false
def mW:V->V->Bool
 |.non,.non=>true
 |.bl a,.bl b=>a==b
 |.bl a,.int b=>(if a then 1 else 0)==b
 |.int a,.bl b=>a==(if b then 1 else 0)
 |.int a,.int b=>a==b
 |.str a,.str b=>a==b
 |_,_=>false
def nv{y x:V}{v:Vt}(U:zv y u)(I:zv x v)(j:af y=true)(g:af x=true):SeqAt.EqAt A s u v (mW y x):=by
 cases y with
 |non=>
  cases U;cases x with
  |non=>cases I;exact SeqAt.EqAt.same _
  |bl b=>cases I;exact SeqAt.EqAt.none_bool b
  |int b=>obtain⟨t,rfl⟩:=I;exact SeqAt.EqAt.none_int b t
  |str b=>obtain⟨t,rfl⟩:=I;exact SeqAt.EqAt.none_str b t
  |_=>exact absurd (show false=true from g) AQ
 |bl a=>
  cases U;cases x with
  |non=>cases I;exact SeqAt.EqAt.bool_none a
  |bl b=>cases I;exact SeqAt.EqAt.bool_bool a b
  |int b=>obtain⟨t,rfl⟩:=I;exact SeqAt.EqAt.bool_int a b t
  |str b=>obtain⟨t,rfl⟩:=I;exact SeqAt.EqAt.bool_str a b t
  |_=>exact absurd (show false=true from g) AQ
 |int a=>
  obtain⟨J,rfl⟩:=U;cases x with
  |non=>cases I;exact SeqAt.EqAt.int_none a J
  |bl b=>cases I;exact SeqAt.EqAt.int_bool a J b
  |int b=>obtain⟨t,rfl⟩:=I;exact SeqAt.EqAt.int_int a J b t
  |str b=>obtain⟨t,rfl⟩:=I;exact SeqAt.EqAt.int_str a J b t
  |_=>exact absurd (show false=true from g) AQ
 |str a=>
  obtain⟨J,rfl⟩:=U;cases x with
  |non=>cases I;exact SeqAt.EqAt.str_none a J
  |bl b=>cases I;exact SeqAt.EqAt.str_bool a J b
  |int b=>obtain⟨t,rfl⟩:=I;exact SeqAt.EqAt.str_int a J b t
  |str b=>obtain⟨t,rfl⟩:=I;exact SeqAt.EqAt.str_str a J b t
  |_=>exact absurd (show false=true from g) AQ
 |_=>exact absurd (show false=true from j) AQ
def xC(x:V)(u:Vt):Bool:=match u with
 |.none=>mW .non x
 |.bool b=>mW (.bl b) x
 |.int i _=>mW (.int i) x
 |.str z _=>mW (.str z) x
 |_=>false
def HZ{x y:V}(r:zv y u)(f:af y=true):xC x u=mW y x:=by
 cases y with
 |non=>cases r;rfl
 |bl b=>cases r;rfl
 |int i=>obtain⟨t,rfl⟩:=r;rfl
 |str z=>obtain⟨t,rfl⟩:=r;rfl
 |_=>exact absurd (show false=true from f) AQ
theorem gn{x:V}:∀{xs:Vz} {us:Vi},zu xs us->xs.all af=true->us.any (xC x)=xs.any λy=>mW y x
 |_,_,.nil,_=>rfl
 |y::xs,u::us,.cons r t,f=>by rw[Eg,Bd] at f;rw[CA,CA,HZ r f.1,gn t f.2]
def gY{x:V}{v:Vt}(J:zv x v)(U:af x=true):∀{xs:Vz} {us:Vi},zu xs us->xs.all af=true->∀u∈us,SeqAt.EqAt A s u v (xC x u):=by
 intro xs us h
 induction h with
 |nil=>intro _ u I;cases I
 |cons r t g=>
  intro f j I;rw[Eg,Bd] at f;rcases Am.mp I with rfl|I
  ·rw[HZ r f.1];exact nv r J f.1 U
  ·exact g f.2 j I
def sQ(x:V)(xs:Vz):Bool:=xs.any λy=>mW y x
def GL(K:Ah)(neg:Bool):R2:=λx y H Q=>∃p xs,y=.ref p/\(aS K H p xs\/dS K H p xs)/\af x=true/\xs.all af=true/\Q (.bl<|if neg then !sQ x xs else sQ x xs) H
def Od:wn X (compareOp .In) (GL X.K false):=by
 rintro g s C H x y v u Q I j o⟨p,T,rfl,U,l,fs,q⟩;cases o;rcases U with U|U
 ·obtain⟨J,r,pl,t⟩:=I.list U;refine SeqAt.in_listAt (xC x) pl.isList (λw hw=>gY j l r fs w (by simpa using hw)) ⟨.bl _,H,I,rfl,?_⟩;rw[show J.toArray.any (xC x)=J.any (xC x) by simp,gn r fs];exact q
 ·obtain⟨J,r,pl,t⟩:=I.tuple U;refine SeqAt.in_tupleAt (xC x) pl (λw hw=>gY j l r fs w (by simpa using hw)) ⟨.bl _,H,I,rfl,?_⟩;rw[show J.toArray.any (xC x)=J.any (xC x) by simp,gn r fs];exact q
def rj:wn X (compareOp .NotIn) (GL X.K true):=by
 rintro g s C H x y v u Q I j o⟨p,T,rfl,U,l,fs,q⟩;cases o;rcases U with U|U
 ·obtain⟨J,r,pl,t⟩:=I.list U;refine SeqAt.notIn_listAt (xC x) pl.isList (λw hw=>gY j l r fs w (by simpa using hw)) ⟨.bl _,H,I,rfl,?_⟩;rw[show J.toArray.any (xC x)=J.any (xC x) by simp,gn r fs];exact q
 ·obtain⟨J,r,pl,t⟩:=I.tuple U;refine SeqAt.notIn_tupleAt (xC x) pl (λw hw=>gY j l r fs w (by simpa using hw)) ⟨.bl _,H,I,rfl,?_⟩;rw[show J.toArray.any (xC x)=J.any (xC x) by simp,gn r fs];exact q
def rc:jg X (.builtin "len") (λxs H Q=>∃p ys,xs=[.ref p]/\(aS X.K H p ys\/dS X.K H p ys)/\Q (.int ys.length) H):=by
 rintro l s C H xs T Q I r⟨p,ys,rfl,U,q⟩;obtain⟨u,rfl,o⟩:=lL r;cases o;have hn:=iy;rcases U with U|U
 ·obtain⟨g,j,pl,t⟩:=I.list U;have J:=j.length;exact Calls.call_len_list pl.isList (by simp only[Aw]<;>lia) ⟨.int ys.length,H,I.tok _,⟨s.toks+1,by rw[Aw,J]⟩,q⟩
 ·obtain⟨g,j,pl,t⟩:=I.tuple U;have J:=j.length;exact len_tuple pl (by simp only[Aw]<;>lia) ⟨.int ys.length,H,I.tok _,⟨s.toks+1,by rw[Aw,J]⟩,q⟩
def rO:jg X (.builtin "len") (λxs H Q=>∃z,xs=[.str z]/\z.length<=sizeLine/\Q (.int z.length) H):=by rintro J s U H xs g Q I r⟨z,rfl,j,q⟩;obtain⟨u,rfl,t,rfl⟩:=lL r;have l:=iy;exact len_str (by lia) ⟨.int z.length,H,I.tok _,⟨_,rfl⟩,q⟩
def sC:jg X (.type "list") (λxs H Q=>∃p ys,xs=[.ref p]/\(aS X.K H p ys\/dS X.K H p ys)/\∀l,H l=none->Q (.ref l) (upd H l<|.lst ys)):=by
 rintro t s σ H xs us Q I r⟨p,ys,rfl,C,q⟩;obtain⟨u,rfl,rx⟩:=lL r;cases rx;have xa:∀(J:Vi),zu ys J->ys.length<=sizeLine->∀(U:Vx) (g:Nat),(∀b o',s.heap.get? b=some o'->U.get? b=some o')->
  U.get? s.heap.objs.size=some {cls:=.type "list",dict:=none,data:=.seq J.toArray g,slots:=#[]}->EP X t σ Q (.ref s.heap.objs.size) {s with heap:=U}:=λJ j T U g kp e=>
  ⟨.ref s.heap.objs.size,_,I.laid (t':=s.toks) kp (Ap _)<|show xj X.prog X.w _ U _ (.lst ys) from⟨T,J,g,j,e⟩,rfl,q _<|I.hok.fresh<|Ap _⟩
 rcases C with C|C
 ·obtain⟨J,j,pl,T⟩:=I.list C;have a1:=j.length;obtain⟨o,ho,hc,n,hd⟩:=pl.isList;exact call_list_seq p (.inl rfl) ho hc hd (λU g kp e=>xa J j T U g kp e) (by simp only[Aw]<;>lia)
 ·obtain⟨J,j,pl,T⟩:=I.tuple C;have a1:=j.length;obtain⟨o,ho,hc,n,hd⟩:=pl;exact call_list_seq p (.inr rfl) ho hc hd (λU g kp e=>xa J j T U g kp e) (by simp only[Aw]<;>lia)
def oj:jg X (.type "tuple") (λxs H Q=>∃p ys,xs=[.ref p]/\((aS X.K H p ys/\∀l,H l=none->Q (.ref l) (upd H l<|.tup ys))\/(dS X.K H p ys/\Q (.ref p) H))):=by
 rintro J s C H xs us Q I r⟨p,ys,rfl,h⟩;obtain⟨u,rfl,rx⟩:=lL r;cases rx;rcases h with⟨j,q⟩|⟨j,q⟩
 ·obtain⟨U,t,pl,T⟩:=I.list j;have a1:=t.length;refine call_tuple_list pl.isList (λg kp=>?_) (by simp only[Aw]<;>lia);have I1:qw X J C H {s with heap:=g}:=I.kept (t':=s.toks) kp;have I2:qw X J C (upd H g.objs.size<|.tup ys) {s with heap:=g.push {cls:=.type "tuple",data:=.seq U.toArray}}:=
   I1.laid (t':=s.toks) (λb o e=>vb _ e) (Ap _) (show xj X.prog X.w _ _ _ (.tup ys) from⟨T,U,t,IsTup.new _ _⟩)
  exact⟨.ref g.objs.size,_,I2,rfl,q _<|I1.hok.fresh<|Ap _⟩
 ·obtain⟨U,t,pl,T⟩:=I.tuple j;exact call_tuple_same pl ⟨.ref p,H,I,rfl,q⟩
def GN(K:Ah)(T:Vy)(x:V)(H:Hp):Prop:=match x with
 |.str _=>T = "str"
 |.int _=>T = "int"
 |.ref p=>(T = "list" /\ ∃xs,aS K H p xs)\/(T = "tuple" /\ ∃o,K.lookup p=some o/\o.cls=.type "tuple" /\ o.dict=none)\/
  (T = "dict" /\ ((∃kvs,H p=some (.dK kvs))\/∃kvs,H p=some (.dT kvs)))\/(T = "set" /\ ∃S n,H p=some (.set S n))
 |_=>False
def Oe{T:Vy}{x:V}{v:Vt}(I:qw X pins σ H s)(r:zv x v)(ty:GN X.K T x H):
 s.TypeIs v T/\∀a,v=.ref a->∃ob,s.heap.get? a=some ob/\ob.dict=none:=by
 cases x with
 |str z=>
  obtain⟨t,rfl⟩:=r;cases (show T = "str" from ty);exact⟨typeIs_str s z t,λ_ e=>nomatch e⟩
 |int i=>
  obtain⟨t,rfl⟩:=r;cases (show T = "int" from ty);exact⟨typeIs_int s i t,λ_ e=>nomatch e⟩
 |ref p=>
  cases r;rcases ty with⟨rfl,xs,j⟩|⟨rfl,o,J,l,hd⟩|⟨rfl,J⟩|⟨rfl,S,n,J⟩
  ·obtain⟨C,_,pl,_⟩:=I.list j;refine⟨pl.isList.typeIs,λa e=>?_⟩;cases e;obtain⟨o,n,e,c,hd,_⟩:=pl;exact⟨o,e,hd⟩
  ·refine⟨⟨o,I.kIn p o J,l⟩,λa e=>?_⟩;cases e;exact⟨o,I.kIn _ o J,hd⟩
  ·have z:∃o,s.heap.get? p=some o/\o.ExactDict:=by
    rcases J with⟨U,J⟩|⟨U,J⟩
    ·obtain⟨_,_,_,_,o,_,_,e,ex,_⟩:=I.hok p _ J;exact⟨o,e,ex⟩
    ·obtain⟨_,_,_,_,o,_,_,e,ex,_⟩:=I.hok p _ J;exact⟨o,e,ex⟩
   obtain⟨o,e,ex⟩:=z;refine⟨⟨o,e,ex.1⟩,λa g=>?_⟩;cases g;exact⟨o,e,ex.2.1⟩
  ·obtain⟨o,_,_,_,e,ex,_⟩:=I.hok p _ J;refine⟨⟨o,e,ex.1⟩,λa g=>?_⟩;cases g;exact⟨o,e,ex.2.1⟩
 |_=>exact False.elim ty
def Of(K:Ah)(T:Vy)(r:V->Vz->Hp->VK->Prop)(to:TE)(t:TA):TE:=λσ H Q=>to σ H λx H1=>GN K T x H1/\t σ H1 λxs H2=>r x xs H2 Q
variable {to:TE}{t:TA}{T id:Vy}{r:V->Vz->Hp->VK->Prop}
def H0(pa:PlainAttrs T)(slot:Slot T name id)(p:typeOf (.builtin id)=pure (.type "method_descriptor"))(hm:NY X id r)(ho:PE X o to)(ha:PA X (e::es) t)
 (g:attributeBase o name X.env (eval o X.env)=eval o X.env:=by rfl)
 (l:((backTo hE<|starEach (e::es) X.env).all (λx=>!x.1)&&(backToKw hE<|keywordEach [] X.env).all (λx=>x.1.isSome)
  && decide ((e::es).length+([]:List Keyword).length+(if ([]:List Keyword).isEmpty then 0 else 1)<30))=true:=by rfl)
 (j:(apos.endLine==hE.line)=true:=by rfl) (hs:E8 e es X:=by rfl) (U:E9 hE es X:=by rfl):
 PE X (.Call (.Attribute o name apos) (e::es) [] hE) (Of X.K T r to t):=by
 intro J s C H Q I h;refine wpAny_Call_method_late g l j rfl<|aI (ho J s C H _ I h) λv s1 ⟨x,H1,I1,r1,ty,q1⟩=>?_;obtain⟨h1,h2⟩:=Oe I1 r1 ty;refine⟨T,id,pa,slot,p,h1,h2,?_⟩;have hA:=ha hE J s1 C H1 _ I1 q1;rw[hs] at hA ⊢;refine Calls.callWith_builtin (by show(false||(backTo hE<|starEach es X.env).any (·.1))=false;rw[U]<;>rfl)<|Calls.evalArgs_plain ?_;exact aI hA λus s2 ⟨vs,H2,I2,r2,q2⟩=>hm J s2 C H2 x vs v us Q I2 r1 r2 q2
end
def qT(X:Cx)(id:Vy)(r:V->Vz->Hp->VK->Prop):Prop:=
 ∀(pins:List<|Addr×Obj) (s:Vu) (σ:St) (H:Hp) (x:V) (xs:Vz) (v:Vt) (us:Vi) (Q:VK),qw X pins σ H s->zv x v->zu xs us->r x xs H Q->
  wpAny (model X.prog X.w) X.A (call (.builtin id)<|v::us) (EP X pins σ Q) X.xe s
def zu.one{x:V}(h:zu [x] us):∃u,us=[u]/\zv x u:=by cases h with|cons r t=>cases t;exact⟨_,rfl,r⟩
def zu.two{x y:V}(h:zu [x,y] us):∃u v,us=[u,v]/\zv x u/\zv y v:=by cases h with|cons r t=>cases t with|cons q t=>cases t;exact⟨_,_,rfl,r,q⟩
theorem zu.eraseIdx:∀{xs:Vz} {us:Vi} (i:Nat),zu xs us->zu (xs.eraseIdx i) (us.eraseIdx i)
 |_,_,_,.nil=>.nil
 |_,_,0,.cons _ t=>t
 |_,_,i+1,.cons r t=>.cons r<|zu.eraseIdx i t
theorem qF{α:Type}:∀(l:List α) (i:Nat),(l.eraseIdx i).length<=l.length
 |[],_=>Ap _
 |_::_,0=>CS _
 |_::r,i+1=>CY<|qF r i
section
variable {b:Addr}{ys:Vz}
def qw.lset{its':Vi}{f:Vj->Vj}(I:qw X pins σ H s)(J:H l=some (.lst xs))
 (e:s.heap.get? l=some {cls:=.type "list",data:=.seq eH.toArray n}) (U:f eH.toArray=its'.toArray) (g:zu ys its') (hz:ys.length<=sizeLine) (p:0<t':=by walk_at "t"):
 qw X pins σ (upd H l<|.lst ys) {s with heap:=s.heap.update l<|Obj.mapSeq f,toks:=t'}:=by
 have q:=PySem.IsL.update e f;rw[U] at q;refine I.write (x:=l) (e:=l) (by rw[J];exact trivial) (.inl rfl) (λr u j o=>(At s.heap (Obj.mapSeq f)<|AG j).trans o) ⟨_,q⟩ ?_;exact⟨hz,its',_,g,q⟩
def qw.lnew(I:qw X pins σ H s)(J:zu ys eH)(hz:ys.length<=sizeLine)(U:0<t':=by walk_at "t"):
 qw X pins σ (upd H s.heap.objs.size<|.lst ys) {s with heap:=s.heap.push {cls:=.type "list",data:=.seq eH.toArray},toks:=t'}:=
 I.laid (λ_ _ q=>vb _ q) (Ap _) ⟨hz,eH,0,J,xT _ rfl⟩
theorem qw.fresh(I:qw X pins σ H s):H s.heap.objs.size=none:=I.hok.fresh<|Ap _
def qw.lstM(I:qw X pins σ H s)(J:H l=some (.lst xs)):xs.length<=sizeLine/\∃(eH:Vi) (n:Nat),zu xs eH/\xs.length=eH.length/\s.heap.get? l=some {cls:=.type "list",data:=.seq eH.toArray n}:=by obtain⟨z,eH,n,r,e⟩:=I.hok l _ J;exact⟨z,eH,n,r,r.length,e⟩
end
def Og:V->Vz->Hp->VK->Prop:=λx vs H Q=>∃l xs y,x=.ref l/\vs=[y]/\H l=some (.lst xs)/\xs.length<sizeLine/\Q .non (upd H l<|.lst<|xs++[y])
def Oh:qT X "list.append" Og:=by rintro U s t H x C v T Q I j o⟨l,xs,y,rfl,rfl,g,hz,q⟩;cases j;obtain⟨u,rfl,p⟩:=o.one;obtain⟨z,J,n,r,hl,e⟩:=I.lstM g;refine call_meets F.slot_list_append ⟨_,e,rfl⟩ F.entry_list_append (F.args_list_append_2 _ _) (PySem.list_append l J.toArray n u (by rw[Aw];lia)) ⟨e,?_⟩;refine⟨.non,_,I.lset (its':=J++[u]) g e (by simp) (r.append<|.cons p .nil) ?_,rfl,q⟩;rw[Ad,CL];lia
def Oi:V->Vz->Hp->VK->Prop:=λx vs H Q=>∃l xs i k y,x=.ref l/\vs=[.int i]/\H l=some (.lst xs) /\ -(2 ^ 63)<=i/\i<2 ^ 63/\seqIndex? i xs.length=some k/\xs[k]?=some y/\Q y (upd H l<|.lst<|xs.eraseIdx k)
def Oj:qT X "list.pop" Oi:=by
 rintro g s σ H x vs v us Q I o p⟨l,C,i,k,y,rfl,rfl,j,h1,h2,T,hy,q⟩;cases o;obtain⟨u,rfl,ru⟩:=p.one;obtain⟨t,rfl⟩:=ru;obtain⟨z,J,n,r,hl,e⟩:=I.lstM j;obtain⟨w,hw,U⟩:=r.get hy;refine call_meets F.slot_list_pop ⟨_,e,rfl⟩ F.entry_list_pop (F.args_list_pop_2 _ _)
  (MeetsSeq.list_pop_at l J.toArray n i t k w (fitsIndex_both h1 h2) (by rw[Aw,<-hl];exact T) (by rw[<-Bi];exact hw) (by rw[Aw];lia)) ⟨e,?_⟩
 refine⟨y,_,I.lset (its':=J.eraseIdx k) j e ?_ (r.eraseIdx k) ?_,U,q⟩
 ·show J.toArray.eraseIdxIfInBounds k=(J.eraseIdx k).toArray;rw[List.eraseIdxIfInBounds_toArray]
 ·have:=qF C k;lia
def Ol:R2:=λx y H Q=>∃l b xs zs,x=.ref l/\y=.ref b/\H l=some (.lst xs)/\H b=some (.lst zs)/\xs.length+zs.length<=sizeLine/\∀p,H p=none->Q (.ref p) (upd H p<|.lst<|xs++zs)
def Om:wn X (binaryOp .Add) Ol:=by
 rintro g s σ H x y v u Q I j o⟨l,b,xs,zs,rfl,rfl,p,t,hz,q⟩;cases j;cases o;obtain⟨z,U,n,r,hl,e⟩:=I.lstM p;obtain⟨z2,J,n2,C,T,e2⟩:=I.lstM t;refine PySem.P.add_list e e2 ?_ (by rw[Aw,Aw];lia);have ea:U.toArray++J.toArray=(U++J).toArray:=by simp
 rw[ea];exact⟨.ref _,_,I.lnew (t':=s.toks) (r.append C) (by rw[Ad];lia),rfl,q _ I.fresh⟩
section
variable {w:Vw}
set_option maxRecDepth 100000 in
end
end L2
namespace Att
open PySem PySem.W PySem.Calls PyProof.Rows
def lT{P:Params} :∀(I:Vo) (vs:Vi),WellAll P h vs (I.map WData.int)->IntsAre vs I:=by
 intro I
 induction I with
 |nil=>
  intro vs w;rw[Dr] at w;cases w;exact .nil
 |cons n I J=>
  intro vs w;rw[AJ] at w;cases w with
  |cons a b=>
   cases a;exact .cons _ _<|J _ b
def Oo{l:OpenLaw}(hn:l.most=some n){P:Params}{args:List WData}{J:Vi}
 (U:l.row.toRowW.claim.pre args=true) (t:WellAll P h J args):
 ∃a vs I,J=[Value.ref a]/\args=[WData.list<|I.map WData.int]/\h.get? a=some {cls:=.type "list",data:=.seq vs.toArray}/\IntsAre vs I/\I.length<=n:=by
 have C:WShape.hasAll [] args [.list .int]=true:=(pre_splitW U).1;have T:l.pre.holds [] {args:=args}=true:=(pre_splitW U).2;obtain⟨d,r,rfl,h1,h2⟩:=hasAllW_cons C;obtain rfl:=hasAllW_nil h2;obtain⟨xs,rfl,h3⟩:=hasW_list h1;obtain⟨I,rfl⟩:=items_int h3;have g:I.length<=n:=by
  unfold OpenLaw.pre at T;have o:(WTm.not<|.lt (.lit<|.int (n:Int))<|.len<|.arg 0).holds [] {args:=[.list<|I.map .int]}=true:=by have o:=(holds_andW T).1;rw[hn] at o;exact o
  have p:=condW_of o<|w_not<|w_lt w_lit<|w_len_list<|w_arg rfl;rw[Af] at p;refine Nat.le_of_not_lt λq=>?_;have q':(n:Int)<((I.length:Nat):Int):=by lia
  first
   |(rw[AK q'] at p;exact absurd p (by decide))
   |(simp at p;lia)
 cases t with
 |cons w1 w2=>
  cases w2;cases w1 with|list ho j=>exact⟨_,_,I,rfl,rfl,ho,lT I _ j,g⟩
def Op(l:OpenLaw)(args:List WData):l.row.toRowW.claim.post args (.bool true) args=true:=
 postW_of (r:=l.row.toRowW) (X:=(true==true))
  (show WShape.has [] (.bool true) .bool=true by first|rfl|decide|simp[WShape.has,WShape.arms,WShape.armsAll])
  (show(WTm.eq .res<|.lit<|.bool true).value [] {args:=args,res:=some<|.bool true,after:=args}=some (.bool<|true==true) from w_eq_bool (w_res rfl) w_lit) rfl
theorem attach_callZ{l:OpenLaw}{q:Vv}{loose:Vl}{XP:(Vf)->Vx->Prop}{as0:List Addr}{N t:Nat}{K:Params->Frag}{d:DefRec}
 (hn:l.most=some n) (C:d.params.defaults=[]) (ek:∀P,as0=(K P).map (·.1)) (T:0<t)
 (call:∀(w:Vw) (s₀ I:Vu) (mg mb:Vf) (fa:Addr) (o:Obj) (pm cd kt:Vt) (a:Addr) (vs:Vi) (J:Vo),
  Ground q loose [] XP w s₀ mg mb I.heap->(K w.params).In I.heap->0<I.toks->
  I.heap.get? fa=some o->o.data=.func (docDef d.name d.params d.body d.scope pm cd kt)->I.heap.CodeRec cd d.name->mg d.name=some (.ref fa)->
  I.heap.get? a=some {cls:=.type "list",data:=.seq vs.toArray}->IntsAre vs J->J.length<=n->I.gens=#[]->
  codeAny (model l.prog w) callerA (.call (.ref fa) ⟨[.ref a],[]⟩) (λr s'=>r=.ok (.ret<|.bool true)/\OldK I.heap s'.heap/\s'.os=I.os/\AllBare s'.gens) I):
 WalkX q loose XP (PySem.W.X.obsZ as0) (PySem.W.X.valZ K N t) l.row.toRowW d [] (λf vs=>PySem.call f vs):=by
 intro w s₀ I mg mb G Y fa o pm cd kt dV kV ho hd a1 hD a2 hg args a5 as L g ac al a3 au;obtain rfl:dV=.none:=Dflts.none hD C;obtain rfl:kV=.none:=Dflts.noKw hD;obtain⟨a,vs,J,rfl,rfl,j,U,p⟩:=Oo hn g a3;obtain⟨_,zi,_,zt⟩:=X.z_facts ek Y;have eP:∀J:Vo,ofPy (PyData.list<|J.map PyData.int)=WData.list (J.map WData.int):=λJ=>by
  simp only[ofPy];congr 1
  induction J with|nil=>simp[ofPys]|cons n r ih=>simp only[AJ,ofPys,ofPy,ih]
 rw[<-eP] at L;have KX:=InK.keeps w s₀.heap I.heap zi L.keeps;have a4:0<I.toks:=AO T<|X.script_toks L zt;refine enter_call<|codeAny_mono (call w s₀ I mg mb fa o pm cd kt a vs J G KX a4 ho (fd_plain hd) a1 a2 j U p hg) λr s' hq=>?_;obtain⟨rfl,h2,h3,h4⟩:=hq;exact⟨.inl ⟨.bool true,.bool true,[],rfl,λ_=>rfl,.bool true,Op l _,λ_=>⟨List.Pairwise.nil,λ_ hm=>(nomatch hm)⟩⟩,h2,h3,h4⟩
section
variable {w:Vw}{K:Frag}
end
end Att
namespace L2
open PySem PySem.Spec PyProof.Rows
theorem ph:∀{vs:Vi} {I:Vo},IntsAre vs I->zu (I.map V.int) vs
 |_,_,.nil=>.nil
 |_,_,.cons n t h=>.cons ⟨t,rfl⟩<|ph h
def k8(s:Stmt):Arguments:=match s with
 |.FunctionDef _ a _ _ _ _ _ _ _ _=>a
 |_=>{posonlyargs:=[],args:=[],vararg:=none,kwonlyargs:=[],kw_defaults:=[],kwarg:=none,defaults:=[]}
def x6(s:Stmt):Vn:=match s with
 |.FunctionDef _ _ b _ _ _ _ _ _ _=>b
 |_=>[]
def z9(s:Stmt):Scope:=match s with
 |.FunctionDef _ _ _ _ _ _ I _ _ _=>I
 |_=>{kind:=.function,names:=[],isGenerator:=false,isCoroutine:=false}
abbrev CX0:yQ:=λ_ _ _ _ _ _=>False
abbrev E0:XK:=λ_ _ _=>False
def Oq :vN CX0 X E0:=λ_ _ _ _ _ _ _ h=>h.elim
structure Fun(K:Ah)(x eK:Str)(st:Stmt)(f:Addr)(fd:FuncData):Prop where
 ex:∃(oc:Vt) (od:Option Addr) (kV kt pm:Vt) (an:Option Addr) (fv ct:Vt) (oi:Array<|Vp),
  fd=PySem.W.fnOf x eK (k8 st) (x6 st) (z9 st) .none kV kt pm an fv ct/\K.lookup f=some ⟨oc,od,.func fd,oi⟩/\PySem.W.codeIn K fv eK=true
 kp:PySem.W.keepIn K (.ref f)=true
section
variable {P:Vv}{w:Vw}{K:Ah}
def Fun.ok{N:Vl}{k:Nat}(F:Fun K x eK st f fd)(S:wy N ps<|z9 st)(len:∀vs H Q E,sp vs H Q E->vs.length=ps.length)
 (I:∀(fv:Vt) (A:Around) (outer:List Env) (s:Vu) (H:Hp) (vs:Vz) (Q:VK) (E:XK),ww k (A.deeper<|envOfC eK (z9 st) s.heap.objs.size f fv)->sp vs H Q E->
  ∃t,gT (eY CX0 P w K mg base N eK (z9 st) f fv A outer s H E).nox (x6 st) t/\t {nx:=λ_ H'=>Q .non H',rt:=Q} (start N vs) H):bP P w K mg base CX0 (k+1) f fd ps sp:=by
 obtain⟨o,p,kV,g,pm,an,fv,r,j,rfl,lk,J⟩:=F.ex;refine GJ lk J S len λA outer s H vs Q E l U=>?_;obtain⟨t,h,q⟩:=I fv A outer s H vs Q E l U;exact⟨t,h.nox,q⟩
def Ot{kV ct:Vt}(l:K.lookup f=some ⟨oc,od,.func<|PySem.W.fnOf x eK (k8 st) (x6 st) (z9 st) .none kV kt pm an fv ct,oi⟩)
 (c:PySem.W.codeIn K fv eK=true) (k:PySem.W.keepIn K (.ref f)=true):Fun K x eK st f (PySem.W.fnOf x eK (k8 st) (x6 st) (z9 st) .none kV kt pm an fv ct):=⟨⟨oc,od,kV,kt,pm,an,fv,ct,oi,rfl,l,c⟩,k⟩
end
def pV(h:n<=1000):n<sizeLine:=Df h (by decide)
def pv(i:Nat)(hN:X.N[i]?=some x:=by rfl)(J:y_ X.env.scope x:=by first|exact Or.inl rfl|exact Or.inr (Or.inl rfl)|exact Or.inr<|Or.inr rfl)(hd:Fb x:=by decide)
 (I:Fc x:=by decide):PE X (.Name x pos) (Gu i):=LS hN J hd I
section
variable [DecidableEq κ]
end
end L2
set_option maxHeartbeats 8000000
def FC{a b c:Nat}(h:a<b:=by assumption)(k:b<=c:=by assumption):a<c:=AO h k
def o7{a b c:Nat}(h:a<=b:=by assumption)(k:b<c:=by assumption):a<c:=Df h k
def GO{a b c:Nat}(h:a<=b:=by assumption)(k:b<=c:=by assumption):a<=c:=AW h k
def uV{a b c:Nat}(h:a<b:=by assumption)(k:b<c:=by assumption):a<c:=Nat.lt_trans h k
def FD{a b c:Nat}(h:a<=b:=by assumption)(k:b<=c:=by decide):a<=c:=AW h k
def GP{a b:Nat}(h:a<=b:=by assumption):a<b+1:=Nat.lt_succ_of_le h
def Ou{a b:Nat}(h:a<=b:=by assumption):a<=b+1:=BV h
def jI{a b:Nat}(h:a<b:=by assumption):a<=b:=BK h
def H9{a b:Nat}(h:a<b:=by assumption):a≠b:=A9 h
def Ov{a b:Nat}(h:b<a:=by assumption):a≠b:=CH h
def FE{a:Nat}(h:a≠0:=by assumption):0<a:=Nat.pos_of_ne_zero h
def Ow{a b c:Nat}(h:a<b:=by assumption)(k:b<=c:=by assumption):a<=c:=AW (BK h) k
def H_{a b c:Nat}(h:a<b:=by assumption):a<b+c:=AO h<|Bg _ _
def vY{a b:Nat}(h:a=b:=by assumption):a<=b:=Nat.le_of_eq h
def F4{a b:Nat}(h:¬a<b:=by assumption):b<=a:=Nat.le_of_not_lt h
def Ia{a b:Nat}(h:¬b<=a:=by assumption):a<b:=Nat.lt_of_not_le h
def Ib{a b:Nat}(h:a<b+1:=by assumption):a<=b:=CP h
def z_{a b:Nat}(h:0<a:=by assumption)(k:0<b:=by decide):a-b<a:=Nat.sub_lt h k
def Ic{a b c:Nat}(h:a<=c:=by assumption):a-b<=c:=AW (Nat.sub_le _ _) h
def sH{a b c:Nat}(h:a<c:=by assumption):a-b<c:=Df (Nat.sub_le _ _) h
def A_{a b:Nat}(h:a<=b:=by assumption)(k:a≠b:=by assumption):a<b:=Ck h k
namespace L2
open PySem PySem.Spec PyProof.Rows
def Ox:R2:=λx y H Q=>match x,y with
 |.int i,.int j=>Q (.int<|i+j) H
 |.str a,.str b=>a.length+b.length<=sizeLine/\Q (.str<|a++b) H
 |.ref l,.ref b=>∃xs zs,H l=some (.lst xs)/\H b=some (.lst zs)/\xs.length+zs.length<=sizeLine/\∀p,H p=none->Q (.ref p) (upd H p<|.lst<|xs++zs)
 |_,_=>False
def Oy:wn X (binaryOp .Add) Ox:=by
 intro J s U H x y v u Q I g j h;cases x<;>cases y<;>first
  |exact False.elim h
  |exact Nd J s U H _ _ v u Q I g j ⟨_,_,rfl,rfl,h⟩
  |exact wD J s U H _ _ v u Q I g j ⟨_,_,rfl,rfl,h.1,h.2⟩
  |(obtain⟨l,o,h1,h2,h3,p⟩:=h;exact Om J s U H _ _ v u Q I g j ⟨_,_,l,o,rfl,rfl,h1,h2,h3,p⟩)
def KD(K:Ah)(P:Vv)(w:Vw)(a:Addr)(kvs:List<|j9×V):Prop:=
 (a==sysModules)=false/\kvs.length<=sizeLine/\∀h:Vx,K.In h->∃vs,KV kvs vs/\h.DictOf (xz P w) a vs
def Ie(K:Ah)(P:Vv)(w:Vw):R2:=λx y H Q=>match x,y with
 |.str z,.int i=>z.length<=sizeLine/\∃c,dW z.cps.toList i=some c/\Q (.str ⟨#[c]⟩) H
 |.ref p,.int i=>∃xs v,(aS K H p xs\/dS K H p xs)/\dW xs i=some v/\Q v H
 |.ref p,.str k=>∃kvs v,(Rd H p (.dK kvs)\/KD K P w p kvs)/\bT kvs (Sum.inr k)=some v/\Q v H
 |_,_=>False
def Ig{slice:Expr}{a:Addr}{vs:List<|j9×Vt}{k:j9}{J:Vt}{Q:VK}(I:qw X pins σ H s)(dd:s.heap.DictOf (xz X.prog X.w) a vs)(U:oH k u=true)
 (hw:valueAt vs k=some J) (r:zv v J) (q:Q v H) (hs:subscripted slice false (.ref a) u=operate [.ref a,u] (getItem (.ref a) u)):wpAny (model X.prog X.w) X.A (subscriptTail value slice (.ref a) u) (EP X pins σ Q) X.xe s:=
 tail_any dd.typeIs DX.lookup (wpAny_getItem_of U dd.mapOf hw ⟨v,H,I.tok _,r,q⟩) hs
def Oz:IxR X (Ie X.K X.prog X.w):=by
 intro value slice J s T H x y v u Q I t C q g;cases x with
 |str z=>
  cases y with
  |int i=>
   obtain⟨h1,c,h2,h3⟩:=q;exact N8 value slice J s T H _ _ v u Q I t C ⟨z,i,c,rfl,rfl,h1,h2,h3⟩ g
  |_=>exact q.elim
 |ref p=>
  cases y with
  |int i=>
   obtain⟨xs,j,h1,h2,h3⟩:=q;rcases h1 with h1|h1
   ·exact N6 value slice J s T H _ _ v u Q I t C ⟨p,xs,i,j,rfl,rfl,h1,h2,h3⟩ g
   ·exact N7 value slice J s T H _ _ v u Q I t C ⟨p,xs,i,j,rfl,rfl,h1,h2,h3⟩ g
  |str k=>
   obtain⟨a1,j,h1,h2,h3⟩:=q;have l:zv (kV<|Sum.inr k) u:=C;cases (show v=Value.ref p from t);rcases h1 with h1|h1
   ·obtain⟨z,hd,vs,rel,r⟩:=mX I.hok h1;obtain⟨w2,hw,U⟩:=EW (v:=j) (o:=valueAt vs<|Sum.inr k) (by rw[<-h2];exact rel.val _);exact Ig I r (kU (P:=X.prog) (w:=X.w) l) hw U h3 g
   ·obtain⟨hd,z,r⟩:=h1;obtain⟨vs,rel,r⟩:=r s.heap I.kIn;obtain⟨w2,hw,U⟩:=EW (v:=j) (o:=valueAt vs<|Sum.inr k) (by rw[<-h2];exact rel.val _);exact Ig I r (kU (P:=X.prog) (w:=X.w) l) hw U h3 g
  |_=>exact q.elim
 |_=>cases y<;>exact q.elim
def OA(K:Ah):Vz->Hp->VK->Prop:=λxs H Q=>match xs with
 |[.str z]=>z.length<=sizeLine/\Q (.int z.length) H
 |[.ref p]=>∃ys,(aS K H p ys\/dS K H p ys)/\Q (.int ys.length) H
 |_=>False
def zQ:jg X (.builtin "len") (OA X.K):=by
 intro J s U H j g Q I r h;obtain _|⟨x,_|⟨y,t⟩⟩:=j
 ·exact h.elim
 ·cases x with
  |str z=>exact rO J s U H _ g Q I r ⟨z,rfl,h.1,h.2⟩
  |ref p=>
   obtain⟨l,h1,h2⟩:=h;exact rc J s U H _ g Q I r ⟨p,l,rfl,h1,h2⟩
  |_=>exact h.elim
 ·cases x<;>exact h.elim
inductive Da where
 |s (v:V)
 |tup (xs:List Da)
 |lst (xs:List Da)
mutual
def Da.eq:Da->Da->Bool
 |.s v,.s w=>mW v w
 |.tup xs,.tup ys=>Da.eqs xs ys
 |.lst xs,.lst ys=>Da.eqs xs ys
 |_,_=>false
def Da.eqs:List Da->List Da->Bool
 |[],[]=>true
 |x::xs,y::ys=>Da.eq x y&&Da.eqs xs ys
 |_,_=>false
end
def aM(K:Ah)(H:Hp):Nat->V->Da->Prop
 |0,v,d=>d=.s v/\af v=true
 |n+1,v,d=>(d=.s v/\af v=true)\/(∃a xs ds,v=.ref a/\d=.tup ds/\dS K H a xs/\Paired (aM K H n) xs ds)\/(∃a xs ds,v=.ref a/\d=.lst ds/\aS K H a xs/\Paired (aM K H n) xs ds)
theorem Da.eqs_range:∀(ds es:List Da),((List.range<|min ds.length es.length).all (λj=>Da.eq (ds.getD j<|.s .non)<|es.getD j<|.s .non)&&ds.length==es.length)=Da.eqs ds es
 |[],[]=>by simp[Da.eqs]
 |[],e::es=>by simp[Da.eqs]
 |d::ds,[]=>by simp[Da.eqs]
 |d::ds,e::es=>by
  have I:=Da.eqs_range ds es;rw[Da.eqs,<-I];have:min (d::ds).length (e::es).length=min ds.length es.length+1:=by simp only[AF];lia
  rw[this,List.range_succ_eq_map,Eg,List.all_map];have h2:((d::ds).length==(e::es).length)=(ds.length==es.length):=by simp
  rw[h2,Bool.and_assoc];rfl
theorem Paired.at{F:α->β->Prop}:∀{xs:List α} {ys:List β} {j:Nat} {x:α} {y:β},Paired F xs ys->xs[j]?=some x->ys[j]?=some y->F x y:=by
 intro xs ys j x y h
 induction h generalizing j with
 |nil=>intro h _;simp at h
 |cons r t I=>
  intro h1 h2;cases j with|zero=>simp at h1 h2;subst h1 h2;exact r|succ j=>exact I (j:=j) (by simpa using h1) (by simpa using h2)
abbrev ET:=@Paired.at
theorem i4:∀{v:V},af v=true->mW v v=true
 |.non,_=>rfl
 |.bl _,_=>by simp[mW]
 |.int _,_=>by simp[mW]
 |.str _,_=>by simp[mW]
def jz{a:Addr}(h:af (.ref a)=true):False:=by simp[af] at h
def qw.notBoth(I:qw X pins σ H s){a:Addr}{ys:Vz}(h:dS X.K H a xs)(h':aS X.K H a ys):False:=by
 obtain⟨j,_,⟨o,e,c,_⟩,_⟩:=I.tuple h;obtain⟨U,_,⟨l,p,g,J,_⟩,_⟩:=I.list h';rw[e] at g;cases g;rw[c] at J;injection J with J
 exact absurd J (by decide)
theorem rQ(I:qw X pins σ H s):∀(n:Nat) {m:Nat} {x:V} {d e:Da},aM X.K H n x d->aM X.K H m x e->Da.eq d e=true
 |0,m,x,d,e,h1,h2=>by
  obtain⟨rfl,f⟩:=h1;cases m with
  |zero=>obtain⟨rfl,_⟩:=h2;exact i4 f
  |succ m=>
   rcases h2 with⟨rfl,_⟩|⟨a,g,j,rfl,_⟩|⟨a,g,j,rfl,_⟩
   ·exact i4 f
   ·exact(jz f).elim
   ·exact(jz f).elim
 |n+1,m,x,d,e,h1,h2=>by
  have both:∀{g:Vz} {j l:List Da} {m:Nat},Paired (aM X.K H n) g j->Paired (aM X.K H m) g l->Da.eqs j l=true:=by
   intro g j l m p
   induction p generalizing l with
   |nil=>intro q;cases q;rfl
   |cons r t ih=>
    intro q;cases q with|cons r' t'=>rw[Da.eqs,rQ I n r r',ih t'];rfl
  rcases h1 with⟨rfl,f⟩|⟨a,g,j,rfl,rfl,C,T⟩|⟨a,g,j,rfl,rfl,C,T⟩
  ·cases m with
   |zero=>obtain⟨rfl,_⟩:=h2;exact i4 f
   |succ m=>
    rcases h2 with⟨rfl,_⟩|⟨a,g,j,rfl,_⟩|⟨a,g,j,rfl,_⟩
    ·exact i4 f
    ·exact(jz f).elim
    ·exact(jz f).elim
  ·cases m with
   |zero=>exact(jz h2.2).elim
   |succ m=>
    rcases h2 with⟨_,f⟩|⟨a',ys,l,o,rfl,J,U⟩|⟨a',ys,l,o,rfl,J,U⟩
    ·exact(jz f).elim
    ·cases o;cases I.tuple_inj C J;exact both T U
    ·cases o;exact(I.notBoth C J).elim
  ·cases m with
   |zero=>exact(jz h2.2).elim
   |succ m=>
    rcases h2 with⟨_,f⟩|⟨a',ys,l,o,rfl,J,U⟩|⟨a',ys,l,o,rfl,J,U⟩
    ·exact(jz f).elim
    ·cases o;exact(I.notBoth J C).elim
    ·cases o;cases I.list_inj C J;exact both T U
def xp{a:Addr}{eH:Vj}(p:PlainL h a eH):h.IsList a eH:=let ⟨o,n,e,c,_,d⟩:=p;⟨o,e,c,n,d⟩
def uA{ys:Vz}{ds es:List Da}(px:Paired (aM X.K H n) xs ds)(py:Paired (aM X.K H m) ys es)(I:zu xs us)(J:zu ys vs)
 (p:∀{x y:V} {d e:Da} {u v:Vt},aM X.K H n x d->aM X.K H m y e->zv x u->zv y v->SeqAt.EqAt A.in1 s u v (Da.eq d e)):
 ∀j (h1:j<us.toArray.size) (h2:j<vs.toArray.size),SeqAt.EqAt A.in1 s us.toArray[j] vs.toArray[j] (Da.eq (ds.getD j<|.s .non)<|es.getD j<|.s .non):=by
 intro j h1 h2;have C:=px.length;have T:=py.length;have l3:=I.length;have l4:=J.length;rw[Aw] at h1 h2;have U:xs[j]?=some xs[j]:=Al (by lia);have g:ys[j]?=some ys[j]:=Al (by lia);have l:ds[j]?=some ds[j]:=Al (by lia);have o:es[j]?=some es[j]:=Al (by lia);have r:us[j]?=some us[j]:=Al (by lia);have t:vs[j]?=some vs[j]:=Al (by lia);rw[Bw,Bw,l,o];exact p (ET px U l) (ET py g o) (ET I U r)<|ET J g t
def GQ(ne:Bool)(A:Around)(s:Vu)(u v:Vt)(k:Bool):Prop:=match ne with
 |true=>SeqAt.RcNeAt A s u v<|!k
 |false=>SeqAt.RcAt A s u v k
def pK(ne:Bool){a b:Addr}{ys:Vz}{ds es:List Da}(I:qw X pins σ H s)(J:A.units<cLine)(l:dS X.K H a xs)(o:dS X.K H b ys)(px:Paired (aM X.K H n) xs ds)(py:Paired (aM X.K H m) ys es)
 (p:∀{x y:V} {d e:Da} {u v:Vt},aM X.K H n x d->aM X.K H m y e->zv x u->zv y v->SeqAt.EqAt A.in1 s u v (Da.eq d e)):GQ ne A s (.ref a) (.ref b) (Da.eqs ds es):=by
 obtain⟨r,U,g,_⟩:=I.tuple l;obtain⟨t,j,ty,_⟩:=I.tuple o;have i:=uA px py U j p;cases ne
 case' false=>have q:=SeqAt.RcAt.tuples g ty J i
 case' true=>have q:=SeqAt.RcNeAt.tuples g ty J i
 all_goals
  rw[Aw,Aw,<-U.length,<-j.length,px.length,py.length,Da.eqs_range] at q;exact q
def tR(ne:Bool){a b:Addr}{ys:Vz}{ds es:List Da}(I:qw X pins σ H s)(g:A.units<cLine)(C:aS X.K H a xs)(T:aS X.K H b ys)(px:Paired (aM X.K H n) xs ds)(py:Paired (aM X.K H m) ys es)
 (ih:∀{x y:V} {d e:Da} {u v:Vt},aM X.K H n x d->aM X.K H m y e->zv x u->zv y v->SeqAt.EqAt A.in1 s u v (Da.eq d e)):GQ ne A s (.ref a) (.ref b) (Da.eqs ds es):=by
 obtain⟨l,o,J,_⟩:=I.list C;obtain⟨p,r,ty,_⟩:=I.list T;have J:=xp J;have ty:=xp ty;have e:=Da.eqs_range ds es;have j:ds.length=l.toArray.size:=by rw[<-px.length,o.length,Aw]
 have t:es.length=p.toArray.size:=by rw[<-py.length,r.length,Aw]
 by_cases U:l.toArray.size=p.toArray.size
 ·have i:=uA px py o r ih;rw[t,<-U,<-j,Nat.min_self,beq_self_eq_true,Bool.and_true] at e;cases ne
  case' false=>have q:=SeqAt.RcAt.lists J ty U g i
  case' true=>have q:=SeqAt.RcNeAt.lists J ty U g i
  all_goals
   rw[<-j,e] at q;exact q
 ·rw[show(ds.length==es.length)=false by rw[j,t];simpa using U,Bool.and_false] at e;rw[<-e];cases ne
  ·exact SeqAt.RcAt.lists_lengths J ty (by simpa using U) g
  ·exact SeqAt.RcNeAt.lists_lengths J ty (by simpa using U) g
def xQ(I:qw X pins σ H s):∀(n:Nat) {m:Nat} {A:Around} {x y:V} {d e:Da} {u v:Vt},A.units+n<cLine->aM X.K H n x d->aM X.K H m y e->zv x u->zv y v->SeqAt.EqAt A s u v (Da.eq d e):=by
 have J:∀{A:Around} {x:V} {u:Vt} {b:Addr} {p:Vz},A.units<cLine->af x=true->zv x u->(dS X.K H b p\/aS X.K H b p)->SeqAt.EqAt A s u (.ref b) false/\SeqAt.EqAt A s (.ref b) u false:=by
  intro A x u b p g f r h;have h':(∃C,s.heap.IsTuple b C)\/∃C,s.heap.IsList b C:=by
   rcases h with h|h
   ·obtain⟨C,_,t,_⟩:=I.tuple h;exact .inl ⟨_,t⟩
   ·obtain⟨C,_,t,_⟩:=I.list h;exact .inr ⟨_,xp t⟩
  cases x with
  |non=>cases r;rcases h' with⟨_,t⟩|⟨_,t⟩;exact⟨.none_tuple t g,.tuple_none t g⟩;exact⟨.none_list t g,.list_none t g⟩
  |bl k=>cases r;rcases h' with⟨_,t⟩|⟨_,t⟩;exact⟨.bool_tuple k t g,.tuple_bool k t g⟩;exact⟨.bool_list k t g,.list_bool k t g⟩
  |int k=>obtain⟨tk,rfl⟩:=r;rcases h' with⟨_,t⟩|⟨_,t⟩;exact⟨.int_tuple k tk t g,.tuple_int k tk t g⟩;exact⟨.int_list k tk t g,.list_int k tk t g⟩
  |str k=>obtain⟨tk,rfl⟩:=r;rcases h' with⟨_,t⟩|⟨_,t⟩;exact⟨.str_tuple k tk t g,.tuple_str k tk t g⟩;exact⟨.str_list k tk t g,.list_str k tk t g⟩
  |_=>simp[af] at f
 intro n
 induction n with
 |zero=>
  intro m A x y d e u v g h1 h2 T j;obtain⟨rfl,f⟩:=h1;cases m with
  |zero=>obtain⟨rfl,l⟩:=h2;exact nv T j f l
  |succ m=>
   rcases h2 with⟨rfl,l⟩|⟨b,p,es,rfl,rfl,U,py⟩|⟨b,p,es,rfl,rfl,U,py⟩
   ·exact nv T j f l
   ·cases j;exact(J (by lia) f T<|.inl U).1
   ·cases j;exact(J (by lia) f T<|.inr U).1
 |succ n ih=>
  intro m A x y d e u v g h1 h2 T j;have a2:A.in1.units+n<cLine:=by show A.units+1+n<cLine;lia
  rcases h1 with⟨rfl,f⟩|⟨a,xs,ds,rfl,rfl,o,px⟩|⟨a,xs,ds,rfl,rfl,o,px⟩
  ·cases m with
   |zero=>obtain⟨rfl,l⟩:=h2;exact nv T j f l
   |succ m=>
    rcases h2 with⟨rfl,l⟩|⟨b,p,es,rfl,rfl,U,py⟩|⟨b,p,es,rfl,rfl,U,py⟩
    ·exact nv T j f l
    ·cases j;exact(J (by lia) f T<|.inl U).1
    ·cases j;exact(J (by lia) f T<|.inr U).1
  ·cases T;cases m with
   |zero=>obtain⟨rfl,l⟩:=h2;exact(J (by lia) l j<|.inl o).2
   |succ m=>
    rcases h2 with⟨rfl,l⟩|⟨b,p,es,rfl,rfl,U,py⟩|⟨b,p,es,rfl,rfl,U,py⟩
    ·exact(J (by lia) l j<|.inl o).2
    ·cases j;by_cases a1:a=b
     ·subst a1;cases I.tuple_inj o U;have e:Da.eq (.tup ds) (.tup es)=true:=rQ I (n+1) (m:=m+1) (x:=.ref a) (.inr<|.inl ⟨a,xs,ds,rfl,rfl,o,px⟩)<|.inr<|.inl ⟨a,xs,es,rfl,rfl,U,py⟩;rw[e];exact .same _
     ·exact .of_refs a1<|pK false I (by lia) o U px py λh1 h2 r1 r2=>ih a2 h1 h2 r1 r2
    ·cases j;obtain⟨us,vx,tx,_⟩:=I.tuple o;obtain⟨vs,vy,ty,_⟩:=I.list U;exact .tuple_list tx (xp ty) (by lia)
  ·cases T;cases m with
   |zero=>obtain⟨rfl,l⟩:=h2;exact(J (by lia) l j<|.inr o).2
   |succ m=>
    rcases h2 with⟨rfl,l⟩|⟨b,p,es,rfl,rfl,U,py⟩|⟨b,p,es,rfl,rfl,U,py⟩
    ·exact(J (by lia) l j<|.inr o).2
    ·cases j;obtain⟨us,vx,tx,_⟩:=I.list o;obtain⟨vs,vy,ty,_⟩:=I.tuple U;exact .list_tuple (xp tx) ty (by lia)
    ·cases j;by_cases a1:a=b
     ·subst a1;cases I.list_inj o U;have e:Da.eq (.lst ds) (.lst es)=true:=rQ I (n+1) (m:=m+1) (x:=.ref a) (.inr<|.inr ⟨a,xs,ds,rfl,rfl,o,px⟩)<|.inr<|.inr ⟨a,xs,es,rfl,rfl,U,py⟩;rw[e];exact .same _
     ·exact .of_refs a1<|tR false I (by lia) o U px py λh1 h2 r1 r2=>ih a2 h1 h2 r1 r2
def OB(K:Ah)(k:Nat)(ne:Bool):R2:=λx y H Q=>match x,y with
 |.ref a,.ref b=>∃n m d e,n<=k/\aM K H n (.ref a) d/\aM K H m (.ref b) e/\Q (.bl<|Fz ne<|Da.eq d e) H
 |x,y=>HL x y=true/\Q (.bl<|Fz ne<|decide<|x=y) H
def OC(ne:Bool){k:Nat}(U:X.A.units+k<cLine):wn X (compareOp<|F1 ne) (OB X.K k ne):=by
 intro J s t H x y v u Q I C T h;cases x with
 |ref a=>
  cases y with
  |ref b=>
   obtain⟨n,m,d,e,hn,h1,h2,q⟩:=h;cases C;cases T;have xa:GQ ne X.A s (.ref a) (.ref b) (Da.eq d e)->wpAny (model X.prog X.w) X.A (compareOp (F1 ne) (.ref a)<|.ref b) (EP X J t Q) X.xe s:=λr=>by cases ne<;>exact r X.prog X.w X.xe (EP X J t Q) ⟨.bl _,H,I,rfl,q⟩
   cases n with
   |zero=>exact(jz h1.2).elim
   |succ n=>
    cases m with
    |zero=>exact(jz h2.2).elim
    |succ m=>
     have l:X.A.in1.units+n<cLine:=by show X.A.units+1+n<cLine;lia
     have U:X.A.units<cLine:=by lia
     rcases h1 with⟨_,f⟩|⟨a',xs,ds,e1,rfl,o,px⟩|⟨a',xs,ds,e1,rfl,o,px⟩
     ·exact(jz f).elim
     ·cases e1;rcases h2 with⟨_,f⟩|⟨b',ys,es,g,rfl,j,py⟩|⟨b',ys,es,g,rfl,j,py⟩
      ·exact(jz f).elim
      ·cases g;exact xa<|pK ne I U o j px py λh1 h2 r1 r2=>xQ I n l h1 h2 r1 r2
      ·cases g;obtain⟨us,vx,p,_⟩:=I.tuple o;obtain⟨vs,vy,ty,_⟩:=I.list j;exact xa (by cases ne;exact SeqAt.RcAt.tuple_list p (xp ty) U;exact SeqAt.RcNeAt.tuple_list p (xp ty) U)
     ·cases e1;rcases h2 with⟨_,f⟩|⟨b',ys,es,g,rfl,j,py⟩|⟨b',ys,es,g,rfl,j,py⟩
      ·exact(jz f).elim
      ·cases g;obtain⟨us,vx,p,_⟩:=I.list o;obtain⟨vs,vy,ty,_⟩:=I.tuple j;exact xa (by cases ne;exact SeqAt.RcAt.list_tuple (xp p) ty U;exact SeqAt.RcNeAt.list_tuple (xp p) ty U)
      ·cases g;exact xa<|tR ne I U o j px py λh1 h2 r1 r2=>xQ I n l h1 h2 r1 r2
  |_=>exact HN ne J s t H _ _ v u Q I C T h
 |_=>cases y<;>exact HN ne J s t H _ _ v u Q I C T h
def Ih{c:Addr}(I:Gl X x)(J:X.mg x=some (.ref c))(hd:Fb x:=by decide):PE X (.Name x pos) (tC<|.ref c):=LX I J (v:=.ref c) rfl hd
def OD{T:Vy}(I:Gl X x)(J:X.mg x=none)(U:bootBuiltins x=some (.type T))(g:x ≠ "__name__" := by decide)(hd:Fb x:=by decide):PE X (.Name x pos) (tC<|.ty T):=LY I J U (v:=.ty T) rfl g hd
structure Cal(P:Vv)(w:Vw)(K:Ah)(mg:Vf)(base:Vx)(k:Nat)(x:Str)(ps:Vl)(sp:Sp):Prop where
 ex:∃f fd,bP P w K mg base CX0 k f fd ps sp/\dM K fd ps []/\PySem.W.keepIn K (.ref f)=true/\mg x=some (.ref f)
def OE{k:Nat}{t:TA}{p:Pos}(c:Cal X.prog X.w X.K X.mg X.base k x ps sp)(U:ww k X.A)(g:Gl X x)(j:PA X (e::es) t)(I:Fb x:=by decide)
 (l:E8 e es X:=by rfl) (J:E9 pos es X:=by rfl):PE X (.Call (.Name x p) (e::es) [] pos) (HR sp [] E0 t):=by
 obtain⟨f,fd,F,b,o,m⟩:=c.ex;exact Nz F U g m o b .nil Oq j I l J
theorem Cal.mono{P:Vv}{w:Vw}{K:Ah}{k:Nat}(c:Cal P w K mg base j x ps sp)(h:j<=k):Cal P w K mg base k x ps sp:=by obtain⟨f,fd,F,b,I,m⟩:=c.ex;exact⟨f,fd,F.mono h,b,I,m⟩
end L2
variable {ds:List L2.Da}
namespace L2
open PySem PySem.Spec PyProof.Rows
def nJ(env:Env):List (Str×NameKind)->List (Str×Addr)->List (Str×Addr)
 |[],cs=>cs
 |(n,k)::r,cs=>nJ env r<|if k==.free then(n,(env.cells.lookup n).getD 0)::cs else cs
def fO(scope:Scope)(env:Env):List (Str×Addr):=nJ env scope.names []
theorem ut{env:Env}:∀{names:List<|Str×NameKind} {cs:List<|Str×Addr} {p:Str×Addr},p∈nJ env names cs->p∈cs\/((p.1,NameKind.free)∈names/\p.2=(env.cells.lookup p.1).getD 0)
 |[],_,_,h=>.inl h
 |(n,k)::r,cs,p,h=>by
  rcases ut (names:=r) h with q|⟨q,e⟩
  ·by_cases I:(k==NameKind.free)=true
   ·rw[AA I] at q;rcases Am.mp q with rfl|q
    ·have:k=.free:=by simpa using I
     exact .inr ⟨by rw[this];exact Aj,rfl⟩
    ·exact .inl q
   ·rw[Ay I] at q;exact .inl q
  ·exact .inr ⟨Ab _ q,e⟩
theorem uq{env:Env}{x:Str}:∀{names:List<|Str×NameKind} {cs:List<|Str×Addr},((∃c,(x,c)∈cs)\/(x,NameKind.free)∈names)->∃c,(x,c)∈nJ env names cs
 |[],_,.inl h=>h
 |[],_,.inr h=>by simp at h
 |(n,k)::r,cs,h=>by
  refine uq (names:=r) ?_;rcases h with⟨c,h⟩|h
  ·left;by_cases I:(k==NameKind.free)=true
   ·rw[AA I];exact⟨c,Ab _ h⟩
   ·rw[Ay I];exact⟨c,h⟩
  ·rcases Am.mp h with e|h
   ·left;injection e with J U
    subst J;subst U;exact⟨_,Aj⟩
   ·exact .inr h
theorem fw{x:Str}:∀{l:List<|Str×Addr} {c:Addr},(x,c)∈l->∃c',l.lookup x=some c'
 |(n,d)::r,c,h=>by
  rw[BG];cases I:x==n with
  |true=>exact⟨d,rfl⟩
  |false=>
   rcases Am.mp h with e|h
   ·injection e with J _;subst J;simp at I
   ·exact fw h
def lO(h:∀n,(n,NameKind.free)∈scope.names->∃c,env.cells.lookup n=some c):closureFor scope env=pure (fO scope env):=by
 unfold closureFor fO;have key:∀(names:List<|Str×NameKind) (I:List<|Str×Addr),(∀n,(n,NameKind.free)∈names->∃c,env.cells.lookup n=some c)->
  (forIn names I λx (r:List<|Str×Addr)=>(match x with|(name,kind)=>if kind==NameKind.free then do let a <-cellOf env name;pure (ForInStep.yield<|(name,a)::r) else pure (ForInStep.yield r):Sem<|ForInStep<|List<|Str×Addr))=pure (nJ env names I):=by
  intro names
  induction names with
  |nil=>intro I _;rfl
  |cons p r o=>
   intro I J;obtain⟨n,k⟩:=p;rw[Cq];cases U:k==NameKind.free with
   |true=>
    have g:k=.free:=by simpa using U
    subst g;obtain⟨c,t⟩:=J n Aj;have e:cellOf env n=pure c:=by unfold cellOf;rw[t]
    simp only[beq_self_eq_true,if_true,e];have j:nJ env ((n,NameKind.free)::r) I=nJ env r ((n,c)::I):=by show nJ env r _=_;rw[t];rfl
    rw[j];exact o ((n,c)::I) λm l=>J m<|Ab _ l
   |false=>
    simp only[U,BZ,if_false];have j:nJ env ((n,k)::r) I=nJ env r I:=by show nJ env r (if (k==NameKind.free)=true then _ else _)=_;rw[U];rfl
    rw[j];exact o I λm l=>J m<|Ab _ l
 exact(BM (· >>= pure)<|key scope.names [] h)
theorem aH{env:Env}{x:Str}:∀{names:List<|Str×NameKind},
 (names.map λ(n,k)=>if (k==NameKind.free&&env.scope.kind==.function&&env.kindOf n==some .cell) then(n,NameKind.cell) else(n,k)).lookup x
  = (names.lookup x).map λk=>if (k==NameKind.free&&env.scope.kind==.function&&env.kindOf x==some .cell) then NameKind.cell else k
 |[]=>rfl
 |(n,k)::r=>by
  have g:=@aH env x r;show List.lookup x ((if (k==NameKind.free&&env.scope.kind==.function&&env.kindOf n==some .cell)=true then(n,NameKind.cell) else(n,k))::_)=_;cases J:x==n with
  |true=>
   have U:x=n:=by simpa using J
   subst U;by_cases I:(k==NameKind.free&&env.scope.kind==.function&&env.kindOf x==some .cell)=true
   ·rw[AA I];simp only[BG,beq_self_eq_true,Option.map_some];rw[AA I]
   ·rw[Ay I];simp only[BG,beq_self_eq_true,Option.map_some];rw[Ay I]
  |false=>
   by_cases I:(k==NameKind.free&&env.scope.kind==.function&&env.kindOf n==some .cell)=true
   ·rw[AA I];simp only[BG,J];exact g
   ·rw[Ay I];simp only[BG,J];exact g
def Cx.comp(X:Cx)(scope:Scope)(T:Vl)(C:Addr)(fp:List Addr)(s₀:Vu)(H₀:Hp):Cx:=
 {X with N:=X.N++T,s₀:=s₀,H₀:=H₀,env:=compEnvC scope (fO scope X.env) C X.env,outer:=X.stack,ex:=fp,fn:=λ_=>false,xe:=λ_ _=>False}
structure jh(X:Cx)(scope:Scope):Prop where
 kind:scope.kind=.function
 nocell:∀y∈scope.names,y.2≠.cell
 names:∀y∈scope.names,y.2=.local->scope.names.lookup y.1=some .local
 free:∀n,scope.names.lookup n=some .free->X.env.kindOf n=some .cell\/X.env.kindOf n=some .free
 freeM:∀n,(n,NameKind.free)∈scope.names->X.env.kindOf n=some .cell\/X.env.kindOf n=some .free
 apart:∀x∈X.N,scope.names.lookup x≠some .local
def jh.clo(S:jh X scope)(I:qw X pins σ H s):closureFor scope X.env=pure (fO scope X.env):=
 lO λn h=>I.ok.has n<|S.freeM n h
def jh.cl_old(S:jh X scope)(I:qw X pins σ H s){c:Addr}(h:(fO scope X.env).lookup x=some c):X.env.cells.lookup x=some c:=by
 rcases ut (BI h) with q|⟨q,e⟩
 ·simp at q
 ·obtain⟨d,hd⟩:=I.ok.has x<|S.freeM x q;have J:c=(X.env.cells.lookup x).getD 0:=e;rw[hd] at J ⊢;rw[J];rfl
def jh.cl_has(_:jh X scope)(h:scope.names.lookup x=some .free):∃c,(fO scope X.env).lookup x=some c:=by obtain⟨c,I⟩:=uq (env:=X.env) (names:=scope.names) (cs:=[]) (x:=x)<|.inr<|BI h;exact fw I
theorem jh.kindOf(S:jh X scope)(h:(compEnvC scope (fO scope X.env) C X.env).kindOf x=some .cell\/(compEnvC scope (fO scope X.env) C X.env).kindOf x=some .free):scope.names.lookup x=some .free:=by
 have e:(compEnvC scope (fO scope X.env) C X.env).kindOf x=(scope.names.lookup x).map λk=>if (k==NameKind.free&&X.env.scope.kind==.function&&X.env.kindOf x==some .cell) then NameKind.cell else k:=aH
 rw[e] at h;cases I:scope.names.lookup x with
 |none=>rw[I] at h;rcases h with h|h<;>cases h
 |some k=>
  rw[I] at h;cases k with|free=>rfl|cell=>exact absurd rfl (S.nocell _<|BI I)|_=>rcases h with h|h<;>cases h
def jh.vis(S:jh X scope)(U:x∈X.N)(h:y_ (compEnvC scope (fO scope X.env) C X.env).scope x):scope.names.lookup x=some .free:=by
 rcases h with h|h|h
 ·exfalso;have e:(compEnvC scope (fO scope X.env) C X.env).kindOf x=(scope.names.lookup x).map λk=>if (k==NameKind.free&&X.env.scope.kind==.function&&X.env.kindOf x==some .cell) then NameKind.cell else k:=aH
  have I:(compEnvC scope (fO scope X.env) C X.env).kindOf x=some .local:=h;rw[e] at I;cases J:scope.names.lookup x with
  |none=>rw[J] at I;cases I
  |some k=>
   rw[J] at I;have I:(if (k==NameKind.free&&X.env.scope.kind==.function&&X.env.kindOf x==some .cell)=true then NameKind.cell else k)=.local:=Be I;split at I
   ·cases I
   ·subst I;exact S.apart x U J
 ·exact S.kindOf (C:=C)<|.inl h
 ·exact S.kindOf (C:=C)<|.inr h
def jh.back(S:jh X scope)(h:scope.names.lookup x=some .free):(compEnvC scope (fO scope X.env) C X.env).kindOf x=some .cell\/(compEnvC scope (fO scope X.env) C X.env).kindOf x=some .free:=by
 have e:(compEnvC scope (fO scope X.env) C X.env).kindOf x=(scope.names.lookup x).map λk=>if (k==NameKind.free&&X.env.scope.kind==.function&&X.env.kindOf x==some .cell) then NameKind.cell else k:=aH
 rw[e,h];show some (if _ then _ else _)=_\/some (if _ then _ else _)=_;split
 ·exact .inl rfl
 ·exact .inr rfl
def PF(X:Cx)(mR:Vm)(t:TT):Prop:=
 ∀(pins:List<|Addr×Obj) (s:Vu) (σ:St) (H:Hp) (Q:Bool->Hp->Prop),qw X pins σ H s->t σ H Q->
  wpAny (model X.prog X.w) X.A (forIn mR true λc r=>if r=true then do let ok <-isTrue c X.env (eval c X.env);pure (ForInStep.yield ok) else pure (ForInStep.yield r)) (TP X pins σ Q) X.xe s
def OF:TT:=λ_ H Q=>Q true H
def OG :PF X [] OF:=λ_ _ _ H _ I h=>Ai ⟨H,I,h⟩
def OH{c:Expr}{t:TT}(hc:PT X c t):PF X [c] t:=by intro J s U H Q I h;rw[Cq];simp only[if_true];refine Aa<|Aa<|aI (hc J s U H Q I h) λb g q=>Ai ?_;exact Ai q
def fY{w:Vw}{R:Result->Vu->Prop}{iter:Expr}{it C:Vt}(I:Nat->Vu->Prop)
 (turn:∀n s,I n s->wpAny (model prog w) A (pyNext it) (λr J=>match r with
  |none=>R (.ok .next) J
  |some v=>wpAny (model prog w) A (letOwnedTupleGo target it v) (λ_ J=>wpAny (model prog w) A (assign target env v) (λ_ l=>
   wpAny (model prog w) A (forIn mR true λc r=>if r=true then do let ok <-isTrue c env (eval c env);pure (ForInStep.yield ok) else pure (ForInStep.yield r)) (λok g=>
    if ok=true then wpAny (model prog w) A (eval nq env) (λx o=>
     wpAny (model prog w) A (call (.builtin "list.append") [C,x]) (λ_ p=>∃m,m<n/\I m p) (λ_ _=>False) o) (λ_ _=>False) g
    else ∃m,m<n/\I m g) (λ_ _=>False) l) (λ_ _=>False) J) (λ_ _=>False) J) (λ_ _=>False) s)
 (n:Nat) (h:I n s):
 codeAny (model prog w) A (.compLoop (.ListComp nq [⟨target,iter,mR,0⟩] scope pos) 0 it C env) R s:=by
 refine codeAny_loop rfl I (λn s hI=>?_) n h;show wpAny _ A ((compTurn (.ListComp nq [⟨target,iter,mR,0⟩] scope pos) 0 it C env).onRaise (λx=>do noteFrame x env;theTreesLotGoes x)) _ _ s;refine wpAny_noted ?_;rw[compTurn_list];refine Aa<|wpAny_standAt<|Aa<|AY (turn n s hI) (λr J U=>?_) λ_ _ j=>j.elim;cases r with
 |none=>exact Ai U
 |some v=>
  refine Aa<|AY U (λ_ J U=>?_) λ_ _ j=>j.elim;refine Aa<|AY U (λ_ l T=>Aa<|AY T (λok g t=>?_) λ_ _ j=>j.elim) λ_ _ j=>j.elim;cases ok with
  |false=>exact Ai ⟨rfl,t⟩
  |true=>
   exact Aa<|Aa<|AY t (λx o a1=>Aa<|AY a1 (λ_ p a2=>Ai<|Ai ⟨rfl,a2⟩) λ_ _ j=>j.elim) λ_ _ j=>j.elim
def GR(n:Nat)(wi:TI)(g:TG)(tc:TT)(te:TE):TE:=λσ H Q=>wi σ H λJ H1=>∃W:Nat->Nat->Vz->Hp->Prop,(∃m,W 0 m [] H1)/\∀i m ys H,W i m ys H->
 (J.stop i H/\ys.length<=sizeLine/\∀D,H D=none->Q (.ref D) (upd H D<|.lst ys))\/
 (J.go i H/\ys.length<sizeLine/\∀x H',J.yld i H x H'->g x (σ++List.replicate n none) H' λI H2=>tc I H2 λb j=>
  if b=true then te I j λy l=>∃U,U<m/\W (i+1) U (ys++[y]) l else ∃U,U<m/\W (i+1) U ys j)
def sh(g:TG)(n k:Nat):Prop:=∀(σ:St),σ.length=n->∀x H Q,g x (σ++List.replicate k none) H Q->
 g x (σ++List.replicate k none) H λI H2=>((I.length=n+k/\∀(i:Nat) v,(σ++List.replicate k none)[i]?=some (some v)->I[i]?=some (some v))/\Q I H2)
section
variable {T:Vl}{iter:Expr}{g:TG}{te:TE}
def ltN{b:Addr}{o:Obj}(e:h.get? b=some o):@LT.lt Nat instLTNat b h.objs.size:=wh e
def vD{a b:Addr}(h:@Ne Nat a b):a≠b:=h
def r_{a b:Addr}(h:@LE.le Nat instLENat a b):a<=b:=h
def OI(eH:Vi)(n:Nat)(u:Vt):∃I,Obj.mapSeq (·.push u) {cls:=.type "list",data:=.seq eH.toArray n}=({cls:=.type "list",data:=.seq (eH++[u]).toArray I}:Obj):=
 ⟨_,by simp[Obj.mapSeq];rfl⟩
def wM{w:Vw}(I:s.heap.get? D=some {cls:=.type "list",data:=.seq eH.toArray n})
 (hz:eH.length<=sizeLine) (h:∀h' J,Heap.SameBut D s.heap h'->h'.get? D=some {cls:=.type "list",data:=.seq (eH++[u]).toArray J}->Q .none {s with heap:=h'}):
 wpAny (model prog w) A (call (.builtin "list.append") [.ref D,u]) Q E s:=by
 have g:s.heap.IsList D eH.toArray:=⟨_,I,rfl,n,rfl⟩;refine wpAny_call_entry slot_list_append g.typeIs entry_list_append ?_<|args_list_append _ _;show wpAny _ _ (updateSeq D (·.push u) >>= λ_=>ret .none) _ _ s;refine Aa ?_;obtain⟨J,U⟩:=OI eH n u;refine wpAny_updateSeq (f:=(·.push u)) I rfl (Ai ⟨.none,rfl,h _ J (yp ..) ?_⟩) (by rw[Aw];exact hz) (by rw[Bp,Aw];exact CY hz);rw[<-U];exact Bs _ I (by rw[U];rfl)
theorem nr{Q:VK}{c3:Vt}{I:Vu}{RR:Vt->Addr->Result->Vu->Prop}
 (S:jh X scope) (hc:X.calm=true)
 (hg:∀C fp s₀ H₀,PG (X.comp scope T C fp s₀ H₀) target g) (di:sh g X.N.length T.length) (hf:∀C fp s₀ H₀,PF (X.comp scope T C fp s₀ H₀) mR tc) (he:∀C fp s₀ H₀,PE (X.comp scope T C fp s₀ H₀) nq te)
 (h:Gy X pins σ target (λJ H1=>∃W:Nat->Nat->Vz->Hp->Prop,(∃m,W 0 m [] H1)/\∀i m ys H,W i m ys H->
  (J.stop i H/\ys.length<=sizeLine/\∀D,H D=none->Q (.ref D) (upd H D<|.lst ys))\/
  (J.go i H/\ys.length<sizeLine/\∀x H',J.yld i H x H'->g x (σ++List.replicate T.length none) H' λc4 H2=>tc c4 H2 λb H3=>
   if b=true then te c4 H3 λy H4=>∃m',m'<m/\W (i+1) m' (ys++[y]) H4 else ∃m',m'<m/\W (i+1) m' ys H3)) c3 I)
 (dj:∀D C s' H' m',qw X pins σ H' s'->lW X pins H' C->s'.heap.Ns C m'->Q (.ref D) H'->RR (.ref D) C (.ok .next) s'):
 wpAny (model X.prog X.w) X.A (newList []) (λcb av=>wpAny (model X.prog X.w) X.A (newFunctionEnv scope X.env.globals (fO scope X.env) [] X.env.qual none .none<|some X.env) (λbf cc=>
  codeAny (model X.prog X.w) X.A (.compStart (.ListComp nq [⟨target,iter,mR,0⟩] scope pos) 0 c3 cb {bf with scope:=relabel scope X.env}) (RR cb bf.locals) cc) E av) E I:=by
 obtain⟨it,fp,tn,J,H2,rfl,U,Tn,bg,f2,W,⟨m0,w0⟩,turn⟩:=h;refine Bu (wpAny_newFunctionEnv S.nocell (by intro y hy;simp at hy) (λaR al t=>?_) S.kind);dsimp only at al t ⊢;generalize bh:I.heap.push {cls:=.type "list",dict:=none,data:=.seq ([]:Vi).toArray}=G at al t ⊢;have hC:G.objs.size=I.heap.objs.size+1:=by rw[<-bh,Fg]
 obtain⟨D,eD⟩:∃D,I.heap.objs.size=D:=⟨_,rfl⟩;obtain⟨C,eC⟩:∃C,G.objs.size=C:=⟨_,rfl⟩;rw[eD] at hC ⊢;rw[eC] at hC al t ⊢;have bi:D≠C:=by lia
 have old:∀b o,I.heap.get? b=some o->aR.get? b=some o:=λb o e=>by have j:=ltN e;exact t.extBut b o (vD (by lia))<|vb _<|bh▸vb _ e
 have ck:aR.get? D=some {cls:=.type "list",data:=.seq ([]:Vi).toArray 0}:=by refine t.extBut _ _ bi<|vb _ ?_;rw[<-bh,<-eD];exact xT _ rfl
 have bj:∀b∈fp,@LT.lt Nat instLTNat b I.heap.objs.size:=λb j=>by obtain⟨o,e,_⟩:=Tn.obj _ _ bg b j;exact ltN e
 have cm:@LT.lt Nat instLTNat X.env.locals I.heap.objs.size:=U.lt;have eg:X.s₀.heap.objs.size<=I.heap.objs.size:=U.sz;have HD:H2 D=none:=U.hok.fresh<|r_ (by exact vY);have HC:H2 C=none:=U.hok.fresh<|r_ (by lia);have dp:∀b:Addr,@LE.le Nat instLENat I.heap.objs.size b->b∉br X.stack:=λb j z=>by
  have q:=U.stkSub b z;rcases Am.mp q with q|q
  ·rw[<-q] at cm;exact absurd cm<|Et.mpr j
  ·exact U.nofs j q
 have ba:∀x c,X.env.cells.lookup x=some c->@LT.lt Nat instLTNat c I.heap.objs.size:=λx c e=>by obtain⟨v,q⟩:=U.cell x c e;exact q.lt
 let X':Cx:=X.comp scope T C fp I H2
 have bn:X'.Ok:={
  mod:=U.ok.mod,kind:=S.kind,glob:=U.ok.glob,blt:=U.ok.blt
  above:=r_ (by show @LE.le Nat instLENat I.heap.objs.size C;lia)
  inj:=λx y c h1 h2=>U.ok.inj x y c (S.cl_old U h1) (S.cl_old U h2)
  has:=λx hx=>S.cl_has (S.kindOf hx)
  cab:=λx c hx=>absurd (show false=true from hx) (by simp)
  hd:=U.ok.hd,frames:=U.ok.frames,stk:=.inl rfl
  exf:=λb j=>⟨vD (by have:=bj b j;show @Ne Nat b C;lia),λx c e=>(f2 b j).2.2.2.2.1 x c<|S.cl_old U e⟩
  bs:=U.bs,bsz:=AW U.ok.bsz U.sz
  noex:=λb o e j=>by
   obtain⟨e0,n0⟩:=U.ok.bs b o e;rcases (f2 b j).2.2.2.1 with q|q
   ·exact U.ok.noex b o e q
   ·have q':@LE.le Nat instLENat X.s₀.heap.objs.size b:=q;have:=ltN e0;lia
  exfs:=λb j z=>by
   rcases Am.mp (U.stkSub b z) with q|q
   ·exact(f2 b j).2.1 q
   ·exact(f2 b j).2.2.1 q
  funs:=U.stack,frf:=U.stkFree}
 have I4:∀tk,0<tk->qw X' pins (σ++List.replicate T.length none) H2 {I with heap:=aR,toks:=tk}:=λtk dr=>{
  tk:=dr,ok:=bn,os:=rfl,bare:=U.bare,base:=Un.kept old
  loc:=⟨_,al,λi x v e1 e2 e3=>by
   have hi:i<σ.length:=by
    by_cases hi:i<σ.length
    ·exact hi
    ·rw[AN (by exact F4),Dj] at e2;split at e2<;>cases e2
   rw[AE hi] at e2;have dv:i<X.N.length:=by rw[<-U.len];exact hi
   have cn:X.N[i]?=some x:=by have:(X.N++T)[i]?=some x:=e1;rw[AE dv] at this;exact this
   have bp:=S.vis (Az cn) e3;obtain⟨m,hn,hl⟩:=U.loc;have hk:=S.free x bp;obtain⟨u,r,l⟩:=hl i x v cn e2<|.inr hk;refine⟨u,r,.inr ⟨S.back bp,?_⟩⟩;rcases l with⟨l,_⟩|⟨_,c,e,z⟩
   ·rw[l] at hk;rcases hk with q|q<;>cases q
   ·obtain⟨c',e'⟩:=S.cl_has bp;have cq:=S.cl_old U e';rw[e] at cq;cases cq;exact⟨c,e',z.keeps old⟩⟩
  cell:=λx c e=>by obtain⟨v,z⟩:=U.cell x c<|S.cl_old U e;exact⟨v,z.keeps old⟩
  free:=HC,freeC:=λx c e=>U.freeC x c (S.cl_old U e)
  pin:=λp hp=>by
   obtain⟨a,b,c,d,e⟩:=U.pin p hp;have dG:=ltN a;refine⟨old _ _ a,b,vD (by show @Ne Nat p.1 C;lia),λz=>?_,e⟩;rcases Am.mp (U.stkSub _ z) with q|q
   ·exact c q
   ·exact d q
  hok:=U.hok.kept old
  len:=by show(σ++_).length=(X.N++T).length;rw[Ad,Ad,Co,U.len]}
 have bq:∀(ax:List<|Addr×Obj) (H':Hp),(∀p∈ax,p∈pins\/p.1=D)->(∀b∈fp,H' b=none)->∀b∈fp,lW X' ax H' b:=λax H' hp hn b j=>by
  obtain⟨_,q1,q2,q3,q4,q5⟩:=f2 b j;have dG:=bj b j;refine⟨hn b j,vD (by show @Ne Nat b C;lia),bn.exfs b j,.inl j,(bn.exf b j).2,λp dH=>?_⟩;rcases Ak.mp dH with z|z
  ·exact q5 p<|Ao _ z
  ·rcases hp p z with z|z
   ·exact q5 p<|Ag _ z
   ·rw[z];exact vD (by lia)
 have stay:Tn.keep=Tn.keep:=rfl;have loop:∀av:Vu,av={I with heap:=aR,toks:=I.toks+([]:List<|Str×Vt).length}->
  codeAny (model X.prog X.w) X.A (.compLoop (.ListComp nq [⟨target,iter,mR,0⟩] scope pos) 0 (.ref it) (.ref D) X'.env) (RR (.ref D) C) av:=by
  rintro av rfl;refine fY (λn s'=>∃i bS H' ys au k,qw X' pins bS H' s'/\(bS.length=X.N.length+T.length/\∀(i:Nat) v,(σ++List.replicate T.length none)[i]?=some (some v)->bS[i]?=some (some v))/\
   s'.heap.get? D=some {cls:=.type "list",data:=.seq (au:Vi).toArray k}/\zu ys au/\H' D=none/\tn i s'.heap/\(∀b∈fp,H' b=none)/\W i n ys H') ?_ m0
   ⟨0,_,H2,[],[],0,I4 _ U.tk,⟨by rw[Ad,Co,U.len],λ_ _ e=>e⟩,ck,.nil,HD,Tn.keep _ _ _ bg λb _ o e=>old b o e,λb j=>(f2 b j).1,w0⟩
  rintro n s3 ⟨i,ej,H3,ys,au,k,I3,⟨dV,e4⟩,e5,bc,bd,cv,cw,w3⟩;have ef:au.length=ys.length:=bc.length.symm;have cy:D∉X'.fs:=dp D (by exact vY);have cz:D≠X'.env.locals:=bi;have cP:qw X' (pins++[(D,{cls:=.type "list",data:=.seq au.toArray k})]) (σ++List.replicate T.length none) H3 s3:=
   (I3.weak (by rw[dV,Ad,Co,U.len]) e4).pins_of λp hp=>by
    rcases Ak.mp hp with z|z
    ·exact I3.pin p<|Ag _ z
    ·have e:=An.mp z;subst e;exact⟨e5,bd,cz,cy,λv z=>by cases z⟩
  have aL:∀p∈pins++[(D,({cls:=.type "list",data:=.seq au.toArray k}:Obj))],p∈pins\/p.1=D:=λp hp=>by
   rcases Ak.mp hp with z|z
   ·exact .inl z
   ·exact .inr (by rw[An.mp z])
  rcases turn i n ys H3 w3 with⟨stop,hz,qn⟩|⟨go,hz,step⟩
  ·refine aI (Tn.done X' rfl rfl rfl hc i _ s3 _ H3 _ cP (bq _ H3 aL cw) cv stop) λr s4 ⟨hr,ac⟩=>?_;subst hr;obtain⟨e6,ek,_⟩:=ac.pin (D,_)<|Ag _<|Ag _ Aj;obtain⟨m',e7,_⟩:=ac.loc;have un:Un (br X.stack) fp H2 (upd H3 D<|.lst ys) I.heap s4.heap:={
    keep:=ac.base.keep,slot:=ac.base.slot
    free:=λb o e n hx=>by have:=ltN e;rw[ql<|vD (by lia)];exact ac.base.free b o e n hx
    there:=ac.base.there
    tups:=λb xs e=>by rw[ql (λz=>by rw[z,HD] at e;cases e)];exact ac.base.tups b xs e
    frzs:=λb o u e=>by rw[ql (λz=>by rw[z,HD] at e;cases e)];exact ac.base.frzs b o u e
    tbls:=λb ps e=>by rw[ql (λz=>by rw[z,HD] at e;cases e)];exact ac.base.tbls b ps e}
   have e8:dQ X.prog X.w (upd H3 D<|.lst ys) s4.heap:=λb u e=>by
    by_cases j:b=D
    ·subst j;rw[zg] at e;cases e;exact⟨hz,au,k,bc,e6⟩
    ·rw[ql j] at e;refine(ac.hok b u e).stay (λ_ _ _ q=>q) (λc q=>?_) λc xs q=>?_
     ·rw[ql<|zo q bd];exact q
     ·rw[ql<|zo q bd];exact q
   have I5:qw X pins σ (upd H3 D<|.lst ys) s4:=U.call' (ch:=fp) ac.os un e8 ac.bare λb j=>⟨(f2 b j).2.2.2.1,(f2 b j).2.1,(f2 b j).2.2.2.2.1,(f2 b j).2.2.2.2.2⟩;refine dj D C s4 _ m' I5 ?_ e7<|qn D bd;refine⟨by rw[ql<|AG bi];exact ac.free,?_,?_,.inr ?_,λx c e=>?_,λp hp=>?_⟩
   ·exact vD (by lia)
   ·exact U.nofs<|r_ (by lia)
   ·exact r_ (by lia)
   ·exact vD (by have:=ba x c e;lia)
   ·exact vD (by have:=ltN (U.pin p hp).1;lia)
  ·refine aI (Tn.item X' rfl rfl rfl hc i _ s3 _ H3 _ cP (bq _ H3 aL cw) cv go) λr s4 ⟨u,hr,h4⟩=>?_;subst hr;refine aI h4 λ_ s5 ⟨x,H5,I5,r5,y5,c2,ec⟩=>?_;have ed:=I5.pinned (bq _ H5 aL ec)<|Tn.obj _ _ c2;refine AY ((hg C fp I H2) _ s5 _ H5 x u _ ed r5<|di σ U.len x H5 _<|step x H5 y5) (λ_ s6 ⟨bb,H6,I6,⟨d0,dc⟩,q6⟩=>?_) λ_ _ z=>z;refine AY ((hf C fp I H2) _ s6 bb H6 _ I6 q6) (λb s7 ⟨H7,I7,q7⟩=>?_) λ_ _ z=>z;have xa:∀{s8:Vu} {H8:Hp} (I8:qw X' ((pins++[(D,{cls:=.type "list",data:=.seq au.toArray k})])++mZ fp s5.heap) bb H8 s8),tn (i+1) s8.heap/\(∀b∈fp,H8 b=none)/\s8.heap.get? D=some {cls:=.type "list",data:=.seq au.toArray k}/\H8 D=none/\qw X' pins bb H8 s8:=λ{s8 H8} I8=>by
    refine⟨Tn.keep _ _ _ c2 λb j o e=>(I8.pin (b,o)<|Ag _<|Ag _<|dF j e).1,λb j=>?_,?_,?_,I8.unpinned.unpinned⟩
    ·obtain⟨o,e,d⟩:=Tn.obj _ _ c2 b j;exact(I8.pin (b,o)<|Ag _<|Ag _<|dF j e).2.1
    ·exact(I8.pin (D,_)<|Ag _<|Ao _<|Ag _ Aj).1
    ·exact(I8.pin (D,_)<|Ag _<|Ao _<|Ag _ Aj).2.1
   cases b with
   |false=>
    rw[Ay AQ] at q7 ⊢;obtain⟨m',hm,w7⟩:=q7;obtain⟨a1,a2,a3,a4,a5⟩:=xa I7;exact⟨m',hm,i+1,bb,H7,ys,au,k,a5,⟨d0,dc⟩,a3,bc,a4,a1,a2,w7⟩
   |true=>
    rw[AA rfl] at q7 ⊢;refine AY ((he C fp I H2) _ s7 bb H7 _ I7 q7) (λv s8 ⟨y,H8,I8,r8,m',hm,w8⟩=>?_) λ_ _ z=>z;obtain⟨a1,a2,a3,a4,a5⟩:=xa I8;refine wM a3 (by lia) λh9 k9 de ee=>?_;have nD:∀b∈fp,b≠D:=λb j=>vD (by have:=bj b j;lia);refine⟨m',hm,i+1,bb,H8,ys++[y],au++[v],k9,?_,⟨d0,dc⟩,ee,bc.append<|.cons r8 .nil,a4,Tn.keep _ _ _ a1 λb j o e=>(de.2 b<|nD b j).trans e,a2,w8⟩;exact a5.turned (t':=s8.toks) (it:=D) (λb o j e=>(de.2 b j).trans e) a4 cz (.inr (r_ (by show @LE.le Nat instLENat I.heap.objs.size D;exact vY))) (λx c e=>vD (by have:=ba x c<|S.cl_old U e;lia)) λp hp=>vD (by have:=ltN (U.pin p hp).1;lia)
 exact codeAny_compStart_list (loop _ rfl)<|Tn.self _ _ _ _ _ (Tn.keep _ _ _ bg λb _ o e=>old b o e)<|loop _ rfl
end
section
variable {T:Vl}{iter:Expr}{g:TG}{te:TE}
def OJ(T:Vl)(S:jh X scope)(hc:X.calm=true)(hi:PI X target iter wi)(t:∀C fp s₀ H₀,PG (X.comp scope T C fp s₀ H₀) target g)(j:sh g X.N.length T.length)
 (hf:∀C fp s₀ H₀,PF (X.comp scope T C fp s₀ H₀) mR tc) (he:∀C fp s₀ H₀,PE (X.comp scope T C fp s₀ H₀) nq te)
 (hs:∀x,foldedSetIterable iter X.env x=pure x:=by intro _;rfl):PE X (.ListComp nq [⟨target,iter,mR,0⟩] scope pos) (GR T.length wi g tc te):=by
 intro J s r H Q I h;rw[eval_ListComp];refine wpAny_comprehension_free (use:=none) rfl hs (S.clo I) S.kind S.names<|aI (hi J s r H _ I h) λv s1 h1=>aI h1 λa1 s2 h2=>?_;refine nr (RR:=λl C=>compPost (model X.prog X.w) X.A X.xe none (EP X J r Q) l C) S hc t j hf he h2 ?_;intro D C s' H' m' I' U hn q;exact⟨m',hn,λh' p=>⟨.ref D,H',I'.turned (t':=s'.toks) (it:=C) (λb o hb e=>(p.2 b hb).trans e) U.1 (AG<|AG U.2.1) U.2.2.2.1 U.2.2.2.2.1 U.2.2.2.2.2,rfl,q⟩⟩
theorem OK(T:Vl){px j:Pos}(hN:X.N.Nodup)(l:X.N[i]?=some x)(hx:Loc X.env.scope x)(S:jh X scope)(hc:X.calm=true)(hi:PI X target iter wi)
 (hg:∀C fp s₀ H₀,PG (X.comp scope T C fp s₀ H₀) target g) (p:sh g X.N.length T.length)
 (hf:∀C fp s₀ H₀,PF (X.comp scope T C fp s₀ H₀) mR tc) (he:∀C fp s₀ H₀,PE (X.comp scope T C fp s₀ H₀) nq te)
 (r:swapsWith (.ListComp nq [⟨target,iter,mR,0⟩] scope j) (some<|.Name x px) pos.line X.env=pure true:=by rfl)
 (t:X.fn x=true\/X.env.scope.names.lookup x=some .local:=by first|exact .inl rfl|exact .inr rfl|assumption)
 (hs:∀x,foldedSetIterable iter X.env x=pure x:=by intro _;rfl):PS X (.Assign [.Name x px] (.ListComp nq [⟨target,iter,mR,0⟩] scope j) pos) (Gw (GR T.length wi g tc te)<|mO i):=by
 intro pins s σ H D I h;rw[exec_Assign_Name_used _ _ _ _ r];refine Aa<|wpAny_standAt<|Aa ?_;show wpAny _ X.A (do let _ <-comprehension (.ListComp nq [⟨target,iter,mR,0⟩] scope j) scope X.env _ (newList []) false (eval iter X.env) (some<|assign (.Name x px) X.env)) _ _ s;refine Aa (AY (wpAny_comprehension_free (use:=some<|assign (.Name x px) X.env) (Q:=λ_ U=>SP X pins D .next U) rfl hs (S.clo I) S.kind S.names
  (aI (hi pins s σ H _ I h) λv s1 h1=>aI h1 λac s2 h2=>?_)) (λ_ U hq=>Ai<|Ai hq) λ_ _ e=>e)
 refine nr (RR:=λa1 C=>compPost (model X.prog X.w) X.A X.xe (some<|assign (.Name x px) X.env) (λ_ U=>SP X pins D .next U) a1 C) (pins:=pins) (σ:=σ) (Q:=λx H1=>mO i x σ H1 D.nx) S hc hg p hf he h2 ?_;intro A C U H' m' I' J hn q;show wpAny _ X.A (assign (.Name x px) X.env<|.ref A) _ _ U;refine wpAny_assign_Name<|qK I' hN l hx (v:=.ref A) rfl (λa2 a3 ⟨a,hs,ha⟩ _=>?_) t;have a4:C≠a:=by
  rcases ha with z|z
  ·rw[z];exact J.2.1
  ·exactλe=>J.2.2.2.2.1 x a z e.symm
 exact⟨m',hn.sameBut hs a4,λh' a5=>⟨_,H',a3.turned (t':=a2.toks) (it:=C) (λb o hb e=>(a5.2 b hb).trans e) J.1 J.2.1 J.2.2.2.1 J.2.2.2.2.1 J.2.2.2.2.2,q⟩⟩
end
def aO(outer:Scope)(N:Vl)(I:Scope):Bool:=
 decide (I.kind=.function)&&I.names.all (λp=>decide (p.2≠.cell)&&(decide (p.2≠.local)||decide (I.names.lookup p.1=some .local))&&(decide (p.2≠.free)||(decide (outer.names.lookup p.1=some .cell)||decide (outer.names.lookup p.1=some .free))))
  && N.all (λx=>decide<|I.names.lookup x≠some .local)
def aO.mk{I:Scope}(h:aO X.env.scope X.N I=true):jh X I:=by
 unfold aO at h;rw[Bd,Bd,DB,DB] at h;obtain⟨⟨h1,h2⟩,h3⟩:=h;have g:∀n,(n,NameKind.free)∈I.names->X.env.kindOf n=some .cell\/X.env.kindOf n=some .free:=λn J=>by
  have q:=h2 _ J;simp only[Bd,EC,decide_eq_true_eq] at q;rcases q.2 with z|z
  ·exact absurd rfl z
  ·exact z
 refine⟨of_decide_eq_true h1,λy U=>?_,λy U e=>?_,λn J=>g n<|BI J,g,λx j=>of_decide_eq_true<|h3 x j⟩
 ·have q:=h2 _ U;simp only[Bd,EC,decide_eq_true_eq] at q;exact q.1.1
 ·have q:=h2 _ U;simp only[Bd,EC,decide_eq_true_eq] at q;rcases q.1.2 with z|z
  ·exact absurd e z
  ·exact z
abbrev E5:=@aO.mk
def xD(n:Nat):sh (mO n) n 1:=by
 intro U I x H Q h;refine⟨⟨by simp[I],λi v e=>?_⟩,h⟩;by_cases J:i=n
 ·subst J;rw[AN (by exact vY)] at e;simp[I] at e
 ·rw[A5<|AG J];exact e
def bz:bootBuiltins "isinstance"=some (.builtin "isinstance"):=by decide +kernel
def db:bootBuiltins "tuple"=some (.type "tuple"):=by decide +kernel
def Ii:bootBuiltins "str"=some (.type "str"):=by decide +kernel
def wT:bootBuiltins "int"=some (.type "int"):=by decide +kernel
def vk:bootBuiltins "list"=some (.type "list"):=by decide +kernel
def Ij:bootBuiltins "len"=some (.builtin "len"):=by decide +kernel
def GS{k:Nat}(I:ww k A):A.units+128<cLine:=by have:=I.un;lia
def dN(h:n<=1000):n<=sizeLine:=BK<|pV h
def Cal.of{P:Vv}{w:Vw}{K:Ah}{k:Nat}(F:bP P w K mg base CX0 k f fd ps sp)(b:dM K fd ps [])(I:PySem.W.keepIn K (.ref f)=true)(m:mg x=some (.ref f)):
 Cal P w K mg base k x ps sp:=⟨f,fd,F,b,I,m⟩
def bP.never{P:Vv}{w:Vw}{K:Ah}{k:Nat}(no:∀vs H Q E,¬sp vs H Q E):bP P w K mg base CX0 k f fd ps sp:=
 ⟨λvs H Q E h=>absurd h<|no vs H Q E,λA I s H args J vs Q E _ _ _ _ h=>absurd h<|no vs H Q E⟩
section
variable (K:Ah)(P:Vv)(w:Vw)
end
structure jl(K:Ah)(x:Str)(st:Stmt):Prop where
 ex:∃(f:Addr) (kV kt pm:Vt) (an:Option Addr) (fv ct:Vt),PySem.W.nsIn K mainGlobals x=some (some<|.ref f)/\Fun K x x st f (PySem.W.fnOf x x (k8 st) (x6 st) (z9 st) .none kV kt pm an fv ct)
def def_in{K:Ah}{kV ct:Vt}(a:PySem.W.nsIn K mainGlobals x=some (some<|.ref f))
 (l:K.lookup f=some ⟨oc,od,.func<|PySem.W.fnOf x x (k8 st) (x6 st) (z9 st) .none kV kt pm an fv ct,oi⟩) (c:PySem.W.codeIn K fv x=true) (k:PySem.W.keepIn K (.ref f)=true):jl K x st:=
 ⟨f,kV,kt,pm,an,fv,ct,a,Ot (st:=st) l c k⟩
def jl.use{K:Ah}(D:jl K x st)(X:K.In h)(G:h.Ns mainGlobals mg)
 (I:∀(kV kt pm:Vt) (an:Option Addr) (fv ct:Vt) (us:Vi),us.length=ps.length->bindArgs (PySem.W.fnOf x x (k8 st) (x6 st) (z9 st) .none kV kt pm an fv ct) ⟨us,[]⟩=pure (ps.zip us)):
 ∃f fd,Fun K x x st f fd/\dM K fd ps []/\mg x=some (.ref f):=by
 obtain⟨f,kV,kt,pm,an,fv,ct,a,F⟩:=D.ex;exact⟨f,_,F,dM.all<|I kV kt pm an fv ct,Cf X G a⟩
end L2
namespace Words
open PySem L2
inductive Wd where
 |leaf (t:Bool) (n:Str)
 |node (e:Bool) (l r:Wd)
def kL:Bool->Str
 |false => "plain"
 |true => "turned"
def kN:Bool->Str
 |false => "both"
 |true => "either"
def Wd.turn:Wd->Wd
 |.leaf t n=>.leaf (!t) n
 |.node e l r=>.node (!e) l.turn r.turn
def Wd.depth:Wd->Nat
 |.leaf _ _=>1
 |.node _ l r=>max l.depth r.depth+1
def Wd.leaves:Wd->Nat
 |.leaf _ _=>1
 |.node _ l r=>l.leaves+r.leaves
theorem Wd.leaves_pos:∀w:Wd,1<=w.leaves
 |.leaf _ _=>Ap _
 |.node _ l r=>by have:=Wd.leaves_pos l;show 1<=l.leaves+r.leaves;exact H_
abbrev EU:=@Wd.leaves_pos
theorem Wd.depth_le:∀w:Wd,w.depth<=w.leaves
 |.leaf _ _=>Ap _
 |.node _ l r=>by have:=Wd.depth_le l;have:=Wd.depth_le r;have:=EU l;have:=EU r;show max l.depth r.depth+1<=l.leaves+r.leaves;lia
def rL:Wd->Da
 |.leaf t n=>.tup [.s<|.str<|kL t,.s<|.str n]
 |.node e l r=>.tup [.s<|.str<|kN e,rL l,rL r]
def du(x:Str):Prop:=1<=x.length/\x.length<=8/\∀c∈x.cps.toList,97<=c/\c<=122
def Wd.ok:Wd->Prop
 |.leaf _ n=>du n
 |.node _ l r=>l.ok/\r.ok
theorem Paired.app{α β:Type}{F:α->β->Prop}:∀{xs I:List α} {ys J:List β},Paired F xs ys->Paired F I J->Paired F (xs++I) (ys++J)
 |_,_,_,_,.nil,s=>s
 |_,_,_,_,.cons r t,s=>.cons r<|Paired.app t s
def Paired.getP{F:α->β->Prop}:∀{xs:List α} {ys:List β} {i:Nat} {x:α},Paired F xs ys->xs[i]?=some x->∃y,ys[i]?=some y/\F x y:=by
 intro xs ys i x h
 induction h generalizing i with
 |nil=>intro h;simp at h
 |cons r t I=>
  intro h;cases i with
  |zero=>simp at h;subst h;exact⟨_,rfl,r⟩
  |succ i=>
   obtain⟨y,e,q⟩:=I (i:=i) (by simpa using h);exact⟨y,by simpa using e,q⟩
end Words
namespace L2
open PySem PySem.Spec PyProof.Rows
def gB:bootBuiltins "max"=some (.builtin "max"):=by decide +kernel
def OL:bootBuiltins "bool"=some (.type "bool"):=by decide +kernel
end L2
namespace Words
open PySem L2
def Wd.size:Wd->Nat
 |.leaf _ _=>1
 |.node _ l r=>1+l.size+r.size
theorem Wd.size_eq:∀w:Wd,w.size+1=2*w.leaves
 |.leaf _ _=>rfl
 |.node _ l r=>by have:=Wd.size_eq l;have:=Wd.size_eq r;show 1+l.size+r.size+1=2*(l.leaves+r.leaves);lia
end Words
namespace L2
open PySem PySem.Spec PyProof.Rows
theorem xj.get{P:Vv}{w:Vw}{a:Addr}{o:HO}(x:xj P w H h a o):∃ob,h.get? a=some ob:=by
 cases o with
 |lst J=>obtain⟨_,_,_,_,e⟩:=x;exact⟨_,e⟩
 |tup J=>obtain⟨_,_,_,_,e,_⟩:=x;exact⟨_,e⟩
 |dK I=>obtain⟨_,_,_,_,o,_,_,e,_⟩:=x;exact⟨_,e⟩
 |dT I=>obtain⟨_,_,_,_,o,_,_,e,_⟩:=x;exact⟨_,e⟩
 |set S n=>obtain⟨o,_,_,_,e,_⟩:=x;exact⟨_,e⟩
 |ins C U fs=>obtain⟨_,_,_,e,_⟩:=x;exact⟨_,e⟩
 |own y=>exact x
 |xd fs=>obtain⟨_,⟨_,_,_,e,_⟩,_⟩:=x;exact⟨_,e⟩
 |rng lo g=>obtain⟨_,_,_,e⟩:=x;exact⟨_,e⟩
 |frz ob u=>obtain⟨e,_⟩:=x;exact⟨_,e⟩
 |tbl j=>exact⟨_,show h.get? a=some _ from x⟩
 |met f y=>exact⟨_,show h.get? a=some _ from x⟩
 |ext l=>obtain⟨_,e,_⟩:=x;exact e
def rm(h0 h:Vx)(H:Hp)(a C:Addr)(tr:Option Addr):Prop:=
 h0.get? a=none/\H a=none/\∃I vs a0,h.get? a=some I/\I.cls=.ref C/\I.data=.fields vs/\vs[0]?=some a0/\
  match tr with
  |none=>vs[1]?=some .none
  |some T=>vs[1]?=some (.ref T)/\h0.get? T=none/\H T=none/\T≠a/\∃J ts,h.get? T=some J/\J.data=.fields ts/\ts[3]?=some .none
def ae(a:Addr)(tr:Option Addr)(fs:List Addr):List Addr:=a::(tr.toList++fs)
section
variable {a:Addr}{tr:Option Addr}
def mG{l:List Env}{b:Addr}(h:env∈l)(e:env.frame=some b):b∈br l:=DQ.mpr ⟨env,h,e⟩
def mL(I:qw X pins σ H s)(hs:X.stack=X.env::X.outer)(hx:X.ex=[])(new:X.s₀.heap.get? a=none)(free:H a=none)(j:∀T,tr=some T->X.s₀.heap.get? T=none/\H T=none){a0 fl:Vt}
 (k1:(PySem.W.hideAll s.heap<|ae a tr<|br X.stack).StaysIn h') (k2:h'.FunFrames (PySem.W.hideAll s.heap<|ae a tr<|br X.stack) X.stack) (k3:h'.TracedAtW (PySem.W.hideAll s.heap<|ae a tr<|br X.stack) a (.ref C) a0 fl)
 (k4:∀b o,s.heap.get? b=some o->(∀vs,o.data≠.fields vs)->∃sl,h'.get? b=some {o with slots:=sl}):
 Un X.fs [] X.H₀ H X.s₀.heap h'/\dQ X.prog X.w H h'/\∃T,(∀b o,s.heap.get? b=some o->(∀T0,tr=some T0->b≠T0)->b≠T)/\X.s₀.heap.get? T=none/\H T=none/\T≠a/\∃oe vs oT ts,h'.get? a=some oe/\oe.cls=.ref C/\vs[0]?=some a0/\oe.data=.fields vs/\vs[1]?=some (.ref T)/\h'.get? T=some oT/\oT.data=.fields ts/\ts[3]?=some fl:=by
 have kp:∀b o,s.heap.get? b=some o->b∉ae a tr (br X.stack)->h'.get? b=some o:=λb o e n=>k1 b o<|C4 _ e n;have sl:∀b o,s.heap.get? b=some o->b∈br X.stack->∃sl,h'.get? b=some {o with slots:=sl}:=λb o e J=>by obtain⟨_,l,e',nf⟩:=I.stack.mem J;rw[e] at e';cases e';exact k4 b o e nf
 have p:∀b,b∈ae a tr (br X.stack)->H b=none:=λb J=>by
  rcases Am.mp J with e|J
  ·rw[e];exact free
  ·rcases Ak.mp J with q|q
   ·exact(j b (by simpa using q)).2
   ·exact I.stkFree b q
 have g:∀b o,X.s₀.heap.get? b=some o->b∉X.fs->b∉ae a tr (br X.stack):=λb o e nb J=>by
  rcases Am.mp J with q|J
  ·rw[q,new] at e;cases e
  ·rcases Ak.mp J with q|q
   ·rw[(j b (by simpa using q)).1] at e;cases e
   ·rcases Am.mp (I.stkSub b q) with q|q
    ·exact absurd (AO (wh e) I.ok.above) (by rw[q];exact Cz _)
    ·exact nb q
 have r:∀b,b∈X.fs->b∈br X.stack:=λb J=>by
  rw[hs];unfold br;rw[C5];split
  ·exact J
  ·exact Ab _ J
 have U:∀b:Addr,b∉X.ex:=λb=>by rw[hx];simp
 have a3:dQ X.prog X.w H h':=λb u e=>(I.hok b u e).stay (λc w' hc q=>kp c w' q λhm=>by
  have n:=p c hm;rcases hc with z|z
  ·rw[z,e] at n;cases n
  ·rw[z] at n;cases n) (λ_ q=>q) λ_ _ q=>q
 refine⟨⟨λb o e n J _=>?_,λb o e n J _=>?_,λb o e n _=>I.base.free b o e n<|U b,λb o e _=>?_,I.base.tups,I.base.frzs,I.base.tbls⟩,a3,?_⟩
 ·exact kp b o (I.base.keep b o e n J<|U b)<|g b o e J
 ·obtain⟨z,t⟩:=I.base.slot b o e n J<|U b;obtain⟨z',e2⟩:=sl b _ t<|r b J;exact⟨z',e2⟩
 ·obtain⟨l,t⟩:=I.base.there b o e<|U b;by_cases J:b∈X.fs
  ·obtain⟨z',e2⟩:=sl b _ t<|r b J;exact⟨_,e2⟩
  ·exact⟨l,kp b l t<|g b o e J⟩
 ·obtain⟨al,au,T,oT,ts,av,⟨ax,aL⟩,aR,ba,a4,a1,hT,a5,h3⟩:=k3;have a2:∀o,s.heap.get? T=some o->T∈ae a tr (br X.stack):=λo e=>by
   by_cases q:T∈ae a tr (br X.stack)
   ·exact q
   ·rw[C4 _ e q] at a4;cases a4
  have ac:T∉br X.stack:=λJ=>by obtain⟨_,l,e',nf⟩:=k2.mem J;rw[hT] at e';cases e';exact nf ts a5
  refine⟨T,λb o e ne z=>?_,?_,?_,a1,al,au,oT,ts,av,ax,aL,aR,ba,hT,a5,h3⟩
  ·subst z;rcases Am.mp (a2 o e) with z|z
   ·exact a1 z
   ·rcases Ak.mp z with z|z
    ·exact ne b (by simpa using z) rfl
    ·exact ac z
  ·cases q:X.s₀.heap.get? T with
   |none=>rfl
   |some o=>
    obtain⟨l,t⟩:=I.base.there T o q<|U T;rcases Am.mp (a2 l t) with z|z
    ·exact absurd z a1
    ·rcases Ak.mp z with z|z
     ·rw[(j T (by simpa using z)).1] at q;cases q
     ·exact absurd z ac
  ·cases q:H T with
   |none=>rfl
   |some u=>
    obtain⟨l,t⟩:=(I.hok T u q).get;have:=p T<|a2 l t;rw[q] at this;cases this
def OM{Q:Ve}(I:qw X pins σ H s)(hs:X.stack=X.env::X.outer)(hf:X.env.frame=some X.env.locals)(hx:X.ex=[])(L:rm X.s₀.heap s.heap H a C tr)
 (h:∀h' T,Un X.fs [] X.H₀ H X.s₀.heap h'->dQ X.prog X.w H h'->rm X.s₀.heap h' H a C (some T)->Q () {s with heap:=h'}):wpAny M X.A (leaving X.env<|.ref a) Q E s:=by
 have L0:=L;obtain⟨new,free,oe,vs,b0,g,hc,hd,h0,J⟩:=L0;have j:s.heap.FunFrames (PySem.W.hideAll s.heap<|ae a tr<|br X.stack) X.stack:=CI I.stack λenv g b hb=>Ab _<|Ag _<|mG g hb;have st:(PySem.W.hideAll s.heap<|ae a tr<|br X.stack).StaysIn s.heap:=λb o e=>CG _ e;have l:(PySem.W.hideAll s.heap<|ae a tr<|br X.stack).get? a=none:=B0 _ Aj;have U:X.A.frames=some (X.env::X.outer):=by rw[<-hs];exact I.ok.frames
 have go:∀h',Heap.LeftW (PySem.W.hideAll s.heap<|ae a tr<|br X.stack) (X.env::X.outer) a (.ref C) b0 s.heap h'->Q () {s with heap:=h'}:=λh' ⟨k1,k2,k3,k4⟩=>by obtain⟨u,p,T,_,n1,n2,ne,r,t,oT,ts,e1,e2,e3,e4,e5,e6,e7,e8⟩:=mL I hs hx new free (by intro T e;subst e;exact⟨J.2.1,J.2.2.1⟩) k1 (by rw[hs];rw[hs] at k2;exact k2) k3.at k4;exact h h' T u p ⟨new,free,r,t,b0,e1,e2,e4,e3,e5,n1,n2,ne,oT,ts,e6,e7,e8⟩
 have nT:∀T,tr=some T->(PySem.W.hideAll s.heap<|ae a tr<|br X.stack).get? T=none:=λT e=>by subst e;exact B0 _<|Ab _<|Ao _ (by simp)
 generalize PySem.W.hideAll s.heap (ae a tr<|br X.stack)=base at j st l go nT;rw[hs] at j;cases tr with
 |none=>exact wpAny_leaving_firstW U j hf g st l hd J h0 (by rw[hc];exact go)
 |some T=>
  obtain⟨h1,_,_,a1,oT,ts,hT,a2,h3⟩:=J;exact wpAny_leaving_nextW U j hf ⟨oe,vs,T,oT,ts,g,⟨hc,h0⟩,hd,h1,nT T rfl,a1,hT,a2,h3⟩ st l go
end
def d_(P:Vv)(w:Vw):yQ:=λouter H s E e s'=>∃a C T H',e=.ref a/\s'.os=s.os/\AllBare s'.gens/\Un (br outer) [] H H' s.heap s'.heap/\dQ P w H' s'.heap/\rm s.heap s'.heap H' a C (some T)/\E (.ref C) none H'/\0<s'.toks
def u9(X:Cx)(a:Addr):Prop:=a≠X.env.locals/\(∀x c,X.env.cells.lookup x=some c->c≠a)/\∀p∈X.pn,p.1≠a
abbrev X1:=St->Vt->Hp->Prop
def bY(X:Cx)(E1:X1):Prop:=∀(pins:List<|Addr×Obj) (σ:St) (H:Hp) (s:Vu) (a C:Addr) (tr:Option Addr),qw X pins σ H s->rm X.s₀.heap s.heap H a C tr->u9 X a->(∀T,tr=some T->u9 X T)->E1 σ (.ref C) H->X.xe (.ref a) s
section
variable {a b T:Addr}{tr:Option Addr}{E1:X1}
def qw.apart(I:qw X pins σ H s)(h:s.heap.get? b=none):u9 X b:=by
 refine⟨λe=>?_,λx c e z=>?_,λp U z=>?_⟩
 ·obtain⟨m,⟨o,_,_,J,_⟩,_⟩:=I.loc;rw[<-e,h] at J;cases J
 ·obtain⟨v,o,J,_⟩:=I.cell x c e;rw[z,h] at J;cases J
 ·obtain⟨e,_⟩:=I.pin p<|Ao _ U;rw[z,h] at e;cases e
def qw.news(I:qw X pins σ H s)(J:X.ex=[])(h:s.heap.get? b=none):X.s₀.heap.get? b=none:=by
 cases q:X.s₀.heap.get? b with
 |none=>rfl
 |some o=>
  obtain⟨U,e⟩:=I.base.there b o q (by rw[J];simp);rw[h] at e;cases e
def bY.pass(t:bY X E1)(U:X.ex=[]){e:Vt}(I:qw X pins σ H s)(h:d_ X.prog X.w X.stack H s (λc _ H'=>E1 σ c H') e s'):X.xe e s':=by obtain⟨a,C,T,H',rfl,j,l,u,J,⟨new,free,o,p,r,he,hc,hd,h0,h1,g,fT,rest⟩,q,a1⟩:=h;have I':qw X pins σ H' s':=I.call' (ch:=[]) j u J l λb z=>absurd z (by simp);exact t pins σ H' s' a C (some T) I' ⟨I.news U new,free,o,p,r,he,hc,hd,h0,h1,I.news U g,fT,rest⟩ (I.apart new) (λT' e=>by cases e;exact I.apart g) q
def ON{k:Nat}{Q:VK}{vs:Vz}(F:bP X.prog X.w X.K X.mg X.base (d_ X.prog X.w) k f fd ps sp)(U:ww k X.A)(g:dM X.K fd ps [])(j:bY X E1)(l:X.ex=[])
 (I:qw X pins σ H s) (r:zu vs us) (h:sp vs H Q λc _ H'=>E1 σ c H'):wpAny (model X.prog X.w) X.A (call (.ref f) us) (EP X pins σ Q) X.xe s:=by
 have o:(us++[]).length=ps.length:=by rw[AC,<-r.length];exact F.len _ _ _ _ h
 refine wpAny_call (codeAny_mono (F.run X.A X.stack s H ⟨us,[]⟩ us vs Q _ U I.env0 (by have:=g s us I.kIn o;rw[AC] at this;exact this) r h) λr t J=>?_);cases r with
 |error e=>exact j.pass l I J
 |ok p=>
  cases p with|ret u=>exact I.after J|next=>exact False.elim J|brk=>exact False.elim J|cont=>exact False.elim J
end
def OO(sp:Sp)(E1:X1)(t:TA):TE:=λσ H Q=>t σ H λvs H1=>sp vs H1 Q λc _ H'=>E1 σ c H'
section
variable {k:Nat}{E1:X1}{p:Pos}{t:TA}
def uh(F:bP X.prog X.w X.K X.mg X.base (d_ X.prog X.w) k f fd ps sp)(l:ww k X.A)(o:Gl X x)(C:X.mg x=some (.ref f))(T:PySem.W.keepIn X.K (.ref f)=true)(hb:dM X.K fd ps [])(ht:bY X E1)(hx:X.ex=[])
 (ha:PA X (e::es) t) (U:Fb x:=by decide) (he:E8 e es X:=by rfl) (g:E9 pos es X:=by rfl):
 PE X (.Call (.Name x p) (e::es) [] pos) (OO sp E1 t):=by
 intro J s σ H Q I h;refine wpAny_Call_Name_kw<|gm I o C ?_ U;refine PySem.W.callWith_K (h₀:=X.base) I.ok.mod.kin T (aI (ha pos J s σ H _ I h) λus s1 ⟨vs,H1,j,r,q⟩=>⟨j.kIn,?_⟩) he g;exact ON F l hb ht hx j r q
end
def OP{P:Vv}{w:Vw}{K:Ah}{N:Vl}{E:XK}:
 bY (eY (d_ P w) P w K mg base N eK scope f cd A outer s H E) λ_ c H'=>E c none H':=by
 intro U j H' l a C tr I L _ _ q;refine OM (X:=eY (d_ P w) P w K mg base N eK scope f cd A outer s H E) I rfl rfl rfl L λo T u J g=>?_;exact⟨a,C,T,H',rfl,I.os,I.bare,u,J,g,q,I.tk⟩
structure FF(K:Ah)(C:Addr):Prop where
 ex:∃(nm q:Str) (N:Addr) (bs bm:Vi) (hdct:Bool) (sn:Vl) (sub:Vi) (ab:Bool) (col:Option Bool) (dd:Option Addr) (k0 k1 k2 k3 k5:Vp) (B Bn newId nid initId inN:Vy) (bmB bmN:Vi),
  ExcBaseFacts Bn newId inN bmN/\bmB.contains (.type Bn)=true/\ExcBaseFacts B nid initId bmB/\
  ∀h,K.In h->h.get? C=some (excClassObj nm q C N bs bm hdct sn sub ab col dd k0 k1 k2 k3 k5 newId)/\(∃mN,h.Ns N mN/\mN "__init__"=none)/\OwnTail h bmB bm
def OQ{K:Ah}{U o:Vi}{B T J p I r:Vy}(q:PySem.W.excIn K C U J=true)(Fn:ExcBaseFacts T J r o)(a1:U.contains (.type T)=true)(F:ExcBaseFacts B p I U):FF K C:=by
 unfold PySem.W.excIn at q;split at q
 ·rename_i dd cd sl ho;split at q
  ·rename_i C' bm k0 k1 k2 k3 n k5 hm hs;simp only[Bd,beq_iff_eq,CQ] at q;obtain⟨⟨⟨⟨⟨rfl,rfl⟩,g⟩,ht⟩,j⟩,t⟩:=q;obtain⟨nm,bs,a4,ns,qn,hd,sn,sub,ab,a2,del⟩:=cd;dsimp only at hm g j t;subst hm g;have a3:sl=#[k0,k1,k2,k3,some<|.builtin n,k5]:=by obtain⟨l⟩:=sl;simp only at hs;rw[hs]
   subst a3;exact⟨nm,qn,ns,bs,bm,hd,sn,sub,ab,a2,dd,k0,k1,k2,k3,k5,B,T,n,p,I,r,U,o,Fn,a1,F,λh X=>⟨X _ _ ho,⟨_,.of_isNs<|PySem.W.isNs_of_in X j,PySem.W.nsMap_none_of_in X j t⟩,PySem.W.tail_of_in X ht⟩⟩
  ·cases q
 ·cases q
def OR(C:Addr)(E1:X1)(t:TA):TS:=λ_ σ H=>t σ H λvs H1=>vs.length<=sizeLine/\E1 σ (.ref C) H1
def OS{E1:X1}{t:TA}(c:FF X.K C)(hg:Gl X x)(U:X.mg x=some (.ref C))(hc:X.calm=true)(ht:bY X E1)(hx:X.ex=[])(ha:PA X (e::es) t)(a1:Fb x:=by decide)
 (he:E8 e es X:=by rfl) (a2:E9 hE es X:=by rfl):
 PS X (.Raise (some<|.Call (.Name x np) (e::es) [] hE) none pos) (OR C E1 t):=by
 intro J s σ H D I h;obtain⟨nm,q,N,bs,bm,hdct,sn,sub,ab,col,dd,k0,k1,k2,k3,k5,B,Bn,a3,ac,l,al,au,av,Fn,a4,F,all⟩:=c.ex;obtain⟨_,⟨mN,hn,a5⟩,ow⟩:=all X.base I.ok.mod.kin;refine wpAny_Raise_call_subU (C:=C) (nm:=nm) (q:=q) (N:=N) (bs:=bs) (bm:=bm) (hdct:=hdct) (sn:=sn) (sub:=sub) (ab:=ab) (col:=col) (dd:=dd) (k0:=k0) (k1:=k1) (k2:=k2) (k3:=k3) (k5:=k5) Fn a4 F (mN:=mN) (ow.hasType F.hasBase) (I.ok.hd hc)
  (by rw[he];show(false||(backTo hE<|starEach es X.env).any (·.1))=false;rw[a2];rfl) a5 (gm I hg U ⟨rfl,?_⟩ a1)
 rw[he];have j:=ha hE J s σ H _ I h;rw[he] at j;refine Calls.evalArgs_plain (aI j λus s2 ⟨vs,p,g,r,hl,q1⟩=>⟨rfl,by rw[<-r.length];exact hl,(all _ g.kIn).1,hn.keeps g.bk,(all _ g.kIn).2.2,λh' a U=>?_⟩);obtain⟨t0,e1,_,_⟩:=U.there;have I2:qw X J σ p {s2 with heap:=h'}:=g.kept (t':=s2.toks) U.keeps;have fr:p a=none:=by
  cases z:p a with
  |none=>rfl
  |some u=>
   obtain⟨o,eo⟩:=(g.hok a u z).get;rw[U.new] at eo;cases eo
 exact ht J σ p _ a C none I2 ⟨g.news hx U.new,fr,_,_,.ref t0,e1,rfl,rfl,rfl,rfl⟩ (g.apart U.new) (λT z=>nomatch z) q1
section
variable {a T:Addr}{tr:Option Addr}
def jM(I:qw X pins σ H s)(C:X.ex=[])(hf:X.stack=X.env::X.outer)(un:Un X.fs [] X.H₀ H X.s₀.heap h')(hok:dQ X.prog X.w H h')
 (k1:(PySem.W.hideAll s.heap<|ae a tr<|br X.stack).StaysIn h') (l:∀b o,s.heap.get? b=some o->(∀vs,o.data≠.fields vs)->∃J,h'.get? b=some {o with slots:=J})
 (pa:∀p∈X.pn++pins,p.1≠a/\∀T,tr=some T->p.1≠T):qw X pins σ H {s with heap:=h'}:=by
 have cl:∀{c:Addr} {v:Vp},s.heap.IsCell c v->h'.IsCell c v:=λ{c v} ⟨o,U,hd⟩=>by
  obtain⟨J,e⟩:=l c o U λvs q=>by rw[hd] at q;cases q
  exact⟨_,e,hd⟩
 obtain⟨m,hn,hl⟩:=id I.loc;have g:h'.Ns X.env.locals m:=by
  obtain⟨o,es,ep,U,hd,r⟩:=hn;obtain⟨J,e⟩:=l _ o U λvs q=>by rw[hd] at q;cases q
  exact⟨_,es,ep,e,hd,r⟩
 refine⟨I.ok,I.os,I.bare,by rw[C];exact un,⟨m,g,λi x v e1 e2 e3=>?_⟩,λx c e=>?_,I.free,I.freeC,λp j=>?_,hok,I.len,I.tk⟩
 ·obtain⟨u,ru,lk⟩:=hl i x v e1 e2 e3;refine⟨u,ru,?_⟩;rcases lk with lk|⟨k,c,e,z⟩
  ·exact .inl lk
  ·exact .inr ⟨k,c,e,cl z⟩
 ·obtain⟨v,z⟩:=I.cell x c e;exact⟨v,cl z⟩
 ·obtain⟨e,n,ne,t,d⟩:=I.pin p j;refine⟨k1 _ _<|C4 _ e λhm=>?_,n,ne,t,d⟩;rcases Am.mp hm with z|z
  ·exact(pa p j).1 z
  ·rcases Ak.mp z with z|z
   ·exact(pa p j).2 p.1 (by simpa using z) rfl
   ·rcases Am.mp (I.stkSub _ z) with z|z
    ·exact ne z
    ·exact t z
def OT{Q:Ve}(I:qw X pins σ H s)(hs:X.stack=X.env::X.outer)(hf:X.env.frame=some X.env.locals)(hx:X.ex=[])(L:rm X.s₀.heap s.heap H a C tr)
 (pa:∀p∈X.pn++pins,p.1≠a/\∀T,tr=some T->p.1≠T)
 (h:∀h' T,qw X pins σ H {s with heap:=h'}->rm X.s₀.heap h' H a C (some T)->(∀p∈X.pn++pins,p.1≠T)->Q () {s with heap:=h'}):
 wpAny M X.A (noteFrame (.ref a) X.env) (λ_ j=>wpAny M X.A (setFlight (.ref a) none) Q E j) E s:=by
 obtain⟨new,free,oe,vs,b0,g,hc,hd,h0,J⟩:=id L;have r:∀T,tr=some T->X.s₀.heap.get? T=none/\H T=none:=by intro T e;subst e;exact⟨J.2.1,J.2.2.1⟩
 have fr:s.heap.FunFrames (PySem.W.hideAll s.heap<|ae a tr<|br X.stack) X.stack:=CI I.stack λenv g b hb=>Ab _<|Ag _<|mG g hb;have st:(PySem.W.hideAll s.heap<|ae a tr<|br X.stack).StaysIn s.heap:=λb o e=>CG _ e;have na:(PySem.W.hideAll s.heap<|ae a tr<|br X.stack).get? a=none:=B0 _ Aj;have t:X.A.frames=some (X.env::X.outer):=by rw[<-hs];exact I.ok.frames
 have nT:∀T,tr=some T->(PySem.W.hideAll s.heap<|ae a tr<|br X.stack).get? T=none:=λT e=>by subst e;exact B0 _<|Ab _<|Ao _ (by simp)
 have go:∀h',Heap.NotedW (PySem.W.hideAll s.heap<|ae a tr<|br X.stack) (X.env::X.outer) a (.ref C) b0 (rawInt X.env.locals) s.heap h'->wpAny M X.A (setFlight (.ref a) none) Q E {s with heap:=h'}:=λh' ⟨k1,k2,k3,k4⟩=>by
  rw[<-hs] at k2;obtain⟨u,a5,T,ac,n1,n2,ne,al,au,oT,ts,e1,e2,e3,e4,e5,e6,e7,e8⟩:=mL I hs hx new free r k1 k2 k3 k4;have I2:qw X pins σ H {s with heap:=h'}:=jM I hx hs u a5 k1 k4 pa;have a1:∀p∈X.pn++pins,p.1≠T:=λp U=>by obtain⟨e,_⟩:=I.pin p U;exact ac p.1 _ e (pa p U).2
  have av:h'.FunFrames (PySem.W.hideAll h'<|ae a (some T)<|br X.stack) X.stack:=CI I2.stack λenv g b hb=>Ab _<|Ag _<|mG g hb;refine wpAny_setFlight_noneW (s:={s with heap:=h'}) (base:=PySem.W.hideAll h'<|ae a (some T)<|br X.stack) (l:=X.stack) (e:=a) (cls:=.ref C) (a0:=b0) (fl:=rawInt X.env.locals) (λb o e=>CG _ e) av
   ⟨al,au,T,oT,ts,e1,⟨e2,e3⟩,e4,e5,B0 _<|Ab _<|Ao _ (by simp),ne,e6,e7,e8⟩ λh3 j1 j2 j3 j4=>?_
  have a2:∀b o,h'.get? b=some o->(∀vs,o.data≠.fields vs)->∃sl,h3.get? b=some {o with slots:=sl}:=λb o e q=>⟨o.slots,j4 b o e q⟩;obtain⟨u',a3,T',a4,ax,aL,aR,ba,bb,bc,bd,f1,f2,f3,f4,f5,f6,f7,f8⟩:=mL (s:={s with heap:=h'}) (tr:=some T) I2 hs hx new free (λT0 e=>by cases e;exact⟨n1,n2⟩) j1 j2 j3.at a2;have I3:qw X pins σ H {s with heap:=h3}:=jM (s:={s with heap:=h'}) (h':=h3) (tr:=some T) I2 hx hs u' a3 j1 a2 λp U=>⟨(pa p U).1,λT0 e=>by cases e;exact a1 p U⟩;refine h h3 T' I3 ⟨new,free,ba,bb,b0,f1,f2,f4,f3,f5,ax,aL,aR,bc,bd,f6,f7,f8⟩ λp U=>?_;obtain⟨e,_⟩:=I2.pin p U;exact a4 p.1 _ e λT0 z=>by cases z;exact a1 p U
 generalize PySem.W.hideAll s.heap (ae a tr<|br X.stack)=base at fr st na go nT;rw[hs] at fr;cases tr with
 |none=>
  unfold noteFrame;simp only[hf];refine Aa<|AX g hd J ?_;rw[Ay (by decide)];exact wpAny_entryW t fr hf g st na hd (Array.getElem?_eq_some_iff.mp J).1 h0 (by rw[hc];exact go)
 |some T=>
  obtain⟨h1,_,_,bf,oT,ts,hT,bg,h3⟩:=J;exact wpAny_noteFrame_onW t fr hf ⟨oe,vs,T,oT,ts,g,⟨hc,h0⟩,hd,h1,nT T rfl,bf,hT,bg,h3⟩ st na go
end
abbrev Cx.tr(X:Cx)(pn:List<|Addr×Obj)(xe:Vd):Cx:={X with pn:=pn,xe:=xe}
abbrev Cx.hnd(X:Cx)(a:Addr):Cx:={X with A:=X.A.mark<|some<|.ref a,calm:=false,xe:=λ_ _=>False}
theorem Cx.Ok.tr(ok:X.Ok)(pn:List<|Addr×Obj)(xe:Vd):(X.tr pn xe).Ok:=
 ⟨ok.mod,ok.kind,ok.glob,ok.blt,ok.above,ok.inj,ok.has,ok.cab,ok.hd,ok.frames,ok.stk,ok.exf,ok.bs,ok.bsz,ok.noex,ok.exfs,ok.funs,ok.frf⟩
theorem Cx.Ok.untr{pn:List<|Addr×Obj}(ok:(X.tr pn xe).Ok):X.Ok:=
 ⟨ok.mod,ok.kind,ok.glob,ok.blt,ok.above,ok.inj,ok.has,ok.cab,ok.hd,ok.frames,ok.stk,ok.exf,ok.bs,ok.bsz,ok.noex,ok.exfs,ok.funs,ok.frf⟩
theorem Cx.Ok.hnd(ok:X.Ok)(a:Addr):(X.hnd a).Ok:=
 ⟨ok.mod,ok.kind,ok.glob,ok.blt,ok.above,ok.inj,ok.has,ok.cab,(λz=>nomatch z),ok.frames,ok.stk,ok.exf,ok.bs,ok.bsz,ok.noex,ok.exfs,ok.funs,ok.frf⟩
section
variable {a T:Addr}
theorem qw.tr(I:qw X pins σ H s)(xe:Vd):qw (X.tr (X.pn++pins) xe) [] σ H s:=⟨I.ok.tr _ _,I.os,I.bare,I.base,I.loc,I.cell,I.free,I.freeC,(λp J=>I.pin p (by simpa using J)),I.hok,I.len,I.tk⟩
theorem qw.untr{J:List<|Addr×Obj}(I:qw (X.tr (X.pn++pins) xe) J σ H s):qw X pins σ H s:=⟨I.ok.untr,I.os,I.bare,I.base,I.loc,I.cell,I.free,I.freeC,(λp U=>I.pin p<|Ao _ U),I.hok,I.len,I.tk⟩
theorem qw.hnd(I:qw X pins σ H s)(a:Addr):qw (X.hnd a) pins σ H s:=⟨I.ok.hnd a,I.os,I.bare,I.base,I.loc,I.cell,I.free,I.freeC,I.pin,I.hok,I.len,I.tk⟩
def qw.unhnd(ok:X.Ok)(I:qw (X.hnd a) pins σ H s):qw X pins σ H s:=⟨ok,I.os,I.bare,I.base,I.loc,I.cell,I.free,I.freeC,I.pin,I.hok,I.len,I.tk⟩
theorem SP.untr{D:oB}{f:Flow}(h:SP (X.tr (X.pn++pins) xe) [] D f s'):SP X pins D f s':=by
 cases f with
 |next=>obtain⟨I,U,J,q⟩:=h;exact⟨I,U,J.untr,q⟩
 |brk=>obtain⟨I,U,J,q⟩:=h;exact⟨I,U,J.untr,q⟩
 |cont=>obtain⟨I,U,J,q⟩:=h;exact⟨I,U,J.untr,q⟩
 |ret u=>obtain⟨v,I,U,J,r,q⟩:=h;exact⟨v,I,U,J.untr,r,q⟩
def fG{n:Str}{Q:Ve}(I:qw X pins σ H s)(hN:X.N.Nodup)(hi:X.N[i]?=some n)(hk:X.env.scope.names.lookup n=some .local)
 (h:∀s',qw X pins (σ.set i none) H s'->Q () s'):wpAny M A (do bindName X.env n .none;unbindBehindTheSuite X.env n pos) Q E s:=by
 obtain⟨m,hn,hl⟩:=id I.loc;have g:(X.env.scope.kind==.class||(X.env.scope.kind==.module&&X.env.locals != X.env.globals))=false:=by rw[I.ok.kind];rfl
 refine wpAny_nameGoes_keeps hk hn g λh' v C J=>h _ ?_;obtain⟨oL,_,_,a1,_⟩:=id hn;have aP:∀b o,X.s₀.heap.get? b=some o->b≠X.env.locals:=λb o e=>A9<|AO (wh e) I.ok.above;refine⟨I.ok,I.os,I.bare,⟨λb o e n T l=>?_,λb o e n T l=>?_,I.base.free,λb o e l=>?_,I.base.tups,I.base.frzs,I.base.tbls⟩,⟨_,C,λj y v' U t e3=>?_⟩,λy c e=>?_,I.free,I.freeC,λp hp=>?_,λb ob e=>?_,by simpa using I.len,by first|exact I.tk|exact BQ _⟩
 ·exact(J.2 b<|aP b o e).trans (I.base.keep b o e n T l)
 ·obtain⟨sl,U⟩:=I.base.slot b o e n T l;exact⟨sl,(J.2 b<|aP b o e).trans U⟩
 ·obtain⟨o',U⟩:=I.base.there b o e l;exact⟨o',(J.2 b<|aP b o e).trans U⟩
 ·by_cases hj:j=i
  ·subst hj;have r:j<σ.length:=by rw[I.len];exact(AL.mp hi).1
   rw[BR r] at t;cases t
  ·rw[A5<|AG hj] at t;obtain⟨u',r',q⟩:=hl j y v' U t e3;refine⟨u',r',?_⟩;rcases q with⟨k,e⟩|⟨k,c,e,z⟩
   ·refine .inl ⟨k,?_⟩;have:y≠n:=λe=>hj<|nV hN U<|e▸hi;simp[this,e]
   ·exact .inr ⟨k,c,e,z.sameBut J<|I.cne y c e⟩
 ·obtain⟨w',z⟩:=I.cell y c e;exact⟨w',z.sameBut J<|I.cne y c e⟩
 ·obtain⟨e,n,ne,nf,d⟩:=I.pin p hp;exact⟨(J.2 p.1 ne).trans e,n,ne,nf,d⟩
 ·refine(I.hok b ob e).stay (λc w' hc q=>(J.2 c ?_).trans q) (λ_ q=>q) λ_ _ q=>q;rintro rfl;rcases hc with z|z
  ·rw[<-z,I.free] at e;cases e
  ·rw[I.free] at z;cases z
def OU{J:Obj}(I:qw X pins σ H s)(C:X.ex=[])(new:X.s₀.heap.get? a=none)(free:H a=none)(U:s.heap.get? a=some J)(ap:u9 X a)(pa:∀p∈X.pn++pins,p.1≠a):qw X pins σ (upd H a<|.frz J<|.own 0) s:=by
 refine⟨I.ok,I.os,I.bare,⟨I.base.keep,I.base.slot,λb o e n l=>?_,I.base.there,λb g e=>?_,λb o u e=>?_,λb r e=>?_⟩,I.loc,I.cell,?_,λx c e=>?_,λp j=>?_,λb u e=>?_,I.len,I.tk⟩
 ·rw[ql (λz=>by rw[z,new] at e;cases e)];exact I.base.free b o e n l
 ·have:=I.base.tups b g e;rw[ql (λz=>by rw[z,free] at this;cases this)];exact this
 ·have:=I.base.frzs b o u e;rw[ql (λz=>by rw[z,free] at this;cases this)];exact this
 ·obtain⟨more,this⟩:=I.base.tbls b r e;exact⟨more,by rw[ql (λz=>by rw[z,free] at this;cases this)];exact this⟩
 ·rw[ql<|AG ap.1];exact I.free
 ·rw[ql<|ap.2.1 x c e];exact I.freeC x c e
 ·obtain⟨e,n,ne,t,d⟩:=I.pin p j;exact⟨e,by rw[ql<|pa p j];exact n,ne,t,d⟩
 ·by_cases z:b=a
  ·subst z;rw[zg] at e;cases e;exact⟨U,J,U⟩
  ·rw[ql z] at e;exact(I.hok b u e).stay (λ_ _ _ q=>q) (λc q=>by rw[ql (λz=>by rw[z,free] at q;cases q)];exact q) λc g q=>by rw[ql (λz=>by rw[z,free] at q;cases q)];exact q
def OV{Q:Ve}(I:qw X pins σ H s)(hs:X.stack=X.env::X.outer)(hx:X.ex=[])(L:rm X.s₀.heap s.heap H a C<|some T)
 (pa:∀p∈X.pn++pins,p.1≠a/\p.1≠T) (h:∀h' g,qw X pins σ H {s with heap:=h'}->rm X.s₀.heap h' H a C (some g)->Q () {s with heap:=h'}):wpAny M A (setFlight (.ref a) none) Q E s:=by
 obtain⟨new,free,oe,j,b0,r,hc,hd,h0,h1,n1,n2,ne,oT,ts,hT,t,h3⟩:=L;have a1:s.heap.FunFrames (PySem.W.hideAll s.heap<|ae a (some T)<|br X.stack) X.stack:=CI I.stack λenv r b hb=>Ab _<|Ag _<|mG r hb;refine wpAny_setFlight_noneW (base:=PySem.W.hideAll s.heap<|ae a (some T)<|br X.stack) (l:=X.stack) (e:=a) (cls:=.ref C) (a0:=b0) (fl:=.none) (λb o e=>CG _ e) a1
  ⟨oe,j,T,oT,ts,r,⟨hc,h0⟩,hd,h1,B0 _<|Ab _<|Ao _ (by simp),ne,hT,t,h3⟩ λh3 j1 j2 j3 j4=>?_
 have J:∀b o,s.heap.get? b=some o->(∀j,o.data≠.fields j)->∃sl,h3.get? b=some {o with slots:=sl}:=λb o e q=>⟨o.slots,j4 b o e q⟩;obtain⟨u',U,g,av,a2,a3,a4,a5,ac,al,au,f1,f2,f3,f4,f5,f6,f7,f8⟩:=mL (tr:=some T) I hs hx new free (λT0 e=>by cases e;exact⟨n1,n2⟩) j1 j2 j3.at J;exact h h3 g (jM (tr:=some T) I hx hs u' U j1 J λp hp=>⟨(pa p hp).1,λT0 e=>by cases e;exact(pa p hp).2⟩) ⟨new,free,a5,ac,b0,f1,f2,f4,f3,f5,a2,a3,a4,al,au,f6,f7,f8⟩
end
def Dh(i:Nat)(D:oB):oB where
 nx:=λσ H=>D.nx (σ.set i none) H
 rt:=D.rt
 bk:=λσ H=>D.bk (σ.set i none) H
 ct:=λσ H=>D.ct (σ.set i none) H
def F5(K:Ah)(J:Addr)(i:Nat)(th:TS)(D:oB):X1:=λσ c H=>∃C,c=.ref C/\PySem.W.exmOne K (.ref C) (.ref J)=some true/\∀a I,H a=none->I.cls=.ref C->th (Dh i D) (σ.set i<|some<|.ref a) (upd H a<|.frz I<|.own 0)
def OW(K:Ah)(I:Addr)(i:Nat)(tb:X1->TS)(th:TS):TS:=λD σ H=>tb (F5 K I i th D) D σ H
def OX{Dc:Addr}{n:Str}{a2:Pos}{l:Vn}{t:Stmt}{tb:X1->TS}{th:TS}(hs:X.stack=X.env::X.outer)(hf:X.env.frame=some X.env.locals)(hx:X.ex=[])(hN:X.N.Nodup)(hi:X.N[i]?=some n)
 (hk:X.env.scope.names.lookup n=some .local) (hg:Gl X x) (hm:X.mg x=some (.ref Dc)) (hb:∀(pn:List<|Addr×Obj) (xe:Vd) (E1:X1),bY (X.tr pn xe) E1->gT (X.tr pn xe) body (tb E1)) (hh:∀a,gT (X.hnd a) (t::l) th)
 (a5:Fb x:=by decide):PS X (.Try body [.ExceptHandler (some<|.Name x np) (some n) (t::l) a2] [] [] pos) (OW X.K Dc i tb th):=by
 intro U s σ H D I h;have tk:bY (X.tr (X.pn++U) λe s'=>∃g o H' a C tr,e=.ref a/\qw X U o H' s'/\rm X.s₀.heap s'.heap H' a C tr/\u9 (X.tr (X.pn++g) X.xe) a/\(∀p∈X.pn++U,p.1≠a)/\(∀T,tr=some T->∀p∈X.pn++U,p.1≠T)/\F5 X.K Dc i th D o (.ref C) H')
  (F5 X.K Dc i th D):=λg o H' s' a C tr I' L ap ac q=>⟨[],o,H',a,C,tr,rfl,I'.untr,L,⟨ap.1,ap.2.1,λp j=>ap.2.2 p (by have j:p∈X.pn++[]:=j;rw[AC] at j;exact Ao _ j)⟩,ap.2.2,λT e=>(ac T e).2.2,q⟩
 refine wpAny_Try_except<|AY (hb _ _ _ tk [] s σ H D (I.tr _) h) (λf s1 h1=>?_) λe s1 h1=>?_
 ·have h2:=SP.untr h1;cases f with|next=>exact wpAny_execs_nil h2|brk=>exact h2|cont=>exact h2|ret u=>exact h2
 ·obtain⟨g,o,H',a,C,tr,rfl,I1,L,ap,pa,al,C',ec,em,q⟩:=h1;cases ec;refine OT I1 hs hf hx L (λp j=>⟨pa p j,λT e=>al T e p j⟩) λh' T I2 L2 a4=>?_;refine wpAny_handleBy_cons (codeAny_handlers_test ?_) (by intro q;cases q);refine gm (X:=X.hnd a) (I2.hnd a) hg hm ?_ a5;obtain⟨_,_,oe,vs,a0,he,hc,_⟩:=id L2;have LT:PySem.W.Looks (model X.prog X.w) h' (typeOf<|.ref a) (.ref C):=hc▸(PySem.W.Looks.ld he).andThen .now;refine PySem.W.exm_one (K:=X.K) I2.kIn LT em _ _ _ _ (λ_ _ e=>e) ?_;refine codeAny_handlers_suite_as ?_;refine OV I2 hs hx L2 (λp j=>⟨pa p j,a4 p j⟩) λh3 T' I3 L3=>?_;obtain⟨new,free,au,aL,a3,av,ax,_⟩:=L3;have I4:=OU I3 hx new free av ⟨ap.1,ap.2.1,λp j=>pa p<|Ao _ j⟩ pa;refine dt (X:=X.hnd a) (I4.hnd a) hN hi (.inl hk) (v:=.ref a) (u:=.ref a) rfl (λs5 I5=>?_)<|.inr hk;refine AY (hh a U s5 _ _ (Dh i D) I5<|q a au free ax) (λf s6 h6=>?_) λe s6 z=>z.elim;cases f with
  |next=>obtain⟨a1,H6,J,q6⟩:=h6;exact fG (J.unhnd I.ok) hN hi hk λs7 I7=>⟨_,H6,I7,q6⟩
  |brk=>obtain⟨a1,H6,J,q6⟩:=h6;exact fG (J.unhnd I.ok) hN hi hk λs7 I7=>⟨_,H6,I7,q6⟩
  |cont=>obtain⟨a1,H6,J,q6⟩:=h6;exact fG (J.unhnd I.ok) hN hi hk λs7 I7=>⟨_,H6,I7,q6⟩
  |ret u=>obtain⟨v,a1,H6,J,r,q6⟩:=h6;exact fG (J.unhnd I.ok) hN hi hk λs7 I7=>⟨v,_,H6,I7,r,q6⟩
open PySem PySem.Spec PyProof.Rows PySem.W
structure s_(K:Frag)(C:Addr):Prop where
 ga:findIn K (.ref C) "__getattribute__"=some (some<|.builtin "BaseException.__getattribute__")
 gt:findIn K (.ref C) "__getattr__"=some none
 cl:findIn K (.ref C) "__class__"=some (some<|.builtin "object.__class__")
 ge:specialIn K (.builtin "object.__class__") "__get__"=some (some<|.builtin "getset_descriptor.__get__")
 tk:takesIn K (.builtin "object.__class__")=some true
 mo:mroIn K C (.type "object")=some true
 be:subIn K (.ref C) (.type "BaseException")=some true
def OY(self:Vt):bindSpecial (.builtin "BaseException.__getattribute__") self=pure (.builtin "BaseException.__getattribute__",[self]):=by
 have J:withoutEnding? "BaseException.__getattribute__" "#opaque"=none:=by decide +kernel
 have I:withoutEnding? "BaseException.__getattribute__" "#data"=none:=by decide +kernel
 have U:builtinKind "BaseException.__getattribute__"=some .slot:=by decide +kernel
 simp only[bindSpecial,typeOf,builtinType,J,I,U];rfl
def rU(h:Vx)(a C:Addr):Prop:=∃o,h.get? a=some o/\o.cls=.ref C
def rU.type{a:Addr}(I:rU h a C):Looks M h (typeOf<|.ref a) (.ref C):=by obtain⟨o,h1,h2⟩:=I;exact h2▸(Looks.ld h1).andThen .now
open Builtin.ObjectAttr in
def OZ{K:Frag}{a:Addr}(c:s_ K C)(X:K.In h):Looks M h (find (.ref a) (.ref C) "__class__") (.bind (.builtin "getset_descriptor.__get__")<|.builtin "object.__class__"):=by have I:=looks_findIn (M:=M) X c.cl;have L2:=looks_specialIn (M:=M) X c.ge;have L3:=looks_takesIn (M:=M) X c.tk;refine I.andThen<|L2.andThen ?_;exact(show Looks M h (dataDescriptor? (some<|.builtin "object.__class__")<|some<|.builtin "getset_descriptor.__get__") (some (.builtin "getset_descriptor.__get__",.builtin "object.__class__")) from L3.andThen .now).andThen (Looks.tag .now)
section
variable {w:Vw}{K:Frag}{a:Addr}
open Builtin Builtin.ObjectAttr Builtin.Getset_descriptor in
def O0{R:Result->Vu->Prop}{tp:Vt}(X:K.In s.heap)(I:rU s.heap a C)(J:mroIn K C (.type "object")=some true)
 (h:R (.ok<|.ret<|.ref C) s):codeAny (model prog w) A (.call (.builtin "getset_descriptor.__get__") ⟨[.builtin "object.__class__",.ref a,tp],[]⟩) R s:=by
 obtain⟨U,g,j,t,os⟩:=s;have l:=I.type (M:=model prog w);have o:=looks_mroIn (M:=model prog w) X J;refine codeAny_call_builtin KF.slot_gs.plain KF.entry_gs<|KF.slot_gs.check _ _ _ _ _ _ _ _ KF.type_class (KF.args_gs _ _ _) ?_;unfold Builtin.«getset_descriptor.__get__» descrGet;rw[dga_obj];refine Aa<|Ai ?_;unfold descrGetter descrCheckInstance descrNameAndClass isInstance;simp only[KF.owner_class]
 repeat lk
 refine⟨Code.quiet_builtin _ (by decide +kernel),codeAny_builtin KF.entry_class ?_⟩;unfold Builtin.«object.__class__» shownTypeOf
 repeat lk
 exact h
def O1{tk:Tok}{Q:Fin->Vu->Prop}(c:s_ K C)(X:K.In s.heap)(I:rU s.heap a C)(h:Q (.done<|.ret<|.ref C) s):
 wpAny (model prog w) A (Builtin.«object.__getattribute__» ⟨[.ref a,.str "__class__" tk],[]⟩) Q E s:=by
 obtain⟨J,g,d,t,os⟩:=s;have U:=I.type (M:=model prog w);have j:=OZ (M:=model prog w) (a:=a) c X;unfold Builtin.«object.__getattribute__»
 repeat (first|with_reducible refine wpAny_call ?_|lk)
 refine O0 X I c.mo ?_
 repeat lk
 exact h
def O6{Q:Ve}{J:Vt}(c:s_ K C)(X:K.In s.heap)(I:rU s.heap a C)(j:Q () s):wpAny (model prog w) A (checkBuiltinCall "BaseException.__getattribute__" ⟨[.ref a,J],[]⟩) Q E s:=by
 obtain⟨o,g,d,t,os⟩:=s;have p:=I.type (M:=model prog w);have r:=looks_subIn (M:=model prog w) X c.be;have l:builtinKind "BaseException.__getattribute__"=some .slot:=by decide +kernel
 have U:splitId "BaseException.__getattribute__"=some ("BaseException","__getattribute__"):=by decide +kernel
 have T:=F.args_bexc_ga (.ref a) J;simp only[checkBuiltinCall,l,U];refine Aa ?_;unfold isInstance
 repeat lk
 exact j
def O7{tk:Tok}(c:s_ K C)(X:K.In s.heap)(I:rU s.heap a C)(h:Q (.ref C) s):wpAny (model prog w) A (getAttrBy (.ref a) (.str "__class__" tk) false) Q E s:=by
 obtain⟨J,g,d,t,os⟩:=s;have U:=I.type (M:=model prog w);have j:=looks_findIn (M:=model prog w) X c.ga;have L2:=looks_findIn (M:=model prog w) X c.gt;have l:=OY<|.ref a;unfold getAttrBy
 repeat (first|with_reducible refine wpAny_call ?_|with_reducible refine wpAny_attempt ?_|lk)
 refine codeAny_call_builtin (by decide +kernel) F.entry_bexc_ga<|O6 c X I<|O1 c X I ?_;exact handed_on rfl h
def O8{Q:Vp->Vu->Prop}(c:s_ K C)(X:K.In s.heap)(I:rU s.heap a C)(h:Q (some<|.ref C) {s with toks:=s.toks+1}):wpAny (model prog w) A (getAttr? (.ref a) "__class__") Q E s:=by unfold getAttr? getAttrBy?;refine Aa<|wpAny_mkText<|Aa<|wpAny_attempt<|O7 (s:={s with toks:=s.toks+1}) c X I ?_;exact Ai h
end
def si{K:Frag}{a:Addr}(c:s_ K C)(J:(clsIn K C).isSome=true):KitX K (.ref a) (.ref C) (λh=>rU h a C) where
 ty:=λ_ _ _ I=>I.type
 it:=λ_ _ X _=>by
  unfold clsIn at J;split at J
  ·rename_i o p U g j;intro T Q' E' s' k q;unfold isType loadHead;exact Aa<|wpAny_loadPart (k _ _<|X _ _ j)<|Ai q
  ·cases J
 ne:=λh r dd t n sl X l=>by
  refine Bool.eq_false_iff.mpr λq=>?_;have e:C=r:=Value.ref.inj<|beq_iff_eq.mp q;subst e;unfold clsIn at J;split at J
  ·rename_i o p U g j;have z:=(X _ _ j).symm.trans l;cases z
  ·cases J
 ca:=λX I k=>O8 c X I k
def A':V->Vp
 |.ref D=>some<|.ref D
 |.ty T=>some<|.type T
 |_=>none
def sR{c:Vt}(h:A' v=some c)(r:zv v u):u=c:=by cases v with|ref D=>cases h;exact r|ty T=>cases h;exact r|_=>cases h
theorem uW:∀{vs:Vz} {us cs:Vi},vs.map A'=cs.map some->zu vs us->us=cs
 |[],_,[],_,.nil=>rfl
 |[],_,_::_,h,_=>by cases h
 |_::_,_,[],h,_=>by cases h
 |v::vs,_,c::cs,h,.cons r t=>by rw[AJ,AJ] at h;obtain⟨h1,h2⟩:=Eh h;rw[sR h1 r,uW h2 t]
structure t_(K:Ah)(C:Addr):Prop where
 at_:s_ K C
 cls:(PySem.W.clsIn K C).isSome=true
def GU(K:Ah)(H:Hp)(a C:Addr):Prop:=∃I,H a=some (.frz I<|.own 0)/\I.cls=.ref C
def O9(K:Ah):Vz->Hp->VK->Prop:=λxs H Q=>∃a C v,xs=[.ref a,v]/\GU K H a C/\t_ K C/\
 ((∃u b,A' v=some u/\PySem.W.kitOne K (.ref C) u=some b/\Q (.bl b) H)\/(∃tp I us b,v=.ref tp/\dS K H tp I/\I.map A'=us.map some/\PySem.W.kitAny K (.ref C) us=some b/\Q (.bl b) H))
def nZ :jg X (.builtin "isinstance") (O9 X.K):=by
 rintro U s σ H xs us Q I r⟨a,C,v,rfl,⟨g,l,p⟩,hd,h⟩;obtain⟨t,T,rfl,r1,j⟩:=zu.two r;cases (show t=Value.ref a from r1);obtain⟨he,_⟩:=(show xj X.prog X.w H s.heap a (.frz g<|.own 0) from I.hok a _ l);have ex:rU s.heap a C:=⟨g,he,p⟩;rcases h with⟨c,b,e,k,q⟩|⟨tp,ws,cs,b,rfl,J,e,k,q⟩
 ·cases sR e j;exact jq I.tk<|Bt (si hd.at_ hd.cls) I.kIn ex k (λz=>nomatch z) λtk J=>⟨.bl b,H,I.tok _,rfl,q⟩
 ·cases (show T=Value.ref tp from j);obtain⟨a1,rv,⟨o,h1,h2,n,h3⟩,_⟩:=I.tuple J;cases uW e rv;obtain⟨oc,od,a2,a3⟩:=o;dsimp only at h2 h3;subst h2 h3;exact jq I.tk<|PySem.W.kia_tup (si hd.at_ hd.cls) I.kIn ex h1 k (λz=>nomatch z) λtk J=>⟨.bl b,H,I.tok _,rfl,q⟩
def r6(H:Hp)(P:Addr)(q:Str):Prop:=∃ps,H P=some (.tbl ps)/\TriplesOk ps.toList/\∀pos I,codeAmong pos ps.toList=some I->∃c' oc vs t,I=.ref c'/\H c'=some (.frz oc<|.own 0)/\oc.data=.fields vs/\vs[1]?=some (.str q t)
def r6.keep{P:Addr}{q:Str}(h:r6 H P q)(e:H' P=H P)(t:∀b o u,H b=some (.frz o u)->H' b=some (.frz o u)):r6 H' P q:=by obtain⟨I,h1,h2,h3⟩:=h;refine⟨I,e.trans h1,h2,λpos J z=>?_⟩;obtain⟨U,g,j,l,p,r,C⟩:=h3 pos J z;exact⟨U,g,j,l,p,t _ _ _ r,C⟩
end L2
namespace L3
open PySem L2
inductive Y where
 |non|bl (b:Bool)|int (i:Int)|str (x:Str)|ref (a:Addr)|ty (n:Vy)|cd (kvs:List<|Str×Str)|tup (ys:List Y)|sq (ys:List Y)
inductive LO where
 |lst (ys:List Y)|dct (kvs:List<|j9×Y)|ins (C:Addr) (fs:List<|Str×Y)|exc (C:Addr)|tb (q:Str)
abbrev qk:=Addr->Option LO
def qi(L:qk)(a:Addr)(o:LO):qk:=λb=>if b=a then some o else L b
def q9{L:qk}{a:Addr}{o:LO}:qi L a o a=some o:=by unfold qi;rw[AA rfl]
def qc{L:qk}{a b:Addr}{o:LO}(h:b≠a):qi L a o b=L b:=by unfold qi;rw[Ay h]
def zq{L:qk}{a:Addr}{o u:LO}:qi (qi L a o) a u=qi L a u:=by funext b;unfold qi;split<;>rfl
def aP{L:qk}{a b:Addr}{o:LO}(h:L a=some o)(h':L b=none):a≠b:=by intro e;subst e;rw[h] at h';cases h'
structure G3 where
 K:Ah
 P:Vv
 w:Vw
abbrev _root_.L2.Cx.g3(X:Cx):G3:=⟨X.K,X.prog,X.w⟩
def SqF(K:Ah)(H:Hp)(a:Addr)(xs:Vz):Prop:=(∃o,H a=some (.frz o<|.lst xs))\/
 ∃(o:Obj) (eH:Vj) (n:Nat),K.lookup a=some o/\o.cls=.type "list" /\ o.dict=none/\o.data=.seq eH n/\eH.size<=sizeLine/\zu xs eH.toList
def SqF.sq{K:Ah}{a:Addr}(h:SqF K H a xs):aS K H a xs:=by
 rcases h with⟨o,h⟩|h
 ·exact .inl<|.inr ⟨o,h⟩
 ·exact .inr h
mutual
def RV(G:G3)(H:Hp):Y->V->Prop
 |.non,v=>v=.non
 |.bl b,v=>v=.bl b
 |.int i,v=>v=.int i
 |.str x,v=>v=.str x
 |.ref a,v=>v=.ref a
 |.ty n,v=>v=.ty n
 |.cd kvs,v=>∃a,v=.ref a/\KD G.K G.P G.w a (kvs.map λp=>(Sum.inr p.1,V.str p.2))
 |.tup ys,v=>∃a xs,v=.ref a/\dS G.K H a xs/\xt G H ys xs
 |.sq ys,v=>∃a xs,v=.ref a/\SqF G.K H a xs/\xt G H ys xs
def xt(G:G3)(H:Hp):List Y->Vz->Prop
 |[],xs=>xs=[]
 |y::ys,xs=>∃x I,xs=x::I/\RV G H y x/\xt G H ys I
end
def O_:HO->Bool
 |.tup _=>true
 |.frz _ _=>true
 |_=>false
def jf(H H':Hp):Prop:=∀a u,O_ u=true->H a=some u->H' a=some u
def jf.refl(H:Hp):jf H H:=λ_ _ _ h=>h
abbrev EL:=@jf.refl
def jf.trans{H1 H2:Hp}(a:jf H H1)(b:jf H1 H2):jf H H2:=λc u i h=>b c u i<|a c u i h
def jf.new{p:Addr}{o:HO}(h:H p=none):jf H (upd H p o):=λ_ _ _ q=>by rw[ql<|zo q h];exact q
abbrev EN:=@jf.new
def jf.lst{p:Addr}{o:HO}(h:H p=some (.lst zs)):jf H (upd H p o):=λa u i q=>by rw[ql ?_];exact q;rintro rfl;rw[h] at q;cases q;cases i
abbrev E6:=@jf.lst
def dS.ts{K:Ah}{a:Addr}(h:dS K H a xs)(t:jf H H'):dS K H' a xs:=by
 rcases h with(h|⟨o,h⟩)|h
 ·exact .inl<|.inl<|t _ _ rfl h
 ·exact .inl<|.inr ⟨o,t _ _ rfl h⟩
 ·exact .inr h
def SqF.ts{K:Ah}{a:Addr}(h:SqF K H a xs)(t:jf H H'):SqF K H' a xs:=by
 rcases h with⟨o,h⟩|h
 ·exact .inl ⟨o,t _ _ rfl h⟩
 ·exact .inr h
mutual
theorem RV.ts{G:G3}{H H':Hp}(t:jf H H'):∀{y:Y} {v:V},RV G H y v->RV G H' y v
 |.non,_,h=>h
 |.bl _,_,h=>h
 |.int _,_,h=>h
 |.str _,_,h=>h
 |.ref _,_,h=>h
 |.ty _,_,h=>h
 |.cd _,_,h=>h
 |.tup _,_,⟨a,I,e,s,r⟩=>⟨a,I,e,dS.ts s t,xt.ts t r⟩
 |.sq _,_,⟨a,I,e,s,r⟩=>⟨a,I,e,s.ts t,xt.ts t r⟩
theorem xt.ts{G:G3}{H H':Hp}(t:jf H H'):∀{ys:List Y} {xs:Vz},xt G H ys xs->xt G H' ys xs
 |[],_,h=>h
 |_::_,_,⟨x,I,e,r,s⟩=>⟨x,I,e,RV.ts t r,xt.ts t s⟩
end
theorem xt.length{G:G3}{H:Hp}:∀{ys:List Y} {xs:Vz},xt G H ys xs->ys.length=xs.length
 |[],_,h=>by cases h;rfl
 |_::_,_,⟨x,I,e,_,s⟩=>by subst e;simp[xt.length s]
theorem xt.get{G:G3}{H:Hp}:∀{ys:List Y} {xs:Vz} {i:Nat} {y:Y},xt G H ys xs->ys[i]?=some y->∃x,xs[i]?=some x/\RV G H y x
 |[],_,_,_,_,h=>by simp at h
 |_::_,_,0,_,⟨x,I,e,r,_⟩,h=>by subst e;simp at h;subst h;exact⟨x,rfl,r⟩
 |_::_,_,i+1,_,⟨x,I,e,_,s⟩,h=>by subst e;obtain⟨J,q,r⟩:=xt.get (i:=i) s (by simpa using h);exact⟨J,by simpa using q,r⟩
theorem xt.app{G:G3}{H:Hp}:∀{ys zs:List Y} {xs us:Vz},xt G H ys xs->xt G H zs us->xt G H (ys++zs) (xs++us)
 |[],_,_,_,h,q=>by cases h;exact q
 |_::_,_,_,_,⟨x,I,e,r,s⟩,q=>by subst e;exact⟨x,I++_,rfl,r,xt.app s q⟩
def xt.one{G:G3}{y:Y}{x:V}(r:RV G H y x):xt G H [y] [x]:=⟨x,[],rfl,r,rfl⟩
theorem xt.take{G:G3}{H:Hp}:∀{ys:List Y} {xs:Vz} (n:Nat),xt G H ys xs->xt G H (ys.take n) (xs.take n)
 |[],_,n,h=>by cases h;simp[xt]
 |_::_,_,0,_=>by simp[xt]
 |_::_,_,n+1,⟨x,I,e,r,s⟩=>by subst e;exact⟨x,I.take n,rfl,r,xt.take n s⟩
theorem xt.drop{G:G3}{H:Hp}:∀{ys:List Y} {xs:Vz} (n:Nat),xt G H ys xs->xt G H (ys.drop n) (xs.drop n)
 |[],_,n,h=>by cases h;simp[xt]
 |_::_,_,0,h=>h
 |_::_,_,n+1,⟨x,I,e,r,s⟩=>by subst e;exact xt.drop n s
theorem xt.setY{G:G3}{H:Hp}{y:Y}{x:V}(r:RV G H y x):∀{ys:List Y} {xs:Vz} (i:Nat),xt G H ys xs->xt G H (ys.set i y) (xs.set i x)
 |[],_,_,h=>by cases h;simp[xt]
 |_::_,_,0,⟨J,I,e,_,s⟩=>by subst e;exact⟨x,I,rfl,r,s⟩
 |_::_,_,i+1,⟨J,I,e,q,s⟩=>by subst e;exact⟨J,I.set i x,rfl,q,xt.setY r i s⟩
theorem xt.eraseIdx{G:G3}{H:Hp}:∀{ys:List Y} {xs:Vz} (n:Nat),xt G H ys xs->xt G H (ys.eraseIdx n) (xs.eraseIdx n)
 |[],_,n,h=>by cases h;simp[xt]
 |_::_,_,0,⟨x,I,e,r,s⟩=>by subst e;exact s
 |_::_,_,n+1,⟨x,I,e,r,s⟩=>by subst e;exact⟨x,I.eraseIdx n,rfl,r,xt.eraseIdx n s⟩
def RO(G:G3)(H:Hp)(a:Addr):LO->Prop
 |.lst ys=>∃xs,H a=some (.lst xs)/\xt G H ys xs
 |.dct kvs=>∃xs,H a=some (.dK xs)/\Paired (λ(p:j9×Y) (q:j9×V)=>p.1=q.1/\RV G H p.2 q.2) kvs xs
 |.ins C fs=>∃dx xs,H a=some (.ins C dx xs)/\Paired (λ(p:Str×Y) (q:Str×V)=>p.1=q.1/\RV G H p.2 q.2) fs xs
 |.exc C=>GU G.K H a C
 |.tb q=>r6 H a q
def zw(G:G3)(H:Hp)(L:qk):Prop:=∀a o,L a=some o->RO G H a o
theorem RO.ex{G:G3}{a:Addr}:∀{o:LO},RO G H a o->∃u,H a=some u
 |.lst _,⟨_,h,_⟩=>⟨_,h⟩
 |.dct _,⟨_,h,_⟩=>⟨_,h⟩
 |.ins _ _,⟨_,_,h,_⟩=>⟨_,h⟩
 |.exc _,⟨_,h,_⟩=>⟨_,h⟩
 |.tb _,⟨_,h,_⟩=>⟨_,h⟩
theorem zw.none{G:G3}{L:qk}(h:zw G H L){p:Addr}(I:H p=none):L p=none:=by cases e:L p with|none=>rfl|some o=>obtain⟨u,q⟩:=(h p o e).ex;rw[I] at q;cases q
theorem RO.keep{G:G3}(t:jf H H'){a:Addr}(e:H' a=H a):∀{o:LO},RO G H a o->RO G H' a o
 |.lst _,⟨I,h,r⟩=>⟨I,e.trans h,r.ts t⟩
 |.dct _,⟨I,h,r⟩=>⟨I,e.trans h,ER r λ_ _ ⟨a,b⟩=>⟨a,b.ts t⟩⟩
 |.ins _ _,⟨J,I,h,r⟩=>⟨J,I,e.trans h,ER r λ_ _ ⟨a,b⟩=>⟨a,b.ts t⟩⟩
 |.exc _,⟨o,h,c⟩=>⟨o,e.trans h,c⟩
 |.tb _,h=>r6.keep h e λb o u z=>t b _ rfl z
def zw.skip{G:G3}{L:qk}(h:zw G H L){p:Addr}{o:HO}(I:H p=.none):zw G (upd H p o) L:=λa u e=>by obtain⟨x,q⟩:=(h a u e).ex;exact(h a u e).keep (EN I) (ql<|zo q I)
def zw.newL{G:G3}{L:qk}(h:zw G H L){p:Addr}{ys:List Y}(I:H p=.none)(r:xt G H ys xs):zw G (upd H p<|.lst xs) (qi L p<|.lst ys):=λa u e=>by
 by_cases c:a=p
 ·subst c;rw[q9] at e;cases e;exact⟨xs,zg,r.ts<|EN I⟩
 ·rw[qc c] at e;exact(h a u e).keep (EN I) (ql c)
def zw.setL{G:G3}{L:qk}(h:zw G H L){p:Addr}{ys:List Y}(I:H p=some (.lst zs))(r:xt G H ys xs):zw G (upd H p<|.lst xs) (qi L p<|.lst ys):=λa u e=>by
 by_cases c:a=p
 ·subst c;rw[q9] at e;cases e;exact⟨xs,zg,r.ts<|E6 I⟩
 ·rw[qc c] at e;exact(h a u e).keep (E6 I) (ql c)
def qh(L L':qk):Prop:=∀a o,L a=some o->L' a=some o
def qh.refl(L:qk):qh L L:=λ_ _ h=>h
abbrev EK:=@qh.refl
def qh.trans{L L1 L2:qk}(a:qh L L1)(b:qh L1 L2):qh L L2:=λc o h=>b c o<|a c o h
def qh.new{L:qk}{p:Addr}{o:LO}(h:L p=none):qh L (qi L p o):=λa u e=>by rw[qc<|aP e h];exact e
abbrev By:=@qh.new
@[elab_as_elim] theorem pD {L:qk} {p:Addr} {o:LO} {motive:qk->Prop} (h:L p=none) (k:∀L',qh L L'->L' p=some o->motive L'):motive (qi L p o):=k _ (By h) q9
def zw.sub{G:G3}{L L':qk}(h:zw G H L')(s:qh L L'):zw G H L:=λa o e=>h a o<|s a o e
abbrev jo:=List<|Option Y
structure xg(G:G3)(H:Hp)(σ:St)(τ:jo):Prop where
 len:σ.length=τ.length
 get:∀(i:Nat) y,τ[i]?=some (some y)->∃v,σ[i]?=some (some v)/\RV G H y v
theorem xg.ts{G:G3}{τ:jo}(h:xg G H σ τ)(t:jf H H'):xg G H' σ τ:=
 ⟨h.len,λi y e=>let ⟨v,a,b⟩:=h.get i y e;⟨v,a,b.ts t⟩⟩
def xg.set{G:G3}{τ:jo}(h:xg G H σ τ){y:Y}(r:RV G H y v):xg G H (σ.set i<|some v) (τ.set i<|some y):=by
 refine⟨by simp[h.len],λj z e=>?_⟩;by_cases c:i=j
 ·subst c;have I:i<τ.length:=by
   by_cases q:i<τ.length
   ·exact q
   ·rw[BJ (by simp;omega)] at e;cases e
  rw[BR I] at e;cases e;exact⟨v,BR (by rw[h.len];exact I),r⟩
 ·rw[A5 c] at e ⊢;exact h.get j z e
def xg.more{G:G3}{τ:jo}(h:xg G H σ τ)(n:Nat):xg G H (σ++List.replicate n none) (τ++List.replicate n none):=by
 refine⟨by simp[h.len],λj z e=>?_⟩;by_cases c:j<τ.length
 ·rw[AE c] at e;rw[AE (by rw[h.len];exact c)];exact h.get j z e
 ·rw[AN (by omega),Dj] at e;split at e<;>cases e
def D_:jo->Nat->Option Y
 |[],_=>none
 |o::_,0=>o
 |_::r,i+1=>D_ r i
theorem rh:∀(τ:jo) (i:Nat) {y:Y},D_ τ i=some y->τ[i]?=some (some y)
 |[],_,_,h=>by cases h
 |o::_,0,_,h=>by simp[D_] at h;simp[h]
 |_::r,i+1,_,h=>by simp only[Dk];exact rh r i h
abbrev YK:=Y->qk->Prop
abbrev xu:=jo->qk->YK->Prop
abbrev lQ:=jo->qk->(Bool->qk->Prop)->Prop
abbrev fS:=jo->qk->(List Y->qk->Prop)->Prop
structure x5 where
 nx:jo->qk->Prop
 rt:YK
 bk:jo->qk->Prop:=λ_ _=>False
 ct:jo->qk->Prop:=λ_ _=>False
abbrev a9:=x5->jo->qk->Prop
abbrev o6:=Y->jo->qk->(jo->qk->Prop)->Prop
abbrev uu:=List Y->jo->qk->(jo->qk->Prop)->Prop
abbrev p_:=jo->qk->(List Y->(qk->Prop)->qk->Prop)->Prop
abbrev qS:=Y->Y->qk->YK->Prop
def uC(G:G3)(H:Hp)(I:YK)(Q:VK):Prop:=∀v H' y L',jf H H'->zw G H' L'->RV G H' y v->I y L'->Q v H'
def aax(G:G3)(H:Hp)(I:Bool->qk->Prop)(Q:Bool->Hp->Prop):Prop:=∀b H' L',jf H H'->zw G H' L'->I b L'->Q b H'
def Ik(G:G3)(H:Hp)(I:List Y->qk->Prop)(Q:Vz->Hp->Prop):Prop:=∀vs H' ys L',jf H H'->zw G H' L'->xt G H' ys vs->I ys L'->Q vs H'
def o9(G:G3)(H:Hp)(I:jo->qk->Prop)(Q:St->Hp->Prop):Prop:=∀σ H' τ L',jf H H'->xg G H' σ τ->zw G H' L'->I τ L'->Q σ H'
def uC.ts{G:G3}{I:YK}{Q:VK}(h:uC G H I Q)(t:jf H H'):uC G H' I Q:=λv J y U g=>h v J y U<|t.trans g
def aax.ts{G:G3}{I:Bool->qk->Prop}{Q:Bool->Hp->Prop}(h:aax G H I Q)(t:jf H H'):aax G H' I Q:=λv J U g=>h v J U<|t.trans g
def o9.ts{G:G3}{I:jo->qk->Prop}{Q:St->Hp->Prop}(h:o9 G H I Q)(t:jf H H'):o9 G H' I Q:=λv J y U g=>h v J y U<|t.trans g
structure xB(G:G3)(H:Hp)(D3:x5)(D:oB):Prop where
 nx:o9 G H D3.nx D.nx
 rt:uC G H D3.rt D.rt
 bk:o9 G H D3.bk D.bk
 ct:o9 G H D3.ct D.ct
theorem xB.ts{G:G3}{I:x5}{D:oB}(h:xB G H I D)(t:jf H H'):xB G H' I D:=⟨h.nx.ts t,h.rt.ts t,h.bk.ts t,h.ct.ts t⟩
def oZ(G:G3)(t:xu):TE:=λσ H Q=>∃τ L I,xg G H σ τ/\zw G H L/\t τ L I/\uC G H I Q
def g_(G:G3)(t:lQ):TT:=λσ H Q=>∃τ L I,xg G H σ τ/\zw G H L/\t τ L I/\aax G H I Q
def Il(G:G3)(t:fS):TA:=λσ H Q=>∃τ L I,xg G H σ τ/\zw G H L/\t τ L I/\Ik G H I Q
def Fi(G:G3)(t:a9):L2.TS:=λD σ H=>∃τ L I,xg G H σ τ/\zw G H L/\t I τ L/\xB G H I D
def F6(G:G3)(g:o6):TG:=λv σ H Q=>∃y τ L I,RV G H y v/\xg G H σ τ/\zw G H L/\g y τ L I/\o9 G H I Q
def O'(G:G3)(g:uu):c_:=λvs σ H Q=>∃ys τ L I,xt G H ys vs/\xg G H σ τ/\zw G H L/\g ys τ L I/\o9 G H I Q
structure jF(G:G3)(H₀:Hp)(J:It)(ys:List Y)(keep:qk->Prop):Prop where
 go:∀i H L,jf H₀ H->zw G H L->keep L->i<ys.length->J.go i H
 yld:∀i H L x H' y,jf H₀ H->zw G H L->keep L->ys[i]?=some y->J.yld i H x H'->jf H H'/\zw G H' L/\RV G H' y x
 stop:∀H L,jf H₀ H->zw G H L->keep L->J.stop ys.length H
def GV(G:G3)(wi:p_):TI:=λσ H R=>∃τ L I,xg G H σ τ/\zw G H L/\wi τ L I/\∀J H' ys keep L',jf H H'->zw G H' L'->jF G H' J ys keep->I ys keep L'->R J H'
def gQ(G:G3)(U:qS):R2:=λx y H Q=>∃x3 I L J,RV G H x3 x/\RV G H I y/\zw G H L/\U x3 I L J/\uC G H J Q
def b_(G:G3)(J:List Y->qk->YK->Prop):Vz->Hp->VK->Prop:=λxs H Q=>∃ys L I,xt G H ys xs/\zw G H L/\J ys L I/\uC G H I Q
def PE.imp{t u:TE}(h:PE X e t)(q:∀σ H Q,u σ H Q->t σ H Q):PE X e u:=λJ s σ H Q I z=>h J s σ H Q I<|q σ H Q z
abbrev EX:=@PE.imp
def PE.imq{G:G3}{t:TE}{u:xu}(h:PE X e t)(q:∀σ H Q τ L I,xg G H σ τ->zw G H L->u τ L I->uC G H I Q->t σ H Q):PE X e (oZ G u):=EX h λσ H Q ⟨τ,L,I,a,b,c,d⟩=>q σ H Q τ L I a b c d
abbrev EO:=@PE.imq
def PT.imp{t u:TT}(h:PT X e t)(q:∀σ H Q,u σ H Q->t σ H Q):PT X e u:=λJ s σ H Q I z=>h J s σ H Q I<|q σ H Q z
def PT.imq{G:G3}{t:TT}{u:lQ}(h:PT X e t)(q:∀σ H Q τ L I,xg G H σ τ->zw G H L->u τ L I->aax G H I Q->t σ H Q):PT X e (g_ G u):=PT.imp h λσ H Q ⟨τ,L,I,a,b,c,d⟩=>q σ H Q τ L I a b c d
def PW.imp{t u:TT}(h:PW X e t)(q:∀σ H Q,u σ H Q->t σ H Q):PW X e u:=λU J s σ H Q I z=>h U J s σ H Q I<|q σ H Q z
def PW.imq{G:G3}{t:TT}{u:lQ}(h:PW X e t)(q:∀σ H Q τ L I,xg G H σ τ->zw G H L->u τ L I->aax G H I Q->t σ H Q):PW X e (g_ G u):=PW.imp h λσ H Q ⟨τ,L,I,a,b,c,d⟩=>q σ H Q τ L I a b c d
def PA.imp{e:Vm}{t u:TA}(h:PA X e t)(q:∀σ H Q,u σ H Q->t σ H Q):PA X e u:=λpos J s σ H Q I z=>h pos J s σ H Q I<|q σ H Q z
def PA.imq{G:G3}{e:Vm}{t:TA}{u:fS}(h:PA X e t)(q:∀σ H Q τ L I,xg G H σ τ->zw G H L->u τ L I->Ik G H I Q->t σ H Q):PA X e (Il G u):=PA.imp h λσ H Q ⟨τ,L,I,a,b,c,d⟩=>q σ H Q τ L I a b c d
def PS.imp{e:Stmt}{t u:L2.TS}(h:PS X e t)(q:∀D σ H,u D σ H->t D σ H):PS X e u:=λJ s σ H Q I z=>h J s σ H Q I<|q _ σ H z
def PS.imq{G:G3}{e:Stmt}{t:L2.TS}{u:a9}(h:PS X e t)(q:∀D σ H τ L I,xg G H σ τ->zw G H L->u I τ L->xB G H I D->t D σ H):PS X e (Fi G u):=PS.imp h λD σ H ⟨τ,L,I,a,b,c,d⟩=>q D σ H τ L I a b c d
abbrev ES:=@PS.imq
def gT.imp{e:Vn}{t u:L2.TS}(h:gT X e t)(q:∀D σ H,u D σ H->t D σ H):gT X e u:=λJ s σ H Q I z=>h J s σ H Q I<|q _ σ H z
def gT.imq{G:G3}{e:Vn}{t:L2.TS}{u:a9}(h:gT X e t)(q:∀D σ H τ L I,xg G H σ τ->zw G H L->u I τ L->xB G H I D->t D σ H):gT X e (Fi G u):=gT.imp h λD σ H ⟨τ,L,I,a,b,c,d⟩=>q D σ H τ L I a b c d
def PF.imp{e:Vm}{t u:TT}(h:PF X e t)(q:∀σ H Q,u σ H Q->t σ H Q):PF X e u:=λJ s σ H Q I z=>h J s σ H Q I<|q σ H Q z
end L3
variable {g:L3.o6}{G:L3.G3}{ta tb te to:L3.xu}{kvs:List<|L2.j9×L3.Y}{ys:List L3.Y}{L L' L0 L1:L3.qk}{τ:L3.jo}{gs:L3.uu}{c0 c1 nu c5 c6 c7 c8 c9:Option L3.Y}{En:L3.x5}{tA:L3.lQ}
namespace L3
open PySem L2
def o8:Y:=(.tup [(.str "plain"),(.str "turned")])
def we(b:Bool)(A B:Prop):Prop:=match b with
 |true=>A
 |false=>B
def Pa{b:Bool}{A B:Prop}(h:b=true->A)(k:b=false->B):we b A B:=by cases b with|true=>exact h rfl|false=>exact k rfl
def iu{b:Bool}{A B:Prop}(e:b=true)(h:A):we b A B:=by rw[e];exact h
def dC{b:Bool}{A B:Prop}(e:b=false)(h:B):we b A B:=by rw[e];exact h
def zk{p:Prop} [Decidable p]{A B:Prop}(h:p->A)(k:¬p->B):we (decide p) A B:=by
 by_cases c:p
 ·rw[AK c];exact h c
 ·rw[AD c];exact k c
def Pb{p:Prop} [Decidable p]{A B:Prop}(c:p)(h:A):we (decide p) A B:=by rw[AK c];exact h
def Pd{p:Prop} [Decidable p]{A B:Prop}(c:¬p)(h:B):we (decide p) A B:=by rw[AD c];exact h
def nb(neg b:Bool):Bool:=match neg with
 |true=>!b
 |false=>b
def qf(i:Nat)(τ:jo)(L:qk)(Q:YK):Prop:=match D_ τ i with
 |some y=>Q y L
 |none=>False
def yC(y:Y)(_:jo)(L:qk)(Q:YK):Prop:=Q y L
def vg(r:qS)(ta tb:xu)(τ:jo)(L:qk)(Q:YK):Prop:=ta τ L λx L1=>tb τ L1 λy L2=>r x y L2 Q
def yI(C:Int->Int->Prop)(g:Int->Int->Y)(x y:Y)(L:qk)(Q:YK):Prop:=match x,y with
 |.int i,.int j=>C i j/\Q (g i j) L
 |_,_=>False
def k_(g:Int->Int->Y)(x y:Y)(L:qk)(Q:YK):Prop:=match x,y with
 |.int i,.int j=>Q (g i j) L
 |_,_=>False
def cK(L:qk):Y->Option (List Y)
 |.tup ys=>some ys
 |.sq ys=>some ys
 |.ref a=>match L a with
  |some (.lst ys)=>some ys
  |_=>none
 |_=>none
@[irreducible] def fU (L:qk) (a:Addr) (k:List Y->Prop):Prop:=match L a with
 |some (.lst ys)=>k ys
 |_=>False
def w6{a:Addr}{k:List Y->Prop}(h:fU L a k):∃ys,L a=some (.lst ys)/\k ys:=by
 unfold fU at h;split at h
 ·rename_i ys e;exact⟨ys,e,h⟩
 ·exact h.elim
def qr{a:Addr}{k:List Y->Prop}(e:L a=some (.lst ys))(h:k ys):fU L a k:=by unfold fU;rw[e];exact h
def nN(L:qk)(x:Y)(k:List Y->Prop):Prop:=match x with
 |.tup ys=>k ys
 |.sq ys=>k ys
 |.ref a=>fU L a k
 |_=>False
def wv{a:Addr}(h:L a=some (.lst ys)):cK L (.ref a)=some ys:=by show(match L a with|some (.lst ys)=>some ys|_=>none)=some ys;rw[h]
def bN{x:Y}{k:List Y->Prop}(h:nN L x k):∃ys,cK L x=some ys/\k ys:=by
 cases x with
 |tup ys=>exact⟨ys,rfl,h⟩
 |sq ys=>exact⟨ys,rfl,h⟩
 |ref a=>obtain⟨ys,e,q⟩:=w6 h;exact⟨ys,wv e,q⟩
 |_=>exact h.elim
def qM{a:Addr}(h:cK L (.ref a)=some ys):L a=some (.lst ys):=by
 have I:(match L a with|some (.lst ys)=>some ys|_=>none)=some ys:=h;split at I
 ·rename_i e;cases I;exact e
 ·cases I
def Pe{x:Y}{k:List Y->Prop}(e:cK L x=some ys)(h:k ys):nN L x k:=by cases x with|tup I=>cases e;exact h|sq I=>cases e;exact h|ref a=>exact qr (qM e) h|_=>cases e
def qb{a:Addr}{k:List Y->Prop}(e:L a=some (.lst ys))(h:k ys):nN L (.ref a) k:=Pe (wv e) h
def gE(x y:Y)(L:qk)(Q:YK):Prop:=match x,y with
 |.int i,.int j=>Q (.int<|i+j) L
 |.str a,.str b=>a.length+b.length<=sizeLine/\Q (.str<|a++b) L
 |.ref a,.ref b=>∃ys zs,L a=some (.lst ys)/\L b=some (.lst zs)/\ys.length+zs.length<=sizeLine/\∀p,L p=none->Q (.ref p) (qi L p<|.lst<|ys++zs)
 |_,_=>False
def e_(L:qk)(Q:α->qk->Prop):Option α->Prop
 |some v=>Q v L
 |none=>False
def ve(kvs:List<|j9×Y)(k:j9):Option Y:=(kvs.find? λp=>decide<|p.1=k).map (·.2)
@[irreducible] def oo (L:qk) (a:Addr) (k:List (j9×Y)->Prop):Prop:=match L a with
 |some (.dct kvs)=>k kvs
 |_=>False
def dg{a:Addr}{k:List (j9×Y)->Prop}(h:oo L a k):∃kvs,L a=some (.dct kvs)/\k kvs:=by
 unfold oo at h;split at h
 ·rename_i I e;exact⟨I,e,h⟩
 ·exact h.elim
def jd{a:Addr}{k:List (j9×Y)->Prop}(e:L a=some (.dct kvs))(h:k kvs):oo L a k:=by unfold oo;rw[e];exact h
def fM(x y:Y)(L:qk)(Q:YK):Prop:=match x,y with
 |.str z,.int i=>z.length<=sizeLine/\e_ L (λc L=>Q (.str ⟨#[c]⟩) L) (dW z.cps.toList i)
 |.cd kvs,.str k=>e_ L (λs L=>Q (.str s) L)<|kvs.lookup k
 |.ref a,.str k=>oo L a λkvs=>e_ L Q<|ve kvs<|.inr k
 |x,.int i=>nN L x λys=>e_ L Q<|dW ys i
 |_,_=>False
def zN(xs:List Y)(L:qk)(Q:YK):Prop:=match xs with
 |[.str z]=>z.length<=sizeLine/\Q (.int z.length) L
 |[x]=>nN L x λys=>Q (.int ys.length) L
 |_=>False
def m9(xs:List Y)(L:qk)(Q:YK):Prop:=match xs with
 |[.int i,.int j]=>Q (.int<|max i j) L
 |_=>False
def pI(xs:List Y)(L:qk)(Q:YK):Prop:=match xs with
 |[.int i,.int j]=>Q (.int<|min i j) L
 |_=>False
inductive sO where
 |non|bool|int|str|tuple|list|dict
def sO.nm:sO->Vy
 |.non => "NoneType"
 |.bool => "bool"
 |.int => "int"
 |.str => "str"
 |.tuple => "tuple"
 |.list => "list"
 |.dict => "dict"
def Fk(L:qk):Y->Option sO
 |.non=>some .non
 |.bl _=>some .bool
 |.int _=>some .int
 |.str _=>some .str
 |.tup _=>some .tuple
 |.sq _=>some .list
 |.ref a=>match L a with
  |some (.lst _)=>some .list
  |some (.dct _)=>some .dict
  |_=>none
 |_=>none
def Pf{a:Addr}(h:L a=some (.lst ys)):Fk L (.ref a)=some .list:=by show(match L a with|some (.lst _)=>some sO.list|some (.dct _)=>some .dict|_=>none)=some .list;rw[h]
def GW:sO->sO->Bool
 |.bool,.int=>true
 |.bool,.bool=>true
 |.int,.int=>true
 |.str,.str=>true
 |.tuple,.tuple=>true
 |.list,.list=>true
 |.dict,.dict=>true
 |.non,.non=>true
 |_,_=>false
@[irreducible] def FH (L:qk) (a:Addr) (k:sO->Prop):Prop:=match Fk L (.ref a) with
 |some T=>k T
 |none=>False
def Pg{a:Addr}{k:sO->Prop}(h:FH L a k):∃T,Fk L (.ref a)=some T/\k T:=by
 unfold FH at h;split at h
 ·rename_i T e;exact⟨T,e,h⟩
 ·exact h.elim
def iN{a:Addr}{k:sO->Prop}(e:L a=some (.lst ys))(h:k .list):FH L a k:=by unfold FH;rw[Pf e];exact h
def Im(L:qk)(x:Y)(k:sO->Prop):Prop:=match x with
 |.non=>k .non
 |.bl _=>k .bool
 |.int _=>k .int
 |.str _=>k .str
 |.tup _=>k .tuple
 |.sq _=>k .list
 |.ref a=>FH L a k
 |_=>False
def Ph{x:Y}{k:sO->Prop}(h:Im L x k):∃T,Fk L x=some T/\k T:=by cases x with|ref a=>exact Pg h|ty n=>exact h.elim|cd k=>exact h.elim|_=>exact⟨_,rfl,h⟩
def Pj(S:sO)(te:xu)(τ:jo)(L:qk)(Q:YK):Prop:=te τ L λx L1=>Im L1 x λT=>Q (.bl<|GW T S) L1
def oC:Y->Bool
 |.non=>true
 |.bl _=>true
 |.int _=>true
 |.str _=>true
 |_=>false
def fW:Y->V
 |.non=>.non
 |.bl b=>.bl b
 |.int i=>.int i
 |.str x=>.str x
 |_=>.ty "?"
def RV.flat :∀{y:Y} {v:V},oC y=true->RV G H y v->v=fW y:=by intro y v e h;cases y<;>first|exact h|cases e
theorem gl:∀{y:Y},oC y=true->af (fW y)=true
 |.non,_=>rfl
 |.bl _,_=>rfl
 |.int _,_=>rfl
 |.str _,_=>rfl
theorem xt.flat :∀{ys:List Y} {xs:Vz},ys.all oC=true->xt G H ys xs->xs=ys.map fW
 |[],_,_,h=>h
 |y::ys,_,f,⟨x,I,e,r,s⟩=>by rw[Eg,Bd] at f;rw[e,r.flat f.1,s.flat f.2];rfl
def Io:Y->Bool
 |.ref _=>true
 |.sq _=>true
 |_=>false
def x9(L:qk):Nat->Y->Da->Prop
 |0,y,d=>oC y=true/\d=.s (fW y)
 |n+1,y,d=>(oC y=true/\d=.s (fW y))\/(∃ys ds,y=.tup ys/\d=.tup ds/\Paired (x9 L n) ys ds)\/(∃ys ds,Io y=true/\d=.lst ds/\cK L y=some ys/\Paired (x9 L n) ys ds)
def Fl:Y->Bool
 |.ref _=>true
 |.tup _=>true
 |.sq _=>true
 |_=>false
def h_(neg:Bool)(x y:Y)(L:qk)(Q:YK):Prop:=match x,y with
 |.int i,.int j=>Q (.bl<|nb neg<|decide<|i=j) L
 |.str i,.str j=>Q (.bl<|nb neg<|decide<|i=j) L
 |.bl i,.bl j=>Q (.bl<|nb neg<|decide<|i=j) L
 |x,y=>Fl x=true/\Fl y=true/\∃n m d e,n<=128/\x9 L n x d/\x9 L m y e/\Q (.bl<|nb neg<|Da.eq d e) L
def gJ(neg:Bool)(ta:xu)(τ:jo)(L:qk)(Q:YK):Prop:=ta τ L λx L1=>match x with
 |.non=>Q (.bl<|!neg) L1
 |_=>Q (.bl neg) L1
def yB(t:xu)(τ:jo)(L:qk)(Q:Bool->qk->Prop):Prop:=t τ L λx L1=>match x with
 |.bl c=>Q c L1
 |_=>False
def vZ(t u:lQ)(τ:jo)(L:qk)(Q:Bool->qk->Prop):Prop:=t τ L λc L1=>we c (u τ L1 Q)<|Q false L1
def Fm(t u:lQ)(τ:jo)(L:qk)(Q:Bool->qk->Prop):Prop:=t τ L λc L1=>we c (Q true L1)<|u τ L1 Q
def yo(t:lQ)(τ:jo)(L:qk)(Q:Bool->qk->Prop):Prop:=t τ L λc L1=>Q (!c) L1
def GX(ta tb:xu)(τ:jo)(L:qk)(Q:YK):Prop:=ta τ L λx L1=>match x with
 |.bl c=>we c (tb τ L1 Q)<|Q (.bl false) L1
 |_=>False
def GY(ta:xu)(τ:jo)(L:qk)(Q:YK):Prop:=ta τ L λx L1=>match x with
 |.bl c=>Q (.bl<|!c) L1
 |_=>False
def FI(t:lQ)(ta tb:xu)(τ:jo)(L:qk)(Q:YK):Prop:=t τ L λc L1=>we c (ta τ L1 Q)<|tb τ L1 Q
def jn(_:jo)(L:qk)(Q:List Y->qk->Prop):Prop:=Q [] L
def qo(ta:xu)(tr:fS)(τ:jo)(L:qk)(Q:List Y->qk->Prop):Prop:=ta τ L λx L1=>tr τ L1 λxs L2=>Q (x::xs) L2
def aE(t:fS)(τ:jo)(L:qk)(Q:YK):Prop:=t τ L λys L1=>match Nat.ble ys.length 1000 with
 |true=>Q (.tup ys) L1
 |false=>False
def jT(t:fS)(τ:jo)(L:qk)(Q:YK):Prop:=t τ L λys L1=>match Nat.ble ys.length 1000 with
 |true=>∀p,L1 p=none->Q (.ref p) (qi L1 p<|.lst ys)
 |false=>False
def cI(r:List Y->qk->YK->Prop)(t:fS)(τ:jo)(L:qk)(Q:YK):Prop:=t τ L λvs L1=>r vs L1 Q
abbrev FJ:=jo->qk->(Vq->qk->Prop)->Prop
def gj(_:jo)(L:qk)(Q:Vq->qk->Prop):Prop:=Q none L
def ue(t:xu)(τ:jo)(L:qk)(Q:Vq->qk->Prop):Prop:=t τ L λx L1=>match x with
 |.int i=>Q (some i) L1
 |_=>False
def gD(xs:List Y)(lo hi:Vq):List Y:=(xs.drop<|HT.sIx xs.length 0 lo).take<|HT.sIx xs.length xs.length hi-HT.sIx xs.length 0 lo
def Ip(x:Y)(lo hi:Vq)(L:qk)(Q:YK):Prop:=match x with
 |.ref a=>fU L a λys=>∀p,L p=none->Q (.ref p) (qi L p<|.lst<|gD ys lo hi)
 |.sq ys=>∀p,L p=none->Q (.ref p) (qi L p<|.lst<|gD ys lo hi)
 |_=>False
def FK(r:Y->Vq->Vq->qk->YK->Prop)(te:xu)(tl th:FJ)(τ:jo)(L:qk)(Q:YK):Prop:=te τ L λx L1=>tl τ L1 λl L2=>th τ L2 λu L3=>r x l u L3 Q
def zm(t u:a9)(D:x5)(τ:jo)(L:qk):Prop:=t {D with nx:=u D} τ L
def wm(D:x5)(τ:jo)(L:qk):Prop:=D.nx τ L
def Pk(D:x5)(τ:jo)(L:qk):Prop:=D.ct τ L
def kj(te:xu)(D:x5)(τ:jo)(L:qk):Prop:=te τ L λ_ L1=>D.nx τ L1
def aY(te:xu)(D:x5)(τ:jo)(L:qk):Prop:=te τ L D.rt
def Iq(D:x5)(_:jo)(L:qk):Prop:=D.rt .non L
def am(c:lQ)(t u:a9)(D:x5)(τ:jo)(L:qk):Prop:=c τ L λb L1=>we b (t D τ L1)<|u D τ L1
def x8(te:xu)(g:o6)(D:x5)(τ:jo)(L:qk):Prop:=te τ L λx L1=>g x τ L1 D.nx
def dm:jo->Nat->Y->jo
 |[],_,_=>[]
 |_::r,0,y=>some y::r
 |o::r,i+1,y=>o::dm r i y
theorem ak:∀(τ:jo) (i:Nat) (y:Y),dm τ i y=τ.set i (some y)
 |[],_,_=>rfl
 |_::_,0,_=>rfl
 |o::r,i+1,y=>by rw[dm,ak r i y];rfl
def qp(i:Nat)(y:Y)(τ:jo)(L:qk)(Q:jo->qk->Prop):Prop:=Q (dm τ i y) L
def gu(ys:List Y)(τ:jo)(L:qk)(Q:jo->qk->Prop):Prop:=match ys with
 |[]=>Q τ L
 |_=>False
def vj(t:o6)(u:uu)(ys:List Y)(τ:jo)(L:qk)(Q:jo->qk->Prop):Prop:=match ys with
 |[]=>False
 |y::r=>t y τ L λI L'=>u r I L' Q
def lK(n:Nat)(t:uu)(y:Y)(τ:jo)(L:qk)(Q:jo->qk->Prop):Prop:=match y with
 |.tup ys=>match ys.length==n with
  |true=>t ys τ L Q
  |false=>False
 |_=>False
def F7(i j:Nat)(ta:fS)(D:x5)(τ:jo)(L:qk):Prop:=ta τ L λvs L1=>match vs with
 |[v,w]=>D.nx (dm (dm τ i v) j w) L1
 |_=>False
inductive iO{α:Type}(W:α->qk->Prop)(x:α)(L:qk):Prop
 |mk:∀L',qh L' L->W x L'->iO W x L
def Ir{W:α->qk->Prop}{x:α}(h:W x L):iO W x L:=⟨L,EK L,h⟩
inductive sD(c:lQ)(tb:a9)(D:x5)(τ:jo)(L:qk):Prop
 |mk:∀W:Nat->jo->qk->Prop,(∃m,W m τ L)->(∀m τ L,W m τ L->
 c τ L λb L1=>we b (∃N:jo->qk->Prop,(∀τ' L',N τ' L'->∃m',m'<m/\W m' τ' L')/\tb {D with nx:=iO N,ct:=iO N,bk:=D.nx} τ L1)<|D.nx τ L1)->sD c tb D τ L
inductive uP(ys:List Y)(keep:qk->Prop)(g:o6)(tb:a9)(D:x5)(τ:jo)(L1:qk):Prop
 |mk:∀W:Nat->jo->qk->Prop,W 0 τ L1->(∀i τ L,W i τ L->keep L)->
 (∀i y τ L,ys[i]?=some y->W i τ L->g y τ L λτ2 L2=>tb {D with nx:=iO<|W<|i+1,ct:=iO<|W<|i+1,bk:=D.nx} τ2 L2)->(∀τ L,W ys.length τ L->D.nx τ L)->uP ys keep g tb D τ L1
def kc{keep:qk->Prop}{tb:a9}{D:x5}(h:uP ys keep g tb D τ L1):uP ys keep g tb D τ L1:=h
def Pl{keep:qk->Prop}{tb:a9}{D:x5}(h:uP ys keep g tb D τ L1):uP ys keep g tb D τ L1:=h
def oh(wi:p_)(g:o6)(tb:a9)(D:x5)(τ:jo)(L:qk):Prop:=wi τ L λys keep L1=>uP ys keep g tb D τ L1
@[irreducible] def tV (L:qk) (a:Addr) (R:List Y->(qk->Prop)->qk->Prop):Prop:=match L a with
 |some (.lst ys)=>R ys (λL=>L a=some (.lst ys)) L
 |_=>False
def wb{a:Addr}{R:List Y->(qk->Prop)->qk->Prop}(h:L a=some (.lst ys))(q:∀keep:qk->Prop,(∀L',L' a=L a->keep L')->R ys keep L):tV L a R:=by unfold tV;rw[h];exact q _ λL' I=>I.trans h
def sg{a:Addr}{R:List Y->(qk->Prop)->qk->Prop}(h:tV L a R):∃ys keep,cK L (.ref a)=some ys/\keep L/\(∀L',keep L'->cK L' (.ref a)=some ys)/\R ys keep L:=by
 unfold tV at h;split at h
 ·rename_i ys e;exact⟨ys,_,wv e,e,λL' I=>wv I,h⟩
 ·exact h.elim
def gH(tl:xu)(τ:jo)(L:qk)(R:List Y->(qk->Prop)->qk->Prop):Prop:=tl τ L λx L1=>match x with
 |.ref a=>tV L1 a R
 |.sq ys=>R ys (λ_=>True) L1
 |_=>False
def GZ(tl:xu)(τ:jo)(L:qk)(R:List Y->(qk->Prop)->qk->Prop):Prop:=tl τ L λx L1=>match x with
 |.tup ys=>R ys (λ_=>True) L1
 |_=>False
def ag(lo:Int)(n:Nat):List Y:=(List.range n).map λk=>.int<|lo+(k:Nat)
def mn(ta:fS)(τ:jo)(L:qk)(R:List Y->(qk->Prop)->qk->Prop):Prop:=ta τ L λvs L1=>match vs with
 |[.int j]=>(-(2 ^ 62)<=j/\j<2 ^ 62)/\R (ag 0 j.toNat) (λ_=>True) L1
 |_=>False
def Pm(_:jo)(L:qk)(Q:Bool->qk->Prop):Prop:=Q true L
inductive i_(ys:List Y)(keep:qk->Prop)(n:Nat)(g:o6)(tc:lQ)(te:xu)(τ:jo)(L1:qk)(Q:YK):Prop
 |mk:ys.length<sizeLine->∀W:Nat->List Y->qk->Prop,W 0 [] L1->(∀i zs L,W i zs L->keep L)->
 (∀i y zs L,ys[i]?=some y->W i zs L->g y (τ++List.replicate n none) L λτ2 L2=>tc τ2 L2 λb L3=>we b (te τ2 L3 λz L4=>iO (W<|i+1) (zs++[z]) L4)<|iO (W<|i+1) zs L3)->
 (∀zs L,W ys.length zs L->∀p,L p=none->Q (.ref p) (qi L p<|.lst zs))->i_ ys keep n g tc te τ L1 Q
def Pn{keep:qk->Prop}{tc:lQ}{Q:YK}(h:i_ ys keep n g tc te τ L1 Q):i_ ys keep n g tc te τ L1 Q:=h
def Po{keep:qk->Prop}{tc:lQ}{Q:YK}(h:i_ ys keep n g tc te τ L1 Q):i_ ys keep n g tc te τ L1 Q:=h
def u_(n:Nat)(wi:p_)(g:o6)(tc:lQ)(te:xu)(τ:jo)(L:qk)(Q:YK):Prop:=wi τ L λys keep L1=>i_ ys keep n g tc te τ L1 Q
abbrev kh:=List Y->qk->YK->Prop
def xm(sp:kh)(t:fS)(τ:jo)(L:qk)(Q:YK):Prop:=t τ L λys L1=>sp ys L1 Q
def jt(x:Y)(vs:List Y)(L:qk)(Q:YK):Prop:=match x,vs with
 |.ref a,[v]=>fU L a λys=>ys.length<sizeLine/\Q .non (qi L a<|.lst<|ys++[v])
 |_,_=>False
def wn.imp{f:Vt->Vt->Sem Vt}{r U:R2}(h:wn X f r)(q:∀x y H Q,U x y H Q->r x y H Q):wn X f U:=λJ s g H x y v u Q I j l z=>h J s g H x y v u Q I j l<|q x y H Q z
def wn.imq{f:Vt->Vt->Sem Vt}{r:R2}{u:qS}(h:wn X f r)(q:∀x y H Q x3 I L J,RV G H x3 x->RV G H I y->zw G H L->u x3 I L J->uC G H J Q->r x y H Q):wn X f (gQ G u):=wn.imp h λx y H Q ⟨x3,I,L,J,a,b,c,d,e⟩=>q x y H Q x3 I L J a b c d e
def jg.imp{f:Vt}{r U:Vz->Hp->VK->Prop}(h:jg X f r)(q:∀x H Q,U x H Q->r x H Q):jg X f U:=λJ s g H x v Q I j z=>h J s g H x v Q I j<|q x H Q z
def jg.imq{f:Vt}{r:Vz->Hp->VK->Prop}{u:List Y->qk->YK->Prop}(h:jg X f r)(q:∀xs H Q ys L I,xt G H ys xs->zw G H L->u ys L I->uC G H I Q->r xs H Q):jg X f (b_ G u):=jg.imp h λxs H Q ⟨ys,L,I,a,b,c,d⟩=>q xs H Q ys L I a b c d
abbrev EY:=@jg.imq
def IxR.imp{r U:R2}(h:IxR X r)(q:∀x y H Q,U x y H Q->r x y H Q):IxR X U:=λvalue slice J s g H x y v u Q I j l z=>h value slice J s g H x y v u Q I j l<|q x y H Q z
def qT.imp{id:Vy}{r U:V->Vz->Hp->VK->Prop}(h:qT X id r)(q:∀x xs H Q,U x xs H Q->r x xs H Q):qT X id U:=λJ s g H x xs v j Q I l o z=>h J s g H x xs v j Q I l o<|q x xs H Q z
def oX{y:Y}(U:zw G H L)(r:RV G H y v)(h:cK L y=some ys):∃p xs,v=.ref p/\(aS G.K H p xs\/dS G.K H p xs)/\xt G H ys xs:=by
 cases y with
 |tup J=>
  obtain⟨a,xs,e,s,q⟩:=r;cases h;exact⟨a,xs,e,.inr s,q⟩
 |sq J=>
  obtain⟨a,xs,e,s,q⟩:=r;cases h;exact⟨a,xs,e,.inl s.sq,q⟩
 |ref a=>
  cases (show v=.ref a from r);have I:(match L a with|some (.lst ys)=>some ys|_=>none)=some ys:=h;split at I
  ·rename_i J e;cases I;obtain⟨xs,g,q⟩:=U a _ e;exact⟨a,xs,rfl,.inl<|aS.of g,q⟩
  ·cases I
 |_=>cases h
def Pp{i:Int}{y:Y}(s:xt G H ys xs)(h:dW ys i=some y):∃x,dW xs i=some x/\RV G H y x:=by
 unfold dW at h ⊢;rw[<-s.length];cases e:wG ys.length i with
 |none=>rw[e] at h;cases h
 |some j=>
  rw[e] at h;exact s.get (i:=j) h
section
variable {a b c:Expr}{tc:xu}
abbrev QE(X:Cx)(e:Expr)(t:xu):Prop:=PE X e<|oZ X.g3 t
abbrev QT(X:Cx)(e:Expr)(t:lQ):Prop:=PT X e<|g_ X.g3 t
abbrev QW(X:Cx)(e:Expr)(t:lQ):Prop:=PW X e<|g_ X.g3 t
abbrev QA(X:Cx)(es:Vm)(t:fS):Prop:=PA X es<|Il X.g3 t
abbrev QS(X:Cx)(st:Stmt)(t:a9):Prop:=PS X st<|Fi X.g3 t
abbrev uJ(X:Cx)(st:Vn)(t:a9):Prop:=gT X st<|Fi X.g3 t
abbrev QG(X:Cx)(e:Expr)(g:o6):Prop:=PG X e<|F6 X.g3 g
abbrev FM(X:Cx)(es:Vm)(g:uu):Prop:=PGs X es<|O' X.g3 g
abbrev QI(X:Cx)(tg it:Expr)(w:p_):Prop:=PI X tg it<|GV X.g3 w
abbrev QF(X:Cx)(es:Vm)(t:lQ):Prop:=PF X es<|g_ X.g3 t
def QE.of_var(h:PE X e<|Gu i):QE X e (qf i):=EO h λj H Q l L o I J z k=>by
 unfold qf at z;split at z
 ·rename_i y U;obtain⟨v,ev,g⟩:=I.get i y<|rh _ _ U;exact⟨v,ev,k v H y L (EL _) J g z⟩
 ·exact z.elim
def QE.of_c{y:Y}(h:PE X e<|tC v)(q:∀H,RV X.g3 H y v):QE X e (yC y):=EO h λJ H Q U L g j I z k=>k v H y L (EL _) I (q H) z
def qv(i:Nat)(hN:X.N[i]?=some x:=by rfl)(J:y_ X.env.scope x:=by first|exact Or.inl rfl|exact Or.inr (Or.inl rfl)|exact Or.inr<|Or.inr rfl)(hd:Fb x:=by decide)
 (I:Fc x:=by decide):QE X (.Name x pos) (qf i):=QE.of_var<|pv i hN J hd I
def aa :QE X (.Constant .none j pos) (yC .non):=QE.of_c LW λ_=>rfl
def bU{b:Bool} :QE X (.Constant (.bool b) j pos) (yC<|.bl b):=QE.of_c LV λ_=>rfl
def qd{i:Int} :QE X (.Constant (.int i) j pos) (yC<|.int i):=QE.of_c LU λ_=>rfl
def jv :QE X (.Constant (.str x) j pos) (yC<|.str x):=QE.of_c cx λ_=>rfl
def Pq{c:Addr}{y:Y}(I:Gl X x)(J:X.mg x=some (.ref c))(q:∀H,RV X.g3 H y<|.ref c)(hd:Fb x:=by decide):QE X (.Name x pos) (yC y):=QE.of_c (Ih I J hd) q
def yk{r:qS}(σ:St)(H:Hp)(Q:VK):oZ G (vg r ta tb) σ H Q->Fy (gQ G r) (oZ G ta) (oZ G tb) σ H Q:=λ⟨j,L,t,l,C,z,k⟩=>
 ⟨j,L,_,l,C,z,λv H1 y T o I J z1=>⟨j,T,_,l.ts o,I,z1,λv2 H2 y2 L2 p U g z2=>⟨y,y2,L2,t,J.ts p,g,U,z2,k.ts<|o.trans p⟩⟩⟩
def qm{op:Operator}{r:qS}(h:wn X (binaryOp op)<|gQ X.g3 r)(I:QE X a ta)(J:QE X b tb):QE X (.BinOp a op b pos) (vg r ta tb):=EX (Nc h I J) yk
def Pr{r:qS}(h:IxR X<|gQ X.g3 r)(I:QE X a ta)(J:QE X b tb)(U:qU b):QE X (.Subscript a b pos) (vg r ta tb):=EX (NZ h I J U) yk
def sE{op:CmpOp}{r:qS}(h:wn X (compareOp op)<|gQ X.g3 r)(I:QE X a ta)(J:QE X b tb)(U:behindInMarks op b=false):QE X (.Compare a [op] [b] pos) (vg r ta tb):=EX (Nn h I J U) yk
def G4{t:xu}(σ:St)(H:Hp)(Q:Bool->Hp->Prop):g_ G (yB t) σ H Q->GH (oZ G t) σ H Q:=λ⟨g,L,C,j,l,z,k⟩=>
 ⟨g,L,_,j,l,z,λv o y p r I J U=>by cases y with|bl b=>exact⟨b,J,k b o p r I U⟩|_=>exact U.elim⟩
def Iu{t:xu}(σ:St)(H:Hp)(Q:Bool->Hp->Prop):g_ G (yB t) σ H Q->L2.tB (oZ G t) σ H Q:=G4 σ H Q
def je{op:CmpOp}{r:qS}(h:wn X (compareOp op)<|gQ X.g3 r)(J:QE X a ta)(U:QE X b tb)(g:behindInMarks op b=false):QT X (.Compare a [op] [b] pos) (yB<|vg r ta tb):=
 PT.imp (No h J U g) λI H Q q=>by have j:=G4 I H Q q;obtain⟨l,L,o,p,t,z,k⟩:=j;exact yk I H _ ⟨l,L,o,p,t,z,k⟩
def aB(h:QE X e te)(I:∀whole,isTrue e X.env whole=(do let v <-whole;standAt e.pos;holding [v] (truthy v)):=by intro _;rfl):QT X e (yB te):=PT.imp (Ma h I) Iu
def G5{f:Vt->Vt->Sem Vt}{C:Int->Int->Prop}{g:Int->Int->V}{g3:Int->Int->Y}(h:wn X f<|rI C g)(e:∀i j H,RV X.g3 H (g3 i j)<|g i j):wn X f (gQ X.g3<|yI C g3):=wn.imq h λx y H Q J I L p U l o z k=>by
 cases J with
 |int i=>
  cases I with|int j=>exact⟨i,j,U,l,z.1,k _ H _ L (EL _) o (e i j H) z.2⟩|_=>exact z.elim
 |_=>cases I<;>exact z.elim
def F8{f:Vt->Vt->Sem Vt}{g:Int->Int->V}{g3:Int->Int->Y}(h:wn X f<|o_ g)(e:∀i j H,RV X.g3 H (g3 i j)<|g i j):wn X f (gQ X.g3<|k_ g3):=wn.imq h λx y H Q J I L p U l o z k=>by
 cases J with
 |int i=>
  cases I with|int j=>exact⟨i,j,U,l,k _ H _ L (EL _) o (e i j H) z⟩|_=>exact z.elim
 |_=>cases I<;>exact z.elim
def cU:wn X (binaryOp .Sub) (gQ X.g3<|k_ λi j=>.int<|i-j):=F8 Nf λ_ _ _=>rfl
def iI:wn X (binaryOp .Mult) (gQ X.g3<|yI acn λi j=>.int<|i*j):=G5 Ng λ_ _ _=>rfl
def vf:wn X (binaryOp .FloorDiv) (gQ X.g3<|yI GG λi j=>.int<|i / j):=G5 Nh λ_ _ _=>rfl
def js:wn X (binaryOp .Mod) (gQ X.g3<|yI (λ_ j=>0<j) λi j=>.int<|i % j):=G5 Ni λ_ _ _=>rfl
def pJ:wn X (compareOp .Lt) (gQ X.g3<|k_ λi j=>.bl<|decide<|i<j):=F8 Nk λ_ _ _=>rfl
def Ps:wn X (compareOp .LtE) (gQ X.g3<|k_ λi j=>.bl<|decide<|i<=j):=F8 Nl λ_ _ _=>rfl
def yn:wn X (compareOp .Gt) (gQ X.g3<|k_ λi j=>.bl<|decide<|j<i):=F8 Nm λ_ _ _=>rfl
def ju:wn X (binaryOp .Add) (gQ X.g3 gE):=wn.imq Oy λx y H Q t J L Q3 U g I z k=>by
 cases t with
 |int i=>
  cases J with|int j=>cases U;cases g;exact k _ H _ L (EL _) I (by rfl) z|_=>exact z.elim
 |str i=>
  cases J with|str j=>cases U;cases g;exact⟨z.1,k _ H _ L (EL _) I (by rfl) z.2⟩|_=>exact z.elim
 |ref a=>
  cases J with
  |ref b=>
   cases U;cases g;obtain⟨ys,zs,C,T,hz,q⟩:=z;obtain⟨xs,h1,o⟩:=I a _ C;obtain⟨us,h2,r⟩:=I b _ T;refine⟨xs,us,h1,h2,by rw[<-o.length,<-r.length];exact hz,λp l=>?_⟩;exact k _ _ _ _ (EN l) (I.newL l<|o.app r) (by rfl)<|q p<|I.none l
  |_=>exact z.elim
 |_=>cases J<;>exact z.elim
def u7{kvs:List<|Str×Str}{k:Str}(h:kvs.lookup k=some x):bT (kvs.map λp=>((Sum.inr p.1:j9),V.str p.2)) (Sum.inr k)=some (V.str x):=by
 induction kvs with
 |nil=>simp at h
 |cons p r I=>
  obtain⟨a,b⟩:=p;unfold bT;rw[AJ,BE];rw[BG] at h;by_cases c:k=a
  ·subst c;simp at h;simp[h]
  ·have J:(k==a)=false:=by simpa using c
   rw[J] at h;have U:decide ((Sum.inr a:j9)=Sum.inr k)=false:=AD λz=>c (Sum.inr.inj z).symm;simp only[U];exact I h
def qL{xs:List<|j9×V}{k:j9}{y:Y}(p:Paired (λ(p:j9×Y) (q:j9×V)=>p.1=q.1/\RV G H p.2 q.2) kvs xs)(h:ve kvs k=some y):∃x,bT xs k=some x/\RV G H y x:=by
 induction p with
 |nil=>cases h
 |@cons a b _ _ r t U=>
  obtain⟨I,l⟩:=a;obtain⟨g,j⟩:=b;obtain⟨e,r⟩:=r;cases (show I=g from e);unfold ve at h;unfold bT;rw[BE] at h ⊢;by_cases c:I=k
  ·have J:decide (I=k)=true:=AK c;simp only[J] at h ⊢;cases h;exact⟨j,rfl,r⟩
  ·have J:decide (I=k)=false:=AD c;simp only[J] at h ⊢;exact U h
def Pu(K:Ah)(P:Vv)(w:Vw)(hK:X.K=K:=by rfl)(hP:X.prog=P:=by rfl)(hw:X.w=w:=by rfl):IxR X (gQ ⟨K,P,w⟩ fM):=by
 subst hK hP hw;refine IxR.imp Oz λx y H Q ⟨x3,j,L,Q3,I,l,o,z,k⟩=>?_;have seq:∀{i:Int} {x3:Y},RV X.g3 H x3 x->y=.int i->(nN L x3 λg=>e_ L Q3<|dW g i)->Ie X.K X.prog X.w x y H Q:=by
  intro i x3 I ey z;subst ey;obtain⟨g,es,z⟩:=bN z;obtain⟨p,C,e,sq,rv⟩:=oX o I es;subst e;cases ea:dW g i with
  |none=>rw[ea] at z;exact z.elim
  |some y=>
   rw[ea] at z;obtain⟨x,ex,T⟩:=Pp rv ea;exact⟨C,x,sq,ex,k _ H _ L (EL _) o T z⟩
 cases x3 with
 |str s=>
  cases j with
  |int i=>
   cases I;cases l;obtain⟨z1,r⟩:=z;cases ea:dW s.cps.toList i with
   |none=>rw[ea] at r;exact r.elim
   |some c=>rw[ea] at r;exact⟨z1,c,ea,k _ H _ L (EL _) o (by rfl) r⟩
  |_=>exact z.elim
 |cd J=>
  cases j with
  |str s=>
   obtain⟨a,ea,kd⟩:=I;cases ea;cases l;have U:e_ L (λs L=>Q3 (.str s) L) (J.lookup s):=z;cases el:J.lookup s with
   |none=>rw[el] at U;exact U.elim
   |some t=>rw[el] at U;exact⟨_,_,.inr kd,u7 el,k _ H _ L (EL _) o (by rfl) U⟩
  |int i=>exact z.elim
  |_=>exact z.elim
 |ref a=>
  cases j with
  |int i=>exact seq (x3:=.ref a) I l z
  |str s=>
   cases I;cases l;obtain⟨J,e,U⟩:=dg z;obtain⟨C,e2,pr⟩:=o a _ e;cases ev:ve J (Sum.inr s) with
   |none=>rw[ev] at U;exact U.elim
   |some y=>
    rw[ev] at U;obtain⟨x,ex,I⟩:=qL pr ev;exact⟨C,x,.inl<|.inl e2,ex,k _ H _ L (EL _) o I U⟩
  |_=>exact z.elim
 |tup g=>
  cases j with|int i=>exact seq (x3:=.tup g) I l z|_=>exact z.elim
 |sq g=>
  cases j with|int i=>exact seq (x3:=.sq g) I l z|_=>exact z.elim
 |_=>cases j<;>exact z.elim
def xt.inv1{y:Y}(h:xt G H [y] xs):∃x,xs=[x]/\RV G H y x:=by obtain⟨x,I,e,r,s⟩:=h;cases (show I=[] from s);exact⟨x,e,r⟩
def xt.inv2{y J:Y}(h:xt G H [y,J] xs):∃x I,xs=[x,I]/\RV G H y x/\RV G H J I:=by obtain⟨x,U,e,r,s⟩:=h;obtain⟨I,g,j⟩:=s.inv1;exact⟨x,I,by rw[e,g],r,j⟩
def Pw(K:Ah)(P:Vv)(w:Vw)(g:X.K=K:=by rfl)(j:X.prog=P:=by rfl)(hw:X.w=w:=by rfl):jg X (.builtin "len") (b_ ⟨K,P,w⟩ zN):=by
 subst g j hw;refine EY zQ λC H Q l L T U I z k=>?_;unfold zN at z;split at z
 ·obtain⟨x,rfl,r⟩:=U.inv1;cases r;exact⟨z.1,k _ H _ L (EL _) I (by rfl) z.2⟩
 ·rename_i y _;obtain⟨x,rfl,r⟩:=U.inv1;obtain⟨l,o,z⟩:=bN z;obtain⟨p,t,e,sq,J⟩:=oX I r o;subst e;refine⟨t,sq,?_⟩;rw[<-J.length];exact k _ H _ L (EL _) I (by rfl) z
 ·exact z.elim
def Iv(i j:Int):(if j > i then j else i)=max i j:=by split<;>lia
def Iw(i j:Int):(if j<i then j else i)=min i j:=by split<;>lia
def qI(hc:X.calm=true:=by rfl):jg X (.builtin "max") (b_ X.g3 m9):=EY (Np hc) λl H Q o L p I J z k=>by
 unfold m9 at z;split at z
 ·rename_i i j;obtain⟨x,r,rfl,U,g⟩:=I.inv2;cases U;cases g;refine⟨i,j,rfl,?_⟩;rw[Iv];exact k _ H _ L (EL _) J (by rfl) z
 ·exact z.elim
def sW(hc:X.calm=true:=by rfl):jg X (.builtin "min") (b_ X.g3 pI):=EY (Nq hc) λl H Q o L p I J z k=>by
 unfold pI at z;split at z
 ·rename_i i j;obtain⟨x,r,rfl,U,g⟩:=I.inv2;cases U;cases g;refine⟨i,j,rfl,?_⟩;rw[Iw];exact k _ H _ L (EL _) J (by rfl) z
 ·exact z.elim
end
section
variable {a b c:Expr}{tc:xu}
def dk{a:Addr}(J:zw G H L)(h:cK L (.ref a)=some ys):∃xs,aS G.K H a xs/\xt G H ys xs:=by
 have I:(match L a with|some (.lst ys)=>some ys|_=>none)=some ys:=h;split at I
 ·rename_i e;cases I;obtain⟨xs,U,q⟩:=J a _ e;exact⟨xs,aS.of U,q⟩
 ·cases I
def qN{y:Y}(I:zw G H L)(r:RV G H y v)(J:Io y=true)(h:cK L y=some ys):∃a xs,v=.ref a/\aS G.K H a xs/\xt G H ys xs:=by
 cases y with
 |ref a=>obtain⟨xs,s,q⟩:=dk I h;exact⟨a,xs,r,s,q⟩
 |sq U=>obtain⟨a,xs,e,s,q⟩:=r;cases h;exact⟨a,xs,e,s.sq,q⟩
 |_=>cases J
def zM{G:G3}{y:Y}{T:sO}{σ:L2.St}(I:qw X pins σ H s)(C:zw X.g3 H L)(r:RV X.g3 H y v)(J:zv v u)(h:Fk L y=some T)
 {c:Vt} {b:Bool} (e:PySem.W.kitOne X.K (.type T.nm) c=some b) (U:∀tk,Q (.bool b) {s with toks:=tk}):
 wpAny (model X.prog X.w) A (call (.builtin "isinstance") [u,c]) Q E s:=by
 cases y with
 |non=>cases h;cases r;exact ay I J .non e U
 |bl b=>cases h;cases r;exact ay I J (.bl _) e U
 |int i=>cases h;cases r;exact ay I J (.int _) e U
 |str x=>cases h;cases r;exact ay I J (.str _) e U
 |tup ys=>
  cases h;obtain⟨a,j,rfl,sq,_⟩:=r;cases (show u=Value.ref a from J);obtain⟨l,_,⟨o,h1,h2,_⟩,_⟩:=I.tuple sq;exact Bt PySem.W.kitx_tuple I.kIn ⟨o,h1,h2⟩ e (λz=>nomatch z) U
 |sq ys=>
  cases h;obtain⟨a,j,rfl,sq,_⟩:=r;cases (show u=Value.ref a from J);obtain⟨l,_,⟨o,n,h1,h2,_⟩,_⟩:=I.list sq.sq;exact Bt DZ I.kIn ⟨o,h1,h2⟩ e (λz=>nomatch z) U
 |ref a=>
  cases (show v=.ref a from r);have g:(match L a with|some (.lst _)=>some sO.list|some (.dct _)=>some .dict|_=>none)=some T:=h;split at g
  ·rename_i ys p;cases g;obtain⟨j,t,_⟩:=C a _ p;exact ay I J (.lst t) e U
  ·rename_i a1 p;cases g;obtain⟨j,t,_⟩:=C a _ p;exact ay I J (.dK t) e U
  ·cases g
 |_=>cases h
def Px(K:Ah):∀T S:sO,PySem.W.kitOne K (.type T.nm) (.type S.nm)=some (GW T S):=by intro T S;cases T<;>cases S<;>rfl
def Py(G:G3)(S:sO):Vz->Hp->VK->Prop:=λxs H Q=>∃y v L I T,xs=[v,.ty S.nm]/\RV G H y v/\zw G H L/\Fk L y=some T/\I (.bl<|GW T S) L/\uC G H I Q
def alt(S:sO):jg X (.builtin "isinstance") (Py X.g3 S):=by rintro J s o H p t Q I r⟨y,v,L,C,T,rfl,g,U,ty,q,k⟩;obtain⟨u,c,rfl,j,l⟩:=zu.two r;cases (show c=Value.type S.nm from l);exact jq I.tk<|zM (G:=X.g3) I U g j ty (Px _ T S) λtk ht=>⟨.bl _,H,I.tok _,rfl,k _ H _ L (EL _) U (by rfl) q⟩
def wo{p:Pos}{I:Str}(S:sO)(t:Gl X "isinstance")(C:X.mg "isinstance"=none)(J:Gl X I)(U:X.mg I=none)(g:bootBuiltins I=some (.type S.nm))(ha:QE X a ta)
 (hn:I ≠ "__name__" := by decide) (hd:(I==("__debug__" : Str))=false:=by decide)
 (hs:starEach [a,.Name I p1] X.env=(false,eval a X.env)::starEach [.Name I p1] X.env:=by rfl) (j:starEach [.Name I p1] X.env=(false,eval (.Name I p1) X.env)::starEach [] X.env:=by rfl)
 (hp:(backTo pos<|starEach [.Name I p1] X.env).any (·.1)=false:=by rfl):
 QE X (.Call (.Name "isinstance" p) [a,.Name I p1] [] pos) (Pj S ta):=by
 refine EX (hX (alt S) t C bz (wz ha (wz (OD J U g hn hd) dX j) hs) (by decide) (by decide) hs hp) ?_;rintro σ H Q ⟨τ,L,Q3,rs,rl,z,k⟩;refine⟨τ,L,_,rs,rl,z,λv H1 y L1 t1 l o r=>?_⟩;obtain⟨T,et,r⟩:=Ph r;exact⟨y,v,L1,Q3,T,rfl,o,l,et,r,k.ts t1⟩
def ip(neg:Bool)(x y:Y)(L:qk)(Q:YK):Prop:=nN L y λys=>oC x=true/\ys.all oC=true/\Q (.bl<|nb neg<|sQ (fW x)<|ys.map fW) L
def Ix(neg:Bool){op:CmpOp}(h:wn X (compareOp op)<|GL X.K neg):wn X (compareOp op) (gQ X.g3<|ip neg):=wn.imq h λx y H Q I t L C g j U z k=>by
 obtain⟨J,l,f1,f2,q⟩:=bN z;obtain⟨p,T,e,sq,o⟩:=oX U j l;rw[g.flat f1];rw[o.flat f2] at sq;refine⟨p,_,e,sq,gl f1,?_,?_⟩
 ·rw[List.all_map,DB];intro y r;exact gl<|DB.mp f2 y r
 ·have:(if neg=true then !sQ (fW I) (J.map fW) else sQ (fW I) (J.map fW))=(nb neg<|sQ (fW I)<|J.map fW):=by cases neg<;>simp[nb]
  rw[this];exact k _ H _ L (EL _) U (by rfl) q
def uM(K:Ah)(P:Vv)(w:Vw)(I:X.K=K:=by rfl)(J:X.prog=P:=by rfl)(hw:X.w=w:=by rfl):wn X (compareOp .In) (gQ ⟨K,P,w⟩<|ip false):=by subst I J hw;exact Ix false Od
def oI(K:Ah)(P:Vv)(w:Vw)(I:X.K=K:=by rfl)(J:X.prog=P:=by rfl)(hw:X.w=w:=by rfl):wn X (compareOp .NotIn) (gQ ⟨K,P,w⟩<|ip true):=by subst I J hw;exact Ix true rj
theorem x9.rep{G:G3}{H:Hp}{L:qk}(j:zw G H L):∀{n:Nat} {y:Y} {d:Da} {v:V},x9 L n y d->RV G H y v->aM G.K H n v d
 |0,y,d,v,⟨f,e⟩,r=>by rw[r.flat f];exact⟨e,gl f⟩
 |n+1,y,d,v,h,r=>by
  have both:∀{U:List Y} {J:List Da} {I:Vz},Paired (x9 L n) U J->xt G H U I->Paired (aM G.K H n) I J:=by
   intro U J I p
   induction p generalizing I with
   |nil=>intro r;cases (show I=[] from r);exact .nil
   |cons q t l=>
    rintro⟨x,o,rfl,C,T⟩;exact .cons (x9.rep j q C)<|l T
  rcases h with⟨f,e⟩|⟨U,J,rfl,rfl,p⟩|⟨U,J,hy,rfl,es,p⟩
  ·rw[r.flat f];exact .inl ⟨e,gl f⟩
  ·obtain⟨a,I,rfl,sq,g⟩:=r;exact .inr<|.inl ⟨a,I,J,rfl,rfl,sq,both p g⟩
  ·obtain⟨a,I,rfl,sq,g⟩:=qN j r hy es;exact .inr<|.inr ⟨a,I,J,rfl,rfl,sq,both p g⟩
def ym{y:Y}(h:Fl y=true)(r:RV G H y v):∃a,v=.ref a:=by
 cases y with
 |ref a=>exact⟨a,r⟩
 |tup I=>obtain⟨a,J,e,_⟩:=r;exact⟨a,e⟩
 |sq I=>obtain⟨a,J,e,_⟩:=r;exact⟨a,e⟩
 |_=>cases h
def Iy(neg:Bool)(K:Ah)(P:Vv)(w:Vw)(g:X.A.units+128<cLine)(l:X.K=K)(o:X.prog=P)(hw:X.w=w):wn X (compareOp<|F1 neg) (gQ ⟨K,P,w⟩<|h_ neg):=by
 subst l o hw;refine wn.imq (OC neg g) λx y H Q T y3 L r J U I z k=>?_;have t:∀{p q:Prop} [Decidable p] [Decidable q],(p↔q)->Fz neg (decide p)=nb neg (decide q):=λh=>by rw[decide_eq_decide.mpr h];cases neg<;>rfl
 unfold h_ at z;split at z
 any_goals
  rename_i i j;cases J;cases U;refine⟨rfl,?_⟩;rw[t (q:=i=j) (by simp)];exact k _ H _ L (EL _) I (by rfl) z
 obtain⟨f1,f2,n,m,d,e,C,h1,h2,q⟩:=z;obtain⟨a,rfl⟩:=ym f1 J;obtain⟨b,rfl⟩:=ym f2 U;have q:r (.bl<|Fz neg<|Da.eq d e) L:=by cases neg<;>exact q
 exact⟨n,m,d,e,C,h1.rep I J,h2.rep I U,k _ H _ L (EL _) I (by rfl) q⟩
def G6(K:Ah)(P:Vv)(w:Vw)(I:X.A.units+128<cLine)(J:X.K=K:=by rfl)(U:X.prog=P:=by rfl)(hw:X.w=w:=by rfl):wn X (compareOp .Eq) (gQ ⟨K,P,w⟩<|h_ false):=Iy false K P w I J U hw
def Pz(K:Ah)(P:Vv)(w:Vw)(I:X.A.units+128<cLine)(J:X.K=K:=by rfl)(U:X.prog=P:=by rfl)(hw:X.w=w:=by rfl):wn X (compareOp .NotEq) (gQ ⟨K,P,w⟩<|h_ true):=Iy true K P w I J U hw
def RV.non_iff{y:Y}(r:RV G H y v):decide (v=.non)=(match y with|.non=>true|_=>false):=by
 cases y with
 |non=>cases r;rfl
 |cd I=>obtain⟨a,rfl,_⟩:=r;rfl
 |tup J=>obtain⟨a,U,rfl,_⟩:=r;rfl
 |sq J=>obtain⟨a,U,rfl,_⟩:=r;rfl
 |_=>cases r;rfl
def acl(σ:L2.St)(H:Hp)(Q:VK):oZ G (gJ false ta) σ H Q->HB (oZ G ta) σ H Q:=λ⟨U,L,t,g,j,z,k⟩=>
 ⟨U,L,_,g,j,z,λv l y o p I J r=>by dsimp only;rw[J.non_iff];cases y<;>exact k _ l _ o p I (by rfl) r⟩
def PB(σ:L2.St)(H:Hp)(Q:VK):oZ G (gJ true ta) σ H Q->HE (oZ G ta) σ H Q:=λ⟨U,L,t,g,j,z,k⟩=>
 ⟨U,L,_,g,j,z,λv l y o p I J r=>by dsimp only;rw[J.non_iff];cases y<;>exact k _ l _ o p I (by rfl) r⟩
def PD(h:QE X a ta):QE X (.Compare a [.Is] [.Constant .none j hQ] pos) (gJ false ta):=EX (L9<|HF h) acl
def Iz{t:TE}(h:∀σ H Q,oZ G te σ H Q->t σ H Q)(σ:L2.St)(H:Hp)(Q:Bool->Hp->Prop):g_ G (yB te) σ H Q->L2.tB t σ H Q:=λq=>h σ H _<|Iu σ H Q q
def jY(h:QE X a ta):QT X (.Compare a [.Is] [.Constant .none j hQ] pos) (yB<|gJ false ta):=PT.imp (HG<|HF h)<|Iz acl
def mF(h:QE X a ta):QT X (.Compare a [.IsNot] [.Constant .none j hQ] pos) (yB<|gJ true ta):=PT.imp (HG<|LZ h)<|Iz PB
end
section
variable {a b c:Expr}{rest:Vm}{tc:xu}{tB:lQ}{tr:fS}
def aW(h:QT X a tA):QW X (.BoolOp .And [a] pos) tA:=Me h
def oA(h:QT X a tA):QW X (.BoolOp .Or [a] pos) tA:=Mf h
def cD(h:QT X a tA)(k:QW X (.BoolOp .And (b::rest) pos) tB):QW X (.BoolOp .And (a::b::rest) pos) (vZ tA tB):=PW.imq (Mg h k) λt H Q U L o g p z k=>
 ⟨U,L,_,g,p,z,λc r j J I l=>by cases c with|true=>rw[AA rfl];exact⟨U,j,o,g.ts J,I,l,k.ts J⟩|false=>rw[Ay AQ];exact k _ r j J I l⟩
def uG(h:QT X a tA)(k:QW X (.BoolOp .Or (b::rest) pos) tB):QW X (.BoolOp .Or (a::b::rest) pos) (Fm tA tB):=PW.imq (Mh h k) λt H Q U L o g p z k=>
 ⟨U,L,_,g,p,z,λc r j J I l=>by cases c with|true=>rw[AA rfl];exact k _ r j J I l|false=>rw[Ay AQ];exact⟨U,j,o,g.ts J,I,l,k.ts J⟩⟩
def bD(h:QW X a tA):QT X a tA:=PW.pt h
def jR(h:QT X a tA):QT X (.UnaryOp .Not a pos) (yo tA):=PT.imq (Mi h) λr H Q J L t U g z k=>
 ⟨J,L,_,U,g,z,λc j l o I p=>k _ j l o I p⟩
def sK{op:BoolOp}(h:QE X a ta):QE X (.BoolOp op [a] pos) ta:=Ml h
def rF(h:QE X a ta)(k:QE X (.BoolOp .And (b::rest) pos) tb):QE X (.BoolOp .And (a::b::rest) pos) (GX ta tb):=EO (Mm h k) λT H Q U L g o t z k=>
 ⟨U,L,_,o,t,z,λv C y J j I l p=>by
  cases y with
  |bl c=>
   refine⟨c,l,?_⟩;have r:we c (tb U J g) (g (.bl false) J):=p;cases c with|true=>rw[AA rfl];exact⟨U,J,g,o.ts j,I,r,k.ts j⟩|false=>rw[Ay AQ];exact k _ C _ J j I (by rfl) r
  |_=>exact p.elim⟩
def IA(h:QE X a ta):QE X (.UnaryOp .Not a pos) (GY ta):=EO (Mn h) λt H Q g L C j l z k=>
 ⟨g,L,_,j,l,z,λv o y p r I J U=>by cases y with|bl c=>exact⟨c,J,k _ o _ p r I (by rfl) U⟩|_=>exact U.elim⟩
def eM(h:QT X c tA)(p:QE X a ta)(r:QE X b tb):QE X (.IfExp c a b pos) (FI tA ta tb):=EO (Mp h p r) λC H Q U L j g t z k=>
 ⟨U,L,_,g,t,z,λc T l J I o=>by cases c with|true=>rw[AA rfl];exact⟨U,l,j,g.ts J,I,o,k.ts J⟩|false=>rw[Ay AQ];exact⟨U,l,j,g.ts J,I,o,k.ts J⟩⟩
def wg:QA X [] jn:=PA.imq dX λJ H Q U L g j I z k=>k _ H _ L (EL _) I (by rfl) z
def jw(h:QE X e te)(t:QA X es tr)(hs:E8 e es X:=by rfl):QA X (e::es) (qo te tr):=PA.imq (wz h t hs) λσ H Q j L Q3 l C z k=>
 ⟨j,L,_,l,C,z,λv H1 y T o I J z1=>⟨j,T,_,l.ts o,I,z1,λp H2 ys L2 r U g z2=>k (v::p) H2 (y::ys) L2 (o.trans r) U ⟨v,p,rfl,J.ts r,g⟩ z2⟩⟩
def zh(h:QA X es tr):QE X (.Tuple es x1 pos) (aE tr):=EO (HQ h) λσ H Q l L Q3 o r z k=>
 ⟨l,L,_,o,r,z,λt H1 j C T U I J=>by
  cases e:Nat.ble j.length 1000 with
  |false=>rw[e] at J;exact J.elim
  |true=>
   rw[e] at J;have:=Cp e;refine⟨dN (by rw[<-I.length];exact this),λp g=>?_⟩;exact k _ _ (.tup j) C (T.trans<|EN g) (U.skip g) ⟨p,t,rfl,dS.of zg,I.ts<|EN g⟩ J⟩
def jm(h:QA X es tr):QE X (.List es pos) (jT tr):=EO (Nx h) λC H Q j L T l o z k=>
 ⟨j,L,_,l,o,z,λvs H1 r L1 t I J U=>by
  cases e:Nat.ble r.length 1000 with
  |false=>rw[e] at U;exact U.elim
  |true=>
   rw[e] at U;have:=Cp e;refine⟨dN (by rw[<-J.length];exact this),λp g=>?_⟩;exact k _ _ _ _ (t.trans<|EN g) (I.newL g J) (by rfl)<|U p<|I.none g⟩
def jj{p:Pos}{id:Vy}{r:List Y->qk->YK->Prop}(hc:jg X (.builtin id)<|b_ X.g3 r)(U:Gl X x)(g:X.mg x=none)(j:bootBuiltins x=some (.builtin id))(h:QA X (e::es) tr)
 (l:x ≠ "__name__" := by decide) (hd:Fb x:=by decide) (hs:E8 e es X:=by rfl) (o:E9 pos es X:=by rfl):
 QE X (.Call (.Name x p) (e::es) [] pos) (cI r tr):=EO (hX hc U g j h l hd hs o) λσ H Q t L C T rl z k=>
 ⟨t,L,_,T,rl,z,λvs H1 ys L1 t1 I J z1=>⟨ys,L1,C,J,I,z1,k.ts t1⟩⟩
def IB(G:G3)(t:FJ):TO:=λσ H Q=>∃τ L I,xg G H σ τ/\zw G H L/\t τ L I/\∀(o:Vq) H' L',jf H H'->zw G H' L'->I o L'->Q o H'
abbrev QO(X:Cx)(e:Option Expr)(t:FJ):Prop:=PO X e<|IB X.g3 t
def PO.imp{e:Option Expr}{t u:TO}(h:PO X e t)(q:∀σ H Q,u σ H Q->t σ H Q):PO X e u:=λJ s σ H Q I z=>h J s σ H Q I<|q σ H Q z
def PO.imq{e:Option Expr}{t:TO}{u:FJ}(h:PO X e t)(q:∀σ H Q τ L I,xg G H σ τ->zw G H L->u τ L I->(∀(o:Vq) H' L',jf H H'->zw G H' L'->I o L'->Q o H')->t σ H Q):PO X e (IB G u):=PO.imp h λσ H Q ⟨τ,L,I,a,b,c,d⟩=>q σ H Q τ L I a b c d
def sP.imp{U:V->Vq->Vq->Hp->VK->Prop}(h:sP X r)(q:∀x lo hi H Q,U x lo hi H Q->r x lo hi H Q):sP X U:=by intro J s g H x v j l lo hi o Q I p t pl C z;exact h J s g H x v j l lo hi o Q I p t pl C<|q _ _ _ _ _ z
def bW:QO X none gj:=PO.imq NT λJ H Q U L g j I z k=>k _ H L (EL _) I z
def aV(h:QE X e te):QO X (some e) (ue te):=PO.imq (NU h) λt H Q g L C j l z k=>
 ⟨g,L,_,j,l,z,λv o y p r I J U=>by cases y with|int i=>exact⟨i,J,k _ o p r I U⟩|_=>exact U.elim⟩
def F9(G:G3)(r:Y->Vq->Vq->qk->YK->Prop):V->Vq->Vq->Hp->VK->Prop:=λx lo hi H Q=>∃y L I,RV G H y x/\zw G H L/\r y lo hi L I/\uC G H I Q
def aC{lo hi:Option Expr}{tl th:FJ}{r:Y->Vq->Vq->qk->YK->Prop}(h:sP X<|F9 X.g3 r)(T:QE X a ta)(hl:QO X lo tl)(hh:QO X hi th):QE X (.Subscript a (.Slice lo hi none p2) pos) (FK r ta tl th):=
 EO (NW h T hl hh) λσ H Q I L Q3 J rl z k=>
 ⟨I,L,_,J,rl,z,λv H1 y L1 U g j z1=>⟨I,L1,_,J.ts U,g,z1,λo H2 L2 l p z2=>⟨I,L2,_,J.ts<|U.trans l,p,z2,λo' H3 L3 C t z3=>⟨y,L3,Q3,j.ts<|l.trans C,t,z3,k.ts<|U.trans<|l.trans C⟩⟩⟩⟩
def rD(r:xt G H ys xs)(lo hi:Vq):xt G H (gD ys lo hi) (tI xs lo hi):=by unfold gD tI;rw[r.length];exact(r.drop _).take _
def PH(K:Ah)(P:Vv)(w:Vw)(l:X.K=K:=by rfl)(o:X.prog=P:=by rfl)(hw:X.w=w:=by rfl):sP X (F9 ⟨K,P,w⟩ Ip):=by
 subst l o hw;refine sP.imp Oc λx lo g H Q ⟨y,L,Q3,j,J,z,k⟩=>?_;cases y with
 |ref a=>
  obtain⟨t,C,T⟩:=w6 z;obtain⟨U,sq,r⟩:=dk J<|wv C;exact⟨a,U,j,sq,λp I=>k _ _ _ _ (EN I) (J.newL I<|rD r lo g) (by rfl)<|T p<|J.none I⟩
 |sq t=>
  obtain⟨a,U,e,sf,r⟩:=j;exact⟨a,U,e,sf.sq,λp I=>k _ _ _ _ (EN I) (J.newL I<|rD r lo g) (by rfl)<|z p<|J.none I⟩
 |_=>exact z.elim
end
section
variable {a b c iter:Expr}{tc:xu}{tB:lQ}{tr:fS}{rest p0:Vn}{t u:a9}
def za:uJ X [] wm:=gT.imq Mt λD U H g L j I J z k=>k.nx _ H _ L (EL _) I J z
def qg(h:QS X st t):uJ X [st] t:=yN h
def qa(h:QS X st t)(k:uJ X rest u):uJ X (st::rest) (zm t u):=gT.imq (uQ h k) λD σ H j L I l o z k=>
 ⟨j,L,{I with nx:=u I},l,o,z,λp H1 J r C U g T=>⟨J,r,I,U,g,T,k.ts C⟩,k.rt,k.bk,k.ct⟩
def tM:QS X (.Continue pos) Pk:=ES vB λD U H g L j I J z k=>k.ct _ H _ L (EL _) I J z
def zf(h:QE X e te)(hs:swapsWith e none pos.line X.env=pure false:=by rfl):QS X (.Expr e pos) (kj te):=ES (Mw h hs) λD t H g L C J j z k=>
 ⟨g,L,_,J,j,z,λv l y o U I p r=>k.nx _ l _ o U (J.ts U) I r⟩
def zb(h:QE X e te):QS X (.Return (some e) pos) (aY te):=ES (My h) λD g H I L j J U z k=>⟨I,L,_,J,U,z,k.rt⟩
def rg:QS X (.Return none pos) Iq:=ES MA λD J H U L g j I z k=>k.rt _ H _ L (EL _) I (by rfl) z
def zr(h:QT X c tA)(p:uJ X body t)(r:uJ X p0 u):QS X (.If c body p0 pos) (am tA t u):=ES (MC h p r) λD T H U L j g C z k=>
 ⟨U,L,_,g,C,z,λc H1 l J I o=>by cases c with|true=>rw[AA rfl];exact⟨U,l,j,g.ts J,I,o,k.ts J⟩|false=>rw[Ay AQ];exact⟨U,l,j,g.ts J,I,o,k.ts J⟩⟩
def bx(hN:X.N.Nodup)(I:X.N[i]?=some x)(r:Loc X.env.scope x)(h:QE X e te)(J:swapsWith e (some<|.Name x hQ) pos.line X.env=pure false:=by rfl)
 (U:X.fn x=true\/X.env.scope.names.lookup x=some .local:=by first|exact .inl rfl|exact .inr rfl|assumption):QS X (.Assign [.Name x hQ] e pos) (x8 te<|qp i):=ES (HJ hN I r h J U) λD σ H l L D3 o t z k=>
 ⟨l,L,_,o,t,z,λv C y T p g j z1=>k.nx _ C _ T p (show xg _ _ _ (dm l i y) by rw[ak];exact(o.ts p).set j) g z1⟩
def bB(h:QE X e te)(o:QG X tg g)(h1:swapsWithSole [tg] e pos.line X.env=pure false:=by rfl)(h2:swappedStores [tg] e X.env=pure none:=by rfl)
 (h3:(assignEach [tg] X.env).map (·.2)=[assign tg X.env]:=by rfl):QS X (.Assign [tg] e pos) (x8 te g):=ES (HI h o h1 h2 h3) λD C H U L T j p z k=>
 ⟨U,L,_,j,p,z,λv H1 y r l I J t=>⟨y,U,r,_,J,j.ts l,I,t,k.nx.ts l⟩⟩
def PG.imp{t u:TG}(h:PG X e t)(q:∀v σ H Q,u v σ H Q->t v σ H Q):PG X e u:=λJ s σ H x v Q I r z=>h J s σ H x v Q I r<|q _ _ _ _ z
def PGs.imp{e:Vm}{t u:c_}(h:PGs X e t)(q:∀v σ H Q,u v σ H Q->t v σ H Q):PGs X e u:=λJ s σ H x v Q I r z=>h J s σ H x v Q I r<|q _ _ _ _ z
def bX(hN:X.N.Nodup)(I:X.N[i]?=some x)(U:Loc X.env.scope x)(J:X.fn x=true\/X.env.scope.names.lookup x=some .local:=by first|exact .inl rfl|exact .inr rfl|assumption):QG X (.Name x pos) (qp i):=
 PG.imp (yh hN I U J) λv p H Q ⟨y,g,L,r,j,l,o,z,k⟩=>k _ H _ L (EL _) (show xg _ _ _ (dm g i y) by rw[ak];exact l.set j) o z
def xi:FM X [] gu:=PGs.imp MF λj l H Q ⟨I,o,L,p,J,U,g,z,k⟩=>by cases I with|nil=>exact⟨J,k _ H _ L (EL _) U g z⟩|cons y r=>exact z.elim
def qz(h:QG X e g)(hs:FM X es gs)(l:(assignEach (e::es) X.env).map (·.2)=assign e X.env::(assignEach es X.env).map (·.2):=by rfl):FM X (e::es) (vj g gs):=
 PGs.imp (MG h hs l) λvs σ H Q ⟨o,p,L,t,C,T,rl,z,k⟩=>by
 cases o with
 |nil=>exact z.elim
 |cons y r=>
  obtain⟨x,xs,rfl,r1,r2⟩:=C;exact⟨x,xs,rfl,y,p,L,_,r1,T,rl,z,λa1 H1 I L1 j J U z1=>⟨r,I,L1,t,r2.ts j,J,U,z1,k.ts j⟩⟩
def ku{j:Nat}(hc:X.calm=true)(h:FM X es gs)(h1:(assignEach es X.env).length=n:=by rfl)(h2:(assignEach es X.env).findIdx? (·.1)=none:=by rfl):QG X (.Tuple es j pos) (lK n gs):=
 PG.imp (MK hc h h1 h2) λv C H Q ⟨y,U,L,g,l,o,p,z,k⟩=>by
 cases y with
 |tup I=>
  obtain⟨a,t,rfl,sq,r⟩:=l;have J:(match I.length==n with|true=>gs I U L g|false=>False):=z;split at J
  ·rename_i e;exact⟨a,t,rfl,sq,by rw[<-r.length];exact beq_iff_eq.mp e,I,U,L,g,r,o,p,J,k⟩
  ·exact J.elim
 |_=>exact z.elim
def wL{y:Str}{px py pt:Pos}{J k2:Nat}{I:Pos}(hc:X.calm=true)(hN:X.N.Nodup)(hi:X.N[i]?=some x)(C:X.N[j]?=some y)(U:i≠j)(T:X.env.scope.names.lookup x=some .local)(ly:X.env.scope.names.lookup y=some .local)
 (h:QA X [a,b] tr) (h1:swappedStores [.Tuple [.Name x px,.Name y py] J pt] (.Tuple [a,b] k2 I) X.env=pure (some [x,y])) (h2:swapsWithSole [.Tuple [.Name x px,.Name y py] J pt] (.Tuple [a,b] k2 I) pos.line X.env=pure false:=by rfl):
 QS X (.Assign [.Tuple [.Name x px,.Name y py] J pt] (.Tuple [a,b] k2 I) pos) (F7 i j tr):=ES (MT hc hN hi C U T ly h h1 h2) λD σ H p L D3 r rl z k=>
 ⟨p,L,_,r,rl,z,λvs H1 ys L1 t g l o=>by
  split at o
  ·rename_i v w;obtain⟨x',y',rfl,r1,r2⟩:=l.inv2;exact⟨x',y',rfl,k.nx _ H1 _ L1 t (show xg _ _ _ (dm (dm p i v) j w) by rw[ak,ak];exact((r.ts t).set r1).set r2) g o⟩
  ·exact o.elim⟩
def gW(hp:PassesOwn (model X.prog X.w) X.A X.env X.xe)(h:QT X c tA)(hb:uJ X body t):QS X (.While c body [] pos) (sD tA t):=PS.imp (MV hp h hb) λD σ H ⟨τ,L,D3,rs,rl,⟨W,⟨m0,w0⟩,turn⟩,k⟩=>by
 refine⟨λm r H1=>∃J C,jf H H1/\xg X.g3 H1 r J/\zw X.g3 H1 C/\W m J C,⟨m0,τ,L,EL _,rs,rl,w0⟩,?_⟩;rintro m r H1 ⟨J,C,t1,l,a2,w1⟩;refine⟨J,C,_,l,a2,turn m J C w1,λb H2 L2 T a1 z2=>?_⟩;cases b with
 |false=>rw[Ay AQ];exact k.nx _ H2 _ L2 (t1.trans T) (l.ts T) a1 z2
 |true=>
  rw[AA rfl];obtain⟨N,hN,z2⟩:=z2;refine⟨λU g=>∃I j,jf H g/\xg X.g3 g U I/\zw X.g3 g j/\N I j,?_,?_⟩
  ·rintro U g ⟨I,j,t',o,p,n'⟩;obtain⟨m',hm,w'⟩:=hN I j n';exact⟨m',hm,I,j,t',o,p,w'⟩
  ·have nx:o9 X.g3 H2 (iO N) (λU g=>∃I j,jf H g/\xg X.g3 g U I/\zw X.g3 g j/\N I j):=λU g I j t' o p ⟨L5,s5,n'⟩=>⟨I,L5,(t1.trans T).trans t',o,p.sub s5,n'⟩;have k2:=k.ts<|t1.trans T;exact⟨J,L2,_,l.ts T,a1,z2,nx,k2.rt,k2.nx,nx⟩
def ky{wi:p_}(hp:PassesOwn (model X.prog X.w) X.A X.env X.xe)(hc:X.calm=true)(hi:QI X tg iter wi)(hg:QG X tg g)(hb:uJ X body t)(hs:∀x,foldedSetIterable iter X.env x=pure x:=by intro _;rfl):
 QS X (.For tg iter body [] pos) (oh wi g t):=ES (Nb hp hc hi hg hb hs) λD σ H τ L D3 rs rl z k=>by
 refine⟨τ,L,_,rs,rl,z,λJ H1 r keep L1 t1 a3 yl zz=>?_⟩;obtain⟨W,w0,wk,turn,xa⟩:=Pl zz;refine⟨λi m U j=>∃I o,i+m=r.length/\jf H1 j/\xg X.g3 j U I/\zw X.g3 j o/\W i I o,⟨r.length,τ,L1,by omega,EL _,rs.ts t1,a3,w0⟩,?_⟩;rintro i m av H2 ⟨l,L2,ax,t2,a1,p,w2⟩;by_cases a2:i<r.length
 ·refine .inr ⟨yl.go i H2 L2 t2 p (wk i l L2 w2) a2,λU j=>∃I o,jf H1 j/\xg X.g3 j U I/\zw X.g3 j o/\W (i+1) I o,?_,?_⟩
  ·rintro U j ⟨I,o,t',C,T,w'⟩;exact⟨m-1,by omega,I,o,by omega,t',C,T,w'⟩
  ·intro x H3 y3;have ey:r[i]?=some r[i]:=Al a2;obtain⟨t3,a4,a5⟩:=yl.yld i H2 L2 x H3 _ t2 p (wk i l L2 w2) ey y3;refine⟨r[i],l,L2,_,a5,a1.ts t3,a4,turn i _ l L2 ey w2,λaL H4 ac L4 t4 al au z4=>?_⟩;have nx:o9 X.g3 H4 (iO<|W<|i+1) (λU j=>∃I o,jf H1 j/\xg X.g3 j U I/\zw X.g3 j o/\W (i+1) I o):=λU j I o t' C T ⟨L5,s5,n'⟩=>⟨I,L5,((t2.trans t3).trans t4).trans t',C,T.sub s5,n'⟩;have k2:=k.ts<|t1.trans<|(t2.trans t3).trans t4;exact⟨ac,L4,_,al,au,z4,nx,k2.rt,k2.nx,nx⟩
 ·have e:i=r.length:=by omega
  subst e;exact .inl ⟨yl.stop H2 L2 t2 p<|wk _ l L2 w2,k.nx _ H2 _ L2 (t1.trans t2) a1 p<|xa l L2 w2⟩
def PI.imp{t u:TI}(h:PI X tg e t)(q:∀σ H Q,u σ H Q->t σ H Q):PI X tg e u:=λJ s σ H Q I z=>h J s σ H Q I<|q σ H Q z
def PI.imq{t:TI}{u:p_}(h:PI X tg e t)(q:∀σ H R τ L I,xg G H σ τ->zw G H L->u τ L I->(∀J H' ys keep L',jf H H'->zw G H' L'->jF G H' J ys keep->I ys keep L'->R J H')->t σ H R):PI X tg e (GV G u):=PI.imp h λσ H R ⟨τ,L,I,a,b,c,d⟩=>q σ H R τ L I a b c d
def kO{a:Addr}{keep:qk->Prop}(h:∀H L,jf H₀ H->zw G H L->keep L->∃xs,aS G.K H a xs/\xt G H ys xs):jF G H₀ (GA G.K a) ys keep where
 go:=λi H L t I J U=>by
  obtain⟨xs,sq,r⟩:=h H L t I J;have:i<xs.length:=by rw[<-r.length];exact U
  exact⟨xs,xs[i],sq,Al this⟩
 yld:=λi H L x o y t I J g ⟨e,f⟩=>by subst e;obtain⟨xs,sq,r⟩:=h _ L t I J;obtain⟨p,j,l⟩:=r.get g;have:=f xs sq;rw[j] at this;cases this;exact⟨EL _,I,l⟩
 stop:=λH L t I J=>by obtain⟨xs,sq,r⟩:=h H L t I J;exact⟨xs,sq,by rw[r.length];exact Ap _⟩
def wx(h:QE X e te):QI X tg e (gH te):=PI.imq (MZ h) λσ H R τ L R3 rs l z k=>by
 refine⟨τ,L,_,rs,l,z,λv g y o C I U p=>?_⟩;cases y with
 |ref a=>
  obtain⟨j,keep,es,kp,hk,z2⟩:=sg p;have T:∀H L,jf g H->zw X.g3 H L->keep L->∃J,aS X.K H a J/\xt X.g3 H j J:=λH L _ l e=>dk l<|hk L e;obtain⟨J,sq,_⟩:=T g o (EL _) I kp;exact⟨a,U,⟨J,sq⟩,k _ g j _ o C I (kO T) z2⟩
 |sq j=>
  obtain⟨a,J,e,sf,r⟩:=U;exact⟨a,e,⟨J,sf.sq⟩,k _ g j (λ_=>True) o C I (kO λH L t _ _=>⟨J,(sf.ts t).sq,r.ts t⟩) p⟩
 |_=>exact p.elim
def uX(lo:Int)(n:Nat):jF G H₀ (Fx lo n) (ag lo n) (λ_=>True) where
 go:=λi H L t J g j=>show i<n by simpa[ag] using j
 yld:=λi H L x l y t J g U ⟨e,f⟩=>by
  subst e f;refine⟨EL _,J,?_⟩;unfold ag at U;rw[Au] at U;obtain⟨z,I,e⟩:=AB.mp U;have:=DJ (i:=i) (n:=n) (by
   by_cases c:i<n
   ·exact c
   ·rw[BJ (by simp;omega)] at I;cases I)
  rw[this] at I;cases I;subst e;rfl
 stop:=λH L t J g=>by simp[ag,Fx]
def wu{p:Pos}(g:Gl X "range")(l:X.mg "range"=none)(h:QA X [a] tr)(hs:starEach [a] X.env=[(false,eval a X.env)]:=by rfl):QI X tg (.Call (.Name "range" p) [a] [] pos) (mn tr):=
 PI.imq (M9 g l h hs) λσ H R o L R3 t C z k=>by
 refine⟨o,L,_,t,C,z,λvs T ys L1 t1 J U I=>?_⟩;split at I
 ·rename_i j;obtain⟨x,rfl,r⟩:=U.inv1;cases r;exact⟨j,rfl,I.1.1,I.1.2,k _ T _ _ L1 t1 J (uX 0 _) I.2⟩
 ·exact I.elim
end
section
variable {T:Vl}{iter c:Expr}{wi:p_}{tr:fS}
def PK:QF X [] Pm:=PF.imp OG λJ H Q ⟨U,L,g,j,I,z,k⟩=>k _ H L (EL _) I z
def cg(h:QT X c tA):QF X [c] tA:=OH h
def IC{g2:TG}(a1:∀v σ H Q,F6 G g v σ H Q->g2 v σ H Q)(σ:L2.St)(H:Hp)(Q:VK):oZ G (u_ n wi g tA te) σ H Q->GR n (GV G wi) g2 (g_ G tA) (oZ G te) σ H Q:=λ⟨τ,L,Q3,rs,rl,z,k⟩=>by
 refine⟨τ,L,_,rs,rl,z,λJ H1 l keep L1 t1 a2 yl zz=>?_⟩;obtain⟨hz,W,w0,wk,turn,xa⟩:=Po zz;refine⟨λi m vs H'=>∃I L',i+m=l.length/\I.length<=i/\jf H1 H'/\xt G H' I vs/\zw G H' L'/\W i I L',⟨l.length,[],L1,by exact Nat.add_comm _ _,Ap _,EL _,rfl,a2,w0⟩,?_⟩;rintro i m vs H2 ⟨I,L2,au,av,o,U,j,p⟩;by_cases r:i<l.length
 ·refine .inr ⟨yl.go i H2 L2 o j (wk i I L2 p) r,by rw[<-U.length];lia,?_⟩;intro x H3 y3;have ey:l[i]?=some l[i]:=Al r;obtain⟨t3,a3,a4⟩:=yl.yld i H2 L2 x H3 _ o j (wk i I L2 p) ey y3;refine a1 _ _ _ _ ⟨l[i],_,L2,_,a4,(rs.ts<|(t1.trans o).trans t3).more n,a3,turn i _ I L2 ey p,λax H4 t L4 t4 C a5 z4=>?_⟩;refine⟨t,L4,_,C,a5,z4,λb H5 L5 t5 T z5=>?_⟩;cases b with
  |true=>
   rw[AA rfl];refine⟨t,L5,_,C.ts t5,T,z5,λv6 H6 y6 L6 t6 ac al ⟨L7,s7,z6⟩=>?_⟩;have tt:=((t3.trans t4).trans t5).trans t6;exact⟨m-1,by omega,I++[y6],L7,by lia,by rw[Ad,CL];exact GP,o.trans tt,(U.ts tt).app<|xt.one al,ac.sub s7,z6⟩
  |false=>
   rw[Ay AQ];have tt:=(t3.trans t4).trans t5;obtain⟨L7,s7,z6⟩:=z5;exact⟨m-1,by lia,I,L7,by lia,by exact Ou,o.trans tt,U.ts tt,T.sub s7,z6⟩
 ·have ei:i=l.length:=by lia
  subst ei;refine .inl ⟨yl.stop H2 L2 o j<|wk _ I L2 p,by rw[<-U.length];lia,λD hD=>?_⟩;exact k _ _ _ _ ((t1.trans o).trans<|EN hD) (j.newL hD U) (by rfl)<|xa I L2 p D<|j.none hD
structure F_(X:Cx)(scope:Scope)(T:Vl)(target:Expr)(g:o6):Prop where
 ex:∃g2:TG,(∀C fp s₀ H₀,PG (X.comp scope T C fp s₀ H₀) target g2)/\sh g2 X.N.length T.length/\∀v σ H Q,F6 X.g3 g v σ H Q->g2 v σ H Q
def PL(i:Nat)(v:V)(σ:L2.St)(H:Hp)(Q:L2.St->Hp->Prop):F6 G (qp i) v σ H Q->mO i v σ H Q:=λ⟨y,I,L,j,J,U,g,z,k⟩=>
 k _ H _ L (EL _) (show xg _ _ _ (dm I i y) by rw[ak];exact U.set J) g z
def gi{p:Pos}(hN:(X.N++[x]).Nodup)(J:∀C fp s₀ H₀,Loc (X.comp scope [x] C fp s₀ H₀).env.scope x)(I:∀C fp s₀ H₀,(X.comp scope [x] C fp s₀ H₀).env.scope.names.lookup x=some .local):F_ X scope [x] (.Name x p) (qp X.N.length):=
 ⟨mO X.N.length,λC fp s₀ H₀=>yh (X:=X.comp scope [x] C fp s₀ H₀) hN (by show(X.N++[x])[X.N.length]?=some x;simp) (J C fp s₀ H₀)<|.inr<|I C fp s₀ H₀,xD _,PL _⟩
def ID(T:Vl)(S:jh X scope)(hc:X.calm=true)(hi:QI X target iter wi)(I:F_ X scope T target g)
 (J:∀C fp s₀ H₀,QF (X.comp scope T C fp s₀ H₀) mR tA) (U:∀C fp s₀ H₀,QE (X.comp scope T C fp s₀ H₀) nq te)
 (hs:∀x,foldedSetIterable iter X.env x=pure x:=by intro _;rfl):QE X (.ListComp nq [⟨target,iter,mR,0⟩] scope pos) (u_ T.length wi g tA te):=by
 obtain⟨g2,h1,h2,h3⟩:=I.ex;exact EX (OJ T S hc hi h1 h2 J U hs)<|IC h3
def a8(T:Vl){px o:Pos}(hN:X.N.Nodup)(I:X.N[i]?=some x)(hx:Loc X.env.scope x)(S:jh X scope)(hc:X.calm=true)(hi:QI X target iter wi)
 (hg:F_ X scope T target g) (hf:∀C fp s₀ H₀,QF (X.comp scope T C fp s₀ H₀) mR tA) (he:∀C fp s₀ H₀,QE (X.comp scope T C fp s₀ H₀) nq te)
 (J:swapsWith (.ListComp nq [⟨target,iter,mR,0⟩] scope o) (some<|.Name x px) pos.line X.env=pure true:=by rfl)
 (U:X.fn x=true\/X.env.scope.names.lookup x=some .local:=by first|exact .inl rfl|exact .inr rfl|assumption)
 (hs:∀x,foldedSetIterable iter X.env x=pure x:=by intro _;rfl):QS X (.Assign [.Name x px] (.ListComp nq [⟨target,iter,mR,0⟩] scope o) pos) (x8 (u_ T.length wi g tA te)<|qp i):=by
 obtain⟨g2,h1,h2,h3⟩:=hg.ex;refine PS.imp (OK (tc:=g_ X.g3 tA) (te:=oZ X.g3 te) T hN I hx S hc hi h1 h2 hf he J U hs) λD σ H ⟨p,L,D3,r,rl,z,k⟩=>?_;refine IC h3 σ H _ ⟨p,L,_,r,rl,z,λv H1 y L1 t j l z1=>?_⟩;exact k.nx _ H1 _ L1 t (show xg _ _ _ (dm p i y) by rw[ak];exact(r.ts t).set l) j z1
def dn(G:G3)(sp:kh):Sp:=λvs H Q _=>∃ys L I,xt G H ys vs/\zw G H L/\sp ys L I/\uC G H I Q
abbrev G7(P:Vv)(w:Vw)(K:Ah)(mg:Vf)(base:Vx)(k:Nat)(x:Str)(ps:Vl)(sp:kh):Prop:=Cal P w K mg base k x ps<|dn ⟨K,P,w⟩ sp
abbrev Fn3(P:Vv)(w:Vw)(K:Ah)(mg:Vf)(base:Vx)(k:Nat)(f:Addr)(fd:FuncData)(ps:Vl)(sp:kh):Prop:=bP P w K mg base CX0 k f fd ps<|dn ⟨K,P,w⟩ sp
def PM{k:Nat}{sp:kh}{p:Pos}(c:G7 X.prog X.w X.K X.mg X.base k x ps sp)(j:ww k X.A)(l:Gl X x)(o:QA X (e::es) tr)(I:Fb x:=by decide)
 (r:E8 e es X:=by rfl) (J:E9 pos es X:=by rfl):QE X (.Call (.Name x p) (e::es) [] pos) (xm sp tr):=
 EO (OE c j l o I r J) λσ H Q t L C T rl z k=>
 ⟨t,L,_,T,rl,z,λvs H1 ys L1 t1 U g z1=>⟨ys,L1,C,by rw[AC];exact g,U,z1,k.ts t1⟩⟩
def eQ(Q:YK):YK:=λy L=>∃L2,qh L2 L/\Q y L2
def eJ(N:Vl)(ys:List Y):jo:=ys.map some++List.replicate (N.length-ys.length) none
def jL{N:Vl}{vs:Vz}(r:xt G H ys vs):xg G H (L2.start N vs) (eJ N ys):=by unfold L2.start eJ;rw[<-r.length];refine xg.more ⟨by simp[r.length],λi y e=>?_⟩ _;rw[Au] at e;obtain⟨g,I,J⟩:=AB.mp e;cases J;obtain⟨x,ex,U⟩:=r.get I;exact⟨x,by rw[Au,ex];rfl,U⟩
def PN{P:Vv}{w:Vw}{K:Ah}{N:Vl}{k:Nat}{sp:kh}(F:Fun K x eK st f fd)(S:wy N ps<|z9 st)(len:∀ys L Q,sp ys L Q->ys.length=ps.length)
 (I:∀(fv:Vt) (A:Around) (outer:List Env) (s:Vu) (H:Hp) (E:XK),ww k (A.deeper<|PyProof.Rows.envOfC eK (z9 st) s.heap.objs.size f fv)->
  ∃t,uJ (eY CX0 P w K mg base N eK (z9 st) f fv A outer s H E).nox (x6 st) t/\∀ys L Q,sp ys L Q->t {nx:=λ_ L'=>eQ Q .non L',rt:=eQ Q} (eJ N ys) L):Fn3 P w K mg base (k+1) f fd ps sp:=by
 refine F.ok S (λT H Q E ⟨ys,L,U,g,C,z,_⟩=>by rw[<-g.length];exact len ys L U z) λfv A outer s H T Q E hr ⟨ys,L,U,g,C,z,k⟩=>?_;obtain⟨t,ht,q⟩:=I fv A outer s H E hr;refine⟨_,ht,eJ N ys,L,_,jL g,C,q ys L U z,?_⟩;refine⟨λσ j τ L' l a1 J ⟨L2,o,p⟩=>k .non j .non L2 l (J.sub o) (by rfl) p,λv j y L' l J r ⟨L2,o,p⟩=>k v j y L2 l (J.sub o) r p,λ_ _ _ _ _ _ _ z=>z.elim,λ_ _ _ _ _ _ _ z=>z.elim⟩
def v_(G:G3)(r:Y->List Y->qk->YK->Prop):V->Vz->Hp->VK->Prop:=λx xs H Q=>∃y ys L I,RV G H y x/\xt G H ys xs/\zw G H L/\r y ys L I/\uC G H I Q
def qT.imq{id:Vy}{r:V->Vz->Hp->VK->Prop}{u:Y->List Y->qk->YK->Prop}(h:qT X id r)(q:∀x xs H Q y ys L I,RV G H y x->xt G H ys xs->zw G H L->u y ys L I->uC G H I Q->r x xs H Q):qT X id (v_ G u):=qT.imp h λx xs H Q ⟨y,ys,L,I,a,b,c,d,e⟩=>q x xs H Q y ys L I a b c d e
def PP:qT X "list.append" (v_ X.g3 jt):=qT.imq Oh λx p H Q y t L C U g J z k=>by
 unfold jt at z;split at z
 ·rename_i a v;obtain⟨T,e,z⟩:=w6 z;obtain⟨j,I,r⟩:=J a _ e;obtain⟨l,rfl,o⟩:=g.inv1;exact⟨a,j,l,U,rfl,I,by rw[<-r.length];exact z.1,k _ _ _ _ (E6 I) (J.setL I<|r.app<|xt.one o) (by rfl) z.2⟩
 ·exact z.elim
def PQ{a:Addr}(I:zw G H L)(h:cK L (.ref a)=some ys):GN G.K "list" (.ref a) H:=by obtain⟨J,sq,_⟩:=dk I h;exact .inl ⟨rfl,J,sq⟩
def jP(r:Y->List Y->qk->YK->Prop)(to:xu)(t:fS)(τ:jo)(L:qk)(Q:YK):Prop:=to τ L λx L1=>match x with
 |.ref a=>nN L1 (.ref a) λ_=>t τ L1 λxs L2=>r (.ref a) xs L2 Q
 |_=>False
structure Fo(X:Cx)(o e:Expr)(es:Vm)(name:Str)(apos hE:Pos):Prop where
 h4:attributeBase o name X.env (eval o X.env)=eval o X.env
 h5:((backTo hE<|starEach (e::es) X.env).all (λx=>!x.1)&&(backToKw hE<|keywordEach [] X.env).all (λx=>x.1.isSome)&&decide ((e::es).length+([]:List Keyword).length+(if ([]:List Keyword).isEmpty=true then 0 else 1)<30))=true
 h6:(apos.endLine==hE.line)=true
 h7:E8 e es X
 h8:E9 hE es X
def vL{id:Vy}{r:Y->List Y->qk->YK->Prop}(h2:Slot "list" name id)(h3:typeOf (.builtin id)=pure (.type "method_descriptor"))(hm:qT X id<|v_ X.g3 r)(ho:QE X o to)(ha:QA X (e::es) tr)
 (I:Fo X o e es name apos hE:=by exact⟨rfl,rfl,rfl,rfl,rfl⟩):
 QE X (.Call (.Attribute o name apos) (e::es) [] hE) (jP r to tr):=EO (H0 PySem.F.plainAttrs_list h2 h3 hm ho ha I.h4 I.h5 I.h6 I.h7 I.h8) λσ H Q p L Q3 t rl z k=>
 ⟨p,L,_,t,rl,z,λv H1 y L1 C J U g=>by
  split at g
  ·rename_i a;obtain⟨T,es,g⟩:=bN g;exact⟨by cases U;exact PQ J es,p,L1,_,t.ts C,J,g,λvs H2 T L2 t2 j l z2=>⟨.ref a,T,L2,Q3,U.ts t2,l,j,z2,k.ts<|C.trans t2⟩⟩
  ·exact g.elim⟩
def ze(I:QE X o to)(J:QA X (e::es) tr)(U:Fo X o e es "append" apos hE:=by exact⟨rfl,rfl,rfl,rfl,rfl⟩):
 QE X (.Call (.Attribute o "append" apos) (e::es) [] hE) (jP jt to tr):=vL PySem.F.slot_list_append PySem.F.type_list_append PP I J U
end
abbrev xM:qS:=k_ λi j=>.int<|i-j
abbrev PR:qS:=yI acn λi j=>.int<|i*j
abbrev PU:qS:=yI GG λi j=>.int<|i / j
abbrev FO:qS:=yI (λ_ j=>0<j) λi j=>.int<|i % j
abbrev FP:qS:=k_ λi j=>.bl<|decide<|i<j
abbrev PV:qS:=k_ λi j=>.bl<|decide<|i<=j
abbrev PX:qS:=k_ λi j=>.bl<|decide<|j<i
structure IE(G:G3)(mg:Vf)(x:Str)(y:Y):Prop where
 ex:∃c,mg x=some (.ref c)/\∀H,RV G H y<|.ref c
def PY{y:Y}(t:IE X.g3 X.mg x y)(I:Gl X x)(hd:Fb x:=by decide):QE X (.Name x pos) (yC y):=by obtain⟨c,J,q⟩:=t.ex;exact Pq I J q hd
def IF(kvs:List<|Str×Str):LO:=.dct<|kvs.map λp=>(Sum.inr p.1,Y.str p.2)
def PZ(kvs:List<|Str×Str)(_:jo)(L:qk)(Q:YK):Prop:=∀p,L p=none->Q (.ref p) (qi L p<|IF kvs)
def w_(kvs:List<|Str×Str):List (j9×V):=kvs.map λp=>(Sum.inr p.1,V.str p.2)
theorem tz{σ:L2.St}{H:Hp}{Q:List (V×V)->Hp->Prop}:∀{kvs:List<|Str×Str},Q (kvs.map λp=>(V.str p.1,V.str p.2)) H->rG (kvs.map λp=>(tC<|.str p.1,tC<|.str p.2)) σ H Q
 |[],h=>h
 |_::r,h=>tz (kvs:=r) h
theorem yW{G:G3}{H:Hp}:∀kvs:List (Str×Str),Paired (λ(p:j9×Y) (q:j9×V)=>p.1=q.1/\RV G H p.2 q.2) (kvs.map λp=>(Sum.inr p.1,Y.str p.2))<|w_ kvs
 |[]=>.nil
 |_::r=>.cons ⟨rfl,rfl⟩<|yW r
def P0{keys:List<|Option Expr}{values:Vm}(kvs:List<|Str×Str)(h:FA X pos keys values<|kvs.map λp=>(tC<|.str p.1,tC<|.str p.2))(h1:(keys.all λx=>x.isSome)=true)(h2:keys.length=values.length)(h3:keys≠[])(U:keys.length<=15)
 (g:kvs.length<=15:=by decide) (nd:ix [] (w_ kvs)=w_ kvs:=by decide +kernel):QE X (.Dict keys values pos) (PZ kvs):=EO (NP h h1 h2 h3 U) λj H Q l L o r J z k=>by
 intro p I;refine tz ⟨zg,w_ kvs,by simp[w_,kV],by simpa[w_] using g,?_⟩;rw[nd,yc];refine k _ _ _ (qi L p<|IF kvs) (EN I) ?_ (by rfl)<|z p<|J.none I;intro a u e;by_cases c:a=p
 ·subst c;rw[q9] at e;cases e;exact⟨w_ kvs,zg,yW kvs⟩
 ·rw[qc c] at e;exact(J a u e).keep (EN I) (ql c)
def y7{Q:α->qk->Prop}{o:Option α}(h:e_ L Q o):∃v,o=some v/\Q v L:=by cases o with|none=>exact h.elim|some v=>exact⟨v,rfl,h⟩
def kJ{kvs:List<|Str×Str}{k:Str}(h:kvs.lookup k=some x):ve (kvs.map λp=>((Sum.inr p.1:j9),Y.str p.2)) (Sum.inr k)=some (Y.str x):=by
 induction kvs with
 |nil=>simp at h
 |cons p r I=>
  obtain⟨a,b⟩:=p;unfold ve;rw[AJ,BE];rw[BG] at h;by_cases c:k=a
  ·subst c;simp at h;simp[h]
  ·have J:(k==a)=false:=by simpa using c
   rw[J] at h;have U:decide ((Sum.inr a:j9)=Sum.inr k)=false:=AD λz=>c (Sum.inr.inj z).symm;simp only[U];exact I h
def yj{y:Y}(h:(ag lo n)[i]?=some y):i<n/\y=.int (lo+i):=by
 unfold ag at h;rw[Au] at h;obtain⟨z,I,e⟩:=AB.mp h;have J:i<n:=by
  by_cases c:i<n
  ·exact c
  ·rw[BJ (by simp;exact F4)] at I;cases I
 rw[DJ J] at I;cases I;exact⟨J,e.symm⟩
def mS(lo:Int)(n:Nat):(ag lo n).length=n:=by simp[ag]
def iX{tb:a9}{D:x5}(W:Nat->jo->qk->Prop)(h0:W 0 τ L)
 (hs:∀i τ L,i<n->W i τ L->g (.int<|lo+i) τ L λI L2=>tb {D with nx:=iO<|W<|i+1,ct:=iO<|W<|i+1,bk:=D.nx} I L2) (hd:∀τ L,W n τ L->D.nx τ L):uP (ag lo n) (λ_=>True) g tb D τ L:=by
 refine kc ⟨W,h0,λ_ _ _ _=>trivial,λi y τ L e w=>?_,λτ L w=>hd τ L (by rw[mS] at w;exact w)⟩;obtain⟨J,rfl⟩:=yj e;exact hs i τ L J w
def P1{tb:a9}{D:x5}{a:Addr}(h:cK L (.ref a)=some ys)(W:Nat->jo->qk->Prop)(h0:W 0 τ L)(J:∀i τ L',W i τ L'->L' a=L a)
 (hs:∀i y τ L,ys[i]?=some y->W i τ L->g y τ L λI L2=>tb {D with nx:=iO<|W<|i+1,ct:=iO<|W<|i+1,bk:=D.nx} I L2) (hd:∀τ L,W ys.length τ L->D.nx τ L):
 tV L a λys keep L1=>uP ys keep g tb D τ L1:=wb (qM h) λkeep U=>kc ⟨W,h0,λi τ L' w=>U L'<|J i τ L' w,hs,hd⟩
def iw{keep:qk->Prop}{tc:lQ}{Q:YK}(I:Nat->List Y->Prop)(hz:ys.length<sizeLine)(j:keep L)(h0:I 0 [])
 (turn:∀(i:Nat) y zs,ys[i]?=some y->I i zs->g y (τ++List.replicate n none) L λJ L2=>tc J L2 λb L3=>we b (te J L3 λz l=>iO (λzs L'=>L'=L/\I (i+1) zs) (zs++[z]) l)<|iO (λzs L'=>L'=L/\I (i+1) zs) zs L3)
 (o:∀zs,I ys.length zs->∀p,L p=none->Q (.ref p) (qi L p<|.lst zs)):i_ ys keep n g tc te τ L Q:=by
 refine Pn ⟨hz,λi zs L'=>L'=L/\I i zs,⟨rfl,h0⟩,?_,?_,?_⟩
 ·rintro i zs L' ⟨rfl,_⟩;exact j
 ·rintro i y zs L' r ⟨rfl,U⟩;exact turn i y zs r U
 ·rintro zs L' ⟨rfl,U⟩ p t;exact o zs U p t
def rM{tc:lQ}{Q:YK}(I:Nat->List Y->Prop)(hz:m<sizeLine)(h0:I 0 [])
 (turn:∀(i:Nat) zs,i<m->I i zs->g (.int<|lo+i) (τ++List.replicate n none) L λJ L2=>tc J L2 λb L3=>we b (te J L3 λz j=>iO (λzs L'=>L'=L/\I (i+1) zs) (zs++[z]) j)<|iO (λzs L'=>L'=L/\I (i+1) zs) zs L3)
 (l:∀zs,I m zs->∀p,L p=none->Q (.ref p) (qi L p<|.lst zs)):i_ (ag lo m) (λ_=>True) n g tc te τ L Q:=by
 refine iw (keep:=λ_=>True) I (by rw[mS];exact hz) trivial h0 (λi y zs e U=>?_) λzs U=>l zs (by rw[mS] at U;exact U);obtain⟨o,rfl⟩:=yj e;exact turn i zs o U
def P2(ys:List Y)(n:Nat):gD ys (some ((n:Nat):Int)) none=ys.drop n:=by
 unfold gD;rw[HT.sIx_nat,HT.sIx_none];by_cases h:n<=ys.length
 ·rw[BO h,AS (by rw[BF];simp +arith only)]
 ·rw[Cg (by lia),Eu<|Ap _,Eu (by lia),List.take_nil]
def P4(ys:List Y)(n:Nat):gD ys none (some ((n:Nat):Int))=ys.take n:=by
 unfold gD;rw[HT.sIx_nat,HT.sIx_none,DS,Nat.sub_zero];by_cases h:n<=ys.length
 ·rw[BO h]
 ·rw[Cg (by lia),AS<|Ap _,AS (by lia)]
def v4{I:List α}{f:α->Y}{w:α}(h:I[i]?=some w):dW (I.map f) (i:Int)=some (f w):=jx (by rw[Au,h];rfl)
def vd(t:a9)(n:Nat)(ys:List Y)(L:qk)(Q:YK):Prop:=t {nx:=λ_ L'=>eQ Q .non L',rt:=eQ Q} (ys.map some++List.replicate (n-ys.length) none) L
def xa{Q:YK}{y:Y}(h:Q y L):eQ Q y L:=⟨L,EK L,h⟩
def mV{Q:YK}{y:Y}(s:qh L L')(h:Q y L):eQ Q y L':=⟨L,s,h⟩
theorem Fn3.never{P:Vv}{w:Vw}{K:Ah}{k:Nat}{sp:kh}(no:∀ys L Q,¬sp ys L Q):Fn3 P w K mg base k f fd ps sp:=
 bP.never λJ H Q E ⟨ys,L,I,_,_,z,_⟩=>no ys L I z
def qh.upd{a:Addr}{o:LO}(s:qh L L')(h:L a=none):qh L (qi L' a o):=λb u e=>by rw[qc<|aP e h];exact s b u e
def qh.put{a:Addr}{o:LO}(s:qh L L')(h:L' a=some o):qh (qi L a o) L':=λb u e=>by
 by_cases c:b=a
 ·subst c;rw[q9] at e;cases e;exact h
 ·rw[qc c] at e;exact s b u e
theorem uI{G:G3}{H:Hp}:∀I:Vo,xt G H (I.map Y.int)<|I.map V.int
 |[]=>rfl
 |_::r=>⟨_,_,rfl,rfl,uI r⟩
end L3
namespace L2
open PySem PySem.Spec PyProof.Rows
section
variable {σ:L2.St}
def oJ(I:qw X pins σ H s)(U:∀b∈fp,H b=none)(k:∀b o,b∉fp->s.heap.get? b=some o->h'.get? b=some o):dQ X.prog X.w H h':=λb u e=>by
 refine(I.hok b u e).stay (λc v g q=>k c v (λz=>?_) q) (λ_ q=>q) λ_ _ q=>q;have J:=U c z;rcases g with w|w
 ·rw[w,e] at J;cases J
 ·rw[w] at J;cases J
def zH{fs:List Addr}(k:∀b o,b∉fp->h.get? b=some o->h'.get? b=some o):Un fs fp H H h h':=
 ⟨λb o q _ _ x=>k b o x q,λb o q _ _ x=>⟨o.slots,k b o x q⟩,λ_ _ _ n _=>n,λb o q x=>⟨o,k b o x q⟩,λ_ _ q=>q,λ_ _ _ q=>q,λb I q=>⟨#[],by rw[q];simp⟩⟩
def qw.turnedL(I:qw X pins σ H s)(k:∀b o,b∉fp->s.heap.get? b=some o->h'.get? b=some o)(U:∀b∈fp,lW X pins H b)(g:0<t':=by walk_at "t"):qw X pins σ H {s with heap:=h',toks:=t'}:=
 I.call' (s':={s with heap:=h',toks:=t'}) (ch:=fp) rfl (zH k) (oJ I (λb J=>(U b J).1) k) I.bare λb J=>⟨(U b J).2.2.2.1,(U b J).2.1,(U b J).2.2.2.2.1,(U b J).2.2.2.2.2⟩
def qw.turnedN{a:Addr}{o:HO}(I:qw X pins σ H s)(k:∀b o,b∉fp->s.heap.get? b=some o->h'.get? b=some o)(U:∀b∈fp,lW X pins H b)(j:s.heap.objs.size<=a)
 (new:xj X.prog X.w (upd H a o) h' a o) (p:0<t':=by walk_at "t"):qw X pins σ (upd H a o) {s with heap:=h',toks:=t'}:=by
 have g:H a=none:=I.hok.fresh j;have lt:∀b ob,s.heap.get? b=some ob->b≠a:=λb ob q=>A9<|AO (wh q) j;refine I.call' (s':={s with heap:=h',toks:=t'}) (ch:=fp) rfl ?_ ?_ I.bare λb J=>⟨(U b J).2.2.2.1,(U b J).2.1,(U b J).2.2.2.2.1,(U b J).2.2.2.2.2⟩
 ·exact⟨λb ob q _ _ x=>k b ob x q,λb ob q _ _ x=>⟨ob.slots,k b ob x q⟩,λb ob q n _=>by rw[ql<|lt b ob q];exact n,λb ob q x=>⟨ob,k b ob x q⟩,
   λb l q=>by rw[ql<|zo q g];exact q,λb ob u q=>by rw[ql<|zo q g];exact q,λb r q=>⟨#[],by rw[ql<|zo q g,q];simp⟩⟩
 ·intro b u e;by_cases J:b=a
  ·subst J;rw[zg] at e;cases e;exact new
  ·rw[ql J] at e;have ok:=oJ I (h':=h') (λb J=>(U b J).1) k b u e;exact ok.stay (λ_ _ _ q=>q) (λc q=>by rw[ql<|zo q g];exact q) λc l q=>by rw[ql<|zo q g];exact q
end
def G8(K:Ah)(a:Addr):It:=
 ⟨λi H=>∃xs x,aS K H a xs/\xs[i]?=some x,λi H v H'=>∃p x,H p=none/\v=.ref p/\H'=upd H p (.tup [.int i,x])/\∀xs,aS K H a xs->xs[i]?=some x,λi H=>∃xs,aS K H a xs/\xs.length<=i⟩
def P5{P:Vv}{w:Vw}{K:Ah}(a e it:Addr)(l:e≠it):Fw P w K (.Tuple nC x1 tp) (G8 K a) [e,it] e (λi h=>(∃old,IsEnum h e it i old)/\h.IsListIter it a i) where
 mem:=by simp
 obj:=λi h ⟨⟨old,J⟩,U⟩ b g=>by
  rcases Am.mp g with rfl|g
  ·exact⟨_,J,λv z=>by cases z⟩
  ·cases An.mp g;obtain⟨o,T,hc,hd⟩:=U;exact⟨o,T,λv z=>by rw[hd] at z;cases z⟩
 keep:=λi h h' ⟨⟨old,J⟩,U⟩ k=>⟨⟨old,k e (by simp) _ J⟩,U.at λo q=>k it (by simp) o q⟩
 item:=by
  intro X hP hw hK hc i r s σ H E I t ⟨⟨old,J⟩,U⟩ hg;subst hP hw hK;obtain⟨xs,x,C,hx⟩:=hg;obtain⟨a1,rv,p,hz⟩:=I.list C;obtain⟨u,hu,ru⟩:=rv.get hx;refine wpAny_pyNext_enum_item J U p.isList (x:=u) (by simpa using hu) l λh1 a2 a3 ht ac hk=>⟨.ref s.heap.objs.size,rfl,wpAny_letOwnedTupleGo_enum a2 λh2 a4 j=>?_⟩;have el:e<s.heap.objs.size:=wh J;have il:it<s.heap.objs.size:=by obtain⟨o,T,_⟩:=U;exact wh T
  have kk:∀b o,b∉[e,it]->s.heap.get? b=some o->h2.get? b=some o:=λb o nb q=>by have n1:b≠e:=λz=>nb (by simp[z]);have n2:b≠it:=λz=>nb (by simp[z]);exact j.extBut b o n1<|hk b o n1 n2 q
  have tg:h2.get? s.heap.objs.size=some {cls:=.type "tuple",data:=.seq #[.int i s.toks,u]}:=j.extBut _ _ (CH el) ht;refine⟨.ref s.heap.objs.size,upd H s.heap.objs.size<|.tup [.int i,x],?_,rfl,⟨_,x,I.hok.fresh<|Ap _,rfl,rfl,λys hy=>by rw[I.list_inj hy C];exact hx⟩,⟨⟨_,a4⟩,a3.at λo q=>j.extBut _ _ (AG l) q⟩,λb g=>?_⟩
  ·exact I.turnedN (t':=s.toks+1) kk t (Ap _) ⟨by show 2<=sizeLine;decide,[.int i s.toks,u],.cons ⟨_,rfl⟩<|.cons ru .nil,⟨_,tg,rfl,_,rfl⟩⟩
  ·have a5:b<s.heap.objs.size:=by rcases Am.mp g with rfl|g;exact el;cases An.mp g;exact il
   rw[ql<|A9 a5];exact(t b g).1
 done:=by intro X hP hw hK hc i r s σ H E I t ⟨⟨old,J⟩,U⟩ hg;subst hP hw hK;obtain⟨xs,C,hx⟩:=hg;obtain⟨a1,rv,p,hz⟩:=I.list C;have hl:=rv.length;exact wpAny_pyNext_enum_end (I.ok.hd hc) J U p.isList (by simp;omega) λh1 eb=>⟨rfl,I.turnedL (t':=s.toks) (fp:=[e,it]) (λb o nb q=>eb b o (λz=>nb (by simp[z])) q) t⟩
 self:=λ_ _ _ _ _ ⟨⟨_,J⟩,_⟩ h=>wpAny_pyIter_enum J h
def P6(K:Ah)(ta:TA):TI:=λσ H R=>ta σ H λvs H1=>∃a,vs=[.ref a]/\(∃xs,aS K H1 a xs)/\R (G8 K a) H1
def rP:bootBuiltins "enumerate"=some (.type "enumerate"):=by decide +kernel
def P7{a:Expr}{ta:TA}{p:Pos}(T:Gl X "enumerate")(hm:X.mg "enumerate"=none)(ha:PA X [a] ta)(hs:starEach [a] X.env=[(false,eval a X.env)]:=by rfl):
 PI X (.Tuple nC x1 tp) (.Call (.Name "enumerate" p) [a] [] pos) (P6 X.K ta):=by
 intro J s r H R I h;refine Call_<|e9 I T hm rP<|CN (aI (ha pos J s r H _ I h) λus U ⟨vs,t,j,r1,q1⟩=>?_) hs rfl;obtain⟨l,e,⟨xs,hq⟩,q⟩:=q1;subst e;obtain⟨u,rfl,ru⟩:=lL r1;cases ru;obtain⟨a1,rv,pl,hz⟩:=j.list hq;refine call_enumerate_list pl.isList λh1 C hi a2 hk=>?_;have I2:qw X J r t {U with heap:=h1}:=j.kept (t':=U.toks) hk;refine wpAny_pyIter_enum (s:={U with heap:=h1}) C ?_;refine⟨U.heap.objs.size+1,[U.heap.objs.size+1,U.heap.objs.size],_,_,t,rfl,I2,P5 l _ _<|Nat.succ_ne_self _,⟨⟨_,C⟩,hi⟩,λb o=>?_,q⟩;have g:U.heap.objs.size<=b:=by rcases Am.mp o with rfl|o;exact CS _;cases An.mp o;exact Ap _
 exact j.fpOk g<|j.hok.fresh g
end L2
namespace L3
open PySem L2
theorem lF{a:Addr}{keep:qk->Prop}(h:∀H L,jf H₀ H->zw G H L->keep L->∃xs,aS G.K H a xs/\xt G H ys xs):jF G H₀ (G8 G.K a) (ys.zipIdx.map λp=>Y.tup [.int (p.2:Nat),p.1]) keep where
 go:=λi H L t I J o=>by
  obtain⟨xs,sq,r⟩:=h H L t I J;have:i<xs.length:=by rw[<-r.length];simpa using o
  exact⟨xs,xs[i],sq,Al this⟩
 yld:=λi H L x H' y t I J l ⟨p,z,U,C,T,f⟩=>by subst C T;obtain⟨xs,sq,r⟩:=h H L t I J;rw[Au,List.getElem?_zipIdx] at l;obtain⟨⟨y',j⟩,ey,e3⟩:=AB.mp l;obtain⟨a1,g,e4⟩:=AB.mp ey;cases e4;subst e3;obtain⟨x',e',rv⟩:=r.get g;have:=f xs sq;rw[e'] at this;cases this;refine⟨EN U,I.skip U,p,_,rfl,dS.of zg,⟨_,_,rfl,?_,_,_,rfl,rv.ts<|EN U,rfl⟩⟩;show V.int _=V.int _;congr 1;simp
 stop:=λH L t I J=>by obtain⟨xs,sq,r⟩:=h H L t I J;exact⟨xs,sq,by rw[Af,List.length_zipIdx,r.length];exact Ap _⟩
def nK(ys:List Y):List Y:=ys.zipIdx.map λp=>Y.tup [.int (p.2:Nat),p.1]
def hG{y:Y}(h:(nK ys)[i]?=some y):∃z,ys[i]?=some z/\y=.tup [.int i,z]:=by unfold nK at h;rw[Au,List.getElem?_zipIdx] at h;obtain⟨⟨J,j⟩,U,g⟩:=AB.mp h;obtain⟨l,I,o⟩:=AB.mp U;cases o;exact⟨J,I,by rw[<-g];simp⟩
def pi(ys:List Y):(nK ys).length=ys.length:=by simp[nK]
def IG(tl:xu)(τ:jo)(L:qk)(R:List Y->(qk->Prop)->qk->Prop):Prop:=tl τ L λx L1=>match x with
 |.ref a=>tV L1 a λys keep L=>R (nK ys) keep L
 |.sq ys=>R (nK ys) (λ_=>True) L1
 |_=>False
def mC{a:Expr}{p:Pos}(hg:Gl X "enumerate")(hm:X.mg "enumerate"=none)(ha:QE X a te)(hs:starEach [a] X.env=[(false,eval a X.env)]:=by rfl)
 (j:starEach [a] X.env=(false,eval a X.env)::starEach [] X.env:=by rfl):QI X (.Tuple nC x1 tp) (.Call (.Name "enumerate" p) [a] [] pos) (IG te):=PI.imq (P7 hg hm (wz ha dX j) hs) λσ H R τ L R3 rs l z k=>by
 refine⟨τ,L,_,rs,l,z,λv g y o T I U C=>?_⟩;cases y with
 |ref a=>
  obtain⟨ys,keep,es,kp,hk,z2⟩:=sg C;have hy:∀H L,jf g H->zw X.g3 H L->keep L->∃J,aS X.K H a J/\xt X.g3 H ys J:=λH L _ l e=>dk l<|hk L e;obtain⟨J,sq,_⟩:=hy g o (EL _) I kp;cases U;exact⟨a,rfl,⟨J,sq⟩,k _ g _ _ o T I (lF hy) z2⟩
 |sq ys=>
  obtain⟨a,J,e,sf,r⟩:=U;subst e;exact⟨a,rfl,⟨J,sf.sq⟩,k _ g _ (λ_=>True) o T I (lF λH L t _ _=>⟨J,(sf.ts t).sq,r.ts t⟩) C⟩
 |_=>exact C.elim
end L3
namespace L2
open PySem PySem.Spec PyProof.Rows
def dP(t:Bool)(h:Vx)(it l:Addr)(k:Nat):Prop:=match t with
 |false=>h.IsListIter it l k
 |true=>h.IsTupleIter it l k
def i6(t:Bool)(h:Vx)(l:Addr)(xs:Vj):Prop:=match t with
 |false=>h.IsList l xs
 |true=>h.IsTuple l xs
def dP.on{k:Nat}(x:dP t h it l k)(e:∀o,h.get? it=some o->h'.get? it=some o):dP t h' it l k:=by cases t with|false=>exact Heap.IsListIter.at x e|true=>exact Heap.IsTupleIter.at x e
def i6.on{xs:Vj}(x:i6 t h l xs)(e:∀o,h.get? l=some o->h'.get? l=some o):i6 t h' l xs:=by cases t with|false=>exact Heap.IsList.at x e|true=>exact Heap.IsTuple.at x e
def dP.ob{k:Nat}(x:dP t h it l k):∃o,h.get? it=some o/\∀v,o.data≠.cell v:=by
 cases t with
 |false=>obtain⟨o,e,c,d⟩:=x;exact⟨o,e,λv z=>by rw[d] at z;cases z⟩
 |true=>obtain⟨o,e,c,d⟩:=x;exact⟨o,e,λv z=>by rw[d] at z;cases z⟩
def yJ(l:Addr):¬((Value.ref l==Value.none)=true):=AQ
section
variable {w:Vw}
def wO{xs:Vj}{x:Vt}(hi:s.heap.IsTupleIter it l i)(U:s.heap.IsTuple l xs)(g:xs[i]?=some x)
 (q:∀h',h'.IsTupleIter it l (i+1)->Heap.SameBut it s.heap h'->Q x {s with heap:=h'}):wpAny (model prog w) A (Builtin.SmallTypes.nextOf<|.ref it) Q E s:=by
 obtain⟨o,J,ci,I⟩:=id hi;obtain⟨u,ul,_,n,dl⟩:=U;unfold Builtin.SmallTypes.nextOf;refine Aa<|wpAny_callSpecial?_slot (name:="__next__") hi.typeIs Db<|wpAny_call_entry Db hi.typeIs F.entry_tuple_iterator_next ?_<|F.args_tuple_iterator_next_1 _;refine Aa (m:=field (.ref it) 0)<|AX J I (x:=.ref l) rfl ?_;rw[Ay<|yJ l];refine Aa (m:=field (.ref it) 1)<|AX J I (x:=.int i 0) rfl<|Aa (m:=seqItems?<|.ref l)<|Bo ul dl ?_;simp only[BB,g];refine Aa<|wpAny_setField J I (by simp)<|Ai ⟨x,rfl,Ai<|q _ ⟨_,Bs _ J<|Obj.isFreed_of_fields<|Obj.data_mapFields I _,(Obj.cls_mapFields ..).trans ci,?_⟩<|yp ..⟩;rw[Obj.data_mapFields I];simp[rawInt]
def zJ{xs:Vj}(U:A.handled=none)(hi:s.heap.IsTupleIter it l i)(g:s.heap.IsTuple l xs)(j:xs[i]?=none)
 (q:∀h' e,Heap.ExtBut it s.heap h'->(∃o,h'.get? e=some o/\o.cls=.type "StopIteration")->E (.ref e) {s with heap:=h'}):wpAny (model prog w) A (Builtin.SmallTypes.nextOf<|.ref it) Q E s:=by
 obtain⟨o,I,ci,J⟩:=id hi;obtain⟨u,ul,_,n,dl⟩:=g;unfold Builtin.SmallTypes.nextOf;refine Aa<|wpAny_callSpecial?_slot (name:="__next__") hi.typeIs Db<|wpAny_call_entry Db hi.typeIs F.entry_tuple_iterator_next ?_<|F.args_tuple_iterator_next_1 _;refine Aa (m:=field (.ref it) 0)<|AX I J (x:=.ref l) rfl ?_;rw[Ay<|yJ l];refine Aa (m:=field (.ref it) 1)<|AX I J (x:=.int i 0) rfl<|Aa (m:=seqItems?<|.ref l)<|Bo ul dl ?_;simp only[BB,j];refine Aa<|Bv<|Aa<|wpAny_setField I J (by simp) ?_;refine Aa (m:=newExc (.type "StopIteration") []) ?_;simp only[newExc,newTuple];refine Aa (Bu (Aa (m:=firstArgMember _ _) (wpAny_of_eq (a:=Value.none) (by first|rfl|(simp only[firstArgMember];rfl))<|Bu ?_ (by size_fits))) (by size_fits));simp only[raiseNew];refine Aa<|wpAny_handled ?_
 first|rw[show A.in1.handled=none from U]|rw[U]
 exact Aa<|Ai<|wpAny_throw<|q _ _ (((yp ..).extBut.push _).push _) ⟨_,xT _ rfl,rfl⟩
def dP.next{xs:Vj}{x:Vt}(hi:dP t s.heap it l i)(I:i6 t s.heap l xs)(J:xs[i]?=some x)
 (q:∀h',dP t h' it l (i+1)->Heap.SameBut it s.heap h'->Q x {s with heap:=h'}):wpAny (model prog w) A (Builtin.SmallTypes.nextOf<|.ref it) Q E s:=by
 cases t with|false=>exact wpAny_nextOf_list_item hi I J q|true=>exact wO hi I J q
def dP.stop{xs:Vj}(I:A.handled=none)(hi:dP t s.heap it l i)(J:i6 t s.heap l xs)(U:xs[i]?=none)
 (q:∀h' e,Heap.ExtBut it s.heap h'->(∃o,h'.get? e=some o/\o.cls=.type "StopIteration")->E (.ref e) {s with heap:=h'}):wpAny (model prog w) A (Builtin.SmallTypes.nextOf<|.ref it) Q E s:=by
 cases t with|false=>exact wpAny_nextOf_list_end I hi J U q|true=>exact zJ I hi J U q
structure FQ(z TI TO i1 i2 l1 l2:Addr):Prop where
 n1:TI≠z
 n2:TO≠z
 n3:i1≠z
 n4:i2≠z
 n5:TO≠i1
 n6:TO≠i2
 n7:i1≠i2
 n8:l1≠z
 n9:l1≠TO
 n10:l1≠i1
 n11:l1≠i2
 n12:l2≠z
 n13:l2≠TO
 n14:l2≠i1
 n15:l2≠i2
def P8{z TI TO:Addr}{k:Nat}{xs ys:Vj}{x y a b:Vt}(D:FQ z TI TO i1 i2 l1 l2)(hz:IsZip s.heap z TI TO .none)(hI:IsPair s.heap TI (.ref i1)<|.ref i2)(hO:IsPair s.heap TO a b)
 (h1:dP t1 s.heap i1 l1 k) (h2:dP t2 s.heap i2 l2 k) (q1:i6 t1 s.heap l1 xs) (q2:i6 t2 s.heap l2 ys) (hx:xs[k]?=some x) (hy:ys[k]?=some y)
 (q:∀h',IsZip h' z TI TO (rawInt s.heap.objs.size)->IsPair h' TO x y->dP t1 h' i1 l1 (k+1)->dP t2 h' i2 l2 (k+1)->IsPair h' s.heap.objs.size x y->
  (∀c o,c≠z->c≠TO->c≠i1->c≠i2->s.heap.get? c=some o->h'.get? c=some o)->Q (.ref s.heap.objs.size) {s with heap:=h'}):
 wpAny (model prog w) A (Builtin.«zip.__next__» ⟨[.ref z],[]⟩) (λxa s'=>∃v,xa=.done (.ret v)/\Q v s') E s:=by
 refine Aa (m:=field (.ref z) 2)<|AX hz rfl (x:=.bool false) rfl<|Aa (m:=field (.ref z) 3)<|AX hz rfl (x:=.ref TI) rfl<|Aa<|Bo hI rfl ?_;refine Aa (m:=Builtin.SmallTypes.ownedTupleIsFree<|.ref z) ?_;unfold Builtin.SmallTypes.ownedTupleIsFree;refine Aa<|AX hz rfl (x:=.none) rfl<|Ai ?_;simp only[if_true];refine Aa<|Bv<|Aa<|AX hz rfl (x:=.ref TO) rfl<|Aa<|wpAny_setField_rec hz (by simp) λg1 z1 J=>?_;have a5:IsZip g1 z TI TO .ellipsis:=z1;refine Aa ?_;simp only[Em,List.zipIdx_nil,Cq,Ds];refine Aa<|Aa<|wpAny_onRaise<|Aa (m:=Builtin.SmallTypes.nextOf<|.ref i1)<|(h1.on λo e=>J.extBut _ _ D.n3 e).next (q1.on λo e=>J.extBut _ _ D.n8 e) hx λg2 ac g=>Ai ?_;have O2:IsPair g2 TO a b:=g.extBut _ _ D.n5<|J.extBut _ _ D.n2 hO;refine Aa<|Bo O2 rfl<|Aa<|wpAny_updateSeq_pair O2 λg3 O3 j=>Aa<|wpAny_letGo<|Ai ?_;have al:IsPair g3 TO x b:=O3;refine Aa (Aa (wpAny_onRaise (Aa (m:=Builtin.SmallTypes.nextOf<|.ref i2) (dP.next (l:=l2) (i:=k) (xs:=ys) (x:=y) (t:=t2) (h2.on λo e=>j.extBut _ _ (AG D.n6)<|g.extBut _ _ (AG D.n7)<|J.extBut _ _ D.n4 e)
  (q2.on λo e=>j.extBut _ _ D.n13<|g.extBut _ _ D.n14<|J.extBut _ _ D.n12 e) hy λg4 au p=>Ai ?_))))
 have O4:IsPair g4 TO x b:=p.extBut _ _ D.n6 al;refine Aa<|Bo O4 rfl<|Aa<|wpAny_updateSeq_pair O4 λI O5 r=>Aa<|wpAny_letGo<|Ai<|Ai ?_;have C:IsPair I TO x y:=O5;refine Aa<|Bo C rfl<|Aa<|wpAny_newTuple ?_;have sz:I.objs.size=s.heap.objs.size:=by rw[r.1,p.1,j.1,g.1,J.1]
 have z5:IsZip I z TI TO .ellipsis:=r.extBut _ _ (AG D.n2)<|p.extBut _ _ (AG D.n4)<|j.extBut _ _ (AG D.n2)<|g.extBut _ _ (AG D.n3) a5;have k5:∀c o,c≠z->c≠TO->c≠i1->c≠i2->s.heap.get? c=some o->I.get? c=some o:=λc o U T a3 a4 e=>r.extBut _ _ T<|p.extBut _ _ a4<|j.extBut _ _ T<|g.extBut _ _ a3<|J.extBut _ _ U e;have zl:z<I.objs.size:=wh z5;refine Aa (m:=Builtin.SmallTypes.ownedTupleHandOut (.ref z)<|.ref I.objs.size) ?_;unfold Builtin.SmallTypes.ownedTupleHandOut;refine Aa<|wpAny_setField_rec (show IsZip (I.push {cls:=.type "tuple",data:=.seq #[x,y]}) z TI TO .ellipsis from vb _ z5) (by simp) λg7 z7 e7=>?_;have av:IsZip g7 z TI TO (rawInt I.objs.size):=z7;refine wpAny_setField_rec av (by simp) λg8 z8 e8=>Ai ⟨_,rfl,?_⟩;have ax:IsZip g8 z TI TO (rawInt I.objs.size):=z8;have up:∀c o,c≠z->I.get? c=some o->g8.get? c=some o:=λc o U e=>e8.extBut _ _ U<|e7.extBut _ _ U<|vb _ e;have T8:IsPair g8 I.objs.size x y:=e8.extBut _ _ (CH zl)<|e7.extBut _ _ (CH zl)<|xT _ rfl;have xa:=q g8 (by rw[<-sz];exact ax) (up _ _ D.n2 C) (ac.on λo e=>up _ o D.n3<|r.extBut _ _ (AG D.n5)<|p.extBut _ _ D.n7<|j.extBut _ _ (AG D.n5) e) (au.on λo e=>up _ o D.n4<|r.extBut _ _ (AG D.n6) e)
  (by rw[<-sz];exact T8) λc o U T a3 a4 e=>up c o U<|k5 c o U T a3 a4 e
 show Q (.ref I.objs.size) _;rw[sz];exact xa
def P9{z TI TO:Addr}{k:Nat}{xs ys:Vj}{a b:Vt}{Q:Fin->Vu->Prop}(hh:A.handled=none)(D:FQ z TI TO i1 i2 l1 l2)(hz:IsZip s.heap z TI TO .none)(hI:IsPair s.heap TI (.ref i1)<|.ref i2)(hO:IsPair s.heap TO a b)
 (h1:dP t1 s.heap i1 l1 k) (h2:dP t2 s.heap i2 l2 k) (q1:i6 t1 s.heap l1 xs) (q2:i6 t2 s.heap l2 ys) (J:xs[k]?=none\/ys[k]?=none)
 (q:∀h' e,(∀c o,c≠z->c≠TO->c≠i1->c≠i2->s.heap.get? c=some o->h'.get? c=some o)->(∃o,h'.get? e=some o/\o.cls=.type "StopIteration")->E (.ref e) {s with heap:=h'}):
 wpAny (model prog w) A (Builtin.«zip.__next__» ⟨[.ref z],[]⟩) Q E s:=by
 refine Aa (m:=field (.ref z) 2)<|AX hz rfl (x:=.bool false) rfl<|Aa (m:=field (.ref z) 3)<|AX hz rfl (x:=.ref TI) rfl<|Aa<|Bo hI rfl ?_;refine Aa (m:=Builtin.SmallTypes.ownedTupleIsFree<|.ref z) ?_;unfold Builtin.SmallTypes.ownedTupleIsFree;refine Aa<|AX hz rfl (x:=.none) rfl<|Ai ?_;simp only[if_true];refine Aa<|Bv<|Aa<|AX hz rfl (x:=.ref TO) rfl<|Aa<|wpAny_setField_rec hz (by simp) λg1 z1 I=>?_;have U:IsZip g1 z TI TO .ellipsis:=z1;refine Aa ?_;simp only[Em,List.zipIdx_nil,Cq,Ds];refine Aa<|Aa<|wpAny_onRaise<|Aa (m:=Builtin.SmallTypes.nextOf<|.ref i1) ?_;have g:=h1.on λo e=>I.extBut _ _ D.n3 e;have j:=q1.on λo e=>I.extBut _ _ D.n8 e;cases T:xs[k]? with
 |none=>
  refine dP.stop hh g j T λg2 e s2 he=>?_;obtain⟨oe,ge,ce⟩:=he;have z2:IsZip g2 z TI TO .ellipsis:=s2 _ _ (AG D.n3) U;have nz:e≠z:=λw=>by subst w;rw[z2] at ge;cases ge;simp at ce
  exact wpAny_setField_rec z2 (by simp) λg3 _ s3=>q g3 e (λc o p _ a3 _ w=>s3.extBut _ _ p<|s2 _ _ a3<|I.extBut _ _ p w) ⟨oe,s3.extBut _ _ nz ge,ce⟩
 |some x=>
  have hy:ys[k]?=none:=by rcases J with h|h;rw[T] at h;cases h;exact h
  refine dP.next g j T λg2 a5 r=>Ai ?_;have O2:IsPair g2 TO a b:=r.extBut _ _ D.n5<|I.extBut _ _ D.n2 hO;refine Aa<|Bo O2 rfl<|Aa<|wpAny_updateSeq_pair O2 λg3 O3 C=>Aa<|wpAny_letGo<|Ai ?_;refine Aa (Aa (wpAny_onRaise (Aa (m:=Builtin.SmallTypes.nextOf<|.ref i2) (dP.stop (t:=t2) (l:=l2) (i:=k) (xs:=ys) hh (h2.on λo e=>C.extBut _ _ (AG D.n6)<|r.extBut _ _ (AG D.n7)<|I.extBut _ _ D.n4 e)
   (q2.on λo e=>C.extBut _ _ D.n13<|r.extBut _ _ D.n14<|I.extBut _ _ D.n12 e) hy λg4 e s4 he=>?_))))
  obtain⟨oe,ge,ce⟩:=he;have z4:IsZip g4 z TI TO .ellipsis:=s4 _ _ (AG D.n4)<|C.extBut _ _ (AG D.n2)<|r.extBut _ _ (AG D.n3) U;have nz:e≠z:=λw=>by subst w;rw[z4] at ge;cases ge;simp at ce
  exact wpAny_setField_rec z4 (by simp) λg5 _ s5=>q g5 e (λc o p a2 a3 a4 w=>s5.extBut _ _ p<|s4 _ _ a4<|C.extBut _ _ a2<|r.extBut _ _ a3<|I.extBut _ _ p w) ⟨oe,s5.extBut _ _ nz ge,ce⟩
end
def FR(t:Bool):Vy:=if t then "tuple_iterator" else "list_iterator"
section
variable {w:Vw}
def i6.iter{xs:Vj}(I:i6 t s.heap l xs)(q:Q (.ref s.heap.objs.size) {s with heap:=s.heap.push {cls:=.type<|FR t,data:=.fields #[.ref l,.int 0 0]}}):wpAny (model prog w) A (pyIter<|.ref l) Q E s:=by cases t with|false=>exact wpAny_pyIter_list I q|true=>exact wpAny_pyIter_tuple I q
end
def dP.new(e:h.get? it=some {cls:=.type<|FR t,data:=.fields #[.ref l,.int 0 0]}):dP t h it l 0:=by cases t with|false=>exact⟨_,e,rfl,rfl⟩|true=>exact⟨_,e,rfl,rfl⟩
abbrev Ga(t1:Bool)(h:Vx)(l1:Addr):Vx:=h.push {cls:=.type<|FR t1,data:=.fields #[.ref l1,.int 0 0]}
abbrev Gb(t1 t2:Bool)(h:Vx)(l1 l2:Addr):Vx:=(Ga t1 h l1).push {cls:=.type<|FR t2,data:=.fields #[.ref l2,.int 0 0]}
abbrev Gc(t1 t2:Bool)(h:Vx)(l1 l2:Addr):Vx:=(Gb t1 t2 h l1 l2).push {cls:=.type "tuple",data:=.seq #[.ref h.objs.size,.ref (Ga t1 h l1).objs.size]}
abbrev Gd(t1 t2:Bool)(h:Vx)(l1 l2:Addr):Vx:=(Gc t1 t2 h l1 l2).push {cls:=.type "tuple",data:=.seq #[.none,.none]}
abbrev Fp(t1 t2:Bool)(h:Vx)(l1 l2:Addr):Vx:=(Gd t1 t2 h l1 l2).push {cls:=.type "zip",data:=.fields #[.none,.bool false,.bool false,.ref (Gb t1 t2 h l1 l2).objs.size,.ref (Gc t1 t2 h l1 l2).objs.size]}
def xL(t1 t2:Bool)(l1 l2:Addr)(xs ys:Vj):Meets (Builtin.«zip.__new__» ⟨[.type "zip",.ref l1,.ref l2],[]⟩) (λ_ R s=>i6 t1 s.heap l1 xs/\i6 t2 s.heap l2 ys/\R (.ok<|.ret<|.ref (Gd t1 t2 s.heap l1 l2).objs.size) {s with heap:=Fp t1 t2 s.heap l1 l2}):=
 .of_wp λI w A R s h=>by
  obtain⟨J,g,d,tk,os⟩:=s;obtain⟨j,l,h⟩:=h;have U:=sub_zip;have p:i6 t1 (Shared.heap ⟨J,g,d,tk,os⟩) l1 xs:=j;have r:i6 t2 (Shared.heap ⟨J.push {cls:=.type<|FR t1,data:=.fields #[.ref l1,.int 0 0]},g,d,tk,os⟩) l2 ys:=l.on λo e=>vb _ e
  wp_walk using i6.iter p,i6.iter r
  exact⟨_,rfl,h⟩
def P_{w:Vw}{xs ys:Vj}(p:i6 t1 s.heap l1 xs)(r:i6 t2 s.heap l2 ys)
 (q:∀h',IsZip h' (s.heap.objs.size+4) (s.heap.objs.size+2) (s.heap.objs.size+3) .none->IsPair h' (s.heap.objs.size+2) (.ref s.heap.objs.size) (.ref<|s.heap.objs.size+1)->IsPair h' (s.heap.objs.size+3) .none .none->
  dP t1 h' s.heap.objs.size l1 0->dP t2 h' (s.heap.objs.size+1) l2 0->(∀c o,s.heap.get? c=some o->h'.get? c=some o)->Q (.ref<|s.heap.objs.size+4) {s with heap:=h'}):
 wpAny (model prog w) A (call (.type "zip") [.ref l1,.ref l2]) Q E s:=by
 refine callType_new F.called_zip (by decide) (F.typeCall_zip_2 _ _) (F.newCall_zip_2 _ _) (λobj=>F.args_object_init_3 obj _ _) F.entry_zip_new (xL t1 t2 l1 l2 xs ys) ⟨p,r,?_⟩;have I:(Ga t1 s.heap l1).objs.size=s.heap.objs.size+1:=Fg ..;have J:(Gb t1 t2 s.heap l1 l2).objs.size=s.heap.objs.size+2:=by rw[Fg,I]
 have U:(Gc t1 t2 s.heap l1 l2).objs.size=s.heap.objs.size+3:=by rw[Fg,J]
 have j:(Gd t1 t2 s.heap l1 l2).objs.size=s.heap.objs.size+4:=by rw[Fg,U]
 have g:(Fp t1 t2 s.heap l1 l2).get? (Gd t1 t2 s.heap l1 l2).objs.size=some _:=xT _ rfl;have l:(Fp t1 t2 s.heap l1 l2).get? (Gc t1 t2 s.heap l1 l2).objs.size=some _:=vb _<|xT _ rfl;have g3:(Fp t1 t2 s.heap l1 l2).get? (Gb t1 t2 s.heap l1 l2).objs.size=some _:=vb _<|vb _<|xT _ rfl;have g2:(Fp t1 t2 s.heap l1 l2).get? (Ga t1 s.heap l1).objs.size=some _:=vb _<|vb _<|vb _<|xT _ rfl;have g1:(Fp t1 t2 s.heap l1 l2).get? s.heap.objs.size=some _:=vb _<|vb _<|vb _<|vb _<|xT _ rfl;show _/\_;rw[J,U,j] at g;rw[I,J] at g3;rw[U] at l;rw[I] at g2;rw[j];exact⟨⟨_,g,rfl⟩,q _ g g3 l (dP.new g1) (dP.new g2) λc o e=>vb _<|vb _<|vb _<|vb _<|vb _ e⟩
def Sq(t:Bool)(K:Ah)(H:Hp)(a:Addr)(xs:Vz):Prop:=match t with
 |false=>aS K H a xs
 |true=>dS K H a xs
section
variable {σ:L2.St}
def qw.seq{a:Addr}(I:qw X pins σ H s)(h:Sq t X.K H a xs):∃eH:Vi,zu xs eH/\i6 t s.heap a eH.toArray/\xs.length<=sizeLine:=by
 cases t with
 |false=>obtain⟨eH,v,p,z⟩:=I.list h;exact⟨eH,v,p.isList,z⟩
 |true=>obtain⟨eH,v,p,z⟩:=I.tuple h;exact⟨eH,v,p,z⟩
end
def Qa:bootBuiltins "zip"=some (.type "zip"):=by decide +kernel
end L2
namespace L3
open PySem L2
def IH{y:Y}(I:zw G H L)(r:RV G H y v)(h:cK L y=some ys):∃t p xs,v=.ref p/\Sq t G.K H p xs/\xt G H ys xs:=by
 obtain⟨p,xs,e,s,q⟩:=oX I r h;rcases s with s|s
 ·exact⟨false,p,xs,e,s,q⟩
 ·exact⟨true,p,xs,e,s,q⟩
def amp(xs ys:List Y):List Y:=List.zipWith (λa b=>Y.tup [a,b]) xs ys
def cY(xs:List Y)(L:qk)(Q:YK):Prop:=match xs with
 |[x]=>nN L x λys=>∀p,L p=none->Q (.ref p) (qi L p<|.lst ys)
 |_=>False
def ko :jg X (.type "list") (b_ X.g3 cY):=EY sC λt H Q C L T U I z k=>by
 unfold cY at z;split at z
 ·rename_i x;obtain⟨u,rfl,g⟩:=U.inv1;obtain⟨zs,j,z⟩:=bN z;obtain⟨p,o,e,sq,r⟩:=oX I g j;subst e;exact⟨p,o,rfl,sq,λl J=>k _ _ _ _ (EN J) (I.newL J r) (by rfl)<|z l<|I.none J⟩
 ·exact z.elim
def vt{T:Vy}{tr:fS}{p:Pos}{r:List Y->qk->YK->Prop}(hc:jg X (.type T)<|b_ X.g3 r)(U:Gl X x)(g:X.mg x=none)(j:bootBuiltins x=some (.type T))(h:QA X (e::es) tr)
 (l:x ≠ "__name__" := by decide) (hd:Fb x:=by decide) (hs:E8 e es X:=by rfl) (o:E9 pos es X:=by rfl):
 QE X (.Call (.Name x p) (e::es) [] pos) (cI r tr):=EO (jZ hc U g j h l hd hs o) λσ H Q t L C rs rl z k=>
 ⟨t,L,_,rs,rl,z,λvs H1 ys L1 t1 I J z1=>⟨ys,L1,C,J,I,z1,k.ts t1⟩⟩
def rS(x:Y)(vs:List Y)(L:qk)(Q:YK):Prop:=match x,vs with
 |.ref a,[.int i]=>fU L a λys=>0<=i/\i<ys.length/\e_ L (λv L=>Q v<|qi L a<|.lst<|ys.eraseIdx i.toNat) (ys[i.toNat]?)
 |_,_=>False
def Qb :qT X "list.pop" (v_ X.g3 rS):=λJ s l H x xs v o Q I p t ⟨y,ys,L,Q3,C,T,j,z,k⟩=>by
 unfold rS at z;split at z
 ·rename_i a i;obtain⟨zs,e,h0,h1,z⟩:=w6 z;obtain⟨ws,U,r⟩:=j a _ e;obtain⟨i',rfl,ri⟩:=T.inv1;cases ri;cases g:zs[i.toNat]? with
  |none=>rw[g] at z;exact z.elim
  |some w=>
   rw[g] at z;obtain⟨u,eu,ru⟩:=r.get g;obtain⟨_,_,_,hz⟩:=I.list<|aS.of U;have hl:=r.length;have hs:sizeLine<2 ^ 62:=by decide
   refine Oj J s l H x _ v o Q I p t ⟨a,ws,i,i.toNat,u,C,rfl,U,by lia,by lia,?_,eu,k _ _ _ _ (E6 U) (j.setL U<|r.eraseIdx _) (ru.ts<|E6 U) z⟩;unfold seqIndex?;rw[Ay (show ¬i<0 by lia),AA (by simp;lia)]
 ·exact z.elim
def cQ{tr:fS}(I:QE X o to)(J:QA X (e::es) tr)(U:Fo X o e es "pop" apos hE:=by exact⟨rfl,rfl,rfl,rfl,rfl⟩):
 QE X (.Call (.Attribute o "pop" apos) (e::es) [] hE) (jP rS to tr):=vL PySem.F.slot_list_pop PySem.F.type_list_pop Qb I J U
end L3
namespace L2
open PySem PySem.Spec PyProof.Rows
def yS(i:Int)(n d:Nat):max 0 (min (if i<0 then i+(n:Int) else i) n)=((HT.sIx n d (some i):Nat):Int):=by
 simp only[HT.sIx];by_cases h:i<0
 ·simp only[h,if_true]<;>lia
 ·simp only[h,if_false]<;>lia
def yy(l u:Vq)(n:Nat):Builtin.Str.strSliceIndices l u 1 n=(List.range<|HT.sIx n n u-HT.sIx n 0 l).map (HT.sIx n 0 l+·):=by
 have z:(0:Int)=((HT.sIx n 0 none:Nat):Int):=rfl;have y:(n:Int)=((HT.sIx n n none:Nat):Int):=rfl;unfold Builtin.Str.strSliceIndices;cases l with
 |none=>
  cases u with
  |none=>exact sliceRange_one 0 n
  |some j=>
   show sliceRange 0 (max 0<|min (if j<0 then j+(n:Int) else j) n) 1=_;rw[yS j n n];exact sliceRange_one 0 _
 |some i=>
  cases u with
  |none=>
   show sliceRange (max 0<|min (if i<0 then i+(n:Int) else i) n) n 1=_;rw[yS i n 0];exact sliceRange_one _ n
  |some j=>
   show sliceRange (max 0<|min (if i<0 then i+(n:Int) else i) n) (max 0<|min (if j<0 then j+(n:Int) else j) n) 1=_;rw[yS i n 0,yS j n n];exact sliceRange_one _ _
def pU(x:Str)(l u:Vq):(Txt.slice x l u).cps.toList=(x.cps.toList.drop<|HT.sIx x.length 0 l).take (HT.sIx x.length x.length u-HT.sIx x.length 0 l):=by
 have U:x.length=x.cps.toList.length:=by simp[Str.length]
 have I:=pick_run x.cps (HT.sIx x.length 0 l)<|HT.sIx x.length x.length u-HT.sIx x.length 0 l;unfold Txt.slice;rw[yy];split
 ·rename_i h;simp only[beq_self_eq_true,Bool.true_and,Af,B1,beq_iff_eq] at h;have h1:=HT.sIx_le x.length 0 (Bb _) l;have h2:=HT.sIx_le x.length x.length (Ap _) u;have J:HT.sIx x.length 0 l=0:=by lia
  rw[h,J,DS,AS (by exact vY)]
 ·show(List.filterMap (λi=>x.cps[i]?) _).toArray.toList=_;rw[List.toList_toArray];exact I
def Qc:V->Vq->Vq->Hp->VK->Prop:=λx lo hi H Q=>∃z,x=.str z/\z.length<=sizeLine/\Q (.str<|Txt.slice z lo hi) H
def amu:sP X Qc:=by
 rintro J s σ H x v U g lo j sl Q I o p pl r⟨z,rfl,C,q⟩;obtain⟨t,rfl⟩:=o;obtain⟨l,rfl,T⟩:∃l:Option (Int×Tok),U=partValue l/\l.map (·.1)=lo:=by cases pl with|none=>exact⟨none,rfl,rfl⟩|int i t=>exact⟨some (i,t),rfl,rfl⟩
 obtain⟨u,rfl,hu⟩:∃u:Option (Int×Tok),g=partValue u/\u.map (·.1)=j:=by cases r with|none=>exact⟨none,rfl,rfl⟩|int i t=>exact⟨some (i,t),rfl,rfl⟩
 subst T hu;refine⟨"str",_,F.slot_str_getitem.lookup,typeIs_str _ _ _,jq I.tk<|wpAny_getItem_str_slice (l:=l) (u:=u) (st:=none) p rfl ?_⟩;exact post_val_or_str ⟨AW (Txt.slice_le z _ _) C,λt' k ht=>⟨.str _,H,I.tok _,⟨t',rfl⟩,q⟩⟩
def xO{zs:Vl}:∀{us:Vi},zu (zs.map V.str) us->StrsAre us zs:=by
 induction zs with
 |nil=>intro us r;rw[Dr] at r;cases r;exact .nil
 |cons z zs I=>
  intro us r;rw[AJ] at r;cases r with
  |cons J U=>
   obtain⟨t,e⟩:=J;subst e;exact .cons z t<|I U
def Qd(K:Ah):V->Vz->Hp->VK->Prop:=λx vs H Q=>∃z a zs,x=.str z/\vs=[.ref a]/\aS K H a ((zs:Vl).map V.str)/\(zs.map (·.length)).sum+zs.length*z.length<=16777216/\Q (.str<|Txt.join z zs) H
def Qe:qT X "str.join" (Qd X.K):=by rintro J s σ H x vs v us Q I U g⟨z,a,zs,rfl,rfl,j,l,q⟩;obtain⟨t,rfl⟩:=U;obtain⟨u,rfl,o⟩:=g.one;cases o;obtain⟨C,r,p,_⟩:=I.list j;exact jq I.tk<|PyProof.Rows.join_list p.isList (by simpa using xO r) l λT k ht=>⟨.str _,H,I.tok _,⟨T,rfl⟩,q⟩
end L2
namespace L3
open PySem L2
def FT(x:Y)(lo hi:Vq)(L:qk)(Q:YK):Prop:=match x with
 |.str z=>z.length<=sizeLine/\Q (.str<|Txt.slice z lo hi) L
 |x=>Ip x lo hi L Q
def qC(K:Ah)(P:Vv)(w:Vw)(U:X.K=K:=by rfl)(g:X.prog=P:=by rfl)(hw:X.w=w:=by rfl):sP X (F9 ⟨K,P,w⟩ FT):=by refine sP.imp (amu.or<|PH K P w U g hw) λx lo l H Q ⟨y,L,j,I,J,z,k⟩=>?_;cases y with|str s=>exact .inl ⟨s,I,z.1,k _ H _ L (EL _) J (by rfl) z.2⟩|_=>exact .inr ⟨_,L,j,I,J,z,k⟩
def II(r:Y->List Y->qk->YK->Prop)(to:xu)(t:fS)(τ:jo)(L:qk)(Q:YK):Prop:=to τ L λx L1=>match x with
 |.str z=>t τ L1 λxs L2=>r (.str z) xs L2 Q
 |_=>False
def Qf{tr:fS}{id:Vy}{r:Y->List Y->qk->YK->Prop}(h2:Slot "str" name id)(h3:typeOf (.builtin id)=pure (.type "method_descriptor"))(T:qT X id<|v_ X.g3 r)(ho:QE X o to)(ha:QA X (e::es) tr)
 (I:Fo X o e es name apos hE:=by exact⟨rfl,rfl,rfl,rfl,rfl⟩):
 QE X (.Call (.Attribute o name apos) (e::es) [] hE) (II r to tr):=EO (H0 PySem.F.plainAttrs_str h2 h3 T ho ha I.h4 I.h5 I.h6 I.h7 I.h8) λσ H Q p L Q3 t rl z k=>
 ⟨p,L,_,t,rl,z,λv H1 y L1 C J U g=>by
  split at g
  ·rename_i s;cases U;exact⟨rfl,p,L1,_,t.ts C,J,g,λvs H2 ys L2 t2 j l z2=>⟨.str s,ys,L2,Q3,rfl,l,j,z2,k.ts<|C.trans t2⟩⟩
  ·exact g.elim⟩
theorem uS{G:G3}{H:Hp}:∀{zs:Vl} {xs:Vz},xt G H (zs.map Y.str) xs->xs=zs.map V.str
 |[],_,h=>h
 |z::r,_,⟨x,I,e,q,s⟩=>by rw[e,show x=V.str z from q,uS s];rfl
def G9(x:Y)(vs:List Y)(L:qk)(Q:YK):Prop:=match x,vs with
 |.str z,[.ref a]=>fU L a λys=>∃zs,ys=zs.map Y.str/\(zs.map (·.length)).sum+zs.length*z.length<=16777216/\Q (.str<|Txt.join z zs) L
 |_,_=>False
def Qg :qT X "str.join" (v_ X.g3 G9):=qT.imq Qe λx p H Q y t L C U g I z k=>by
 unfold G9 at z;split at z
 ·rename_i s a;obtain⟨T,e,j,rfl,l,z⟩:=w6 z;obtain⟨ws,J,r⟩:=I a _ e;obtain⟨u,rfl,o⟩:=g.inv1;cases o;rw[uS r] at J;exact⟨s,a,j,U,rfl,aS.of J,l,k _ H _ L (EL _) I (by rfl) z⟩
 ·exact z.elim
def Qh{tr:fS}(I:QE X o to)(J:QA X (e::es) tr)(U:Fo X o e es "join" apos hE:=by exact⟨rfl,rfl,rfl,rfl,rfl⟩):
 QE X (.Call (.Attribute o "join" apos) (e::es) [] hE) (II G9 to tr):=Qf PySem.F.slot_str_join PySem.F.type_str_join Qg I J U
def qX(zs:Vl):(Txt.join "" zs).cps.toList=zs.flatMap λz=>z.cps.toList:=by
 have e:∀zs:Vl,(Str.join "" zs).cps.toList=zs.flatMap λz=>z.cps.toList:=by
  intro zs
  induction zs with
  |nil=>rfl
  |cons z r I=>
   cases r with
   |nil=>simp[Str.join]
   |cons y r=>
    show(z ++ "" ++ Str.join "" (y::r)).cps.toList=_;have:(z ++ "" ++ Str.join "" (y::r)).cps=z.cps++#[]++(Str.join ""<|y::r).cps:=rfl;rw[this];simp only[Bf,I,Bq,Array.append_empty]
 exact(BM (λx:Str=>x.cps.toList)<|StrLaws.glued_eq_join "" zs).trans (e zs)
inductive qH(t u:a9)(D:x5)(τ:jo)(L:qk):Prop
 |mk:∀J:jo->qk->Prop,t {D with nx:=J} τ L->(∀τ' L',J τ' L'->u D τ' L')->qH t u D τ L
def xw{rest:Vn}{t u:a9}(h:QS X st t)(k:uJ X rest u):uJ X (st::rest) (qH t u):=gT.imp (uQ h k) λD σ H ⟨o,L,j,p,r,⟨J,z,q⟩,k⟩=>
 ⟨o,L,{j with nx:=J},p,r,z,λC H1 I l T U g z1=>⟨I,l,j,U,g,q I l z1,k.ts T⟩,k.rt,k.bk,k.ct⟩
def ar{a b:Addr}{o u:LO}(h:a≠b):qi (qi L a o) b u=qi (qi L b u) a o:=by
 funext c;by_cases h1:c=a
 ·subst h1;rw[qc h,q9,q9]
 ·by_cases h2:c=b
  ·subst h2;rw[q9,qc h1,q9]
  ·rw[qc h2,qc h1,qc h1,qc h2]
abbrev X3:=jo->Addr->qk->Prop
abbrev jV:=List Y->qk->YK->(Addr->qk->Prop)->Prop
def FU(G:G3)(E3:X3):X1:=λσ c H=>∃C τ L,c=.ref C/\xg G H σ τ/\zw G H L/\E3 τ C L
def IJ(G:G3)(H:Hp)(E3:Addr->qk->Prop)(E:XK):Prop:=∀C H' L',jf H H'->zw G H' L'->E3 C L'->E (.ref C) none H'
def Qi(G:G3)(sp:jV):Sp:=λvs H Q E=>∃ys L I E3,xt G H ys vs/\zw G H L/\sp ys L I E3/\uC G H I Q/\IJ G H E3 E
def rR(E3:Addr->qk->Prop):X3:=λ_ C L=>∃L2,qh L2 L/\E3 C L2
abbrev IK(P:Vv)(w:Vw)(K:Ah)(mg:Vf)(base:Vx)(k:Nat)(f:Addr)(fd:FuncData)(ps:Vl)(sp:jV):Prop:=bP P w K mg base (d_ P w) k f fd ps<|Qi ⟨K,P,w⟩ sp
structure gy(P:Vv)(w:Vw)(K:Ah)(mg:Vf)(base:Vx)(k:Nat)(x:Str)(ps:Vl)(sp:jV):Prop where
 ex:∃f fd,IK P w K mg base k f fd ps sp/\dM K fd ps []/\PySem.W.keepIn K (.ref f)=true/\mg x=some (.ref f)
theorem gy.mono{P:Vv}{w:Vw}{K:Ah}{k:Nat}{sp:jV}(c:gy P w K mg base j x ps sp)(h:j<=k):gy P w K mg base k x ps sp:=by obtain⟨f,fd,F,b,I,m⟩:=c.ex;exact⟨f,fd,F.mono h,b,I,m⟩
def qw.tst{σ:L2.St}(I:qw X pins σ H s):jf X.H₀ H:=λa u i e=>by cases u with|tup J=>exact I.base.tups a J e|frz o u=>exact I.base.frzs a o u e|_=>cases i
def Qj{P:Vv}{w:Vw}{K:Ah}{N:Vl}{E:XK}{E3:Addr->qk->Prop}(h:IJ ⟨K,P,w⟩ H E3 E):
 bY (eY (d_ P w) P w K mg base N eK scope f cd A outer s H E) (FU ⟨K,P,w⟩<|rR E3):=by
 intro J j g l a C tr I L ap U ⟨t,T,L',o,rs,p,L2,r,q⟩;cases o;exact OP J j g l a C tr I L ap U<|h C g L2 (qw.tst I) (p.sub r) q
def jG(sp:jV)(E3:X3)(t:fS)(τ:jo)(L:qk)(Q:YK):Prop:=t τ L λys L1=>sp ys L1 Q<|E3 τ
def vU(C:Addr)(E3:X3)(t:fS)(_:x5)(τ:jo)(L:qk):Prop:=t τ L λys L1=>ys.length<=1000/\E3 τ C L1
section
variable {tr:fS}{E3:X3}
def IL{k:Nat}{sp:jV}{p:Pos}(c:gy X.prog X.w X.K X.mg X.base k x ps sp)(t:ww k X.A)(T:Gl X x)(ht:bY X<|FU X.g3 E3)(hx:X.ex=[])(ha:QA X (e::es) tr)(I:Fb x:=by decide)
 (he:E8 e es X:=by rfl) (J:E9 pos es X:=by rfl):QE X (.Call (.Name x p) (e::es) [] pos) (jG sp E3 tr):=by
 obtain⟨f,fd,F,b,kp,m⟩:=c.ex;refine EO (uh F t T m kp b ht hx ha I he J) λσ H Q U L Q3 o rl z k=>?_;exact⟨U,L,_,o,rl,z,λvs H1 ys L1 r g j z1=>⟨ys,L1,Q3,E3 U,j,g,z1,k.ts r,λC H' L' t' l q=>⟨C,U,L',rfl,o.ts<|r.trans t',l,q⟩⟩⟩
def tf(c:FF X.K C)(o:Gl X x)(p:X.mg x=some (.ref C))(hc:X.calm=true)(r:bY X<|FU X.g3 E3)(t:X.ex=[])(T:QA X (e::es) tr)(I:Fb x:=by decide)
 (he:E8 e es X:=by rfl) (J:E9 hE es X:=by rfl):
 QS X (.Raise (some<|.Call (.Name x np) (e::es) [] hE) none pos) (vU C E3 tr):=ES (OS c o p hc r t T I he J) λD σ H j L D3 l rl z k=>
 ⟨j,L,_,l,rl,z,λvs H1 ys L1 t1 U g ⟨hl,z1⟩=>⟨dN (by rw[<-g.length];exact hl),C,j,L1,rfl,l.ts t1,U,z1⟩⟩
end
def Qk{P:Vv}{w:Vw}{K:Ah}{N:Vl}{k:Nat}{sp:jV}{t:X3->a9}(F:Fun K x eK st f fd)(S:wy N ps<|z9 st)(len:∀ys L Q E,sp ys L Q E->ys.length=ps.length)
 (I:∀(fv:Vt) (A:Around) (outer:List Env) (s:Vu) (H:Hp) (E:XK) (E3:X3),ww k (A.deeper<|PyProof.Rows.envOfC eK (z9 st) s.heap.objs.size f fv)->
  bY (eY (d_ P w) P w K mg base N eK (z9 st) f fv A outer s H E) (FU ⟨K,P,w⟩ E3)->uJ (eY (d_ P w) P w K mg base N eK (z9 st) f fv A outer s H E) (x6 st) (t E3))
 (vc:∀ys L Q E,sp ys L Q E->t (rR E) {nx:=λ_ L'=>eQ Q .non L',rt:=eQ Q} (eJ N ys) L):IK P w K mg base (k+1) f fd ps sp:=by
 obtain⟨oc,od,kV,a1,pm,an,fv,ct,a2,rfl,lk,U⟩:=F.ex;refine GJ lk U S (λvs H Q E ⟨ys,L,g,E3,j,T,z,_⟩=>by rw[<-j.length];exact len ys L g E3 z) λA outer s H vs Q E hr ⟨ys,L,g,E3,j,T,z,k,kx⟩=>?_;refine⟨_,I fv A outer s H E (rR E3) hr<|Qj kx,eJ N ys,L,_,jL j,T,vc ys L g E3 z,?_⟩;exact⟨λσ l τ L' o a3 J ⟨L2,p,r⟩=>k .non l .non L2 o (J.sub p) (by rfl) r,λv l y L' o J C ⟨L2,p,r⟩=>k v l y L2 o (J.sub p) C r,λ_ _ _ _ _ _ _ z=>z.elim,λ_ _ _ _ _ _ _ z=>z.elim⟩
open PySem L2 Words
def top(i:Nat):Stmt:=PySem.Challenge.pw_oncewise_k54_links_walked_through_cuts.main.body.getD i<|.Pass ⟨0,0,0,0⟩
abbrev qQ:Stmt:=top 7
abbrev nI:Stmt:=top 9
abbrev gq:Stmt:=top 11
abbrev lU:Stmt:=top 12
abbrev wA:Stmt:=top 13
abbrev wQ:Stmt:=top 14
abbrev dh:Stmt:=top 16
abbrev kM:Stmt:=top 17
abbrev kC:Stmt:=top 18
abbrev nO:Stmt:=top 19
abbrev lI:Stmt:=top 20
abbrev lJ:Stmt:=top 21
abbrev kE:Stmt:=top 22
abbrev f9:Stmt:=top 23
abbrev oq:Stmt:=top 24
abbrev lH:Stmt:=top 25
abbrev kK:Stmt:=top 26
abbrev vM:Stmt:=top 27
abbrev kI:Stmt:=top 28
abbrev fh:Stmt:=top 29
abbrev nX:Stmt:=top 30
abbrev vC:Stmt:=top 31
abbrev s__law_order:Stmt:=top 32
abbrev iZ:Stmt:=top 33
abbrev fZ:Stmt:=top 34
abbrev eX:Stmt:=top 35
abbrev fc:Stmt:=top 36
abbrev eI:Stmt:=top 37
abbrev ff:Stmt:=top 38
abbrev gv:Stmt:=top 39
abbrev kH:Stmt:=top 40
abbrev kR:Stmt:=top 41
abbrev kA:Stmt:=top 42
abbrev i0:Stmt:=top 43
abbrev kD:Stmt:=top 44
abbrev gr:Stmt:=top 45
abbrev uZ:Stmt:=top 46
structure V_ where
 (P:Vv) (w:Vw) (K:Ah) (mg:Vf) (base:Vx) (Pt:Addr) (Ca Cb Cd Cc:Addr)
structure B0_(V:V_):Prop where
 bi:V.mg "max"=none
 bn:V.mg "min"=none
 bj:V.mg "sorted"=none
 ba:V.mg "len"=none
 bf:V.mg "list"=none
 bq:V.mg "zip"=none
 bp:V.mg "enumerate"=none
 bh:V.mg "range"=none
 bg:V.mg "isinstance"=none
 b_tuple:V.mg "tuple"=none
 b_int:V.mg "int"=none
 b_bool:V.mg "bool"=none
 b_str:V.mg "str"=none
 k_LEAF_KINDS:IE ⟨V.K,V.P,V.w⟩ V.mg "LEAF_KINDS" o8
abbrev Q_(V:V_)(k:Nat)(x:Str)(ps:Vl)(sp:kh):Prop:=G7 V.P V.w V.K V.mg V.base k x ps sp
def I_{a b:Expr}(I:QE X a ta)(J:QE X b tb)(U:qU b:=by exactλ_ _=>rfl):QE X (.Subscript a b pos) (vg fM ta tb):=Pr (Pu X.K X.prog X.w) I J U
def xn{t:xu}(h:QE X e t)(s:starEach [e] X.env=[(false,eval e X.env)]:=by rfl):QA X [e] (qo t jn):=jw h wg s
def v9{f:Expr}{t u:xu}(h:QE X e t)(g:QE X f u)(s:starEach [e,f] X.env=[(false,eval e X.env),(false,eval f X.env)]:=by rfl)(r:starEach [f] X.env=[(false,eval f X.env)]:=by rfl):QA X [e,f] (qo t<|qo u jn):=jw h (xn g r) (by show _=_;rw[s,r])
def bQ{f d:Expr}{t u v:xu}(h:QE X e t)(g:QE X f u)(i:QE X d v)(s:starEach [e,f,d] X.env=[(false,eval e X.env),(false,eval f X.env),(false,eval d X.env)]:=by rfl)(r:starEach [f,d] X.env=[(false,eval f X.env),(false,eval d X.env)]:=by rfl)(q:starEach [d] X.env=[(false,eval d X.env)]:=by rfl):QA X [e,f,d] (qo t<|qo u<|qo v jn):=jw h (v9 g i r q) (by show _=_;rw[s,r])
def E_{a b:Expr}(I:X.A.units+128<cLine)(J:QE X a ta)(U:QE X b tb):QT X (.Compare a [.Eq] [b] pos) (yB<|vg (h_ false) ta tb):=je (G6 X.K X.prog X.w I) J U<|vn _
def N_{a b:Expr}(I:X.A.units+128<cLine)(J:QE X a ta)(U:QE X b tb):QT X (.Compare a [.NotEq] [b] pos) (yB<|vg (h_ true) ta tb):=je (Pz X.K X.prog X.w I) J U<|vn _
def S_(i:Nat)(hN:X.N.Nodup)(h:QE X e te)(I:X.N[i]?=some x:=by rfl)(g:Loc X.env.scope x:=by exact Or.inl rfl)(J:swapsWith e (some<|.Name x hQ) pos.line X.env=pure false:=by rfl)(U:X.fn x=true\/X.env.scope.names.lookup x=some .local:=by first|exact .inl rfl|exact .inr rfl|assumption):QS X (.Assign [.Name x hQ] e pos) (x8 te<|qp i):=bx (i:=i) hN I g h J U
def G_(i:Nat)(hN:X.N.Nodup)(I:X.N[i]?=some x:=by rfl)(U:Loc X.env.scope x:=by exact Or.inl rfl)(J:X.fn x=true\/X.env.scope.names.lookup x=some .local:=by first|exact .inl rfl|exact .inr rfl|assumption):QG X (.Name x pos) (qp i):=bX (i:=i) hN I U J
def C_{tr:fS}{p:Pos}{k:Nat}{sp:kh}(c:G7 X.prog X.w X.K X.mg X.base j x ps sp)(U:ww k X.A)(g:QA X (e::es) tr)(l:j<=k:=by first|decide|exact Ap _|exact AW (by decide)<|C9 _ _)(o:Gl X x:=by rfl)(I:Fb x:=by decide)(r:E8 e es X:=by rfl)(J:E9 pos es X:=by rfl):QE X (.Call (.Name x p) (e::es) [] pos) (xm sp tr):=PM (Cal.mono c l) U o g I r J
def J_{n:Int}{k:Nat}{p q:Pos}(i:Nat)(hN:X.N[i]?=some x:=by rfl)(I:y_ X.env.scope x:=by first|exact Or.inl rfl|exact Or.inr (Or.inl rfl)|exact Or.inr<|Or.inr rfl)(hd:Fb x:=by decide)(hc:Fc x:=by decide):QE X (.Subscript (.Name x p) (.Constant (.int n) k q) pos) (vg fM (qf i)<|yC<|.int n):=I_ (qv i hN I hd hc) qd λ_ _=>rfl
def L_{t:xu}{p:Pos}(I:X.mg "len"=none)(h:QE X e t)(s:starEach [e] X.env=[(false,eval e X.env)]:=by rfl)(J:Gl X "len" := by rfl):QE X (.Call (.Name "len" p) [e] [] pos) (cI zN<|qo t jn):=jj (Pw X.K X.prog X.w) J I Ij (xn h s) (hs:=s)
def Ge{l:Vl}(h:decide l.Nodup=true:=by kernel_rfl):l.Nodup:=of_decide_eq_true h
abbrev IM(V:V_):=Q_ V 1 "is_leaf" ["word"]
abbrev Ql(V:V_):=Q_ V 2 "parts_of" ["knot"]
abbrev Qm(V:V_):=Q_ V 1 "partner_of" ["links","place"]
abbrev Qn(V:V_):=gy V.P V.w V.K V.mg V.base 2 "links_without" ["links","p","q"]
abbrev Qo(V:V_):=gy V.P V.w V.K V.mg V.base 3 "cut_step" ["web","k"]
abbrev Qp(V:V_):=gy V.P V.w V.K V.mg V.base 4 "cut_free" ["web"]
abbrev IP(V:V_):=Q_ V 1 "_law_cell_at" ["_law_script","_law_k"]
abbrev Qq(V:V_):=Q_ V 1 "_law_stir" ["_law_script"]
abbrev FV(V:V_):=Q_ V 1 "_law_pick" ["_law_stir_here","_law_factor"]
abbrev G'(V:V_):=Q_ V 1 "_law_mix" ["_law_cell","_law_k","_law_factor"]
abbrev IQ(V:V_):=Q_ V 1 "_law_name" ["_law_seed","_law_which"]
abbrev IR(V:V_):=Q_ V 121 "_law_word" ["_law_knots","_law_p"]
abbrev Qr(V:V_):=Q_ V 121 "_law_flip" ["_law_word_here"]
abbrev IS(V:V_):=Q_ V 121 "_law_weight" ["_law_word_here"]
abbrev IT(V:V_):=Q_ V 170 "_law_mirror" ["_law_knots","_law_word_here"]
abbrev IU(V:V_):=Q_ V 1 "_law_join" ["_law_knots","_law_forest","_law_one","_law_two"]
abbrev IV(V:V_):=Q_ V 1 "_law_fold" ["_law_knots","_law_tree_here","_law_one","_law_two"]
abbrev IW(V:V_):=Q_ V 171 "_law_cut" ["_law_knots","_law_forest","_law_one","_law_two"]
abbrev IX(V:V_):=Q_ V 172 "_law_tree" ["_law_cells","_law_seed","_law_room"]
abbrev IY(V:V_):=Q_ V 121 "_law_gather" ["_law_rule","_law_links","_law_cuts"]
abbrev IZ(V:V_):=Q_ V 122 "_law_web" ["_law_tree_here"]
abbrev I9(V:V_):=Q_ V 1 "_law_open" ["_law_web_here"]
abbrev Ja(V:V_):=Q_ V 2 "_law_order" ["_law_knots","_law_seed"]
abbrev Jb(V:V_):=Q_ V 121 "_law_moved" ["_law_rule","_law_at"]
abbrev Jc(V:V_):=Q_ V 122 "_law_gapped" ["_law_tree_here","_law_stir_here"]
abbrev Jd(V:V_):=Q_ V 1 "_law_swapped" ["_law_web_here","_law_number_here"]
abbrev Je(V:V_):=Q_ V 1 "_law_looped" ["_law_web_here","_law_number_here"]
abbrev Qs(V:V_):=Q_ V 2 "_law_crossed" ["_law_web_here","_law_stir_here"]
abbrev Jf(V:V_):=Q_ V 1 "_law_number" ["_law_x"]
abbrev Qt(V:V_):=Q_ V 6 "_law_alike" ["_law_found","_law_due"]
abbrev Qu(V:V_):=Q_ V 1 "_law_copy" ["_law_web_here"]
abbrev Jg(V:V_):=Q_ V 173 "_law_sown" ["_law_script","_law_stir_here","_law_wide"]
abbrev Jh(V:V_):=Q_ V 171 "_law_deep" ["_law_tree_here","_law_number_here"]
abbrev Qv(V:V_):=Q_ V 174 "_law_grown" ["_law_script","_law_stir_here","_law_wide"]
abbrev Ji(V:V_):=Q_ V 97 "_law_meet" ["_law_knots","_law_p","_law_q","_law_across","_law_left"]
abbrev Qw(V:V_):=Q_ V 98 "_law_freed" ["_law_web_here"]
abbrev FW(V:V_)(k:Nat)(N:Vl)(x:Str)(st:Stmt)(f:Addr)(t:a9):Prop:=∀(fv:Vt) (A:Around) (outer:List Env) (s:Vu) (H:Hp) (E:XK),ww k (A.deeper<|PyProof.Rows.envOfC x (z9 st) s.heap.objs.size f fv)->N.Nodup->(A.deeper<|PyProof.Rows.envOfC x (z9 st) s.heap.objs.size f fv).units+128<cLine->uJ (eY CX0 V.P V.w V.K V.mg V.base N x (z9 st) f fv A outer s H E).nox (x6 st) t
abbrev Gf(x:Str)(st:Stmt)(ps:Vl):Prop:=∀(kV kt pm:Vt) (an:Option Addr) (fv ct:Vt) (us:Vi),us.length=ps.length->bindArgs (PySem.W.fnOf x x (k8 st) (x6 st) (z9 st) .none kV kt pm an fv ct) ⟨us,[]⟩=pure (ps.zip us)
abbrev RD(x:Str)(st:Stmt)(k:Nat)(N:Vl)(h:V_->Prop):=PSigma λt:a9=>∀V:V_,B0_ V->h V->∀f:Addr,FW V k N x st f t
abbrev RR(x:Str)(st:Stmt)(k:Nat)(ps N:Vl)(p:kh)(h:V_->Prop):=PSigma λt:a9=>∀V:V_,B0_ V->h V->∀(n:Nat) (f:Addr),Q_ V (n+k) x ps p->FW V (n+k) N x st f t
def xG{p:Pos}(i:Nat)(hi:X.N.length=i:=by rfl)(hN:(X.N++[x]).Nodup:=by exact Ge)(J:∀C fp s₀ H₀,Loc (X.comp scope [x] C fp s₀ H₀).env.scope x:=by exactλ_ _ _ _=>Or.inl rfl)(I:∀C fp s₀ H₀,(X.comp scope [x] C fp s₀ H₀).env.scope.names.lookup x=some .local:=by exactλ_ _ _ _=>rfl):F_ X scope [x] (.Name x p) (qp i):=hi▸gi hN J I
def vE:jo->Nat->jo
 |[],_=>[]
 |_::r,0=>none::r
 |o::r,i+1=>o::vE r i
theorem yd:∀(τ:jo) (i:Nat),vE τ i=τ.set i none
 |[],_=>rfl
 |_::_,0=>rfl
 |o::r,i+1=>by rw[vE,yd r i];rfl
def xg.clr{σ:L2.St}(h:xg G H σ τ)(i:Nat):xg G H (σ.set i none) (vE τ i):=by
 rw[yd];refine⟨by simpa using h.len,λj y e=>?_⟩;by_cases I:i=j
 ·subst I;rw[List.getElem?_set] at e;simp at e
 ·rw[A5 I] at e ⊢;exact h.get j y e
def Jj(i:Nat)(D:x5):x5 where
 nx:=λτ L=>D.nx (vE τ i) L
 rt:=D.rt
 bk:=λτ L=>D.bk (vE τ i) L
 ct:=λτ L=>D.ct (vE τ i) L
def Qx(G:G3)(H:Hp)(E3:X3)(E1:X1):Prop:=∀ir C H' I L',jf H H'->xg G H' ir I->zw G H' L'->E3 I C L'->E1 ir (.ref C) H'
def Ha(G:G3)(t:X3->a9):X1->L2.TS:=λE1 D σ H=>∃τ L I E3,xg G H σ τ/\zw G H L/\t E3 I τ L/\xB G H I D/\Qx G H E3 E1
def QB(X:Cx)(body:Vn)(t:X3->a9):Prop:=∀(pn:List<|Addr×Obj) (xe:Vd) (E1:X1),bY (X.tr pn xe) E1->gT (X.tr pn xe) body (Ha X.g3 t E1)
def Hb(K:Ah)(J:Addr)(i:Nat)(tb:X3->a9)(th:a9)(D:x5)(τ:jo)(L:qk):Prop:=
 tb (λI C L'=>PySem.W.exmOne K (.ref C) (.ref J)=some true/\∀a,L' a=none->th (Jj i D) (dm I i<|.ref a) (qi L' a<|.exc C)) D τ L
section
variable {tr:fS}{cp:Pos}
def Qy{k:Nat}{y:Str}{sp:jV}{p:Pos}(c:gy X.prog X.w X.K X.mg X.base k x ps sp)(hr:ww k X.A)(hg:Gl X x)(hx:X.ex=[])(hN:X.N.Nodup)(U:X.N[i]?=some y)(hy:Loc X.env.scope y)(ha:∀pn xe,QA (X.tr pn xe) (e::es) tr)(g:Fb x:=by decide)
 (he:E8 e es X:=by rfl) (j:E9 cp es X:=by rfl) (hs:swapsWith (.Call (.Name x p) (e::es) [] cp) (some<|.Name y hQ) pos.line X.env=pure false:=by rfl)
 (l:X.fn y=true\/X.env.scope.names.lookup y=some .local:=by first|exact .inl rfl|exact .inr rfl|assumption):
 QB X [.Assign [.Name y hQ] (.Call (.Name x p) (e::es) [] cp) pos] (λE3=>x8 (jG sp E3 tr)<|qp i):=by
 obtain⟨f,fd,F,b,kp,m⟩:=c.ex;intro pn xe E1 ht;refine gT.imp (yN<|HJ (X:=X.tr pn xe) hN U hy (uh (X:=X.tr pn xe) F hr hg m kp b ht hx (ha pn xe) g he j) hs l) λD σ H ⟨I,L,D3,E3,o,rl,z,k,kx⟩=>?_;exact⟨I,L,_,o,rl,z,λvs H1 ys L1 J r t z1=>⟨ys,L1,_,E3 I,t,r,z1,(λv H2 y L2 t2 T a1 z2=>k.nx _ H2 _ L2 (J.trans t2) (show xg _ _ _ (dm I i y) by rw[ak];exact(o.ts<|J.trans t2).set a1) T z2),λC H' L' t' a2 q=>kx σ C H' I L' (J.trans t') (o.ts<|J.trans t') a2 q⟩⟩
def Qz{Dc:Addr}{n:Str}{j:Pos}{I:Vn}{g:Stmt}{tb:X3->a9}{th:a9}(hs:X.stack=X.env::X.outer)(hf:X.env.frame=some X.env.locals)(hx:X.ex=[])(hN:X.N.Nodup)(hi:X.N[i]?=some n)
 (hk:X.env.scope.names.lookup n=some .local) (hg:Gl X x) (hm:X.mg x=some (.ref Dc)) (hb:QB X body tb) (hh:∀a,uJ (X.hnd a) (g::I) th)
 (a1:Fb x:=by decide):QS X (.Try body [.ExceptHandler (some<|.Name x np) (some n) (g::I) j] [] [] pos) (Hb X.K Dc i tb th):=
 PS.imp (OX (tb:=Ha X.g3 tb) (th:=Fi X.g3 th) hs hf hx hN hi hk hg hm hb hh a1) λD σ H ⟨τ,L,D3,rs,rl,z,k⟩=>by
 show Ha X.g3 tb (F5 X.K Dc i (Fi X.g3 th) D) D σ H;refine⟨τ,L,D3,_,rs,rl,z,k,λa4 C H' a2 L' t' a3 l ⟨em,q⟩=>⟨C,rfl,em,λa oe ha hc=>?_⟩⟩;have ta:jf H' (upd H' a<|.frz oe<|.own 0):=EN ha;refine⟨dm a2 i<|.ref a,qi L' a<|.exc C,Jj i D3,by rw[ak];exact(a3.ts ta).set rfl,λb u e=>?_,q a<|l.none ha,?_⟩
 ·by_cases c:b=a
  ·subst c;rw[q9] at e;cases e;exact⟨oe,zg,hc⟩
  ·rw[qc c] at e;exact(l b u e).keep ta (ql c)
 ·have k2:=k.ts<|t'.trans ta;exact⟨λo p r L2 t J U T=>k2.nx _ p _ L2 t (J.clr i) U T,k2.rt,λo p r L2 t J U T=>k2.bk _ p _ L2 t (J.clr i) U T,λo p r L2 t J U T=>k2.ct _ p _ L2 t (J.clr i) U T⟩
end
@[irreducible] def aaj (L:qk) (a:Addr) (k:Addr->Prop):Prop:=match L a with
 |some (.exc C)=>k C
 |_=>False
def yX{a:Addr}{k:Addr->Prop}(e:L a=some (.exc C))(h:k C):aaj L a k:=by unfold aaj;rw[e];exact h
def ur{a:Addr}{k:Addr->Prop}(h:aaj L a k):∃C,L a=some (.exc C)/\k C:=by
 unfold aaj at h;split at h
 ·rename_i C e;exact⟨C,e,h⟩
 ·exact h.elim
def wW(K:Ah)(u:Vt)(te:xu)(τ:jo)(L:qk)(Q:YK):Prop:=te τ L λx L1=>match x with
 |.ref a=>aaj L1 a λC=>t_ K C/\∃b,PySem.W.kitOne K (.ref C) u=some b/\Q (.bl b) L1
 |_=>False
def sG(K:Ah)(us:Vi)(te:xu)(τ:jo)(L:qk)(Q:YK):Prop:=te τ L λx L1=>match x with
 |.ref a=>aaj L1 a λC=>t_ K C/\∃b,PySem.W.kitAny K (.ref C) us=some b/\Q (.bl b) L1
 |_=>False
def Gg(X:Cx)(es:Vm)(vs:Vz):Prop:=PA X es λ_ H Q=>Q vs H
section
variable {a:Expr}{p pt:Pos}{vs:Vz}
def QC:Gg X [] []:=dX
def sk(h:PE X e<|tC v)(t:Gg X es vs)(hs:E8 e es X:=by rfl):Gg X (e::es) (v::vs):=PA.imp (wz h t hs) λ_ _ _ q=>q
def xK(I:Gl X x)(J:X.mg x=some (.ref C))(hd:Fb x:=by decide):PE X (.Name x p) (tC<|.ref C):=Ih I J hd
def QD{c:Expr}(j:Gl X "isinstance")(l:X.mg "isinstance"=none)(o:QE X a ta)(hc:PE X c<|tC v)(r:A' v=some u)
 (hs:starEach [a,c] X.env=(false,eval a X.env)::starEach [c] X.env:=by rfl) (J:starEach [c] X.env=(false,eval c X.env)::starEach [] X.env:=by rfl) (t:(backTo pos<|starEach [c] X.env).any (·.1)=false:=by rfl):
 QE X (.Call (.Name "isinstance" p) [a,c] [] pos) (wW X.K u ta):=by
 refine EX (hX nZ j l bz (wz o (wz hc dX J) hs) (by decide) (by decide) hs t) ?_;rintro σ H Q ⟨T,L,Q3,rs,rl,z,k⟩;refine⟨T,L,_,rs,rl,z,λw H1 y L1 t1 I U g=>?_⟩;cases y with
 |ref b=>
  obtain⟨C,e,hd,bb,kk,q⟩:=ur g;cases U;exact⟨b,C,v,rfl,I b _ e,hd,.inl ⟨u,bb,r,kk,k _ H1 _ L1 t1 I (by rfl) q⟩⟩
 |_=>exact g.elim
def QH{I:Nat}(T:Gl X "isinstance")(hm:X.mg "isinstance"=none)(ha:QE X a ta)(hc:Gg X es vs)(hv:vs.map A'=us.map some)(hl:vs.length<=1000)
 (hs:starEach [a,.Tuple es I pt] X.env=(false,eval a X.env)::starEach [.Tuple es I pt] X.env:=by rfl) (U:starEach [.Tuple es I pt] X.env=(false,eval (.Tuple es I pt) X.env)::starEach [] X.env:=by rfl) (hp:(backTo pos<|starEach [.Tuple es I pt] X.env).any (·.1)=false:=by rfl):
 QE X (.Call (.Name "isinstance" p) [a,.Tuple es I pt] [] pos) (sG X.K us ta):=by
 refine EX (hX nZ T hm bz (wz ha (wz (HQ hc) dX U) hs) (by decide) (by decide) hs hp) ?_;rintro σ H Q ⟨τ,L,Q3,rs,rl,z,k⟩;refine⟨τ,L,_,rs,rl,z,λw g y L1 t1 J j o=>⟨dN hl,λq r=>?_⟩⟩;cases y with
 |ref b=>
  obtain⟨C,e,hd,bb,kk,z2⟩:=ur o;cases j;have t:jf g (upd g q<|.tup vs):=EN r;obtain⟨oe,ho,l⟩:=(J b _ e:GU X.K g b C);refine⟨b,C,.ref q,rfl,⟨oe,t _ _ rfl ho,l⟩,hd,.inr ⟨q,vs,us,bb,rfl,.inl<|.inl zg,hv,kk,k _ _ _ L1 (t1.trans t) (J.skip r) (by rfl) z2⟩⟩
 |_=>exact o.elim
end
open PySem L2 PySem.W
def xN{K:Frag}(q:excIn K C [.type "ValueError",.type "Exception",.type "BaseException",.type "object"] "ValueError.__new__"=true):FF K C:=OQ q DU (by decide +kernel) DU
section
variable {K:Frag}{t c:Vt}{b:Bool}
def kit_own{cd:ClassData}(ne:(Value.ref C==Value.ref D)=false)(h1:clsIn K D=some cd)(h2:typeIn K (.ref D)=some (.type "type"))(h3:subIn K (.ref C) (.ref D)=some b):kitOne K (.ref C) (.ref D)=some b:=by unfold kitOne;rw[Ay (by rw[ne];exact AQ)];unfold kitCls;simp only[h1,h2,DR,beq_self_eq_true,Bool.and_self,if_true];exact h3
def kit_self:kitOne K (.ref C) (.ref C)=some true:=by unfold kitOne;rw[AA<|beq_self_eq_true _]
def kitAny_no{r:Vi}(h:kitOne K t c=some false)(k:kitAny K t r=some b):kitAny K t (c::r)=some b:=by unfold kitAny;rw[h];exact k
def exm_own{cd:ClassData}(h0:subIn K (.ref D) (.type "BaseException")=some true)(h1:clsIn K D=some cd)(h2:typeIn K (.ref D)=some (.type "type"))(h3:subIn K (.ref C) (.ref D)=some b):exmOne K (.ref C) (.ref D)=some b:=by unfold exmOne;rw[AA (by rw[h0];rfl)];unfold kitCls;simp only[h1,h2,DR,beq_self_eq_true,Bool.and_self,if_true];exact h3
def xhd_of{cd:ClassData}(ga:findIn K (.ref C) "__getattribute__"=some (some<|.builtin "BaseException.__getattribute__"))(gt:findIn K (.ref C) "__getattr__"=some none)(cl:findIn K (.ref C) "__class__"=some (some<|.builtin "object.__class__"))
 (ge:specialIn K (.builtin "object.__class__") "__get__"=some (some<|.builtin "getset_descriptor.__get__")) (tk:takesIn K (.builtin "object.__class__")=some true) (mo:mroIn K C (.type "object")=some true) (be:subIn K (.ref C) (.type "BaseException")=some true) (h:clsIn K C=some cd):t_ K C:=
 ⟨⟨ga,gt,cl,ge,tk,mo,be⟩,by rw[h];rfl⟩
end
end L3
namespace L2
open PySem PySem.Spec PyProof.Rows
def jA(X:Cx)(ops:List CmpOp)(es:Vm)(t:V->TE):Prop:=∀(pos:Pos) (pins:List<|Addr×Obj) (s:Vu) (σ:St) (H:Hp) (x:V) (v:Vt) (Q:Bool->Hp->Prop),qw X pins σ H s->zv x v->(t x σ H λz H'=>∃k,z=.bl k/\Q k H')->wpAny (model X.prog X.w) X.A (testChain pos v ops<|evalEach es X.env) (TP X pins σ Q) X.xe s
def Jk(r:R2)(tb:TE):V->TE:=λx σ H Q=>tb σ H λy H1=>r x y H1 Q
def Jl(r:R2)(tb:TE)(u:V->TE):V->TE:=λx σ H Q=>tb σ H λy H1=>r x y H1 λz H2=>∃k,z=.bl k/\(if k=true then u y σ H2 Q else Q (.bl false) H2)
section
variable {a b c:Expr}{ta tb:TE}{op pj:CmpOp}{ops:List CmpOp}{r:R2}{u:V->TE}
def yr(g:wn X (compareOp op) r)(j:PE X b tb):jA X [op] [b] (Jk r tb):=by intro pos J s U H x v Q I l h;refine test_last<|aI (j J s U H _ I h) λo p ⟨y,t,C,T,q1⟩=>aI (g J p U t x y v o _ C l T q1) λd s2 ⟨z,H2,I2,r2,k,e,q2⟩=>?_;subst e;cases r2;exact wpAny_truthy_bool ⟨H2,I2,q2⟩
def zG(t:wn X (compareOp op) r)(C:PE X b tb)(T:jA X (pj::ops) (c::es) u):jA X (op::pj::ops) (b::c::es) (Jl r tb u):=by
 intro pos J s U H x v Q I rx h;refine test_link<|aI (C J s U H _ I h) λg s1 ⟨y,H1,I1,j,q1⟩=>aI (t J s1 U H1 x y v g _ I1 rx j q1) λd s2 ⟨z,l,o,r2,k,e,p⟩=>?_;subst e;cases r2;refine wpAny_truthy_bool ?_;cases k with
 |false=>
  obtain⟨k',e',q'⟩:=p;cases e';exact ite_ff ⟨l,o,q'⟩
 |true=>exact ite_tt<|T pos J s2 U l y g Q o j p
def QJ(U:PE X a ta)(h:jA X (op::pj::ops) (b::c::es) u)(g:lastMarks (op::pj::ops) (b::c::es)=false):PT X (.Compare a (op::pj::ops) (b::c::es) pos) (GH λσ H Q=>ta σ H λx H1=>u x σ H1 Q):=by intro J s σ H Q I j;exact isTrue_chain (aI (U J s σ H _ I j) λv l ⟨x,H1,o,p,r⟩=>h pos J l σ H1 x v Q o p r) g
end
end L2
namespace L3
open PySem L2
def vT(ta:xu)(u:Y->xu)(τ:jo)(L:qk)(Q:YK):Prop:=ta τ L λx L1=>u x τ L1 Q
def Hc(r:qS)(tb:xu)(x:Y)(τ:jo)(L:qk)(Q:YK):Prop:=tb τ L λy L1=>r x y L1 Q
def Hd(r:qS)(tb:xu)(u:Y->xu)(x:Y)(τ:jo)(L:qk)(Q:YK):Prop:=tb τ L λy L1=>r x y L1 λz L2=>match z with
 |.bl k=>we k (u y τ L2 Q)<|Q (.bl false) L2
 |_=>False
def q_(G:G3)(u:Y->xu):V->TE:=λx σ H Q=>∃y τ L I,RV G H y x/\xg G H σ τ/\zw G H L/\u y τ L I/\uC G H I Q
def jA.imp{ops:List CmpOp}{t u:V->TE}(h:jA X ops es t)(q:∀x σ H Q,u x σ H Q->t x σ H Q):jA X ops es u:=λpos J s σ H x v Q I r z=>h pos J s σ H x v Q I r<|q _ _ _ _ z
def QK{r:qS}(x:V)(σ:L2.St)(H:Hp)(Q:VK):q_ G (Hc r tb) x σ H Q->Jk (gQ G r) (oZ G tb) x σ H Q:=λ⟨y,g,L,j,l,o,p,z,k⟩=>
 ⟨g,L,_,o,p,z,λv H1 t C U I J T=>⟨y,t,C,j,l.ts U,J,I,T,k.ts U⟩⟩
def QL{r:qS}{u:Y->xu}(x:V)(σ:L2.St)(H:Hp)(Q:VK):q_ G (Hd r tb u) x σ H Q->Jl (gQ G r) (oZ G tb) (q_ G u) x σ H Q:=λ⟨y,j,L,l,rv,T,rl,z,k⟩=>
 ⟨j,L,_,T,rl,z,λv H1 o L1 U p I z1=>⟨y,o,L1,_,rv.ts U,I,p,z1,λv2 H2 y2 L2 g J t z2=>by
  cases y2 with
  |bl C=>
   refine⟨C,t,?_⟩;have z3:we C (u o j L2 l) (l (.bl false) L2):=z2;cases C with|true=>rw[AA rfl];exact⟨o,j,L2,l,I.ts g,T.ts<|U.trans g,J,z3,k.ts<|U.trans g⟩|false=>rw[Ay AQ];exact k _ H2 _ L2 (U.trans g) J (by rfl) z3
  |_=>exact z2.elim⟩⟩
section
variable {a b c:Expr}{op pj:CmpOp}{ops:List CmpOp}{r:qS}{u:Y->xu}
def QM(I:wn X (compareOp op)<|gQ X.g3 r)(J:QE X b tb):jA X [op] [b] (q_ X.g3<|Hc r tb):=jA.imp (yr I J) QK
def QN(I:wn X (compareOp op)<|gQ X.g3 r)(J:QE X b tb)(U:jA X (pj::ops) (c::es)<|q_ X.g3 u):jA X (op::pj::ops) (b::c::es) (q_ X.g3<|Hd r tb u):=jA.imp (zG I J U) QL
def QP(σ:L2.St)(H:Hp)(Q:VK):oZ G (vT ta u) σ H Q->(λσ H Q=>oZ G ta σ H λx H1=>q_ G u x σ H1 Q) σ H Q:=λ⟨U,L,l,g,o,z,k⟩=>
 ⟨U,L,_,g,o,z,λv H1 y p j I J r=>⟨y,U,p,l,J,g.ts j,I,r,k.ts j⟩⟩
def QQ(J:QE X a ta)(h:jA X (op::pj::ops) (b::c::es)<|q_ X.g3 u)(U:lastMarks (op::pj::ops) (b::c::es)=false:=by with_unfolding_all rfl):QT X (.Compare a (op::pj::ops) (b::c::es) pos) (yB<|vT ta u):=
 PT.imp (QJ J h U) λI H Q q=>QP I H _<|G4 I H Q q
end
end L3
namespace L2
open PySem PySem.Spec PyProof.Rows
end L2
namespace L3
open PySem L2
def Gh:Y->Option j9
 |.int i=>some<|.inl i
 |.str x=>some<|.inr x
 |_=>none
def oV{y:Y}{k:j9}(h:Gh y=some k)(r:RV G H y v):v=kV k:=by cases y with|int i=>cases h;exact r|str x=>cases h;exact r|_=>cases h
def dU(kvs:List<|j9×Y)(k:j9)(y:Y):List (j9×Y):=
 if (kvs.any λI=>decide<|I.1=k)=true then kvs.map (λI=>if I.1=k then(I.1,y) else I) else kvs++[(k,y)]
def jf.dct{p:Addr}{zs:List<|j9×V}{o:HO}(h:H p=some (.dK zs)):jf H (upd H p o):=λa u i q=>by rw[ql ?_];exact q;rintro rfl;rw[h] at q;cases q;cases i
def QR{xs:List<|j9×V}(p:Paired (λ(p:j9×Y) (q:j9×V)=>p.1=q.1/\RV G H p.2 q.2) kvs xs)(k:j9):(kvs.any λI=>decide<|I.1=k)=xs.any λI=>decide (I.1=k):=by induction p with|nil=>rfl|cons r t J=>rw[CA,CA,J,r.1]
def QU{xs:List<|j9×V}{y:Y}(p:Paired (λ(p:j9×Y) (q:j9×V)=>p.1=q.1/\RV G H p.2 q.2) kvs xs)(k:j9)(r:RV G H y v):
 Paired (λ(p:j9×Y) (q:j9×V)=>p.1=q.1/\RV G H p.2 q.2) (kvs.map λI=>if I.1=k then(I.1,y) else I) (xs.map λI=>if I.1=k then(I.1,v) else I):=by
 induction p with
 |nil=>exact .nil
 |@cons a b _ _ J t U=>
  refine .cons ?_ U;obtain⟨e,q⟩:=J;dsimp only;by_cases c:a.1=k
  ·rw[AA c,AA<|e▸c];exact⟨e,r⟩
  ·rw[Ay c,Ay λz=>c<|e.trans z];exact⟨e,q⟩
def yt{xs:List<|j9×V}{y:Y}(p:Paired (λ(p:j9×Y) (q:j9×V)=>p.1=q.1/\RV G H p.2 q.2) kvs xs)(k:j9)(r:RV G H y v):
 Paired (λ(p:j9×Y) (q:j9×V)=>p.1=q.1/\RV G H p.2 q.2) (kvs++[(k,y)]) (xs++[(k,v)]):=by
 induction p with|nil=>exact .cons ⟨rfl,r⟩ .nil|cons I t J=>exact .cons I J
def QV{xs:List<|j9×V}{y:Y}(p:Paired (λ(p:j9×Y) (q:j9×V)=>p.1=q.1/\RV G H p.2 q.2) kvs xs)(k:j9)(r:RV G H y v):
 Paired (λ(p:j9×Y) (q:j9×V)=>p.1=q.1/\RV G H p.2 q.2) (dU kvs k y) (eO xs k v):=by
 unfold dU eO;rw[QR p k];by_cases c:(xs.any λI=>decide<|I.1=k)=true
 ·rw[AA c,AA c];exact QU p k r
 ·rw[Ay c,Ay c];exact yt p k r
def uE{R:α->β->Prop}{l:List α}{m:List β}(p:Paired R l m):l.length=m.length:=by induction p with|nil=>rfl|cons _ _ I=>rw[AF,AF,I]
def Jm(_:jo)(L:qk)(Q:YK):Prop:=∀p,L p=none->Q (.ref p) (qi L p<|.dct [])
def uN(td ti:xu)(τ:jo)(L:qk)(Q:YK):Prop:=td τ L λx L1=>ti τ L1 λy L2=>match x,Gh y with
 |.ref a,some k=>oo L2 a λkvs=>e_ L2 Q<|ve kvs k
 |_,_=>False
def lG(td ti tv:xu)(D:x5)(τ:jo)(L:qk):Prop:=tv τ L λv L1=>td τ L1 λx L2=>ti τ L2 λy L3=>match x,Gh y with
 |.ref a,some k=>oo L3 a λkvs=>kvs.length<sizeLine/\D.nx τ (qi L3 a<|.dct<|dU kvs k v)
 |_,_=>False
section
variable {i:Expr}{td ti tv:xu}
def hW:QE X (.Dict [] [] pos) Jm:=EO NM λU H Q g L j l J z k=>λp I=>by
 refine k _ _ _ (qi L p<|.dct []) (EN I) (λa u e=>?_) (by rfl)<|z p<|J.none I;by_cases c:a=p
 ·subst c;rw[q9] at e;cases e;exact⟨[],zg,.nil⟩
 ·rw[qc c] at e;exact(J a u e).keep (EN I) (ql c)
def aF(hu:X.A.units+128<cLine)(t:QE X o td)(hi:QE X i ti)(hs:GK i):QE X (.Subscript o i pos) (uN td ti):=EO (NJ (by omega) t hi hs) λσ H Q l L Q3 p C z k=>
 ⟨l,L,_,p,C,z,λv H1 x T r J U z1=>⟨l,T,_,p.ts r,J,z1,λw H2 y L2 t2 I g j=>by
  split at j
  ·rename_i a kk ek;obtain⟨a1,e,z3⟩:=dg j;obtain⟨yv,ev,q⟩:=y7 z3;obtain⟨xs,e2,pr⟩:=I a _ e;obtain⟨xv,ex,rx⟩:=qL pr ev;exact⟨a,xv,U,.inl ⟨xs,kk,.inl e2,oV ek g,ex.symm⟩,k _ H2 _ L2 (r.trans t2) I rx q⟩
  ·exact j.elim⟩⟩
theorem wq(hu:X.A.units+128<cLine)(ho:QE X o td)(hi:QE X i ti)(hv:QE X value tv)(hs:swapsWith value (some<|.Subscript o i hQ) pos.line X.env=pure false:=by rfl):QS X (.Assign [.Subscript o i hQ] value pos) (lG td ti tv):=
 ES (NK (by omega) ho hi hv hs) λD σ H l L D3 J rl z k=>
 ⟨l,L,_,J,rl,z,λv H1 vy L1 U p r z1=>⟨l,L1,_,J.ts U,p,z1,λx H2 xy L2 g t C z2=>⟨l,L2,_,J.ts<|U.trans g,t,z2,λw H3 y L3 T I a1 z3=>by
  split at z3
  ·rename_i a kk ek;obtain⟨a2,e,hl,q⟩:=dg z3;obtain⟨xs,e2,pr⟩:=I a _ e;have j:jf H3 (upd H3 a<|.dK<|eO xs kk v):=jf.dct e2;cases (show x=V.ref a from C);refine⟨a,_,rfl,.inl ⟨xs,kk,e2,oV ek a1,by rw[<-uE pr];exact hl,rfl⟩,?_⟩;refine k.nx _ _ _ _ (((U.trans g).trans T).trans j) (J.ts<|((U.trans g).trans T).trans j) (λb u eb=>?_) q;by_cases c:b=a
   ·subst c;rw[q9] at eb;cases eb;exact⟨_,zg,ER (QV pr kk<|r.ts<|g.trans T) λ_ _ ⟨h1,h2⟩=>⟨h1,h2.ts j⟩⟩
   ·rw[qc c] at eb;exact(I b u eb).keep j (ql c)
  ·exact z3.elim⟩⟩⟩
end
def uw(to ti tv:xu)(D:x5)(τ:jo)(L:qk):Prop:=tv τ L λv L1=>to τ L1 λx L2=>ti τ L2 λy L3=>match x,y with
 |.ref a,.int i=>fU L3 a λys=>e_ L3 (λj L=>D.nx τ<|qi L a<|.lst<|ys.set j v)<|wG ys.length i
 |_,_=>False
section
variable {i:Expr}{ti tv:xu}
theorem iD(ho:QE X o to)(hi:QE X i ti)(hv:QE X value tv)
 (ha:∀v,assign (.Subscript o i hQ) X.env v=(do
  let J <-holding [v] (eval o X.env)
  let p <-holding [v,J] (eval i X.env)
  standAt hQ
  holding [v,J,p] (setItem J p v)
  release [v,J,p] []):=by intro _;rfl)
 (h1:swapsWithSole [.Subscript o i hQ] value pos.line X.env=pure false:=by rfl) (h2:swappedStores [.Subscript o i hQ] value X.env=pure none:=by rfl)
 (h3:(assignEach [.Subscript o i hQ] X.env).map (·.2)=[assign (.Subscript o i hQ) X.env]:=by rfl):QS X (.Assign [.Subscript o i hQ] value pos) (uw to ti tv):=
 ES (HI hv (MO ho hi N' ha) h1 h2 h3) λD σ H t L D3 U rl z k=>
 ⟨t,L,_,U,rl,z,λv H1 vy L1 g C T z1=>⟨t,L1,_,U.ts g,C,z1,λx H2 xy L2 l a1 a2 z2=>⟨t,L2,_,U.ts<|g.trans l,a1,z2,λw H3 y L3 t3 I a3 z3=>by
  split at z3
  ·rename_i a ii;obtain⟨ys,e,z4⟩:=w6 z3;obtain⟨j,ej,q⟩:=y7 z4;obtain⟨xs,e2,r⟩:=I a _ e;cases (show x=V.ref a from a2);cases (show w=V.int ii from a3);have tt:jf H3 (upd H3 a<|.lst<|xs.set j v):=E6 e2;exact⟨a,xs,ii,j,rfl,rfl,e2,by rw[<-r.length];exact ej,k.nx _ _ _ _ (((g.trans l).trans t3).trans tt) (U.ts<|((g.trans l).trans t3).trans tt) (I.setL e2<|xt.setY (T.ts<|l.trans t3) j r) q⟩
  ·exact z3.elim⟩⟩⟩
end
end L3
namespace L2
open PySem PySem.Spec PyProof.Rows
def PJ(X:Cx)(es:Vm)(t:Str->TE):Prop:=∀(pins:List<|Addr×Obj) (s:Vu) (σ:St) (H:Hp) (fu:Str) (Q:VK),qw X pins σ H s->t fu σ H Q->wpAny (model X.prog X.w) X.A (joinParts fu<|evalEach es X.env) (EP X pins σ Q) X.xe s
def QX:Str->TE:=λfu _ H Q=>fu.length<=sizeLine/\Q (.str fu) H
def QY(te:TE)(u:Str->TE):Str->TE:=λfu σ H Q=>te σ H λx H1=>∃y,x=.str y/\(fu++y).length<=sizeLine/\u (fu++y) σ H1 Q
section
variable {qy pR:Expr}{te:TE}{u:Str->TE}
def QZ:PJ X [] QX:=λU s j H J Q I ⟨g,q⟩=>joinParts_nil ⟨.str J,H,I.tok _,⟨_,rfl⟩,q⟩ g
def Q0(h:PE X e te)(t:PJ X es u):PJ X (e::es) (QY te u):=by intro J s U H g Q I j;refine joinParts_cons<|aI (h J s U H _ I j) λv l ⟨x,o,p,r,y,C,T,q⟩=>?_;subst C;obtain⟨tk,rfl⟩:=(show ∃t,v=Value.str y t from r);exact⟨T,t J l U o _ Q p q⟩
def Q1(h:PJ X (qy::pR::es) u):PE X (.JoinedStr (qy::pR::es) pos) (u Str.empty):=λJ s U H Q I g=>JoinedStr_many<|h J s U H _ Q I g
end
end L2
namespace L3
open PySem L2
def Jn(fu:Str)(_:jo)(L:qk)(Q:YK):Prop:=fu.length<=sizeLine/\Q (.str fu) L
def jN(te:xu)(u:Str->xu)(fu:Str)(τ:jo)(L:qk)(Q:YK):Prop:=te τ L λx L1=>match x with
 |.str y=>(fu++y).length<=sizeLine/\u (fu++y) τ L1 Q
 |_=>False
def Jo(u:Str->xu)(τ:jo)(L:qk)(Q:YK):Prop:=u Str.empty τ L Q
def PJ.imp{t u:Str->TE}(h:PJ X es t)(q:∀fu σ H Q,u fu σ H Q->t fu σ H Q):PJ X es u:=λJ s σ H fu Q I z=>h J s σ H fu Q I<|q _ _ _ _ z
section
variable {qy pR:Expr}{u:Str->xu}
def Q2:PJ X [] (λfu=>oZ X.g3<|Jn fu):=PJ.imp QZ λfu J H Q ⟨U,L,g,j,I,z,k⟩=>⟨z.1,k _ H _ L (EL _) I (by rfl) z.2⟩
def gZ(h:QE X e te)(t:PJ X es λfu=>oZ X.g3<|u fu):PJ X (e::es) (λfu=>oZ X.g3<|jN te u fu):=PJ.imp (Q0 h t) λfu C H Q ⟨g,L,o,j,p,z,k⟩=>
 ⟨g,L,_,j,p,z,λv T y r l I J U=>by cases y with|str s=>exact⟨s,J,U.1,g,r,o,j.ts l,I,U.2,k.ts l⟩|_=>exact U.elim⟩
def Q4(h:PJ X (qy::pR::es) λfu=>oZ X.g3<|u fu):QE X (.JoinedStr (qy::pR::es) pos) (Jo u):=Q1 h
end
section
variable {tv:xu}{tr:fS}{p:Pos}{f m:Str}{g:Addr}
end
open PySem.AutoSeq1 (wpAny_loadPart')
open MeetsSeq MeetsSeq2 MeetsSeq3 SeqRoads2
end L3
namespace Txs
open PySem PySem.Builtin.Str
def len_list(x:Str):x.cps.toList.length=x.length:=by simp[Str.length]
end Txs
namespace L2
open PySem PySem.Spec PyProof.Rows
section
variable {isp imk c j1 j2:Nat}{sp mk:Str}{u:Tok}{m:Vf}{p6 p7 p8 p9 p10:Pos}{Q:Flow->Vu->Prop}
end
end L2
namespace L2
open PySem PySem.Spec PyProof.Rows
end L2
namespace L3
open PySem L2
def Q5(s:Stmt):Vn:=match s with
 |.ClassDef _ _ _ b _ _ _ _ _ _ _=>b
 |_=>[]
section
variable {tr:fS}{p:Pos}{m:Str}{k:Nat}{sp:kh}
end
end L3
namespace L2
open PySem PySem.Spec PyProof.Rows
def are(te:TE):TE:=λσ H Q=>te σ H λx H1=>∃i:Int,x=.int i/\i.natAbs.log2<1920/\Q (.str<|toString i) H1
section
variable {te:TE}
def Q6(h:PE X e te):PE X (.FormattedValue e (-1) none pos) (are te):=by intro J s U H Q I g;refine FormattedValue_plain<|aI (h J s U H _ I g) λv C ⟨x,j,l,o,i,p,r,q⟩=>?_;subst p;obtain⟨t,rfl⟩:=(show ∃t,v=Value.int i t from o);exact formatField_int_small r ⟨.str _,j,l.tok _,⟨_,rfl⟩,q⟩
end
end L2
namespace L3
open PySem L2
def He(te:xu)(τ:jo)(L:qk)(Q:YK):Prop:=te τ L λx L1=>match x with
 |.int i=>i.natAbs.log2<1920/\Q (.str<|toString i) L1
 |_=>False
def yO(h:QE X e te):QE X (.FormattedValue e (-1) none pos) (He te):=EO (Q6 h) λt H Q g L C j l z k=>
 ⟨g,L,_,j,l,z,λv o y p r I J U=>by cases y with|int i=>exact⟨i,J,U.1,k _ o _ p r I (by rfl) U.2⟩|_=>exact U.elim⟩
end L3
namespace L2
open PySem PySem.Spec PyProof.Rows
section
variable {a T:Addr}{tr:Option Addr}
end
section
variable {T:Vl}{iter:Expr}{g:TG}{te:TE}
end
section
variable {a b T:Addr}{tr:Option Addr}{E1:X1}
end
section
variable {k:Nat}{E1:X1}{p:Pos}{t:TA}
end
end L2
namespace L3
open PySem L2
section
variable {T:Vl}{iter c:Expr}{wi:p_}{tr:fS}{E3:X3}{Ea:Addr->qk->Prop}
end
def Hf:List Y->Option (Vo)
 |[]=>some []
 |.int b::r=>(Hf r).map (b::·)
 |_::_=>none
theorem pO{G:G3}{H:Hp}:∀{ys:List Y} {xs:Vz} {bs:Vo},Hf ys=some bs->xt G H ys xs->xs=bs.map V.int
 |[],_,_,h,r=>by cases h;exact r
 |y::ys,_,bs,h,⟨x,I,e,J,U⟩=>by
  cases y with
  |int b=>
   have g:(Hf ys).map (b::·)=some bs:=h;obtain⟨l,j,rfl⟩:=AB.mp g;cases (show x=V.int b from J);rw[e,pO j U];rfl
  |_=>cases h
end L3
namespace L2
open PySem PySem.Spec PyProof.Rows
end L2
namespace L2
open PySem PySem.Spec PyProof.Rows
section
variable {w:Vw}
theorem ug{it t:Addr}{eH:Vj}(I:t≠it):∀(n i:Nat) (s:Vu) (Q:Vi->Vu->Prop),s.heap.IsListIter it t i->s.heap.IsList t eH->i+n<=eH.size->
 (∀h',h'.IsListIter it t (i+n)->Heap.SameBut it s.heap h'->Q ((eH.toList.drop i).take n) {s with heap:=h'})->wpAny (model prog w) A (draw (.ref it) n) Q E s
 |0,i,s,Q,hit,_,_,g=>by unfold draw;exact Ai (by simpa using g s.heap hit (Heap.SameBut.refl ..))
 |n+1,i,s,Q,hit,p,r,g=>by
  have J:i<eH.size:=by omega
  unfold draw;refine Aa<|wpAny_pyNext_list_item hit p (x:=eH[i]) (by simp[J]) λg1 j U=>?_;refine Aa<|A6<|ug I n (i+1) _ _ j (p.extBut U.extBut I) (by lia) λg2 l o=>Ai ?_;have e:eH.toList.drop i=eH[i]::eH.toList.drop (i+1):=by simp[B5,J]
  have q:=g g2 (by rw[show i+(n+1)=i+1+n by simp +arith only];exact l)
   (U.trans o)
  rw[e,List.take_succ_cons] at q;exact q
def Q7{t:Addr}{eH:Vj}{Q:Ve}(T:A.handled=none)(I:s.heap.IsList t eH)(hn:(assignEach nC env).length=eH.size)(j:(assignEach nC env).findIdx? (·.1)=none)
 (h:∀g,Heap.ExtBut s.heap.objs.size s.heap g->wpAny (model prog w) A (assignInOrder ((assignEach nC env).map (·.2)) eH.toList) Q E {s with heap:=g}):wpAny (model prog w) A (assign (.Tuple nC x1 pos) env<|.ref t) Q E s:=by
 have J:t≠s.heap.objs.size:=by obtain⟨o,ho,_⟩:=I;exact A9<|wh ho
 rw[arm_assign_Tuple];refine Aa<|wpAny_standAt ?_;unfold unpack;rw[hn,j];refine Aa<|A6 ?_;unfold unpackItems notIterableAtAll;refine Aa<|Aa<|wpAny_specialOf I.typeIs slot_list_iter.lookup ?_;refine Ai ?_;rw[Ay (by simp)];refine Aa<|A6<|wpAny_pyIter_list I ?_;refine Aa<|A6<|ug J eH.size 0 _ _ ⟨_,xT _ rfl,rfl,rfl⟩ (I.push _) (by simp +arith only) λg1 l U=>?_;have all:List.take eH.size (List.drop 0 eH.toList)=eH.toList:=by rw[DS];exact AS (by simp)
 rw[all,Ay (by simp)];have p:g1.IsList t eH:=(I.push _).extBut U.extBut J;refine Aa<|A6<|wpAny_pyNext_list_end T l p (by simp) λg2 r=>?_;rw[Ay (by simp)];exact Ai<|h g2 λb o C e=>r b o C<|U.extBut b o C<|vb _ e
end
def Q8(K:Ah)(n:Nat)(t:c_):TG:=λv σ H Q=>∃a xs,v=.ref a/\aS K H a xs/\xs.length=n/\t xs σ H Q
def Q9{k:Nat}{t:c_}(hc:X.calm=true)(h:PGs X es t)
 (l:(assignEach es X.env).length=n:=by rfl) (U:(assignEach es X.env).findIdx? (·.1)=none:=by rfl):PG X (.Tuple es k pos) (Q8 X.K n t):=by
 rintro J s g H v u Q I r⟨a,p,C,T,hl,hw⟩;subst C;cases r;obtain⟨a1,j,pl,hz⟩:=I.list T;have ht:=xp pl;refine Q7 (I.ok.hd hc) ht (by simp[l,<-hl,j.length]) U λh' hx=>?_;have I1:qw X J g H {s with heap:=h'}:=I.kept (t':=s.toks) λb o e=>hx b o (A9<|wh e) e;exact h J _ g H p _ Q I1 (by simpa using j) hw
def Ra(l:Addr)(eH:Vj)(n:Nat)(x:Vt)(b:Nat->Bool)(j:Nat)(C:j<eH.size)(hit:b j=true)(hz:eH.size<=sizeLine):∀(k i:Nat),j-i=k->i<=j->(∀m,i<=m->m<j->b m=false)->
 Meets (Builtin.«list.remove.loop» ⟨[.ref l,x,rawInt i],[]⟩) (λA R s=>s.heap.get? l=some {cls:=.type "list",dict:=none,data:=.seq eH n,slots:=#[]}/\(∀m (hm:m<eH.size),SeqAt.EqAt A.in1 s eH[m] x<|b m)/\R (.ok<|.ret .none) {s with heap:=s.heap.update l (Obj.mapSeq λxs=>xs.eraseIdxIfInBounds j)}):=by
 intro k
 induction k with
 |zero=>
  intro i T p J I w A R s h;obtain⟨hp,g,d,tk,os⟩:=s;obtain⟨U,eq,h⟩:=h;have e:i=j:=by lia
  subst e
  (wp_walk using wpAny_loadPart' U)
  have r:eH[((i:Nat):Int).toNat]?=some eH[i]:=by simp[C]
  rw[r];refine Aa<|eq i C I w _ _ ?_;rw[hit];have t:(eH.eraseIdxIfInBounds i).size<=sizeLine+1:=AW (MeetsSeq.size_erased eH _)<|BV hz
  (wp_walk using (wpAny_updateSeq U rfl (hz:=hz) (_hz':=t)),wpAny_loadPart' U)
  simpa using h
 |succ k ih=>
  intro i T p J I w A R s h;obtain⟨hp,g,d,tk,os⟩:=s;obtain⟨U,eq,h⟩:=h;have o:i<eH.size:=by exact o7
  (wp_walk using wpAny_loadPart' U)
  have r:eH[((i:Nat):Int).toNat]?=some eH[i]:=by simp[o]
  have hc:((i:Int)+1)=((i+1:Nat):Int):=by rfl
  rw[r];refine Aa<|eq i o I w _ _ ?_;rw[J i (Ap _) (by omega)]
  wp_walk
  rw[hc];refine⟨plainId_quiet DT _,codeAny_builtin MeetsSeq.entry_remove_loop ?_⟩;rw[Fa DT _];exact ih (i+1) (by omega) (by omega) (λm h1 h2=>J m (by exact jI) h2) I w A R _ ⟨U,eq,h⟩
def Rb(l:Addr)(eH:Vj)(n:Nat)(x:Vt)(b:Nat->Bool)(j:Nat)(o:j<eH.size)(hit:b j=true)(hz:eH.size<=sizeLine)(J:∀m,m<j->b m=false):
 Meets (Builtin.«list.remove» ⟨[.ref l,x],[]⟩) (λA R s=>s.heap.get? l=some {cls:=.type "list",dict:=none,data:=.seq eH n,slots:=#[]}/\(∀m (p:m<eH.size),SeqAt.EqAt A.in1 s eH[m] x<|b m)/\R (.ok<|.ret .none) {s with heap:=s.heap.update l (Obj.mapSeq λxs=>xs.eraseIdxIfInBounds j)}):=by
 intro I w A R s h;obtain⟨r,g,d,tk,os⟩:=s;obtain⟨U,eq,h⟩:=h
 (wp_walk using wpAny_loadPart' U)
 refine⟨plainId_quiet DT _,codeAny_builtin MeetsSeq.entry_remove_loop ?_⟩;rw[Fa DT _];exact Ra l eH n x b j o hit hz _ 0 rfl (Bb _) (λm _ h2=>J m h2) I w A R _ ⟨U,eq,h⟩
theorem zu.eraseN:∀{xs:Vz} {us:Vi} (n:Nat),zu xs us->zu (xs.eraseIdx n) (us.eraseIdx n)
 |[],_,n,.nil=>by simp;exact .nil
 |_::_,_,0,.cons _ t=>t
 |_::_,_,n+1,.cons r t=>.cons r<|zu.eraseN n t
def Rc(X:Cx):V->Vz->Hp->VK->Prop:=λx vs H Q=>∃l xs y ds e,∃n m j:Nat,x=.ref l/\vs=[y]/\H l=some (.lst xs)/\n<=126/\Paired (aM X.K H n) xs ds/\aM X.K H m y e/\j<ds.length/\(∃d,ds[j]?=some d/\Da.eq d e=true)/\
 (∀(k:Nat) d,k<j->ds[k]?=some d->Da.eq d e=false)/\Q .non (upd H l<|.lst<|xs.eraseIdx j)
def Rf(hu:X.A.units+128<cLine):qT X "list.remove" (Rc X):=by
 rintro a5 s σ H x vs v us Q I rx rv⟨l,o,y,g,e,n,m,j,rfl,rfl,hH,hn,pd,ry,hj,⟨dj,t,C⟩,T,q⟩;cases rx;obtain⟨u,rfl,ru⟩:=rv.one;obtain⟨z,J,nn,r,hl,eo⟩:=I.lstM hH;have l1:o.length=g.length:=pd.length;have l2:J.length=o.length:=r.length.symm;obtain⟨arr,U⟩:∃arr:Vj,arr=J.toArray:=⟨_,rfl⟩;have a1:arr.size=J.length:=by rw[U,Aw]
 have b:Nat->Bool:=λ_=>true;have a2:arr.size<=sizeLine:=by rw[a1];lia
 have M:=Rb l arr nn u (λk=>((g[k]?).map λd=>Da.eq d e).getD false) j (by lia) (by show((g[j]?).map λd=>Da.eq d e).getD false=true;rw[t];exact C) a2 (λk p=>by show((g[k]?).map λd=>Da.eq d e).getD false=false;cases ek:g[k]? with|none=>rfl|some d=>exact T k d p ek)
 rw[U] at M;refine call_meets F.slot_list_remove ⟨_,eo,rfl⟩ F.entry_list_remove (F.args_list_remove_2 _ _) M ⟨eo,λk p=>?_,?_⟩
 ·have ac:k<J.length:=by rw[Aw] at p;exact p
  obtain⟨d,ed,rd⟩:=Words.Paired.getP pd<|Al (by lia:k<o.length);show SeqAt.EqAt _ s _ u (((g[k]?).map λd=>Da.eq d e).getD false);rw[ed];obtain⟨u',a3,a4⟩:=Words.Paired.getP r<|Al (by lia:k<o.length);have eg:J.toArray[k]=u':=by have:=(AL.mp a3).2;simpa using this
  rw[eg];exact xQ I n (by show X.A.units+1+n<cLine;lia) rd ry a4 ru
 ·refine⟨.non,_,I.lset (its':=J.eraseIdx j) hH eo ?_ (r.eraseN j) ?_,rfl,q⟩
  ·have:j<J.length:=by lia
   simp[Array.eraseIdxIfInBounds,this]
  ·have:=Dl o j;exact GO
end L2
namespace L3
open PySem L2
def Jp(n:Nat)(t:uu)(y:Y)(τ:jo)(L:qk)(Q:jo->qk->Prop):Prop:=match y with
 |.ref a=>fU L a λys=>match ys.length==n with
  |true=>t ys τ L Q
  |false=>False
 |_=>False
def Jq{U:Nat}(hc:X.calm=true)(h:FM X es gs)(h1:(assignEach es X.env).length=n:=by rfl)(h2:(assignEach es X.env).findIdx? (·.1)=none:=by rfl):QG X (.Tuple es U pos) (Jp n gs):=
 PG.imp (Q9 hc h h1 h2) λv σ H Q ⟨y,g,L,j,l,o,J,z,k⟩=>by
 cases y with
 |ref a=>
  cases (show v=.ref a from l);obtain⟨p,e,I⟩:=w6 z;obtain⟨t,C,r⟩:=J a _ e;split at I
  ·rename_i T;exact⟨a,t,rfl,aS.of C,by rw[<-r.length];exact beq_iff_eq.mp T,p,g,L,j,r,o,J,I,k⟩
  ·exact I.elim
 |_=>exact z.elim
def lv(x:Y)(vs:List Y)(L:qk)(Q:YK):Prop:=match x,vs with
 |.ref a,[v]=>fU L a λys=>∃ds e,∃n m j:Nat,n<=126/\Paired (x9 L n) ys ds/\x9 L m v e/\j<ds.length/\(∃d,ds[j]?=some d/\Da.eq d e=true)/\(∀(k:Nat) d,k<j->ds[k]?=some d->Da.eq d e=false)/\Q .non (qi L a<|.lst<|ys.eraseIdx j)
 |_,_=>False
def Rg(C:X.A.units+128<cLine):qT X "list.remove" (v_ X.g3 lv):=qT.imq (Rf C) λx I H Q y U L Q3 T r2 g z k=>by
 unfold lv at z;split at z
 ·rename_i a v;obtain⟨zs,e,J,de,n,m,j,hn,pd,dv,hj,hit,l,z⟩:=w6 z;obtain⟨us,o,r⟩:=g a _ e;obtain⟨v',rfl,rv⟩:=r2.inv1;have both:∀{U:List Y} {J:List Da} {I:Vz},Paired (x9 L n) U J->xt X.g3 H U I->Paired (aM X.K H n) I J:=by
   intro U J I p
   induction p generalizing I with
   |nil=>intro q;cases (show I=[] from q);exact .nil
   |cons h t ih=>
    rintro⟨x,a1,rfl,q1,q2⟩;exact .cons (x9.rep g h q1)<|ih q2
  exact⟨a,us,v',J,de,n,m,j,T,rfl,o,hn,both pd r,x9.rep g dv rv,hj,hit,l,k _ _ _ _ (E6 o) (g.setL o<|r.eraseIdx j) (by rfl) z⟩
 ·exact z.elim
def zF(I:X.A.units+128<cLine){tr:fS}(J:QE X o to)(U:QA X (e::es) tr)(g:Fo X o e es "remove" apos hE:=by exact⟨rfl,rfl,rfl,rfl,rfl⟩):
 QE X (.Call (.Attribute o "remove" apos) (e::es) [] hE) (jP lv to tr):=vL PySem.F.slot_list_remove PySem.F.type_list_remove (Rg I) J U g
open PySem L2 Words
def cA:Wd->Y
 |.leaf t n=>.tup [.str<|kL t,.str n]
 |.node e l r=>.tup [.str<|kN e,cA l,cA r]
def qj{Q:α->qk->Prop}{o:Option α}{v:α}(e:o=some v)(h:Q v L):e_ L Q o:=by rw[e];exact h
def pL:RD "is_leaf" qQ 0 ["word"] (λ_=>True):=⟨_,λV B c _ _ _ _ _ _ _ I hN J=>(qg<|zb<|sE (uM _ _ _) (J_ 0) (PY B.k_LEAF_KINDS rfl) (by with_unfolding_all rfl))⟩
def kX:Bool->Bool->Str
 |true,t=>kL t
 |false,e=>kN e
inductive aN(ys:List Y)(L:qk)(Q:YK):Prop
 |mk:∀lf b rest,(ys=[.tup<|.str (kX lf b)::rest])->(Q (.bl lf) L)->aN ys L Q
def zR(t:Bool):sQ (.str<|kL t) [.str "plain",.str "turned"]=true:=by cases t<;>decide +kernel
def zZ(t:Bool):sQ (.str<|kN t) [.str "plain",.str "turned"]=false:=by cases t<;>decide +kernel
def wC:∀ys L Q,aN ys L Q->vd pL.1 1 ys L Q:=by
 rintro ys L Q ⟨lf,b,rest,rfl,q⟩;have I:dW (Y.str (kX lf b)::rest) 0=some (Y.str<|kX lf b):=jx (xs:=Y.str (kX lf b)::rest) (j:=0) rfl;walk_at "w";rw[I];refine⟨rfl,rfl,xa ?_⟩;cases lf with
 |true=>
  rw[show nb false (sQ (fW<|.str<|kX true b)<|[Y.str "plain",.str "turned"].map fW)=true from zR b];exact q
 |false=>
  rw[show nb false (sQ (fW<|.str<|kX false b)<|[Y.str "plain",.str "turned"].map fW)=false from zZ b];exact q
def zY(t:Bool):List.lookup (kL t) [(("plain" : Str),("turned" : Str)),("turned","plain"),("both","either"),("either","both")]=some (kL<|!t):=by cases t<;>decide +kernel
def Rh(t:Bool):List.lookup (kN t) [(("plain" : Str),("turned" : Str)),("turned","plain"),("both","either"),("either","both")]=some (kN<|!t):=by cases t<;>decide +kernel
def x9.str(x:Str):x9 L n (.str x) (.s<|.str x):=by cases n with|zero=>exact⟨rfl,rfl⟩|succ n=>exact .inl ⟨rfl,rfl⟩
abbrev E7:=@x9.str
def x9.int(x:Int):x9 L n (.int x) (.s<|.int x):=by cases n with|zero=>exact⟨rfl,rfl⟩|succ n=>exact .inl ⟨rfl,rfl⟩
abbrev EZ:=@x9.int
theorem iP{L:qk}:∀{wd:Wd} {n:Nat},wd.depth<=n->x9 L n (cA wd) (rL wd)
 |.leaf t nm,n+1,_=>.inr<|.inl ⟨_,_,rfl,rfl,.cons (E7 _)<|.cons (E7 _) .nil⟩
 |.node e l r,n+1,h=>by have I:max l.depth r.depth+1<=n+1:=h;exact .inr<|.inl ⟨_,_,rfl,rfl,.cons (E7 _)<|.cons (iP (by lia))<|.cons (iP (by lia)) .nil⟩
def fJ{a:Addr}(e:L a=some (.lst ys))(p:Paired (x9 L n) ys ds):x9 L (n+1) (.ref a) (.lst ds):=.inr<|.inr ⟨ys,ds,rfl,rfl,wv e,p⟩
def eL(p:Paired (x9 L n) ys ds):x9 L (n+1) (.tup ys) (.tup ds):=.inr<|.inl ⟨ys,ds,rfl,rfl,p⟩
def Ri{neg:Bool}{u v:Wd}{Q:YK}(J:u.depth<=128)(q:Q (.bl<|nb neg<|Da.eq (rL u)<|rL v) L):h_ neg (cA u) (cA v) L Q:=by
 have I:∀w:Wd,Fl (cA w)=true:=λw=>by cases w<;>rfl
 have:Fl (cA u)=true/\Fl (cA v)=true/\∃n m d e,n<=128/\x9 L n (cA u) d/\x9 L m (cA v) e/\Q (.bl<|nb neg<|Da.eq d e) L:=
  ⟨I u,I v,u.depth,v.depth,rL u,rL v,J,iP<|Ap _,iP<|Ap _,q⟩
 cases u<;>cases v<;>exact this
def dy{neg:Bool}{a b:Addr}{zs:List Y}{es:List Da}{Q:YK}(I:n<128)(ea:L a=some (.lst ys))(eb:L b=some (.lst zs))(pa:Paired (x9 L n) ys ds)(pb:Paired (x9 L m) zs es)(q:Q (.bl<|nb neg<|Da.eqs ds es) L):
 h_ neg (.ref a) (.ref b) L Q:=⟨rfl,rfl,n+1,m+1,_,_,I,fJ ea pa,fJ eb pb,q⟩
def dz:RD "_law_cell_at" dh 0 ["_law_script","_law_k"] (λ_=>True):=⟨_,λV B c _ _ _ _ _ _ _ I hN J=>(qa (zr (je pJ (qv 1) (L_ B.ba<|qv 0)<|vn _) (qg<|zb<|I_ (qv 0)<|qv 1) za)<|qg<|zb qd)⟩
def oK:RD "_law_mix" nO 0 ["_law_cell","_law_k","_law_factor"] (λ_=>True):=⟨_,λV B c _ _ _ _ _ _ _ I hN J=>(qg<|zb<|qm vf (qm js (qm iI (qm ju (qm ju (qm iI (qm js (qv 0) qd) qd)<|qm iI (qv 1)<|qv 1) qd)<|qv 2) qd) qd)⟩
def fg(J:kh):RR "_law_weight" f9 1 ["_law_word_here"] ["_law_word_here"] J (λ_=>True):=⟨_,λV B c _ _ I _ _ _ _ _ _ U hN g=>(qa (zr (E_ g (L_ B.ba<|qv 0) qd) (qg<|zb qd) za)<|qg<|zb<|qm ju (qm ju qd<|C_ I U<|xn<|J_ 0)<|C_ I U<|xn<|J_ 0)⟩
def kZ(J:kh):RR "_law_word" lJ 1 ["_law_knots","_law_p"] ["_law_knots","_law_p","_law_knot"] J (λ_=>True):=⟨_,λV B c _ _ I _ _ _ _ _ _ U hN g=>(qa (S_ 2 hN<|I_ (qv 0)<|qv 1)<|qa (zr (E_ g (L_ B.ba<|qv 2) qd) (qg<|zb<|qv 2) za)<|qg<|zb<|zh<|bQ (J_ 2) (C_ I U<|v9 (qv 0)<|J_ 2)<|C_ I U<|v9 (qv 0)<|J_ 2)⟩
inductive cj(ys:List Y)(L:qk)(Q:YK):Prop
 |mk:∀ns:Vo,∀k:Int,(ys=[.sq<|ns.map Y.int,.int k])->(0<=k)->(∀v,Q (.int v) L)->cj ys L Q
def vJ:∀ys L Q,cj ys L Q->vd dz.1 2 ys L Q:=by rintro ys L Q ⟨I,k,rfl,h0,q⟩;refine zk (λc=>?_) λc=>xa<|q 0;have J:k<((I.map Y.int).length:Int):=c;rw[Af] at J;obtain⟨j,rfl⟩:∃j:Nat,k=(j:Int):=⟨k.toNat,by lia⟩;have e:dW (I.map Y.int) (j:Int)=some (Y.int<|I[j]'(by omega)):=v4<|Al _;walk_at "w";rw[e];exact xa<|q _
inductive ij(ys:List Y)(L:qk)(Q:YK):Prop
 |mk:∀c k f:Int,(ys=[.int c,.int k,.int f])->(0<=k)->(k<1000000)->(0<f)->(f<1000000)->(∀v,0<=v->v<134217728->Q (.int v) L)->ij ys L Q
def Rj:∀ys L Q,ij ys L Q->vd oK.1 3 ys L Q:=by
 rintro ys L Q ⟨c,k,f,rfl,h0,h1,h2,h3,q⟩;refine⟨(by decide:(0:Int)<1000003),.inr ⟨by decide,by decide⟩,.inl ⟨by lia,by lia⟩,.inr ⟨by lia,by lia⟩,(by decide:(0:Int)<2147483647),⟨by decide,by decide⟩,xa<|q _ ?_ ?_⟩
 all_goals
  generalize ((c % 1000003*7+k*k+1)*f)=z;lia
def Rk(cs:Vk):(Txt.join ""<|cs.map λc=>(⟨#[c]⟩:Str)).cps.toList=cs:=by
 rw[qX]
 induction cs with|nil=>rfl|cons c r I=>rw[AJ,Bq,I];rfl
inductive aJ(n:Nat)(ys:List Y)(L:qk)(Q:YK):Prop
 |mk:∀wd,(ys=[cA wd])->(wd.depth<=n)->(Q (.int wd.size) L)->aJ n ys L Q
def nH:∀ys L Q,¬aJ 0 ys L Q:=by rintro ys L Q ⟨I,_,hd,_⟩;cases I<;>simp[Wd.depth] at hd
def Rl(n:Nat):∀ys L Q,aJ (n+1) ys L Q->vd (fg<|aJ n).1 1 ys L Q:=by
 rintro ys L Q ⟨I,rfl,hd,q⟩;cases I with
 |leaf t n=>exact xa q
 |node e l r=>
  have J:max l.depth r.depth+1<=n+1:=hd;refine⟨l,rfl,by lia,r,rfl,by lia,xa ?_⟩;have e:(1+(l.size:Int)+(r.size:Int))=(((Wd.node e l r).size:Nat):Int):=by show _=((1+l.size+r.size:Nat):Int);rfl
  rw[e];exact q
def KW(ks:List Y):Nat->Wd->Prop
 |p,.leaf t n=>ks[p]?=some (.tup [.str<|kL t,.str n])
 |p,.node e l r=>∃i j:Nat,ks[p]?=some (.tup [.str<|kN e,.int i,.int j])/\KW ks i l/\KW ks j r
theorem KW.more{ks:List Y}(ms:List Y):∀{wd:Wd} {p:Nat},KW ks p wd->KW (ks++ms) p wd
 |.leaf _ _,p,h=>by have I:ks[p]?=some _:=h;show(ks++ms)[p]?=some _;rw[AE (AL.mp I).1];exact I
 |.node _ _ _,p,⟨i,j,h,a,b⟩=>⟨i,j,by rw[AE (AL.mp h).1];exact h,KW.more ms a,KW.more ms b⟩
inductive w9(n:Nat)(ys:List Y)(L:qk)(Q:YK):Prop
 |mk:∀k ks p wd,(ys=[.ref k,.int ((p:Nat):Int)])->(L k=some (.lst ks))->(KW ks p wd)->(wd.depth<=n)->(Q (cA wd) L)->w9 n ys L Q
def wB:∀ys L Q,¬w9 0 ys L Q:=by rintro ys L Q ⟨k,J,p,I,_,_,_,hd,_⟩;cases I<;>simp[Wd.depth] at hd
def rf:∀ys L Q,¬w9 0 ys L Q:=wB
def uj(n:Nat):∀ys L Q,w9 (n+1) ys L Q->vd (kZ<|w9 n).1 3 ys L Q:=by
 rintro ys L Q ⟨k,J,p,U,rfl,I,h,hd,q⟩;cases U with
 |leaf t nm=>exact qb I<|qj (jx h)<|xa q
 |node e l r=>
  obtain⟨i,j,h,g,o⟩:=h;have C:max l.depth r.depth+1<=n+1:=hd;exact qb I<|qj (jx h) ⟨k,J,i,l,rfl,I,g,by lia,k,J,j,r,rfl,I,o,by lia,xa q⟩
def l_(l:Vk):Str:=⟨l.toArray⟩
def yE(x:Str):l_ x.cps.toList=x:=by cases x;rfl
def y8(J:kh):RR "_law_flip" kE 1 ["_law_word_here"] ["_law_word_here","_law_sides"] J (λ_=>True):=⟨_,λV B c _ _ I _ _ _ _ _ _ U hN g=>(qa (S_ 1 hN<|P0 [ ("plain" ,"turned") ,("turned" ,"plain") ,("both" ,"either") ,("either" ,"both") ] (iC cx cx<|iC cx cx<|iC cx cx<|iC cx cx NN) rfl rfl (List.cons_ne_nil _ _)<|Cp rfl)<|qa (zr (E_ g (L_ B.ba<|qv 0) qd) (qg<|zb<|zh<|v9 (I_ (qv 1)<|J_ 0)<|J_ 0) za)<|qg<|zb<|zh<|bQ (I_ (qv 1)<|J_ 0) (C_ I U<|xn<|J_ 0)<|C_ I U<|xn<|J_ 0)⟩
abbrev fQ(i:Int):xu:=yC<|.int i
abbrev f_(x:Str):xu:=yC<|.str x
abbrev fP(i:Nat)(n:Int):xu:=vg fM (qf i)<|yC<|.int n
abbrev rV(i:Nat):xu:=cI zN<|qo (qf i) jn
abbrev m_(a b:xu):lQ:=yB<|vg (h_ false) a b
abbrev Hg(a b:xu):lQ:=yB<|vg (h_ true) a b
abbrev Gi(a b:xu):xu:=aE<|qo a<|qo b jn
abbrev bL(a:xu):fS:=qo a jn
abbrev cB(a b:xu):fS:=qo a<|qo b jn
def Rm(I:kh)(p1:kh):a9:=(zm (am (m_ (rV 1)<|fQ 2) (zm (kj<|jP jt (qf 0)<|qo (xm I<|bL<|qf 1) jn)
 (zm (kj<|jP jt (qf 0)<|bL<|qf 1)
 (aY<|jT<|qo (aE<|qo (f_ "link")<|qo (vg xM (rV 0)<|fQ 2)<|qo (vg xM (rV 0)<|fQ 1) jn)<|qo (vg xM (rV 0)<|fQ 2)<|qo (vg xM (rV 0)<|fQ 1) jn))) wm)
 (zm (x8 (xm p1<|cB (qf 0)<|fP 1 1)<|qp 2)
 (zm (x8 (xm p1<|cB (qf 0)<|fP 1 2)<|qp 3)
 (zm (kj<|jP jt (qf 0)<|qo (aE<|qo (vg fM (xm I<|bL<|qf 1)<|fQ 0)<|cB (fP 2 1)<|fP 3 1) jn)
 (zm (kj<|jP jt (qf 0)<|qo (aE<|qo (fP 1 0)<|cB (fP 2 2)<|fP 3 2) jn)
 (zm (F7 4 5<|qo (vg xM (rV 0)<|fQ 2)<|qo (vg xM (rV 0)<|fQ 1) jn)
 (zm (x8 (FI (m_ (fP 1 0)<|f_ "either") (qf 4)<|qf 5)<|qp 6)
 (zm (x8 (FI (m_ (fP 1 0)<|f_ "either") (qf 5)<|qf 4)<|qp 7)
 (aY<|jT<|qo (aE<|qo (f_ "either")<|qo (qf 7)<|qo (aE<|qo (f_ "both")<|qo (qf 6)<|cB (fP 2 0)<|fP 3 0) jn)<|cB (qf 4)<|qf 5)))))))))
inductive Kn where
 |lf (t:Bool) (n:Str)|nd (e:Bool) (i j:Nat)
abbrev VG:=Option Kn
abbrev VE:=List Kn
def pF:Kn->Y
 |.lf t n=>.tup [.str<|kL t,.str n]
 |.nd e i j=>.tup [.str<|kN e,.int ((i:Nat):Int),.int ((j:Nat):Int)]
inductive Ru where
 |link (p q:Nat)|ei (r:Nat) (A:Ru)|bo (r:Nat) (A B:Ru)|cu (p q:Nat) (A B:Ru)
def j8:Ru->Y
 |.link p q=>.tup [.str "link",.int ((p:Nat):Int),.int ((q:Nat):Int)]
 |.ei r A=>.tup [.str "either",.int ((r:Nat):Int),j8 A]
 |.bo r A B=>.tup [.str "both",.int ((r:Nat):Int),j8 A,j8 B]
 |.cu p q A B=>.tup [.str "cut",.int ((p:Nat):Int),.int ((q:Nat):Int),j8 A,j8 B]
def z0:Ru->Vk
 |.link p q=>[p,q]
 |.ei r A=>r::z0 A
 |.bo r A B=>r::(z0 A++z0 B)
 |.cu _ _ A B=>z0 A++z0 B
abbrev vh(ks:VE):List Y:=ks.map pF
def cJ(ks:VE)(p:Nat)(w:Wd):Prop:=KW (vh ks) p w
theorem cJ.more{ks:VE}{w:Wd}(h:cJ ks p w)(ms:VE):cJ (ks++ms) p w:=by unfold cJ vh;rw[AI];exact KW.more _ h
def dR(ks:VE):Prop:=∀(p:Nat) (k:Kn),ks[p]?=some k->match k with
 |.lf _ n=>du n
 |.nd _ i j=>i<p/\j<p
def dR.snoc{ks:VE}{k:Kn}(h:dR ks)(I:match k with|.lf _ n=>du n|.nd _ i j=>i<ks.length/\j<ks.length):dR (ks++[k]):=by
 intro p J e;by_cases c:p<ks.length
 ·rw[AE c] at e;exact h p J e
 ·rw[AN (by exact F4)] at e;have U:p=ks.length:=by
   by_cases g:p-ks.length=0
   ·omega
   ·rw[BJ (by simp;exact FE)] at e;cases e
  subst U;rw[DN] at e;cases e;exact I
def dY(l:List α)(x:α)(r:List α):(l++x::r)[l.length]?=some x:=by rw[AN<|Ap _,DN];rfl
def ig{l r:List α}{x:α}(h:l[p]?=some x):(l++r)[p]?=some x:=by rw[AE (AL.mp h).1];exact h
inductive SR(ks:VE):Ru->Vk->Prop
 |link {p q:Nat} {t:Bool} {n:Str} {E:Vk}:p<q->ks[p]?=some (.lf t n)->ks[q]?=some (.lf (!t) n)->(∀x,x∈E↔x=p\/x=q)->E.Nodup->SR ks (.link p q) E
 |ei {r i j:Nat} {A:Ru} {EA E:Vk}:ks[r]?=some (.nd true i j)->SR ks A EA->i∈EA->j∈EA->i≠j->(∀x,x∈E↔(x∈EA/\x≠i/\x≠j)\/x=r)->E.Nodup->SR ks (.ei r A) E
 |bo {r i j:Nat} {A B:Ru} {EA EB E:Vk}:ks[r]?=some (.nd false i j)->SR ks A EA->SR ks B EB->i∈EA->j∈EB->(∀x,x∈E↔(x∈EA/\x≠i)\/(x∈EB/\x≠j)\/x=r)->E.Nodup->SR ks (.bo r A B) E
 |cu {p q:Nat} {A B:Ru} {EA EB E:Vk} {w:Wd}:SR ks A EA->SR ks B EB->p∈EA->q∈EB->cJ ks p w->cJ ks q w.turn->(∀x,x∈E↔(x∈EA/\x≠p)\/(x∈EB/\x≠q))->E.Nodup->SR ks (.cu p q A B) E
theorem SR.more{ks:VE}{R:Ru}{E:Vk}(h:SR ks R E)(ms:VE):SR (ks++ms) R E:=by induction h with|link h1 h2 h3 I J=>exact .link h1 (ig h2) (ig h3) I J|ei h1 _ h3 I J j l o=>exact .ei (ig h1) o h3 I J j l|bo h1 _ _ I J j l U g=>exact .bo (ig h1) U g I J j l|cu _ _ h3 I J j l p U g=>exact .cu U g h3 I (J.more ms) (j.more ms) l p
def SR.sub{ks:VE}{R:Ru}{E:Vk}(h:SR ks R E):∀x∈E,x∈z0 R:=by
 induction h with
 |link _ _ _ j _=>intro x I;rcases (j x).mp I with rfl|rfl<;>simp[z0]
 |ei _ _ _ _ _ g _ l=>intro x I;rcases (g x).mp I with⟨h,_⟩|rfl;exact Ab _<|l x h;exact Aj ..
 |bo _ _ _ _ _ g _ J U=>
  intro x I;rcases (g x).mp I with⟨h,_⟩|⟨h,_⟩|rfl
  ·exact Ab _<|Ao _<|J x h
  ·exact Ab _<|Ag _<|U x h
  ·exact Aj ..
 |cu _ _ _ _ _ _ o _ J U=>
  intro x I;rcases (o x).mp I with⟨h,_⟩|⟨h,_⟩
  ·exact Ao _<|J x h
  ·exact Ag _<|U x h
inductive aG(n:Nat)(ys:List Y)(L:qk)(Q:YK):Prop
 |mk:∀wd,(ys=[cA wd])->(wd.depth<=n)->(Q (cA wd.turn) L)->aG n ys L Q
def Rn:∀ys L Q,¬aG 0 ys L Q:=by rintro ys L Q ⟨I,_,hd,_⟩;cases I<;>simp[Wd.depth] at hd
def wZ(t:Bool):ve ([(("plain" : Str),("turned" : Str)),("turned","plain"),("both","either"),("either","both")].map λp=>((Sum.inr p.1:j9),Y.str p.2)) (Sum.inr<|kL t)=some (.str<|kL<|!t):=kJ<|zY t
def vG(t:Bool):ve ([(("plain" : Str),("turned" : Str)),("turned","plain"),("both","either"),("either","both")].map λp=>((Sum.inr p.1:j9),Y.str p.2)) (Sum.inr<|kN t)=some (.str<|kN<|!t):=kJ<|Rh t
def Ro(n:Nat):∀ys L Q,aG (n+1) ys L Q->vd (y8<|aG n).1 2 ys L Q:=by
 rintro ys L Q ⟨J,rfl,hd,q⟩;intro p I;cases J with
 |leaf t nm=>
  refine jd q9<|qj (wZ t) ?_;exact mV (By I) q
 |node e l r=>
  have U:max l.depth r.depth+1<=n+1:=hd;refine jd q9<|qj (vG e) ?_;refine⟨l,rfl,by lia,r,rfl,by lia,?_⟩;exact mV (By I) q
structure x_(ks:VE)(w:Wd)(ms:VE)(R:Ru)(tp sp:Nat):Prop where
 len:ms.length=2*w.size
 sr:SR (ks++ms) R [tp,sp]
 wt:cJ (ks++ms) tp w.turn
 ws:cJ (ks++ms) sp w
 tm:∀x,x∈z0 R↔ks.length<=x/\x<ks.length+ms.length
 nd:(z0 R).Nodup
 ok:dR (ks++ms)
def cJ.leaf{ks:VE}{n:Str}(h:ks[p]?=some (.lf t n)):cJ ks p (.leaf t n):=by show(vh ks)[p]?=_;rw[Au,h];rfl
def cJ.node{ks:VE}{e:Bool}{l r:Wd}(h:ks[p]?=some (.nd e i j))(I:cJ ks i l)(J:cJ ks j r):cJ ks p (.node e l r):=by refine⟨i,j,?_,I,J⟩;rw[Au,h];rfl
abbrev E4:=@cJ.node
def tH{ks:VE}(g:dR ks){n:Str}(I:du n):x_ ks (.leaf t n) [.lf (!t) n,.lf t n] (.link ks.length<|ks.length+1) ks.length (ks.length+1):=by
 have J:(ks++[Kn.lf (!t) n,.lf t n])[ks.length]?=some (.lf (!t) n):=dY _ _ _;have U:(ks++[Kn.lf (!t) n,.lf t n])[ks.length+1]?=some (.lf t n):=by have:=dY (ks++[Kn.lf (!t) n]) (Kn.lf t n) [];rw[Ad,Ar] at this;exact this
 refine⟨rfl,.link (t:=!t) (n:=n) (by exact BH _) J (by rw[Dt];exact U) (by simp) (by simp),cJ.leaf J,cJ.leaf U,λx=>?_,by simp[z0],?_⟩
 ·show x∈[ks.length,ks.length+1]↔ks.length<=x/\x<ks.length+2;simp;lia
 ·have:=(g.snoc (k:=.lf (!t) n) I).snoc (k:=.lf t n) I;rw[Ar] at this;exact this
def SR.nod{ks:VE}{R:Ru}{E:Vk}(h:SR ks R E):E.Nodup:=by cases h<;>assumption
def Rp{x h lo a r N:Nat}(I:(h=N/\lo=N+1)\/(h=N+1/\lo=N))(hN:N=a+m+r):x=h\/x=lo\/(a<=x/\x<a+m)\/a+m<=x/\x<a+m+r↔a<=x/\x<N+2:=by subst hN;rcases I with⟨rfl,rfl⟩|⟨rfl,rfl⟩<;>lia
def Rq{x a b c d N:Nat}(h:a≠b)(k:c≠d):x∈[b,d,N]↔(x∈[a,b]/\x≠a)\/(x∈[c,d]/\x≠c)\/x=N:=by simp only[Am,Bx,or_false];lia
def Rr{x a b c d N:Nat}(h:a≠b)(k:c≠d):x∈[a,c,N]↔(x∈[a,b]/\x≠b)\/(x∈[c,d]/\x≠d)\/x=N:=by simp only[Am,Bx,or_false];lia
def Rs{x a b N M:Nat}(h:a<N)(k:b<N):x∈[N,M]↔(x∈[a,b,N]/\x≠a/\x≠b)\/x=M:=by simp only[Am,Bx,or_false];lia
def Rt{x a b N M:Nat}(h:a<N)(k:b<N):x∈[M,N]↔(x∈[a,b,N]/\x≠a/\x≠b)\/x=M:=by simp only[Am,Bx,or_false];lia
def Jr{a b N:Nat}(h:a<N)(k:b<N)(d:a≠b):[a,b,N].Nodup:=by rw[Av,Av];simp;lia
def Rv{a r N t s u v:Nat}(I:a<=t/\t<a+m)(J:a<=s/\s<a+m)(b1:a+m<=u/\u<a+m+r)(b2:a+m<=v/\v<a+m+r)(hN:N=a+m+r):t<N/\s<N/\u<N/\v<N/\t≠u/\s≠v:=by lia
def Js{h lo a r N:Nat}(I:(h=N/\lo=N+1)\/(h=N+1/\lo=N))(hN:N=a+m+r):¬(h=lo\/(a<=h/\h<a+m)\/a+m<=h/\h<a+m+r)/\¬((a<=lo/\lo<a+m)\/a+m<=lo/\lo<a+m+r):=by lia
def Rw{x a r:Nat}(h1:a<=x/\x<a+m)(h2:a+m<=y/\y<a+m+r)(e:x=y):False:=by lia
def Rx{ks I g:VE}{e:Bool}{l r:Wd}{A B:Ru}{tl J tr U:Nat}(p:x_ ks l I A tl J)(o:x_ (ks++I) r g B tr U){N:Nat}(hN:N=ks.length+(I++g).length):
 x_ ks (.node e l r) (I++g++[.nd (!e) tl tr,.nd e J U]) (.ei (if e=true then N+1 else N)<|.bo (if e=true then N else N+1) A B) N (N+1):=by
 have hA:∀x∈[tl,J],ks.length<=x/\x<ks.length+I.length:=λx T=>(p.tm x).mp<|p.sr.sub x T;have hB:∀x∈[tr,U],ks.length+I.length<=x/\x<ks.length+I.length+g.length:=λx T=>by have:=(o.tm x).mp<|o.sr.sub x T;rw[Ad] at this;exact this
 have a1:=hA tl (by simp);have a2:=hA J (by simp);have b1:=hB tr (by simp);have b2:=hB U (by simp);have nA:tl≠J:=by have:=p.sr.nod;simpa using this
 have nB:tr≠U:=by have:=o.sr.nod;simpa using this
 have t:N=ks.length+I.length+g.length:=by rw[hN,Ad];simp +arith only
 obtain⟨d1,d2,d3,d4,d5,d6⟩:=Rv a1 a2 b1 b2 t;generalize j:ks++(I++g++[Kn.nd (!e) tl tr,.nd e J U])=K;have k1:K=(ks++I)++(g++[Kn.nd (!e) tl tr,.nd e J U]):=by rw[<-j];simp
 have k2:K=((ks++I)++g)++[Kn.nd (!e) tl tr,.nd e J U]:=by rw[<-j];simp
 have k3:K=(((ks++I)++g)++[Kn.nd (!e) tl tr])++[.nd e J U]:=by rw[<-j];simp
 have l2:((ks++I)++g).length=N:=by rw[Ad,Ad];lia
 have g1:K[N]?=some (.nd (!e) tl tr):=by rw[k2,<-l2];exact dY _ _ _
 have g2:K[N+1]?=some (.nd e J U):=by
  have l3:(((ks++I)++g)++[Kn.nd (!e) tl tr]).length=N+1:=by rw[Ad,l2];rfl
  rw[k3,<-l3];exact dY _ _ _
 have sA:SR K A [tl,J]:=by rw[k1];exact p.sr.more _
 have sB:SR K B [tr,U]:=by rw[k2];exact o.sr.more _
 have a3:dR K:=by have o1:=o.ok.snoc (k:=.nd (!e) tl tr) (by show tl<((ks++I)++g).length/\tr<((ks++I)++g).length;rw[l2];exact⟨d1,d3⟩);have o2:=o1.snoc (k:=.nd e J U) (by show J<_/\U<_;rw[Ad,l2];exact⟨BC d2,BC d4⟩);rw[k3];exact o2
 have tA:=p.tm;have tB:=o.tm;rw[Ad] at tB;have wt:cJ K N (Wd.node e l r).turn:=E4 g1 (by rw[k1];exact p.wt.more _) (by rw[k2];exact o.wt.more _);have a4:cJ K (N+1) (Wd.node e l r):=E4 g2 (by rw[k1];exact p.ws.more _) (by rw[k2];exact o.ws.more _);have C:(I++g++[Kn.nd (!e) tl tr,.nd e J U]).length=2*(Wd.node e l r).size:=by have h1:=p.len;have h2:=o.len;show _=2*(1+l.size+r.size);rw[Ad,Ad];simp;lia
 have lt:ks.length+(I++g++[Kn.nd (!e) tl tr,.nd e J U]).length=N+2:=by rw[Ad];simp[hN];rfl
 have tt:∀h lo:Nat,(h=N/\lo=N+1)\/(h=N+1/\lo=N)->(∀x,x∈z0 (.ei h<|.bo lo A B)↔ks.length<=x/\x<ks.length+(I++g++[Kn.nd (!e) tl tr,.nd e J U]).length)/\(z0<|.ei h<|.bo lo A B).Nodup:=by
  intro h lo hh;constructor
  ·intro x;rw[lt];show x∈h::lo::(z0 A++z0 B)↔_;rw[Am,Am,Ak,tA,tB];exact Rp hh t
  ·show(h::lo::(z0 A++z0 B)).Nodup;rw[Av,Av,Aq];refine⟨?_,?_,p.nd,o.nd,λx T y hy e=>?_⟩
   ·rw[Am,Ak,tA,tB];exact(Js hh t).1
   ·rw[Ak,tA,tB];exact(Js hh t).2
   ·exact Rw ((tA x).mp T) ((tB y).mp hy) e
 cases e with
 |true=>
  have s1:SR K (.bo N A B) [J,U,N]:=by exact .bo g1 sA sB (by simp) (by simp) (λx=>Rq nA nB)<|Jr d2 d4 d6
  have s2:SR K (.ei (N+1)<|.bo N A B) [N,N+1]:=by exact .ei g2 s1 (by simp) (by simp) d6 (λx=>Rs d2 d4) (by simp)
  obtain⟨t1,t2⟩:=tt (N+1) N<|.inr ⟨rfl,rfl⟩;exact⟨C,by rw[j];exact s2,by rw[j];exact wt,by rw[j];exact a4,t1,t2,by rw[j];exact a3⟩
 |false=>
  have s1:SR K (.bo (N+1) A B) [tl,tr,N+1]:=by exact .bo g2 sA sB (by simp) (by simp) (λx=>Rr nA nB)<|Jr (BC d1) (BC d3) d5
  have s2:SR K (.ei N<|.bo (N+1) A B) [N,N+1]:=by exact .ei g1 s1 (by simp) (by simp) d5 (λx=>Rt (BC d1)<|BC d3) (by simp)
  obtain⟨t1,t2⟩:=tt N (N+1)<|.inl ⟨rfl,rfl⟩;exact⟨C,by rw[j];exact s2,by rw[j];exact wt,by rw[j];exact a4,t1,t2,by rw[j];exact a3⟩
inductive vv(n:Nat)(ys:List Y)(L:qk)(Q:YK):Prop
 |mk:∀a,∀ks:VE,∀w:Wd,(ys=[.ref a,cA w])->(L a=some (.lst<|vh ks))->(w.depth<=n)->(n<=120)->(w.ok)->(dR ks)->(ks.length+2*w.size<=10000)->(∀ms R tp sp p,L p=none->x_ ks w ms R tp sp->Q (.ref p) (qi (qi L a<|.lst<|vh<|ks++ms) p<|.lst [j8 R,.int ((tp:Nat):Int),.int ((sp:Nat):Int)]))->vv n ys L Q
def yw:∀ys L Q,¬vv 0 ys L Q:=by rintro ys L Q ⟨a,J,I,_,_,hd,_⟩;cases I<;>simp[Wd.depth] at hd
def yP{a p:Addr}{o x y:LO}(J:L a=some o)(I:L p=none):qi (qi L a x) p y a=some x/\qi (qi L a x) p y p=some y/\∀b u,b≠a->L b=some u->qi (qi L a x) p y b=some u:=
 ⟨(qc<|aP J I).trans q9,q9,λ_ _ n e=>(qc<|aP e I).trans<|(qc n).trans e⟩
def tD{a p:Addr}{o x:LO}(J:L a=some o)(I:qi L a x p=none):L p=none:=by
 have:p≠a:=λe=>by rw[e,q9] at I;cases I
 rw[qc this] at I;exact I
def a_:∀m:Nat,m<=20000->m<sizeLine:=λm h=>Df h (by decide)
theorem Ry{FS:kh}(hF:∀ys L Q,aG 120 ys L Q->FS ys L Q)(n:Nat):∀ys L Q,vv (n+1) ys L Q->vd (Rm FS<|vv n) 8 ys L Q:=by
 rintro ys L Q ⟨a,I,w,rfl,ha,hd,hn,T,hk,hb,q⟩;have big:=a_;cases w with
 |leaf t nm=>
  have hb:I.length+2*1<=10000:=hb;refine qb ha (hF _ _ _ ⟨.leaf t nm,rfl,by exact BQ _,qr ha ⟨big _ (by rw[Af];lia),?_⟩⟩);refine qb q9 (qr q9 ⟨big _ (by rw[Ad,Af];simp;lia),?_⟩);rw[zq];obtain⟨W,j⟩:∃W,W=vh (I++[Kn.lf (!t) nm,.lf t nm]):=⟨_,rfl⟩;have e1:(vh I++[cA (Wd.leaf t nm).turn])++[cA<|.leaf t nm]=W:=by rw[j];unfold vh;rw[AI,Ar];rfl
  have e2:W.length=I.length+2:=by rw[j,Af,Ad];rfl
  have i1:((W.length:Nat):Int)-2=((I.length:Nat):Int):=by rw[e2];lia
  have i2:((W.length:Nat):Int)-1=((I.length+1:Nat):Int):=by rw[e2];lia
  have au:(vh I++[cA (Wd.leaf t nm).turn])++[.tup [.str<|kL t,.str nm]]=W:=e1
  first|rw[e1]|rw[au]
  refine qb q9<|qb q9<|qb q9<|qb q9 λp J=>?_;have np:L p=none:=tD ha J;have:=q _ _ _ _ p np<|tH hk T;rw[<-j] at this;show eQ Q (.ref p) (qi _ p<|.lst [.tup [.str "link",.int<|((W.length:Nat):Int)-2,.int<|((W.length:Nat):Int)-1],.int<|((W.length:Nat):Int)-2,.int<|((W.length:Nat):Int)-1]);rw[i1,i2];exact xa this
 |node e l r=>
  have ax:max l.depth r.depth+1<=n+1:=hd;have hb:I.length+2*(1+l.size+r.size)<=10000:=hb;refine⟨a,I,l,rfl,ha,by lia,by exact jI,T.1,hk,by lia,λU A tl sl p1 a5 ML=>?_⟩;obtain⟨g,g1,o1⟩:=yP (x:=.lst<|vh<|I++U) (y:=.lst [j8 A,.int ((tl:Nat):Int),.int ((sl:Nat):Int)]) ha a5;have ac:p1≠a:=AG<|aP ha a5;have aL:=ML.len;generalize qi (qi L a<|.lst<|vh<|I++U) p1 _=L1 at g g1 o1 ⊢;refine⟨a,I++U,r,rfl,g,by lia,by exact jI,T.2,ML.ok,by rw[Ad];lia,λC B tr sr p2 al MR=>?_⟩;obtain⟨a1,h2,o2⟩:=yP (x:=.lst<|vh<|(I++U)++C) (y:=.lst [j8 B,.int ((tr:Nat):Int),.int ((sr:Nat):Int)]) g al;have av:p2≠a:=AG<|aP g al;have h1:=o2 _ _ ac g1;have aR:=MR.len;generalize qi (qi L1 a<|.lst<|vh<|(I++U)++C) p2 _=L2 at a1 h1 h2 o2 ⊢;have ba:(vh<|(I++U)++C).length=I.length+U.length+C.length:=by rw[Af,Ad,Ad]
  refine qb a1 (hF _ _ _ ⟨.node e l r,rfl,by show max l.depth r.depth+1<=120;exact FC,qb h1<|qb h2<|qr a1 ⟨big _ (by lia),?_⟩⟩);have a2:=λo=>(qc (L:=L2) (o:=o) ac).trans h1;have a3:=λo=>(qc (L:=L2) (o:=o) av).trans h2;refine qb q9 (qb (a2 _) (qb (a3 _) (qr q9 ⟨big _ (by rw[Ad];simp;lia),?_⟩)));rw[zq];obtain⟨N,hN⟩:∃N,N=I.length+(U++C).length:=⟨_,rfl⟩;have M:=Rx (e:=e) ML MR hN;obtain⟨W,j⟩:∃W,W=vh (I++(U++C++[.nd (!e) tl tr,.nd e sl sr])):=⟨_,rfl⟩;have e1:(vh ((I++U)++C)++[.tup [.str<|kN<|!e,.int ((tl:Nat):Int),.int ((tr:Nat):Int)]])++[.tup [.str<|kN e,.int ((sl:Nat):Int),.int ((sr:Nat):Int)]]=W:=by rw[j];unfold vh;simp[pF]
  rw[e1];have lN:W.length=N+2:=by rw[j,Af,Ad,Ad,hN];simp;rfl
  have i1:((W.length:Nat):Int)-2=((N:Nat):Int):=by rw[lN];lia
  have i2:((W.length:Nat):Int)-1=((N+1:Nat):Int):=by rw[lN];lia
  refine qb q9<|qb q9 ?_;have done:∀p,qi L2 a (.lst W) p=none->∀R,x_ I (.node e l r) (U++C++[Kn.nd (!e) tl tr,.nd e sl sr]) R N (N+1)->
   eQ Q (.ref p) (qi (qi L2 a<|.lst W) p<|.lst [j8 R,.int ((N:Nat):Int),.int ((N+1:Nat):Int)]):=λp J R MM=>by
   have a4:p≠a:=λz=>by rw[z,q9] at J;cases J
   rw[qc a4] at J;have np:L p=none:=by cases z:L p with|none=>rfl|some o=>rw[o2 p o a4<|o1 p o a4 z] at J;cases J
   refine mV ?_<|q _ _ _ _ p np MM;rw[<-j];intro b o z;by_cases c1:b=p
   ·subst c1;rw[q9] at z ⊢;exact z
   ·rw[qc c1] at z ⊢;by_cases c2:b=a
    ·subst c2;rw[q9] at z ⊢;exact z
    ·rw[qc c2] at z ⊢;exact o2 b o c2<|o1 b o c2 z
  clear j e1;cases e with
  |true=>
   walk_at "w";refine qb (a2 _)<|qb (a3 _) λp J=>?_;show eQ Q (.ref p) (qi _ p<|.lst [.tup [.str "either",.int<|((W.length:Nat):Int)-1,.tup [.str "both",.int<|((W.length:Nat):Int)-2,j8 A,j8 B]],.int<|((W.length:Nat):Int)-2,.int<|((W.length:Nat):Int)-1]);rw[i1,i2];exact done p J _ M
  |false=>
   walk_at "w";refine qb (a2 _)<|qb (a3 _) λp J=>?_;show eQ Q (.ref p) (qi _ p<|.lst [.tup [.str "either",.int<|((W.length:Nat):Int)-2,.tup [.str "both",.int<|((W.length:Nat):Int)-1,j8 A,j8 B]],.int<|((W.length:Nat):Int)-2,.int<|((W.length:Nat):Int)-1]);rw[i1,i2];exact done p J _ M
end L3
variable {R:L3.Ru}{ks ms:List L3.Kn}{Z fu wd:List<|Option L3.Kn}
namespace L3
open PySem L2 Words
def Jt:RD "_law_join" lH 0 ["_law_knots","_law_forest","_law_one","_law_two","_law_first","_law_second","_law_left","_law_right","_law_ends"] (λ_=>True):=⟨_,λV B c _ _ _ _ _ _ _ I hN J=>(qa (S_ 4 hN<|cQ (qv 1)<|xn<|qm js (qv 3)<|L_ B.ba<|qv 1)<|qa (S_ 5 hN<|cQ (qv 1)<|xn<|qm js (qv 2)<|L_ B.ba<|qv 1)<|qa (bx (i:=6) hN rfl (Or.inr rfl)<|I_ (J_ 4)<|qm js (qm vf (qv 3) qd)<|L_ B.ba<|J_ 4)<|qa (bx (i:=7) hN rfl (Or.inr rfl)<|I_ (J_ 5)<|qm js (qm vf (qv 2) qd)<|L_ B.ba<|J_ 5)<|qa (zf<|ze (qv 0)<|xn<|zh<|bQ jv (qv 6)<|qv 7)<|qa (a8 ["_law_p"] (i:=8) hN rfl (Or.inl rfl) (E5 (by rfl)) rfl (wx<|qm ju (J_ 4)<|J_ 5) (xG 9) (λ_ _ _ _=>cg<|je (oI _ _ _) (qv 9) (zh<|v9 (qv 6)<|qv 7) (by with_unfolding_all rfl)) λ_ _ _ _=>(qv 9))<|qg<|zf<|ze (qv 1)<|xn<|jm<|v9 (zh<|jw jv<|bQ (qm cU (L_ B.ba<|qv 0) qd) (J_ 4)<|J_ 5)<|qm ju (qv 8)<|jm<|xn<|qm cU (L_ B.ba<|qv 0) qd)⟩
def xW:RD "_law_fold" kK 0 ["_law_knots","_law_tree_here","_law_one","_law_two","_law_left","_law_right"] (λ_=>True):=⟨_,λV B c _ _ _ _ _ _ _ I hN J=>(qa (zr (je pJ (L_ B.ba<|J_ 1) qd<|vn _) (qg rg) za)<|qa (S_ 4 hN<|cQ (J_ 1)<|xn<|qm js (qv 3)<|L_ B.ba<|J_ 1)<|qa (S_ 5 hN<|cQ (J_ 1)<|xn<|qm js (qv 2)<|L_ B.ba<|J_ 1)<|qa (zf<|ze (qv 0)<|xn<|zh<|bQ jv (qv 4)<|qv 5)<|qa (iD (qv 1) qd<|zh<|bQ jv (qm cU (L_ B.ba<|qv 0) qd)<|J_ 1)<|qg<|zf<|ze (J_ 1)<|xn<|qm cU (L_ B.ba<|qv 0) qd)⟩
theorem cO{ks:VE}:∀{w v:Wd} {p:Nat},cJ ks p w->cJ ks p v->w=v
 |.leaf t n,.leaf g C,p,h,k=>by
  have h:(vh ks)[p]?=some (.tup [.str<|kL t,.str n]):=h;have k:(vh ks)[p]?=some (.tup [.str<|kL g,.str C]):=k;rw[h] at k;injection k with k;injection k with k;injection k with J I;injection I with I _
  injection J with J;injection I with I
  have:t=g:=by cases t<;>cases g<;>first|rfl|(exfalso;revert J;decide +kernel)
  rw[this,I]
 |.leaf t n,.node e l r,p,h,k=>by obtain⟨i,j,k,_⟩:=k;have h:(vh ks)[p]?=some (.tup [.str<|kL t,.str n]):=h;rw[h] at k;injection k with k;injection k with k;injection k with _ k;injection k with _ k;cases k
 |.node e l r,.leaf t n,p,h,k=>by obtain⟨i,j,h,_⟩:=h;have k:(vh ks)[p]?=some (.tup [.str<|kL t,.str n]):=k;rw[h] at k;injection k with k;injection k with k;injection k with _ k;injection k with _ k;cases k
 |.node e l r,.node o l' r',p,⟨i,j,h,T,hr⟩,⟨i',j',k,kl,kr⟩=>by
  rw[h] at k;injection k with k;injection k with k;injection k with J I;injection I with I U;injection U with U _
  injection J with J;injection I with I;injection U with U
  have e1:i=i':=by lia
  have e2:j=j':=by lia
  subst e1 e2;have:e=o:=by cases e<;>cases o<;>first|rfl|(exfalso;revert J;decide +kernel)
  rw[this,cO (ks:=ks) T kl,cO (ks:=ks) hr kr]
theorem gN{ks:VE}(I:dR ks):∀(m p:Nat),p<m->p<ks.length->∃w,cJ ks p w/\w.depth<=p+1/\w.ok
 |0,p,h,_=>absurd h (by lia)
 |m+1,p,h,g=>by
  obtain⟨k,J⟩:∃k,ks[p]?=some k:=⟨_,Al g⟩;have U:=I p k J;cases k with
  |lf t n=>exact⟨.leaf t n,cJ.leaf J,by show 1<=p+1;exact BQ _,U⟩
  |nd e i j=>
   have U:i<p/\j<p:=U;obtain⟨l,o,T,C⟩:=gN I m i (by lia) (by omega);obtain⟨r,b1,b2,b3⟩:=gN I m j (by lia) (by lia);exact⟨.node e l r,E4 J o b1,by show max l.depth r.depth+1<=p+1;lia,C,b3⟩
def TV(v:Str->Bool):Wd->Bool
 |.leaf t n=>if t=true then !v n else v n
 |.node e l r=>if e=true then TV v l||TV v r else TV v l&&TV v r
theorem lZ(v:Str->Bool):∀w:Wd,TV v w.turn=!TV v w
 |.leaf t n=>by cases t<;>simp[Wd.turn,TV]
 |.node e l r=>by cases e<;>simp[Wd.turn,TV,lZ v l,lZ v r]
theorem SR.lt{E:Vk}(h:SR ks R E):∀x∈z0 R,x<ks.length:=by
 have lt:∀{p:Nat} {k:Kn},ks[p]?=some k->p<ks.length:=λh=>(AL.mp h).1
 induction h with
 |link _ h2 h3 _ _=>intro x I;simp[z0] at I;rcases I with rfl|rfl;exact lt h2;exact lt h3
 |ei h1 _ _ _ _ _ _ g=>intro x I;rcases Am.mp I with rfl|I;exact lt h1;exact g x I
 |bo h1 _ _ _ _ _ _ J U=>
  intro x I;rcases Am.mp I with rfl|I
  ·exact lt h1
  ·rcases Ak.mp I with I|I
   ·exact J x I
   ·exact U x I
 |cu _ _ _ _ _ _ _ _ J U=>
  intro x I;rcases Ak.mp I with I|I
  ·exact J x I
  ·exact U x I
theorem SR.tv(hk:dR ks)(v:Str->Bool){E:Vk}(h:SR ks R E):∃x∈E,∃w,cJ ks x w/\TV v w=true:=by
 have ex:∀{R':Ru} {E':Vk},SR ks R' E'->∀x∈E',∃w,cJ ks x w:=λs x U=>by obtain⟨w,hw,_⟩:=gN hk (x+1) x (by exact BH _)<|s.lt x<|s.sub x U;exact⟨w,hw⟩
 induction h with
 |@link p q t n E _ h2 h3 h4 _=>
  cases ht:TV v (.leaf t n) with
  |true=>exact⟨p,(h4 p).mpr<|.inl rfl,_,cJ.leaf h2,ht⟩
  |false=>
   refine⟨q,(h4 q).mpr<|.inr rfl,_,cJ.leaf h3,?_⟩;have:=lZ v<|.leaf t n;rw[ht] at this;exact this
 |@ei r i j A EA E h1 hA hi hj _ g _ ih=>
  obtain⟨x,U,w,hw,tv⟩:=ih;obtain⟨wi,l⟩:=ex hA i hi;obtain⟨wj,o⟩:=ex hA j hj;by_cases I:x=i
  ·subst I;rw[cO hw l] at tv;exact⟨r,(g r).mpr<|.inr rfl,_,E4 h1 l o,by simp[TV,tv]⟩
  ·by_cases J:x=j
   ·subst J;rw[cO hw o] at tv;exact⟨r,(g r).mpr<|.inr rfl,_,E4 h1 l o,by simp[TV,tv]⟩
   ·exact⟨x,(g x).mpr<|.inl ⟨U,I,J⟩,w,hw,tv⟩
 |@bo r i j A B EA EB E h1 hA hB hi hj g _ C T=>
  obtain⟨x,U,w,hw,tv⟩:=C;obtain⟨y,hy,u,hu,tu⟩:=T;by_cases I:x=i
  ·by_cases J:y=j
   ·subst I J;exact⟨r,(g r).mpr<|.inr<|.inr rfl,_,E4 h1 hw hu,by simp[TV,tv,tu]⟩
   ·exact⟨y,(g y).mpr<|.inr<|.inl ⟨hy,J⟩,u,hu,tu⟩
  ·exact⟨x,(g x).mpr<|.inl ⟨U,I⟩,w,hw,tv⟩
 |@cu p q A B EA EB E w0 hA hB hp hq a1 a2 h7 _ C T=>
  obtain⟨x,U,w,hw,tv⟩:=C;obtain⟨y,hy,u,hu,tu⟩:=T;by_cases I:x=p
  ·by_cases J:y=q
   ·subst I J;rw[cO hw a1] at tv;rw[cO hu a2,lZ,tv] at tu;cases tu
   ·exact⟨y,(h7 y).mpr<|.inr ⟨hy,J⟩,u,hu,tu⟩
  ·exact⟨x,(h7 x).mpr<|.inl ⟨U,I⟩,w,hw,tv⟩
def SR.ends(I:dR ks){E:Vk}(h:SR ks R E):0<E.length:=by obtain⟨x,J,_⟩:=h.tv I λ_=>true;exact Ew J
structure Tr where
 a:Addr
 b:Addr
 R:Ru
 E:Vk
abbrev VF:=List Tr
abbrev zx(E:Vk):List Y:=E.map λn:Nat=>Y.int (n:Int)
def Tr.ads(t:Tr):List Addr:=[t.a,t.b]
structure bw(L0 L:qk)(ka fa:Addr)(ks:VE)(fo:VF):Prop where
 hk:L ka=some (.lst<|vh ks)
 ht:∀t∈fo,L t.a=some (.lst [j8 t.R,.ref t.b])/\L t.b=some (.lst<|zx t.E)
 sr:∀t∈fo,SR ks t.R t.E
 nd:(fo.flatMap λt=>z0 t.R).Nodup
 tm:∀x,x∈(fo.flatMap λt=>z0 t.R)↔x<ks.length
 ad:(ka::fa::fo.flatMap Tr.ads).Nodup
 ok:dR ks
 sub:qh L0 L
 fr:∀x∈ka::fa::fo.flatMap Tr.ads,L0 x=none
def zp(fo:VF):List Y:=fo.map λt=>Y.ref t.a
structure om(L0 L:qk)(ka fa:Addr)(ks:VE)(fo:VF):Prop where
 b:bw L0 L ka fa ks fo
 hf:L fa=some (.lst<|zp fo)
def Fq:Ru->Prop
 |.link _ _=>True
 |.ei _ A=>Fq A
 |.bo _ A B=>Fq A/\Fq B
 |.cu _ _ _ _=>False
def Ju(ks:VE)(fo:VF)(I:VE)(fo':VF):Prop:=(∃ms:VE,I=ks++ms/\∀k∈ms,∃e i j,k=.nd e i j)/\((∀t∈fo,Fq t.R)->∀t∈fo',Fq t.R)
def bw.perm{fo fo':VF}(h:bw L0 L ka fa ks fo)(p:fo.Perm fo'):bw L0 L ka fa ks fo':=by have J:(fo.flatMap λt=>z0 t.R).Perm (fo'.flatMap λt=>z0 t.R):=p.flatMap_right _;have U:(fo.flatMap Tr.ads).Perm (fo'.flatMap Tr.ads):=p.flatMap_right _;refine⟨h.hk,λt I=>h.ht t<|p.mem_iff.mpr I,λt I=>h.sr t<|p.mem_iff.mpr I,J.nodup_iff.mp h.nd,λx=>by rw[<-J.mem_iff];exact h.tm x,((U.cons _).cons _).nodup_iff.mp h.ad,h.ok,h.sub,λx g=>h.fr x<|((U.cons _).cons _).mem_iff.mpr g⟩
end L3
variable {fo rest:List L3.Tr}
namespace L3
open PySem L2 Words
def u3:RD "_law_name" lI 0 ["_law_seed","_law_which","_law_letters","_law_size","_law_place","_law_base","_law_sign"] (λ_=>True):=⟨_,λV B c _ _ _ _ _ _ _ J hN I=>(qa (bx (i:=2) hN rfl (Or.inr rfl) jv)<|qa (S_ 3 hN<|qm ju qd<|qm js (qv 0) qd)<|qa (S_ 4 hN<|qm js (qm vf (qv 0) qd)<|qv 3)<|qa (S_ 5 hN<|Qh jv<|xn<|ID ["_law_k"] (E5 (by rfl)) rfl (wu rfl B.bh<|xn qd) (xG 7) (λ_ _ _ _=>PK) λ_ _ _ _=>(I_ (qv 2)<|qm js (qm ju (qm vf (qv 0) qd)<|qm iI qd<|qv 7) qd))<|qa (zr (E_ I (qm js (qm vf (qv 0) qd) qd) qd) (qg<|zb<|aC (qC _ _ _) (qv 5) bW<|aV<|qm ju qd<|qm js (qm ju (qv 1)<|qv 0) qd) za)<|qa (S_ 6 hN<|I_ (qv 2)<|qm js (qm ju (qm ju (qm vf (qv 0) qd)<|qm iI qd<|qv 4)<|qv 1) qd)<|qg<|zb<|qm ju (qm ju (aC (qC _ _ _) (qv 5) bW<|aV<|qv 4)<|qv 6)<|aC (qC _ _ _) (qv 5) (aV<|qm ju (qv 4) qd)<|aV<|qv 3)⟩
def dZ(i:Int):Nat:=97+(i % 26).toNat
def yU(i:Int):dW ("abcdefghijklmnopqrstuvwxyz" : Str).cps.toList (i % 26)=some (dZ i):=by
 obtain⟨n,I⟩:∃n:Nat,i % 26=n:=⟨(i % 26).toNat,by lia⟩;have h:n<26:=by lia
 unfold dZ;rw[I];have key:∀n,n<26->("abcdefghijklmnopqrstuvwxyz" : Str).cps.toList[n]?=some (97+n):=by decide +kernel
 exact jx<|key n h
def xV(i:Int):97<=dZ i/\dZ i<=122:=by unfold dZ;lia
def dO(s:Int):Vk:=(List.range 8).map λk:Nat=>dZ<|s / 64+3*(k:Int)
def mY(s:Int):(dO s).length=8:=by unfold dO;simp
def nj(s:Int):∀c∈dO s,97<=c/\c<=122:=λc I=>by obtain⟨k,_,rfl⟩:=BX.mp I;exact xV _
def pY(s:Int):Nat:=(s / 8 % (1+s % 8)).toNat
def szN(s:Int):Nat:=(1+s % 8).toNat
def Jv(s:Int):pY s<szN s/\szN s<=8/\s / 8 % (1+s % 8)=(pY s:Int)/\1+s % 8=(szN s:Int):=by
 have h0:0<1+s % 8:=by lia
 have h1:0<=s / 8 % (1+s % 8):=ED _ (by lia);have h2:s / 8 % (1+s % 8)<1+s % 8:=DV _ h0;unfold pY szN;lia
def a7(s w:Int):Vk:=
 if s / 64 % 3=1 then(dO s).take (1+(w+s) % 3).toNat
 else((dO s).take (pY s)++[dZ<|s / 64+3*(pY s:Int)+w])++((dO s).drop<|pY s+1).take (szN s-(pY s+1))
def sw(s w:Int):du (l_<|a7 s w):=by
 have I:(l_<|a7 s w).length=(a7 s w).length:=by rw[<-Txs.len_list];show(a7 s w).toArray.toList.length=_;simp
 have J:(l_<|a7 s w).cps.toList=a7 s w:=by show(a7 s w).toArray.toList=_;simp
 have U:=mY s;obtain⟨g,j,_,_⟩:=Jv s;refine⟨?_,?_,?_⟩
 ·rw[I];unfold a7;split
  ·rw[AZ];omega
  ·rw[Ad,Ad];simp;simp +arith only
 ·rw[I];unfold a7;split
  ·rw[AZ];omega
  ·rw[Ad,Ad,AZ,AZ,BF];simp;lia
 ·rw[J];intro c h;unfold a7 at h;split at h
  ·exact nj s c<|BN h
  ·rcases Ak.mp h with h|h
   ·rcases Ak.mp h with h|h
    ·exact nj s c<|BN h
    ·rw[An.mp h];exact xV _
   ·exact nj s c<|CT<|BN h
inductive iK(ys:List Y)(L:qk)(Q:YK):Prop
 |mk:∀s w:Int,(ys=[.int s,.int w])->(Q (.str<|l_<|a7 s w) L)->iK ys L Q
def zO(h:m<=n)(h2:n<=x.length):(Txt.slice x (some (m:Int))<|some (n:Int)).cps.toList=(x.cps.toList.drop m).take (n-m):=by have e:=pU x (some (m:Int))<|some (n:Int);rw[HT.sIx_nat,HT.sIx_nat,BO h2,BO<|AW h h2] at e;exact e
def qP(h:n<=x.length):(Txt.slice x none<|some (n:Int)).cps.toList=x.cps.toList.take n:=by have e:=pU x none<|some (n:Int);rw[HT.sIx_nat,HT.sIx_none,DS,Nat.sub_zero,BO h] at e;exact e
def Rz:∀ys L Q,iK ys L Q->vd u3.1 7 ys L Q:=by
 rintro ys L Q ⟨s,w,rfl,q⟩;have j:0<1+s % 8:=by lia
 refine⟨(by decide:(0:Int)<8),⟨by decide,by decide⟩,j,⟨by decide,by decide⟩,?_⟩;show i_ (ag 0 8) _ _ _ _ _ _ _ _;refine rM (m:=8) (λi zs=>zs=((List.range i).map λk:Nat=>Y.str ⟨#[dZ<|s / 64+3*(k:Int)]⟩)) (by decide) rfl ?_ ?_
 ·rintro i _ hi rfl;have I:=yU<|s / 64+3*(0+(i:Int));refine⟨⟨by decide,by decide⟩,.inl ⟨by decide,by decide⟩,(by decide:(0:Int)<26),by decide +kernel,?_⟩;walk_at "w";rw[I];refine⟨_,EK _,rfl,?_⟩;rw[List.range_succ,AI,show(0:Int)+(i:Int)=(i:Int) by simp +arith only];rfl
 ·rintro _ rfl p t;have e0:((List.range 8).map λk:Nat=>Y.str ⟨#[dZ<|s / 64+3*(k:Int)]⟩)=((dO s).map λc=>(⟨#[c]⟩:Str)).map Y.str:=by unfold dO;rw[Cu,Cu];rfl
  rw[e0];refine qr q9 ⟨(dO s).map λc=>(⟨#[c]⟩:Str),rfl,?_,?_⟩
  ·have J:∀U:Vk,((U.map λc=>(⟨#[c]⟩:Str)).map (·.length)).sum=U.length:=λU=>by induction U with|nil=>rfl|cons c r ih=>rw[AJ,AJ,EH,ih,AF];show 1+r.length=_;exact Nat.add_comm _ _
   rw[J,mY];show 8+_*0<=_;rw[Nat.mul_zero];decide
  ·have g:=Rk<|dO s;have l:(Txt.join ""<|(dO s).map λc=>(⟨#[c]⟩:Str)).length=8:=by rw[<-Txs.len_list,g,mY]
   generalize Txt.join "" ((dO s).map λc=>(⟨#[c]⟩:Str))=base at l g;obtain⟨p1,p2,o,C⟩:=Jv s;refine⟨⟨by decide,by decide⟩,(by decide:(0:Int)<3),?_⟩;refine zk (λc=>?_) λc=>?_
   ·have e:1+(w+s) % 3=((1+(w+s) % 3).toNat:Int):=by lia
    refine⟨(by decide:(0:Int)<3),dN (by lia),mV (By t) ?_⟩;have es:=qP (x:=base) (n:=(1+(w+s) % 3).toNat) (by lia);have eq:Txt.slice base none (some<|1+(w+s) % 3)=l_ (a7 s w):=by rw[e];refine(yE _).symm.trans ?_;rw[es,g];unfold a7;rw[AA c]
    rw[<-eq] at q;exact q
   ·have I:=yU<|s / 64+3*(s / 8 % (1+s % 8))+w;refine⟨⟨by decide,by decide⟩,.inl ⟨by decide,by decide⟩,(by decide:(0:Int)<26),by decide +kernel,?_⟩;walk_at "w";rw[I];have T:=qP (x:=base) (n:=pY s) (by lia);have s2:=zO (x:=base) (m:=pY s+1) (n:=szN s) (by assumption) (by lia);have l1:(Txt.slice base none<|some (pY s:Int)).length=pY s:=by rw[<-Txs.len_list,T,AZ,Txs.len_list];lia
    have l2:(Txt.slice base (some ((pY s+1:Nat):Int))<|some (szN s:Int)).length<=8:=by rw[<-Txs.len_list,s2,AZ];lia
    refine⟨dN (by lia),?_⟩;refine⟨dN (by rw[o,l1];show pY s+1<=1000;lia),?_⟩;refine⟨dN (by lia),?_⟩;have J:((pY s:Int)+1)=((pY s+1:Nat):Int):=by rfl
    have l3:(Txt.slice base none (some (pY s:Int))++(⟨#[dZ<|s / 64+3*(s / 8 % (1+s % 8))+w]⟩:Str)).length=pY s+1:=by rw[PySem.Str.length_append,l1];rfl
    refine⟨dN ?_,mV (By t) ?_⟩
    ·rw[o] at l3 ⊢;rw[l3,J,C];lia
    ·have eq:(Txt.slice base none (some (pY s:Int))++(⟨#[dZ<|s / 64+3*(pY s:Int)+w]⟩:Str))++Txt.slice base (some ((pY s+1:Nat):Int)) (some (szN s:Int))=l_ (a7 s w):=by
      refine(yE _).symm.trans ?_;have ca:∀a b:Str,(a++b).cps.toList=a.cps.toList++b.cps.toList:=λa b=>by show(a.cps++b.cps).toList=_;simp
      rw[ca,ca,T,s2,g];unfold a7;rw[Ay c]
     rw[o,J,C,eq];exact q
def RA(t t':Bool)(n I:Str):Da.eq (rL<|.leaf t n) (rL<|.leaf t' I)=(decide (t=t')&&decide (n=I)):=by
 by_cases h:n=I
 ·subst h;cases t<;>cases t'<;>simp[rL,Da.eq,Da.eqs,mW,kL]<;>decide +kernel
 ·cases t<;>cases t'<;>simp[rL,Da.eq,Da.eqs,mW,kL,h]<;>decide +kernel
theorem jX{α β:Type}(f:α->β):∀(l:List α) (n:Nat),(l.map f).eraseIdx n=(l.eraseIdx n).map f
 |[],n=>by simp
 |_::_,0=>rfl
 |x::r,n+1=>by rw[AJ,Dm,Dm,AJ,jX f r n]
theorem x4{α:Type}:∀{l:List α} {j:Nat} {x:α},l[j]?=some x->l.Perm (x::l.eraseIdx j)
 |[],_,_,h=>by simp at h
 |y::r,0,x,h=>by
  have:y=x:=by simpa using h
  subst this;exact .refl _
 |y::r,j+1,x,h=>by have I:=x4 (l:=r) (j:=j) (x:=x) (by simpa using h);rw[Dm];exact(I.cons y).trans (.swap _ _ _)
def oF(fo:VF)(j:Nat):(zp fo).eraseIdx j=zp (fo.eraseIdx j):=jX _ fo j
theorem qh.none(s:qh L L'){p:Addr}(h:L' p=none):L p=none:=by cases z:L p with|none=>rfl|some o=>rw[s _ _ z] at h;cases h
def bw.nkf(h:bw L0 L ka fa ks fo):ka≠fa:=by have ad:=h.ad;rw[Av] at ad;exactλe=>ad.1<|e▸Aj ..
def bw.nk(h:bw L0 L ka fa ks fo):∀t∈fo,t.a≠fa/\t.b≠fa/\t.a≠ka/\t.b≠ka:=λt I=>by have ad:=h.ad;rw[Av,Av] at ad;have J:t.a∈fo.flatMap Tr.ads:=Bh.mpr ⟨t,I,by simp[Tr.ads]⟩;have U:t.b∈fo.flatMap Tr.ads:=Bh.mpr ⟨t,I,by simp[Tr.ads]⟩;exact⟨λe=>ad.2.1<|e▸J,λe=>ad.2.1<|e▸U,λe=>ad.1<|Ab _<|e▸J,λe=>ad.1<|Ab _<|e▸U⟩
def bw.setF(h:bw L0 L ka fa ks fo)(o:LO):bw L0 (qi L fa o) ka fa ks fo:=by
 refine⟨by rw[qc h.nkf];exact h.hk,λt I=>?_,h.sr,h.nd,h.tm,h.ad,h.ok,λb u e=>?_,h.fr⟩
 ·obtain⟨J,U,_,_⟩:=h.nk t I;rw[qc J,qc U];exact h.ht t I
 ·have:b≠fa:=λz=>by rw[z,h.fr fa (by simp)] at e;cases e
  rw[qc this];exact h.sub _ _ e
def bw.mono(h:bw L0 L ka fa ks fo)(s:qh L L'):bw L0 L' ka fa ks fo:=
 ⟨s _ _ h.hk,λt I=>⟨s _ _ (h.ht t I).1,s _ _ (h.ht t I).2⟩,h.sr,h.nd,h.tm,h.ad,h.ok,h.sub.trans s,h.fr⟩
def bw.exs(h:bw L0 L ka fa ks fo):∀z∈fo.flatMap Tr.ads,∃o,L z=some o:=λz I=>by
 obtain⟨t,J,I⟩:=Bh.mp I;obtain⟨h1,h2⟩:=h.ht t J;have I:z=t.a\/z=t.b:=by simpa[Tr.ads] using I
 rcases I with rfl|rfl
 ·exact⟨_,h1⟩
 ·exact⟨_,h2⟩
def RB{l:List Addr}(nd:l.Nodup)(ex:∀z∈l,∃o,L z=some o)(U:L pa=none)(g:L pb=none)(ne:pa≠pb):(l++[pa,pb]).Nodup:=by
 rw[Aq];refine⟨nd,by simp[ne],λu j v J e=>?_⟩;subst e;obtain⟨o,I⟩:=ex u j;simp at J;rcases J with rfl|rfl
 ·rw[U] at I;cases I
 ·rw[g] at I;cases I
def bw.step{old:VF}{t':Tr}(h:bw L0 L ka fa ks<|old++rest)(l:L' ka=some (.lst<|vh<|ks++ms))(o:L' t'.a=some (.lst [j8 t'.R,.ref t'.b])/\L' t'.b=some (.lst<|zx t'.E))
 (keep:∀t∈rest,L' t.a=L t.a/\L' t.b=L t.b) (sub:qh L0 L') (ad:(ka::fa::(rest++[t']).flatMap Tr.ads).Nodup) (p:∀x∈t'.ads,L0 x=none) (ok:dR<|ks++ms) (r:SR (ks++ms) t'.R t'.E)
 (tp:(z0 t'.R).Perm<|List.range' ks.length ms.length++old.flatMap λt=>z0 t.R):bw L0 L' ka fa (ks++ms) (rest++[t']):=by
 have hnd:=h.nd;have U:=h.tm;rw[A7] at hnd;have j:((rest++[t']).flatMap λt=>z0 t.R)=(rest.flatMap λt=>z0 t.R)++z0 t'.R:=by rw[A7];simp
 have mem:∀x,x∈z0 t'.R↔(ks.length<=x/\x<ks.length+ms.length)\/x∈(old.flatMap λt=>z0 t.R):=λx=>by rw[tp.mem_iff,Ak,Du]
 refine⟨l,λt J=>?_,λt J=>?_,?_,λx=>?_,ad,ok,sub,λx I=>?_⟩
 ·rcases Ak.mp J with J|J
  ·obtain⟨C,T⟩:=keep t J;rw[C,T];exact h.ht t<|Ag _ J
  ·rw[An.mp J];exact o
 ·rcases Ak.mp J with J|J
  ·exact(h.sr t<|Ag _ J).more _
  ·rw[An.mp J];exact r
 ·rw[j,Aq];rw[Aq] at hnd;refine⟨hnd.2.1,tp.nodup_iff.mpr ?_,λx I y g e=>?_⟩
  ·rw[Aq];refine⟨Ec,hnd.1,λx I y g e=>?_⟩;have I:=Du.mp I;have g:=(U y).mp (by rw[A7];exact Ao _ g);lia
  ·subst e;rcases (mem x).mp g with g|g
   ·have:=(U x).mp (by rw[A7];exact Ag _ I);lia
   ·exact hnd.2.2 x g x I rfl
 ·rw[j,Ak,mem,Ad];have h1:=U x;rw[A7,Ak] at h1;constructor
  ·rintro(h2|h2|h2)
   ·have:=h1.mp<|.inr h2;exact H_
   ·lia
   ·have:=h1.mp<|.inl h2;lia
  ·intro h2;by_cases c:x<ks.length
   ·rcases h1.mpr c with h3|h3
    ·exact .inr<|.inr h3
    ·exact .inl h3
   ·exact .inr<|.inl (by lia)
 ·rcases Am.mp I with rfl|I
  ·exact h.fr _<|Aj ..
  ·rcases Am.mp I with rfl|I
   ·exact h.fr _<|Ab _<|Aj ..
   ·rw[A7] at I;rcases Ak.mp I with I|I
    ·exact h.fr _ (Ab _ (Ab _ (by rw[A7];exact Ag _ I)))
    ·exact p x (by simpa using I)
def bw.put{M:qk}{old:VF}{E:Vk}{fs:LO}(h:bw L0 L ka fa ks<|old++rest)(U:∀z o,z≠ka->L z=some o->M z=some o)(g:M ka=some (.lst<|vh<|ks++ms))(l:M fa=some fs)(na:M pa=none)(nb:M pb=none)(ne:pa≠pb)(s:qh M L')(p:L' pa=some (.lst [j8 R,.ref pb]))(r:L' pb=some (.lst<|zx E))
 (ok:dR<|ks++ms) (C:SR (ks++ms) R E) (tp:(z0 R).Perm<|List.range' ks.length ms.length++old.flatMap λt=>z0 t.R):bw L0 L' ka fa (ks++ms) (rest++[⟨pa,pb,R,E⟩]):=by
 have J:∀z o,L0 z=some o->M z=some o:=λz o e=>U _ _ (λw=>by rw[w,h.fr ka (by simp)] at e;cases e)<|h.sub _ _ e;have two:∀z,z∈(⟨pa,pb,R,E⟩:Tr).ads->M z=none:=λz I=>by
  have I:z=pa\/z=pb:=by simpa[Tr.ads] using I
  rcases I with rfl|rfl<;>assumption
 refine bw.step (old:=old) (t':=⟨pa,pb,R,E⟩) h (s _ _ g) ⟨p,r⟩ (λt j=>?_) (λz o e=>s _ _<|J z o e) ?_ (λz I=>?_) ok C tp
 ·obtain⟨_,_,T,n4⟩:=h.nk t<|Ag _ j;obtain⟨h1,h2⟩:=h.ht t<|Ag _ j;rw[h1,h2];exact⟨s _ _<|U _ _ T h1,s _ _<|U _ _ n4 h2⟩
 ·have ad:=h.ad;rw[A7] at ad;have:=RB (L:=M) ((((C2 ..).cons_cons _).cons_cons _).nodup ad) (λz I=>?_) na nb ne
  ·rw[A7];simpa[Tr.ads] using this
  ·rcases Am.mp I with rfl|I
   ·exact⟨_,g⟩
   rcases Am.mp I with rfl|I
   ·exact⟨_,l⟩
   obtain⟨o,e⟩:=h.exs z (by rw[A7];exact Ag _ I);exact⟨o,U _ _ (λw=>(Av.mp ad).1 (by rw[<-w];exact Ab _<|Ag _ I)) e⟩
 ·cases e:L0 z with|none=>rfl|some o=>have w:=J z o e;rw[two z I] at w;cases w
inductive mK(ys:List Y)(L:qk)(Q:YK):Prop
 |mk:∀L0 ka fa ks fo,∀one two:Int,(ys=[.ref ka,.ref fa,.int one,.int two])->(om L0 L ka fa ks fo)->(2<=fo.length)->(fo.length<=200)->(ks.length<=200)->(∀L' ks' fo',om L0 L' ka fa ks' fo'->ks'.length=ks.length+1->fo'.length+1=fo.length->Ju ks fo ks' fo'->Q .non L')->mK ys L Q
def jU{l:List α}(h:0<l.length)(k:Int):∃(j:Nat) (x:α),k % (l.length:Int)=(j:Int)/\j<l.length/\l[j]?=some x:=by have h0:0<=k % (l.length:Int):=ED _ (by lia);have h1:k % (l.length:Int)<(l.length:Int):=DV _ (by omega);refine⟨(k % (l.length:Int)).toNat,l[(k % (l.length:Int)).toNat]'(by lia),by lia,by lia,Al (by lia)⟩
theorem kq:∀(n:Nat) (l:Vk),l.Nodup->(∀x∈l,x<n)->l.length<=n
 |0,l,_,h=>by cases l with|nil=>exact Ap _|cons x r=>exact absurd (h x<|Aj ..) (by lia)
 |n+1,l,nd,h=>by
  by_cases c:n∈l
  ·have p:=List.perm_cons_erase c;have J:=kq n (l.erase n) (nd.erase n) λx I=>by have:=(List.Nodup.mem_erase_iff nd).mp I;have:=h x this.2;lia
   rw[p.length_eq,AF];exact GP
  ·exact BV (kq n l nd λx I=>by have:=h x I;have:x≠n:=λe=>c<|e▸I;lia)
def bF(h:bw L0 L ka fa ks fo){t:Tr}(I:t∈fo):0<t.E.length/\t.E.length<=ks.length:=by have s:=h.sr t I;exact⟨s.ends h.ok,kq _ _ s.nod λx J=>s.lt x<|s.sub x J⟩
def bV(x l r:Nat):sQ (fW<|.int (x:Int)) (([.int (l:Int),.int (r:Int)]:List Y).map fW)=decide (x=l\/x=r):=by
 show(mW (.int (l:Int)) (.int (x:Int))||(mW (.int (r:Int)) (.int (x:Int))||false))=_;have e:∀a b:Nat,mW (.int (a:Int)) (.int (b:Int))=decide (b=a):=λa b=>by
  show decide ((a:Int)=(b:Int))=decide (b=a);by_cases c:b=a
  ·subst c;simp
  ·rw[AD c];apply AD;lia
 rw[e,e];by_cases h1:x=l<;>by_cases h2:x=r<;>simp[h1,h2]
def gc{E:Vk}(h:0<E.length)(k:Int):∃x,x∈E/\dW (zx E) (k % ((zx E).length:Int))=some (.int ((x:Nat):Int)):=by obtain⟨j,x,I,J,ex⟩:=jU h k;refine⟨x,Az ex,?_⟩;rw[Af,I];exact jx (by rw[Au,ex];rfl)
def kg(E1 E2:Vk)(l r:Nat):Vk:=(E1++E2).filter λx=>!decide (x=l\/x=r)
def Jw{U:Addr}{E:Vk}{l r k:Nat}{Q:YK}{tc:lQ}(C:L U=some (.lst<|zx E))(I:E.length<=1000)
 (T:∀y (g:Bool->qk->Prop),ip true y (.tup [.int (l:Int),.int (r:Int)]) L (λx L'=>match x with|.bl c=>g c L'|_=>False)->tc (dm (τ++List.replicate 1 none) k y) L g)
 (hv:∀y,D_ (dm (τ++List.replicate 1 none) k y) k=some y)
 (hq:∀p,L p=none->Q (.ref p) (qi L p<|.lst<|zx<|E.filter λx=>!decide (x=l\/x=r))):
 tV L U λys keep L2=>i_ ys keep 1 (qp k) tc (qf k) τ L2 Q:=by
 refine wb C λkeep kp=>iw (λj zs=>zs=zx ((E.take j).filter λx=>!decide (x=l\/x=r))) (by rw[Af];exact pV I) (kp L rfl) rfl ?_ ?_
 ·rintro j y _ o rfl;obtain⟨x,ex,rfl⟩:∃x:Nat,E[j]?=some x/\y=Y.int (x:Int):=by rw[Au] at o;obtain⟨x,e1,e2⟩:=AB.mp o;exact⟨x,e1,e2.symm⟩
  refine T _ _ ⟨rfl,rfl,?_⟩;rw[bV];show we (!decide (x=l\/x=r)) _ _;have t:(E.take<|j+1).filter (λx=>!decide (x=l\/x=r))=(E.take j).filter (λx=>!decide (x=l\/x=r))++[x].filter (λx=>!decide (x=l\/x=r)):=by rw[Bm,ex,Br];rfl
  by_cases c:x=l\/x=r
  ·refine dC (by rw[AK c];rfl) ?_;refine Ir ⟨rfl,?_⟩;rw[t,B8 (by simp[c]),B4,AC]
  ·refine iu (by rw[AD c];rfl) ?_;unfold qf;rw[hv];refine Ir ⟨rfl,?_⟩;rw[t,B9 (by simp[c]),B4];unfold zx;rw[AI];rfl
 ·rintro _ rfl p J;rw[Af,Bz];exact hq p J
def vS{k:Int}(U:L fa=some (.lst<|zp fo))(h:0<fo.length):∃(j:Nat) (t:Tr),fo[j]?=some t/\0<=k % ((zp fo).length:Int)/\k % ((zp fo).length:Int)<((zp fo).length:Int)/\
 (zp fo)[(k % ((zp fo).length:Int)).toNat]?=some (.ref t.a)/\qi L fa (.lst<|(zp fo).eraseIdx (k % ((zp fo).length:Int)).toNat) fa=some (.lst<|zp<|fo.eraseIdx j):=by
 obtain⟨j,t,J,g,I⟩:=jU h k;have e:(zp fo).length=fo.length:=Af ..;rw[e,J];refine⟨j,t,I,by exact A3 _,by lia,?_,?_⟩
 ·show(zp fo)[j]?=_;unfold zp;rw[Au,I];rfl
 ·rw[q9];show some (LO.lst<|(zp fo).eraseIdx j)=_;rw[oF]
def bw.two{t1 t2:Tr}(h:bw L0 L ka fa ks<|t1::t2::rest):∀x,x∈z0 t1.R->x∈z0 t2.R->False:=by intro x h1 h2;have nd:=h.nd;rw[Bq,Bq,Aq] at nd;exact nd.2.2 x h1 x (Ao _ h2) rfl
def xR{E1 E2:Vk}{l r:Nat}(I:l∉E2)(J:r∉E1)(x:Nat):x∈kg E1 E2 l r↔(x∈E1/\x≠l)\/(x∈E2/\x≠r):=by
 unfold kg;rw[AH,Ak];constructor
 ·rintro⟨h,c⟩;have c:¬(x=l\/x=r):=by simpa using c
  rcases h with h|h
  ·exact .inl ⟨h,λe=>c<|.inl e⟩
  ·exact .inr ⟨h,λe=>c<|.inr e⟩
 ·rintro(⟨h,c⟩|⟨h,c⟩)
  ·refine⟨.inl h,?_⟩;have:x≠r:=λe=>J<|e▸h;simp[c,this]
  ·refine⟨.inr h,?_⟩;have:x≠l:=λe=>I<|e▸h;simp[c,this]
def yf{E1 E2:Vk}{l r:Nat}(h1:E1.Nodup)(h2:E2.Nodup)(d:∀x,x∈E1->x∈E2->False):(kg E1 E2 l r).Nodup:=by
 unfold kg;have h:(E1++E2).Nodup:=by rw[Aq];exact⟨h1,h2,λx I y J e=>d x I<|e▸J⟩
 exact List.Pairwise.filter _ h
def jH(a b:Vk):zx (a++b)=zx a++zx b:=AI
def gM(a:VF)(t:Tr):zp (a++[t])=zp a++[.ref t.a]:=AI
theorem RC:∀ys L Q,mK ys L Q->vd Jt.1 9 ys L Q:=by
 rintro ys L Q ⟨L0,ka,fa,j,fo,one,two,rfl,F,h2,bS,bh,q⟩;have big:=a_;have p:∀fo:VF,(zp fo).length=fo.length:=λfo=>Af ..;have U:∀E:Vk,(zx E).length=E.length:=λE=>Af ..;obtain⟨j1,I,bi,a1,a2,a3,g⟩:=vS (k:=two) F.hf (by exact jI);have p1:=x4 bi;refine qb F.hf (qb F.hf ⟨(by show(0:Int)<((zp fo).length:Int);rw[p];lia),qr F.hf ⟨a1,a2,qj a3 ?_⟩⟩);have B:=(F.b.perm p1).setF<|.lst<|(zp fo).eraseIdx (two % ((zp fo).length:Int)).toNat;generalize qi L fa _=L1 at g B ⊢;have l1:=p1.length_eq;generalize fo.eraseIdx j1=T at l1 g B p1 ⊢;rw[AF] at l1;obtain⟨j2,J,bj,b1,b2,b3,au⟩:=vS (k:=one) g (by lia);have p2:=x4 bj;refine qb g (qb g ⟨(by show(0:Int)<((zp T).length:Int);rw[p];lia),qr g ⟨b1,b2,qj b3 ?_⟩⟩);replace B:=(B.perm<|p2.cons _).setF<|.lst<|(zp T).eraseIdx (one % ((zp T).length:Int)).toNat;generalize qi L1 fa _=L2 at au B ⊢;have l2:=p2.length_eq;have bb:=p1.trans<|p2.cons _;generalize T.eraseIdx j2=rest at l2 au B bb ⊢;rw[AF] at l2;clear g a1 a2 a3 b1 b2 b3 p1 p2;have m1:I∈I::J::rest:=by simp
 have m2:J∈I::J::rest:=by simp
 obtain⟨a4,av⟩:=B.ht I m1;obtain⟨a5,ax⟩:=B.ht J m2;obtain⟨_,_,n1,n2⟩:=B.nk I m1;obtain⟨_,_,n3,n4⟩:=B.nk J m2;have bn:=bF B m1;have bp:=bF B m2;obtain⟨x,hx,ex⟩:=gc bn.1<|two / 64;obtain⟨y,hy,ey⟩:=gc bp.1<|one / 64;refine qb a4 ⟨⟨by decide,by decide⟩,qb a4 (qb av ⟨(by show(0:Int)<((zx I.E).length:Int);rw[U];omega),qb av<|qj ex ?_⟩)⟩;refine qb a5 ⟨⟨by decide,by decide⟩,qb a5 (qb ax ⟨(by show(0:Int)<((zx J.E).length:Int);rw[U];omega),qb ax<|qj ey ?_⟩)⟩;refine qb B.hk (qr B.hk ⟨big _ (by rw[Af];exact FD),?_⟩);have ek:vh j++[.tup [.str "both",.int ((x:Nat):Int),.int ((y:Nat):Int)]]=vh (j++[.nd false x y]):=by unfold vh;rw[AI];rfl
 rw[ek];have k3:∀z o,z≠ka->L2 z=some o->qi L2 ka (.lst<|vh<|j++[.nd false x y]) z=some o:=λz o n e=>(qc n).trans e;have bc:qi L2 ka (.lst<|vh<|j++[.nd false x y]) ka=some (.lst<|vh<|j++[.nd false x y]):=q9;generalize qi L2 ka _=L3 at bc k3 ⊢;refine qb (k3 _ _ n1 a4) (qb (k3 _ _ n3 a5) ⟨_,_,k3 _ _ n2 av,k3 _ _ n4 ax,dN (by rw[U,U];lia),λpp bd=>?_⟩);rw[<-jH];refine Jw (E:=I.E++J.E) (l:=x) (r:=y) (k:=9) q9 (by rw[Ad];lia) (λy' Q' h=>h) (λ_=>rfl) λpe bf=>?_;generalize hL:qi (qi L3 pp _) pe _=L4;have s4:qh L3 L4:=by rw[<-hL];exact(By bd).trans (By bf)
 have bq:L4 pe=some (.lst<|zx<|kg I.E J.E x y):=by rw[<-hL];exact q9
 clear hL bd bf;have k4:∀z o,z≠ka->L2 z=some o->L4 z=some o:=λz o n e=>s4 _ _<|k3 z o n e;have aL:=s4 _ _ bc;have aR:=k4 _ _ (AG B.nkf) au;have nn:(((vh<|j++[.nd false x y]).length:Nat):Int)-1=((j.length:Nat):Int):=by rw[Af,Ad];simp
 have lb:(kg I.E J.E x y).length<=(I.E++J.E).length:=B6 ..;rw[Ad] at lb;refine qb aR<|qb aL<|qb (k4 _ _ n1 a4)<|qb (k4 _ _ n3 a5)<|qb aL λpn C=>?_;refine⟨_,_,By C _ _ bq,q9,dN (by rw[U];show _+1<=1000;lia),λpb ac pa al=>?_⟩;have bg:pb≠pa:=aP q9 al;have nb:=(By C).none ac;have na:=((By C).trans<|By ac).none al;generalize hL:qi (qi (qi L4 pn _) pb _) pa _=L7;have s7:qh L4 L7:=by rw[<-hL];exact((By C).trans<|By ac).trans (By al)
 have ea:L7 pa=some (.lst [j8<|.bo j.length I.R J.R,.ref pb]):=by rw[<-hL,q9];dsimp only;rw[nn];rfl
 have eb:L7 pb=some (.lst<|zx<|kg I.E J.E x y++[j.length]):=by rw[<-hL,qc bg,q9];dsimp only;rw[nn,jH];rfl
 clear hL C ac al;refine qr (s7 _ _ aR) ⟨big _ (by rw[p];lia),?_⟩;have s1:=B.sr I m1;have s2:=B.sr J m2;have ba:∀z,z∈I.E->z∈J.E->False:=λz h1 h2=>B.two z (s1.sub z h1)<|s2.sub z h2;have bm:=xR (E1:=I.E) (E2:=J.E) (λh=>ba x hx h) λh=>ba y h hy;refine xa (q _ (j++[.nd false x y]) (rest++[⟨pa,pb,.bo j.length I.R J.R,kg I.E J.E x y++[j.length]⟩]) ⟨(bw.put (old:=[I,J]) B k4 aL aR na nb (AG bg) s7 ea eb (B.ok.snoc ⟨s1.lt x<|s1.sub x hx,s2.lt y<|s2.sub y hy⟩) (.bo (dY _ _ _) (s1.more _) (s2.more _) hx hy (λz=>?_) ?_) ?_).setF _,by rw[q9,gM]⟩ (by rw[Ad];rfl) (by rw[Ad];simp;lia) ⟨⟨_,rfl,λk hk=>⟨_,_,_,An.mp hk⟩⟩,λh t ht=>?_⟩)
 ·rw[Ak,bm,An,or_assoc]
 ·rw[Aq];refine⟨yf s1.nod s2.nod ba,by simp,λu hu v hv e=>?_⟩;rw[An.mp hv] at e;rcases (bm u).mp hu with⟨h,_⟩|⟨h,_⟩
  ·have:=s1.lt u<|s1.sub u h;lia
  ·have:=s2.lt u<|s2.sub u h;lia
 ·show(j.length::(z0 I.R++z0 J.R)).Perm (List.range' j.length 1++([I,J].flatMap λt=>z0 t.R));simp[Eo]
 ·have h':∀u∈I::J::rest,Fq u.R:=λu hu=>h u<|bb.mem_iff.mpr hu;rcases Ak.mp ht with ht|ht
  ·exact h' t<|Ab _<|Ab _ ht
  ·rw[An.mp ht];exact⟨h' I m1,h' J m2⟩
def uD{E:Vk}{k:Int}(h:0<E.length):∃(j x:Nat),E[j]?=some x/\0<=k % ((zx E).length:Int)/\k % ((zx E).length:Int)<((zx E).length:Int)/\
 (zx E)[(k % ((zx E).length:Int)).toNat]?=some (.int ((x:Nat):Int))/\(zx E).eraseIdx (k % ((zx E).length:Int)).toNat=zx (E.eraseIdx j):=by
 obtain⟨j,x,J,U,I⟩:=jU h k;have e:(zx E).length=E.length:=Af ..;rw[e,J];refine⟨j,x,I,by exact A3 _,by lia,?_,?_⟩
 ·show(zx E)[j]?=_;rw[Au,I];rfl
 ·exact jX _ E j
def Hh{a:Addr}{o:LO}:∀z u,z≠a->L z=some u->qi L a o z=some u:=λz u n e=>(qc n).trans e
inductive hJ(ys:List Y)(L:qk)(Q:YK):Prop
 |mk:∀L0 ka fa ks,∀pre post:VF,∀t:Tr,∀one two:Int,(ys=[.ref ka,.ref t.a,.int one,.int two])->(om L0 L ka fa ks<|pre++t::post)->(ks.length<=200)->(∀L' ks' fo',om L0 L' ka fa ks' fo'->ks'.length<=ks.length+1->fo'.length=(pre++t::post).length->Ju ks (pre++t::post) ks' fo'->Q .non L')->hJ ys L Q
theorem RE:∀ys L Q,hJ ys L Q->vd xW.1 6 ys L Q:=by
 rintro ys L Q ⟨L0,T,fa,I,pre,post,t,one,two,rfl,F,bc,q⟩;have big:=a_;have mt:t∈pre++t::post:=by simp
 have B:=F.b;obtain⟨ta,tb⟩:=B.ht t mt;have le:=bF B mt;have s:=B.sr t mt;have U:∀E:Vk,(zx E).length=E.length:=λE=>Af ..;refine qb ta<|qb tb ?_;refine zk (λc=>?_) λc=>?_
 ·exact xa<|q L I _ F (CS _) rfl ⟨⟨[],(AC _).symm,λk hk=>by cases hk⟩,λh=>h⟩
 have c:¬(((zx t.E).length:Int)<2):=c;rw[U] at c;have ad:=B.ad;have nkf:=B.nkf;have nk:=B.nk;have r:t.a≠t.b:=by rw[Av,Av,A7,Bq,Aq,Aq] at ad;have:=ad.2.2.2.1.1;simpa[Tr.ads] using this
 obtain⟨C,x,e1,a1,a2,a3,a4⟩:=uD (k:=two) le.1;refine qb ta (qb tb (qb ta (qb tb ⟨(by show(0:Int)<((zx t.E).length:Int);rw[U];omega),qr tb ⟨a1,a2,qj a3 ?_⟩⟩)));rw[a4];have bg:(t.E.eraseIdx C).length+1=t.E.length:=by have:=(x4 e1).length_eq;rw[AF] at this;lia
 have ac:qi L t.b (.lst<|zx<|t.E.eraseIdx C) t.a=some (.lst [j8 t.R,.ref t.b]):=by rw[qc r];exact ta
 obtain⟨j2,y,e2,b1,b2,b3,b4⟩:=uD (E:=t.E.eraseIdx C) (k:=one) (by lia);refine qb ac (qb q9 (qb ac (qb q9 ⟨(by show(0:Int)<((zx<|t.E.eraseIdx C).length:Int);rw[U];omega),qr q9 ⟨b1,b2,qj b3 ?_⟩⟩)));rw[b4,zq];have bd:((t.E.eraseIdx C).eraseIdx j2).length+1=(t.E.eraseIdx C).length:=by have:=(x4 e2).length_eq;rw[AF] at this;lia
 have pE:t.E.Perm (x::y::(t.E.eraseIdx C).eraseIdx j2):=(x4 e1).trans<|(x4 e2).cons _;generalize (t.E.eraseIdx C).eraseIdx j2=j at bd pE;have nt:=nk t mt;have k1:=Hh (L:=L) (a:=t.b) (o:=.lst<|zx j);have al:qi L t.b (.lst<|zx j) t.b=some (.lst<|zx j):=q9;generalize qi L t.b _=L1 at k1 al ⊢;have au:=k1 _ _ (AG nt.2.2.2) B.hk;refine qb au (qr au ⟨big _ (by rw[Af];exact FD),?_⟩);have ek:vh I++[.tup [.str "either",.int ((x:Nat):Int),.int ((y:Nat):Int)]]=vh (I++[.nd true x y]):=by unfold vh;rw[AI];rfl
 rw[ek];have nn:(((vh<|I++[.nd true x y]).length:Nat):Int)-1=((I.length:Nat):Int):=by rw[Af,Ad];simp
 have k2:=Hh (L:=L1) (a:=T) (o:=.lst<|vh<|I++[.nd true x y]);have a5:qi L1 T (.lst<|vh<|I++[.nd true x y]) T=some (.lst<|vh<|I++[.nd true x y]):=q9;generalize qi L1 T _=L2 at k2 a5 ⊢;have av:=k2 _ _ nt.2.2.1<|k1 _ _ r ta;refine qb a5<|qb av<|qr av<|qj (v:=0) rfl ?_;generalize hL:qi L2 t.a _=L3;have ax:L3 t.a=some (.lst [j8<|.ei I.length t.R,.ref t.b]):=by rw[<-hL,q9];dsimp only;rw[nn];rfl
 have k3:∀z o,z≠t.a->L2 z=some o->L3 z=some o:=by rw[<-hL];exact Hh
 clear hL;have aL:=k3 _ _ (AG nt.2.2.1) a5;have aR:=k3 _ _ (AG r)<|k2 _ _ nt.2.2.2 al;have g:∀b u,b≠t.a->b≠t.b->b≠T->L b=some u->L3 b=some u:=λb u n1 n2 n3 e=>k3 _ _ n1<|k2 _ _ n3<|k1 _ _ n2 e;refine qb ax (qb aR (qb aL (qr aR ⟨big _ (by rw[U];lia),?_⟩)));have en:zx j++[.int<|(((vh<|I++[.nd true x y]).length:Nat):Int)-1]=zx (j++[I.length]):=by rw[nn];unfold zx;rw[AI];rfl
 have l:=pE.nodup_iff.mp s.nod;rw[Av,Av] at l;have hx:x∈t.E:=pE.mem_iff.mpr (by simp);have hy:y∈t.E:=pE.mem_iff.mpr (by simp);have bf:∀u∈pre++post,u.a≠t.a/\u.a≠t.b/\u.b≠t.a/\u.b≠t.b:=λu J=>by have p:(pre++t::post).Perm (t::(pre++post)):=Ci;have ba:=(p.flatMap_right Tr.ads).nodup_iff.mp (by rw[Av,Av] at ad;exact ad.2.2);rw[Bq,Aq] at ba;have k:=ba.2.2;have ma:u.a∈(pre++post).flatMap Tr.ads:=Bh.mpr ⟨u,J,by simp[Tr.ads]⟩;have mb:u.b∈(pre++post).flatMap Tr.ads:=Bh.mpr ⟨u,J,by simp[Tr.ads]⟩;exact⟨λe=>k t.a (by simp[Tr.ads]) u.a ma e.symm,λe=>k t.b (by simp[Tr.ads]) u.a ma e.symm,λe=>k t.a (by simp[Tr.ads]) u.b mb e.symm,λe=>k t.b (by simp[Tr.ads]) u.b mb e.symm⟩
 refine xa (q _ (I++[.nd true x y]) (pre++⟨t.a,t.b,.ei I.length t.R,j++[I.length]⟩::post) ⟨?_,?_⟩ (by rw[Ad];exact Ap _) (by simp) ⟨⟨_,rfl,λk hk=>⟨_,_,_,An.mp hk⟩⟩,λh u J=>?_⟩)
 rotate_right
 ·rcases Ak.mp J with J|J
  ·exact h u<|Ao _ J
  ·rcases Am.mp J with rfl|J
   ·exact h t mt
   ·exact h u<|Ag _<|Ab _ J
 ·have B':=B.perm (fo':=[t]++(pre++post)) Ci;have st:=bw.step (old:=[t]) (rest:=pre++post) (t':=⟨t.a,t.b,.ei I.length t.R,j++[I.length]⟩) (ms:=[.nd true x y]) (L':=qi L3 t.b<|.lst<|zx j++[.int<|(((vh<|I++[.nd true x y]).length:Nat):Int)-1]) B' ?_ ⟨?_,?_⟩ (λu J=>?_) (λb o e=>?_) ?_ (λz hz=>?_) ?_ ?_ ?_
  ·exact st.perm (by have p1:((pre++post)++[(⟨t.a,t.b,.ei I.length t.R,j++[I.length]⟩:Tr)]).Perm ((⟨t.a,t.b,.ei I.length t.R,j++[I.length]⟩:Tr)::(pre++post)):=Cm _ _;exact p1.trans Ci.symm)
  ·rw[qc<|AG (nk t mt).2.2.2];exact aL
  ·rw[qc r];exact ax
  ·rw[q9,en]
  ·have bb:u∈pre++t::post:=by rcases Ak.mp J with h|h;exact Ao _ h;exact Ag _ (Ab _ h)
   obtain⟨n1,n2,n3,n4⟩:=bf u J;obtain⟨k1,k2,k3,k4⟩:=nk u bb;obtain⟨h1,h2⟩:=B.ht u bb;rw[h1,h2,qc n2,qc n4];exact⟨g _ _ n1 n2 k3 h1,g _ _ n3 n4 k4 h2⟩
  ·have fr:=B.fr;have n0:∀z,L0 z=none->b≠z:=λz hz w=>by rw[w,hz] at e;cases e
   have n1:=n0 T<|fr T (by simp);have n2:=n0 t.a<|fr t.a (by simp[Tr.ads]);have n3:=n0 t.b<|fr t.b (by simp[Tr.ads]);rw[qc n3];exact g _ _ n2 n3 n1<|B.sub _ _ e
  ·have p:(pre++t::post).Perm ((pre++post)++[t]):=Ci.trans (Cm _ _).symm;have e:((pre++post)++[(⟨t.a,t.b,.ei I.length t.R,j++[I.length]⟩:Tr)]).flatMap Tr.ads=((pre++post)++[t]).flatMap Tr.ads:=by simp[A7,Tr.ads]
   rw[e];exact(((p.flatMap_right Tr.ads).cons _).cons _).nodup_iff.mp ad
  ·have hz:z=t.a\/z=t.b:=by simpa[Tr.ads] using hz
   rcases hz with rfl|rfl
   ·exact B.fr _ (by simp[Tr.ads])
   ·exact B.fr _ (by simp[Tr.ads])
  ·exact B.ok.snoc ⟨s.lt x<|s.sub x hx,s.lt y<|s.sub y hy⟩
  ·refine .ei (dY _ _ _) (s.more _) hx hy (λe=>l.1 (by rw[e];exact Aj ..)) (λz=>?_) ?_
   ·rw[Ak,An];have hm:=pE.mem_iff (a:=z);rw[Am,Am] at hm;have h1:z∈j->z≠x/\z≠y:=λh=>⟨λe=>l.1 (by rw[<-e];exact Ab _ h),λe=>l.2.1<|e▸h⟩;constructor
    ·rintro(h|h)
     ·exact .inl ⟨hm.mpr<|.inr<|.inr h,h1 h⟩
     ·exact .inr h
    ·rintro(⟨h,c1,c2⟩|h)
     ·rcases hm.mp h with e|e|e
      ·exact absurd e c1
      ·exact absurd e c2
      ·exact .inl e
     ·exact .inr h
   ·rw[Aq];refine⟨l.2.2,by simp,λu J v hv e=>?_⟩;rw[An.mp hv] at e;have:u∈t.E:=pE.mem_iff.mpr<|Ab _<|Ab _ J;have:=s.lt u<|s.sub u this;lia
  ·show(I.length::z0 t.R).Perm (List.range' I.length 1++([t].flatMap λt=>z0 t.R));simp[Eo]
 ·have nf:=nk t mt;rw[qc<|AG nf.2.1];have:=g fa _ (AG nf.1) (AG nf.2.1) (AG nkf) F.hf;rw[this];unfold zp;rw[AI,AI];rfl
def RF(I:kh)(p1:kh)(p2:kh)(p3:kh):a9:=(zm (x8 (jP rS (qf 1)<|qo (vg FO (qf 3)<|rV 1) jn)<|qp 4)
 (zm (x8 (vg fM (fP 4 1)<|vg FO (vg PU (qf 3)<|fQ 64)<|cI zN<|bL<|fP 4 1)<|qp 5)
 (zm (x8 (xm I<|cB (qf 0)<|qf 5)<|qp 6)
 (zm (x8 (Gi (yC .non)<|yC .non)<|lK 2<|vj (qp 7)<|vj (qp 8) gu)
 (zm (oh (mn<|bL<|rV 1) (qp 9)<|oh (gH<|vg fM (vg fM (qf 1)<|qf 9)<|fQ 1) (qp 10)<|am (vZ (yB<|gJ false<|qf 7)<|m_ (xm I<|cB (qf 0)<|qf 10)<|xm p1<|bL<|qf 6) (x8 (aE<|qo (vg fM (qf 1)<|qf 9)<|bL<|qf 10)<|lK 2<|vj (qp 7)<|vj (qp 8) gu) wm)
 (zm (am (vZ (yB<|gJ false<|qf 7)<|yB<|vg PX (xm p2<|bL<|qf 6)<|fQ 5) (zm (kj<|jP jt (qf 1)<|bL<|qf 4)
 Iq) wm)
 (qH (am (yB<|gJ false<|qf 7) (zm (x8 (xm p3<|cB (qf 0)<|qf 6)<|Jp 3<|vj (qp 11)<|vj (qp 8)<|vj (qp 12) gu)
 (x8 (jT<|qo (qf 11)<|qo (jT<|cB (qf 8)<|qf 12) jn)<|qp 7))<|kj<|jP lv (qf 1)<|bL<|qf 7)
 (zm (x8 (u_ 1 (gH<|vg gE (fP 4 1)<|fP 7 1) (qp 14) (yB<|vg (ip true) (qf 14)<|Gi (qf 5)<|qf 8)<|qf 14)<|qp 13)
 (am (m_ (vg FO (qf 2)<|fQ 2)<|fQ 0) (kj<|jP jt (qf 1)<|qo (jT<|qo (aE<|qo (f_ "cut")<|qo (qf 5)<|qo (qf 8)<|cB (fP 4 0)<|fP 7 0)<|bL<|qf 13) jn)<|kj<|jP jt (qf 1)<|qo (jT<|qo (aE<|qo (f_ "cut")<|qo (qf 8)<|qo (qf 5)<|cB (fP 7 0)<|fP 4 0)<|bL<|qf 13) jn)))))))))
theorem re:∀a b:List Da,Da.eqs a b=true->a.length=b.length
 |[],[],_=>rfl
 |[],_::_,h=>by cases h
 |_::_,[],h=>by cases h
 |x::r,y::q,h=>by have h:(Da.eq x y&&Da.eqs r q)=true:=h;rw[Bd] at h;rw[AF,AF,re r q h.2]
def RG(u:Wd):∀v:Wd,Da.eq (rL u) (rL v)=true->u=v:=by
 induction u with
 |leaf t n=>
  intro v h;cases v with
  |leaf o p=>
   rw[RA,Bd] at h;rw[of_decide_eq_true h.1,of_decide_eq_true h.2]
  |node e l r=>exact absurd (re _ _ h) (by intro z;cases z)
 |node e l r g j=>
  intro v h;cases v with
  |leaf t n=>exact absurd (re _ _ h) (by intro z;cases z)
  |node I J U=>
   have h:(mW (.str<|kN e) (.str<|kN I)&&(Da.eq (rL l) (rL J)&&(Da.eq (rL r) (rL U)&&true)))=true:=h;rw[Bd,Bd,Bd] at h;obtain⟨h1,h2,h3,_⟩:=h;have:e=I:=by cases e<;>cases I<;>first|rfl|(exfalso;revert h1;decide +kernel)
   rw[this,g J h2,j U h3]
def v5:Ru->Nat
 |.link _ _=>1
 |.ei _ A=>v5 A+1
 |.bo _ A B=>max (v5 A) (v5 B)+1
 |.cu _ _ A B=>max (v5 A) (v5 B)+1
theorem wf:∀R:Ru,v5 R+1<=(z0 R).length
 |.link _ _=>Ap _
 |.ei _ A=>by have:=wf A;simp[v5,z0];lia
 |.bo _ A B=>by have:=wf A;have:=wf B;simp[v5,z0];lia
 |.cu _ _ A B=>by have:=wf A;have:=wf B;simp[v5,z0];lia
def eU:Ru->Da
 |.link p q=>.tup [.s<|.str "link",.s<|.int (p:Int),.s<|.int (q:Int)]
 |.ei r A=>.tup [.s<|.str "either",.s<|.int (r:Int),eU A]
 |.bo r A B=>.tup [.s<|.str "both",.s<|.int (r:Int),eU A,eU B]
 |.cu p q A B=>.tup [.s<|.str "cut",.s<|.int (p:Int),.s<|.int (q:Int),eU A,eU B]
theorem fD{L:qk}:∀{R:Ru} {n:Nat},v5 R<=n->x9 L n (j8 R) (eU R)
 |.link p q,n+1,_=>eL<|.cons (E7 _)<|.cons (EZ _)<|.cons (EZ _) .nil
 |.ei r A,n+1,h=>eL (.cons (E7 _) (.cons (EZ _) (.cons (fD (by simp[v5] at h;lia)) .nil)))
 |.bo r A B,n+1,h=>eL (.cons (E7 _) (.cons (EZ _) (.cons (fD (by simp[v5] at h;lia)) (.cons (fD (by simp[v5] at h;lia)) .nil))))
 |.cu p q A B,n+1,h=>eL (.cons (E7 _) (.cons (EZ _) (.cons (EZ _) (.cons (fD (by simp[v5] at h;lia)) (.cons (fD (by simp[v5] at h;lia)) .nil)))))
 |.link _ _,0,h=>by simp[v5] at h
 |.ei _ _,0,h=>by simp[v5] at h
 |.bo _ _ _,0,h=>by simp[v5] at h
 |.cu _ _ _ _,0,h=>by simp[v5] at h
theorem aq:∀R:Ru,Da.eq (eU R) (eU R)=true
 |.link p q=>by simp[eU,Da.eq,Da.eqs,mW]
 |.ei r A=>by simp[eU,Da.eq,Da.eqs,mW,aq A]
 |.bo r A B=>by simp[eU,Da.eq,Da.eqs,mW,aq A,aq B]
 |.cu p q A B=>by simp[eU,Da.eq,Da.eqs,mW,aq A,aq B]
def jC(E:Vk):List Da:=E.map λn:Nat=>Da.s<|.int (n:Int)
theorem yg{L:qk}{n:Nat}:∀E:Vk,Paired (x9 L n) (zx E)<|jC E
 |[]=>.nil
 |_::r=>.cons (EZ _)<|yg r
theorem rW:∀E I:Vk,Da.eqs (jC E) (jC I)=true↔E=I
 |[],[]=>by simp[jC,Da.eqs]
 |[],_::_=>by simp[jC,Da.eqs]
 |_::_,[]=>by simp[jC,Da.eqs]
 |x::r,y::J=>by
  have U:=rW r J;show(Da.eq (.s<|.int (x:Int)) (.s<|.int (y:Int))&&Da.eqs (jC r) (jC J))=true↔_;rw[Bd,U];have:Da.eq (.s<|.int (x:Int)) (.s<|.int (y:Int))=true↔x=y:=by show decide ((x:Int)=(y:Int))=true↔_;rw[decide_eq_true_iff];lia
  rw[this];constructor
  ·rintro⟨rfl,rfl⟩;rfl
  ·intro e;injection e with g j;exact⟨g,j⟩
def fV(t:Tr):Da:=.lst [eU t.R,.lst<|jC t.E]
def sF{t:Tr}(I:L t.a=some (.lst [j8 t.R,.ref t.b]))(J:L t.b=some (.lst<|zx t.E))(h:v5 t.R<=n+1):x9 L (n+2) (.ref t.a) (fV t):=
 fJ I (.cons (fD h)<|.cons (fJ J<|yg _) .nil)
def RH{t u:Tr}:Da.eq (fV t) (fV u)=true->t.E=u.E:=by intro h;have h:(Da.eq (eU t.R) (eU u.R)&&(Da.eqs (jC t.E) (jC u.E)&&true))=true:=h;rw[Bd,Bd] at h;exact(rW _ _).mp h.2.1
def RI(t:Tr):Da.eq (fV t) (fV t)=true:=by show(Da.eq (eU t.R) (eU t.R)&&(Da.eqs (jC t.E) (jC t.E)&&true))=true;rw[aq,(rW _ _).mpr rfl];rfl
def bw.rd(h:bw L0 L ka fa ks fo){t:Tr}(I:t∈fo):v5 t.R<=ks.length:=by
 have h1:=wf t.R;have nd:(z0 t.R).Nodup:=by obtain⟨a,b,rfl⟩:=Cn I;have:=h.nd;rw[A7,Bq,Aq,Aq] at this;exact this.2.1.1
 have:=kq _ _ nd λx J=>(h.sr t I).lt x J;exact Ow
def bw.one(h:bw L0 L ka fa ks fo){t u:Tr}(hi:fo[i]?=some t)(I:fo[j]?=some u)(e:t.E=u.E):i=j:=by
 by_cases c:i=j
 ·exact c
 ·exfalso;have s:=h.sr t<|Az hi;have l:=s.ends h.ok;obtain⟨x,J⟩:∃x,x∈t.E:=by cases g:t.E with|nil=>rw[g] at l;simp at l|cons x r=>exact⟨x,Aj ..⟩
  have o:=h.sr u<|Az I;have p:=x4 hi;have C:(u::(fo.eraseIdx i))=_:=rfl;have U:u∈fo.eraseIdx i:=by have:fo[j]?=some u:=I;rw[List.mem_eraseIdx_iff_getElem?];exact⟨j,λz=>c z.symm,I⟩
  obtain⟨a,b,T⟩:=Cn U;have nd:=(p.flatMap_right λt:Tr=>z0 t.R).nodup_iff.mp h.nd;rw[Bq,Aq] at nd;exact nd.2.2 x (s.sub x J) x (Bh.mpr ⟨u,U,o.sub x<|e▸J⟩) rfl
theorem iA:∀w:Wd,w.turn.turn=w
 |.leaf t n=>by simp[Wd.turn]
 |.node e l r=>by simp[Wd.turn,iA l,iA r]
theorem gG:∀w:Wd,w.turn.depth=w.depth
 |.leaf t n=>rfl
 |.node e l r=>by simp[Wd.turn,Wd.depth,gG l,gG r]
def Fd(ks:VE)(w:Wd)(rest:VF)(I J:Y):Prop:=(I=.non/\J=.non)\/∃(j:Nat) (u:Tr) (q:Nat),rest[j]?=some u/\q∈u.E/\cJ ks q w.turn/\I=.ref u.a/\J=.int (q:Int)
def RJ{g j:qk}{t1 u:Tr}{x:Nat}{w:Wd}(B:bw L0 g ka fa ks<|t1::u::rest){fs:LO}(hf:g fa=some fs)(hx:x∈t1.E)(hq:q∈u.E)(o:cJ ks x w)(p:cJ ks q w.turn){I:Addr}(s:qh g j)(a1:g I=none)
 (he:j I=some (.lst<|zx<|kg t1.E u.E x q)) (J:j pa=none) (hR:R=.cu x q t1.R u.R\/R=.cu q x u.R t1.R):bw L0 (qi j pa<|.lst [j8 R,.ref I]) ka fa ks (rest++[⟨pa,I,R,kg t1.E u.E x q⟩]):=by
 have t:I≠pa:=aP he J;have C:=B.sr t1 (by simp);have T:=B.sr u (by simp);have U:∀z,z∈t1.E->z∈u.E->False:=λz h1 h2=>B.two z (C.sub z h1)<|T.sub z h2;have bm:=xR (E1:=t1.E) (E2:=u.E) (λh=>U x hx h) λh=>U q h hq;have nod:=yf (l:=x) (r:=q) C.nod T.nod U;have st:=bw.put (M:=g) (L':=qi j pa<|.lst [j8 R,.ref I]) (old:=[t1,u]) (ms:=[]) (R:=R) (E:=kg t1.E u.E x q) (pa:=pa) (pb:=I) B (λ_ _ _ e=>e) (by rw[AC];exact B.hk) hf (s.none J) a1 (AG t) (s.trans<|By J) q9 (by rw[qc t];exact he) (by rw[AC];exact B.ok) ?_ ?_
 ·rw[AC] at st;exact st
 ·rw[AC];rcases hR with rfl|rfl
  ·exact .cu C T hx hq o p bm nod
  ·exact .cu (w:=w.turn) T C hq hx p (by rw[iA];exact o) (λz=>by rw[bm];exact Or.comm) nod
 ·rcases hR with rfl|rfl
  ·show(z0 t1.R++z0 u.R).Perm _;simp
  ·show(z0 u.R++z0 t1.R).Perm _;simpa using AU
def CJ(L0:qk)(ka fa:Addr)(ks:VE)(one two:Int)(t1:Tr)(x:Nat)(w:Wd)(n:Nat)(τ:jo)(L:qk):Prop:=∃ms u q rest c9 nu I J,τ=[some<|.ref ka,some<|.ref fa,some<|.int one,some<|.int two,some<|.ref t1.a,some<|.int (x:Int),some<|cA w,some<|.ref u.a,some<|.int ((q:Nat):Int),c9,nu,I,J,none]/\
 bw L0 L ka fa (ks++ms) (t1::u::rest)/\L fa=some (.lst<|zp rest)/\q∈u.E/\cJ (ks++ms) q w.turn/\ms.length<=10/\rest.length<=n
inductive l9(ys:List Y)(L:qk)(Q:YK):Prop
 |mk:∀L0 ka fa ks fo,∀one two:Int,(ys=[.ref ka,.ref fa,.int one,.int two])->(om L0 L ka fa ks fo)->(1<=fo.length)->(fo.length<=110)->(ks.length<=110)->(∀L' ks' fo',om L0 L' ka fa ks' fo'->ks'.length<=ks.length+10->1<=fo'.length->fo'.length<=fo.length->Q .non L')->l9 ys L Q
theorem RK{FS MS:kh}(hF:∀ys L Q,aG 120 ys L Q->FS ys L Q)(hM:∀ys L Q,vv 5 ys L Q->MS ys L Q):∀ys L Q,l9 ys L Q->vd (RF (w9 120) FS (aJ 120) MS) 14 ys L Q:=by
 rintro ys L Q ⟨L0,ka,fa,ks,fo,one,two,rfl,F,h1,c3,bn,q⟩;have big:=a_;have C:∀fo:VF,(zp fo).length=fo.length:=λfo=>Af ..;obtain⟨j1,I,bb,a1,a2,a3,g⟩:=vS (k:=two) F.hf (by assumption);have l1:(fo.eraseIdx j1).length+1=fo.length:=by have:=(x4 bb).length_eq;rw[AF] at this;lia
 refine qb F.hf (qb F.hf ⟨(by show(0:Int)<((zp fo).length:Int);rw[C];lia),qr F.hf ⟨a1,a2,qj a3 ?_⟩⟩);have B:=(F.b.perm<|x4 bb).setF<|.lst<|(zp fo).eraseIdx (two % ((zp fo).length:Int)).toNat;generalize qi L fa _=L1 at g B ⊢;generalize fo.eraseIdx j1=rest at l1 g B;clear a1 a2 a3;have m1:I∈I::rest:=by simp
 obtain⟨a4,ac⟩:=B.ht I m1;have al:=bF B m1;have s1:=B.sr I m1;obtain⟨x,hx,ex⟩:=gc al.1<|two / 64;refine qb a4 ⟨⟨by decide,by decide⟩,qb a4 (qb ac ⟨(by show(0:Int)<((zx I.E).length:Int);rw[Af];omega),qb ac<|qj ex ?_⟩)⟩;obtain⟨w,hw,cb,bc⟩:=gN B.ok (x+1) x (by exact BH _)<|s1.lt x<|s1.sub x hx;have cc:=s1.lt x<|s1.sub x hx;refine⟨ka,vh ks,x,w,rfl,B.hk,hw,by lia,?_⟩;have ck:w.turn.depth=w.depth:=gG w;refine qb g ⟨⟨by show _<=(((zp rest).length:Nat):Int);exact A3 _,by show(((zp rest).length:Nat):Int)<_;rw[C];omega⟩,?_⟩;refine iX (λi τ L'=>∃v7 v8 c9 T,τ=[some<|.ref ka,some<|.ref fa,some<|.int one,some<|.int two,some<|.ref I.a,some<|.int (x:Int),some<|cA w,some v7,some v8,c9,T,none,none,none]/\L'=L1/\Fd ks w rest v7 v8) ⟨_,_,_,_,rfl,rfl,.inl ⟨rfl,rfl⟩⟩ ?_ ?_
 ·rintro i τ L' hi ⟨v7,v8,c9,T,rfl,rfl,fd⟩;have hi:i<rest.length:=by have:i<(((zp rest).length:Nat):Int).toNat:=hi;rw[C] at this;assumption
  obtain⟨u,hu⟩:∃u,rest[i]?=some u:=⟨_,Al hi⟩;have mu:u∈I::rest:=Ab _<|Az hu;obtain⟨ua,ub⟩:=B.ht u mu;have ei:(zp rest)[i]?=some (.ref u.a):=by unfold zp;rw[Au,hu];rfl
  have e0:(0:Int)+(i:Int)=((i:Nat):Int):=by simp +arith only
  rw[e0];have bd:dW (zp rest) ((i:Nat):Int)=some (.ref u.a):=jx ei;have le:=bF B mu;have su:=B.sr u mu;refine qb g<|qj bd<|qb ua ?_;refine P1 (ys:=zx u.E) (wv ub) (λk τ au=>∃v7 v8 T,τ=[some<|.ref ka,some<|.ref fa,some<|.int one,some<|.int two,some<|.ref I.a,some<|.int (x:Int),some<|cA w,some v7,some v8,some<|.int ((i:Nat):Int),T,none,none,none]/\au=L'/\Fd ks w rest v7 v8) ⟨_,_,_,rfl,rfl,fd⟩ ?_ ?_ ?_
  ·rintro k τ _ ⟨_,_,_,_,rfl,_⟩;rfl
  ·rintro k y τ au ey ⟨v7,v8,T,rfl,rfl,fd⟩;obtain⟨z,ez,rfl⟩:∃z:Nat,u.E[k]?=some z/\y=Y.int (z:Int):=by rw[Au] at ey;obtain⟨z,e1,e2⟩:=AB.mp ey;exact⟨z,e1,e2.symm⟩
   have hz:z∈u.E:=Az ez;rcases fd with⟨rfl,rfl⟩|⟨j,t,q0,h1,h2,h3,rfl,rfl⟩
   ·have bp:=su.lt z<|su.sub z hz;obtain⟨v,hv,cm,c4⟩:=gN B.ok (z+1) z (by exact BH _) bp;refine⟨ka,vh ks,z,v,rfl,B.hk,hv,by lia,hF _ _ _ ⟨w,rfl,by lia,?_⟩⟩;refine Ri (u:=v) (v:=w.turn) (by lia) ?_;show we (Da.eq (rL v)<|rL w.turn) _ _;refine Pa (λc=>?_) λc=>?_
    ·have hh:=RG _ _ c;refine qb g<|qj bd ?_;refine⟨_,EK _,?_⟩;exact⟨_,_,_,rfl,rfl,.inr ⟨i,u,z,hu,hz,hh▸hv,rfl,rfl⟩⟩
    ·refine⟨_,EK _,?_⟩;exact⟨_,_,_,rfl,rfl,.inl ⟨rfl,rfl⟩⟩
   ·refine⟨_,EK _,?_⟩;exact⟨_,_,_,rfl,rfl,.inr ⟨j,t,q0,h1,h2,h3,rfl,rfl⟩⟩
  ·rintro τ au ⟨v7,v8,T,rfl,rfl,fd⟩;refine⟨_,EK _,?_⟩;exact⟨_,_,_,_,rfl,rfl,fd⟩
 ·rintro τ L' ⟨v7,v8,c9,T,rfl,rfl,fd⟩;rcases fd with⟨rfl,rfl⟩|⟨j,u,q0,hj,av,ax,rfl,rfl⟩
  case' inl=>
   refine⟨w,rfl,by lia,?_⟩;show we (decide<|(w.size:Int) > 5) _ _;refine zk (λc=>?_) λc=>?_
   case' refine_1=>
    refine qb g (qr g ⟨big _ (by rw[C];lia),?_⟩);rw[<-gM];exact xa (q _ ks (rest++[I]) ⟨(B.perm (Cm _ _).symm).setF _,q9⟩ (by exact Bg _ _) (by simp) (by rw[Ad];simp;exact vY))
   case' refine_2=>
    refine⟨CJ L0 ka fa ks one two I x w rest.length,?_,?_⟩
    ·refine hM _ _ _ ⟨ka,ks,w,rfl,B.hk,(by have h1:=w.depth_le;have h2:=w.size_eq;lia),(by decide),bc,B.ok,by lia,λms R tp sp p hp a5=>?_⟩;refine qr q9 ?_;intro pb aL pa J;have aR:qi L' ka (.lst<|vh<|ks++ms) p=none:=by rw[qc<|AG<|aP B.hk hp];exact hp
     have bf:pb≠pa:=aP q9 J;have nb:=(By aR).none aL;have na:=((By aR).trans<|By aL).none J;have bg:qi L' ka (.lst<|vh<|ks++ms) fa=some (.lst<|zp rest):=by rw[qc<|AG B.nkf];exact g
     generalize hL:qi (qi (qi _ p _) pb _) pa _=LF;have sA:qh (qi L' ka<|.lst<|vh<|ks++ms) LF:=by rw[<-hL];exact((By aR).trans<|By aL).trans (By J)
     have ea:LF pa=some (.lst [j8 R,.ref pb]):=by rw[<-hL];exact q9
     have eb:LF pb=some (.lst<|zx [tp,sp]):=by rw[<-hL,qc bf];exact q9
     clear hL;refine⟨ms,⟨pa,pb,R,[tp,sp]⟩,tp,rest,_,_,_,_,rfl,?_,sA _ _ bg,Aj ..,a5.wt,by have:=a5.len;lia,Ap _⟩;have st:=bw.put (old:=[]) B (λz o n e=>(qc n).trans e) q9 bg na nb (AG bf) sA ea eb a5.ok a5.sr (by rw[CZ,AC];exact(A4 a5.nd Ec).mpr λz=>by rw[a5.tm,Du]);exact st.perm<|(Cm _ _).trans<|List.Perm.swap _ _ _
  case' inr=>
   refine⟨CJ L0 ka fa ks one two I x w rest.length,?_,?_⟩
   ·refine qb g<|qr g ⟨rest.map fV,fV u,120,120,j,by decide,?_,?_,?_,⟨fV u,?_,RI u⟩,λk d hk ek=>?_,?_⟩
    ·have dd:∀l:VF,(∀t∈l,t∈I::rest)->Paired (x9 L' 120) (zp l) (l.map fV):=λl=>by
      induction l with
      |nil=>intro _;exact .nil
      |cons t r ih=>
       intro h;have mt:=h t<|Aj ..;obtain⟨h1,h2⟩:=B.ht t mt;have:=B.rd mt;exact .cons (sF (n:=118) h1 h2 (by lia))<|ih λt ht=>h t<|Ab _ ht
     exact dd rest λt ht=>Ab _ ht
    ·have mt:u∈I::rest:=Ab _<|Az hj;obtain⟨h1,h2⟩:=B.ht u mt;have:=B.rd mt;exact sF (n:=118) h1 h2 (by omega)
    ·rw[Af];exact(AL.mp hj).1
    ·rw[Au,hj];rfl
    ·rw[Au] at ek;obtain⟨v,ev,rfl⟩:=AB.mp ek;cases c:Da.eq (fV v) (fV u) with
     |false=>rfl
     |true=>
      have:=B.one (i:=k+1) (j:=j+1) (by simpa using ev) (by simpa using hj)<|RH c;lia
    ·rw[oF];have B2:=(B.perm<|(x4 hj).cons _).setF<|.lst<|zp<|rest.eraseIdx j;exact⟨[],u,q0,rest.eraseIdx j,_,_,_,_,rfl,(AC ks).symm▸B2,q9,av,(AC ks).symm▸ax,Bb _,Dl ..⟩
  all_goals
   rintro cn L' ⟨ms,u,q0,U,c9,T,cq,cv,rfl,B',hf,av,ax,cw,cy⟩;have m1:I∈I::u::U:=by simp
   have m2:u∈I::u::U:=by simp
   obtain⟨a4,ac⟩:=B'.ht I m1;obtain⟨ba,bq⟩:=B'.ht u m2;have al:=bF B' m1;have bS:=bF B' m2;rw[Ad] at al bS;refine qb a4 (qb ba ⟨_,_,ac,bq,dN (by rw[Af,Af];omega),λpp bh=>?_⟩);rw[<-jH];refine Jw (E:=I.E++u.E) (l:=x) (r:=q0) (k:=14) q9 (by rw[Ad];omega) (λy' Q' h=>h) (λ_=>rfl) λpe bi=>?_;have bj:L' pe=none:=(By bh).none bi;generalize hL:qi (qi L' pp _) pe _=L4;have s4:qh L' L4:=by rw[<-hL];exact(By bh).trans (By bi)
   have c2:L4 pe=some (.lst<|zx<|kg I.E u.E x q0):=by rw[<-hL];exact q9
   have done:∀(R:Ru) pa,L4 pa=none->(R=.cu x q0 I.R u.R\/R=.cu q0 x u.R I.R)->Q .non (qi (qi L4 pa<|.lst [j8 R,.ref pe]) fa<|.lst<|zp U++[.ref pa]):=λR pa J hR=>by rw[<-gM U ⟨pa,pe,R,kg I.E u.E x q0⟩];exact q _ (ks++ms) (U++[⟨pa,pe,R,kg I.E u.E x q0⟩]) ⟨(RJ B' hf hx av (hw.more ms) ax s4 bj c2 J hR).setF _,q9⟩ (by rw[Ad];omega) (by simp) (by rw[Ad];simp;omega)
   refine⟨(by show(0:Int)<2;decide),?_⟩;show we (decide<|one % 2=0) _ _;refine zk (λc=>?_) λc=>?_
   ·refine qb (s4 _ _ hf)<|qb (s4 _ _ a4)<|qb (s4 _ _ ba) λpa J=>?_;refine qr (By J _ _<|s4 _ _ hf) ⟨big _ (by rw[C];omega),?_⟩;exact xa<|done _ pa J<|.inl rfl
   ·refine qb (s4 _ _ hf)<|qb (s4 _ _ ba)<|qb (s4 _ _ a4) λpa J=>?_;refine qr (By J _ _<|s4 _ _ hf) ⟨big _ (by rw[C];omega),?_⟩;exact xa<|done _ pa J<|.inr rfl
theorem om.mono(h:om L0 L ka fa ks fo)(s:qh L L'):om L0 L' ka fa ks fo:=⟨h.b.mono s,s _ _ h.hf⟩
def bw.plus{I:qk}{t':Tr}{fs:LO}(B:bw L0 L ka fa ks rest)(j:L fa=some fs)(sA:qh (qi L ka<|.lst<|vh<|ks++ms) I)(ea:I t'.a=some (.lst [j8 t'.R,.ref t'.b]))(eb:I t'.b=some (.lst<|zx t'.E))
 (J:qi L ka (.lst<|vh<|ks++ms) t'.a=none) (U:qi L ka (.lst<|vh<|ks++ms) t'.b=none) (g:t'.a≠t'.b) (ok:dR<|ks++ms) (l:SR (ks++ms) t'.R t'.E) (p:∀x,x∈z0 t'.R↔ks.length<=x/\x<ks.length+ms.length) (nd:(z0 t'.R).Nodup):
 bw L0 I ka fa (ks++ms) (rest++[t']):=by
 exact bw.put (old:=[]) B (λz o n e=>(qc n).trans e) q9 (by rw[qc<|AG B.nkf];exact j) J U g sA ea eb ok l (by rw[CZ,AC];exact(A4 nd Ec).mpr λz=>by rw[p,Du])
theorem om.link(F:om L0 L ka fa ks fo){nm:Str}(j:du nm)(b:Bool)(J:qi L ka (.lst<|vh<|ks++[.lf b nm,.lf (!b) nm]) pb=none)
 (U:qi (qi L ka<|.lst<|vh<|ks++[.lf b nm,.lf (!b) nm]) pb (.lst<|zx [ks.length,ks.length+1]) pa=none) {fs:List Y} (g:fs=zp fo++[.ref pa]):
 om L0 (qi (qi (qi (qi L ka<|.lst<|vh<|ks++[.lf b nm,.lf (!b) nm]) pb<|.lst<|zx [ks.length,ks.length+1]) pa<|.lst [j8<|.link ks.length<|ks.length+1,.ref pb]) fa<|.lst fs) ka fa (ks++[.lf b nm,.lf (!b) nm]) (fo++[⟨pa,pb,.link ks.length<|ks.length+1,[ks.length,ks.length+1]⟩]):=by
 have I:pb≠pa:=aP q9 U;have M:=tH F.b.ok (t:=!b) j;rw[Dt] at M;refine⟨(bw.plus F.b F.hf ((By J).trans<|By U) q9 (by rw[qc I];exact q9) ((By J).none U) J (AG I) M.ok M.sr M.tm M.nd).setF _,?_⟩;rw[q9,g];unfold zp;rw[AI];rfl
def bw.dats(h:bw L0 L ka fa ks fo)(g:ks.length<=120):Paired (x9 L 124) (zp fo) (fo.map fV):=by
 have J:∀l:VF,(∀t∈l,t∈fo)->Paired (x9 L 124) (zp l) (l.map fV):=λl=>by
  induction l with
  |nil=>intro _;exact .nil
  |cons t r U=>
   intro k;have mt:=k t<|Aj ..;obtain⟨h1,h2⟩:=h.ht t mt;have:=h.rd mt;exact .cons (sF (n:=122) h1 h2 (by lia))<|U λt I=>k t<|Ab _ I
 exact J fo λt I=>I
def yZ(fo:VF):Da.eqs (fo.map fV) []=decide (fo=[]):=by cases fo<;>rfl
def TW(L0:qk)(ka fa:Addr)(s:Int)(room:Nat)(τ:jo)(L:qk):Prop:=∃c0 c5 c6 c7 c8 c9 nu ks fo,τ=[c0,some<|.int s,some<|.int (room:Int),some<|.ref ka,some<|.ref fa,c5,c6,c7,c8,c9,nu]/\om L0 L ka fa ks fo/\ks.length+fo.length<=room
def TW.of{s:Int}{room:Nat}(F:om L0 L ka fa ks fo)(h:ks.length+fo.length<=room):TW L0 ka fa s room [c0,some<|.int s,some<|.int (room:Int),some<|.ref ka,some<|.ref fa,c5,c6,c7,c8,c9,nu] L:=⟨_,_,_,_,_,_,_,ks,fo,rfl,F,h⟩
def yH(g:kh)(I:kh)(J:kh)(U:kh)(l:kh):RD "_law_tree" kI 171 ["_law_cells","_law_seed","_law_room","_law_knots","_law_forest","_law_k","_law_cell","_law_one","_law_two","_law_deed","_law_at"] (λV=>G' V g/\IQ V I/\IV V J/\IU V U/\IW V l):=⟨_,λV B c _ _ _ _ _ _ _ o hN p=>(qa (S_ 3 hN<|jm wg)<|qa (S_ 4 hN<|jm wg)<|qa (ky ya rfl (mC rfl B.bp<|qv 0) (ku (n:=2) rfl<|qz (G_ 5 hN)<|qz (G_ 6 hN) xi)<|qa (wL (i:=7) (j:=8) rfl hN rfl rfl (by decide) rfl rfl (v9 (C_ c.1 o<|bQ (qv 6) (qv 5) qd)<|C_ c.1 o<|bQ (qv 6) (qv 5) qd) rfl)<|qa (zr (je yn (qm ju (qm ju (L_ B.ba<|qv 3)<|L_ B.ba<|qv 4) qd) (qv 2)<|vn _) (qg tM) za)<|qa (S_ 9 hN<|qm js (qv 7) qd)<|qa (S_ 7 hN<|qm vf (qv 7) qd)<|qg<|zr (bD<|uG (je pJ (qv 9) qd<|vn _)<|oA<|E_ p (qv 4)<|jm wg) (qa (zf<|ze (qv 3)<|xn<|zh<|v9 jv<|C_ c.2.1 o<|v9 (qv 1)<|qm js (qv 8) qd)<|qa (zf<|ze (qv 3)<|xn<|zh<|v9 jv<|C_ c.2.1 o<|v9 (qv 1)<|qm js (qv 8) qd)<|xw (zr (E_ p (qm js (qv 7) qd) qd) (qg<|zf<|ze (qv 3)<|xn<|cQ (qv 3)<|xn<|qm cU (L_ B.ba<|qv 3) qd) za)<|qa (S_ 10 hN<|qm cU (L_ B.ba<|qv 3) qd)<|qg<|zf<|ze (qv 4)<|xn<|jm<|v9 (zh<|bQ jv (qv 10)<|qm ju (qv 10) qd)<|jm<|v9 (qv 10)<|qm ju (qv 10) qd)<|qg<|zr (je pJ (qv 9) qd<|vn _) (qg<|zf<|C_ c.2.2.1 o<|jw (qv 3)<|bQ (I_ (qv 4)<|qm js (qv 8)<|L_ B.ba<|qv 4) (qv 7)<|qm vf (qv 8) qd)<|qg<|zr (bD<|cD (je pJ (qv 9) qd<|vn _)<|aW<|je yn (L_ B.ba<|qv 4) qd<|vn _) (qg<|zf<|C_ c.2.2.2.1 o<|jw (qv 3)<|bQ (qv 4) (qv 7)<|qv 8)<|qg<|zf<|C_ c.2.2.2.2 o<|jw (qv 3)<|bQ (qv 4) (qv 7)<|qv 8)<|xw (zr (E_ p (qv 4)<|jm wg) (qa (zf<|ze (qv 3)<|xn<|zh<|v9 jv<|C_ c.2.1 o<|v9 (qv 1) qd)<|qa (zf<|ze (qv 3)<|xn<|zh<|v9 jv<|C_ c.2.1 o<|v9 (qv 1) qd)<|qg<|zf<|ze (qv 4)<|xn<|jm<|v9 (zh<|bQ jv qd qd)<|jm<|v9 qd qd) za)<|qa (gW ya (je yn (L_ B.ba<|qv 4) qd<|vn _)<|qg<|zf<|C_ c.2.2.2.1 o<|jw (qv 3)<|bQ (qv 4) (qm ju (qm vf (qv 1) qd)<|L_ B.ba<|qv 4)<|qm vf (qv 1) qd)<|qg<|zb<|zh<|v9 (qv 3)<|I_ (J_ 4) qd)⟩
inductive gp(ys:List Y)(L:qk)(Q:YK):Prop
 |mk:∀cy,∀ns:Vo,∀s:Int,∀room:Nat,(ys=[.ref cy,.int s,.int (room:Int)])->(L cy=some (.lst<|ns.map Y.int))->(ns.length<=1000)->(room<=96)->(∀ka ks R E,L ka=none->dR ks->SR ks R E->(z0 R).Perm (List.range ks.length)->ks.length<=max room 2->Q (.tup [.ref ka,j8 R]) (qi L ka<|.lst<|vh ks))->gp ys L Q
theorem RL:∀ys L Q,gp ys L Q->vd (yH ij iK hJ mK l9).1 11 ys L Q:=by
 rintro ys L Q ⟨cy,ns,s,room,rfl,au,bc,ba,q⟩;have big:=a_;have U:∀fo:VF,(zp fo).length=fo.length:=λfo=>Af ..;have C:∀I:VE,(vh I).length=I.length:=λI=>Af ..;intro J al g av;have nkf:J≠g:=aP q9 av;have aL:L g=none:=(By al).none av;have F0:om L (qi (qi L J<|.lst []) g<|.lst []) J g [] []:=by
  refine⟨⟨by rw[qc nkf];exact q9,λt ht=>by simp at ht,λt ht=>by simp at ht,by simp,by simp,by simp[nkf],λp k e=>by simp at e,(By al).trans<|By av,λx hx=>?_⟩,q9⟩;rcases Am.mp hx with rfl|hx
  ·exact al
  ·rw[An.mp hx];exact aL
 generalize qi (qi L J<|.lst []) g (.lst [])=L1 at F0;refine wb (F0.b.sub _ _ au) λkeep kp=>kc ⟨λ_ τ L'=>TW L J g s room τ L',?_,?_,?_,?_⟩
 ·exact TW.of F0<|Bb _
 ·rintro i τ L' ⟨T,c5,c6,c7,c8,c9,l,I,fo,rfl,F,hb⟩;exact kp L' (by rw[F.b.sub _ _ au,F0.b.sub _ _ au])
 ·rintro i y τ L' ey ⟨T,c5,c6,c7,c8,c9,l,I,fo,rfl,F,hb⟩;obtain⟨z,ez,rfl⟩:=hG ey;obtain⟨cell,ec,rfl⟩:∃cell:Int,ns[i]?=some cell/\z=Y.int cell:=by rw[Au] at ez;obtain⟨z,e1,e2⟩:=AB.mp ez;exact⟨z,e1,e2.symm⟩
  have hi:=(AL.mp ec).1;refine⟨cell,((i:Nat):Int),48271,rfl,by exact A3 _,by omega,by decide,by decide,λone h1 bd=>⟨cell,((i:Nat):Int),69621,rfl,by exact A3 _,by omega,by decide,by decide,λtwo h2 bf=>?_⟩⟩;refine qb F.b.hk<|qb F.hf ?_;refine zk (λc=>?_) λc=>?_
  ·exact⟨_,EK _,TW.of F hb⟩
  have c:¬((((vh I).length:Nat):Int)+(((zp fo).length:Nat):Int)+12 > (room:Int)):=c;rw[C,U] at c;refine⟨(by decide:(0:Int)<9),⟨by decide,by decide⟩,?_⟩;refine zk (λc3=>?_) λc3=>?_
  case' refine_1=>
   obtain⟨L2,aR⟩:∃L2,L2=L':=⟨_,rfl⟩;rw[<-aR];have F':om L L2 J g I fo:=by rw[aR];exact F
  case' refine_2=>
   intro p hp;refine dy (by decide) (By hp _ _ F.hf) q9 ((F.b.mono<|By hp).dats (by lia)) (.nil:Paired (x9 _ 0) _ []) ?_;show we (Da.eqs (fo.map fV) []) _ _;rw[yZ];have F':om L (qi L' p<|.lst []) J g I fo:=F.mono<|By hp;generalize qi L' p (.lst [])=L2 at F';refine zk (λT=>?_) λT=>?_
  case' refine_2.refine_2=>
   have bb:0<fo.length:=by cases fo with|nil=>exact absurd rfl T|cons _ _=>simp
   have F:=F';refine zk (λc6=>?_) λc6=>?_
   ·obtain⟨j,t,ej,lj,et⟩:=jU bb two;refine qb F.hf ⟨(by show(0:Int)<((zp fo).length:Int);rw[U];lia),qb F.hf (qj (v:=.ref t.a) (by show dW (zp fo) (two % ((zp fo).length:Int))=_;rw[U,ej];exact jx (by unfold zp;rw[Au,et];rfl)) ?_)⟩;obtain⟨pre,post,ep⟩:=Cn<|Az et;rw[ep] at F hb;refine⟨⟨by decide,by decide⟩,L,J,g,I,pre,post,t,one / 9,two / 64,rfl,F,by lia,λL3 a1 a2 F3 h1 h2 _=>?_⟩;refine⟨_,EK _,?_⟩;exact TW.of F3 (by rw[ep] at c;lia)
   refine zk (λc8=>?_) λc8=>?_
   ·refine qb F.hf ?_;refine zk (λc1=>?_) λc1=>?_
    ·have c1:(((zp fo).length:Nat):Int) > 1:=c1;rw[U] at c1;refine⟨L,J,g,I,fo,one / 9,two,rfl,F,by lia,by lia,by lia,λL3 a1 a2 F3 h1 h2 _=>?_⟩;refine⟨_,EK _,?_⟩;exact TW.of F3 (by lia)
    ·refine⟨L,J,g,I,fo,one / 9,two,rfl,F,by assumption,by lia,by lia,λL3 a1 a2 F3 h1 h2 h3=>?_⟩;refine⟨_,EK _,?_⟩;exact TW.of F3 (by lia)
   ·refine⟨L,J,g,I,fo,one / 9,two,rfl,F,by lia,by lia,by lia,λL3 a1 a2 F3 h1 h2 h3=>?_⟩;refine⟨_,EK _,?_⟩;exact TW.of F3 (by lia)
  all_goals
   obtain⟨nm,a3⟩:∃nm,nm=l_ (a7 s<|two % 3):=⟨_,rfl⟩;have ax:du nm:=by rw[a3];exact sw _ _
   refine qb F'.b.hk ⟨(by decide:(0:Int)<3),s,two % 3,rfl,qr F'.b.hk ⟨big _ (by rw[C];omega),?_⟩⟩;refine qb q9 ⟨(by decide:(0:Int)<3),s,two % 3,rfl,qr q9 ⟨big _ (by rw[Ad,C];simp;omega),?_⟩⟩;rw[<-a3,zq];have e1:(vh I++[.tup [.str "plain",.str nm]])++[.tup [.str "turned",.str nm]]=vh (I++[.lf false nm,.lf true nm]):=by unfold vh;rw[AI,Ar];rfl
   rw[e1];refine⟨λτ L3=>∃(b:Bool) (d0 d10:Option Y),τ=[d0,some<|.int s,some<|.int (room:Int),some<|.ref J,some<|.ref g,some<|.int ((i:Nat):Int),some<|.int cell,some<|.int<|one / 9,some<|.int two,some<|.int<|one % 9,d10]/\L3=qi L2 J (.lst<|vh<|I++[.lf b nm,.lf (!b) nm]),?_,?_⟩
   ·refine⟨(by decide:(0:Int)<2),?_⟩;show we (decide<|one / 9 % 2=1) _ _;refine zk (λc2=>?_) λc2=>?_
    ·obtain⟨W,eW⟩:∃W,W=vh (I++[Kn.lf false nm,.lf true nm]):=⟨_,rfl⟩;have l2:W.length=I.length+2:=by rw[eW,C,Ad];rfl
     have t2:(((W.length:Nat):Int)-2).toNat=I.length:=by rw[l2];omega
     have w2:W[I.length]?=some (pF<|.lf false nm):=by rw[eW];unfold vh;rw[Au,dY];rfl
     have e3:W.eraseIdx I.length++[pF<|.lf false nm]=vh (I++[.lf true nm,.lf false nm]):=by rw[eW];unfold vh;rw[AI,List.eraseIdx_append_of_length_le (by simp),Af,DN,AI,Ar];rfl
     rw[<-eW];refine qb q9<|qb q9<|qb q9<|qr q9 ⟨?_,?_,qj (v:=pF<|.lf false nm) (by rw[<-w2,<-t2]) ?_⟩
     ·show(0:Int)<=((W.length:Nat):Int)-2;omega
     ·show((W.length:Nat):Int)-2<_;omega
     ·rw[zq,t2];refine qr q9 ⟨big _<|AW (Dl ..) (by omega),true,_,_,rfl,?_⟩;rw[zq,e3];rfl
    ·exact⟨false,_,_,rfl,rfl⟩
   ·rintro bg L3 ⟨b,d0,d10,rfl,rfl⟩;have l2:(vh<|I++[Kn.lf b nm,.lf (!b) nm]).length=I.length+2:=by rw[C,Ad];rfl
    have nn:(((vh<|I++[Kn.lf b nm,.lf (!b) nm]).length:Nat):Int)-2=((I.length:Nat):Int):=by rw[l2];omega
    have a4:qi L2 J (.lst<|vh<|I++[.lf b nm,.lf (!b) nm]) g=some (.lst<|zp fo):=by rw[qc<|AG nkf];exact F'.hf
    have en:∀z:Int,z=((I.length:Nat):Int)->zx [I.length,I.length+1]=[.int z,.int<|z+1]:=λz e=>by rw[e];rfl
    have er:∀z:Int,z=((I.length:Nat):Int)->j8 (.link I.length<|I.length+1)=.tup [.str "link",.int z,.int<|z+1]:=λz e=>by rw[e];rfl
    have en:=en _ nn;have er:=er _ nn;refine qb q9<|qb a4 λpb a5 pa ac=>?_;have H:=F'.link ax b (pb:=pb) (pa:=pa) a5 (by rw[en];exact ac) rfl;refine qr (((By a5).trans<|By ac) _ _ a4) ⟨big _ (by rw[U];omega),?_⟩;rw[en,er] at H;refine⟨_,EK _,?_⟩;exact TW.of H (by rw[Ad,Ad];simp;omega)
 ·rintro τ L' ⟨T,c5,c6,c7,c8,c9,l,I,fo,rfl,F,hb⟩;refine⟨λτ L3=>∃T c5 c6 c7 c8 c9 l I fo,τ=[T,some<|.int s,some<|.int (room:Int),some<|.ref J,some<|.ref g,c5,c6,c7,c8,c9,l]/\om L L3 J g I fo/\1<=fo.length/\I.length+fo.length<=max room 3,?_,?_⟩
  ·intro p hp;refine dy (by decide) (By hp _ _ F.hf) q9 ((F.b.mono<|By hp).dats (by lia)) (.nil:Paired (x9 _ 0) _ []) ?_;show we (Da.eqs (fo.map fV) []) _ _;rw[yZ];have F':om L (qi L' p<|.lst []) J g I fo:=F.mono<|By hp;generalize qi L' p (.lst [])=L2 at F';refine zk (λT=>?_) λT=>?_
   ·subst T;have k0:I=[]:=by cases I with|nil=>rfl|cons k r=>exact absurd ((F.b.tm 0).mpr (by simp)) (by simp)
    subst k0;obtain⟨nm,a3⟩:∃nm,nm=l_ (a7 s 0):=⟨_,rfl⟩;have ax:du nm:=by rw[a3];exact sw _ _
    refine qb F'.b.hk ⟨s,0,rfl,qr F'.b.hk ⟨big _ (by decide),?_⟩⟩;refine qb q9 ⟨s,0,rfl,qr q9 ⟨big _ (by show 1<=20000;decide),?_⟩⟩;rw[<-a3,zq];have a4:∀o,qi L2 J o g=some (.lst<|zp []):=λo=>by rw[qc<|AG nkf];exact F'.hf
    refine qb (a4 _) λpb a5 pa ac=>?_;have H:=F'.link ax true (pb:=pb) (pa:=pa) a5 ac rfl;refine qr (((By a5).trans<|By ac) _ _<|a4 _) ⟨big _ (by show 0<=20000;decide),?_⟩;exact⟨_,_,_,_,_,_,_,_,_,rfl,H,by simp,by simp;lia⟩
   ·exact⟨_,_,_,_,_,_,_,I,fo,rfl,F',(by cases fo with|nil=>exact absurd rfl T|cons _ _=>simp),by lia⟩
  ·rintro τ L' ⟨T,c5,c6,c7,c8,c9,l,I,fo,rfl,F,h1,hb⟩;refine⟨λm τ L3=>∃T c5 c6 c7 c8 c9 l I fo,τ=[T,some<|.int s,some<|.int (room:Int),some<|.ref J,some<|.ref g,c5,c6,c7,c8,c9,l]/\om L L3 J g I fo/\1<=fo.length/\fo.length=m/\I.length+fo.length<=max room 3,⟨_,_,_,_,_,_,_,_,_,_,rfl,F,h1,rfl,hb⟩,?_⟩;rintro m τ L' ⟨T,c5,c6,c7,c8,c9,l,I,fo,rfl,F,h1,hm,hb⟩;refine qb F.hf ?_;refine zk (λc1=>?_) λc1=>?_
   ·have c1:(((zp fo).length:Nat):Int) > 1:=c1;rw[U] at c1;refine⟨λτ L3=>∃T c5 c6 c7 c8 c9 l I fo,τ=[T,some<|.int s,some<|.int (room:Int),some<|.ref J,some<|.ref g,c5,c6,c7,c8,c9,l]/\om L L3 J g I fo/\1<=fo.length/\fo.length+1=m/\I.length+fo.length<=max room 3,?_,?_⟩
    ·rintro τ L3 ⟨d0,d5,d6,d7,d8,d9,d10,a1,a2,rfl,F3,g1,g2,g3⟩;exact⟨m-1,by lia,_,_,_,_,_,_,_,_,_,rfl,F3,g1,by lia,g3⟩
    ·refine⟨⟨by decide,by decide⟩,qb F.hf ⟨⟨by decide,by decide⟩,L,J,g,I,fo,_,_,rfl,F,by lia,by lia,by lia,λL3 a1 a2 F3 g1 g2 _=>?_⟩⟩;exact⟨_,EK _,_,_,_,_,_,_,_,a1,a2,rfl,F3,by lia,by lia,by lia⟩
   ·have c1:¬((((zp fo).length:Nat):Int) > 1):=c1;rw[U] at c1;obtain⟨t,rfl⟩:∃t,fo=[t]:=by
     match fo,h1,c1 with
     |[t],_,_=>exact⟨t,rfl⟩
     |t::u::r,_,c=>exact absurd (show(((t::u::r).length:Nat):Int) > 1 by simp;lia) c
    have ta:=(F.b.ht t<|Aj ..).1;refine qb F.hf<|qb ta ?_;have tp:(z0 t.R).Perm (List.range I.length):=by have nd:=F.b.nd;have tm:=F.b.tm;simp at nd tm;exact(A4 nd C0).mpr λx=>by rw[tm,Ba]
    exact mV (qh.put F.b.sub F.b.hk) (q J I t.R t.E al F.b.ok (F.b.sr t<|Aj ..) tp (by simp at hb;lia))
end L3
namespace L2
open PySem PySem.Spec PyProof.Rows
end L2
namespace L2
open PySem PySem.Spec PyProof.Rows
def RM:Vz->Hp->VK->Prop:=λxs H Q=>∃n:Int,xs=[.int n]/\∀p,H p=none->Q (.ref p) (upd H p<|.rng 0 n)
def RN:jg X (.type "range") RM:=by rintro J s g H j l Q I r⟨n,rfl,q⟩;obtain⟨u,rfl,U⟩:=r.one;obtain⟨t,rfl⟩:=(show ∃t,u=Value.int n t from U);refine call_range_1 ?_;refine⟨.ref s.heap.objs.size,_,I.laid (t':=s.toks+1+1) (o:=.rng 0 n) (λb ob q=>vb _ q) (Ap _) ?_,rfl,q _<|I.hok.fresh<|Ap _⟩;exact⟨s.toks,t,s.toks+1,xT _ rfl⟩
def xF{I:Vj}(h:ItemsOf (λi v=>∃t,v=.int (0+(i:Int)*1) t) I n):zu ((List.range n).map λi:Nat=>V.int<|0+(i:Int)) I.toList:=by
 have len:I.toList.length=n:=by rw[Bc];exact h.1
 have key:∀(l:Vi) (k:Nat),(∀(j:Nat) v,l[j]?=some v->∃t,v=Value.int (0+((k+j:Nat):Int)*1) t)->zu ((List.range' k l.length).map λi:Nat=>V.int<|0+(i:Int)) l:=by
  intro l
  induction l with
  |nil=>intro k _;exact .nil
  |cons v r g=>
   intro k U;rw[AF,Eo,AJ];obtain⟨t,e⟩:=U 0 v rfl;refine .cons ?_<|g (k+1) λj o J=>?_
   ·exact⟨t,by rw[e];simp⟩
   ·have:=U (j+1) o J;rw[show k+1+j=k+(j+1) by simp +arith only];exact this
 have:=key I.toList 0 λj v J=>by rw[DO];exact h.2 j v (by simpa using J)
 rw[len,<-List.range_eq_range'] at this;exact this
def RP:Vz->Hp->VK->Prop:=λxs H Q=>∃a,∃n:Nat,xs=[.ref a]/\H a=some (.rng 0 n)/\n<=100000/\∀p,H p=none->Q (.ref p) (upd H p<|.lst ((List.range n).map λi:Nat=>V.int<|0+(i:Int)))
theorem zA(hc:X.calm=true):jg X (.type "list") RP:=by
 rintro g s σ H xs us Q I r⟨a,n,rfl,j,l,q⟩;obtain⟨u,rfl,p⟩:=r.one;cases (show u=Value.ref a from p);obtain⟨t,u,v,e⟩:=I.hok a _ j;have hb:(100000:Nat)<=sizeLine:=by decide
 have C:Builtin.Range.rangeSize 0 (n:Int) 1=((n:Nat):Int):=by rw[rangeSize_one];split<;>lia
 refine jq I.tk<|call_list_range (I.ok.hd hc) (show IsRange s.heap a 0 (n:Int) 1 t u v from e) (small_one (by decide) (by decide) (by exact A3 _) (by omega)) C (AW l (by decide)) λh' tk U c T hS J ht=>?_;refine⟨.ref s.heap.objs.size,_,I.laid (t':=tk) (o:=.lst ((List.range n).map λi:Nat=>V.int<|0+(i:Int))) T (Ap _) ?_,rfl,q _<|I.hok.fresh<|Ap _⟩;refine⟨by rw[Af,B1];exact GO,U.toList,c,xF J,?_⟩;rw[hS]
end L2
namespace L3
open PySem L2
def RQ:bootBuiltins "range"=some (.type "range"):=by decide +kernel
def uc(te:xu)(τ:jo)(L:qk)(Q:YK):Prop:=te τ L λy L1=>match y with
 |.int n=>(0<=n/\n<=100000)/\∀p,L1 p=none->Q (.ref p) (qi L1 p<|.lst<|ag 0 n.toNat)
 |_=>False
def RS(n:Nat):xt G H (ag 0 n) ((List.range n).map λi:Nat=>V.int<|0+(i:Int)):=by
 unfold ag;generalize List.range n=l
 induction l with|nil=>rfl|cons k r I=>exact⟨_,_,rfl,rfl,I⟩
theorem wP{p I:Pos}(hc:X.calm=true)(C:Gl X "list")(T:X.mg "list"=none)(j:Gl X "range")(l:X.mg "range"=none)(h:QE X e te)
 (h1:starEach [.Call (.Name "range" p2) [e] [] I] X.env=(false,eval (.Call (.Name "range" p2) [e] [] I) X.env)::starEach [] X.env:=by rfl) (h2:(backTo pos<|starEach [] X.env).any (·.1)=false:=by rfl)
 (h3:starEach [e] X.env=(false,eval e X.env)::starEach [] X.env:=by rfl) (h4:(backTo I<|starEach [] X.env).any (·.1)=false:=by rfl):
 QE X (.Call (.Name "list" p) [.Call (.Name "range" p2) [e] [] I] [] pos) (uc te):=
 EO (jZ (zA hc) C T vk (wz (jZ RN j l RQ (wz h dX h3) (by decide) (by decide) h3 h4) dX h1) (by decide) (by decide) h1 h2) λσ H Q τ L Q3 rs rl z k=>
 ⟨τ,L,_,rs,rl,z,λv H1 y L1 t1 J o U=>by
  cases y with
  |int n=>
   obtain⟨⟨h0,h5⟩,U⟩:=U;cases (show v=V.int n from o);obtain⟨m,rfl⟩:∃m:Nat,n=(m:Int):=⟨n.toNat,by lia⟩;refine⟨_,rfl,λq r=>⟨q,m,rfl,zg,by lia,λp g=>?_⟩⟩;have t:H1 p=none:=by
    by_cases c:p=q
    ·subst c;exact r
    ·rw[ql c] at g;exact g
   exact k _ _ _ _ (t1.trans<|(EN r).trans<|EN g) ((J.skip r).newL g<|RS m) (by rfl) (U p<|J.none t)
  |_=>exact U.elim⟩
section
variable {tr:fS}{m:Str}{g:Addr}
end
end L3
namespace TS
open PySem PyProof.Rows
abbrev VJ:=Keyed->Int
abbrev VI:=Array Keyed
abbrev VH:=List Keyed
def RT:Bool->Keyed->VI->Nat->Nat->Nat->StateT SortSt Sem (Option Nat):=sortPriv% PySem.Builtin.gallop
section
variable {w:Vw}
structure Ord(prog:Vv)(w:Vw)(A:Around)(s:Vu)(κ:SortKind)(Ok:Keyed->Prop)(f:VJ):Prop where
 lt:∀x y,Ok x->Ok y->∀{E:Vd} {Q:Bool->Vu->Prop},Q (decide<|f x<f y) s->wpAny (model prog w) A (keyLt' κ x.1 y.1) Q E s
variable {κ:SortKind}{Ok:Keyed->Prop}{f:VJ}
def w_lt(O:Ord prog w A s κ Ok f){st:SortSt}{x y:Keyed}{Q:Option Bool->SortSt->Prop}(I:kindOf st=κ)(J:Ok x)(U:Ok y)(h:Q (some<|decide<|f x<f y) st):wpS (model prog w) A E s (lt' x y) Q st:=by rw[lt'_eq];refine Ac<|wpS_get ?_;rw[I];refine Ac<|wpS_lift<|wpAny_attempt<|O.lt x y J U ⟨rfl,?_⟩;exact Ae h
def xq{arr:VI}{x:Keyed}{st:SortSt}{Q:Keyed->SortSt->Prop}(h:arr[i]?=some x)(q:Q x st):wpS (model prog w) A E s (elem' arr i) Q st:=by rw[elem'_eq,h];exact Ae q
def Jx(left:Bool)(key:Keyed)(arr:VI)(i:Nat):StateT SortSt Sem (Option Bool):=elem' arr i >>= λx=>if left=true then lt' x key else lt' key x >>= λr=>pure<|r.map λb=>!b
def RU(O:Ord prog w A s κ Ok f){left:Bool}{key x:Keyed}{arr:VI}{st:SortSt}{Q:Option Bool->SortSt->Prop}(J:kindOf st=κ)(I:Ok key)(U:Ok x)(hi:arr[i]?=some x)
 (q:Q (some<|if left=true then decide (f x<f key) else !decide (f key<f x)) st):wpS (model prog w) A E s (Jx left key arr i) Q st:=by
 refine Ac<|xq hi ?_;cases left with|true=>exact w_lt O J U I q|false=>exact Ac<|w_lt O J I U<|Ae q
def cL(O:Ord prog w A s κ Ok f){left:Bool}{key:Keyed}{arr:VI}{base hint:Nat}{st:SortSt}{Q:Option Nat->SortSt->Prop}(hk:kindOf st=κ)(a3:Ok key)(hh:hint<n)
 (it:Nat->Keyed) (hit:∀i,i<n->arr[base+i]?=some (it i)/\Ok (it i)) (o:Nat->Bool) (a4:∀i,i<n->o i=if left=true then decide (f (it i)<f key) else !decide (f key<f (it i)))
 (mono:∀i j,i<=j->j<n->o j=true->o i=true)
 (q:∀k,k<=n->(∀i,i<k->o i=true)->(∀i,k<=i->i<n->o i=false)->Q (some k) st):wpS (model prog w) A E s (RT left key arr base n hint) Q st:=by
 have go:∀i,i<n->∀Q':Option Bool->SortSt->Prop,Q' (some<|o i) st->wpS (model prog w) A E s (Jx left key arr<|base+i) Q' st:=λi U Q' h=>RU O hk a3 (hit i U).2 (hit i U).1 (by rw[<-a4 i U];exact h);refine Ac<|go hint hh _ ?_;dsimp only;cases hb:o hint with
 |true=>
  rw[AA rfl];refine Ac (AV (AM (I:=λx c g=>g=st/\∃l J,c=(none,l,J)/\l<J/\l<n-hint/\o (hint+l)=true/\x+1<=J)
   (Q:=λc g=>g=st/\∃l J,c=(none,l,J)/\l<J/\l<n-hint/\o (hint+l)=true/\(n-hint<=J\/o (hint+J)=false)) ?_ ?_ ⟨rfl,0,1,rfl,by exact BH _,by omega,hb,by exact BH _⟩) ?_)
  ·rintro x c g _ hx ⟨rfl,l,J,rfl,h1,h2,h3,r⟩;dsimp only;by_cases c:J>=n-hint
   ·rw[AA c];exact Ae ⟨rfl,l,J,rfl,h1,h2,h3,.inl c⟩
   ·rw[Ay c];refine Ac<|go (hint+J) (by lia) _ ?_;dsimp only;cases t:o (hint+J) with
    |true=>
     rw[Ay (by simp)];exact Ae ⟨rfl,J,2*J+1,rfl,by simp +arith only,by exact Ia,t,by lia⟩
    |false=>
     rw[AA (by simp)];exact Ae ⟨rfl,l,J,rfl,h1,h2,h3,.inr t⟩
  ·rintro c g ⟨rfl,l,J,rfl,h1,h2,h3,r⟩;exact⟨rfl,l,J,rfl,h1,h2,h3,.inl (by lia)⟩
  ·rintro c g ⟨rfl,l,J,rfl,h1,h2,h3,r⟩;dsimp only;obtain⟨lo,a1⟩:∃lo,lo=hint+l+1:=⟨_,rfl⟩;obtain⟨U,a2⟩:∃U,U=hint+min J (n-hint):=⟨_,rfl⟩;rw[<-a1,<-a2];have g1:lo<=U:=by omega
   have g2:U<=n:=by lia
   have g3:∀i,i<lo->o i=true:=λi U=>mono i (hint+l) (by lia) (by lia) h3;have g4:∀i,U<=i->i<n->o i=false:=λi h5 h6=>by
    rcases r with r|r
    ·omega
    ·cases e:o i with
     |false=>rfl
     |true=>
      by_cases c:J<n-hint
      ·rw[mono (hint+J) i (by omega) h6 e] at r;cases r
      ·omega
   refine Ac (AV (AM (I:=λx c sx=>sx=g/\∃lo U,c=(none,lo,U)/\lo<=U/\U<=n/\(∀i,i<lo->o i=true)/\(∀i,U<=i->i<n->o i=false)/\U-lo+x<=n)
    (Q:=λc sx=>sx=g/\∃U,c=(none,U,U)/\U<=n/\(∀i,i<U->o i=true)/\(∀i,U<=i->i<n->o i=false)) ?_ ?_ ⟨rfl,lo,U,rfl,g1,g2,g3,g4,by exact Ic⟩) ?_)
   ·rintro x c p _ hx ⟨rfl,lo,U,rfl,k1,C,T,k4,k5⟩;dsimp only;by_cases c:lo>=U
    ·rw[AA c];have:lo=U:=by lia
     subst this;exact Ae ⟨rfl,lo,rfl,C,T,k4⟩
    ·rw[Ay c];refine Ac<|go (lo+(U-lo) / 2) (by lia) _ ?_;dsimp only;cases t:o (lo+(U-lo) / 2) with
     |true=>
      rw[AA rfl];exact Ae ⟨rfl,lo+(U-lo) / 2+1,U,rfl,by lia,C,λi h5=>mono i _ (by exact Ib) (by lia) t,k4,by lia⟩
     |false=>
      rw[Ay (by simp)];refine Ae ⟨rfl,lo,lo+(U-lo) / 2,rfl,by exact Bg _ _,by lia,T,λi h5 h6=>?_,by omega⟩;cases e:o i with|false=>rfl|true=>rw[mono _ i h5 h6 e] at t;cases t
   ·rintro c p ⟨rfl,lo,U,rfl,k1,C,T,k4,k5⟩;have:lo=U:=by lia
    subst this;exact⟨rfl,lo,rfl,C,T,k4⟩
   ·rintro c p ⟨rfl,U,rfl,C,T,k4⟩;exact Ae<|q U C T k4
 |false=>
  rw[Ay (by simp)];refine Ac (AV (AM (I:=λx c g=>g=st/\∃l J,c=(none,l,J)/\l<J/\l<hint+1/\o (hint-l)=false/\x+1<=J)
   (Q:=λc g=>g=st/\∃l J,c=(none,l,J)/\l<J/\l<hint+1/\o (hint-l)=false/\(hint+1<=J\/o (hint-J)=true)) ?_ ?_ ⟨rfl,0,1,rfl,by lia,by exact BQ _,hb,by lia⟩) ?_)
  ·rintro x c g _ hx ⟨rfl,l,J,rfl,h1,h2,h3,r⟩;dsimp only;by_cases c:J>=hint+1
   ·rw[AA c];exact Ae ⟨rfl,l,J,rfl,h1,h2,h3,.inl c⟩
   ·rw[Ay c];refine Ac<|go (hint-J) (by exact sH) _ ?_;dsimp only;cases t:o (hint-J) with
    |true=>
     rw[AA rfl];exact Ae ⟨rfl,l,J,rfl,h1,h2,h3,.inr t⟩
    |false=>
     rw[Ay (by simp)];exact Ae ⟨rfl,J,2*J+1,rfl,by lia,by exact Ia,t,by lia⟩
  ·rintro c g ⟨rfl,l,J,rfl,h1,h2,h3,r⟩;exact⟨rfl,l,J,rfl,h1,h2,h3,.inl (by exact uV)⟩
  ·rintro c g ⟨rfl,l,J,rfl,h1,h2,h3,r⟩;dsimp only;obtain⟨lo,a1⟩:∃lo,lo=hint+1-min J (hint+1):=⟨_,rfl⟩;obtain⟨U,a2⟩:∃U,U=hint-l:=⟨_,rfl⟩;rw[<-a1,<-a2];have g1:lo<=U:=by omega
   have g2:U<=n:=by omega
   have g3:∀i,i<lo->o i=true:=λi h5=>by
    rcases r with r|r
    ·omega
    ·exact mono i (hint-J) (by omega) (by exact sH) r
   have g4:∀i,U<=i->i<n->o i=false:=λi h5 h6=>by cases e:o i with|false=>rfl|true=>rw[mono (hint-l) i (by lia) h6 e] at h3;cases h3
   refine Ac (AV (AM (I:=λx c sx=>sx=g/\∃lo U,c=(none,lo,U)/\lo<=U/\U<=n/\(∀i,i<lo->o i=true)/\(∀i,U<=i->i<n->o i=false)/\U-lo+x<=n)
    (Q:=λc sx=>sx=g/\∃U,c=(none,U,U)/\U<=n/\(∀i,i<U->o i=true)/\(∀i,U<=i->i<n->o i=false)) ?_ ?_ ⟨rfl,lo,U,rfl,g1,g2,g3,g4,by exact Ic⟩) ?_)
   ·rintro x c p _ hx ⟨rfl,lo,U,rfl,k1,C,T,k4,k5⟩;dsimp only;by_cases c:lo>=U
    ·rw[AA c];have:lo=U:=by lia
     subst this;exact Ae ⟨rfl,lo,rfl,C,T,k4⟩
    ·rw[Ay c];refine Ac<|go (lo+(U-lo) / 2) (by lia) _ ?_;dsimp only;cases t:o (lo+(U-lo) / 2) with
     |true=>
      rw[AA rfl];exact Ae ⟨rfl,lo+(U-lo) / 2+1,U,rfl,by lia,C,λi h5=>mono i _ (by lia) (by lia) t,k4,by lia⟩
     |false=>
      rw[Ay (by simp)];refine Ae ⟨rfl,lo,lo+(U-lo) / 2,rfl,by lia,by lia,T,λi h5 h6=>?_,by lia⟩;cases e:o i with|false=>rfl|true=>rw[mono _ i h5 h6 e] at t;cases t
   ·rintro c p ⟨rfl,lo,U,rfl,k1,C,T,k4,k5⟩;have:lo=U:=by lia
    subst this;exact⟨rfl,lo,rfl,C,T,k4⟩
   ·rintro c p ⟨rfl,U,rfl,C,T,k4⟩;exact Ae<|q U C T k4
end
def RW:VI->VI->StateT SortSt Sem (VI):=sortPriv% PySem.Builtin.mergeLo
def RX:VI->VI->StateT SortSt Sem (VI):=sortPriv% PySem.Builtin.mergeHi
structure MI(f:VJ)(la lb fu ra rb:VH):Prop where
 perm:(fu++(ra++rb)).Perm (la++lb)
 so:fu.Pairwise λx y=>f x<=f y
 sa:ra.Pairwise λx y=>f x<=f y
 sb:rb.Pairwise λx y=>f x<=f y
 oa:∀x∈fu,∀y∈ra,f x<=f y
 ob:∀x∈fu,∀y∈rb,f x<=f y
def MI.a{f:VJ}{j l fu seg o U:VH}(h:MI f j l fu (seg++o) U)(hs:∀x∈seg,∀y∈U,f x<=f y):MI f j l (fu++seg) o U:=by
 have g:=AR.mp h.sa;refine⟨?_,AR.mpr ⟨h.so,g.1,λx I y J=>h.oa x I y<|Ao _ J⟩,g.2.1,h.sb,λx I y J=>?_,λx I y J=>?_⟩
 ·have:=h.perm;rw[Ar] at this ⊢;exact this
 ·rcases Ak.mp I with I|I
  ·exact h.oa x I y<|Ag _ J
  ·exact g.2.2 x I y J
 ·rcases Ak.mp I with I|I
  ·exact h.ob x I y J
  ·exact hs x I y J
def MI.b{f:VJ}{l o fu seg U g:VH}(h:MI f l o fu U<|seg++g)(hs:∀x∈seg,∀y∈U,f x<=f y):MI f l o (fu++seg) U g:=by
 have j:=AR.mp h.sb;refine⟨?_,AR.mpr ⟨h.so,j.1,λx I y J=>h.ob x I y<|Ao _ J⟩,h.sa,j.2.1,λx I y J=>?_,λx I y J=>?_⟩
 ·refine List.Perm.trans ?_ h.perm;rw[Ar];exact(BD fu).mpr (by rw[<-Ar,<-Ar];exact(BA g).mpr AU)
 ·rcases Ak.mp I with I|I
  ·exact h.oa x I y J
  ·exact hs x I y J
 ·rcases Ak.mp I with I|I
  ·exact h.ob x I y<|Ag _ J
  ·exact j.2.2 x I y J
def w5(f:VJ)(I J r:VH):Prop:=r.Perm (I++J)/\r.Pairwise λx y=>f x<=f y
def MI.ea{f:VJ}{I J fu U:VH}(h:MI f I J fu U []):w5 f I J (fu++U):=⟨by have:=h.perm;rwa[AC] at this,AR.mpr ⟨h.so,h.sa,h.oa⟩⟩
def MI.eb{f:VJ}{g j fu J U:VH}(h:MI f g j fu J U)(hs:∀x∈U,∀y∈J,f x<=f y):w5 f g j (fu++U++J):=by
 refine⟨List.Perm.trans ?_ h.perm,?_⟩
 ·rw[Ar];exact(BD fu).mpr AU
 ·rw[Ar];refine AR.mpr ⟨h.so,AR.mpr ⟨h.sb,h.sa,hs⟩,λx l y I=>?_⟩;rcases Ak.mp I with I|I
  ·exact h.ob x l y I
  ·exact h.oa x l y I
structure MP(f:VJ)(a b fu:VI)(ia ib:Nat):Prop where
 mi:MI f a.toList b.toList fu.toList (a.toList.drop ia) (b.toList.drop ib)
 sz:fu.size=ia+ib
 la:ia<=a.size
 lb:ib<=b.size
def Jy(a:VI)(h:i<a.size):a.toList.drop i=a[i]::a.toList.drop (i+1):=by rw[B5 (by simpa using h)];simp
def iW(a:VI)(i j:Nat):(a.extract i j).toList=(a.toList.drop i).take (j-i):=by rw[Array.toList_extract,List.extract_eq_drop_take]
def Jz(l:VH)(i k:Nat):(l.drop i).take k++l.drop (i+k)=l.drop i:=by rw[<-List.drop_drop,A8]
def rA{a:VI}{k:Nat}{x:Keyed}(h:x∈(a.toList.drop i).take k):∃j,∃I:i+j<a.size,j<k/\a[i+j]=x:=by
 obtain⟨j,I,e⟩:=BU h;rw[AZ,BF] at I;have h1:i+j<a.size:=by have:a.toList.length=a.size:=Bc;omega
 refine⟨j,h1,by omega,?_⟩;rw[<-e];simp
def iF{a:VI}{x:Keyed}(h:x∈a.toList.drop i):∃j,∃I:j<a.size,i<=j/\a[j]=x:=by
 obtain⟨j,I,e⟩:=BU h;rw[BF] at I;have h1:i+j<a.size:=by have:a.toList.length=a.size:=Bc;omega
 refine⟨i+j,h1,by exact Bg _ _,?_⟩;rw[<-e];simp
def n_{f:VJ}{a:VI}(s:a.toList.Pairwise λx y=>f x<=f y)(I:i<=j)(J:j<a.size):f (a[i]'(by exact o7))<=f a[j]:=by
 rcases DW I with h|h
 ·have:=C3.mp s i j (by simpa using (by exact o7:i<a.size)) (by simpa using J) h;simpa using this
 ·subst h;exact Do _
section
variable {f:VJ}{a b fu:VI}{ia ib:Nat}
def MP.segA(M:MP f a b fu ia ib){k:Nat}(J:ia+k<=a.size)(h:∀i (hi:ia+i<a.size),i<k->∀j (I:j<b.size),ib<=j->f a[ia+i]<=f b[j]):MP f a b (fu++a.extract ia (ia+k)) (ia+k) ib:=by
 refine⟨?_,?_,J,M.lb⟩
 ·rw[Bf,iW,show ia+k-ia=k by omega];refine MI.a (by rw[Jz];exact M.mi) λx U y g=>?_;obtain⟨i,hi,h1,rfl⟩:=rA U;obtain⟨j,I,h2,rfl⟩:=iF g;exact h i hi h1 j I h2
 ·rw[BW,Dg,M.sz];lia
def MP.segB(M:MP f a b fu ia ib){k:Nat}(J:ib+k<=b.size)(h:∀i (hi:ib+i<b.size),i<k->∀j (I:j<a.size),ia<=j->f b[ib+i]<=f a[j]):MP f a b (fu++b.extract ib (ib+k)) ia (ib+k):=by
 refine⟨?_,?_,M.la,J⟩
 ·rw[Bf,iW,show ib+k-ib=k by lia];refine MI.b (by rw[Jz];exact M.mi) λx U y g=>?_;obtain⟨i,hi,h1,rfl⟩:=rA U;obtain⟨j,I,h2,rfl⟩:=iF g;exact h i hi h1 j I h2
 ·rw[BW,Dg,M.sz];lia
def MP.oneA(M:MP f a b fu ia ib)(hi:ia<a.size)(h:∀j (I:j<b.size),ib<=j->f a[ia]<=f b[j]):MP f a b (fu.push a[ia]) (ia+1) ib:=by refine⟨?_,by rw[Bp,M.sz];simp +arith only,hi,M.lb⟩;rw[Dv];refine MI.a (seg:=[a[ia]]) (by rw[Dz,<-Jy a hi];exact M.mi) λx J y U=>?_;obtain⟨j,I,h2,rfl⟩:=iF U;rw[An.mp J];exact h j I h2
def MP.oneB(M:MP f a b fu ia ib)(hi:ib<b.size)(h:∀j (I:j<a.size),ia<=j->f b[ib]<=f a[j]):MP f a b (fu.push b[ib]) ia (ib+1):=by refine⟨?_,by rw[Bp,M.sz];exact EI _ _ _,M.la,hi⟩;rw[Dv];refine MI.b (seg:=[b[ib]]) (by rw[Dz,<-Jy b hi];exact M.mi) λx J y U=>?_;obtain⟨j,I,h2,rfl⟩:=iF U;rw[An.mp J];exact h j I h2
def MP.done(M:MP f a b fu ia ib)(h:ib=b.size):w5 f a.toList b.toList (fu++a.extract ia++b.extract ib).toList:=by have e:b.toList.drop ib=[]:=Ex (by rw[Bc];lia);have m:=M.mi;rw[e] at m;have:=m.ea;rw[Bf,Bf,iW,iW,e,List.take_nil,AC,AS (by simp)];exact this
def MP.last(M:MP f a b fu ia ib)(h:ia+1=a.size)(I:∀x∈b.toList,f x<f (a[a.size-1]'(by omega))):w5 f a.toList b.toList (fu++b.extract ib++a.extract ia).toList:=by
 have:=M.mi.eb λx J y U=>by
  obtain⟨j,g,h2,rfl⟩:=iF U;have e:j=a.size-1:=by omega
  subst e;exact BS<|I x<|CT J
 rw[Bf,Bf,iW,iW,AS (by simp),AS (by simp)];exact this
end
section
variable {w:Vw}{κ:SortKind}{Ok:Keyed->Prop}{f:VJ}
abbrev gf(st:SortSt)(g:Nat):SortSt:=SortSt.mk' (kindOf st) (arrOf st) (pendingOf st) g<|failedOf st
def tJ{c:Prop}{_:Decidable c}{K:β->StateT SortSt Sem α}{y:β}{Q:α->SortSt->Prop}{st:SortSt}(key:∀z,wpS (model prog w) A E s (K z) Q st):∀x,wpS (model prog w) A E s (if c then K x else K y) Q st:=λx=>by
 by_cases h:c
 ·rw[AA h];exact key x
 ·rw[Ay h];exact key y
def l8{I:Type}{c:Prop}{_:Decidable c}{K T:β->I->StateT SortSt Sem α}{P:β->I->Prop}{x:β}{i:I}{Q:α->SortSt->Prop}{st:SortSt}(key:∀o j,P o j->wpS (model prog w) A E s (K o j) Q st)(J:¬c->P x i)
 (U:c->(∀o j,P o j->wpS (model prog w) A E s (K o j) Q st)->wpS (model prog w) A E s (T x i) Q st):∀o,x=o->∀j,i=j->wpS (model prog w) A E s (if c then T o j else K o j) Q st:=by
 rintro _ rfl _ rfl;by_cases h:c
 ·rw[AA h];exact U h key
 ·rw[Ay h];exact key x i<|J h
def xr{c:Prop} [Decidable c]{x y:StateT SortSt Sem α}{Q:α->SortSt->Prop}{st:SortSt}(h:c)(k:wpS M A E s x Q st):wpS M A E s (if c then x else y) Q st:=by rw[AA h];exact k
def xb{c:Prop} [Decidable c]{x y:StateT SortSt Sem α}{Q:α->SortSt->Prop}{st:SortSt}(h:¬c)(k:wpS M A E s y Q st):wpS M A E s (if c then x else y) Q st:=by rw[Ay h];exact k
def fI{c:Prop} [Decidable c]{x y:StateT SortSt Sem α}{Q:α->SortSt->Prop}{st:SortSt}(h:c->wpS M A E s x Q st)(k:¬c->wpS M A E s y Q st):wpS M A E s (if c then x else y) Q st:=by
 by_cases d:c
 ·rw[AA d];exact h d
 ·rw[Ay d];exact k d
def Gj{a:VI}(ok:∀x∈a.toList,Ok x)(U:a.toList.Pairwise λx y=>f x<=f y)(d:Keyed):∃t:Nat->Keyed,(∀i (hi:i<a.size),t i=a[i])/\(∀i,i<a.size->a[i]?=some (t i))/\(∀i,i<a.size->Ok (t i))/\∀{i j},i<=j->j<a.size->f (t i)<=f (t j):=by
 have e:∀i (hi:i<a.size),(a[i]?).getD d=a[i]:=λi hi=>by simp[hi]
 exact⟨λi=>(a[i]?).getD d,e,λi hi=>by simp[hi],λi hi=>by show Ok ((a[i]?).getD d);rw[e i hi];exact ok _ (by simp),λ{i j} I J=>by show f ((a[i]?).getD d)<=f ((a[j]?).getD d);rw[e i (by exact o7),e j J];exact n_ U I J⟩
theorem RY(O:Ord prog w A s κ Ok f){a b:VI}{st:SortSt}{Q:VI->SortSt->Prop}(hk:kindOf st=κ)(bj:∀x∈a.toList,Ok x)(bn:∀x∈b.toList,Ok x)
 (sa:a.toList.Pairwise λx y=>f x<=f y) (sb:b.toList.Pairwise λx y=>f x<=f y) (ha:0<a.size) (hb:0<b.size) (h0:∀x∈a.toList,f b[0]<f x) (hl:∀x∈b.toList,f x<f a[a.size-1])
 (q:∀r g,w5 f a.toList b.toList r.toList->Q r (gf st g)):wpS (model prog w) A E s (RW a b) Q st:=by
 refine Ac<|wpS_lift<|Bv ⟨rfl,?_⟩;refine Ac<|xq (x:=b[0]) (by simp[hb]) ?_;dsimp only;have M0:MP f a b #[b[0]] 0 1:=by have M:MP f a b #[] 0 0:=⟨⟨by simp,by simp,by simpa using sa,by simpa using sb,by simp,by simp⟩,rfl,Bb _,Bb _⟩;have:=M.oneB hb λj hj _=>BS<|h0 a[j] (by simp);simpa using this
 by_cases c1:(1==b.size)=true
 ·refine xr c1 ?_;exact Ae<|q _ (gallopOf st)<|M0.done (by simpa using c1)
 refine xb c1 ?_;by_cases c2:(0+1==a.size)=true
 ·refine xr c2 ?_;exact Ae<|q _ (gallopOf st)<|M0.last (by simpa using c2) hl
 refine xb c2 ?_;have c1:¬1=b.size:=by simpa using c1
 have c2:¬1=a.size:=by simpa using c2
 refine Ac<|wpS_get ?_;have bp:∀i (hi:i<a.size),Ok a[i]:=λi hi=>bj _ (by simp);have bq:∀i (hi:i<b.size),Ok b[i]:=λi hi=>bn _ (by simp);have au:∀i (hi:i<a.size),a[i]?=some a[i]:=λi hi=>by simp[hi]
 have av:∀i (hi:i<b.size),b[i]?=some b[i]:=λi hi=>by simp[hi]
 obtain⟨tA,bf,cc,cm,cn⟩:=Gj (f:=f) bj sa b[0];obtain⟨tB,bS,cq,cv,cw⟩:=Gj (f:=f) bn sb b[0];refine Ac (AV (AM (I:=λx c p=>(∃g,p=gf st g)/\∃a3 l U mg,c=(none,a3,l,U,mg)/\MP f a b a3 l U/\l+1<a.size/\U<b.size/\x+1<=a3.size)
  (Q:=λc p=>(∃g,p=gf st g)/\∃r,c.1=some r/\w5 f a.toList b.toList r.toList) ?_ ?_ ⟨⟨gallopOf st,rfl⟩,_,_,_,_,rfl,M0,by exact A_,by exact A_,by simp⟩) ?_)
 ·rintro x c p _ hx ⟨⟨g,rfl⟩,a3,l,U,mg,rfl,M,T,t,hs⟩;dsimp only;refine Ac (AV (AM (I:=λy c p=>p=gf st g/\∃J l U ac bc,c=(none,J,l,U,ac,bc)/\MP f a b J l U/\l+1<a.size/\U<b.size/\a3.size+y<=J.size)
   (Q:=λc p=>p=gf st g/\((∃r,c.1=some r/\w5 f a.toList b.toList r.toList)\/∃J l U ac bc,c=(none,J,l,U,ac,bc)/\MP f a b J l U/\l+1<a.size/\U<b.size/\a3.size+1<=J.size)) ?_ ?_ ⟨rfl,_,_,_,_,_,rfl,M,T,t,Ap _⟩) ?_)
  ·rintro y c p _ hy ⟨rfl,J,l,U,ac,bc,rfl,M,T,t,c3⟩;have ax:l<a.size:=by exact jI
   dsimp only;refine Ac<|xq (av U t) ?_;refine Ac<|xq (au l ax) ?_;refine Ac<|w_lt O hk (bq U t) (bp l ax) ?_;dsimp only;by_cases c:f b[U]<f a[l]
   ·refine xr (AK c) ?_;refine Ac<|xq (av U t) ?_;have M':=M.oneB t λj hj a1=>BS<|Int.lt_of_lt_of_le c<|n_ sa a1 hj;have s2:(J.push b[U]).size=J.size+1:=Bp _;by_cases e1:(U+1==b.size)=true
    ·refine xr e1 ?_;exact Ae ⟨rfl,.inl ⟨_,rfl,M'.done (by simpa using e1)⟩⟩
    ·refine xb e1 ?_;have e1:¬U+1=b.size:=by simpa using e1
     refine fI (λ_=>?_) λ_=>?_
     ·exact Ae ⟨rfl,.inr ⟨_,_,_,_,_,rfl,M',T,by exact A_,by lia⟩⟩
     ·exact Ae ⟨rfl,_,_,_,_,_,rfl,M',T,by lia,by lia⟩
   ·refine xb (by rw[AD c];decide) ?_;refine Ac<|xq (au l ax) ?_;have M':=M.oneA (by lia) λj hj a1=>BY (by omega)<|n_ sb a1 hj;have s2:(J.push a[l]).size=J.size+1:=Bp _;by_cases e1:(l+1+1==a.size)=true
    ·refine xr e1 ?_;exact Ae ⟨rfl,.inl ⟨_,rfl,M'.last (by simpa using e1) hl⟩⟩
    ·refine xb e1 ?_;have e1:¬l+1+1=a.size:=by simpa using e1
     refine fI (λ_=>?_) λ_=>?_
     ·exact Ae ⟨rfl,.inr ⟨_,_,_,_,_,rfl,M',by exact A_,t,by lia⟩⟩
     ·exact Ae ⟨rfl,_,_,_,_,_,rfl,M',by lia,t,by lia⟩
  ·rintro c p ⟨rfl,J,l,U,ac,bc,rfl,M,T,t,c3⟩;have:=M.sz;omega
  ·rintro c p ⟨rfl,h⟩;rcases h with⟨r,er,hr⟩|⟨ba,l,U,ac,bc,rfl,M,T,t,c3⟩
   ·obtain⟨c1,c2⟩:=c;cases er;exact Ae ⟨⟨g,rfl⟩,r,rfl,hr⟩
   ·dsimp only;refine Ac<|wpS_lift<|Bv ⟨rfl,?_⟩;refine Ac (AV (AM (I:=λy c p=>(∃g,p=gf st g)/\∃J l U mg ac bc,c=(none,J,l,U,mg,ac,bc)/\MP f a b J l U/\l+1<a.size/\U<b.size/\ba.size+y<=J.size)
     (Q:=λc p=>(∃g,p=gf st g)/\((∃r,c.1=some r/\w5 f a.toList b.toList r.toList)\/∃J l U mg ac bc,c=(none,J,l,U,mg,ac,bc)/\MP f a b J l U/\l+1<a.size/\U<b.size/\ba.size<=J.size)) ?_ ?_ ⟨⟨g,rfl⟩,_,_,_,_,_,_,rfl,M,T,t,Ap _⟩) ?_)
    ·rintro y c p _ hy ⟨⟨g',rfl⟩,J,l,U,bg,ac,bc,rfl,M,T,t,bb⟩;have ax:l<a.size:=by exact jI
     dsimp only;generalize bg-1=cy;revert cy;refine tJ (y:=bg) λcz=>?_
     all_goals
      refine Ac<|wpS_modify ?_;refine Ac<|xq (av U t) ?_;refine Ac<|cL O hk (bq U t) (by lia) (λi=>tA<|l+i) (λi hi=>⟨cc _ (by lia),cm _ (by lia)⟩) (λi=>!decide (f b[U]<f (tA<|l+i))) (λi hi=>by rw[Ay (by simp)]) (λi j a1 hj h=>?_) λk cP al aL=>?_
      ·have:=cn (i:=l+i) (j:=l+j) (by lia) (by lia);simp at h ⊢;lia
      have al:∀i,i<k->f (tA<|l+i)<=f b[U]:=λi hi=>by have:=al i hi;simpa using this
      have aL:∀i,k<=i->i<a.size-l->f b[U]<f (tA<|l+i):=λi hi hj=>by have:=aL i hi hj;simpa using this
      have kl:k<a.size-l:=by
       rcases DW cP with h|h
       ·exact h
       ·exfalso;have h1:=al (a.size-1-l) (by lia);have h2:=hl b[U] (by simp);rw[show l+(a.size-1-l)=a.size-1 by lia,bf _ (by exact z_)] at h1;omega
      have M1:MP f a b (J++a.extract l (l+k)) (l+k) U:=M.segA (by lia) λi hi bh j hj a1=>by have h1:=al i bh;rw[bf _ hi] at h1;exact BY h1<|n_ sb a1 hj
      have pB:∀j (hj:j<a.size),l+k<=j->f b[U]<=f a[j]:=λj hj a1=>by have h1:=aL (j-l) (by lia) (by lia);rw[show l+(j-l)=j by lia,bf _ hj] at h1;lia
      dsimp only;generalize d0:J=o0;generalize dc:l=j0;revert j0;revert o0;refine l8 (P:=λ(o:VI) (j:Nat)=>MP f a b o j U/\J.size<=o.size/\j+1<a.size/\∀j' (hj:j'<a.size),j<=j'->f b[U]<=f a[j']) (x:=J) (i:=l) (λa2 C hP=>?tail) (λck=>?hN) λck key=>?hY
      case hN=>
       obtain rfl:k=0:=by lia
       exact⟨M,Ap _,T,λj hj a1=>pB j hj (by lia)⟩
      case hY=>
       by_cases e1:(l+k+1==a.size)=true
       ·refine xr e1 ?_;exact Ae ⟨⟨_,rfl⟩,.inl ⟨_,rfl,M1.last (by simpa using e1) hl⟩⟩
       ·refine xb e1 (xb (show ¬(l+k==a.size)=true by simp;lia) ?_);have e1:¬l+k+1=a.size:=by simpa using e1
        exact key _ _ ⟨M1,by rw[BW];exact Bg _ _,by lia,pB⟩
      clear pB M1 al aL;obtain⟨M1,h3,l3,pB⟩:=hP;have bi:C<a.size:=by exact jI
      all_goals
       refine Ac<|xq (av U t) ?_;have M2:=M1.oneB t pB;have s2:(a2.push b[U]).size=a2.size+1:=Bp _;by_cases e2:(U+1==b.size)=true
       case' pos=>
        refine xr e2 ?_;exact Ae ⟨⟨_,rfl⟩,.inl ⟨_,rfl,M2.done (by simpa using e2)⟩⟩
       case' neg=>
        refine xb e2 ?_;have e2:¬U+1=b.size:=by simpa using e2
        refine Ac<|xq (au C bi) ?_;refine Ac<|cL O hk (bp C bi) (by lia) (λi=>tB<|U+1+i) (λi hi=>⟨cq _ (by omega),cv _ (by lia)⟩) (λi=>decide<|f (tB<|U+1+i)<f a[C]) (λi hi=>by rw[AA rfl]) (λi j a1 hj h=>?_) λk2 de a4 a5=>?_
        ·have:=cw (i:=U+1+i) (j:=U+1+j) (by lia) (by omega);simp at h ⊢;lia
        have a4:∀i,i<k2->f (tB<|U+1+i)<f a[C]:=λi hi=>by have:=a4 i hi;simpa using this
        have a5:∀i,k2<=i->i<b.size-(U+1)->f a[C]<=f (tB<|U+1+i):=λi hi hj=>by have:=a5 i hi hj;simpa using this
        have M3:MP f a b (a2.push b[U]++b.extract (U+1) (U+1+k2)) C (U+1+k2):=M2.segB (by omega) λi hi bh j hj a1=>by have h1:=a4 i bh;rw[bS _ hi] at h1;exact BY (BS h1)<|n_ sa a1 hj
        have pA:∀j (hj:j<b.size),U+1+k2<=j->f a[C]<=f b[j]:=λj hj a1=>by have h1:=a5 (j-(U+1)) (by lia) (by omega);rw[show U+1+(j-(U+1))=j by lia,bS _ hj] at h1;exact h1
        dsimp only;obtain⟨o3,c4⟩:∃o,o=a2.push b[U]:=⟨_,rfl⟩;obtain⟨aR,cb⟩:∃i,i=U+1:=⟨_,rfl⟩;rw[<-c4] at s2;rw[<-c4,<-cb] at M2 M3 ⊢;rw[<-cb] at pA de;generalize d0:o3=o0;generalize dc:aR=j0;revert j0;revert o0;refine l8 (P:=λ(o:VI) (j:Nat)=>MP f a b o C j/\a2.size+1<=o.size/\j<b.size/\∀j' (hj:j'<b.size),j<=j'->f a[C]<=f b[j']) (x:=o3) (i:=aR) (λbd dj hP=>?tail2) (λck=>?hN) λck key=>?hY
        case hN=>
         obtain rfl:k2=0:=by lia
         exact⟨M2,by lia,by lia,λj hj a1=>pA j hj (by lia)⟩
        case hY=>
         by_cases e3:(aR+k2==b.size)=true
         ·refine xr e3 ?_;exact Ae ⟨⟨_,rfl⟩,.inl ⟨_,rfl,M3.done (by simpa using e3)⟩⟩
         ·refine xb e3 ?_;have e3:¬aR+k2=b.size:=by simpa using e3
          exact key _ _ ⟨M3,by rw[BW];lia,by lia,pA⟩
        clear pA M3 a4 a5;obtain⟨M3,h4,l4,pA⟩:=hP
        all_goals
         refine Ac<|xq (au C bi) ?_;have M4:=M3.oneA (by lia) pA;have s4:(bd.push a[C]).size=bd.size+1:=Bp _;by_cases e4:(C+1+1==a.size)=true
         ·refine xr e4 ?_;exact Ae ⟨⟨_,rfl⟩,.inl ⟨_,rfl,M4.last (by simpa using e4) hl⟩⟩
         ·refine xb e4 ?_;have e4:¬C+1+1=a.size:=by simpa using e4
          refine fI (λ_=>?_) λ_=>?_
          ·exact Ae ⟨⟨_,rfl⟩,.inr ⟨_,_,_,_,_,_,rfl,M4,by exact A_,l4,by lia⟩⟩
          ·exact Ae ⟨⟨_,rfl⟩,_,_,_,_,_,_,rfl,M4,by lia,l4,by lia⟩
    ·rintro c p ⟨⟨g',rfl⟩,J,l,U,bg,ac,bc,rfl,M,T,t,bb⟩;have:=M.sz;omega
    ·rintro c p ⟨⟨g',rfl⟩,h⟩;rcases h with⟨r,er,hr⟩|⟨di,l,U,cz,ac,bc,rfl,M,T,t,bb⟩
     ·obtain⟨c1,c2⟩:=c;cases er;exact Ae ⟨⟨g',rfl⟩,r,rfl,hr⟩
     ·dsimp only;refine Ac<|wpS_modify ?_;exact Ae ⟨⟨_,rfl⟩,_,_,_,_,rfl,M,T,t,by lia⟩
 ·rintro c p ⟨⟨g,rfl⟩,a3,l,U,mg,rfl,M,T,t,hs⟩;have:=M.sz;lia
 ·rintro c p ⟨⟨g,rfl⟩,r,er,hr⟩;obtain⟨c1,c2⟩:=c;cases er;exact Ae<|q r g hr
end
structure MH(f:VJ)(la lb ra rb o:VH):Prop where
 perm:(ra++rb++o).Perm (la++lb)
 so:o.Pairwise λx y=>f x<=f y
 sa:ra.Pairwise λx y=>f x<=f y
 sb:rb.Pairwise λx y=>f x<=f y
 oa:∀x∈ra,∀y∈o,f x<=f y
 ob:∀x∈rb,∀y∈o,f x<=f y
def MH.a{f:VJ}{l p o seg U g:VH}(h:MH f l p (U++seg) g o)(hs:∀x∈g,∀y∈seg,f x<=f y):MH f l p U g (seg++o):=by
 have j:=AR.mp h.sa;refine⟨List.Perm.trans ?_ h.perm,AR.mpr ⟨j.2.1,h.so,λx J y I=>h.oa x (Ag _ J) y I⟩,j.1,h.sb,λx J y I=>?_,λx J y I=>?_⟩
 ·rw[<-Ar];refine(BA o).mpr ?_;rw[Ar,Ar];exact(BD U).mpr AU
 ·rcases Ak.mp I with I|I
  ·exact j.2.2 x J y I
  ·exact h.oa x (Ao _ J) y I
 ·rcases Ak.mp I with I|I
  ·exact hs x J y I
  ·exact h.ob x J y I
def MH.b{f:VJ}{l p o seg U g:VH}(h:MH f l p U (g++seg) o)(hs:∀x∈U,∀y∈seg,f x<=f y):MH f l p U g (seg++o):=by
 have j:=AR.mp h.sb;refine⟨?_,AR.mpr ⟨j.2.1,h.so,λx J y I=>h.ob x (Ag _ J) y I⟩,h.sa,j.1,λx J y I=>?_,λx J y I=>?_⟩
 ·have:=h.perm;rw[<-Ar,Ar U g seg];exact this
 ·rcases Ak.mp I with I|I
  ·exact hs x J y I
  ·exact h.oa x J y I
 ·rcases Ak.mp I with I|I
  ·exact j.2.2 x J y I
  ·exact h.ob x (Ao _ J) y I
def MH.ea{f:VJ}{I J o U:VH}(h:MH f I J [] U o):w5 f I J (U++o):=⟨by have:=h.perm;rwa[Cr] at this,AR.mpr ⟨h.sb,h.so,h.ob⟩⟩
def MH.eb{f:VJ}{g j o J U:VH}(h:MH f g j J U o)(hs:∀x∈U,∀y∈J,f x<=f y):w5 f g j (U++J++o):=by
 refine⟨List.Perm.trans ?_ h.perm,?_⟩
 ·exact(BA o).mpr AU
 ·refine AR.mpr ⟨AR.mpr ⟨h.sb,h.sa,hs⟩,h.so,λx I y l=>?_⟩;rcases Ak.mp I with I|I
  ·exact h.ob x I y l
  ·exact h.oa x I y l
structure HP(f:VJ)(a b fu:VI)(na nb:Nat):Prop where
 mi:MH f a.toList b.toList (a.toList.take na) (b.toList.take nb) fu.toList.reverse
 sz:fu.size+na+nb=a.size+b.size
 la:na<=a.size
 lb:nb<=b.size
def JA(a:VI)(h:i<a.size):a.toList.take (i+1)=a.toList.take i++[a[i]]:=by rw[Bm];simp[h]
def hV{a:VI}{x:Keyed}(h:x∈a.toList.take i):∃j,∃I:j<a.size,j<i/\a[j]=x:=by
 obtain⟨j,I,e⟩:=BU h;rw[AZ] at I;have h1:j<a.size:=by have:a.toList.length=a.size:=Bc;omega
 refine⟨j,h1,by omega,?_⟩;rw[<-e];simp
def Gk(l:VH){k:Nat}(h:i<=k):l.take i++(l.drop i).take (k-i)=l.take k:=by have:=List.take_add (l:=l) (i:=i) (j:=k-i);rw[show i+(k-i)=k by omega] at this;exact this.symm
section
variable {f:VJ}{a b fu:VI}{nb:Nat}
def HP.segA(M:HP f a b fu na nb){k:Nat}(J:k<=na)(h:∀i (hi:i<a.size),k<=i->i<na->∀j (I:j<b.size),j<nb->f b[j]<=f a[i]):HP f a b (fu++(a.extract k na).reverse) k nb:=by
 have l:=M.la;refine⟨?_,?_,by exact GO,M.lb⟩
 ·rw[Bf,C6,CU,List.reverse_reverse,iW];refine MH.a (by rw[Gk _ J];exact M.mi) λx U y g=>?_;obtain⟨j,I,h2,rfl⟩:=hV U;obtain⟨i,hi,h1,rfl⟩:=rA g;exact h (k+i) hi (by exact Bg _ _) (by lia) j I h2
 ·have:=M.sz;rw[BW,Array.size_reverse,Dg];lia
def HP.segB(M:HP f a b fu na nb){k:Nat}(J:k<=nb)(h:∀i (hi:i<b.size),k<=i->i<nb->∀j (I:j<a.size),j<na->f a[j]<=f b[i]):HP f a b (fu++(b.extract k nb).reverse) na k:=by
 have l:=M.lb;refine⟨?_,?_,M.la,by lia⟩
 ·rw[Bf,C6,CU,List.reverse_reverse,iW];refine MH.b (by rw[Gk _ J];exact M.mi) λx U y g=>?_;obtain⟨j,I,h2,rfl⟩:=hV U;obtain⟨i,hi,h1,rfl⟩:=rA g;exact h (k+i) hi (by lia) (by lia) j I h2
 ·have:=M.sz;rw[BW,Array.size_reverse,Dg];lia
def HP.oneA(M:HP f a b fu (na+1) nb)(hi:na<a.size)(h:∀j (I:j<b.size),j<nb->f b[j]<=f a[na]):HP f a b (fu.push a[na]) na nb:=by refine⟨?_,by have:=M.sz;rw[Bp];lia,by exact jI,M.lb⟩;rw[Dv,C6];refine MH.a (seg:=[a[na]]) (by rw[<-JA a hi];exact M.mi) λx J y U=>?_;obtain⟨j,I,h2,rfl⟩:=hV J;rw[An.mp U];exact h j I h2
def HP.oneB(M:HP f a b fu na<|nb+1)(hi:nb<b.size)(h:∀j (I:j<a.size),j<na->f a[j]<=f b[nb]):HP f a b (fu.push b[nb]) na nb:=by refine⟨?_,by have:=M.sz;rw[Bp];lia,M.la,by lia⟩;rw[Dv,C6];refine MH.b (seg:=[b[nb]]) (by rw[<-JA b hi];exact M.mi) λx J y U=>?_;obtain⟨j,I,h2,rfl⟩:=hV J;rw[An.mp U];exact h j I h2
def HP.done(M:HP f a b fu na nb)(h:na=0):w5 f a.toList b.toList (a.extract 0 na++b.extract 0 nb++fu.reverse).toList:=by subst h;have:=M.mi;rw[List.take_zero] at this;have:=this.ea;rw[Bf,Bf,iW,iW,CU];simpa using this
def HP.last(M:HP f a b fu na nb)(h:nb=1)(U:0<b.size)(h0:∀x∈a.toList,f b[0]<f x):w5 f a.toList b.toList (b.extract 0 nb++a.extract 0 na++fu.reverse).toList:=by
 have:=M.mi.eb λx I y J=>by
  obtain⟨j,g,h2,rfl⟩:=hV I;have e:j=0:=by lia
  subst e;exact BS<|h0 y<|BN J
 rw[Bf,Bf,iW,iW,CU];simpa using this
end
def HP.preA{f:VJ}{a b fu:VI}{nb:Nat}(M:HP f a b fu na nb)(h0:0<na)(h:∀j (I:j<b.size),j<nb->f b[j]<=f (a[na-1]'(by have:=M.la;omega))):HP f a b (fu.push (a[na-1]'(by have:=M.la;omega))) (na-1) nb:=by obtain⟨n,rfl⟩:∃n,na=n+1:=⟨na-1,by lia⟩;have J:=M.la;exact HP.oneA M (by assumption) h
def HP.preB{f:VJ}{a b fu:VI}{nb:Nat}(M:HP f a b fu na nb)(h0:0<nb)(h:∀j (I:j<a.size),j<na->f a[j]<=f (b[nb-1]'(by have:=M.lb;omega))):HP f a b (fu.push (b[nb-1]'(by have:=M.lb;lia))) na (nb-1):=by obtain⟨n,rfl⟩:∃n,nb=n+1:=⟨nb-1,by lia⟩;have J:=M.lb;exact HP.oneB M (by lia) h
section
variable {w:Vw}{κ:SortKind}{Ok:Keyed->Prop}{f:VJ}
theorem RZ(O:Ord prog w A s κ Ok f){a b:VI}{st:SortSt}{Q:VI->SortSt->Prop}(hk:kindOf st=κ)(bp:∀x∈a.toList,Ok x)(bq:∀x∈b.toList,Ok x)
 (sa:a.toList.Pairwise λx y=>f x<=f y) (sb:b.toList.Pairwise λx y=>f x<=f y) (ha:0<a.size) (hb:0<b.size) (h0:∀x∈a.toList,f b[0]<f x) (hl:∀x∈b.toList,f x<f a[a.size-1])
 (q:∀r g,w5 f a.toList b.toList r.toList->Q r (gf st g)):wpS (model prog w) A E s (RX a b) Q st:=by
 have bS:∀i (t:i<a.size),Ok a[i]:=λi t=>bp _ (by simp);have c3:∀i (t:i<b.size),Ok b[i]:=λi t=>bq _ (by simp);have au:∀i (t:i<a.size),a[i]?=some a[i]:=λi t=>by simp[t]
 have ax:∀i (t:i<b.size),b[i]?=some b[i]:=λi t=>by simp[t]
 obtain⟨tA,c4,bh,cq,cv⟩:=Gj (f:=f) bp sa b[0];obtain⟨tB,bi,bj,cw,cy⟩:=Gj (f:=f) bq sb b[0];have bh:∀i,i<a.size->a[0+i]?=some (tA i):=λi t=>by rw[DO];exact bh i t
 have bj:∀i,i<b.size->b[0+i]?=some (tB i):=λi t=>by rw[DO];exact bj i t
 refine Ac<|wpS_lift<|Bv ⟨rfl,?_⟩;refine Ac<|xq (x:=a[a.size-1]) (au _ (by exact z_)) ?_;dsimp only;obtain⟨n0,dH⟩:∃n,a.size=n+1:=⟨a.size-1,by lia⟩;have M0:HP f a b #[a[a.size-1]] (a.size-1) b.size:=by
  have M:HP f a b #[] (a.size-1+1) b.size:=by
   refine⟨⟨?_,by simp,?_,?_,by simp,by simp⟩,by simp;lia,by exact z_,Ap _⟩
   ·rw[AS (by simp;lia),AS (by simp)];simp
   ·rw[AS (by simp;lia)];exact sa
   ·rw[AS (by simp)];exact sb
  have:=M.oneA (by lia) λj hj _=>BS<|hl b[j] (by simp);simpa using this
 by_cases c1:(a.size-1==0)=true
 ·refine xr c1 ?_;exact Ae<|q _ (gallopOf st)<|M0.done (by simpa using c1)
 refine xb c1 ?_;by_cases c2:(b.size==1)=true
 ·refine xr c2 ?_;exact Ae<|q _ (gallopOf st)<|M0.last (by simpa using c2) hb h0
 refine xb c2 ?_;have c1:¬a.size-1=0:=by simpa using c1
 have c2:¬b.size=1:=by simpa using c2
 refine Ac<|wpS_get ?_;refine Ac (AV (AM (I:=λx c l=>(∃g,l=gf st g)/\∃U nb a5 mg,c=(none,U,nb,a5,mg)/\HP f a b a5 U nb/\0<U/\1<nb/\x+1<=a5.size)
  (Q:=λc l=>(∃g,l=gf st g)/\∃r,c.1=some r/\w5 f a.toList b.toList r.toList) ?_ ?_ ⟨⟨gallopOf st,rfl⟩,_,_,_,_,rfl,M0,by exact FE,by lia,by simp⟩) ?_)
 ·rintro x c l _ hx ⟨⟨g,rfl⟩,U,nb,a5,mg,rfl,M,C,a1,hs⟩;dsimp only;refine Ac (AV (AM (I:=λy c l=>l=gf st g/\∃U nb J ac bc,c=(none,U,nb,J,ac,bc)/\HP f a b J U nb/\0<U/\1<nb/\a5.size+y<=J.size)
   (Q:=λc l=>l=gf st g/\((∃r,c.1=some r/\w5 f a.toList b.toList r.toList)\/∃U nb J ac bc,c=(none,U,nb,J,ac,bc)/\HP f a b J U nb/\0<U/\1<nb/\a5.size+1<=J.size)) ?_ ?_ ⟨rfl,_,_,_,_,_,rfl,M,C,a1,Ap _⟩) ?_)
  ·rintro y c l _ hy ⟨rfl,U,nb,J,ac,bc,rfl,M,C,a1,cb⟩;have cz:=M.la;have cP:=M.lb;have a2:nb-1<b.size:=by omega
   have av:U-1<a.size:=by lia
   dsimp only;refine Ac<|xq (ax (nb-1) a2) ?_;refine Ac<|xq (au (U-1) av) ?_;refine Ac<|w_lt O hk (c3 (nb-1) a2) (bS (U-1) av) ?_;dsimp only;by_cases c:f b[nb-1]<f a[U-1]
   ·refine xr (AK c) ?_;refine Ac<|xq (au (U-1) av) ?_;have M':=M.preA C λj hj T=>BS<|Int.lt_of_le_of_lt (n_ sb (i:=j) (j:=nb-1) (CV T) a2) c;have s2:(J.push a[U-1]).size=J.size+1:=Bp _;by_cases e1:(U-1==0)=true
    ·refine xr e1 ?_;exact Ae ⟨rfl,.inl ⟨_,rfl,M'.done (by simpa using e1)⟩⟩
    ·refine xb e1 ?_;have e1:¬U-1=0:=by simpa using e1
     refine fI (λ_=>?_) λ_=>?_
     ·exact Ae ⟨rfl,.inr ⟨_,_,_,_,_,rfl,M',by exact FE,a1,by lia⟩⟩
     ·exact Ae ⟨rfl,_,_,_,_,_,rfl,M',by lia,a1,by lia⟩
   ·refine xb (by rw[AD c];decide) ?_;refine Ac<|xq (ax (nb-1) a2) ?_;have M':=M.preB (by exact jI) λj hj T=>BY (n_ sa (i:=j) (j:=U-1) (CV T) av) (by omega);have s2:(J.push b[nb-1]).size=J.size+1:=Bp _;by_cases e1:(nb-1==1)=true
    ·refine xr e1 ?_;exact Ae ⟨rfl,.inl ⟨_,rfl,M'.last (by simpa using e1) hb h0⟩⟩
    ·refine xb e1 ?_;have e1:¬nb-1=1:=by simpa using e1
     refine fI (λ_=>?_) λ_=>?_
     ·exact Ae ⟨rfl,.inr ⟨_,_,_,_,_,rfl,M',C,by lia,by lia⟩⟩
     ·exact Ae ⟨rfl,_,_,_,_,_,rfl,M',C,by lia,by lia⟩
  ·rintro c l ⟨rfl,U,nb,J,ac,bc,rfl,M,C,a1,cb⟩;have:=M.sz;omega
  ·rintro c l ⟨rfl,h⟩;rcases h with⟨r,er,hr⟩|⟨U,nb,bd,ac,bc,rfl,M,C,a1,cb⟩
   ·obtain⟨c1,c2⟩:=c;cases er;exact Ae ⟨⟨g,rfl⟩,r,rfl,hr⟩
   ·dsimp only;refine Ac<|wpS_lift<|Bv ⟨rfl,?_⟩;refine Ac (AV (AM (I:=λy c l=>(∃g,l=gf st g)/\∃U nb J mg ac bc,c=(none,U,nb,J,mg,ac,bc)/\HP f a b J U nb/\0<U/\1<nb/\bd.size+y<=J.size)
     (Q:=λc l=>(∃g,l=gf st g)/\((∃r,c.1=some r/\w5 f a.toList b.toList r.toList)\/∃U nb J mg ac bc,c=(none,U,nb,J,mg,ac,bc)/\HP f a b J U nb/\0<U/\1<nb/\bd.size<=J.size)) ?_ ?_ ⟨⟨g,rfl⟩,_,_,_,_,_,_,rfl,M,C,a1,Ap _⟩) ?_)
    ·rintro y c l _ hy ⟨⟨g',rfl⟩,U,nb,J,bn,ac,bc,rfl,M,C,a1,bf⟩;have cz:=M.la;have cP:=M.lb;have a2:nb-1<b.size:=by omega
     have av:U-1<a.size:=by lia
     dsimp only;generalize bn-1=d0;revert d0;refine tJ (y:=bn) λdc=>?_
     all_goals
      refine Ac<|wpS_modify ?_;refine Ac<|xq (ax (nb-1) a2) ?_;refine Ac<|cL O hk (c3 (nb-1) a2) (by exact z_) tA (λi t=>⟨bh _ (by exact FC),cq _ (by lia)⟩) (λi=>!decide (f b[nb-1]<f (tA i))) (λi t=>by rw[Ay (by simp)]) (λi j T hj h=>?_) λk de aL aR=>?_
      ·have:=cv (i:=i) (j:=j) (by lia) (by exact FC);simp at h ⊢;lia
      have aL:∀i,i<k->f (tA i)<=f b[nb-1]:=λi t=>by have:=aL i t;simpa using this
      have aR:∀i,k<=i->i<U->f b[nb-1]<f (tA i):=λi t hj=>by have:=aR i t hj;simpa using this
      have M1:HP f a b (J++(a.extract k U).reverse) k nb:=M.segA de λi t h1 h2 j hj T=>by have h3:=aR i h1 h2;rw[c4 _ t] at h3;exact BY (n_ sb (i:=j) (j:=nb-1) (CV T) a2)<|BS h3
      have pB:∀j (hj:j<a.size),j<k->f a[j]<=f b[nb-1]:=λj hj T=>by have h1:=aL j T;rw[c4 _ hj] at h1;exact h1
      dsimp only;generalize dV:U-k=cn;generalize di:J=o0;generalize dj:U=j0;revert j0;revert o0;refine l8 (P:=λ(o:VI) (j:Nat)=>HP f a b o j nb/\J.size<=o.size/\0<j/\∀j' (hj:j'<a.size),j'<j->f a[j']<=f b[nb-1]) (x:=J) (i:=U) (λa3 p hP=>?tail) (λck=>?hN) λck key=>?hY
      case hN=>
       obtain rfl:k=U:=by lia
       exact⟨M,Ap _,by lia,pB⟩
      case hY=>
       by_cases e1:(k==0)=true
       ·refine xr e1 ?_;exact Ae ⟨⟨_,rfl⟩,.inl ⟨_,rfl,M1.done (by simpa using e1)⟩⟩
       ·refine xb e1 ?_;have e1:¬k=0:=by simpa using e1
        exact key _ _ ⟨M1,by rw[BW];exact Bg _ _,by exact FE,pB⟩
      clear pB M1 aL aR;obtain⟨M1,h3,l3,pB⟩:=hP
      all_goals
       have dv:=M1.la;have ba:p-1<a.size:=by lia
       refine Ac<|xq (ax (nb-1) a2) ?_;have M2:=M1.preB (by exact jI) pB;have s2:(a3.push b[nb-1]).size=a3.size+1:=Bp _;by_cases e2:(nb-1==1)=true
       case' pos=>
        refine xr e2 ?_;exact Ae ⟨⟨_,rfl⟩,.inl ⟨_,rfl,M2.last (by simpa using e2) hb h0⟩⟩
       case' neg=>
        refine xb e2 ?_;have e2:¬nb-1=1:=by simpa using e2
        refine Ac<|xq (au (p-1) ba) ?_;refine Ac<|cL O hk (bS (p-1) ba) (by lia) tB (λi t=>⟨bj _ (by exact uV),cw _ (by lia)⟩) (λi=>decide<|f (tB i)<f a[p-1]) (λi t=>by rw[AA rfl]) (λi j T hj h=>?_) λk2 cc al a4=>?_
        ·have:=cy (i:=i) (j:=j) (by lia) (by exact uV);simp at h ⊢;lia
        have al:∀i,i<k2->f (tB i)<f a[p-1]:=λi t=>by have:=al i t;simpa using this
        have a4:∀i,k2<=i->i<nb-1->f a[p-1]<=f (tB i):=λi t hj=>by have:=a4 i t hj;simpa using this
        have k1:0<k2:=by
         rcases Nat.eq_zero_or_pos k2 with h|h
         ·exfalso;have h5:=a4 0 (by exact vY) (by lia);rw[bi _ hb] at h5;have h6:=h0 a[p-1] (by simp);lia
         ·exact h
        have M3:HP f a b (a3.push b[nb-1]++(b.extract k2<|nb-1).reverse) p k2:=M2.segB cc λi t h1 h2 j hj T=>by have h5:=a4 i h1 h2;rw[bi _ t] at h5;exact BY (n_ sa (i:=j) (j:=p-1) (CV T) ba) h5
        have pA:∀j (hj:j<b.size),j<k2->f b[j]<=f a[p-1]:=λj hj T=>by have h5:=al j T;rw[bi _ hj] at h5;exact BS h5
        dsimp only;generalize dp:nb-1-k2=e0;obtain⟨o3,dr⟩:∃o,o=a3.push b[nb-1]:=⟨_,rfl⟩;obtain⟨bb,cm⟩:∃i,i=nb-1:=⟨_,rfl⟩;have eb:b[nb-1]=b[bb]'(by lia):=by subst cm;rfl
        rw[<-dr] at s2 M2 M3 ⊢;rw[<-cm] at M2 M3 dp cc ⊢;generalize di:o3=o0;generalize dj:bb=j0;revert j0;revert o0;refine l8 (P:=λ(o:VI) (j:Nat)=>HP f a b o p j/\a3.size+1<=o.size/\1<j/\∀j' (hj:j'<b.size),j'<j->f b[j']<=f a[p-1]) (x:=o3) (i:=bb) (λbg e5 hP=>?tail2) (λck=>?hN) λck key=>?hY
        case hN=>
         obtain rfl:k2=bb:=by lia
         exact⟨M2,by lia,by lia,pA⟩
        case hY=>
         by_cases e3:(k2==1)=true
         ·refine xr e3 ?_;exact Ae ⟨⟨_,rfl⟩,.inl ⟨_,rfl,M3.last (by simpa using e3) hb h0⟩⟩
         ·refine xb e3 (xb (show ¬(k2==0)=true by simp;exact Ov) ?_);have e3:¬k2=1:=by simpa using e3
          exact key _ _ ⟨M3,by rw[BW];lia,by lia,pA⟩
        clear pA M3 al a4;obtain⟨M3,h4,l4,pA⟩:=hP
        all_goals
         refine Ac<|xq (au (p-1) ba) ?_;have M4:=M3.preA l3 pA;have s4:(bg.push a[p-1]).size=bg.size+1:=Bp _;by_cases e4:(p-1==0)=true
         ·refine xr e4 ?_;exact Ae ⟨⟨_,rfl⟩,.inl ⟨_,rfl,M4.done (by simpa using e4)⟩⟩
         ·refine xb e4 ?_;have e4:¬p-1=0:=by simpa using e4
          refine fI (λ_=>?_) λ_=>?_
          ·exact Ae ⟨⟨_,rfl⟩,.inr ⟨_,_,_,_,_,_,rfl,M4,by exact FE,l4,by lia⟩⟩
          ·exact Ae ⟨⟨_,rfl⟩,_,_,_,_,_,_,rfl,M4,by lia,l4,by lia⟩
    ·rintro c l ⟨⟨g',rfl⟩,U,nb,J,bn,ac,bc,rfl,M,C,a1,bf⟩;have:=M.sz;omega
    ·rintro c l ⟨⟨g',rfl⟩,h⟩;rcases h with⟨r,er,hr⟩|⟨U,nb,dG,dc,ac,bc,rfl,M,C,a1,bf⟩
     ·obtain⟨c1,c2⟩:=c;cases er;exact Ae ⟨⟨g',rfl⟩,r,rfl,hr⟩
     ·dsimp only;refine Ac<|wpS_modify ?_;exact Ae ⟨⟨_,rfl⟩,_,_,_,_,rfl,M,C,a1,by lia⟩
 ·rintro c l ⟨⟨g,rfl⟩,U,nb,a5,mg,rfl,M,C,a1,hs⟩;have:=M.sz;lia
 ·rintro c l ⟨⟨g,rfl⟩,r,er,hr⟩;obtain⟨c1,c2⟩:=c;cases er;exact Ae<|q r g hr
end
def R4{σ:Type}{st I:σ}{Q:PUnit->σ->Prop}(h:Q ⟨⟩ I):wpS M A E s (set I:StateT σ Sem PUnit) Q st:=by unfold wpS;rw[StateT.run_set];exact Ai ⟨rfl,h⟩
theorem mQ{α:Type}:∀(m:List α) (arr:Array α) (i k:Nat),i+k+m.length<=arr.size->((m.zipIdx k).foldl (λ(a:Array α) (I:α×Nat)=>a.setIfInBounds (i+I.2) I.1) arr).toList=arr.toList.take (i+k)++(m++arr.toList.drop (i+k+m.length))
 |[],arr,i,k,h=>by simp
 |x::m,arr,i,k,h=>by
  rw[Em,List.foldl_cons];simp only[AF] at h;rw[mQ m _ i (k+1) (by simp;lia)];have e:(arr.setIfInBounds (i+k) x).toList=arr.toList.set (i+k) x:=by simp
  have l:arr.toList.length=arr.size:=Bc;rw[e,List.drop_set,AA (by exact Bg _ _),<-EI,Bm,BR (by lia),List.take_set_of_le (by simp +arith only),AF];simp;congr 1;simp +arith only
section
variable {w:Vw}{κ:SortKind}{Ok:Keyed->Prop}{f:VJ}
def ud{l:VH}(s:l.Pairwise λx y=>f x<=f y)(I:i<=j)(J:j<l.length):f (l[i]'(by exact o7))<=f l[j]:=by
 rcases DW I with h|h
 ·exact C3.mp s i j (by exact o7) J h
 ·subst h;exact Do _
def Hi{l:VH}{x:Keyed}(h:x∈l):∃i,∃hi:i<l.length,l[i]=x:=BU h
def Hj{l:VH}{x:Keyed}(h:x∈l.take m):∃i,∃hi:i<l.length,i<m/\l[i]=x:=by obtain⟨i,hi,rfl⟩:=BU h;rw[AZ] at hi;exact⟨i,by lia,by lia,BL.symm⟩
def Gm{l:VH}{x:Keyed}{k:Nat}(h:x∈l.drop k):∃i,∃hi:i<l.length,k<=i/\l[i]=x:=by obtain⟨i,hi,rfl⟩:=BU h;rw[BF] at hi;exact⟨k+i,by lia,Bg _ _,Ed.symm⟩
theorem R5(O:Ord prog w A s κ Ok f){st:SortSt}{X Y:VH}{w1 w2:Nat}{Q:Bool->SortSt->Prop}(hk:kindOf st=κ)(hf:failedOf st=none)(hp:pendingOf st=#[(0,X.length,w1),(X.length,Y.length,w2)])(ea:(arrOf st).toList=X++Y)(ok:∀x∈X++Y,Ok x)
 (lX:0<X.length) (lY:0<Y.length) (sX:X.Pairwise λx y=>f x<=f y) (sY:Y.Pairwise λx y=>f x<=f y) (q:∀T,failedOf T=none->(pendingOf T).size=1->(arrOf T).toList.Perm (X++Y)->((arrOf T).toList.Pairwise λx y=>f x<=f y)->Q true T):wpS (model prog w) A E s (mergeAt' 0) Q st:=by
 have a1:(pendingOf st)[0]?=some (0,X.length,w1):=by rw[hp];rfl
 have a2:(pendingOf st)[0+1]?=some (X.length,Y.length,w2):=by rw[hp];rfl
 have a3:(((pendingOf st).setIfInBounds 0 (0,X.length+Y.length,w1)).eraseIdxIfInBounds<|0+1).size=1:=by simp[hp]
 refine Ac<|wpS_get ?_;rw[show(sortPriv% PySem.Builtin.SortState.pending) st=pendingOf st from rfl,a1,a2];dsimp only;refine Ac<|R4 ?_;generalize ((pendingOf st).setIfInBounds 0 (0,X.length+Y.length,w1)).eraseIdxIfInBounds (0+1)=pn at a3 ⊢;have ax:∀i (I:i<X.length),(arrOf st)[i]?=some X[i]:=λi I=>by rw[<-Bi,ea,AE I];simp
 have aL:∀i (I:i<Y.length),(arrOf st)[X.length+i]?=some Y[i]:=λi I=>by rw[<-Bi,ea,AN<|Bg _ _,Bj];simp
 have al:∀x∈X,Ok x:=λx l=>ok x<|Ao _ l;have au:∀x∈Y,Ok x:=λx l=>ok x<|Ag _ l;obtain⟨tX,aR⟩:∃t:Nat->Keyed,t=λi=>(X[i]?).getD X[0]:=⟨_,rfl⟩;have p:∀i (I:i<X.length),tX i=X[i]:=λi I=>by rw[aR];simp[I]
 obtain⟨tY,ba⟩:∃t:Nat->Keyed,t=λi=>(Y[i]?).getD X[0]:=⟨_,rfl⟩;have C:∀i (I:i<Y.length),tY i=Y[i]:=λi I=>by rw[ba];simp[I]
 refine Ac<|xq (x:=Y[0]) (aL 0 lY) ?_;refine Ac (cL O hk (au _<|CC _) lX tX (λi I=>⟨by rw[p i I,DO];exact ax i I,by rw[p i I];exact al _<|CC _⟩) (λi=>!decide (f Y[0]<f (tX i))) (λi I=>by rw[Ay (by simp)]) (λi j av J h=>?_) λk bb a5 ac=>?_)
 ·have:=ud sX av J;rw[p j J] at h;rw[p i (by exact o7)];simp at h ⊢;omega
 have a5:∀i (I:i<k),f (X[i]'(by exact FC))<=f Y[0]:=λi I=>by have:=a5 i I;rw[p i (by lia)] at this;simpa using this
 have ac:∀i (J:i<X.length),k<=i->f Y[0]<f X[i]:=λi J I=>by have:=ac i I J;rw[p i J] at this;simpa using this
 dsimp only;rw[DO];by_cases c:(X.length-k==0)=true
 ·rw[AA c];have c:X.length-k=0:=by simpa using c
  refine Ae (q _ hf a3 (by show(arrOf st).toList.Perm _;rw[ea]) (by show(arrOf st).toList.Pairwise _;rw[ea];refine AR.mpr ⟨sX,sY,λx l y hy=>?_⟩;obtain⟨i,I,rfl⟩:=Hi l;obtain⟨j,J,rfl⟩:=Hi hy;exact BY (a5 i (by lia))<|ud sY (Bb _) J))
 rw[Ay c];have c:k<X.length:=by
  have:¬X.length-k=0:=by simpa using c
  lia
 refine Ac (xq (x:=X[X.length-1]) (by rw[show k+(X.length-k)-1=X.length-1 by lia];exact ax _ (by lia)) ?_);refine Ac (cL O hk (al _<|CC _) (by lia) tY (λi I=>⟨by rw[C i I];exact aL i I,by rw[C i I];exact au _<|CC _⟩) (λi=>decide<|f (tY i)<f X[X.length-1]) (λi I=>by rw[AA rfl]) (λi j av J h=>?_) λm bc a4 o=>?_)
 ·have:=ud sY av J;rw[C j J] at h;rw[C i (by exact o7)];simp at h ⊢;omega
 have a4:∀i (I:i<m),f (Y[i]'(by exact FC))<f X[X.length-1]:=λi I=>by have:=a4 i I;rw[C i (by lia)] at this;simpa using this
 have o:∀i (J:i<Y.length),m<=i->f X[X.length-1]<=f Y[i]:=λi J I=>by have:=o i I J;rw[C i J] at this;simpa using this
 have m0:0<m:=Nat.pos_of_ne_zero λh=>by have h5:=o 0 lY (by lia);have h6:=ac (X.length-1) (by lia) (by lia);omega
 dsimp only;rw[Ay (show ¬(m==0)=true by simp;lia)];have ex:((arrOf st).extract k X.length).toList=X.drop k:=by rw[iW,ea,List.drop_append_of_le_length (by lia),DE (by simp),AS (by simp)]
 have ey:((arrOf st).extract X.length<|X.length+m).toList=Y.take m:=by rw[iW,ea,List.drop_left,Bj]
 have xa:∀(r:VI) (g:Nat),w5 f (X.drop k) (Y.take m) r.toList->Q (failedOf st).isNone (SortSt.mk' (kindOf st) (r.toList.zipIdx.foldl (λa x=>a.setIfInBounds (k+x.2) x.1)<|arrOf st) pn g<|failedOf st):=by
  rintro r g ⟨hm,hs⟩;have lr:r.toList.length=X.length-k+m:=by rw[hm.length_eq];simp;lia
  have pt:=mQ r.toList (arrOf st) k 0 (by rw[lr,<-Bc,ea,Ad];lia);rw[ea,lr,Nat.add_zero,show k+(X.length-k+m)=X.length+m by lia,DE (by lia),List.drop_length_add_append] at pt;rw[hf];refine q _ rfl a3 ((EE pt).trans ?_)<|Eq.subst (motive:=List.Pairwise λx y=>f x<=f y) pt.symm ?_
  ·have h1:=(BD<|X.take k).mpr<|(BA<|Y.drop m).mpr hm;rwa[Ar<|X.drop k,A8,<-Ar (X.take k) (X.drop k),A8] at h1
  ·refine AR.mpr ⟨sX.sublist<|Eb _ _,AR.mpr ⟨hs,sY.sublist<|List.drop_sublist _ _,λx l y hy=>?_⟩,λx l y hy=>?_⟩
   ·obtain⟨j,J,h2,rfl⟩:=Gm hy;rcases Ak.mp (hm.mem_iff.mp l) with h|h
    ·obtain⟨i,I,_,rfl⟩:=Gm h;exact BY (ud sX (by lia) (by lia))<|o j J h2
    ·obtain⟨i,I,h1,rfl⟩:=Hj h;exact ud sY (by lia) J
   ·obtain⟨i,I,h1,rfl⟩:=Hj l;have low:∀z∈Y,f X[i]<=f z:=λz hz=>by obtain⟨j,J,rfl⟩:=Hi hz;exact BY (a5 i h1) (ud sY (Bb _) J)
    rcases Ak.mp hy with h|h
    ·rcases Ak.mp (hm.mem_iff.mp h) with h|h
     ·obtain⟨j,J,h2,rfl⟩:=Gm h;exact ud sX (by lia) J
     ·exact low y<|BN h
    ·exact low y<|CT h
 generalize (arrOf st).extract k X.length=U at ex ⊢;generalize (arrOf st).extract X.length (X.length+m)=V at ey ⊢;have zU:U.size=X.length-k:=by rw[<-Bc,ex];simp
 have zV:V.size=m:=by rw[<-Bc,ey];simp;lia
 have q5:0<U.size:=by lia
 have q6:0<V.size:=by lia
 have v0:V[0]=Y[0]:=by
  have:V.toList[0]?=(Y.take m)[0]?:=by rw[ey]
  rw[Bi,List.getElem?_take,AA m0] at this;simpa[q6,lY] using this
 have ul:U[U.size-1]=X[X.length-1]:=by
  have:U.toList[U.size-1]?=(X.drop k)[U.size-1]?:=by rw[ex]
  rw[Bi,List.getElem?_drop,show k+(U.size-1)=X.length-1 by lia] at this;rw[Array.getElem?_eq_getElem (by lia),Al (by lia)] at this;exact Be this
 have q1:∀x∈U.toList,Ok x:=λx l=>al x (CT (by rw[ex] at l;exact l));have q2:∀x∈V.toList,Ok x:=λx l=>au x (BN (by rw[ey] at l;exact l));have q3:U.toList.Pairwise λx y=>f x<=f y:=by rw[ex];exact sX.sublist<|List.drop_sublist _ _
 have q4:V.toList.Pairwise λx y=>f x<=f y:=by rw[ey];exact sY.sublist<|Eb _ _
 have q7:∀x∈U.toList,f V[0]<f x:=λx l=>by rw[v0];rw[ex] at l;obtain⟨i,I,h1,rfl⟩:=Gm l;exact ac i I h1
 have q8:∀x∈V.toList,f x<f U[U.size-1]:=λx l=>by rw[ul];rw[ey] at l;obtain⟨i,I,h1,rfl⟩:=Hj l;exact a4 i h1
 rw[<-ex,<-ey] at xa;split
 ·exact Ac<|RY O hk q1 q2 q3 q4 q5 q6 q7 q8 λr g h=>Ac<|wpS_modify<|Ac<|wpS_get<|Ae<|xa r g h
 ·exact Ac<|RZ O hk q1 q2 q3 q4 q5 q6 q7 q8 λr g h=>Ac<|wpS_modify<|Ac<|wpS_get<|Ae<|xa r g h
end
def kQ{arr:Array α}{P R:List α}(h:arr.toList=P++R)(J:n<=R.length):(mirror arr P.length (P.length+n)<|(P.length+n-P.length) / 2).toList=P++((R.take n).reverse++R.drop n):=by
 have U:P.length+n<=arr.size:=by rw[<-Bc,h,Ad];exact Nat.add_le_add_left J _
 have ap:∀(B:List α) (t:Nat),(P++B)[P.length+t]?=B[t]?:=λB t=>by rw[AN<|Bg ..,Bj]
 have I:(R.take n).length=n:=Dw J;refine Dx λk=>?_;rw[Bi,getElem?_mirror_all U,<-Bi,<-Bi,h];rcases Cv k P.length with c|c
 ·rw[Ay λz=>Et.mpr z.1 c,AE c,AE c]
 obtain⟨j,rfl⟩:=Ce c;rw[ap ((R.take n).reverse++R.drop n) j];rcases Cv j n with d|d
 ·rw[AA ⟨c,Nat.add_lt_add_left d _⟩,show P.length+(P.length+n)-1-(P.length+j)=P.length+(n-1-j) by lia,ap,AE (by rw[DK,I];exact d),List.getElem?_reverse (by rw[I];exact d),I,List.getElem?_take,AA (by lia)]
 ·obtain⟨t,rfl⟩:=Ce d;rw[Ay λz=>Et.mpr (Bg n t)<|Nat.lt_of_add_lt_add_left z.2,ap,AN (by rw[DK,I];exact d),DK,I,Bj,List.getElem?_drop]
def R6{arr:Array α}{A Y Z:List α}{r:α}(h:arr.toList=A++(Y++r::Z)):(bubble arr (A.length+Y.length) Y.length).toList=A++r::(Y++Z):=by
 have J:A.length+Y.length<arr.size:=by rw[<-Bc,h,Ad,Ad];exact Nat.add_lt_add_left (Dp<|BQ _) _
 refine Dx λi=>?_;rw[Bi,getElem?_bubble J _<|C9 ..,Nat.add_sub_cancel,<-Bi,<-Bi,<-Bi,h];rcases Cv i A.length with c|c
 ·rw[Ay<|A9 c,Ay λz=>Nat.lt_asymm z.1 c,AE c,AE c]
 obtain⟨j,rfl⟩:=Ce c;have ap:∀(B:List α) (t:Nat),(A++B)[A.length+t]?=B[t]?:=λB t=>by rw[AN<|Bg ..,Bj]
 have I:∀(B:List α) (t:Nat),(Y++B)[Y.length+t]?=B[t]?:=λB t=>by rw[AN<|Bg ..,Bj]
 rw[ap (r::(Y++Z)) j];cases j with
 |zero=>rw[AA<|Nat.add_zero _,ap,List.getElem?_cons_zero];exact I _ 0
 |succ j=>
  rw[Ay<|CH<|Dp<|BQ _,Dk,show A.length+(j+1)-1=A.length+j from rfl,ap _ j,ap _<|j+1];rcases Cv j Y.length with d|d
  ·rw[AA ⟨Dp<|BQ _,Nat.add_le_add_left d _⟩,AE d,AE d]
  ·obtain⟨t,rfl⟩:=Ce d;rw[Ay λz=>Et.mpr d<|Nat.le_of_add_le_add_left z.2,I,show Y.length+t+1=Y.length+(t+1) from rfl,I,Dk]
def t8{arr:Array α}{P R:List α}{k l:Nat}(h:arr.toList=P++R)(I:k<R.length)(J:l<=k):(bubble arr (P.length+k)<|P.length+k-(P.length+l)).toList=P++(R.take l++R[k]::((R.drop l).take (k-l)++R.drop (k+1))):=by
 obtain⟨d,rfl⟩:=Ce J;have U:R.take l++((R.drop l).take d++R[l+d]::R.drop (l+d+1))=R:=by rw[<-B5 I,<-List.drop_drop,A8,A8]
 have g:(R.take l).length=l:=Dw<|AW J<|BK I;have j:((R.drop l).take d).length=d:=Dw (by rw[BF];lia);have b:=R6 (arr:=arr) (A:=P++R.take l) (Y:=(R.drop l).take d) (Z:=R.drop<|l+d+1) (r:=R[l+d]) (by rw[Ar,U];exact h);rw[Ad,g,j,Ar] at b;rw[Bj,show P.length+(l+d)=P.length+l+d from(EI _ _ _).symm,Bj];exact b
section
variable {w:Vw}{κ:SortKind}{Ok:Keyed->Prop}{f:VJ}
structure Tl(κ:SortKind)(Ok:Keyed->Prop)(st:SortSt)(P R:VH):Prop where
 kind:kindOf st=κ
 arr:(arrOf st).toList=P++R
 ok:∀x∈R,Ok x
def jW(O:Ord prog w A s κ Ok f){st:SortSt}{P R:VH}(T:Tl κ Ok st P R)(hi:i<R.length)(I:j<R.length){a b:Nat}(ea:a=P.length+i)(eb:b=P.length+j){Q:Option Bool->SortSt->Prop}(q:Q (some<|decide<|f R[i]<f R[j]) st):wpS (model prog w) A E s (ltAt' a b) Q st:=by
 have at_:∀i (hi:i<R.length),(arrOf st)[P.length+i]?=some R[i]:=λi hi=>by rw[<-Bi,T.arr,AN (by exact Bg _ _),Bj];simp
 subst ea eb;rw[ltAt'_eq];refine Ac<|wpS_get ?_;refine Ac<|xq (at_ i hi)<|Ac<|xq (at_ j I) ?_;exact w_lt O T.kind (T.ok _<|CC _) (T.ok _<|CC _) q
def Up(f:VJ)(R:VH)(n:Nat):Prop:=∀i j (_:i<=j) (_:j<R.length),j<n->f (R[i]'(by exact o7))<=f R[j]
def Up.snoc{R:VH}(h:Up f R n)(h1:1<=n)(l:n<R.length)(hs:f (R[n-1]'(by exact sH))<=f R[n]):Up f R (n+1):=λi j I J U=>by
 rcases Cv j n with c|c
 ·exact h i j I J c
 ·have e:j=n:=by lia
  subst e;rcases Cv i j with g|g
  ·exact BY (h i (j-1) (by omega) (by exact sH) (by exact z_)) hs
  ·have e:i=j:=by lia
   subst e;exact Do _
def Up.pair{R:VH}(h:Up f R n)(g:n<=R.length):(R.take n).Pairwise λx y=>f x<=f y:=by rw[C3];intro i j I J U;rw[AZ] at I J;rw[BL,BL];exact h i j (by exact jI) (by lia) (by lia)
end
section
variable {w:Vw}{κ:SortKind}{Ok:Keyed->Prop}{f:VJ}
def Tl.same{st:SortSt}{P R R':VH}(T:Tl κ Ok st P R)(p:R'.Perm R){arr:VI}(h:arr.toList=P++R'):Tl κ Ok (setArr st arr) P R':=⟨T.kind,h,λx I=>T.ok x<|p.mem_iff.mp I⟩
def Up.one{R:VH}:Up f R 1:=λi j I J h=>by
 have:i=j:=by lia
 subst this;exact Do _
def jQ{c:Prop}{_:Decidable c}{K T:StateT SortSt Sem α}{P:SortSt->Prop}{Q:α->SortSt->Prop}{st:SortSt}(J:¬c->P st)(key:∀I,P I->wpS (model prog w) A E s K Q I)
 (U:c->(∀I,P I->wpS (model prog w) A E s K Q I)->wpS (model prog w) A E s T Q st):wpS (model prog w) A E s (if c then T else K) Q st:=by
 by_cases h:c
 ·rw[AA h];exact U h key
 ·rw[Ay h];exact key st<|J h
def gK(f:VJ)(R:VH)(n:Nat):Prop:=∀i j (_:i<=j) (_:j<R.length),j<n->f R[j]<=f (R[i]'(by exact o7))
def JB{R R':VH}(e:R'.map f=R.map f)(h1:i<R'.length)(h2:i<R.length):f R'[i]=f R[i]:=by
 have:(R'.map f)[i]?=(R.map f)[i]?:=by rw[e]
 rw[Au,Au,Al h1,Al h2] at this;exact Be this
def gK.same{R R':VH}(D:gK f R n)(e:R'.map f=R.map f):gK f R' n:=λi j I U J=>by
 have l:R'.length=R.length:=by have:=BM List.length e;rwa[Af,Af] at this
 rw[JB e U (by lia),JB e (by lia) (by lia)];exact D i j I (by lia) J
def gK.snoc{R:VH}(h:gK f R n)(h1:1<=n)(l:n<R.length)(hs:f R[n]<=f (R[n-1]'(by exact sH))):gK f R (n+1):=λi j I J U=>by
 rcases Cv j n with c|c
 ·exact h i j I J c
 ·have e:j=n:=by lia
  subst e;rcases Cv i j with g|g
  ·exact BY hs<|h i (j-1) (by omega) (by exact sH) (by exact z_)
  ·have e:i=j:=by lia
   subst e;exact Do _
def oY{arr:VI}{P R:VH}{a b:Nat}{v:Int}(h:arr.toList=P++R)(U:a<=b)(l:b<=R.length)(g:∀i (_:i<R.length),a<=i->i<b->f R[i]=v):
 ∃R',(mirror arr (P.length+a) (P.length+b)<|(P.length+b-(P.length+a)) / 2).toList=P++R'/\R'.Perm R/\R'.map f=R.map f:=by
 have j:(P++R.take a).length=P.length+a:=by simp;lia
 have I:R=R.take a++((R.drop a).take (b-a)++(R.drop a).drop (b-a)):=by rw[A8,A8]
 have m:=kQ (P:=P++R.take a) (R:=R.drop a) (n:=b-a) (by rw[h,Ar,A8]) (by simp;lia);rw[j,show P.length+a+(b-a)=P.length+b by lia,Ar] at m;refine⟨_,m,?_,?_⟩
 ·refine List.Perm.trans ?_<|EE I.symm;exact(BD _).mpr ((BA _).mpr<|Ee _)
 ·have r:((R.drop a).take<|b-a).map f=List.replicate (b-a) v:=by refine List.ext_getElem (by simp;lia) λi h1 h2=>?_;rw[List.getElem_map,BL,Ed,List.getElem_replicate];rw[Co] at h2;exact g _ _ (by lia) (by lia)
  have J:=BM (List.map f) I;rw[AI,AI,r] at J;rw[AI,AI,List.map_reverse,r,List.reverse_replicate,J]
theorem R7(O:Ord prog w A s κ Ok f){st:SortSt}{P R:VH}(T:Tl κ Ok st P R)(h1:1<=R.length){Q:Option Nat->SortSt->Prop}
 (q:∀n R' arr,1<=n->n<=R.length->R'.Perm R->arr.toList=P++R'->Up f R' n->Q (some n) (setArr st arr)):wpS (model prog w) A E s (countRun' P.length R.length) Q st:=by
 have ba:setArr st (arrOf st)=st:=rfl;refine Ac (AV (AM (I:=λx c g=>g=st/\c=(none,x)/\Up f R x)
  (Q:=λc g=>g=st/\∃n,c=(none,n)/\1<=n/\n<=R.length/\Up f R n/\(n=R.length\/∃h:n<R.length,f R[n]<f (R[n-1]'(by exact sH)))) ?_ ?_ ⟨rfl,rfl,Up.one⟩) ?_)
 ·rintro x c g t hx ⟨rfl,rfl,U⟩;dsimp only;refine Ac<|jW O T (i:=x) (j:=x-1) hx (by exact sH) rfl (by lia) ?_;dsimp only;by_cases c:f R[x]<f (R[x-1]'(by omega))
  ·rw[AK c,AA rfl];exact Ae ⟨rfl,x,rfl,t,by exact jI,U,.inr ⟨hx,c⟩⟩
  ·rw[AD c,Ay (by simp)];exact Ae ⟨rfl,rfl,U.snoc t hx (by omega)⟩
 ·rintro c g ⟨rfl,rfl,U⟩;exact⟨rfl,_,rfl,by lia,by lia,by rw[Cj h1] at *;exact U,.inl (by lia)⟩
 ·rintro c g ⟨rfl,n,rfl,a3,a4,U,ac⟩;dsimp only;by_cases c1:(n==R.length)=true
  ·rw[AA c1];exact Ae<|q n R (arrOf g) a3 a4 (CD _) T.arr U
  rw[Ay c1];have c1:¬n=R.length:=by simpa using c1
  have au:n<R.length:=by exact A_
  have hd:f R[n]<f (R[n-1]'(by omega)):=by
   rcases ac with h|⟨h,h'⟩
   ·exact absurd h c1
   ·exact h'
  refine jQ (P:=λo=>∃arr R',o=setArr g arr/\arr.toList=P++R'/\R'.Perm R/\gK f R' (n+1)) (λc2=>⟨arrOf g,R,rfl,T.arr,CD _,?_⟩) ?_ λc2 key=>?_
  ·obtain rfl:n=1:=by lia
   exact gK.snoc (λi j av hj a5=>by (have e:i=j:=by lia);(subst e;exact Do _)) (Ap _) au<|BS hd
  rotate_left
  ·refine Ac<|jW O T (i:=0) (j:=n-1) (by assumption) (by exact sH) rfl (by omega) ?_;dsimp only;by_cases c3:f R[0]<f (R[n-1]'(by omega))
   ·rw[AK c3,AA rfl];exact Ae<|q n R (arrOf g) a3 a4 (CD _) T.arr U
   rw[AD c3,Ay (by simp)];have al:∀i (_:i<R.length),0<=i->i<n->f R[i]=f R[0]:=λi hi _ aR=>by have a1:=U 0 i (Bb _) hi aR;have a2:=U i (n-1) (by lia) (by lia) (by lia);lia
   obtain⟨R',m1,m2,m3⟩:=oY (f:=f) T.arr (Bb n) a4 al;refine Ac<|wpS_modify<|key _ ⟨_,R',rfl,m1,m2,gK.same (gK.snoc (λi j av hj a5=>?_) a3 au<|BS hd) m3⟩;rw[al j hj (Bb _) a5,al i (by lia) (Bb _) (by lia)];exact Do _
  rintro _ ⟨arr,R0,rfl,r,ax,D0⟩;refine Ac<|wpS_lift<|Bv ⟨rfl,?_⟩;have l0:R0.length=R.length:=ax.length_eq;refine Ac (AV (AM (I:=λx c o=>∃J arr R',c=(none,x,J)/\o=setArr g arr/\arr.toList=P++R'/\R'.Perm R/\gK f R' x/\J+1<=x/\∃v,∀i (_:i<R'.length),x-(J+1)<=i->i<x->f R'[i]=v)
   (Q:=λc o=>∃n J arr R',c=(none,n,J)/\o=setArr g arr/\arr.toList=P++R'/\R'.Perm R/\gK f R' n/\J+1<=n/\n<=R.length/\∃v,∀i (_:i<R'.length),n-(J+1)<=i->i<n->f R'[i]=v) ?_ ?_ ⟨0,arr,R0,rfl,rfl,r,ax,D0,by lia,f<|R0[n]'(by lia),λi hi h2 h3=>by (have e:i=n:=by lia);(subst e;rfl)⟩) ?_)
  ·rintro x c o t hx ⟨J,arr,p,rfl,rfl,r,l,D,hq,v,C⟩;have l1:p.length=R.length:=l.length_eq;have T1:=T.same l r;dsimp only;refine Ac<|jW O T1 (i:=x) (j:=x-1) (by lia) (by lia) rfl (by lia) ?_;dsimp only;by_cases c:f (p[x]'(by lia))<f (p[x-1]'(by omega))
   ·rw[AK c,AA rfl];refine jQ (P:=λo=>∃arr R',o=setArr g arr/\arr.toList=P++R'/\R'.Perm R/\gK f R' (x+1)) (λ_=>⟨arr,p,rfl,r,l,D.snoc (by lia) (by lia)<|BS c⟩) ?_ λc2 key=>?_
    ·rintro _ ⟨arr,R',rfl,r,l,D⟩;exact Ae ⟨0,arr,R',rfl,rfl,r,l,D,by lia,f (R'[x]'(by have:=l.length_eq;lia)),λi hi h2 h3=>by (have e:i=x:=by lia);(subst e;rfl)⟩
    ·obtain⟨R',m1,m2,m3⟩:=oY (f:=f) (a:=x-(J+1)) (b:=x) r (by lia) (by lia) C;refine Ac<|wpS_modify<|key _ ⟨_,R',rfl,?_,m2.trans l,gK.same (D.snoc (by lia) (by lia)<|BS c) m3⟩;rw[<-m1];show(mirror arr (P.length+x-(J+1)) (P.length+x)<|(P.length+x-(P.length+x-(J+1))) / 2).toList=_;rw[show P.length+x-(J+1)=P.length+(x-(J+1)) by lia]
   ·rw[AD c,Ay (by simp)];refine Ac<|jW O T1 (i:=x-1) (j:=x) (by omega) (by lia) (by lia) rfl ?_;dsimp only;by_cases c3:f (p[x-1]'(by omega))<f (p[x]'(by lia))
    ·rw[AK c3,AA rfl];exact Ae ⟨x,J,arr,p,rfl,rfl,r,l,D,hq,by lia,v,C⟩
    ·rw[AD c3,Ay (by simp)];refine Ae ⟨J+1,arr,p,rfl,rfl,r,l,D.snoc (by lia) (by lia) (by lia),by lia,v,λi hi h2 h3=>?_⟩;rcases Cv i x with h|h
     ·exact C i hi (by lia) h
     ·have:i=x:=by lia
      subst this;rw[<-C (i-1) (by lia) (by lia) (by lia)];lia
  ·rintro c o ⟨J,arr,p,rfl,rfl,r,l,D,hq,v,C⟩;exact⟨_,J,arr,p,rfl,rfl,r,l,D,hq,by lia,v,C⟩
  ·rintro c o ⟨n,J,arr,p,rfl,rfl,r,l,D,hq,g2,v,C⟩;have l1:p.length=R.length:=l.length_eq;dsimp only;refine jQ (P:=λo=>∃arr R',o=setArr g arr/\arr.toList=P++R'/\R'.Perm R/\gK f R' n) (λ_=>⟨arr,p,rfl,r,l,D⟩) ?_ (λc2 key=>?_)
   rotate_left
   ·obtain⟨R',m1,m2,m3⟩:=oY (f:=f) (a:=n-(J+1)) (b:=n) r (by lia) (by lia) C;refine Ac<|wpS_modify<|key _ ⟨_,R',rfl,?_,m2.trans l,D.same m3⟩;rw[<-m1];show(mirror arr (P.length+n-(J+1)) (P.length+n)<|(P.length+n-(P.length+n-(J+1))) / 2).toList=_;rw[show P.length+n-(J+1)=P.length+(n-(J+1)) by lia]
   clear C D r l l1;rintro _ ⟨arr,p,rfl,r,l,D⟩;have l1:p.length=R.length:=l.length_eq;have T1:=T.same l r;have T':=T1.same (R':=(p.take n).reverse++p.drop n) (((BA _).mpr<|Ee _).trans (by rw[A8]))<|kQ r (by lia);obtain⟨R',eR⟩:∃R',R'=(p.take n).reverse++p.drop n:=⟨_,rfl⟩;have aL:R'.Perm R:=by rw[eR];exact(((BA _).mpr<|Ee _).trans (by rw[A8])).trans l
   have lR:R'.length=R.length:=aL.length_eq;have U':Up f R' n:=λi j av hj a5=>by
    subst eR;rw[Ei (by simp;lia),Ei (by simp;lia),List.getElem_reverse,List.getElem_reverse,BL,BL];refine D _ _ ?_ (by simp;omega) ?_
    ·simp;omega
    ·simp;omega
   rw[<-eR] at T';refine Ac<|wpS_modify ?_;refine Ac (AV (AM (I:=λx c o=>o=setArr g (mirror arr P.length (P.length+n)<|(P.length+n-P.length) / 2)/\c=(none,x)/\Up f R' x)
    (Q:=λc o=>o=setArr g (mirror arr P.length (P.length+n)<|(P.length+n-P.length) / 2)/\∃n,c=(none,n)/\1<=n/\n<=R.length/\Up f R' n) ?_ ?_ ⟨rfl,rfl,U'⟩) ?_)
   ·rintro x c o t hx ⟨rfl,rfl,U⟩;dsimp only;refine Ac<|jW O T' (i:=x) (j:=x-1) (by lia) (by omega) rfl (by lia) ?_;dsimp only;by_cases c:f (R'[x]'(by omega))<f (R'[x-1]'(by omega))
    ·rw[AK c,AA rfl];exact Ae ⟨rfl,x,rfl,by lia,by exact jI,U⟩
    ·rw[AD c,Ay (by simp)];exact Ae ⟨rfl,rfl,U.snoc (by omega) (by lia) (by omega)⟩
   ·rintro c o ⟨rfl,rfl,U⟩;exact⟨rfl,_,rfl,by lia,by lia,U⟩
   ·rintro c o ⟨rfl,n,rfl,k1,k2,U⟩;exact Ae<|q n R' _ k1 k2 aL T'.arr U
end
section
variable {w:Vw}{κ:SortKind}{Ok:Keyed->Prop}{f:VJ}
def Up.of{R:VH}(h:(R.take n).Pairwise λx y=>f x<=f y):Up f R n:=λi j I U J=>by have:=ud h (i:=i) (j:=j) I (by simp;lia);rw[BL,BL] at this;exact this
def R8{R:VH}{k l:Nat}(I:k<R.length)(J:l<=k):(R.take l++R[k]::((R.drop l).take (k-l)++R.drop (k+1))).Perm R:=by
 have e:R=R.take l++((R.drop l).take (k-l)++(R[k]::R.drop (k+1))):=by rw[<-Ar,Gk _ J,<-B5 I,A8]
 refine List.Perm.trans ?_<|EE e.symm;exact(BD _).mpr Ci.symm
def R9{R:VH}{k l:Nat}(p:k<R.length)(r:l<=k)(U:Up f R k)(lo:∀i (_:i<l),f (R[i]'(by lia))<=f R[k])(hi:∀i (_:i<k),l<=i->f R[k]<=f (R[i]'(by exact uV))):
 Up f (R.take l++R[k]::((R.drop l).take (k-l)++R.drop (k+1))) (k+1):=by
 apply Up.of;have e:R.take l++R[k]::((R.drop l).take (k-l)++R.drop (k+1))=(R.take l++R[k]::(R.drop l).take (k-l))++R.drop (k+1):=by simp
 rw[e,List.take_left' (by simp;lia)];have I:=U.pair<|BK p;rw[<-Gk R r] at I;have I:=AR.mp I;have t:∀y∈(R.drop l).take (k-l),f R[k]<=f y:=λy J=>by obtain⟨j,o,rfl⟩:=BU J;rw[AZ,BF] at o;rw[BL,Ed];exact hi (l+j) (by lia) (by exact Bg _ _)
 have C:∀x∈R.take l,f x<=f R[k]:=λx g=>by obtain⟨j,o,rfl⟩:=BU g;rw[AZ] at o;rw[BL];exact lo j (by lia)
 refine AR.mpr ⟨I.1,List.pairwise_cons.mpr ⟨t,I.2.1⟩,λx g y J=>?_⟩;rcases Am.mp J with rfl|J
 ·exact C x g
 ·exact I.2.2 x g y J
def Sa(O:Ord prog w A s κ Ok f){st:SortSt}{P R:VH}(T:Tl κ Ok st P R){ok:Nat}(hn:n<=R.length)(h1:1<=ok)(ho:ok<=n)(U:Up f R ok){Q:Bool->SortSt->Prop}
 (q:∀R' arr,R'.Perm R->arr.toList=P++R'->Up f R' n->Q true (setArr st arr)):wpS (model prog w) A E s (binarySort' P.length n ok) Q st:=by
 have a1:setArr st (arrOf st)=st:=rfl;refine Ac (AV (AM (I:=λx c J=>c=(none,())/\∃R' arr,J=setArr st arr/\R'.Perm R/\arr.toList=P++R'/\Up f R' x)
  (Q:=λc J=>c=(none,())/\∃R' arr,J=setArr st arr/\R'.Perm R/\arr.toList=P++R'/\Up f R' n) ?_ ?_ ⟨rfl,R,arrOf st,rfl,CD _,T.arr,by rw[Cs h1];exact U⟩) ?_)
 ·rintro x c J a2 hx ⟨rfl,R',arr,rfl,p,t,o⟩;have T':=T.same p t;have lR:R'.length=R.length:=p.length_eq;have g:x<R'.length:=by lia
  dsimp only;refine Ac (AV (AM (I:=λy c J=>J=setArr st arr/\∃l r,c=(none,l,r)/\l<=r/\r<=x/\r-l+y<=x/\(∀i (_:i<l) (_:i<R'.length),f R'[i]<=f R'[x])/\(∀i (_:i<x),r<=i->f R'[x]<=f (R'[i]'(by exact uV))))
   (Q:=λc J=>J=setArr st arr/\∃l,c=(none,l,l)/\l<=x/\(∀i (_:i<l) (_:i<R'.length),f R'[i]<=f R'[x])/\(∀i (_:i<x),l<=i->f R'[x]<=f (R'[i]'(by lia)))) ?_ ?_ ⟨rfl,0,x,rfl,Bb _,Ap _,by exact Nat.sub_le _ _,λi h=>by lia,λi h h'=>by omega⟩) ?_)
  ·rintro y c J _ hy ⟨rfl,l,r,rfl,g1,g2,g3,C,g5⟩;dsimp only;by_cases c:l>=r
   ·rw[AA c];obtain rfl:l=r:=by lia
    exact Ae ⟨rfl,l,rfl,g2,C,g5⟩
   ·rw[Ay c];refine Ac<|jW O T' (i:=x) (j:=(l+r) / 2) g (by lia) rfl rfl ?_;dsimp only;by_cases e:f R'[x]<f (R'[(l+r) / 2]'(by lia))
    ·rw[AK e,AA rfl];refine Ae ⟨rfl,l,(l+r) / 2,rfl,by lia,by lia,by omega,C,λi h h'=>?_⟩;exact BY (BS e)<|o _ _ h' (by exact uV) h
    ·rw[AD e,Ay (by simp)];refine Ae ⟨rfl,(l+r) / 2+1,r,rfl,by lia,g2,by omega,λi h h'=>?_,g5⟩;exact BY (o i ((l+r) / 2) (by exact Ib) (by lia) (by lia)) (by omega)
  ·rintro c J ⟨rfl,l,r,rfl,g1,g2,g3,C,g5⟩;obtain rfl:l=r:=by lia
   exact⟨rfl,l,rfl,g2,C,g5⟩
  ·rintro c J ⟨rfl,l,rfl,g2,C,g5⟩;dsimp only;refine Ac<|wpS_modify ?_;exact Ae ⟨rfl,_,_,rfl,(R8 g g2).trans p,t8 t g g2,R9 g g2 o (λi h=>C i h (by lia)) g5⟩
 ·rintro c J ⟨rfl,R',arr,rfl,p,t,o⟩;exact⟨rfl,R',arr,rfl,p,t,by rw[Cs h1,Cj ho] at o;exact o⟩
 ·rintro c J ⟨rfl,R',arr,rfl,p,t,o⟩;exact Ae<|q R' arr p t o
end
section
variable {w:Vw}{κ:SortKind}{Ok:Keyed->Prop}{f:VJ}
def Sb{N:Nat}(h:N<128):N<=2*(sortPriv% PySem.Builtin.minRun) N N 0:=by
 show N<=2*minRun' N N 0;cases N with
 |zero=>exact Bb _
 |succ r=>
  rw[minRun'_succ];split
  ·lia
  ·cases r with|zero=>lia|succ r=>rw[minRun'_succ,AA (by lia)];lia
def Hk(f:VJ)(I:Nat)(pn:Array<|Nat×Nat×Nat)(X Y R:VH):Prop:=
 (pn=#[]/\X=[]/\Y=[])\/(∃w,pn=#[(0,X.length,w)]/\Y=[]/\(I<=X.length\/R=[])/\X.Pairwise λx y=>f x<=f y)\/
  ∃w v,pn=#[(0,X.length,w),(X.length,Y.length,v)]/\0<X.length/\0<Y.length/\R=[]/\(X.Pairwise λx y=>f x<=f y)/\Y.Pairwise λx y=>f x<=f y
theorem JC(O:Ord prog w A s κ Ok f){st:SortSt}{Q:Unit->SortSt->Prop}(a3:(arrOf st).size<128)(hk:kindOf st=κ)(hp:pendingOf st=#[])(hf:failedOf st=none)(ok:∀x∈(arrOf st).toList,Ok x)
 (q:∀g,failedOf g=none->(arrOf g).toList.Perm (arrOf st).toList->((arrOf g).toList.Pairwise λx y=>f x<=f y)->Q () g):wpS (model prog w) A E s sortRuns' Q st:=by
 refine Ac<|wpS_get ?_;dsimp only;have lN:(arrOf st).toList.length=(arrOf st).size:=Bc;obtain⟨N,eN⟩:∃N,N=(arrOf st).size:=⟨_,rfl⟩;rw[<-eN] at a3 lN ⊢;obtain⟨Z,eZ⟩:∃Z,Z=(arrOf st).toList:=⟨_,rfl⟩;rw[<-eZ] at lN ok q;have au:=Sb a3;generalize (sortPriv% PySem.Builtin.minRun) N N 0=mr at au ⊢;refine Ac (AV (AM (I:=λx c g=>∃X Y R lo,c=(none,lo)/\kindOf g=κ/\failedOf g=none/\(arrOf g).toList=X++Y++R/\(X++Y++R).Perm Z/\lo=(X++Y).length/\Hk f mr (pendingOf g) X Y R/\x<=lo)
  (Q:=λc g=>∃X Y lo,c=(none,lo)/\kindOf g=κ/\failedOf g=none/\(arrOf g).toList=X++Y/\(X++Y).Perm Z/\Hk f mr (pendingOf g) X Y []) ?_ ?_ ⟨[],[],Z,0,rfl,hk,hf,eZ.symm,.refl _,rfl,.inl ⟨hp,rfl,rfl⟩,Ap _⟩) ?_)
 ·rintro x c g _ hx ⟨X,Y,R,lo,rfl,k1,k2,t,r,rfl,k6,k7⟩;dsimp only;have lt:=r.length_eq;rw[Ad,lN] at lt;by_cases c:(X++Y).length>=N
  ·rw[AA c];cases B7 (show R.length=0 by lia);rw[AC] at t r;exact Ae ⟨X,Y,_,rfl,k1,k2,t,r,k6⟩
  rw[Ay c,show N-(X++Y).length=R.length by lia];have T:Tl κ Ok g (X++Y) R:=⟨k1,t,λx hx=>ok x<|r.mem_iff.mp<|Ag _ hx⟩;refine Ac<|R7 O T (by lia) λn R1 a4 g1 g2 a1 ac U1=>?_;dsimp only;have l1:=a1.length_eq;have xa:∀{J:SortSt} {R2:VH} {j:Nat} {pn:Array<|Nat×Nat×Nat},kindOf J=κ->failedOf J=none->(arrOf J).toList=X++Y++R2->pendingOf J=pn.push ((X++Y).length,j,0)->((pendingOf g=#[]/\pn=#[])\/∃v,pn=(pendingOf g).modify ((pendingOf g).size-1) λp=>(p.1,p.2.1,v))->R2.Perm R->1<=j->j<=R.length->(mr<=j\/j=R.length)->Up f R2 j->
   ∃X' Y' R' lo,((none,(X++Y).length+j):Option Unit×Nat)=(none,lo)/\kindOf J=κ/\failedOf J=none/\(arrOf J).toList=X'++Y'++R'/\(X'++Y'++R').Perm Z/\lo=(X'++Y').length/\Hk f mr (pendingOf J) X' Y' R'/\x+1<=lo:=λ{J R2 j pn} h1 h2 h3 h4 hn p2 h5 h6 h7 U=>by
   have l2:=p2.length_eq;have av:(R2.take j).length=j:=by rw[AZ];lia
   have U':=U.pair (by lia);have pz:(X++Y++R2).Perm Z:=((BD _).mpr p2).trans r;rcases k6 with⟨o,rfl,rfl⟩|⟨w,o,rfl,h8,h9⟩|⟨w,v',o,_,_,rfl,_⟩
   ·have e2:pn=#[]:=by
     rcases hn with⟨_,h⟩|⟨v,h⟩
     ·exact h
     ·rw[h,o];rfl
    refine⟨R2.take j,[],R2.drop j,_,rfl,h1,h2,by rw[h3];simp,by simpa using pz,by simp;lia,.inr (.inl ⟨0,by rw[h4,e2,av];rfl,rfl,?_,U'⟩),by lia⟩;rcases h7 with h|h
    ·exact .inl (by lia)
    ·exact .inr<|Ex (by lia)
   ·have e2:∃v,pn=#[(0,X.length,v)]:=by
     rcases hn with⟨h,_⟩|⟨v,h⟩
     ·rw[o] at h;cases h
     ·exact⟨v,by rw[h,o];rfl⟩
    obtain⟨v,e2⟩:=e2;have r0:R≠[]:=λe=>by rw[e] at h6;exact absurd h6 (by simp;lia)
    have h8:=h8.resolve_right r0;rw[AC] at h3 h4 pz lt c ⊢;have en:j=R2.length:=by rcases h7 with h'|h'<;>lia
    rw[AS (by lia)] at U';exact⟨X,R2,[],_,rfl,h1,h2,by rw[h3];simp,by simpa using pz,by rw[Ad,en],.inr (.inr ⟨v,0,by rw[h4,e2,en];rfl,by lia,by lia,rfl,h9,U'⟩),by lia⟩
   ·exact absurd h6 (by simp;lia)
  have sz:(pendingOf g).size<=1:=by
   rcases k6 with⟨o,_⟩|⟨w,o,_⟩|⟨w,v',o,_,_,rfl,_⟩
   ·rw[o];exact Bb _
   ·rw[o];exact Ap _
   ·exact absurd lt (by simp at c ⊢;lia)
  by_cases cm:n<mr
  case' pos=>
   rw[AA cm];refine Ac<|wpS_lift<|Bv ⟨rfl,?_⟩;refine Ac<|Sa O (T.same a1 ac) (by lia) g1 (by lia) U1 λR2 al ax aL U2=>?_;rw[Ay (by simp)];obtain⟨j,a2⟩:∃j,j=min R.length mr:=⟨_,rfl⟩;rw[<-a2] at U2 ⊢;have p2:R2.Perm R:=ax.trans a1;have h7:mr<=j\/j=R.length:=by lia
   obtain⟨l,C⟩:∃l,l=setArr (setArr g a4) al:=⟨_,rfl⟩
  case' neg=>
   rw[Ay cm];obtain⟨j,a2⟩:∃j,j=n:=⟨_,rfl⟩;obtain⟨R2,a5⟩:∃R2,R2=R1:=⟨_,rfl⟩;rw[<-a2,<-a5] at U1;rw[<-a2];have U2:=U1;have p2:R2.Perm R:=by rw[a5];exact a1
   have h7:mr<=j\/j=R.length:=by lia
   obtain⟨l,C⟩:∃l,l=setArr g a4:=⟨_,rfl⟩
  all_goals
   have n1:1<=j:=by lia
   have n3:j<=R.length:=by lia
   have o:kindOf l=κ:=by rw[C];exact k1
   have e2:failedOf l=none:=by rw[C];exact k2
   have e3:(arrOf l).toList=X++Y++R2:=by rw[C];first|exact aL|(rw[a5];exact ac)
   have e4:pendingOf l=pendingOf g:=by rw[C]
   rw[<-C];refine Ac<|wpS_get ?_;split
   ·refine Ac<|AV (AM (I:=λy c J=>c=(none,())/\J=l) (Q:=λc J=>c=(none,())/\J=l) ?_ ?_ ⟨rfl,rfl⟩) ?_
    ·rintro y c J _ hy ⟨rfl,rfl⟩;refine Ac<|wpS_get ?_;rw[Ay (show ¬(pendingOf J).size > 1 by rw[e4];lia)];exact Ae ⟨rfl,rfl⟩
    ·exactλc J h=>h
    ·rintro c J ⟨rfl,rfl⟩;dsimp only;refine Ac<|wpS_modify<|Ac<|wpS_modify<|Ae ?_;exact xa o e2 e3 rfl (.inr ⟨_,by rw[<-e4]⟩) p2 n1 n3 h7 U2
   ·rename_i hb;have hb:(pendingOf l).back?=none:=Option.eq_none_iff_forall_ne_some.mpr λp=>hb p.1 p.2.1 p.2.2;rw[e4,Array.back?_eq_none_iff] at hb;exact Ac<|wpS_modify<|Ae<|xa o e2 e3 rfl (.inl ⟨hb,e4.trans hb⟩) p2 n1 n3 h7 U2
 ·rintro c g ⟨X,Y,R,lo,rfl,k1,k2,t,r,rfl,k6,k7⟩;have lt:=r.length_eq;rw[Ad,lN] at lt;cases B7 (show R.length=0 by lia);rw[AC] at t r;exact⟨X,Y,_,rfl,k1,k2,t,r,k6⟩
 ·rintro c g ⟨X,Y,lo,rfl,k1,k2,t,r,k6⟩;dsimp only;have lt:=r.length_eq;rw[lN] at lt;refine Ac (AV (AM (I:=λy c J=>c=(none,())/\((y=0/\J=g)\/(failedOf J=none/\(pendingOf J).size<=1/\(arrOf J).toList.Perm Z/\(arrOf J).toList.Pairwise λx y=>f x<=f y)))
   (Q:=λc J=>c=(none,())/\failedOf J=none/\(arrOf J).toList.Perm Z/\(arrOf J).toList.Pairwise λx y=>f x<=f y) ?_ ?_ ⟨rfl,.inl ⟨rfl,rfl⟩⟩) ?_)
  ·rintro y c J _ hy ⟨rfl,h⟩;refine Ac<|wpS_get ?_;rcases h with⟨rfl,rfl⟩|⟨h1,h2,h3⟩
   ·rcases k6 with⟨o,rfl,rfl⟩|⟨w,o,rfl,_,h9⟩|⟨w,v,o,lX,lY,_,sX,sY⟩
    ·rw[AA (show(pendingOf J).size<=1 by rw[o];exact Bb _)];exact Ae ⟨rfl,k2,by rw[t];exact r,by rw[t];exact .nil⟩
    ·rw[AA (show(pendingOf J).size<=1 by rw[o];exact Ap _)];exact Ae ⟨rfl,k2,by rw[t];exact r,by rw[t,AC];exact h9⟩
    ·rw[Ay (show ¬(pendingOf J).size<=1 by rw[o];exact Nat.not_succ_le_self 1)];have gen:∀b:Bool,(if b=true then(pendingOf J).size-2-1 else(pendingOf J).size-2)=0:=λb=>by cases b<;>rw[o]<;>rfl
     refine Ac ?_;show wpS _ _ _ _ (mergeAt'<|if _=true then(pendingOf J).size-2-1 else(pendingOf J).size-2) _ _;rw[gen];refine R5 O k1 k2 o t (λx hx=>ok x<|r.mem_iff.mp hx) lX lY sX sY λaR b1 b2 b3 b4=>?_;rw[Ay (by simp)];exact Ae ⟨rfl,.inr ⟨b1,by rw[b2];exact Ap _,b3.trans r,b4⟩⟩
   ·rw[AA h2];exact Ae ⟨rfl,h1,h3⟩
  ·rintro c J ⟨rfl,h⟩;rcases h with⟨h0,rfl⟩|⟨h1,_,h3⟩
   ·have e:X++Y=[]:=B7 (by lia);rw[e] at t r;exact⟨rfl,k2,by rw[t];exact r,by rw[t];exact .nil⟩
   ·exact⟨rfl,h1,h3⟩
  ·rintro c J ⟨rfl,h1,h2,h3⟩;exact Ae<|q J h1 h2 h3
end
open PySem PyProof.Rows PySem.W
def JD(h:Vx)(B:Int)(x:Keyed):Prop:=∃a o n r p t u,x.1=.ref a/\h.get? a=some o/\o.data=.seq #[.int r t,.int p u] n/\0<=p/\p<B
noncomputable def num(h:Vx)(B:Int)(x:Keyed):Int:=match x.1 with
 |.ref a=>match h.get? a with
  |some o=>match o.data with
   |.seq xs _=>match xs.toList with
    |[.int r _,.int p _]=>r*B+p
    |_=>0
   |_=>0
  |none=>0
 |_=>0
def num_of{B:Int}{x:Keyed}{a:Addr}{o:Obj}{r p:Int}{t u:Tok}(I:x.1=.ref a)(J:h.get? a=some o)(U:o.data=.seq #[.int r t,.int p u] n):num h B x=r*B+p:=by unfold num;simp[I,J,U]
def uf{w:Vw}{B:Int}:Ord prog w A s (tuples' true) (JD s.heap B) (num s.heap B):=by
 constructor;rintro x y ⟨a1,o1,n1,I,J,r,t,l,g1,d1,b1,c1⟩ ⟨a2,o2,n2,U,g,C,T,o,g2,d2,b2,c2⟩ E Q h;rw[num_of l g1 d1,num_of o g2 d2] at h;rw[l,o];refine kat_lt g1 d1 g2 d2 ?_;show KatLex prog w A true _ Q [(.int I r,.int U C),(.int J t,.int g T)] 0 s;refine kat_cons<|wpAny_eqBool_int ?_;by_cases c:I=U
 ·subst c;rw[beq_self_eq_true];refine kat_yes<|kat_cons<|wpAny_eqBool_int ?_;by_cases p:J=g
  ·subst p;rw[beq_self_eq_true];refine kat_yes<|kat_nil ?_;have e:decide (I*B+J<I*B+J)=false:=AD (by lia);rw[e] at h;exact h
  ·rw[EF p];refine kat_no<|kat_one _ _<|PyProof.Rows.lt_int ?_;have e:decide (I*B+J<I*B+g)=decide (J<g):=by
    by_cases z:J<g
    ·rw[AK z];exact AK (by lia)
    ·rw[AD z];exact AD (by lia)
   rw[e] at h;exact h
 ·rw[EF c];refine kat_no<|oneLt_int ?_;have e:decide (I*B+J<U*B+g)=decide (I<U):=by
   by_cases z:I<U
   ·rw[AK z];have j:(I+1)*B<=U*B:=CF (by assumption) (by lia);rw[EG,Int.one_mul] at j;exact AK (by omega)
   ·rw[AD z];have j:(U+1)*B<=I*B:=CF (by lia) (by lia);rw[EG,Int.one_mul] at j;exact AD (by lia)
  rw[e] at h;exact h
section
variable {w:Vw}
def pC(h:Vx)(B:Int)(v:Vt):Prop:=∃a o n r p t u,v=.ref a/\h.get? a=some o/\o.cls=.type "tuple" /\ o.data=.seq #[.int r t,.int p u] n/\0<=p/\p<B
def pC.pair{B:Int}{x:Keyed}(k:pC h B x.1):JD h B x:=by obtain⟨a,o,n,r,p,t,u,I,J,_,U,g,j⟩:=k;exact⟨a,o,n,r,p,t,u,I,J,U,g,j⟩
theorem tups{h:Vx}{B:Int}:∀{ks:Vi},(∀v∈ks,pC h B v)->∃fs,KatTups h ks fs/\fs.length=ks.length/\∀v∈fs,∃r t,v=Value.int r t
 |[],_=>⟨[],trivial,rfl,λv I=>by simp at I⟩
 |k::ks,J=>by
  obtain⟨fs,h1,h2,h3⟩:=tups (ks:=ks) λv I=>J v<|Ab _ I;obtain⟨a,o,n,r,p,t,u,rfl,U,g,j,_,_⟩:=J k<|Aj ..;refine⟨.int r t::fs,KatTups.cons U g j rfl h1,by simp[h2],λv I=>?_⟩;rcases Am.mp I with rfl|I
  ·exact⟨r,t,rfl⟩
  ·exact h3 v I
def JE{B:Int}{ks:Vi}{Q:SortKind->Vu->Prop}(I:∀v∈ks,pC s.heap B v)(h0:0<ks.length)(q:Q (tuples' true) s):wpAny (model prog w) A (keyKind' ks.toArray) Q E s:=by
 obtain⟨fs,h1,h2,h3⟩:=tups I;refine kat_kind (T:=.type "int") h1 (by lia) (λv J=>?_) (by decide) ?_
 ·obtain⟨r,t,rfl⟩:=h3 v J;exact .now
 ·exact q
theorem uz{R:α->α->Prop}:∀{l:List α},l.length<2->l.Pairwise R
 |[],_=>List.Pairwise.nil
 |[_],_=>Ep _ _
 |_::_::_,h=>absurd h (by simp)
def Sc{a kS:Addr}{ks:Vi}{e j:Nat}{B:Int}{P:PySem.Fin->Vu->Prop}(p:s.heap.get? kS=some (seqObj "list" ks.toArray e))(ha:s.heap.get? a=some (seqObj "list" #[] j))(r:kS≠a)(hl:ks.length=vs.length)(U:vs.length<=127)
 (hk:∀v∈ks,pC s.heap B v)
 (h:∀h' tk (xs:VH) c,(∀b,b≠kS->b≠a->h'.get? b=s.heap.get? b)->h'.get? a=some (seqObj "list" (List.toArray (xs.map (·.2))) c)->xs.Perm (ks.zip vs)->(xs.Pairwise λx y=>num s.heap B x<=num s.heap B y)->P (.done<|.ret .none) {s with heap:=h',toks:=tk}):
 wpAny (model prog w) A (ksk_end a false vs.toArray j (.ref kS) ks.toArray) P E s:=by
 have hz:vs.length<=sizeLine:=AW U (by decide);have l:(ks.toArray.zip vs.toArray).toList=ks.zip vs:=by simp
 have tail:∀st:SortSt,failedOf st=none->(arrOf st).toList.Perm (ks.zip vs)->((arrOf st).toList.Pairwise λx y=>num s.heap B x<=num s.heap B y)->wpAny (model prog w) A (ksk_tail a false j (.ref kS) st) P E s:=by
  intro st hf hp hs;have s1:=yp s.heap kS<|Obj.mapSeq λ_=>(#[]:Vj);have J:(s.heap.update kS<|Obj.mapSeq λ_=>(#[]:Vj)).get? a=some (seqObj "list" #[] j):=(s1.2 a r.symm).trans ha;have s2:=yp (s.heap.update kS<|Obj.mapSeq λ_=>(#[]:Vj)) a (Obj.mapSeq λ_=>(arrOf st).map (·.2));have len:((arrOf st).map (·.2)).size<=sizeLine:=by have:=hp.length_eq;rw[De,Bc] at this;rw[Array.size_map];lia
  unfold ksk_tail
  try dsimp only
  refine Aa (listUpdate_at p rfl ?_ (by rw[Aw];lia)<|Bb _);refine Aa<|wpAny_letGo ?_;refine Aa<|seqEpoch_at J rfl ?_;refine Aa (listUpdate_at J rfl ?_ (Bb _) (by simp only[BZ,if_false];exact BV len));rw[hf];simp only[bne_self_eq_false,BZ,if_false];obtain⟨t,g⟩:∃t,((s.heap.update kS<|Obj.mapSeq λ_=>(#[]:Vj)).update a (Obj.mapSeq λ_=>(arrOf st).map (·.2))).get? a=some (seqObj "list" ((arrOf st).map (·.2)) t):=⟨_,get?_update_seq J λ_=>(arrOf st).map (·.2)⟩;refine Ai<|h _ _ (arrOf st).toList t (λb C T=>?_) ?_ hp hs
  ·exact(s2.2 b T).trans (s1.2 b C)
  ·have em:(arrOf st).map (·.2)=List.toArray ((arrOf st).toList.map (·.2)):=by apply Array.toList_inj.mp;rw[Array.toList_map]
   rw[em] at g ⊢;exact g
 unfold ksk_end;simp only[BZ,if_false];by_cases h2:vs.toArray.size<2
 ·rw[AA h2,AA h2];refine Aa<|Ai ?_;rw[StateT.run_pure];refine Aa<|Ai ?_;refine tail _ rfl (by show(ks.toArray.zip vs.toArray).toList.Perm _;rw[l]) ?_;show(ks.toArray.zip vs.toArray).toList.Pairwise _;rw[l];rw[Aw] at h2;have:(ks.zip vs).length<2:=by rw[De];lia
  exact uz this
 ·rw[Ay h2,Ay h2];rw[Aw] at h2;refine Aa<|JE hk (by omega) ?_;refine Aa (AY (JC (E:=E) (uf (B:=B)) (st:=SortSt.mk' (tuples' true) (ks.toArray.zip vs.toArray) #[] 7 none)
   (Q:=λ_ I=>failedOf I=none/\(arrOf I).toList.Perm (ks.zip vs)/\((arrOf I).toList.Pairwise λx y=>num s.heap B x<=num s.heap B y)) (by show(ks.toArray.zip vs.toArray).size<128;simp;lia) rfl rfl rfl (λx o=>?_) λI b1 b2 b3=>⟨b1,?_,b3⟩) ?_ λ_ _ e=>e)
  ·have o:x∈(ks.toArray.zip vs.toArray).toList:=o;rw[l] at o;exact pC.pair<|hk _ (DH (a:=x.1) (b:=x.2) o).1
  ·have b2:(arrOf I).toList.Perm (ks.toArray.zip vs.toArray).toList:=b2;rw[l] at b2;exact b2
  ·rintro⟨⟨⟩,I⟩ s' ⟨rfl,b1,b2,b3⟩;exact tail I b1 b2 b3
end
def permLift(f:α->β):∀{l m:List β},l.Perm m->∀{T:List α},T.map f=m->∃U:List α,U.Perm T/\U.map f=l:=by
 intro l m p
 induction p with
 |nil=>intro T e;exact⟨T,CD _,e⟩
 |cons x _ o=>
  intro T e;cases T with
  |nil=>cases e
  |cons t r=>
   rw[AJ] at e;obtain⟨I,J⟩:=Eh e;obtain⟨U,C,e'⟩:=o J;exact⟨t::U,C.cons t,by rw[AJ,e',I]⟩
 |swap x y l=>
  intro T e
  match T,e with
  |t::u::r,e=>
   rw[AJ,AJ] at e;obtain⟨I,J⟩:=Eh e;obtain⟨e3,e4⟩:=Eh J;exact⟨u::t::r,List.Perm.swap t u r,by rw[AJ,AJ,I,e3,e4]⟩
 |trans _ _ g j=>
  intro T e;obtain⟨T1,p1,I⟩:=j e;obtain⟨T2,p2,J⟩:=g I;exact⟨T2,p2.trans p1,J⟩
section
variable {w:Vw}
def cZ{x:Keyed}(h:x∈vs.zip vs):x.1∈vs/\x.1=x.2:=by
 induction vs with
 |nil=>simp at h
 |cons v r I=>
  rw[List.zip_cons_cons] at h;rcases Am.mp h with rfl|h
  ·exact⟨Aj ..,rfl⟩
  ·exact⟨Ab _ (I h).1,(I h).2⟩
def JF(prog:Vv)(w:Vw)(s:Vu)(keep:Vx->Prop)(κ:SortKind)(vs:Vi)(nm:VJ):Prop:=∀(A:Around) (E:Vd) (g:Vx),keep g->
 Ord prog w A {s with heap:=g} κ (λx=>x∈vs.zip vs) nm/\(¬vs.length<2->∀Q:SortKind->Vu->Prop,Q κ {s with heap:=g}->wpAny (model prog w) A (keyKind' vs.toArray) Q E {s with heap:=g})
def Sd{a:Addr}{κ:SortKind}{nm:VJ}{P:PySem.Fin->Vu->Prop}(T:s.heap.get? a=some (seqObj "list" vs.toArray n))(hz:vs.length<=127)(ok:JF prog w s (λg=>∀b o,b≠a->s.heap.get? b=some o->g.get? b=some o) κ vs nm)
 (h:∀h' tk (xs:VH) c,(∀b o,b≠a->s.heap.get? b=some o->h'.get? b=some o)->h'.get? a=some (seqObj "list" (List.toArray (xs.map (·.2))) c)->xs.Perm (vs.zip vs)->(xs.Pairwise λx y=>nm x<=nm y)->P (.done<|.ret .none) {s with heap:=h',toks:=tk}):
 wpAny (model prog w) A (Builtin.«list.sort» ⟨[.ref a],[]⟩) P E s:=by
 have big:(100000:Nat)+1<=sizeLine:=by rw[sizeLine_eq];exact C9 _ _
 have r:(vs.toArray.zip vs.toArray).toList=vs.zip vs:=by simp
 have s1:=yp s.heap a<|Obj.mapSeq λ_=>(#[]:Vj);obtain⟨e1,l⟩:∃e1,(s.heap.update a<|Obj.mapSeq λ_=>(#[]:Vj)).get? a=some (seqObj "list" #[] e1):=⟨_,get?_update_seq T λ_=>#[]⟩;obtain⟨I,U⟩:∃g,g=((s.heap.update a<|Obj.mapSeq λ_=>(#[]:Vj)).push<|seqObj "tuple" vs.toArray 0).push (seqObj "list" #[] 0):=⟨_,rfl⟩;have k3:∀b o,b≠a->s.heap.get? b=some o->I.get? b=some o:=λb o t e=>by rw[U];exact vb _<|vb _<|(s1.2 b t).trans e
 have j:I.get? a=some (seqObj "list" #[] e1):=by rw[U];exact vb _<|vb _ l
 have tail:∀st:SortSt,(arrOf st).toList.Perm (vs.zip vs)->((arrOf st).toList.Pairwise λx y=>nm x<=nm y)->
  ∀tk,P (.done<|.ret .none) {s with heap:=I.update a (Obj.mapSeq λ_=>(arrOf st).map (·.2)),toks:=tk}:=by
  intro st hp hs tk;have s2:=yp I a (Obj.mapSeq λ_=>(arrOf st).map (·.2));obtain⟨c2,p⟩:∃c2,(I.update a (Obj.mapSeq λ_=>(arrOf st).map (·.2))).get? a=some (seqObj "list" ((arrOf st).map (·.2)) c2):=⟨_,get?_update_seq j λ_=>(arrOf st).map (·.2)⟩;have em:(arrOf st).map (·.2)=List.toArray ((arrOf st).toList.map (·.2)):=by apply Array.toList_inj.mp;rw[Array.toList_map]
  refine h _ tk (arrOf st).toList c2 (λb o t e=>(s2.2 b t).trans<|k3 b o t e) ?_ hp hs;rw[em] at p ⊢;exact p
 have len:∀st:SortSt,(arrOf st).toList.Perm (vs.zip vs)->((arrOf st).map (·.2)).size<=sizeLine+1:=λst hp=>by have:=hp.length_eq;rw[De,Bc] at this;rw[Array.size_map];lia
 rw[list_sort_plain];refine Aa<|listItems_at T rfl ?_;refine Aa (listUpdate_at T rfl ?_ (by rw[Aw];exact FD)<|Bb _);refine Aa<|seqEpoch_at l rfl ?_;refine Aa (wpAny_newTuple ?_ (by show vs.length<=_;lia));refine Aa<|wpAny_newList ?_<|Bb _;refine A6 ?_;show wpAny (model prog w) A _ P E {s with heap:=((s.heap.update a<|Obj.mapSeq λ_=>(#[]:Vj)).push<|seqObj "tuple" vs.toArray 0).push (seqObj "list" #[] 0)};rw[<-U];dsimp only;by_cases h2:vs.toArray.size<2
 ·rw[AA h2,AA h2];refine Aa<|Ai ?_;rw[StateT.run_pure];refine Aa<|Ai ?_;dsimp only;refine Aa<|seqEpoch_at j rfl ?_;have pz:(arrOf<|SortSt.mk' κ (vs.toArray.zip vs.toArray) #[] 7 none).toList.Perm (vs.zip vs):=by show(vs.toArray.zip vs.toArray).toList.Perm _;rw[r]
  refine Aa<|listUpdate_at j rfl ?_ (Bb _)<|len _ pz;simp only[bne_self_eq_false,BZ,if_false];refine Ai<|tail (SortSt.mk' κ (vs.toArray.zip vs.toArray) #[] 7 none) pz ?_ _;show(vs.toArray.zip vs.toArray).toList.Pairwise _;rw[r];rw[Aw] at h2;have:(vs.zip vs).length<2:=by rw[De];lia
  exact uz this
 ·rw[Ay h2,Ay h2];rw[Aw] at h2;refine Aa<|(ok _ _ I k3).2 h2 _ ?_;refine Aa (AY (JC (E:=E) (ok _ E I k3).1 (st:=SortSt.mk' κ (vs.toArray.zip vs.toArray) #[] 7 none)
   (Q:=λ_ J=>failedOf J=none/\(arrOf J).toList.Perm (vs.zip vs)/\((arrOf J).toList.Pairwise λx y=>nm x<=nm y)) (by show(vs.toArray.zip vs.toArray).size<128;simp;lia) rfl rfl rfl (λx C=>?_) λJ b1 b2 b3=>⟨b1,?_,b3⟩) ?_ λ_ _ e=>e)
  ·have C:x∈(vs.toArray.zip vs.toArray).toList:=C;rw[r] at C;exact C
  ·have b2:(arrOf J).toList.Perm (vs.toArray.zip vs.toArray).toList:=b2;rw[r] at b2;exact b2
  ·rintro⟨⟨⟩,J⟩ s' ⟨rfl,b1,b2,b3⟩;dsimp only;refine Aa<|seqEpoch_at j rfl ?_;refine Aa<|listUpdate_at j rfl ?_ (Bb _)<|len _ b2;rw[b1];simp only[bne_self_eq_false,BZ,if_false];exact Ai<|tail J b2 b3 _
def Se{κ:SortKind}{nm:VJ}(r:s.heap.IsList l vs.toArray)(hz:vs.length<=127)(ok:JF prog w s (λg=>∀b o,s.heap.get? b=some o->g.get? b=some o) κ vs nm)
 (h:∀h' tk (xs:VH) D c,s.heap.objs.size<=D->(∀b o,s.heap.get? b=some o->h'.get? b=some o)->h'.get? D=some (seqObj "list" (List.toArray (xs.map (·.2))) c)->xs.Perm (vs.zip vs)->(xs.Pairwise λx y=>nm x<=nm y)->Q (.ref D) {s with heap:=h',toks:=tk}):
 wpAny (model prog w) A (call (.builtin "sorted") [.ref l]) Q E s:=by
 have big:(100000:Nat)+1<=sizeLine:=by rw[sizeLine_eq];lia
 refine Calls.call_function_entry kind_sorted plain_sorted entry_sorted (args_sorted1 _) ?_;unfold Builtin.«sorted»;refine Aa (m:=checkCount "sorted" 1 1 _)<|Ai ?_;refine Aa<|collect_list r ?_ (by lia);refine Aa<|wpAny_newList ?_ (by lia);obtain⟨g,j⟩:∃g,g=(s.heap.push<|seqObj "list" #[] 0).update s.heap.objs.size (Obj.mapSeq (· ++ vs.toArray)):=⟨_,rfl⟩;have p:g.objs.size=s.heap.objs.size+1:=by rw[j,Heap.size_update,size_push']
 have t:∀b o,s.heap.get? b=some o->g.get? b=some o:=λb o q=>by have I:b<s.heap.objs.size:=wh q;rw[j,Heap.get?_update_ne _ _ _ _<|A9 I];exact vb _ q
 show wpAny _ _ _ _ _ {s with heap:=((s.heap.push<|seqObj "list" #[] 0).update s.heap.objs.size (Obj.mapSeq (· ++ vs.toArray))).push (seqObj "list" vs.toArray 0)};rw[<-j];have U:(g.push<|seqObj "list" vs.toArray 0).get? g.objs.size=some (seqObj "list" vs.toArray 0):=xT _ rfl;have keep:∀J:Vx,(∀b o,b≠g.objs.size->(g.push<|seqObj "list" vs.toArray 0).get? b=some o->J.get? b=some o)->∀b o,s.heap.get? b=some o->J.get? b=some o:=λJ k b o q=>k b o (λz=>by have I:b<s.heap.objs.size:=wh q;rw[z,p] at I;exact Nat.not_succ_lt_self I)<|vb _<|t b o q
 refine Aa<|A6<|wpAny_call_entry slot_list_sort ⟨_,U,rfl⟩ entry_list_sort ?body<|args_list_sort _
 case body=>
  refine Sd (s:={s with heap:=g.push (seqObj "list" vs.toArray 0)}) U hz (λA E J k=>ok A E J<|keep J k) λh' tk xs c C T pm pw=>?_;exact⟨_,rfl,Ai ⟨_,rfl,h h' tk xs g.objs.size c (by rw[p];exact CS _) (keep h' C) T pm pw⟩⟩
def w_sorted{B:Int}(hl:s.heap.IsList l vs.toArray)(hz:vs.length<=127)(C:∀v∈vs,pC s.heap B v)
 (h:∀h' tk (xs:VH) D c,s.heap.objs.size<=D->(∀b o,s.heap.get? b=some o->h'.get? b=some o)->h'.get? D=some (seqObj "list" (List.toArray (xs.map (·.2))) c)->xs.Perm (vs.zip vs)->(xs.Pairwise λx y=>num s.heap B x<=num s.heap B y)->Q (.ref D) {s with heap:=h',toks:=tk}):
 wpAny (model prog w) A (call (.builtin "sorted") [.ref l]) Q E s:=by
 refine Se (κ:=tuples' true) hl hz (λA E g k=>?_) h;have j:∀v∈vs,pC g B v:=λv hv=>by obtain⟨a,o,m,r,p,t,u,I,J,r'⟩:=C v hv;exact⟨a,o,m,r,p,t,u,I,k _ _ J,r'⟩
 have nk:∀x∈vs.zip vs,num g B x=num s.heap B x:=λx U=>by obtain⟨a,o,m,r,p,t,u,I,J,e3,T,_⟩:=C _ (cZ U).1;rw[num_of I J T,num_of I (k _ _ J) T]
 refine⟨⟨λx y U hy {E Q} q=>?_⟩,λh2 Q q=>JE (s:={s with heap:=g}) j (by lia) q⟩;rw[<-nk x U,<-nk y hy] at q;exact(uf (s:={s with heap:=g})).lt x y (pC.pair<|j _ (cZ U).1) (pC.pair<|j _ (cZ hy).1) q
end
end TS
namespace L2
open PySem PySem.Spec PyProof.Rows
def pP(f:α->β){l m:List β}(p:l.Perm m){T:List α}(e:T.map f=m):∃I:List α,I.Perm T/\I.map f=l:=TS.permLift f p e
theorem gC{α β I:Type}{R:β->I->Prop}{g:α->β}{h:α->I}:∀{T:List α},(∀t∈T,R (g t)<|h t)->Paired R (T.map g) (T.map h)
 |[],_=>.nil
 |t::_,k=>.cons (k t<|Aj ..)<|gC λu J=>k u<|Ab _ J
def qW{J:Type}{R:α->β->Prop}{S:α->J->Prop}:∀{xs:List α} {ys:List β} {zs:List J},Paired R xs ys->Paired S xs zs->∃T:List (α×β×J),T.map (·.1)=xs/\T.map (λt=>t.2.1)=ys/\T.map (λt=>t.2.2)=zs/\∀t∈T,R t.1 t.2.1/\S t.1 t.2.2
 := by
 intro xs ys zs p q
 induction p generalizing zs with
 |nil=>cases q;exact⟨[],rfl,rfl,rfl,λt I=>by cases I⟩
 |cons r p l=>
  cases q with
  |cons q o=>
   rename_i x y U g z j;obtain⟨T,C,e2,e3,k⟩:=l o;refine⟨(x,y,z)::T,by rw[AJ,C],by rw[AJ,e2],by rw[AJ,e3],λt I=>?_⟩;rcases Am.mp I with rfl|I
   ·exact⟨r,q⟩
   ·exact k t I
theorem tT{α β:Type}{f:α->β}:∀{l:List α},(∀x∈l,∀y∈l,f x=f y->x=y)->l.Nodup->(l.map f).Nodup
 |[],_,_=>CW
 |a::r,h,n=>by obtain⟨J,U⟩:=Av.mp n;rw[AJ];refine Av.mpr ⟨λz=>?_,tT (λx g y I=>h x (Ab _ g) y<|Ab _ I) U⟩;obtain⟨y,I,e⟩:=BX.mp z;have:=h y (Ab _ I) a (Aj ..) e;exact J<|this▸I
def ye(p q:Int×Int):Prop:=p.1<q.1\/(p.1=q.1/\p.2<=q.2)
abbrev yi(K:Ah)(H:Hp)(v:V)(p:Int×Int):Prop:=∃a,v=.ref a/\dS K H a [.int p.1,.int p.2]
def Sf{B:Int}{p q:Int×Int}(J:0<=p.2/\p.2<B)(U:0<=q.2/\q.2<B)(h:p.1*B+p.2<=q.1*B+q.2):ye p q:=by
 unfold ye;by_cases c:p.1<q.1
 ·exact .inl c
 ·right;by_cases d:q.1<p.1
  ·have I:(q.1+1)*B<=p.1*B:=CF (by assumption) (by lia);rw[EG,Int.one_mul] at I;omega
  ·have e:p.1=q.1:=by lia
   rw[e] at h;exact⟨e,by lia⟩
def Sg(X:Cx):Vz->Hp->VK->Prop:=λxs H Q=>∃l ys ps,xs=[.ref l]/\aS X.K H l ys/\Paired (yi X.K H) ys ps/\(∀p∈ps,0<=p.2/\p.2<1000000)/\ps.Nodup/\ys.length<=127/\
 ∀D zs qs,H D=none->Paired (yi X.K H) zs qs->qs.Perm ps->qs.Pairwise ye->Q (.ref D) (upd H D<|.lst zs)
def xA:jg X (.builtin "sorted") (Sg X):=by
 rintro a4 s σ H xs us Q I r⟨l,ys,ps,rfl,hl,pr,hb,hnd,a1,q⟩;obtain⟨u,rfl,ru⟩:=r.one;cases (show u=Value.ref l from ru);obtain⟨p,rv,pl,hz⟩:=I.list hl;have l1:ys.length=p.length:=rv.length;obtain⟨T,e1,e2,e3,kT⟩:=qW rv pr;have U:∀t∈T,(∃a o n g j,t.2.1=Value.ref a/\s.heap.get? a=some o/\o.cls=.type "tuple" /\ o.data=.seq #[.int t.2.2.1 g,.int t.2.2.2 j] n)/\0<=t.2.2.2/\t.2.2.2<1000000:=λt J=>by obtain⟨r1,a,ea,hs⟩:=kT t J;obtain⟨a5,a2,⟨o,g1,g2,n,g3⟩,_⟩:=I.tuple hs;obtain⟨w1,w2,rfl,x1,x2⟩:=a2.two;obtain⟨g,rfl⟩:=(show ∃g,w1=Value.int t.2.2.1 g from x1);obtain⟨j,rfl⟩:=(show ∃j,w2=Value.int t.2.2.2 j from x2);rw[ea] at r1;refine⟨⟨a,o,n,g,j,r1,g1,g2,g3⟩,?_⟩;exact hb _ (by rw[<-e3];exact C7 (f:=λt:V×Vt×(Int×Int)=>t.2.2) J)
 have nT:∀t∈T,TS.num s.heap 1000000 (t.2.1,t.2.1)=t.2.2.1*1000000+t.2.2.2:=λt J=>by obtain⟨⟨a,o,n,g,j,g0,g1,g2,g3⟩,_⟩:=U t J;exact TS.num_of g0 g1 g3
 have ez:p.zip p=T.map λt=>(t.2.1,t.2.1):=by rw[<-e2,List.zip_map']
 refine jq I.tk (TS.w_sorted (B:=1000000) pl.isList (by rw[<-l1];exact a1) (λv hv=>?_) λh' tk ks D c hD hk hg pm pw J=>?_)
 ·rw[<-e2] at hv;obtain⟨t,J,rfl⟩:=BX.mp hv;obtain⟨⟨a,o,n,g,j,g0,g1,g2,g3⟩,b1,b2⟩:=U t J;exact⟨a,o,n,_,_,g,j,g0,g1,g2,g3,b1,b2⟩
 ·rw[ez] at pm;obtain⟨T',pT,eT⟩:=pP _ pm rfl;subst eT;have C:∀t,t∈T'->t∈T:=λt=>pT.mem_iff.mp;have a3:=Cw.mp pw;refine⟨.ref D,_,I.laid (t':=tk) (o:=.lst (T'.map (·.1))) hk hD ?_,rfl,q D (T'.map (·.1)) (T'.map λt=>t.2.2) (I.hok.fresh hD) (gC λt J=>(kT t<|C t J).2) ?_ ?_⟩
  ·refine⟨?_,T'.map λt=>t.2.1,c,gC λt J=>(kT t<|C t J).1,?_⟩
   ·rw[Af,pT.length_eq];have:T.length=ys.length:=by rw[<-e1,Af]
    rw[this];exact hz
   ·rw[hg,Cu];rfl
  ·rw[<-e3];exact pT.map _
  ·refine Cw.mpr<|Ej (λ{x y} hx hy z=>?_) a3;rw[nT x<|C x hx,nT y<|C y hy] at z;exact Sf (U x<|C x hx).2 (U y<|C y hy).2 z
end L2
namespace L3
open PySem L2
def FX(p:Int×Int):Y:=.tup [.int p.1,.int p.2]
theorem sS{G:G3}{H:Hp}:∀{ps:List<|Int×Int} {xs:Vz},xt G H (ps.map FX) xs->Paired (yi G.K H) xs ps
 |[],_,h=>by cases (show _=[] from h);exact .nil
 |p::r,_,⟨x,U,e,⟨a,zs,ea,g,j,l,o,I,t,C,T,J,e3⟩,s⟩=>by subst e ea o T e3;cases (show j=V.int p.1 from I);cases (show t=V.int p.2 from J);exact .cons ⟨a,rfl,g⟩<|sS s
def Sh :∀{ps:List<|Int×Int} {xs:Vz},Paired (yi G.K H) xs ps->xt G H (ps.map FX) xs:=by
 intro ps xs h
 induction h with
 |nil=>exact rfl
 |cons z t I=>
  obtain⟨a,ea,J⟩:=z;subst ea;exact⟨_,_,rfl,⟨a,_,rfl,J,_,_,rfl,rfl,_,_,rfl,rfl,rfl⟩,I⟩
def kw(xs:List Y)(L:qk)(Q:YK):Prop:=match xs with
 |[.ref a]=>fU L a λys=>∃ps:List (Int×Int),ys=ps.map FX/\(∀p∈ps,0<=p.2/\p.2<1000000)/\ps.Nodup/\ps.length<=127/\∀(D:Addr) (qs:List<|Int×Int),L D=none->qs.Perm ps->qs.Pairwise ye->Q (.ref D) (qi L D<|.lst<|qs.map FX)
 |_=>False
def az:bootBuiltins "sorted"=some (.builtin "sorted"):=by decide +kernel
theorem eh :jg X (.builtin "sorted") (b_ X.g3 kw):=EY xA λxs H Q ys L Q3 g J z k=>by
 unfold kw at z;split at z
 ·rename_i a;obtain⟨j,e,l,rfl,o,hnd,I,z⟩:=w6 z;obtain⟨p,t,r⟩:=J a _ e;obtain⟨u,rfl,C⟩:=g.inv1;cases (show u=V.ref a from C);have T:=sS r;exact⟨a,p,l,rfl,aS.of t,T,o,hnd,by rw[<-r.length,Af];exact I,λD j qs U pz pm pw=>k _ _ _ _ (EN U) (J.newL U<|Sh pz) (by rfl)<|z D qs (J.none U) pm pw⟩
 ·exact z.elim
open PySem L2 Words
def nY(hs:Vk):List Y:=hs.map λn:Nat=>.int (n:Int)
def dE(hs:Vk):(nY hs).length=hs.length:=by unfold nY;rw[Af]
def l5(h:j<n):wG n (j:Int)=some j:=by unfold wG;rw[AA (by exact A3 _),AA (by omega)];rfl
def bO{a p:Addr}{o:LO}(h:qi L a o p=none):L p=none:=by
 by_cases c:p=a
 ·subst c;rw[q9] at h;cases h
 ·rw[qc c] at h;exact h
def im{a:Addr}{o:LO}(h:L a=some o):qi L a o=L:=by
 funext b;unfold qi;split
 ·rename_i e;rw[e,h]
 ·rfl
def zn{l:List α}{x:α}(h:l[i]?=some x):i<l.length:=(AL.mp h).1
def mU(I:kh):RD "parts_of" nI 1 ["knot"] (λV=>IM V I):=⟨_,λV B c _ _ _ _ _ _ _ J hN U=>(qa (zr (bD<|uG (jY<|qv 0)<|oA<|aB<|C_ c J<|xn<|qv 0) (qg<|zb<|jm wg) za)<|qg<|zb<|jm<|v9 (J_ 0)<|J_ 0)⟩
def oR:VG->Y
 |none=>.non
 |some k=>pF k
abbrev jr(ks:List<|VG):List Y:=ks.map oR
def ja:VG->Vk
 |some (.nd _ i j)=>[i,j]
 |_=>[]
inductive cG(ys:List Y)(L:qk)(Q:YK):Prop
 |mk:∀k:VG,(ys=[oR k])->(∀p,L p=none->Q (.ref p) (qi L p<|.lst<|nY<|ja k))->cG ys L Q
def Si:∀ys L Q,cG ys L Q->vd (mU aN).1 1 ys L Q:=by
 rintro ys L Q ⟨k,rfl,q⟩;cases k with
 |none=>exactλp I=>xa<|q p I
 |some k=>
  cases k with|lf t n=>exact⟨true,t,_,rfl,λp I=>xa<|q p I⟩|nd e i j=>exact⟨false,e,_,rfl,λp I=>xa<|q p I⟩
def vF(a b:Vk):nY (a++b)=nY a++nY b:=by unfold nY;rw[AI]
def JG{hs:Vk}{y:Y}(h:(nY hs)[i]?=some y):∃n,hs[i]?=some n/\y=.int (n:Int):=by unfold nY at h;rw[Au] at h;obtain⟨n,I,J⟩:=AB.mp h;exact⟨n,I,J.symm⟩
abbrev xc(a l c:Addr):Y:=.tup [.ref a,.ref l,.ref c]
def Sj(a b:Nat):min (a:Int) (b:Int)=((min a b:Nat):Int):=by omega
def Sk(a b:Nat):max (a:Int) (b:Int)=((max a b:Nat):Int):=by omega
def f'(p:Vs):Y:=.tup [.int ((p.1:Nat):Int),.int ((p.2:Nat):Int)]
abbrev qt(l:Vg):List Y:=l.map f'
end L3
namespace TS
open PySem PyProof.Rows PySem.W PySem.Calls
section
variable {w:Vw}
abbrev keyBody(kx px:Str)(p1 p2 p3 p4 p5:Pos)(n:Nat):Expr:=.Tuple [.Subscript (.Name kx p1) (.Name px p2) p3,.Name px p4] n p5
structure oP(h:Vx)(f:Addr)(kx px:Str)(scope:Scope)(kvs:Vi):Prop where
 ex:∃(name eK:Str) (params:Arguments) (p1 p2 p3 p4 p5:Pos) (n:Nat) (pm ctv:Vt) (c' cell k:Addr),h.get? f=some (kla_obj name eK params (keyBody kx px p1 p2 p3 p4 p5 n) scope [(kx,cell)] pm c' ctv)/\h.CodeRec (.ref c') eK/\
  h.IsCell cell (some<|.ref k)/\h.IsList k kvs.toArray/\∀v:Vt,bindArgs (kla_fn name eK params (keyBody kx px p1 p2 p3 p4 p5 n) scope [(kx,cell)] pm (.ref c') ctv) ⟨[v],[]⟩=pure [(px,v)]
 lim:h.NoLimit
structure KeySc(scope:Scope)(kx px:Str):Prop where
 kind:scope.kind=.function
 co:scope.isCoroutine=false
 gen:scope.isGenerator=false
 nc:∀x∈scope.names,x.2≠.cell
 lp:scope.names.lookup px=some .local
 lk:scope.names.lookup kx=some .free
 d1:(kx==("__debug__" : Str))=false
 d2:(px==("__debug__" : Str))=false
 d3:(kx==("__classdict__" : Str))=false
theorem oP.keeps{kvs:Vi}(k:oP h f kx px scope kvs)(J:∀b o,h.get? b=some o->h'.get? b=some o):oP h' f kx px scope kvs:=by
 obtain⟨name,U,I,p,r,t,C,T,n,pm,l,c',cell,kk,g1,g2,g3,g4,g5⟩:=k.ex;refine⟨⟨name,U,I,p,r,t,C,T,n,pm,l,c',cell,kk,J _ _ g1,?_,?_,?_,g5⟩,k.lim.keeps J⟩
 ·obtain⟨c,oc,vs,tq,g,j,e3⟩:=g2;exact⟨c,oc,vs,tq,g,J _ _ j,e3⟩
 ·obtain⟨o,g,j⟩:=g3;exact⟨o,J _ _ g,j⟩
 ·obtain⟨o,g,j⟩:=g4;exact⟨o,J _ _ g,j⟩
def Sl{kvs:Vi}{u t:Tok}{r:Int}(K:oP s.heap f kx px scope kvs)(S:KeySc scope kx px)(U:A.depth<recursionLimit)(hi:kvs[i]?=some (.int r t))(a1:i<2 ^ 40)
 (h:∀h' tk a,(∀b o,s.heap.get? b=some o->h'.get? b=some o)->h'.get? a=some {cls:=.type "tuple",data:=.seq #[.int r t,.int (i:Int) u]}->Q (.ref a) {s with heap:=h',toks:=tk}):
 wpAny (model prog w) A (call (.ref f) [.int (i:Int) u]) Q E s:=by
 obtain⟨name,I,l,p1,p2,p3,p4,p5,n,pm,a2,p,cell,kk,g1,g2,g3,g4,g5⟩:=K.ex;refine wpAny_call<|kla_callFunE U g1 rfl S.co S.gen rfl g2 ?_;rw[g5];refine Ai (wpAny_newFunctionEnv S.nc (λx hx=>by rw[An.mp hx];exact S.lp) (λJ g j=>⟨K.lim.fresh _ j,?_⟩) S.kind);have C:∀b o,s.heap.get? b=some o->J.get? b=some o:=λb o e=>j.extBut b o (A9<|wh e)<|vb _ e;show codeAny _ _ (.expr _<|envX I scope s.heap.objs.size f (.ref p) [(kx,cell)]) _ _;refine kla_codeExpr ?_;have look:(([(px,Value.int (i:Int) u)]:List<|Str×Vt).reverse.lookup px)=some (.int (i:Int) u):=by simp
 have kf:(envX I scope s.heap.objs.size f (.ref p) [(kx,cell)]).kindOf kx=some .free:=S.lk;have kp:(envX I scope s.heap.objs.size f (.ref p) [(kx,cell)]).kindOf px=some .local:=S.lp;have cl:(envX I scope s.heap.objs.size f (.ref p) [(kx,cell)]).cells.lookup kx=some cell:=by show([(kx,cell)]:List<|Str×Addr).lookup kx=_;simp
 have ic:J.IsCell cell (some<|.ref kk):=by obtain⟨o,T,e2⟩:=g3;exact⟨o,C _ _ T,e2⟩
 have il:J.IsList kk kvs.toArray:=by obtain⟨o,T,e2⟩:=g4;exact⟨o,C _ _ T,e2⟩
 refine wpAny_Tuple_spliced<|EQ<|Subscript_<|wpAny_Name (wpAny_loadName_free S.kind kf cl ic (wpAny_Name (wpAny_loadName_local S.kind kp g look ?_) S.d2) S.d3) S.d1;refine item_listL il (by exact A3 _) (by omega) (by rw[show((i:Nat):Int).toNat=i from rfl];exact hi) ?_;refine EQ<|wpAny_Name (wpAny_loadName_local S.kind kp g look ?_) S.d2;refine Ff ⟨by show 2<=sizeLine;decide,?_⟩;exact h _ _ _ (λb o e=>vb _<|C b o e)<|xT _ rfl
end
def itV(x:Nat×Tok):Vt:=.int (x.1:Int) x.2
def Hl(h:Vx)(kS:Addr)(rk:Nat->Int)(k:Vt)(x:Nat×Tok):Prop:=∃a t u,k=.ref a/\a≠kS/\h.get? a=some {cls:=.type "tuple",data:=.seq #[.int (rk x.1) t,.int (x.1:Int) u]}
def lM(h:Vx)(kS:Addr)(rk:Nat->Int):Vi->List (Nat×Tok)->Prop
 |[],[]=>True
 |k::ks,x::xs=>Hl h kS rk k x/\lM h kS rk ks xs
 |_,_=>False
theorem lM.len{h:Vx}{kS:Addr}{rk:Nat->Int}:∀{ks:Vi} {xs:List<|Nat×Tok},lM h kS rk ks xs->ks.length=xs.length
 |[],[],_=>rfl
 |_::_,_::_,⟨_,b⟩=>by rw[AF,AF,lM.len b]
 |[],_::_,z=>z.elim
 |_::_,[],z=>z.elim
theorem lM.mem{h:Vx}{kS:Addr}{rk:Nat->Int}:∀{ks:Vi} {xs:List<|Nat×Tok},lM h kS rk ks xs->∀t∈ks.zip xs,Hl h kS rk t.1 t.2
 |[],[],_,t,I=>by cases I
 |_::_,_::_,⟨a,b⟩,t,I=>by
  rw[List.zip_cons_cons] at I;rcases Am.mp I with rfl|I
  ·exact a
  ·exact lM.mem b t I
 |[],_::_,z,_,_=>z.elim
 |_::_,[],z,_,_=>z.elim
section
variable {w:Vw}
theorem JH{g:Vx}{f:Addr}{kx px:Str}{scope:Scope}{kvs:Vi}{kS:Addr}{rk:Nat->Int}{body:Vt->PUnit->Sem (ForInStep PUnit)}(K:oP g f kx px scope kvs)(S:KeySc scope kx px)(I:A.depth<recursionLimit)(hn:g.get? kS=none)
 (hb:∀(x:Vt) (s:Vu) (Q':ForInStep PUnit->Vu->Prop),wpAny (model prog w) A (call (.ref f) [x]) (λk s'=>wpAny (model prog w) A (Builtin.List.listUpdate (.ref kS) (·.push k)) (λ_ C=>Q' (.yield ⟨⟩) C) E s') (λ_ _=>False) s->wpAny (model prog w) A (body x ⟨⟩) Q' E s):
 ∀(ps:List<|Nat×Tok) (ks:Vi) (e:Nat) (s:Vu) (Q:PUnit->Vu->Prop),(∀b o,g.get? b=some o->s.heap.get? b=some o)->s.heap.get? kS=some (seqObj "list" ks.toArray e)->ks.length+ps.length<=100000->
  (∀x∈ps,x.1<2 ^ 40/\∃t,kvs[x.1]?=some (.int (rk x.1) t))->
  (∀h' tk j T,(∀b o,b≠kS->s.heap.get? b=some o->h'.get? b=some o)->h'.get? kS=some (seqObj "list" (ks++j).toArray T)->lM h' kS rk j ps->Q ⟨⟩ {s with heap:=h',toks:=tk})->
  wpAny (model prog w) A (forIn (ps.map itV) PUnit.unit body) Q E s
 |[],ks,e,s,Q,hg,hk,hz,hp,q=>by rw[Dr,Ds];exact Ai (q s.heap s.toks [] e (λ_ _ _ h=>h) (by rw[AC];exact hk) trivial)
 |x::r,ks,e,s,Q,hg,hk,hz,hp,q=>by
  rw[AJ,Cq];rw[AF] at hz;obtain⟨a1,t,ht⟩:=hp x<|Aj ..;have big:(100000:Nat)+1<=sizeLine:=by rw[sizeLine_eq];exact C9 _ _
  refine Aa<|hb (itV x) s _<|Sl (K.keeps hg) S I ht a1 λh1 l a k1 ha=>?_;have J:h1.get? kS=some (seqObj "list" ks.toArray e):=k1 _ _ hk;have s1:=yp h1 kS (Obj.mapSeq (·.push (.ref a)));have ea:ks.toArray.push (.ref a)=List.toArray (ks++[.ref a]):=by simp
  obtain⟨c2,a2⟩:∃c2,(h1.update kS (Obj.mapSeq (·.push (.ref a)))).get? kS=some (seqObj "list" (List.toArray<|ks++[.ref a]) c2):=⟨_,by rw[<-ea];exact get?_update_seq J (·.push (.ref a))⟩;have p:a≠kS:=λz=>by
   rw[z,J] at ha;have:=BM (λo:Option Obj=>o.map (·.cls)) ha;have z2:some (Value.type "list")=some (Value.type "tuple"):=this;injection z2 with z3
   injection z3 with z4
   exact absurd z4 (by decide)
  refine listUpdate_at (s:={s with heap:=h1,toks:=l}) J rfl ?_ (by rw[Aw];lia) (AW (Nat.le_of_eq<|Bp ..) (by rw[Aw];lia));refine JH K S I hn hb r (ks++[.ref a]) c2 {s with heap:=h1.update kS (Obj.mapSeq (·.push (.ref a))),toks:=l} Q (λb o e=>?_) a2 (by rw[Ad,CL];lia) (λy hy=>hp y<|Ab _ hy) λh' tk j T kk a3 vs=>?_
  ·have nb:b≠kS:=λz=>by rw[z,hn] at e;cases e
   exact(s1.2 b nb).trans (k1 b o<|hg b o e)
  ·have U:∀b o,b≠kS->h1.get? b=some o->h'.get? b=some o:=λb o nb e=>kk b o nb<|(s1.2 b nb).trans e;refine q h' tk (.ref a::j) T (λb o nb e=>U b o nb<|k1 b o e) (by rw[a3,Ar];rfl) ⟨⟨a,t,x.2,rfl,p,U a _ p ha⟩,vs⟩
end
section
variable {w:Vw}
def Sm{g:Vx}{kvs:Vi}{kS a:Addr}{rk:Nat->Int}{ps:List<|Nat×Tok}{e1 e0:Nat}{B:Int}{P:PySem.Fin->Vu->Prop}(K:oP g f kx px scope kvs)(S:KeySc scope kx px)(I:A.depth<recursionLimit)(hn:g.get? kS=none)
 (hg:∀b o,g.get? b=some o->s.heap.get? b=some o) (hk:s.heap.get? kS=some (seqObj "list" #[] e0)) (ha:s.heap.get? a=some (seqObj "list" #[] e1)) (l:kS≠a) (hz:ps.length<=127)
 (hp:∀x∈ps,x.1<2 ^ 40/\∃t,kvs[x.1]?=some (.int (rk x.1) t)) (hB:∀x∈ps,((x.1:Nat):Int)<B) (nd:(ps.map (·.1)).Nodup)
 (h:∀h' tk (qs:List<|Nat×Tok) c,(∀b o,b≠kS->b≠a->s.heap.get? b=some o->h'.get? b=some o)->h'.get? a=some (seqObj "list" (qs.map itV).toArray c)->qs.Perm ps->(qs.Pairwise λx y=>rk x.1*B+(x.1:Int)<=rk y.1*B+(y.1:Int))->P (.done<|.ret .none) {s with heap:=h',toks:=tk}):
 wpAny (model prog w) A (ksk_rest a (.ref f) false (ps.map itV).toArray e1<|.ref kS) P E s:=by
 have big:(100000:Nat)+1<=sizeLine:=by rw[sizeLine_eq];exact C9 _ _
 unfold ksk_rest;refine Aa<|Bv ?_;rw[List.forIn_toArray];refine Aa (JH (rk:=rk) K S I hn (λx s' Q' hx=>?_) ps [] e0 s _ hg hk (by simp;lia) hp λh' tk ks e' keep J kv=>?_)
 ·refine Aa (wpAny_attempt<|AY hx (λk a5 hk=>?_) λ_ _ hF=>hF.elim)
  try dsimp only
  exact Aa<|AY hk (λ_ s3 q=>Ai q) λ_ _ e=>e
 ·try dsimp only
  rw[Cr] at J;refine Aa<|listItems_at (s:={s with heap:=h',toks:=tk}) J rfl ?_;have a1:h'.get? a=some (seqObj "list" #[] e1):=keep _ _ (AG l) ha;have len:ks.length=ps.length:=kv.len;obtain⟨T,C⟩:∃T,T=ks.zip ps:=⟨_,rfl⟩;have kT:∀t∈T,Hl h' kS rk t.1 t.2:=λt p=>kv.mem t<|C▸p;have e2:T.map (·.2)=ps:=by rw[C];exact List.map_snd_zip (by lia)
  have ez:ks.zip (ps.map itV)=T.map λt=>(t.1,itV t.2):=by rw[C,List.zip_map_right];rfl
  have mp:∀t∈T,t.2∈ps:=λt p=>by rw[<-e2];exact C7 p
  have nT:∀t∈T,num h' B (t.1,itV t.2)=rk t.2.1*B+(t.2.1:Int):=λt p=>by obtain⟨b,tt,u,r,x2,x3⟩:=kT t p;exact num_of r x3 rfl
  have ac:∀x∈ps,(0:Int)<=((x.1:Nat):Int):=λ_ _=>by exact A3 _
  refine Sc (s:={s with heap:=h',toks:=tk}) (vs:=ps.map itV) (ks:=ks) (B:=B) J a1 l (by rw[Af];exact len) (by rw[Af];exact hz) (λv hv=>?_) λh2 a2 xs c U hc pm pw=>?_
  ·obtain⟨j,hj⟩:=DF hv;have a3:j<ps.length:=by rw[<-len];exact(AL.mp hj).1
   have hm:(v,ps[j])∈T:=by rw[C];refine List.mem_iff_getElem?.mpr ⟨j,?_⟩;rw[DY];exact⟨hj,Al a3⟩
   obtain⟨b,tt,u,r,x2,x3⟩:=kT _ hm;have r:v=.ref b:=r;exact⟨b,_,_,_,_,tt,u,r,x3,rfl,rfl,by exact A3 _,hB _<|mp _ hm⟩
  ·rw[ez] at pm;obtain⟨T',pT,a4⟩:=permLift _ pm rfl;subst a4;have mT:∀t,t∈T'->t∈T:=λt=>pT.mem_iff.mp;refine h h2 a2 (T'.map (·.2)) c (λb o n1 n2 e=>?_) ?_ ?_ ?_
   ·rw[U b n1 n2];exact keep b o n1 e
   ·rw[hc,Cu,Cu];rfl
   ·rw[<-e2];exact pT.map _
   ·refine Cw.mpr<|Ej (λ{x y} hx hy z=>?_)<|Cw.mp pw;rw[nT x<|mT x hx,nT y<|mT y hy] at z;exact z
def w_sortedK{kvs:Vi}{rk:Nat->Int}{ps:List<|Nat×Tok}{B:Int}(K:oP s.heap f kx px scope kvs)(S:KeySc scope kx px)(j:A.in1.in1.depth<recursionLimit)
 (hl:s.heap.IsList l (ps.map itV).toArray) (hz:ps.length<=127)
 (hp:∀x∈ps,x.1<2 ^ 40/\∃t,kvs[x.1]?=some (.int (rk x.1) t)) (hB:∀x∈ps,((x.1:Nat):Int)<B) (nd:(ps.map (·.1)).Nodup)
 (h:∀h' tk (qs:List<|Nat×Tok) D c,s.heap.objs.size<=D->(∀b o,s.heap.get? b=some o->h'.get? b=some o)->h'.get? D=some (seqObj "list" (qs.map itV).toArray c)->qs.Perm ps->(qs.Pairwise λx y=>rk x.1*B+(x.1:Int)<=rk y.1*B+(y.1:Int))->Q (.ref D) {s with heap:=h',toks:=tk}):
 wpAny (model prog w) A (call (.builtin "sorted") [.ref l] [(Str.ofString "key",.ref f)]) Q E s:=by
 have big:(100000:Nat)+1<=sizeLine:=by rw[sizeLine_eq];lia
 have a2:(ps.map itV).length<=100000:=by rw[Af];lia
 refine call_function_entry_kw kind_sorted plain_sorted entry_sorted (ksk_s1 _ _) ?_;unfold Builtin.«sorted»;refine Aa (m:=checkCount "sorted" 1 1 _)<|Ai ?_;refine Aa<|collect_list hl ?_ (by exact FD);refine Aa<|wpAny_newList ?_ (by lia);obtain⟨g1,C⟩:∃g1,g1=(s.heap.push<|seqObj "list" #[] 0).update s.heap.objs.size (Obj.mapSeq (· ++ (ps.map itV).toArray)):=⟨_,rfl⟩;have T:g1.objs.size=s.heap.objs.size+1:=by rw[C,Heap.size_update,size_push']
 have gk:∀b o,s.heap.get? b=some o->g1.get? b=some o:=λb o q=>by have J:b<s.heap.objs.size:=wh q;rw[C,Heap.get?_update_ne _ _ _ _<|A9 J];exact vb _ q
 show wpAny _ _ _ _ _ {s with heap:=((s.heap.push<|seqObj "list" #[] 0).update s.heap.objs.size (Obj.mapSeq (· ++ (ps.map itV).toArray))).push (seqObj "list" (ps.map itV).toArray 0)};rw[<-C];have I:(g1.push<|seqObj "list" (ps.map itV).toArray 0).get? g1.objs.size=some (seqObj "list" (ps.map itV).toArray 0):=xT _ rfl;have keep:∀b o,s.heap.get? b=some o->(g1.push<|seqObj "list" (ps.map itV).toArray 0).get? b=some o:=λb o q=>vb _<|gk b o q;refine Aa<|A6<|wpAny_call_entry_kw slot_list_sort ⟨_,I,rfl⟩ entry_list_sort ?body<|ksk_l1 _ _
 case body=>
  obtain⟨D,eD⟩:∃D,D=g1.objs.size:=⟨_,rfl⟩;rw[<-eD] at I ⊢;show wpAny (model prog w) A.in1.in1 (Builtin.«list.sort» ⟨[.ref D],[(Str.ofString "key",.ref f)]⟩) _ _ _;rw[ksk_t1];obtain⟨g2,p⟩:∃g2,g2=g1.push (seqObj "list" (ps.map itV).toArray 0):=⟨_,rfl⟩;rw[<-p] at I keep ⊢;have s1:=yp g2 D<|Obj.mapSeq λ_=>(#[]:Vj);obtain⟨e1,r⟩:∃e1,(g2.update D<|Obj.mapSeq λ_=>(#[]:Vj)).get? D=some (seqObj "list" #[] e1):=⟨_,get?_update_seq I λ_=>#[]⟩;have nD:∀b o,s.heap.get? b=some o->b≠D:=λb o q z=>by have J:b<s.heap.objs.size:=wh q;rw[z,eD,T] at J;exact Nat.not_succ_lt_self J
  unfold ksk_tree;refine Aa<|listItems_at (s:={s with heap:=g2}) I rfl ?_;refine Aa (listUpdate_at (s:={s with heap:=g2}) I rfl ?_ (by rw[Aw];exact FD)<|Bb _);refine Aa<|seqEpoch_at r rfl ?_;refine Aa (wpAny_newTuple ?_ (by show(ps.map itV).length<=_;lia));refine Aa<|wpAny_newList ?_<|Bb _;refine A6 ?_;obtain⟨g3,U⟩:∃g3,g3=(g2.update D<|Obj.mapSeq λ_=>(#[]:Vj)).push (seqObj "tuple" (ps.map itV).toArray 0):=⟨_,rfl⟩;have k3:∀b o,s.heap.get? b=some o->g3.get? b=some o:=λb o q=>by rw[U];exact vb _<|(s1.2 b<|nD b o q).trans<|keep b o q
  have d3:g3.get? D=some (seqObj "list" #[] e1):=by rw[U];exact vb _ r
  show wpAny (model prog w) A.in1.in1 (ksk_rest D (.ref f) false (ps.map itV).toArray _<|.ref ((g2.update D<|Obj.mapSeq λ_=>(#[]:Vj)).push<|seqObj "tuple" (ps.map itV).toArray 0).objs.size) _ _ {s with heap:=((g2.update D<|Obj.mapSeq λ_=>(#[]:Vj)).push<|seqObj "tuple" (ps.map itV).toArray 0).push (seqObj "list" #[] 0)};rw[<-U];have a1:(g3.push<|seqObj "list" #[] 0).get? g3.objs.size=some (seqObj "list" #[] 0):=xT _ rfl;refine Sm (s:={s with heap:=g3.push (seqObj "list" #[] 0)}) (g:=s.heap) (kS:=g3.objs.size) (a:=D) (rk:=rk) (B:=B) K S j (Heap.get?_none_of_le ?_) (λb o q=>vb _<|k3 b o q) a1 (vb _ d3) ?_ hz hp hB nd λh' tk qs c kp hD pm pw=>?_
  ·have l1:g3.objs.size=g1.objs.size+2:=by rw[U,size_push',Heap.size_update,p,size_push']
   rw[l1,T];exact AW (CS _)<|Bg _ 2
  ·exact(A9<|wh d3).symm
  ·refine⟨_,rfl,Ai ⟨_,rfl,h h' tk qs D c (by rw[eD,T];exact CS _) (λb o q=>?_) hD pm pw⟩⟩;exact kp b o (A9<|wh<|k3 b o q) (nD b o q)<|vb _<|k3 b o q
end
end TS
namespace L2
open PySem PySem.Spec PyProof.Rows
def rH{i j:Int}{t u:Tok}{c:Vt}(l:Vi)(h:TriplesOk l):TriplesOk (l++[.int i t,.int j u,c]):=by
 fun_induction TriplesOk l with
 |case1=>trivial
 |case2 _ _ _ _ _ rest I=>exact I h
 |case3=>exact h.elim
def xH{i j:Int}{t u:Tok}{c I:Vt}(l:Vi)(h:TriplesOk l)(e:codeAmong pos (l++[.int i t,.int j u,c])=some I):codeAmong pos l=some I\/I=c:=by
 fun_induction TriplesOk l with
 |case1=>
  right;have e:(if i==pos.line&&j==pos.col then some c else none)=some I:=e;split at e
  ·cases e;rfl
  ·cases e
 |case2 a _ b _ d rest J=>
  have e:(if a==pos.line&&b==pos.col then some d else codeAmong pos (rest++[.int i t,.int j u,c]))=some I:=e;show(if a==pos.line&&b==pos.col then some d else codeAmong pos rest)=some I\/I=c;split at e
  ·rename_i z;rw[AA z];exact .inl e
  ·rename_i z;rw[Ay z];exact J h e
 |case3=>exact h.elim
structure zW(K:Ah)(fv:Vt)(P:Addr):Prop where
 ex:∃c oc,fv=.ref c/\K.lookup c=some oc/\∀h:Vx,h.get? c=some oc->PySem.W.CodeHd h c P
 bm:∃bm ob,PySem.W.nsIn K mainGlobals "__builtins__"=some (some<|.ref bm)/\bm≠builtinsNs/\bm≠mainGlobals/\K.lookup bm=some ob/\ob.cls=.type "module" /\ ob.dict=some builtinsNs/\ob.data=.plain
theorem uO:∀{l:Vk} {us:Vi},zu (l.map λi:Nat=>V.int<|0+(i:Int)) us->∃ps:List (Nat×Tok),us=ps.map TS.itV/\ps.map (·.1)=l
 |[],_,.nil=>⟨[],rfl,rfl⟩
 |i::r,_,.cons (b:=u) h t=>by obtain⟨ps,I,J⟩:=uO (l:=r) t;obtain⟨tk,U⟩:=(show ∃tk,u=Value.int (0+(i:Int)) tk from h);refine⟨(i,tk)::ps,?_,by rw[AJ,J]⟩;rw[AJ,I,U];show _=Value.int (i:Int) tk::_;rw[B3]
theorem sV:∀ps:List (Nat×Tok),zu (ps.map λx=>V.int ((x.1:Nat):Int))<|ps.map TS.itV
 |[]=>.nil
 |x::r=>.cons ⟨x.2,rfl⟩<|sV r
def Sn(P:Addr)(q:Str)(J:Nat)(te:TE):TE:=λσ H Q=>te σ H λv H1=>∃l I,∃n:Nat,∃rks:Vo,v=.ref l/\H1 l=some (.lst ((List.range n).map λi:Nat=>V.int<|0+(i:Int)))/\σ[J]?=some (some<|.ref I)/\H1 I=some (.lst<|rks.map V.int)/\rks.length=n/\n<=127/\r6 H1 P q/\
 ∀H2 D (qs:Vk),(∀b u,b≠P->H1 b=some u->H2 b=some u)->r6 H2 P q->H1 D=none->D≠P->H2 D=some (.lst (qs.map λi:Nat=>V.int (i:Int)))->qs.Perm (List.range n)->(qs.Pairwise λi j=>rks.getD i 0*1000000+(i:Int)<=rks.getD j 0*1000000+(j:Int))->Q (.ref D) H2
def So{kk cell:Addr}{J:Arguments}{p:Vt}{Q:VK}(I:qw X pins σ H s)(S:TS.KeySc fy kx px)(hr:X.A.depth+3<recursionLimit)
 (hf:s.heap.get? f=some (PySem.W.kla_obj name eK J (TS.keyBody kx px p1 p2 p3 p4 p5 x1) fy [(kx,cell)] pm c' p)) (a1:s.heap.CodeRec (.ref c') eK) (r:s.heap.IsCell cell<|some<|.ref kk)
 (hb:∀v:Vt,bindArgs (PySem.W.kla_fn name eK J (TS.keyBody kx px p1 p2 p3 p4 p5 x1) fy [(kx,cell)] pm (.ref c') p) ⟨[v],[]⟩=pure [(px,v)])
 (hl:H l=some (.lst ((List.range n).map λi:Nat=>V.int<|0+(i:Int)))) (hk:H kk=some (.lst<|rks.map V.int)) (hn:rks.length=n) (hz:n<=127)
 (q:∀D (qs:Vk),H D=none->qs.Perm (List.range n)->(qs.Pairwise λi j=>rks.getD i 0*1000000+(i:Int)<=rks.getD j 0*1000000+(j:Int))->Q (.ref D) (upd H D<|.lst (qs.map λi:Nat=>V.int (i:Int)))):
 wpAny (model X.prog X.w) X.A (call (.builtin "sorted") [.ref l] [(Str.ofString "key",.ref f)]) (EP X pins σ Q) X.xe s:=by
 obtain⟨a4,rv,pl,_⟩:=I.list<|aS.of hl;obtain⟨g,rk,pk,_⟩:=I.list<|aS.of hk;obtain⟨ps,rfl,U⟩:=uO rv;have lk:g.length=n:=by rw[<-rk.length,Af,hn]
 have lp:ps.length=n:=by have:=BM List.length U;rwa[Af,B1] at this
 have big:(100000:Nat)<=sizeLine:=by decide
 refine jq I.tk<|TS.w_sortedK (rk:=λi=>rks.getD i 0) (B:=1000000) (kvs:=g) ⟨⟨name,eK,J,p1,p2,p3,p4,p5,x1,pm,p,c',cell,kk,hf,a1,r,pk.isList,hb⟩,I.nolimit⟩ S ?_ pl.isList (by lia) (λx hx=>?_) (λx hx=>?_) ?_ λh' tk qs D c hD keep hg T pw ht=>?_
 ·show X.A.depth<recursionLimit;lia
 ·have C:x.1∈List.range n:=by rw[<-U];exact C7 hx
  have a2:=Ba.mp C;refine⟨by lia,?_⟩;have e1:(rks.map V.int)[x.1]?=some (V.int<|rks.getD x.1 0):=by rw[Au,Al (by lia),Bw,Al (by lia)];rfl
  obtain⟨u,e2,r2⟩:=Words.Paired.getP rk e1;obtain⟨t,rfl⟩:=(show ∃t,u=Value.int (rks.getD x.1 0) t from r2);exact⟨t,e2⟩
 ·have C:x.1∈List.range n:=by rw[<-U];exact C7 hx
  have a2:=Ba.mp C;omega
 ·rw[U];exact C0
 ·have a3:H D=none:=I.hok.fresh hD;refine⟨.ref D,_,I.laid (t':=tk) (o:=.lst ((qs.map (·.1)).map λi:Nat=>V.int (i:Int))) keep hD ?_,rfl,q D (qs.map (·.1)) a3 ?_ ?_⟩
  ·refine⟨?_,qs.map TS.itV,c,?_,hg⟩
   ·rw[Af,Af,T.length_eq];lia
   ·rw[Cu];exact sV qs
  ·rw[<-U];exact T.map _
  ·exact Cw.mpr pw
def qw.tabbed{P:Addr}{ps more:Vj}{oc fo:Obj}{tk:Nat}(I:qw X pins σ H s)(C:H P=some (.tbl ps))(hx:Heap.ExtBut P s.heap h')(U:h'.get? P=some (PySem.W.tabObj<|ps++more))
 (hc:s.heap.objs.size<=c') (g:h'.get? c'=some oc) (ht:0<tk):qw X pins σ (upd (upd H P<|.tbl<|ps++more) c'<|.frz oc<|.own 0) {s with heap:=h'.push fo,toks:=tk}:=by
 have nc:H c'=none:=I.hok.fresh hc;have p:∀b,H b=none->b≠P:=λb e z=>by rw[z,C] at e;cases e
 have j:∀b u,H b=some u->b≠c':=λb u e z=>by rw[z,nc] at e;cases e
 have l:∀b o,s.heap.get? b=some o->b≠c':=λb o e=>A9<|AO (wh e) hc;have t:∀b o,b≠P->s.heap.get? b=some o->(h'.push fo).get? b=some o:=λb o n e=>vb _<|hx b o n e;have J:∀b u,H b=some u->(∀ps,u≠.tbl ps)->b≠P:=λb u e d z=>by rw[z,C] at e;cases e;exact d _ rfl
 refine I.step (ch:=[]) (g':=s.gens) (d':=s.drawn) (t':=tk) (λ_ z=>nomatch z) (λb o _ _ _ e n=>t b o (p b n) e) (λb o _ _ _ e n=>⟨o.slots,t b o (p b n) e⟩) (λb o _ e n=>?_) (λb o _ e=>?_) (λb xs e=>?_) (λb o u e=>?_) (λb qs e=>?_) (λm hm=>?_) (λb u e=>?_) I.bare ht
 ·rw[ql<|l b o e,ql<|p b n];exact n
 ·by_cases c:b=P
  ·subst c;exact⟨_,vb _ U⟩
  ·exact⟨o,t b o c e⟩
 ·rw[ql<|j b _ e,ql (J b _ e λ_ z=>by cases z)];exact e
 ·rw[ql<|j b _ e,ql (J b _ e λ_ z=>by cases z)];exact e
 ·rw[ql<|j b _ e];by_cases c:b=P
  ·subst c;rw[C] at e;cases e;exact⟨more,zg⟩
  ·rw[ql c];exact⟨#[],by rw[e];simp⟩
 ·exact(hm.extBut hx<|p _ I.free).push _
 ·by_cases c:b=c'
  ·subst c;rw[zg] at e;cases e;exact⟨vb _ g,_,vb _ g⟩
  ·rw[ql c] at e;by_cases d:b=P
   ·subst d;rw[zg] at e;cases e;exact vb _ U
   ·rw[ql d] at e;refine(I.hok b u e).stay (λa v T r=>t a v ?_ r) (λa r=>?_) (λa xs r=>?_)
    ·rcases T with rfl|T
     ·exact d
     ·exact J a _ T λ_ z=>by cases z
    ·rw[ql<|j a _ r,ql (J a _ r λ_ z=>by cases z)];exact r
    ·rw[ql<|j a _ r,ql (J a _ r λ_ z=>by cases z)];exact r
def Sr{te:TE}{J:Arguments}{U p:Pos}{ik:Nat}{P:Addr}{q:Str}(hg:Gl X "sorted")(hm:X.mg "sorted"=none)(he:PE X e te)(S:TS.KeySc fy kx px)(C:zW X.K X.env.code P)(hr:X.A.depth+3<recursionLimit)
 (hq:X.env.qual ++ "<lambda>" = q) (bn:X.N[ik]?=some kx) (ax:X.env.scope.names.lookup kx=some .cell) (aL:∃cell,X.env.cells.lookup kx=some cell/\closureFor fy X.env=pure [(kx,cell)])
 (aR:defaultsOf J X.env=([],[])) (hb:∀(name eK:Str) (cl:List<|Str×Addr) (pm cd ct v:Vt),bindArgs (PySem.W.kla_fn name eK J (TS.keyBody kx px p1 p2 p3 p4 p5 x1) fy cl pm cd ct) ⟨[v],[]⟩=pure [(px,v)])
 (h1:starEach [e] X.env=(false,eval e X.env)::starEach [] X.env:=by rfl) (h2:(backTo pos<|starEach [e] X.env).any (·.1)=false:=by rfl)
 (h3:backTo pos (starEach [e] X.env)=(false,eval e X.env)::backTo pos (starEach [] X.env):=by rfl):
 PE X (.Call (.Name "sorted" p) [e] [⟨some "key",.Lambda J (TS.keyBody kx px p1 p2 p3 p4 p5 x1) fy U,sy⟩] pos) (Sn P q ik te):=by
 intro a1 s σ H Q I h;refine wpAny_Call_Name_kw<|e9 I hg hm (by decide +kernel:bootBuiltins "sorted"=some (.builtin "sorted")) ?_ (by decide) (by decide);refine PyProof.Rows.callWith_kw ?_ h3 h2;rw[h3];refine EQ<|aI (he a1 s σ H _ I h) λv s1 ⟨x,H1,g,rx,l,kk,n,rks,ev,hl,hs,hk,hn,hz,T,qq⟩=>?_;refine Ff ?_;subst ev;cases (show v=Value.ref l from rx);show wpAny _ _ (evalAll ((do let v <-eval (.Lambda J (TS.keyBody kx px p1 p2 p3 p4 p5 x1) fy U) X.env;standAt pos;pure v)::[])) _ _ s1;refine wpAny_evalAll_cons<|Aa ?_;obtain⟨cell,a3,au⟩:=aL;obtain⟨c,bp,ba,lc,hC⟩:=C.ex;obtain⟨bm,ob,b1,b2,b3,b4,b5,b6,b7⟩:=C.bm;obtain⟨ac,tP,tok,a4⟩:=T;have bb:s1.heap.Ns mainGlobals X.mg:=g.ok.mod.glob.keeps g.bk;have bc:s1.heap.get? P=some (PySem.W.tabObj ac):=g.hok P _ tP;have bd:PySem.W.CodeHd s1.heap c P:=hC _<|g.kIn c bp lc;have a2:∀b o,X.base.get? b=some o->b≠P:=λb o e z=>by have:=(g.bs b o e).2;rw[z,tP] at this;cases this
 have av:=g.ok.mod.kin bm ob b4;have hB:s1.heap.BuiltinsAt X.mg P:=⟨bm,ob,Cf g.ok.mod.kin g.ok.mod.glob b1,b2,b3,a2 _ _ av,(g.bs _ _ av).1,b5,b6,b7⟩;have bq:mainGlobals≠P:=by obtain⟨o,es,ep,e,hd,_⟩:=g.ok.mod.glob;exact a2 _ _ e
 have a5:s1.heap.IsCell cell (some<|.ref kk):=by
  obtain⟨m,_,bS⟩:=g.loc;obtain⟨u,ru,lk⟩:=bS ik kx _ bn hs<|.inr<|.inl ax;cases (show u=Value.ref kk from ru);rcases lk with⟨k1,_⟩|⟨_,c2,e2,c3⟩
  ·have k1:X.env.scope.names.lookup kx=some .local:=k1;rw[ax] at k1;cases k1
  ·rw[a3] at e2;cases e2;exact c3
 refine PySem.W.kla_eval aR ?_;rw[hq];have xa:∀(s2:Vu) (H2:Hp) (f j:Addr) (r pm:Vt),qw X a1 σ H2 s2->s2.heap.get? f=some (PySem.W.kla_obj "<lambda>" q J (TS.keyBody kx px p1 p2 p3 p4 p5 x1) fy [(kx,cell)] pm j r)->s2.heap.CodeRec (.ref j) q->s2.heap.IsCell cell (some<|.ref kk)->
  (∀b u,b≠P->H1 b=some u->H2 b=some u)->r6 H2 P q->(∀b,H2 b=none->H1 b=none)->
  wpAny (model X.prog X.w) X.A (do standAt pos;pure (Value.ref f)) (λv s'=>wpAny (model X.prog X.w) X.A (evalAll []) (λvs c4=>wpAny (model X.prog X.w) X.A (call (.builtin "sorted") [.ref l]<|[Str.ofString "key"].zip<|v::vs) (EP X a1 σ Q) X.xe c4) X.xe s') X.xe s2:=by
  intro s2 H2 f j r pm I2 g1 g2 g3 g4 g5 g6;refine Aa<|wpAny_standAt<|Ai<|wpAny_evalAll_nil ?_;have lP:l≠P:=λz=>by rw[z,tP] at hl;cases hl
  have kP:kk≠P:=λz=>by rw[z,tP] at hk;cases hk
  refine So (n:=n) (rks:=rks) I2 S hr g1 g2 g3 (λv=>hb _ _ _ _ _ _ v) (g4 _ _ lP hl) (g4 _ _ kP hk) hn hz λD qs hD cb pw=>?_;have bf:D≠P:=λz=>by obtain⟨cn,e2,_⟩:=g5;rw[z,e2] at hD;cases hD
  refine qq _ D qs (λb u n e=>?_) ?_ (g6 D hD) bf zg cb pw
  ·rw[ql<|zo (g4 b u n e) hD];exact g4 b u n e
  ·exact g5.keep (ql<|AG bf) λb o u e=>by rw[ql<|zo e hD];exact e
 cases hf:codeAmong U ac.toList with
 |some cv=>
  obtain⟨j,oc,vs,t,cc,f1,f2,f3⟩:=a4 U cv hf;subst cc;refine jq g.tk<|PySem.W.kla_makeFunctionHit (mg:=X.mg) au g.ok.glob bb ba bd bc tok hf hB λr h' tk bg cq ht=>?_;have I2:qw X a1 σ H1 {s1 with heap:=h'.push {cls:=.type "function",data:=.func (PySem.W.kla_fn "<lambda>" q J (TS.keyBody kx px p1 p2 p3 p4 p5 x1) fy [(kx,cell)] ((X.mg "__name__").getD .none) (.ref j) r)},toks:=tk}:=g.kept (t':=tk) λb o e=>vb _<|bg b o e;obtain⟨al,_⟩:=I2.hok j _ f1;refine xa _ H1 _ j r _ I2 (xT _ rfl) ⟨j,oc,vs,t,rfl,al,f2,f3⟩ ?_ (λb u _ e=>e) ⟨ac,tP,tok,a4⟩ λb e=>e;obtain⟨o,e1,e2⟩:=a5;exact⟨o,vb _<|bg _ _ e1,e2⟩
 |none=>
  refine jq g.tk<|PySem.W.kla_makeFunction (mg:=X.mg) au g.ok.glob bb ba bd bc tok hf bq hB λj r h' tk hx bh cw bi ck ht=>?_;obtain⟨c2,oc,vs,t,e2,al,f2,f3⟩:=bi;cases e2;have I2:=g.tabbed (fo:=PySem.W.kla_obj "<lambda>" q J (TS.keyBody kx px p1 p2 p3 p4 p5 x1) fy [(kx,cell)] ((X.mg "__name__").getD .none) j r) tP hx ck bh al ht;have nc:H1 j=none:=g.hok.fresh bh;have cP:j≠P:=λz=>by rw[z,tP] at nc;cases nc
  refine xa _ _ _ j r _ I2 (xT _ rfl) ⟨j,oc,vs,t,rfl,vb _ al,f2,f3⟩ ?_ (λb u n e=>?_) ?_ λb e=>?_
  ·obtain⟨o,e1,e2⟩:=a5;have nP:cell≠P:=λz=>by have:=g.freeC kx cell a3;rw[z,tP] at this;cases this
   exact⟨o,vb _<|hx _ _ nP e1,e2⟩
  ·rw[ql<|zo e nc,ql n];exact e
  ·refine⟨ac++#[rawInt U.line,rawInt U.col,.ref j],by rw[ql<|AG cP,zg],?_,λbj cv z=>?_⟩
   ·rw[Bf];exact rH _ tok
   ·rw[Bf] at z;rcases xH _ tok z with z|z
    ·obtain⟨d',od,cm,t',k1,k2,k3⟩:=a4 bj cv z;have nP:d'≠P:=λz=>by rw[z,tP] at k2;cases k2
     exact⟨d',od,cm,t',k1,by rw[ql<|zo k2 nc,ql nP];exact k2,k3⟩
    ·exact⟨j,oc,vs,t,z,zg,f2,f3⟩
  ·by_cases d:b=j
   ·subst d;exact nc
   ·rw[ql d] at e;by_cases d2:b=P
    ·subst d2;rw[zg] at e;cases e
    ·rw[ql d2] at e;exact e
end L2
namespace L3
open PySem L2
def JI(Pt:Addr)(q:Str)(J:Nat)(te:xu)(τ:jo)(L:qk)(Q:YK):Prop:=te τ L λy L1=>match y with
 |.ref l=>fU L1 l λys=>∃(n:Nat) (rks:Vo) (I:Addr),ys=ag 0 n/\D_ τ J=some (.ref I)/\L1 I=some (.lst<|rks.map Y.int)/\rks.length=n/\n<=127/\L1 Pt=some (.tb q)/\
  ∀(D:Addr) (qs:Vk),L1 D=none->qs.Perm (List.range n)->(qs.Pairwise λi j=>rks.getD i 0*1000000+(i:Int)<=rks.getD j 0*1000000+(j:Int))->Q (.ref D) (qi L1 D<|.lst (qs.map λi:Nat=>Y.int (i:Int)))
 |_=>False
theorem qO{G:G3}{H:Hp}:∀{l:Vk} {xs:Vz},xt G H (l.map λi:Nat=>Y.int<|0+(i:Int)) xs->xs=l.map λi:Nat=>V.int<|0+(i:Int)
 |[],_,h=>h
 |_::_,_,⟨x,I,e,r,s⟩=>by subst e;cases r;rw[qO s];rfl
theorem iE{G:G3}{H:Hp}:∀{l:Vo} {xs:Vz},xt G H (l.map Y.int) xs->xs=l.map V.int
 |[],_,h=>h
 |_::_,_,⟨x,I,e,r,s⟩=>by subst e;cases r;rw[iE s];rfl
theorem u8{G:G3}{H:Hp}:∀qs:Vk,xt G H (qs.map λi:Nat=>Y.int (i:Int)) (qs.map λi:Nat=>V.int (i:Int))
 |[]=>rfl
 |_::r=>⟨_,_,rfl,rfl,u8 r⟩
def Ss{I:Arguments}{U p:Pos}{r:Nat}{q:Str}(hg:Gl X "sorted")(hm:X.mg "sorted"=none)(he:QE X e te)(S:TS.KeySc fy kx px)(C:zW X.K X.env.code Pt)(hr:X.A.depth+3<recursionLimit)
 (hq:X.env.qual ++ "<lambda>" = q) (t:X.N[r]?=some kx) (a1:X.env.scope.names.lookup kx=some .cell) (g:∃cell,X.env.cells.lookup kx=some cell/\closureFor fy X.env=pure [(kx,cell)])
 (j:defaultsOf I X.env=([],[])) (hb:∀(name eK:Str) (cl:List<|Str×Addr) (pm cd ct v:Vt),bindArgs (PySem.W.kla_fn name eK I (TS.keyBody kx px p1 p2 p3 p4 p5 x1) fy cl pm cd ct) ⟨[v],[]⟩=pure [(px,v)])
 (h1:starEach [e] X.env=(false,eval e X.env)::starEach [] X.env:=by rfl) (h2:(backTo pos<|starEach [e] X.env).any (·.1)=false:=by rfl)
 (h3:backTo pos (starEach [e] X.env)=(false,eval e X.env)::backTo pos (starEach [] X.env):=by rfl):
 QE X (.Call (.Name "sorted" p) [e] [⟨some "key",.Lambda I (TS.keyBody kx px p1 p2 p3 p4 p5 x1) fy U,sy⟩] pos) (JI Pt q r te):=
 EO (Sr hg hm he S C hr hq t a1 g j hb h1 h2 h3) λσ H Q τ L Q3 rs rl z k=>by
  refine⟨τ,L,_,rs,rl,z,λv H1 y L1 t1 J rv z=>?_⟩;cases y with
  |ref l=>
   obtain⟨ys,e1,n,a2,kk,rfl,e2,e3,hn,hz,eP,qq⟩:=w6 z;cases rv;obtain⟨xs,h1,r1⟩:=J l _ e1;obtain⟨xk,h2,r2⟩:=J kk _ e3;have T:r6 H1 Pt q:=J Pt _ eP;cases qO r1;cases iE r2;obtain⟨v,hv,rv⟩:=rs.get r _<|rh _ _ e2;cases rv;refine⟨l,kk,n,a2,rfl,h1,hv,h2,hn,hz,T,λH2 D qs kp T2 hD a4 a3 pm pw=>?_⟩;have tb:∃o,H1 Pt=some (.tbl o):=let ⟨o,e,_⟩:=T;⟨o,e⟩;have t2:jf H1 H2:=λa u i h=>kp a u (λc=>by obtain⟨o,e⟩:=tb;rw[c,e] at h;cases h;cases i) h
   refine k _ _ _ _ (t1.trans t2) (λa u e=>?_) (by rfl)<|qq D qs (J.none hD) pm pw;by_cases c:a=D
   ·subst c;rw[q9] at e;cases e;exact⟨_,a3,u8 qs⟩
   ·rw[qc c] at e;by_cases d:a=Pt
    ·subst d;rw[eP] at e;cases e;exact T2
    ·obtain⟨x,hx⟩:=(J a u e).ex;exact(J a u e).keep t2 (by rw[hx];exact kp a x d hx)
  |_=>exact z.elim
structure Hm(K:Ah)(x eK:Str)(st:Stmt)(f:Addr)(fd:FuncData)(Pt:Addr):Prop where
 ex:∃(oc:Vt) (od:Option Addr) (kV kt pm:Vt) (an:Option Addr) (fv ct:Vt) (oi:Array<|Vp),
  fd=PySem.W.fnOf x eK (k8 st) (x6 st) (z9 st) .none kV kt pm an fv ct/\K.lookup f=some ⟨oc,od,.func fd,oi⟩/\PySem.W.codeIn K fv eK=true/\zW K fv Pt
 kp:PySem.W.keepIn K (.ref f)=true
def Su{P:Vv}{w:Vw}{K:Ah}{N:Vl}{k:Nat}{sp:kh}(F:Hm K x eK st f fd Pt)(S:wy N ps<|z9 st)(len:∀ys L Q,sp ys L Q->ys.length=ps.length)
 (I:∀(fv:Vt) (A:Around) (outer:List Env) (s:Vu) (H:Hp) (E:XK),zW K fv Pt->ww k (A.deeper<|PyProof.Rows.envOfC eK (z9 st) s.heap.objs.size f fv)->
  ∃t,uJ (eY CX0 P w K mg base N eK (z9 st) f fv A outer s H E).nox (x6 st) t/\∀ys L Q,sp ys L Q->t {nx:=λ_ L'=>eQ Q .non L',rt:=eQ Q} (eJ N ys) L):Fn3 P w K mg base (k+1) f fd ps sp:=by
 obtain⟨oc,od,kV,g,pm,an,fv,ct,j,rfl,lk,U,C⟩:=F.ex;have F0:Fun K x eK st f _:=⟨⟨oc,od,kV,g,pm,an,fv,ct,j,rfl,lk,U⟩,F.kp⟩;refine GJ lk U S (λvs H Q E ⟨ys,L,l,o,rl,z,_⟩=>by rw[<-o.length];exact len ys L l z) λA outer s H vs Q E hr ⟨ys,L,l,o,rl,z,k⟩=>?_;obtain⟨t,ht,q⟩:=I fv A outer s H E C hr;refine⟨_,gT.nox ht,eJ N ys,L,_,jL o,rl,q ys L l z,?_⟩;exact⟨λσ p τ L' r a2 J ⟨L2,T,q2⟩=>k .non p .non L2 r (J.sub T) (by rfl) q2,λv p y L' r J a1 ⟨L2,T,q2⟩=>k v p y L2 r (J.sub T) a1 q2,λ_ _ _ _ _ _ _ z=>z.elim,λ_ _ _ _ _ _ _ z=>z.elim⟩
inductive mJ(Pt:Addr)(q:Str)(ys:List Y)(L:qk)(Q:YK):Prop
 |mk:∀ns:Vo,(ys=[.sq<|ns.map Y.int])->(ns.length<=63)->(L=qi (λ_=>none) Pt (.tb q))->(∀L',Q (.bl true) L')->mJ Pt q ys L Q
def spTopT(q:Str)(K:Ah)(Pt:Addr):Sp:=λvs H Q _=>∃(a:Addr) (I:Vo),vs=[.ref a]/\SqF K H a (I.map V.int)/\I.length<=63/\H Pt=some (.tbl #[])/\∀H',Q (.bl true) H'
def Sv{q:Str}{vs:Vz}{Q:VK}{E:XK}(h:spTopT q G.K Pt vs H Q E):dn G (mJ Pt q) vs H Q E:=by
 obtain⟨a,I,rfl,J,U,g,z⟩:=h;refine⟨[.sq<|I.map Y.int],qi (λ_=>none) Pt<|.tb q,λy _=>y=.bl true,xt.one ⟨a,_,rfl,J,uI I⟩,(λb u e=>?_),⟨I,rfl,U,rfl,λ_=>rfl⟩,?_⟩
 ·by_cases c:b=Pt
  ·subst c;rw[q9] at e;cases e;exact⟨#[],g,trivial,λpos o z=>by cases z⟩
  ·rw[qc c] at e;cases e
 ·rintro v j y p _ _ l rfl;cases l;exact z j
end L3
namespace L2
open PySem PySem.Spec PyProof.Rows
def lessK(Pt:Addr):Ah->Ah
 |[]=>[]
 |(a,o)::r=>if a==Pt then lessK Pt r else(a,o)::lessK Pt r
theorem xh{Pt a:Addr}(h:a≠Pt):∀K:Ah,(lessK Pt K).lookup a=K.lookup a
 |[]=>rfl
 |(b,o)::r=>by
  unfold lessK;by_cases c:(b==Pt)=true
  ·rw[AA c,xh h r,BG];have:(a==b)=false:=by have I:=eq_of_beq c;subst I;exact EF h
   rw[this]
  ·rw[Ay c,BG,BG,xh h r]
theorem vm{Pt:Addr}:∀K:Ah,(lessK Pt K).lookup Pt=none
 |[]=>rfl
 |(b,o)::r=>by
  unfold lessK;by_cases c:(b==Pt)=true
  ·rw[AA c];exact vm r
  ·rw[Ay c,BG];have:(Pt==b)=false:=by cases d:Pt==b with|false=>rfl|true=>exact absurd (beq_iff_eq.mpr (eq_of_beq d).symm) c
   rw[this];exact vm r
def oW{a:Addr}{K:Ah}{o:Obj}(e:(lessK Pt K).lookup a=some o):a≠Pt/\K.lookup a=some o:=by
 by_cases c:a=Pt
 ·subst c;rw[vm] at e;cases e
 ·rw[xh c] at e;exact⟨c,e⟩
def lessK_in{K:Ah}(X:K.In h):(lessK Pt K).In h:=λa o e=>X a o (oW e).2
structure JJ(K:Ah)(Pt:Addr):Prop where
 tab:K.lookup Pt=some (PySem.W.tabObj #[])
 hd:∃c,∀h:Vx,K.In h->PySem.W.CodeHd h c Pt
 st:Pt≠cStatics
section
variable {K:Ah}(T:K.lookup Pt=some (PySem.W.tabObj #[]))
include T
def ns_dn{a:Addr}{r:Option<|Vp}(e:PySem.W.nsIn K a x=r):PySem.W.nsIn (lessK Pt K) a x=r:=by
 rw[<-e];unfold PySem.W.nsIn;by_cases c:a=Pt
 ·subst c;rw[vm,T]
 ·rw[xh c]
def lk_dn{a:Addr}{o:Obj}(e:K.lookup a=some o)(n:o.cls≠.none):(lessK Pt K).lookup a=some o:=by
 rw[xh ?_]
 ·exact e
 ·rintro rfl;rw[T] at e;cases e;exact n rfl
def code_dn{q:Str}(e:PySem.W.codeIn K cd q=true):PySem.W.codeIn (lessK Pt K) cd q=true:=by
 unfold PySem.W.codeIn at e ⊢;split at e
 ·rename_i c;by_cases d:c=Pt
  ·subst d;rw[T] at e;simp at e
  ·rw[xh d];exact e
 ·cases e
def Sw{v:Vt}:PySem.W.ownIn (lessK Pt K) x v=PySem.W.ownIn K x v:=by
 unfold PySem.W.ownIn;split
 ·rfl
 ·rename_i a;by_cases d:a=Pt
  ·subst d;rw[vm,T]
  ·rw[xh d];split
   ·exact ns_dn T rfl
   ·rfl
 ·rfl
theorem tK{x:Str}:∀l:Vi,PySem.W.alongIn (lessK Pt K) x l=PySem.W.alongIn K x l
 |[]=>rfl
 |c::r=>by unfold PySem.W.alongIn;rw[Sw T,tK r]
def iB{v:Vt}:PySem.W.findIn (lessK Pt K) v x=PySem.W.findIn K v x:=by
 unfold PySem.W.findIn;split
 ·rfl
 ·rename_i a;by_cases d:a=Pt
  ·subst d;rw[vm,T]
  ·rw[xh d];split
   ·exact tK T _
   ·rfl
 ·rfl
def xE{a:Addr}(n:a≠Pt):PySem.W.specialIn (lessK Pt K) (.ref a) x=PySem.W.specialIn K (.ref a) x:=by unfold PySem.W.specialIn PySem.W.typeIn;dsimp only;rw[xh n];congr 1;funext t;exact iB T
def keep_dn{f:Vt}(e:PySem.W.keepIn K f=true):PySem.W.keepIn (lessK Pt K) f=true:=by
 unfold PySem.W.keepIn at e ⊢;split at e
 ·rename_i a;by_cases d:a=Pt
  ·subst d;rw[T] at e;simp at e
  ·rw[xh d,xE T d];exact e
 ·cases e
end
def Sx{P:Vv}{w:Vw}{K:Ah}{mb:Vf}{CX:yQ}{k:Nat}{a:Addr}{I:Vu}{T:Vo}
 (KX:K.In I.heap) (TI:JJ K Pt) (a1:I.heap.Ns mainGlobals mg) (hb:I.heap.Ns builtinsNs mb) (au:∀x:Str,x ≠ "__name__" -> mb x=bootBuiltins x) (a2:I.heap.NoLimit) (hg:I.gens=#[]) (av:0<I.toks)
 (p:I.heap.get? a=some {cls:=.type "list",data:=.seq vs.toArray}) (hi:IntsAre vs T) (hl:T.length<=sizeLine) (hr:ww k callerA)
 (F:∀base:Vx,(lessK Pt K).In base->base.Ns mainGlobals mg->bP P w (lessK Pt K) mg base CX k fa fd [x] sp) (l:∀(s:Vu) (u:Vt),BindsTo s fd ⟨[u],[]⟩ [(x,u)])
 (ax:∀H:Hp,H Pt=some (.tbl #[])->(H a=none\/∃o xs,H a=some (.frz o<|.lst xs))->aS (lessK Pt K) H a (T.map V.int)->sp [.ref a] H (λv _=>v=.bl true) λ_ _ _=>False)
 (aL:∀H e s',CX [] H I (λ_ _ _=>False) e s'->False):
 codeAny (model P w) callerA (.call (.ref fa) ⟨[.ref a],[]⟩) (λr s'=>r=.ok (.ret<|.bool true)/\OldK I.heap s'.heap/\s'.os=I.os/\AllBare s'.gens) I:=by
 have rv:=ph hi;have a3:=hi.length;have hP:I.heap.get? Pt=some (PySem.W.tabObj #[]):=KX Pt _ TI.tab;have U:a≠Pt:=λz=>by rw[z,hP] at p;cases p
 have core:∀H:Hp,H Pt=some (.tbl #[])->(∀b,b≠a->b≠Pt->H b=none)->(H a=none\/∃o xs,H a=some (.frz o<|.lst xs))->aS (lessK Pt K) H a (T.map V.int)->(∀u,H a=some u->xj P w H I.heap a u)->(H a≠none->K.lookup a=none)->
  codeAny (model P w) callerA (.call (.ref fa) ⟨[.ref a],[]⟩) (λr s'=>r=.ok (.ret<|.bool true)/\OldK I.heap s'.heap/\s'.os=I.os/\AllBare s'.gens) I:=by
  intro H HP Hn HO HS a4 aR;have a5:dQ P w H I.heap:=λb u e=>by
   by_cases c:b=a
   ·subst c;exact a4 u e
   ·by_cases d:b=Pt
    ·subst d;rw[HP] at e;cases e;exact hP
    ·rw[Hn b c d] at e;cases e
  have J:∀{b:Addr} {o:Obj},I.heap.get? b=some o->H b=none->(rK I.heap H).get? b=some o:=λe n=>LP e n;have ba:∀{b:Addr} {o:Obj} {t:Array DictEntry} {C:Nat},I.heap.get? b=some o->o.data=.dict t C->H b=none:=λ{b o t C} e d=>by
   refine Hn b (λz=>?_) λz=>?_
   ·subst z;rw[p] at e;cases e;have d':Data.seq vs.toArray _=Data.dict t C:=d;cases d'
   ·subst z;rw[hP] at e;cases e;have d':Data.fields _=Data.dict t C:=d;cases d'
  have g:∀{b:Addr} {m:Vf},I.heap.Ns b m->(rK I.heap H).Ns b m:=λ{b m} ⟨o,t,C,e,d,r⟩=>⟨o,t,C,J e<|ba e d,d,r⟩;have ac:(lessK Pt K).In (rK I.heap H):=λb o e=>by
   obtain⟨n,e⟩:=oW e;refine J (KX b o e) ?_;by_cases c:b=a
   ·subst c;cases q:H b with|none=>rfl|some u=>rw[aR (by rw[q];simp)] at e;cases e
   ·exact Hn b c n
  have hM:Mod (lessK Pt K) mg (rK I.heap H):=⟨ac,g a1,⟨mb,g hb,au⟩,let ⟨mc,h1,h2⟩:=a2;⟨mc,g h1,h2⟩⟩;have e0:F2 P w (lessK Pt K) mg (rK I.heap H) callerA [] I H:=⟨rfl,hM,λb o e=>LQ e,Nat.le_of_eq<|LN _ _,trivial,λb hb=>absurd (show b∈([]:List Addr) from hb) (by simp),a5,.of_eq hg,av⟩;refine codeAny_mono ((F _ ac<|g a1).run callerA [] I H ⟨[.ref a],[]⟩ [.ref a] [.ref a] _ _ hr e0 (l I<|.ref a) (.cons rfl .nil)<|ax H HP HO HS) λr s' h=>?_;cases r with
  |error e=>exact(aL H e s' h).elim
  |ok fl=>
   cases fl with
   |next=>exact False.elim h
   |brk=>exact False.elim h
   |cont=>exact False.elim h
   |ret u=>
    obtain⟨v,H',os,bare,un,j,r',q,_⟩:=h;have q':v=.bl true:=q;subst q';obtain rfl:u=Value.bool true:=r';obtain⟨more,em⟩:=un.tbls Pt _ HP;have gP:s'.heap.get? Pt=some (PySem.W.tabObj<|#[]++more):=j Pt _ em;have kp:∀b o,b≠Pt->I.heap.get? b=some o->s'.heap.get? b=some o:=λb o n e=>by
     have al:H b=none->s'.heap.get? b=some o:=λz=>un.keep b o e z (by intro z;exact absurd (show b∈([]:List Addr) from z) (by simp)) (by simp);by_cases c:b=a
     ·subst c;rcases HO with z|⟨ob,xs,z⟩
      ·exact al z
      ·have z2:=un.frzs _ _ _ z;obtain⟨e1,_⟩:=a5 _ _ z;obtain⟨e2,_⟩:=j _ _ z2;rw[e] at e1;cases e1;exact e2
     ·exact al<|Hn b c n
    obtain⟨c,hc⟩:=TI.hd;refine⟨rfl,⟨λb o e=>?_,λb o e=>?_⟩,os,bare⟩
    ·by_cases n:b=Pt
     ·subst n;rw[hP] at e;cases e;exact .inr<|.inl ⟨((hc _ KX).tab hP).isCodeTable,rfl,#[],more,rfl,gP⟩
     ·exact .inl<|kp b o n e
    ·by_cases n:b=Pt
     ·subst n;exact⟨_,gP⟩
     ·exact⟨o,kp b o n e⟩
 cases hk:K.lookup a with
 |some o=>
  have e:=KX a o hk;rw[p] at e;cases e;refine core (λb=>if b=Pt then some (.tbl #[]) else none) (AA rfl) (λb _ n=>Ay n) (.inl<|Ay U) (.inr ⟨_,vs.toArray,_,(xh U K).trans hk,rfl,rfl,rfl,by rw[Aw,a3];exact hl,by simpa using rv⟩) (λu z=>by have z':=(Ay U).symm.trans z;cases z') λz=>absurd (Ay U) z
 |none=>
  refine core (λb=>if b=a then some (.frz {cls:=.type "list",data:=.seq vs.toArray}<|.lst<|T.map V.int) else if b=Pt then some (.tbl #[]) else none) ((Ay<|AG U).trans<|AA rfl) (λb n1 n2=>(Ay n1).trans<|Ay n2) (.inr ⟨_,_,AA rfl⟩) (.inl<|.inr ⟨_,AA rfl⟩) (λu z=>?_) λ_=>hk;have z':=(AA rfl).symm.trans z;cases z';exact⟨p,by rw[Af];exact hl,vs,_,rv,p⟩
def walk_ofZT{l:PySem.W.OpenLaw}{k:Nat}{q:Vv}{loose:Vl}{XP:(Vf)->Vx->Prop}{as0:List Addr}{N t:Nat}{d:DefRec}{K:Params->Ah}{CX:yQ}{sp:Ah->Addr->Sp}
 (hn:l.most=some n) (r:n<=sizeLine) (C:d.params.defaults=[]) (hr:ww k callerA) (ek:∀P,as0=(K P).map (·.1)) (a1:0<t)
 (F:∀(w:Vw) (mg:Vf) (fa:Addr) (h:Vx),(K w.params).In h->h.Ns mainGlobals mg->mg d.name=some (.ref fa)->
  ∃Pt:Addr,JJ (K w.params) Pt/\∃fd:FuncData,(∀(s:Vu) (u:Vt),BindsTo s fd ⟨[u],[]⟩ [(x,u)])/\
   ∀base:Vx,(lessK Pt<|K w.params).In base->base.Ns mainGlobals mg->bP l.prog w (lessK Pt<|K w.params) mg base CX k fa fd [x] (sp (lessK Pt<|K w.params) Pt))
 (a2:∀(K:Ah) (Pt:Addr) (H:Hp) (a:Addr) (p:Vo),p.length<=n->H Pt=some (.tbl #[])->(H a=none\/∃o xs,H a=some (.frz o<|.lst xs))->aS K H a (p.map V.int)->sp K Pt [.ref a] H (λv _=>v=.bl true) λ_ _ _=>False)
 (a3:∀(H:Hp) (s:Vu) (e:Vt) (s':Vu),CX [] H s (λ_ _ _=>False) e s'->False):
 PySem.W.WalkX q loose XP (PySem.W.X.obsZ as0) (PySem.W.X.valZ K N t) l.row.toRowW d [] (λf vs=>PySem.call f vs):=by
 refine Att.attach_callZ hn C ek a1 λw a5 U mg mb fa o pm cd ac a vs p G KX tk ho hd al a4 j J I hg=>?_;obtain⟨Pt,TI,fd,hb,hF⟩:=F w mg fa _ KX G.T.g a4;exact Sx KX TI G.T.g G.T.b G.T.builtins G.T.nolimit hg tk j J (AW I r) hr hF hb (λH hP hO hS=>a2 _ Pt H a p I hP hO hS) λH e s'=>a3 H U e s'
end L2
namespace L3
open PySem L2
def top_startT{q:Str}:∀(K:Ah) (Pt:Addr) (H:Hp) (a:Addr) (I:Vo),I.length<=63->H Pt=some (.tbl #[])->(H a=none\/∃o xs,H a=some (.frz o<|.lst xs))->aS K H a (I.map V.int)->spTopT q K Pt [.ref a] H (λv _=>v=.bl true) λ_ _ _=>False:=by
 intro K Pt H a I J U g j;refine⟨a,I,rfl,?_,J,U,λ_=>rfl⟩;rcases j with(h|⟨o,h⟩)|h
 ·rcases g with z|⟨o,xs,z⟩<;>rw[h] at z<;>cases z
 ·exact .inl ⟨o,h⟩
 ·exact .inr h
structure DefInT(K:Ah)(x:Str)(st:Stmt)(Pt:Addr):Prop where
 ex:∃(f:Addr) (kV kt pm:Vt) (an:Option Addr) (fv ct:Vt),PySem.W.nsIn K mainGlobals x=some (some<|.ref f)/\Hm K x x st f (PySem.W.fnOf x x (k8 st) (x6 st) (z9 st) .none kV kt pm an fv ct) Pt
def DefInT.use{K:Ah}(D:DefInT K x st Pt)(X:K.In h)(G:h.Ns mainGlobals mg)
 (I:∀(kV kt pm:Vt) (an:Option Addr) (fv ct:Vt) (us:Vi),us.length=ps.length->bindArgs (PySem.W.fnOf x x (k8 st) (x6 st) (z9 st) .none kV kt pm an fv ct) ⟨us,[]⟩=pure (ps.zip us)):
 ∃f fd,Hm K x x st f fd Pt/\dM K fd ps []/\mg x=some (.ref f):=by
 obtain⟨f,kV,kt,pm,an,fv,ct,a,F⟩:=D.ex;exact⟨f,_,F,.all<|I kV kt pm an fv ct,Cf X G a⟩
end L3
namespace L2
open PySem PySem.Spec PyProof.Rows
section
variable {ir:St}
def qw.ren(M:Vl)(I:qw X pins σ H s)(J:M.length=X.N.length)(hs:ir.length=σ.length)(h:∀(j:Nat) v,ir[j]?=some (some v)->σ[j]?=some (some v)/\X.N[j]?=M[j]?):qw {X with N:=M} pins ir H s:=by obtain⟨m,U,l⟩:=I.loc;have o:=I.ok;exact {ok:=⟨o.mod,o.kind,o.glob,o.blt,o.above,o.inj,o.has,o.cab,o.hd,o.frames,o.stk,o.exf,o.bs,o.bsz,o.noex,o.exfs,o.funs,o.frf⟩,os:=I.os,bare:=I.bare,base:=I.base,cell:=I.cell,free:=I.free,freeC:=I.freeC,pin:=I.pin,hok:=I.hok,tk:=I.tk,len:=(by rw[hs,I.len];exact J.symm),loc:=⟨m,U,λi x v g p r=>by obtain⟨a,b⟩:=h i v p;exact l i x v (b.trans g) a r⟩}
def u0(h:(σ.set i none)[j]?=some (some v)):j≠i/\σ[j]?=some (some v):=by
 by_cases c:i=j
 ·subst c;rw[Dq] at h;cases e:σ[i]? with|none=>rw[e] at h;cases h|some o=>rw[e] at h;cases h
 ·rw[A5 c] at h;exact⟨AG c,h⟩
def Sy(i:Nat)(t:TS):TS:=λD σ H=>t {nx:=λir H'=>D.nx (ir.set i none) H',rt:=D.rt,bk:=λir H'=>D.bk (ir.set i none) H',ct:=λir H'=>D.ct (ir.set i none) H'} (σ.set i none) H
def Sz{t:TS}(h:PS {X with N:=X.N.set i x} st t):PS X st (Sy i t):=by
 intro g s p H D I z;have C:qw {X with N:=X.N.set i x} g (p.set i none) H s:=I.ren _ (by rw[Bk]) (by rw[Bk]) λj v e=>by obtain⟨a,b⟩:=u0 e;exact⟨b,by rw[A5<|AG a]⟩
 refine aI (h g s _ H _ C z) λf o q=>?_;have back:∀{U:St} {l:Hp},qw {X with N:=X.N.set i x} g U l o->qw X g (U.set i none) l o:=λ{U l} J=>
  qw.ren (X:={X with N:=X.N.set i x}) X.N J (by show X.N.length=(X.N.set i x).length;rw[Bk]) (by rw[Bk]) λj v e=>by obtain⟨a,b⟩:=u0 e;exact⟨b,by show(X.N.set i x)[j]?=_;rw[A5<|AG a]⟩
 cases f with
 |next=>obtain⟨U,l,J,q⟩:=q;exact⟨_,l,back J,q⟩
 |brk=>obtain⟨U,l,J,q⟩:=q;exact⟨_,l,back J,q⟩
 |cont=>obtain⟨U,l,J,q⟩:=q;exact⟨_,l,back J,q⟩
 |ret u=>obtain⟨v,U,l,J,r,q⟩:=q;exact⟨v,_,l,back J,r,q⟩
end
end L2
namespace L3
open PySem L2
def iQ:jo->Nat->jo
 |[],_=>[]
 |_::r,0=>none::r
 |o::r,i+1=>o::iQ r i
theorem uR:∀(τ:jo) (i:Nat),iQ τ i=τ.set i none
 |[],_=>rfl
 |_::_,0=>rfl
 |o::r,i+1=>by unfold iQ;rw[uR r i];rfl
def JK(i:Nat)(t:a9)(D:x5)(τ:jo)(L:qk):Prop:=t {nx:=λI L'=>D.nx (iQ I i) L',rt:=D.rt,bk:=λI L'=>D.bk (iQ I i) L',ct:=λI L'=>D.ct (iQ I i) L'} (iQ τ i) L
def xg.forget(h:xg G H σ τ)(i:Nat):xg G H (σ.set i none) (iQ τ i):=by
 rw[uR];refine⟨by rw[Bk,Bk];exact h.len,λj y e=>?_⟩;by_cases c:i=j
 ·subst c;rw[Dq] at e;cases I:τ[i]? with|none=>rw[I] at e;cases e|some o=>rw[I] at e;cases e
 ·rw[A5 c] at e ⊢;exact h.get j y e
def SA(x:Str){t:a9}(h:QS {X with N:=X.N.set i x} st t):QS X st (JK i t):=
 ES (Sz h) λD T H p L D3 r C z k=>⟨iQ p i,L,_,r.forget i,C,z,
  ⟨λU g j l o I J q=>k.nx _ g _ l o (I.forget i) J q,k.rt,λU g j l o I J q=>k.bk _ g _ l o (I.forget i) J q,λU g j l o I J q=>k.ct _ g _ l o (I.forget i) J q⟩⟩
def jK:bootBuiltins "min"=some (.builtin "min"):=by decide +kernel
def SD(x:Y)(lo hi:Vq)(L:qk)(Q:YK):Prop:=match x with
 |.tup ys=>¬(HT.sIx ys.length 0 lo=0/\HT.sIx ys.length ys.length hi=ys.length)/\Q (.tup<|gD ys lo hi) L
 |_=>False
def Ho(K:Ah)(P:Vv)(w:Vw)(U:X.K=K:=by rfl)(g:X.prog=P:=by rfl)(hw:X.w=w:=by rfl):sP X (F9 ⟨K,P,w⟩ SD):=by
 subst U g hw;refine sP.imp NX λx lo J H Q ⟨y,L,Q3,j,l,z,k⟩=>?_;cases y with
 |tup o=>
  obtain⟨a,t,e,sq,r⟩:=j;obtain⟨C,T⟩:=z;exact⟨a,t,e,sq,by rw[<-r.length];exact C,λp I=>k _ _ (.tup<|gD o lo J) L (EN I) (l.skip I) ⟨p,_,rfl,.inl<|.inl zg,(rD r lo J).ts<|EN I⟩ T⟩
 |_=>exact z.elim
def wU{a:Addr}{keep:qk->Prop}(h:∀H L,jf H₀ H->zw G H L->keep L->∃xs,dS G.K H a xs/\xt G H ys xs):jF G H₀ (GB G.K a) ys keep where
 go:=λi H L t I J U=>by
  obtain⟨xs,sq,r⟩:=h H L t I J;have:i<xs.length:=by rw[<-r.length];exact U
  exact⟨xs,xs[i],sq,Al this⟩
 yld:=λi H L x o y t I J g ⟨e,f⟩=>by subst e;obtain⟨xs,sq,r⟩:=h _ L t I J;obtain⟨p,j,l⟩:=r.get g;have:=f xs sq;rw[j] at this;cases this;exact⟨EL _,I,l⟩
 stop:=λH L t I J=>by obtain⟨xs,sq,r⟩:=h H L t I J;exact⟨xs,sq,by rw[r.length];exact Ap _⟩
def rC(h:QE X e te):QI X tg e (GZ te):=PI.imq (M6 h) λσ H R j L R3 l o z k=>by
 refine⟨j,L,_,l,o,z,λv p y C T I J U=>?_⟩;cases y with
 |tup ys=>
  obtain⟨a,g,e,sq,r⟩:=J;exact⟨a,e,⟨g,sq⟩,k _ p ys (λ_=>True) C T I (wU λH L t _ _=>⟨g,dS.ts sq t,r.ts t⟩) U⟩
 |_=>exact U.elim
def SE{k:Nat}(I:ww k A):A.depth+3<recursionLimit:=by have:=I.dp;omega
abbrev lamQ:Str:="_law_order.<locals>.<lambda>"
open PySem L2 Words
def jB(ks:List<|VG):Prop:=∀(p:Nat) (e:Bool) (i j:Nat),ks[p]?=some (some<|.nd e i j)->i<p/\j<p
def aa6(ks:List<|VG)(rks:Vo):Prop:=∀(p:Nat) (e:Bool) (i j:Nat),p<rks.length->ks[p]?=some (some<|.nd e i j)->rks.getD i 0<rks.getD p 0/\rks.getD j 0<rks.getD p 0
def oG{r:Int}(h:i<rks.length):(rks++[r]).getD i 0=rks.getD i 0:=by rw[Bw,Bw,AE h]
def SF{r:Int}:(rks++[r]).getD rks.length 0=r:=by rw[Bw,AN<|Ap _,DN];rfl
def aa6.snoc{ks:List<|VG}{r:Int}{k:VG}(ok:jB ks)(h:aa6 ks rks)(U:ks[rks.length]?=some k)(g:∀e i j,k=some (.nd e i j)->rks.getD i 0<r/\rks.getD j 0<r):aa6 ks (rks++[r]):=by
 intro p e i j I J;obtain⟨l,o⟩:=ok p e i j J;rw[Ad] at I;have I:p<rks.length+1:=I;rw[oG (show i<rks.length by lia),oG (show j<rks.length by lia)];by_cases c:p<rks.length
 ·rw[oG c];exact h p e i j c J
 ·have:p=rks.length:=by lia
  subst this;rw[SF];exact g e i j<|Be<|U.symm.trans J
def cf(ks:List<|VG)(qs:Vk):Prop:=qs.Pairwise λx y=>∀e i j,ks[x]?=some (some<|.nd e i j)->y≠i/\y≠j
def SG{ks:List<|VG}{qs:Vk}(ok:jB ks)(h:aa6 ks rks)(I:rks.length=ks.length)(hw:qs.Pairwise λi j=>rks.getD i 0*1000000+(i:Int)<=rks.getD j 0*1000000+(j:Int)):cf ks qs:=by refine hw.imp λ{x y} z e i j ex=>?_;obtain⟨J,U⟩:=ok x e i j ex;obtain⟨g,l⟩:=h x e i j (by rw[I];exact zn ex) ex;exact⟨λc=>by subst c;lia,λc=>by subst c;lia⟩
def tw(h:i<rks.length):(rks.map Y.int)[i]?=some (.int<|rks.getD i 0):=by rw[Au,Bw,Al h];rfl
def aU(a:j9)(b:Y)(r:List<|j9×Y)(k:j9):ve ((a,b)::r) k=if a=k then some b else ve r k:=by
 unfold ve;rw[BE];by_cases h:a=k
 ·rw[AA h,show decide ((a,b).1=k)=true from AK h];rfl
 ·rw[Ay h,show decide ((a,b).1=k)=false from AD h]
theorem vA(k I:j9)(y:Y):∀kvs:List (j9×Y),ve (kvs.map λJ=>if J.1=k then(J.1,y) else J) I=if I=k then(ve kvs I).map (λ_=>y) else ve kvs I
 |[]=>by rw[Dr];split<;>rfl
 |(a,b)::r=>by
  have U:=vA k I y r;rw[AJ,aU];by_cases h:a=k
  ·rw[AA<|show(a,b).1=k from h,aU,U];by_cases h2:I=k
   ·rw[AA h2,AA h2,AA<|h.trans h2.symm,AA<|h.trans h2.symm];rfl
   ·rw[Ay h2,Ay h2,Ay λz=>h2<|z.symm.trans h,Ay λz=>h2<|z.symm.trans h]
  ·rw[Ay<|show ¬(a,b).1=k from h,aU,U];by_cases h2:I=k
   ·rw[AA h2,AA h2,Ay λz=>h<|z.trans h2,Ay λz=>h<|z.trans h2]
   ·rw[Ay h2,Ay h2]
theorem uY(k I:j9)(y:Y):∀kvs:List (j9×Y),ve (kvs++[(k,y)]) I=(ve kvs I).or (if k=I then some y else none)
 |[]=>by rw[Cr,aU];have:ve [] I=none:=rfl;rw[this];split<;>rfl
 |(a,b)::r=>by rw[DC,aU,aU,uY k I y r];split<;>rfl
theorem iM(k:j9):∀kvs:List (j9×Y),(kvs.any λI=>decide<|I.1=k)=(ve kvs k).isSome
 |[]=>rfl
 |(a,b)::r=>by
  rw[CA,aU,iM k r];by_cases h:a=k
  ·rw[AA h,show decide ((a,b).1=k)=true from AK h];rfl
  ·rw[Ay h,show decide ((a,b).1=k)=false from AD h];rfl
def nM(kvs:List<|j9×Y)(k I:j9)(y:Y):ve (dU kvs k y) I=if I=k then some y else ve kvs I:=by
 unfold dU;rw[iM];cases e:ve kvs k with
 |some v=>
  rw[AA<|show(some v).isSome=true from rfl,vA];by_cases h:I=k
  ·rw[AA h,AA h,h,e];rfl
  ·rw[Ay h,Ay h]
 |none=>
  rw[Ay (by simp),uY];by_cases h:I=k
  ·rw[AA h,h,e,AA rfl];rfl
  ·rw[Ay h,Ay λz=>h z.symm];cases ve kvs I<;>rfl
def bK(kvs:List<|j9×Y)(k:j9)(y:Y):(dU kvs k y).length<=kvs.length+1:=by
 unfold dU;split
 ·rw[Af];omega
 ·rw[Ad];simp
def i9(f:Vr):VG->VG
 |some (.nd e i j)=>some<|.nd e (f i)<|f j
 |k=>k
theorem vP{f g:Vr}:∀{k:VG},(∀e i j,k=some (.nd e i j)->f i=g i/\f j=g j)->i9 f k=i9 g k
 |none,_=>rfl
 |some (.lf _ _),_=>rfl
 |some (.nd e i j),h=>by obtain⟨a,b⟩:=h e i j rfl;show some (Kn.nd e (f i)<|f j)=some (Kn.nd e (g i)<|g j);rw[a,b]
structure vQ(ks:List<|VG)(ps:Vk)(f:Vr)(wd:List<|VG):Prop where
 at_:∀p∈ps,∀k,ks[p]?=some k->wd[f p]?=some (i9 f k)
 inj:∀p∈ps,∀q∈ps,f p=f q->p=q
 only:∀x k,wd[x]?=some (some k)->∃p∈ps,x=f p
 ok:jB wd
def vQ.nil(ks:List<|VG)(f:Vr):vQ ks [] f []:=⟨λp I=>(Bx I).elim,λp I=>(Bx I).elim,λx k h=>(by simp at h),λp e i j h=>(by simp at h)⟩
def jB.gap(h:jB wd):jB (wd++[none]):=by
 intro p e i j I;by_cases c:p<wd.length
 ·rw[AE c] at I;exact h p e i j I
 ·rw[AN (by exact F4)] at I;cases J:p-wd.length with|zero=>rw[J] at I;cases I|succ m=>rw[J] at I;cases I
theorem vQ.gap{ks:List<|VG}{ps:Vk}{f:Vr}(h:vQ ks ps f wd):vQ ks ps f (wd++[none]):=by
 refine⟨λp U k g=>ig<|h.at_ p U k g,h.inj,λx k I=>?_,h.ok.gap⟩;by_cases c:x<wd.length
 ·rw[AE c] at I;exact h.only x k I
 ·rw[AN (by lia)] at I;cases J:x-wd.length with|zero=>rw[J] at I;cases I|succ m=>rw[J] at I;cases I
def vQ.lt{ks:List<|VG}{ps:Vk}{f:Vr}(h:vQ ks ps f wd)(I:p∈ps)(J:p<ks.length):f p<wd.length:=zn<|h.at_ p I _<|Al J
def vQ.step{ks:List<|VG}{ps:Vk}{f:Vr}(h:vQ ks ps f wd)(r:∀p∈ps,p<ks.length){k:VG}(C:p∉ps)(T:ks[p]?=some k)(o:∀x∈ps,∀e i j,ks[x]?=some (some<|.nd e i j)->i∈ps/\j∈ps)(J:∀e i j,k=some (.nd e i j)->i∈ps/\j∈ps):
 vQ ks (ps++[p]) (λx=>if x=p then wd.length else f x) (wd++[i9 f k]):=by
 have old:∀x∈ps,(if x=p then wd.length else f x)=f x:=λx I=>Ay λ(c:x=p)=>C<|c▸I;have ren:∀l,(∀e i j,l=some (.nd e i j)->i∈ps/\j∈ps)->i9 (λx=>if x=p then wd.length else f x) l=i9 f l:=λl U=>vP λe i j z=>by obtain⟨a,b⟩:=U e i j z;exact⟨old i a,old j b⟩
 refine⟨λx I l U=>?_,λx I y g e=>?_,λx l I=>?_,λx e i j I=>?_⟩
 ·rcases Ak.mp I with I|I
  ·show(wd++[i9 f k])[if x=p then wd.length else f x]?=_;rw[old x I,ren l λe i j z=>o x I e i j (by rw[U,z])];exact ig<|h.at_ x I l U
  ·have I:=An.mp I;subst I;rw[T] at U;cases U;show(wd++[i9 f k])[if x=x then wd.length else f x]?=_;rw[AA rfl,ren k J];exact dY wd _ []
 ·have e:(if x=p then wd.length else f x)=if y=p then wd.length else f y:=e
  rcases Ak.mp I with I|I<;>rcases Ak.mp g with g|g
  ·rw[old x I,old y g] at e;exact h.inj x I y g e
  ·cases An.mp g;rw[old x I,AA rfl] at e;have:=h.lt I<|r x I;lia
  ·cases An.mp I;rw[old y g,AA rfl] at e;have:=h.lt g<|r y g;lia
  ·rw[An.mp I,An.mp g]
 ·by_cases c:x<wd.length
  ·rw[AE c] at I;obtain⟨q,t,e⟩:=h.only x l I;exact⟨q,Ao _ t,by rw[e];exact(old q t).symm⟩
  ·refine⟨p,Ag _<|An.mpr rfl,?_⟩;have:=zn I;rw[Ad] at this;have:x<wd.length+1:=this;show x=if p=p then wd.length else f p
   rw[AA rfl];lia
 ·by_cases c:x<wd.length
  ·rw[AE c] at I;exact h.ok x e i j I
  ·have:=zn I;rw[Ad] at this;have:x<wd.length+1:=this;have:x=wd.length:=by lia
   subst this;rw[AN<|Ap _,DN] at I;have I:i9 f k=some (.nd e i j):=Be I;cases k with
   |none=>cases I
   |some k=>
    cases k with
    |lf=>cases I
    |nd e' i' j'=>
     obtain⟨a,b⟩:=J e' i' j' rfl;cases I;exact⟨h.lt a<|r _ a,h.lt b<|r _ b⟩
def mz{ks:List<|VG}{qs:Vk}(ok:jB ks)(pm:qs.Perm<|List.range ks.length)(g:cf ks qs)(J:qs[n]?=some p){e:Bool}(h:ks[p]?=some (some<|.nd e i j)):i∈qs.take n/\j∈qs.take n:=by
 obtain⟨T,l2⟩:=ok p e i j h;have hl:=zn h;have r:=zn J;have ind:∀x,x<ks.length->x≠p->(∀y∈qs.drop (n+1),y≠x)->x∈qs.take n:=λx C ne l=>by
  have I:x∈qs:=pm.mem_iff.mpr<|Ba.mpr C;have o:qs=qs.take n++p::qs.drop (n+1):=by rw[Al r] at J;rw[<-Be J,CK,A8]
  rw[o] at I;rcases Ak.mp I with I|I
  ·exact I
  ·rcases Am.mp I with I|I
   ·exact absurd I ne
   ·exact absurd rfl<|l x I
 have t:∀y∈qs.drop (n+1),y≠i/\y≠j:=λy U=>by
  have o:qs=qs.take n++p::qs.drop (n+1):=by rw[Al r] at J;rw[<-Be J,CK,A8]
  unfold cf at g;rw[o] at g;have:=(AR.mp g).2.1;exact(List.pairwise_cons.mp this).1 y U e i j h
 exact⟨ind i (by exact uV) (by exact H9) λy U=>(t y U).1,ind j (by exact uV) (by exact H9) λy U=>(t y U).2⟩
def bJ(p q:Vs):Prop:=p.1<q.1\/(p.1=q.1/\p.2<=q.2)
def ui(p:Vs):Int×Int:=((p.1:Int),(p.2:Int))
def SH{p q:Vs}(h:ui p=ui q):p=q:=by obtain⟨a,b⟩:=p;obtain⟨c,d⟩:=q;have h1:(a:Int)=c:=BM Prod.fst h;have h2:(b:Int)=d:=BM Prod.snd h;rw[BP.mp h1,BP.mp h2]
def sv(ps:Vg):qt ps=(ps.map ui).map FX:=by rw[Cu];rfl
def pX{a:Addr}{ps:Vg}{Q:YK}(U:L a=some (.lst<|qt ps))(g:∀p∈ps,p.2<1000000)(nd:ps.Nodup)(j:ps.length<=127)
 (q:∀D qs,L D=none->qs.Perm ps->qs.Pairwise bJ->Q (.ref D) (qi L D<|.lst<|qt qs)):kw [.ref a] L Q:=by
 refine qr U ⟨ps.map ui,sv ps,λp l=>?_,?_,by rw[Af];exact j,λD qs o pm t=>?_⟩
 ·obtain⟨r,C,rfl⟩:=BX.mp l;have:=g r C;exact⟨A3 _,by show((r.2:Nat):Int)<1000000;omega⟩
 ·exact tT (λx _ y _ e=>SH e) nd
 ·obtain⟨T,pT,rfl⟩:=pP ui pm rfl;rw[<-sv];refine q D T o pT<|(Cw.mp t).imp λ{x y} z=>?_;unfold bJ;rcases z with z|⟨I,J⟩
  ·left;have z:((x.1:Nat):Int)<y.1:=z;lia
  ·right;have I:((x.1:Nat):Int)=y.1:=I;have J:((x.2:Nat):Int)<=y.2:=J;exact⟨by lia,by lia⟩
structure qV(L0:qk)(ks:List<|VG)(qs:Vk)(d w D:Addr)(i ex:Nat)(f:Vr)(wd:List<|VG)(kvs:List<|j9×Y)(L:qk):Prop where
 sub:qh L0 L
 hd:L d=some (.dct kvs)
 hw:L w=some (.lst<|jr wd)
 hD:L D=some (.lst<|nY qs)
 len:kvs.length<=i
 val:∀p:Nat,ve kvs (.inl (p:Int))=if p∈qs.take i then some (.int (f p:Int)) else none
 gap:vQ ks (qs.take i) f wd
 wlen:wd.length<=2*i+ex
def JL(f:Vr)(p:Vs):Vs:=(min (f p.1)<|f p.2,max (f p.1)<|f p.2)
def JM(f:Vr)(p:Vs):Vs:=(f p.1,f p.2)
structure yM(f:Vr)(ks wd:List<|VG):Prop where
 gap:vQ ks (List.range ks.length) f wd
 len:wd.length<=2*ks.length+1
def tN(wd:List<|VG)(k:VG):jr wd++[oR k]=jr (wd++[k]):=by unfold jr;rw[AI];rfl
def aA(wd:List<|VG):(jr wd).length=wd.length:=Af ..
def qV.wide{ks:List<|VG}{qs:Vk}{d w:Addr}{ex ex':Nat}{f:Vr}{wd':List<|VG}(G:qV L0 ks qs d w D i ex f wd kvs L)(h0:L0 w=none)(I:d≠w)(J:w≠D)(g:vQ ks (qs.take i) f wd')(h:wd'.length<=2*i+ex'):
 qV L0 ks qs d w D i ex' f wd' kvs (qi L w<|.lst<|jr wd'):=
 ⟨G.sub.upd h0,(qc I).trans G.hd,q9,(qc<|AG J).trans G.hD,G.len,G.val,g,h⟩
def zc:Ru->Vh
 |.link p q=>[(p,q)]
 |.ei _ A=>zc A
 |.bo _ A B=>zc A++zc B
 |.cu _ _ A B=>zc A++zc B
def zd:Ru->Vh
 |.link _ _=>[]
 |.ei _ A=>zd A
 |.bo _ A B=>zd A++zd B
 |.cu p q A B=>(p,q)::(zd A++zd B)
def gh:Ru->Nat
 |.link _ _=>1
 |.ei _ A=>gh A+1
 |.bo _ A B=>gh A+gh B+1
 |.cu _ _ A B=>gh A+gh B+1
def aD:Ru->List Ru
 |.link _ _=>[]
 |.ei _ A=>[A]
 |.bo _ A B=>[A,B]
 |.cu _ _ A B=>[A,B]
def tU:Ru->Vh
 |.link p q=>[(p,q)]
 |_=>[]
def wN:Ru->Vh
 |.cu p q _ _=>[(p,q)]
 |_=>[]
def vK(A:Ru):zc A=tU A++(aD A).flatMap zc:=by cases A<;>simp[zc,tU,aD]
def SI(A:Ru):zd A=wN A++(aD A).flatMap zd:=by cases A<;>simp[zd,wN,aD]
def SJ(A:Ru):((aD A).map gh).sum+1=gh A:=by cases A<;>simp[gh,aD]
def qB{A B:Ru}(h:B∈aD A):v5 B<v5 A:=by cases A<;>simp[aD] at h<;>(try rcases h with rfl|rfl)<;>(try subst h)<;>simp[v5]<;>omega
def vz(l:Vg)(p:Vs):qt l++[f' p]=qt (l++[p]):=by unfold qt;rw[AI];rfl
def SK:(100000:Nat)<=sizeLine:=by decide
open Classical in
def JN{b:Bool}{A B:Prop}(h1:b=true->A)(h2:b=false->B):we b A B:=by cases b with|true=>exact h1 rfl|false=>exact h2 rfl
def plcs(lk:Vg):Vk:=lk.flatMap λx=>[x.1,x.2]
def zj(a b:Vg):plcs (a++b)=plcs a++plcs b:=by unfold plcs;rw[A7]
def jy(x:Vs):plcs [x]=[x.1,x.2]:=by simp[plcs]
def w4(lk:Vg):(plcs lk).length=2*lk.length:=by
 induction lk with
 |nil=>rfl
 |cons x r I=>
  have:=zj [x] r;rw[Dz] at this;rw[this,Ad,I,jy,AF];simp;exact Nat.add_comm _ _
def jk{c:Vs}(h:c∈ct):c.1∈plcs ct/\c.2∈plcs ct:=by
 induction ct with
 |nil=>cases h
 |cons d r I=>
  have e:plcs (d::r)=[d.1,d.2]++plcs r:=by rw[<-jy,<-zj];rfl
  rw[e];rcases Am.mp h with rfl|h
  ·simp
  ·obtain⟨a,b⟩:=I h;exact⟨Ag _ a,Ag _ b⟩
def bE{x:Nat}(h:x∈plcs ct):∃c∈ct,x=c.1\/x=c.2:=by
 induction ct with
 |nil=>cases h
 |cons d r I=>
  have e:plcs (d::r)=[d.1,d.2]++plcs r:=by rw[<-jy,<-zj];rfl
  rw[e] at h;rcases Ak.mp h with h|h
  ·exact⟨d,Aj ..,by simpa using h⟩
  ·obtain⟨c,h1,h2⟩:=I h;exact⟨c,Ab _ h1,h2⟩
def SM(x:Vs):Da:=.tup [.s<|.int (x.1:Int),.s<|.int (x.2:Int)]
theorem oD{L:qk}:∀l:Vh,Paired (x9 L 1) (qt l)<|l.map SM
 |[]=>.nil
 |_::r=>.cons (eL<|.cons (EZ _)<|.cons (EZ _) .nil)<|oD r
structure SN(ks:VE)(lk:Vg):Prop where
 nd:(plcs lk).Nodup
 lt:∀p∈lk,p.1<p.2
 at_:∀p∈lk,∃t n,ks[p.1]?=some (.lf t n)/\ks[p.2]?=some (.lf (!t) n)
def qx(c:Vs)(r:Vg):plcs (c::r)=c.1::c.2::plcs r:=by
 have e:plcs (c::r)=[c.1,c.2]++plcs r:=by rw[<-jy,<-zj];rfl
 rw[e];rfl
def jc{l m:Vg}(h:l.Perm m):(plcs l).Perm (plcs m):=by
 induction h with
 |nil=>exact .nil
 |cons x _ I=>rw[qx,qx];exact(I.cons _).cons _
 |swap x y l=>
  rw[qx,qx,qx,qx];exact(AU (l₁:=[y.1,y.2]) (l₂:=[x.1,x.2])).append_right (plcs l)
 |trans _ _ h1 h2=>exact h1.trans h2
theorem zy:∀{l:Vg},(plcs l).Nodup->l.Nodup
 |[],_=>CW
 |c::r,h=>by rw[qx] at h;have h1:=Av.mp h;have h2:=Av.mp h1.2;exact Av.mpr ⟨λI=>h1.1<|Ab _ (jk I).1,zy h2.2⟩
def iL{l:Vg}(nd:l.Nodup){x y:Vs}(U:x∈l)(g:y∈l)(ne:x≠y):l.Perm (x::y::l.filter λz=>decide (z≠x)&&decide (z≠y)):=by
 refine(A4 nd ?_).mpr λz=>?_
 ·refine Av.mpr ⟨λh=>?_,Av.mpr ⟨λh=>?_,nd.filter _⟩⟩
  ·rcases Am.mp h with h|h
   ·exact ne h
   ·simp at h
  ·simp at h
 ·by_cases I:z=x
  ·subst I;simp[U]
  ·by_cases J:z=y
   ·subst J;simp[g]
   ·simp[I,J]
def bM(a b:Nat):Vs:=(min a b,max a b)
def cX(a b:Nat)(r:Vk):(min a b::max a b::r).Perm (a::b::r):=by
 by_cases c:a<=b
 ·rw[BO c,Cj c]
 ·rw[Cg (by lia),Cs (by lia)];exact List.Perm.swap ..
def gF{l:Vg}{x:Vs}(h:l[i]?=some x):(qt l)[i]?=some (f' x):=by rw[Au,h];rfl
theorem bG:∀R:Ru,gh R+1<=(z0 R).length
 |.link _ _=>Ap _
 |.ei r A=>by have:=bG A;show gh A+1+1<=(r::z0 A).length;rw[AF];exact GP
 |.bo r A B=>by have:=bG A;have:=bG B;show gh A+gh B+1+1<=(r::(z0 A++z0 B)).length;rw[AF,Ad];lia
 |.cu _ _ A B=>by have:=bG A;have:=bG B;show gh A+gh B+1+1<=(z0 A++z0 B).length;rw[Ad];lia
theorem aT:∀R:Ru,∃rest,(plcs (zc R)++rest).Perm<|z0 R
 |.link p q=>⟨[],.refl _⟩
 |.ei r A=>by obtain⟨u,h⟩:=aT A;exact⟨r::u,Ci.trans<|h.cons r⟩
 |.bo r A B=>by obtain⟨u,h⟩:=aT A;obtain⟨v,k⟩:=aT B;refine⟨r::(u++v),?_⟩;show(plcs (zc A++zc B)++r::(u++v)).Perm (r::(z0 A++z0 B));rw[zj];refine Ci.trans<|List.Perm.cons r ?_;refine List.Perm.trans ?_<|h.append k;rw[Ar,Ar];refine List.Perm.append_left _ ?_;rw[<-Ar,<-Ar];exact Ey _ AU
 |.cu p q A B=>by obtain⟨u,h⟩:=aT A;obtain⟨v,k⟩:=aT B;refine⟨u++v,?_⟩;show(plcs (zc A++zc B)++(u++v)).Perm (z0 A++z0 B);rw[zj];refine List.Perm.trans ?_<|h.append k;rw[Ar,Ar];refine List.Perm.append_left _ ?_;rw[<-Ar,<-Ar];exact Ey _ AU
def SR.links{E:Vk}(h:SR ks R E):∀p∈zc R,p.1<p.2/\∃t n,ks[p.1]?=some (.lf t n)/\ks[p.2]?=some (.lf (!t) n):=by induction h with|@link p q t n E h1 h2 h3 j l=>intro x U;rw[An.mp U];exact⟨h1,t,n,h2,h3⟩|ei _ _ _ _ _ _ _ g=>exact g|bo _ _ _ _ _ _ _ I J=>intro x U;exact(Ak.mp U).elim (I x) (J x)|cu _ _ _ _ _ _ _ _ I J=>intro x U;exact(Ak.mp U).elim (I x) (J x)
def SR.lkI{E:Vk}(h:SR ks R E)(nd:(z0 R).Nodup):SN ks (zc R):=by obtain⟨u,J⟩:=aT R;exact⟨(Aq.mp<|J.nodup_iff.mpr nd).1,λp I=>(h.links p I).1,λp I=>(h.links p I).2⟩
def SR.cuts{E:Vk}(h:SR ks R E):(z0 R).Nodup->(plcs<|zd R).Nodup/\(∀x∈plcs (zd R),x∉E/\x∈z0 R):=by
 induction h with
 |link _ _ _ _ _=>exactλ_=>⟨CW,λx I=>by cases I⟩
 |@ei r i j A EA E h1 h2 h3 h4 h5 t h7 ih=>
  intro nd;obtain⟨n1,n2⟩:=Av.mp<|show(r::z0 A).Nodup from nd;obtain⟨a,b⟩:=ih n2;refine⟨a,λx I=>⟨λJ=>?_,Ab _ (b x I).2⟩⟩;rcases (t x).mp J with⟨z,_⟩|rfl
  ·exact(b x I).1 z
  ·exact n1 (b x I).2
 |@bo r i j A B EA EB E h1 h2 h3 h4 h5 t h7 l o=>
  intro nd;obtain⟨n1,n2⟩:=Av.mp<|show(r::(z0 A++z0 B)).Nodup from nd;obtain⟨m1,m2,U⟩:=Aq.mp n2;obtain⟨a1,b1⟩:=l m1;obtain⟨a2,b2⟩:=o m2;have sA:=h2.sub;have C:=h3.sub;show(plcs<|zd A++zd B).Nodup/\∀x∈plcs (zd A++zd B),x∉E/\x∈r::(z0 A++z0 B);rw[zj];refine⟨Aq.mpr ⟨a1,a2,λx I y hy=>U x (b1 x I).2 y (b2 y hy).2⟩,λx I=>?_⟩;rcases Ak.mp I with I|I
  ·refine⟨λJ=>?_,Ab _<|Ao _ (b1 x I).2⟩;rcases (t x).mp J with⟨z,_⟩|⟨z,_⟩|rfl
   ·exact(b1 x I).1 z
   ·exact U x (b1 x I).2 x (C x z) rfl
   ·exact n1<|Ao _ (b1 _ I).2
  ·refine⟨λJ=>?_,Ab _<|Ag _ (b2 x I).2⟩;rcases (t x).mp J with⟨z,_⟩|⟨z,_⟩|rfl
   ·exact U x (sA x z) x (b2 x I).2 rfl
   ·exact(b2 x I).1 z
   ·exact n1<|Ag _ (b2 _ I).2
 |@cu p q A B EA EB E w h1 h2 h3 h4 h5 t h7 h8 l o=>
  intro nd;obtain⟨m1,m2,U⟩:=Aq.mp<|show(z0 A++z0 B).Nodup from nd;obtain⟨a1,b1⟩:=l m1;obtain⟨a2,b2⟩:=o m2;have sA:=h1.sub;have C:=h2.sub;show(plcs<|(p,q)::(zd A++zd B)).Nodup/\∀x∈plcs ((p,q)::(zd A++zd B)),x∉E/\x∈z0 A++z0 B;rw[qx,zj];have tp:=sA p h3;have tq:=C q h4;have a3:p≠q:=λe=>U p tp q tq e;have T:∀x,x∈plcs (zd A)++plcs (zd B)->x≠p/\x≠q:=λx I=>by
   rcases Ak.mp I with I|I
   ·exact⟨λe=>(b1 x I).1<|e▸h3,λe=>U x (b1 x I).2 q tq e⟩
   ·exact⟨λe=>U p tp x (b2 x I).2 e.symm,λe=>(b2 x I).1<|e▸h4⟩
  refine⟨Av.mpr ⟨λh=>?_,Av.mpr ⟨λh=>(T q h).2 rfl,Aq.mpr ⟨a1,a2,λx I y hy=>U x (b1 x I).2 y (b2 y hy).2⟩⟩⟩,λx I=>?_⟩
  ·rcases Am.mp h with h|h
   ·exact a3 h
   ·exact(T p h).1 rfl
  ·have g:x∈E->(x∈EA/\x≠p)\/(x∈EB/\x≠q):=(h7 x).mp;rcases Am.mp I with rfl|I
   ·exact⟨λJ=>(g J).elim (λz=>z.2 rfl) λz=>U x tp x (C x z.1) rfl,Ao _ tp⟩
   ·rcases Am.mp I with rfl|I
    ·exact⟨λJ=>(g J).elim (λz=>U x (sA x z.1) x tq rfl) λz=>z.2 rfl,Ag _ tq⟩
    ·rcases Ak.mp I with I|I
     ·exact⟨λJ=>(g J).elim (λz=>(b1 x I).1 z.1) λz=>U x (b1 x I).2 x (C x z.1) rfl,Ao _ (b1 x I).2⟩
     ·exact⟨λJ=>(g J).elim (λz=>U x (sA x z.1) x (b2 x I).2 rfl) λz=>(b2 x I).1 z.1,Ag _ (b2 x I).2⟩
def oU(ok:dR ks):jB (ks.map some):=by intro p e i j h;rw[Au] at h;obtain⟨k,I,J⟩:=AB.mp h;cases J;exact ok p _ I
def eE(ks:VE):jr (ks.map some)=vh ks:=by show(ks.map some).map oR=ks.map pF;rw[Cu];rfl
def KW.lf{n:Str}(h:wd[p]?=some (some<|.lf t n)):KW (jr wd) p (.leaf t n):=by show(jr wd)[p]?=_;rw[Au,h];rfl
def KW.nd{e:Bool}{l r:Wd}(h:wd[p]?=some (some<|.nd e i j))(I:KW (jr wd) i l)(J:KW (jr wd) j r):KW (jr wd) p (.node e l r):=
 ⟨i,j,by rw[Au,h];rfl,I,J⟩
def SO{k:Kn}{n:Str}(h:pF k=.tup [.str<|kL t,.str n]):k=.lf t n:=by
 cases k with
 |lf u m=>
  have h1:kL u=kL t:=by injection h with h;injection h with h _;injection h
  have h2:m=n:=by injection h with h;injection h with _ h;injection h with h _;injection h
  subst h2;cases u<;>cases t<;>first|rfl|(exfalso;revert h1;decide)
 |nd e i j=>injection h with h;injection h with _ h;injection h with _ h;cases h
def zI{k:Kn}{e:Bool}(h:pF k=.tup [.str<|kN e,.int (i:Int),.int (j:Int)]):k=.nd e i j:=by
 cases k with
 |lf u m=>injection h with h;injection h with _ h;injection h with _ h;cases h
 |nd b I J=>
  have h1:kN b=kN e:=by injection h with h;injection h with h _;injection h
  have h2:((I:Nat):Int)=i:=by injection h with h;injection h with _ h;injection h with h _;injection h
  have h3:((J:Nat):Int)=j:=by injection h with h;injection h with _ h;injection h with _ h;injection h with h _;injection h
  have h2:=BP.mp h2;have h3:=BP.mp h3;subst h2 h3;cases b<;>cases e<;>first|rfl|(exfalso;revert h1;decide)
def JO{y:Y}(h:(jr wd)[p]?=some y):∃o,wd[p]?=some o/\oR o=y:=by rw[Au] at h;obtain⟨o,a,b⟩:=AB.mp h;exact⟨o,a,b⟩
def KW.inv_lf{n:Str}(h:KW (jr wd) p<|.leaf t n):wd[p]?=some (some<|.lf t n):=by
 obtain⟨o,a,b⟩:=JO<|show(jr wd)[p]?=some (.tup [.str<|kL t,.str n]) from h;cases o with
 |none=>cases b
 |some k=>rw[a,SO b]
def KW.inv_nd{e:Bool}{l r:Wd}(h:KW (jr wd) p<|.node e l r):∃i j,wd[p]?=some (some<|.nd e i j)/\KW (jr wd) i l/\KW (jr wd) j r:=by
 obtain⟨i,j,h1,h2,h3⟩:=h;obtain⟨o,a,b⟩:=JO h1;cases o with
 |none=>cases b
 |some k=>exact⟨i,j,by rw[a,zI b],h2,h3⟩
theorem KW.dep{wd:List<|VG}(ok:jB wd):∀{w:Wd} {p:Nat},KW (jr wd) p w->w.depth<=p+1
 |.leaf t n,p,_=>by show 1<=p+1;exact BQ _
 |.node e l r,p,h=>by obtain⟨i,j,a,I,J⟩:=h.inv_nd;have:=ok p e i j a;have:=KW.dep ok I;have:=KW.dep ok J;show max l.depth r.depth+1<=p+1;lia
def yM.inv{f:Vr}(r:yM f fu wd){x:Nat}{k:Kn}(h:wd[x]?=some (some k)):∃p,p<fu.length/\x=f p/\∃o,fu[p]?=some o/\i9 f o=some k:=by obtain⟨p,I,e⟩:=r.gap.only x k h;have I:=Ba.mp I;have:=r.gap.at_ p (Ba.mpr I) _<|Al I;rw[<-e,h] at this;exact⟨p,I,e,_,Al I,(Be this).symm⟩
theorem yM.word{f:Vr}(r:yM f fu wd):∀{w:Wd} {p:Nat},KW (jr fu) p w->KW (jr wd) (f p) w
 |.leaf t n,p,h=>by have e:=h.inv_lf;exact KW.lf<|r.gap.at_ p (Ba.mpr<|zn e) _ e
 |.node b l rr,p,h=>by obtain⟨i,j,e,I,J⟩:=h.inv_nd;exact KW.nd (r.gap.at_ p (Ba.mpr<|zn e) _ e) (r.word I)<|r.word J
def SR.cutw{E:Vk}(h:SR ks R E):∀c∈zd R,∃w,cJ ks c.1 w/\cJ ks c.2 w.turn:=by
 induction h with
 |link _ _ _ _ _=>intro c g;cases g
 |ei _ _ _ _ _ _ _ j=>exact j
 |bo _ _ _ _ _ _ _ I J=>intro x U;exact(Ak.mp U).elim (I x) (J x)
 |@cu p q A B r t E w h1 h2 h3 C l o T h8 I J=>
  intro x U;rcases Am.mp U with rfl|U
  ·exact⟨w,l,o⟩
  ·exact(Ak.mp U).elim (I x) (J x)
def kB:RD "_law_copy" kH 0 ["_law_web_here"] (λ_=>True):=⟨_,λV B c _ _ _ _ _ _ _ I hN J=>(qg<|zb<|zh<|bQ (vt ko rfl B.bf vk<|xn<|J_ 0) (vt ko rfl B.bf vk<|xn<|J_ 0)<|vt ko rfl B.bf vk<|xn<|J_ 0)⟩
def xl(wd:List<|VG):Vk:=wd.flatMap ja
def oS(wd:List<|VG)(k:VG):xl (wd++[k])=xl wd++ja k:=by unfold xl;rw[A7,Bq,CZ,AC]
def wJ(k:VG):(ja k).length<=2:=by cases k with|none=>exact Bb _|some k=>cases k with|lf t n=>exact Bb _|nd e i j=>exact Ap _
def pS(wd:List<|VG):(xl wd).length<=2*wd.length:=by
 induction wd with
 |nil=>exact Ap _
 |cons k r I=>
  have e:xl (k::r)=ja k++xl r:=Bq ..;have:=wJ k;rw[e,Ad,AF];lia
def hU(wd:List<|VG)(p:Nat):Bool:=match wd[p]? with
 |some (some _)=>true
 |_=>false
def lC(wd:List<|VG)(us:Vk)(p:Nat):Bool:=hU wd p&&!(decide<|p∈us)
def ah(wd:List<|VG)(us:Vk)(i:Nat):Vk:=(List.range i).filter<|lC wd us
def mw(wd:List<|VG)(us:Vk)(i:Nat):ah wd us (i+1)=ah wd us i++if lC wd us i=true then [i] else []:=by unfold ah;rw[List.range_succ,Br];congr 1;rw[C1,B4]
def aX(wd:List<|VG)(ct:Vg):Vk:=xl wd++plcs ct
inductive fN(ys:List Y)(L:qk)(Q:YK):Prop
 |mk:∀a l c,∀xs zs us:List Y,(ys=[xc a l c])->(L a=some (.lst xs))->(L l=some (.lst zs))->(L c=some (.lst us))->(∀a' l' c' L',qh L L'->L a'=none->L l'=none->L c'=none->a'≠l'->a'≠c'->l'≠c'->L' a'=some (.lst xs)->L' l'=some (.lst zs)->L' c'=some (.lst us)->Q (xc a' l' c') L')->fN ys L Q
def SQ:∀ys L Q,fN ys L Q->vd kB.1 1 ys L Q:=by rintro ys L Q ⟨a,l,c,C,T,us,rfl,ha,hl,hc,q⟩;refine qb ha λg h1=>?_;have j:=By (o:=.lst C) h1;refine qb (j _ _ hl) λp h2=>?_;have r:=j.trans<|By (o:=.lst T) h2;refine qb (r _ _ hc) λt h3=>?_;have I:g≠p:=aP q9 h2;have J:p≠t:=aP q9 h3;have U:g≠t:=aP ((qc I).trans q9) h3;exact xa<|q g p t _ (r.trans<|By h3) h1 (j.none h2) (r.none h3) I U J ((qc U).trans<|(qc I).trans q9) ((qc J).trans q9) q9
def o5(ks:VE)(l:Vk):Vk:=l.flatMap λp=>ja ks[p]?
def iJ(ks:VE)(a b:Vk):o5 ks (a++b)=o5 ks a++o5 ks b:=by unfold o5;rw[A7]
def cR(ks:VE)(x:Nat)(l:Vk):o5 ks (x::l)=ja ks[x]?++o5 ks l:=Bq ..
def cV{E:Vk}(h:E.Nodup)(hi:i∈E):E.Perm ([i]++E.filter λx=>!decide (x=i)):=by
 refine(A4 h ?_).mpr λx=>?_
 ·refine Av.mpr ⟨λz=>?_,h.filter _⟩;have:=(AH.mp z).2;simp at this
 ·rw[Ak,An,AH];constructor
  ·intro I;by_cases c:x=i
   ·exact .inl c
   ·exact .inr ⟨I,by simp[c]⟩
  ·rintro(rfl|I)
   ·exact hi
   ·exact I.1
def SR.part{E:Vk}(h:SR ks R E):(z0 R).Nodup->(o5 ks (z0 R)++(plcs (zd R)++E)).Perm (z0 R):=by
 induction h with
 |@link p q t n U h1 h2 h3 o C=>
  intro _;have e:o5 ks [p,q]=[]:=by rw[cR,cR,h2,h3];rfl
  show(o5 ks [p,q]++([]++U)).Perm [p,q];rw[e,Cr,Cr];refine(A4 C (by simp;lia)).mpr λx=>?_;rw[o x];simp
 |@ei r i j A g U h1 T h3 o C h6 h7 ih=>
  intro nd;obtain⟨n1,n2⟩:=Av.mp nd;have ih:=ih n2;have l:g.Nodup:=(Aq.mp (Aq.mp<|ih.nodup_iff.mpr n2).2.1).2.1;have p1:=cV l h3;have p2:(g.filter λx=>!decide (x=i)).Perm _:=cV (l.filter _) (i:=j) (AH.mpr ⟨o,by simp;exact AG C⟩);have p3:U.Perm ([r]++(g.filter λx=>!decide (x=i)).filter λx=>!decide (x=j)):=by
   refine(A4 h7<|Av.mpr ⟨λz=>n1<|T.sub _ (AH.mp (AH.mp z).1).1,(l.filter _).filter _⟩).mpr λx=>?_;rw[h6 x,Am,AH,AH];simp only[CQ,decide_eq_false_iff_not];constructor
   ·rintro(⟨a,b,c⟩|rfl)
    ·exact .inr ⟨⟨a,b⟩,c⟩
    ·exact .inl rfl
   ·rintro(rfl|⟨⟨a,b⟩,c⟩)
    ·exact .inr rfl
    ·exact .inl ⟨a,b,c⟩
  show(o5 ks (r::z0 A)++(plcs (zd A)++U)).Perm ([r]++z0 A);rw[cR,h1];show((([i]++[j])++o5 ks (z0 A))++(plcs (zd A)++U)).Perm _;refine C8.mpr λa=>?_;have c1:=p1.count_eq a;have c2:=p2.count_eq a;have c3:=p3.count_eq a;have c4:=ih.count_eq a;simp only[Dy] at c1 c2 c3 c4 ⊢;lia
 |@bo r i j A B g EB U h1 T hB o C h6 h7 I J=>
  intro nd;obtain⟨n1,n2⟩:=Av.mp nd;obtain⟨m1,m2,m3⟩:=Aq.mp n2;have I:=I m1;have J:=J m2;have l:g.Nodup:=(Aq.mp (Aq.mp<|I.nodup_iff.mpr m1).2.1).2.1;have nB:EB.Nodup:=(Aq.mp (Aq.mp<|J.nodup_iff.mpr m2).2.1).2.1;have p1:=cV l o;have p2:=cV nB C;have p3:U.Perm ([r]++((g.filter λx=>!decide (x=i))++EB.filter λx=>!decide (x=j))):=by
   refine(A4 h7<|Av.mpr ⟨λz=>n1 ?_,Aq.mpr ⟨l.filter _,nB.filter _,λa ha b hb=>m3 a (T.sub _ (AH.mp ha).1) b<|hB.sub _ (AH.mp hb).1⟩⟩).mpr λx=>?_
   ·rcases Ak.mp z with z|z
    ·exact Ao _<|T.sub _ (AH.mp z).1
    ·exact Ag _<|hB.sub _ (AH.mp z).1
   ·rw[h6 x,Am,Ak,AH,AH];simp only[CQ,decide_eq_false_iff_not];constructor
    ·rintro(a|a|rfl)
     ·exact .inr<|.inl a
     ·exact .inr<|.inr a
     ·exact .inl rfl
    ·rintro(rfl|a|a)
     ·exact .inr<|.inr rfl
     ·exact .inl a
     ·exact .inr<|.inl a
  show(o5 ks (r::(z0 A++z0 B))++(plcs (zd A++zd B)++U)).Perm ([r]++(z0 A++z0 B));rw[cR,h1,iJ,zj];show((([i]++[j])++(o5 ks (z0 A)++o5 ks (z0 B)))++((plcs (zd A)++plcs (zd B))++U)).Perm _;refine C8.mpr λa=>?_;have c1:=p1.count_eq a;have c2:=p2.count_eq a;have c3:=p3.count_eq a;have c4:=I.count_eq a;have c5:=J.count_eq a;simp only[Dy] at c1 c2 c3 c4 c5 ⊢;lia
 |@cu p q A B g EB U w T hB h3 o C h6 h7 h8 I J=>
  intro n2;obtain⟨m1,m2,m3⟩:=Aq.mp<|show(z0 A++z0 B).Nodup from n2;have I:=I m1;have J:=J m2;have l:g.Nodup:=(Aq.mp (Aq.mp<|I.nodup_iff.mpr m1).2.1).2.1;have nB:EB.Nodup:=(Aq.mp (Aq.mp<|J.nodup_iff.mpr m2).2.1).2.1;have p1:=cV l h3;have p2:=cV nB o;have p3:U.Perm ((g.filter λx=>!decide (x=p))++EB.filter λx=>!decide (x=q)):=by refine(A4 h8<|Aq.mpr ⟨l.filter _,nB.filter _,λa ha b hb=>m3 a (T.sub _ (AH.mp ha).1) b<|hB.sub _ (AH.mp hb).1⟩).mpr λx=>?_;rw[h7 x,Ak,AH,AH];simp only[CQ,decide_eq_false_iff_not]
  show(o5 ks (z0 A++z0 B)++(plcs ((p,q)::(zd A++zd B))++U)).Perm (z0 A++z0 B);rw[iJ,qx,zj];show((o5 ks (z0 A)++o5 ks (z0 B))++(([p]++[q]++(plcs (zd A)++plcs (zd B)))++U)).Perm _;refine C8.mpr λa=>?_;have c1:=p1.count_eq a;have c2:=p2.count_eq a;have c3:=p3.count_eq a;have c4:=I.count_eq a;have c5:=J.count_eq a;simp only[Dy] at c1 c2 c3 c4 c5 ⊢;lia
structure dJ(wd:List<|VG):Prop where
 ne:∀(p:Nat) (e:Bool) (i j:Nat),wd[p]?=some (some<|.nd e i j)->i≠j
 un:∀(p q:Nat) (k l:Kn) (x:Nat),wd[p]?=some (some k)->wd[q]?=some (some l)->x∈ja (some k)->x∈ja (some l)->p=q
def jD{x:Nat}(h:x∈xl wd):∃(p:Nat) (k:Kn),wd[p]?=some (some k)/\x∈ja (some k):=by
 obtain⟨o,J,I⟩:=Bh.mp h;obtain⟨p,e⟩:=DF J;cases o with
 |none=>cases I
 |some k=>exact⟨p,k,e,I⟩
def yx{x:Nat}{k:Kn}(h:wd[p]?=some (some k))(I:x∈ja (some k)):x∈xl wd:=Bh.mpr ⟨_,Az h,I⟩
def SS{l:Vk}(h:(o5 ks l).Nodup)(all:∀p,p<ks.length->p∈l):dJ (ks.map some):=by
 have at_:∀{p:Nat} {k:Kn},(ks.map some)[p]?=some (some k)->ks[p]?=some k/\p∈l:=λ{p k} e=>by rw[Au] at e;obtain⟨k',U,g⟩:=AB.mp e;cases g;exact⟨U,all p<|zn U⟩
 clear all;constructor
 ·intro p e i j I;obtain⟨h1,h2⟩:=at_ I;obtain⟨a,b,rfl⟩:=Cn h2;rw[iJ,cR,h1] at h;have:=(Aq.mp (Aq.mp h).2.1).1;have:[i,j].Nodup:=this;simpa using this
 ·intro p q k m x I o r t;obtain⟨h1,h2⟩:=at_ I;obtain⟨h3,C⟩:=at_ o;by_cases c:p=q
  ·exact c
  ·exfalso;obtain⟨a,b,rfl⟩:=Cn h2;have T:q∈a++b:=by
    rcases Ak.mp C with z|z
    ·exact Ao _ z
    ·rcases Am.mp z with z|z
     ·exact absurd z.symm c
     ·exact Ag _ z
   have pm:(o5 ks<|a++p::b).Perm (ja (some k)++o5 ks (a++b)):=by rw[iJ,cR,h1,iJ];refine C8.mpr λz=>?_;simp only[Dy];lia
   have n:=pm.nodup_iff.mp h;have J:x∈o5 ks (a++b):=Bh.mpr ⟨q,T,by rw[h3];exact t⟩;exact(Aq.mp n).2.2 x r x J rfl
def yM.part{f:Vr}(r:yM f fu wd){x:Nat}{k:Kn}(h:wd[x]?=some (some k))(I:y∈ja (some k)):∃(p:Nat) (o:Kn) (a:Nat),x=f p/\fu[p]?=some (some o)/\y=f a/\a∈ja (some o):=by
 obtain⟨p,g,e,o,U,J⟩:=r.inv h;cases o with
 |none=>cases J
 |some o=>
  cases o with
  |lf t n=>cases J;cases I
  |nd b i j=>
   cases J;have I:y∈[f i,f j]:=I;rcases Am.mp I with I|I
   ·exact⟨p,_,i,e,U,I,Aj ..⟩
   ·exact⟨p,_,j,e,U,An.mp I,Ab _<|Aj ..⟩
def oQ(ok:jB fu){a:Nat}{o:Kn}(h:fu[p]?=some (some o))(I:a∈ja (some o)):a<fu.length:=by
 cases o with
 |lf t n=>cases I
 |nd e i j=>
  have:=ok p e i j h;have:=zn h;have I:a∈[i,j]:=I;rcases Am.mp I with rfl|I
  ·lia
  ·rw[An.mp I];lia
theorem yM.inj{f:Vr}(r:yM f fu wd){a b:Nat}(I:a<fu.length)(J:b<fu.length)(e:f a=f b):a=b:=r.gap.inj a (Ba.mpr I) b (Ba.mpr J) e
def dJ.ren{f:Vr}(U:dJ fu)(ok:jB fu)(r:yM f fu wd):dJ wd:=by
 constructor
 ·intro x e i j h;obtain⟨p,hp,rfl,o,J,I⟩:=r.inv h;cases o with
  |none=>cases I
  |some o=>
   cases o with
   |lf t n=>cases I
   |nd b a c=>
    cases I;have:=ok p e a c J;exactλz=>U.ne p e a c J<|r.inj (by lia) (by lia) z
 ·intro x y k l z h1 h2 hz hw;obtain⟨p,o,a,rfl,g,rfl,C⟩:=r.part h1 hz;obtain⟨q,o',b,rfl,T,eb,hb⟩:=r.part h2 hw;cases r.inj (oQ ok g C) (oQ ok T hb) eb;rw[U.un p q o o' a g T C hb]
def Fs:VG->Bool
 |some (.lf _ _)=>true
 |_=>false
def SR.leaves{E:Vk}(h:SR ks R E):(plcs<|zc R).Perm ((z0 R).filter λp=>Fs ks[p]?):=by
 induction h with
 |@link p q t n U h1 h2 h3 g l=>
  show(plcs [(p,q)]).Perm ([p,q].filter λp=>Fs ks[p]?);rw[jy,C1,C1,h2,h3];exact CD _
 |@ei r i j A o U h1 C h3 g l T h7 ih=>
  show(plcs<|zc A).Perm ((r::z0 A).filter λp=>Fs ks[p]?);rw[C1,h1];exact ih
 |@bo r i j A B o EB U h1 C hB g l T h7 I J=>
  show(plcs<|zc A++zc B).Perm ((r::(z0 A++z0 B)).filter λp=>Fs ks[p]?);rw[C1,h1,zj];show(plcs (zc A)++plcs (zc B)).Perm ((z0 A++z0 B).filter λp=>Fs ks[p]?);rw[Br];exact I.append J
 |@cu p q A B o EB U w C hB h3 g l T h7 h8 I J=>
  show(plcs<|zc A++zc B).Perm ((z0 A++z0 B).filter λp=>Fs ks[p]?);rw[zj,Br];exact I.append J
theorem sJ(f:Vr):∀lk:Vh,(plcs<|lk.map<|JL f).Perm<|(plcs lk).map f
 |[]=>CD _
 |c::r=>by
  have I:=sJ f r;rw[AJ,qx,qx,AJ,AJ];show(min (f c.1) (f c.2)::max (f c.1) (f c.2)::_).Perm _;by_cases h:f c.1<=f c.2
  ·rw[BO h,Cj h];exact(I.cons _).cons _
  ·rw[Cg (by lia),Cs (by lia)];exact((I.cons _).cons _).trans (List.Perm.swap _ _ _)
theorem mI(f:Vr):∀ct:Vh,plcs (ct.map<|JM f)=(plcs ct).map f
 |[]=>rfl
 |c::r=>by rw[AJ,qx,qx,AJ,AJ,mI f r];rfl
theorem cH{f:Vr}:∀{l:Vk},l.Nodup->(∀a∈l,∀b∈l,f a=f b->a=b)->(l.map f).Nodup
 |[],_,_=>CW
 |a::r,h,g=>by obtain⟨h1,h2⟩:=Av.mp h;rw[AJ,Av];refine⟨λz=>?_,cH h2 λx J y U=>g x (Ab _ J) y<|Ab _ U⟩;obtain⟨b,I,e⟩:=BX.mp z;exact h1<|g b (Ab _ I) a (Aj ..) e▸I
def bv(f:Vr):Ru->Ru
 |.link p q=>.link (min (f p)<|f q)<|max (f p)<|f q
 |.ei r A=>.ei (f r)<|bv f A
 |.bo r A B=>.bo (f r) (bv f A)<|bv f B
 |.cu p q A B=>.cu (f p) (f q) (bv f A)<|bv f B
theorem fF(f:Vr):∀R:Ru,(z0<|bv f R).Perm<|(z0 R).map f
 |.link p q=>by
  show [min (f p)<|f q,max (f p)<|f q].Perm [f p,f q];by_cases h:f p<=f q
  ·rw[BO h,Cj h]
  ·rw[Cg (by lia),Cs (by lia)];exact List.Perm.swap _ _ _
 |.ei r A=>(fF f A).cons _
 |.bo r A B=>by show(f r::(z0 (bv f A)++z0 (bv f B))).Perm (f r::(z0 A++z0 B).map f);rw[AI];exact((fF f A).append<|fF f B).cons _
 |.cu p q A B=>by show(z0 (bv f A)++z0 (bv f B)).Perm ((z0 A++z0 B).map f);rw[AI];exact(fF f A).append (fF f B)
def l6{x:Nat}{k:Kn}(h:(ks.map some)[x]?=some (some k)):ks[x]?=some k:=by rw[Au] at h;obtain⟨I,e,z⟩:=AB.mp h;cases z;exact e
structure TrO(ks:VE)(R:Ru)(E:Vk):Prop where
 ok:dR ks
 sr:SR ks R E
 nd:(z0 R).Nodup
 len:ks.length<=96
def df:Ru->List Ru
 |.link p q=>[.link p q]
 |.ei r A=>.ei r A::df A
 |.bo r A B=>.bo r A B::(df A++df B)
 |.cu p q A B=>.cu p q A B::(df A++df B)
def se(A:Ru):df A=A::(aD A).flatMap df:=by cases A<;>simp[df,aD]
end L3
namespace TS
open PySem PyProof.Rows PySem.W
section
variable {w:Vw}
end
end TS
namespace L2
open PySem PySem.Spec PyProof.Rows
end L2
namespace L3
open PySem L2
open PySem L2 Words
def yb(l:Vk):nY l=(l.map λn:Nat=>(n:Int)).map Y.int:=by unfold nY;rw[Cu];rfl
theorem pW{L:qk}:∀xs:Vo,Paired (x9 L 0) (xs.map Y.int)<|xs.map λx=>Da.s<|.int x
 |[]=>.nil
 |_::r=>.cons ⟨rfl,rfl⟩<|pW r
def KW.ex{w:Wd}(h:KW (jr wd) p w):∃k,wd[p]?=some (some k):=by cases w with|leaf t n=>exact⟨_,h.inv_lf⟩|node e l r=>obtain⟨i,j,a,_⟩:=h.inv_nd;exact⟨_,a⟩
def j_(ks:VE)(T:Vk):List (VG):=(List.range ks.length).map λp=>if p∈T then ks[p]? else none
def yY(ks:VE)(T:Vk):(j_ ks T).length=ks.length:=by unfold j_;rw[Af,B1]
def wS{T:Vk}(I:p<ks.length):(j_ ks T)[p]?=some (if p∈T then ks[p]? else none):=by unfold j_;rw[Au,DJ I];rfl
def SU{T:Vk}{k:Kn}(J:p∈T)(I:ks[p]?=some k):(j_ ks T)[p]?=some (some k):=by rw[wS<|zn I,AA J,I]
def SV{T:Vk}{k:Kn}(h:(j_ ks T)[p]?=some (some k)):p∈T/\ks[p]?=some k:=by
 have I:p<ks.length:=by rw[<-yY ks T];exact zn h
 rw[wS I] at h;by_cases c:p∈T
 ·rw[AA c] at h;exact⟨c,Be h⟩
 ·rw[Ay c] at h;cases h
def SW{T:Vk}(h:∀p,p<ks.length->p∈T):j_ ks T=ks.map some:=by
 refine Dx λp=>?_;by_cases c:p<ks.length
 ·rw[wS c,AA<|h p c,Au,Al c];rfl
 ·rw[BJ (by rw[yY];lia),BJ (by rw[Af];lia)]
section
variable {E:Vk}
def TrO.prts(T:TrO ks R E){x:Nat}:x∈xl (j_ ks<|z0 R)↔x∈o5 ks (z0 R):=by
 constructor
 ·intro h;obtain⟨p,k,h1,h2⟩:=jD h;obtain⟨a,b⟩:=SV h1;exact Bh.mpr ⟨p,a,by rw[b];exact h2⟩
 ·intro h;obtain⟨p,I,J⟩:=Bh.mp h;have e:=Al<|T.sr.lt p I;rw[e] at J;exact yx (SU I e) J
theorem TrO.ends(T:TrO ks R E)(x:Nat):x∈E↔x∈z0 R/\x∉xl (j_ ks<|z0 R)/\x∉plcs (zd R):=by
 have P:=T.sr.part T.nd;have N:=P.nodup_iff.mpr T.nd;obtain⟨g,I,J⟩:=Aq.mp N;obtain⟨j,l,U⟩:=Aq.mp I;rw[T.prts];constructor
 ·intro h;exact⟨T.sr.sub x h,λz=>J x z x (Ag _ h) rfl,λz=>U x z x h rfl⟩
 ·rintro⟨a,b,c⟩;rcases Ak.mp (P.mem_iff.mpr a) with z|z
  ·exact absurd z b
  ·rcases Ak.mp z with z|z
   ·exact absurd z c
   ·exact z
def SR.rls(h:SR ks R E):∀B∈df R,(∃EB,SR ks B EB)/\(∀x∈z0 B,x∈z0 R)/\(z0 B).Sublist (z0 R)/\v5 B<=v5 R/\(∀c∈zd B,c∈zd R):=by
 induction h with
 |link h1 h2 h3 U g=>
  intro B J;cases An.mp J;exact⟨⟨_,.link h1 h2 h3 U g⟩,λ_ h=>h,Cy _,Ap _,λ_ h=>h⟩
 |@ei r i j A EA E h1 t h3 U g T h7 ih=>
  intro B J;rcases Am.mp J with rfl|J
  ·exact⟨⟨_,.ei h1 t h3 U g T h7⟩,λ_ h=>h,Cy _,Ap _,λ_ h=>h⟩
  ·obtain⟨a,b,c,d,e⟩:=ih B J;exact⟨a,λx h=>Ab _<|b x h,c.cons _,BV d,e⟩
 |@bo r i j A B EA EB E h1 t J U g T h7 l o=>
  intro C I;rcases Am.mp I with rfl|I
  ·exact⟨⟨_,.bo h1 t J U g T h7⟩,λ_ h=>h,Cy _,Ap _,λ_ h=>h⟩
  ·rcases Ak.mp I with I|I
   ·obtain⟨a,b,c,d,e⟩:=l C I;exact⟨a,λx h=>Ab _<|Ao _<|b x h,(c.trans<|Ek ..).cons _,by show _<=max (v5 A) (v5 B)+1;lia,λx h=>Ao _<|e x h⟩
   ·obtain⟨a,b,c,d,e⟩:=o C I;exact⟨a,λx h=>Ab _<|Ag _<|b x h,(c.trans<|C2 ..).cons _,by show _<=max (v5 A) (v5 B)+1;lia,λx h=>Ag _<|e x h⟩
 |@cu p q A B EA EB E w t J h3 U g T h7 h8 l o=>
  intro C I;rcases Am.mp I with rfl|I
  ·exact⟨⟨_,.cu t J h3 U g T h7 h8⟩,λ_ h=>h,Cy _,Ap _,λ_ h=>h⟩
  ·rcases Ak.mp I with I|I
   ·obtain⟨a,b,c,d,e⟩:=l C I;exact⟨a,λx h=>Ao _<|b x h,c.trans<|Ek ..,by show _<=max (v5 A) (v5 B)+1;lia,λx h=>Ab _<|Ao _<|e x h⟩
   ·obtain⟨a,b,c,d,e⟩:=o C I;exact⟨a,λx h=>Ag _<|b x h,c.trans<|C2 ..,by show _<=max (v5 A) (v5 B)+1;lia,λx h=>Ab _<|Ag _<|e x h⟩
theorem aw:∀{R A B:Ru},A∈df R->B∈df A->B∈df R
 |.link p q,A,B,h1,h2=>by cases An.mp h1;exact h2
 |.ei r C,A,B,h1,h2=>by
  rcases Am.mp h1 with rfl|h1
  ·exact h2
  ·exact Ab _<|aw h1 h2
 |.bo r C D,A,B,h1,h2=>by
  rcases Am.mp h1 with rfl|h1
  ·exact h2
  ·rcases Ak.mp h1 with h1|h1
   ·exact Ab _<|Ao _<|aw h1 h2
   ·exact Ab _<|Ag _<|aw h1 h2
 |.cu p q C D,A,B,h1,h2=>by
  rcases Am.mp h1 with rfl|h1
  ·exact h2
  ·rcases Ak.mp h1 with h1|h1
   ·exact Ab _<|Ao _<|aw h1 h2
   ·exact Ab _<|Ag _<|aw h1 h2
def gw(A:Ru):A∈df A:=by rw[se];exact Aj ..
def SX{A B:Ru}(h:B∈aD A):B∈df A:=by rw[se];exact Ab _<|Bh.mpr ⟨B,h,gw B⟩
end
def kF:RD "_law_stir" kM 0 ["_law_script","_law_total","_law_k","_law_cell"] (λ_=>True):=⟨_,λV B c _ _ _ _ _ _ _ I hN J=>(qa (S_ 1 hN qd)<|qa (ky ya rfl (mC rfl B.bp<|qv 0) (ku (n:=2) rfl<|qz (G_ 2 hN)<|qz (G_ 3 hN) xi)<|qg<|S_ 1 hN<|qm js (qm ju (qm ju (qm ju (qm iI (qv 1) qd)<|qm js (qv 3) qd)<|qv 2) qd) qd)<|qg<|zb<|qv 1)⟩
def kG:RD "_law_pick" kC 0 ["_law_stir_here","_law_factor"] (λ_=>True):=⟨_,λV B c _ _ _ _ _ _ _ I hN J=>(qg<|zb<|qm vf (qm js (qm iI (qv 0)<|qv 1) qd) qd)⟩
def lB(J:kh)(U:kh)(I:kh):RD "_law_sown" kR 172 ["_law_script","_law_stir_here","_law_wide","_law_room"] (λV=>FV V J/\IX V U/\IP V I):=⟨_,λV B c _ _ _ _ _ _ _ g hN j=>(qa (S_ 3 hN<|qm ju qd<|qm js (C_ c.1 g<|v9 (qv 1) qd) qd)<|xw (zr (E_ j (qm js (C_ c.1 g<|v9 (qv 1) qd) qd) qd) (qg<|S_ 3 hN<|qv 2) za)<|qg<|zb<|C_ c.2.1 g<|bQ (aC (qC _ _ _) (qv 0) (aV qd) bW) (qm js (C_ c.2.2 g<|v9 (qv 0) qd) qd)<|qv 3)⟩
inductive mB(ys:List Y)(L:qk)(Q:YK):Prop
 |mk:∀ns:Vo,(ys=[.sq<|ns.map Y.int])->(∀v:Int,Q (.int v) L)->mB ys L Q
def SY:∀ys L Q,mB ys L Q->vd kF.1 4 ys L Q:=by
 rintro ys L Q ⟨l,rfl,q⟩;refine kc ⟨λ_ I J=>∃v U g,I=[some<|.sq<|l.map Y.int,some<|.int v,U,g]/\J=L,⟨1,_,_,rfl,rfl⟩,λ_ _ _ _=>True.intro,?_,?_⟩
 ·rintro i y I J o ⟨v,U,g,rfl,rfl⟩;obtain⟨z,j,rfl⟩:=hG o;rw[Au] at j;obtain⟨z,p,rfl⟩:=AB.mp j;exact⟨.inr ⟨by decide,by decide⟩,(by decide:(0:Int)<1000003),(by decide:(0:Int)<2147483647),_,EK _,_,_,_,rfl,rfl⟩
 ·rintro I J ⟨v,U,g,rfl,rfl⟩;exact xa<|q v
inductive dI(ys:List Y)(L:qk)(Q:YK):Prop
 |mk:∀s f:Int,(ys=[.int s,.int f])->(0<f)->(f<1000000000)->(∀v,0<=v->v<134217728->Q (.int v) L)->dI ys L Q
def S0:∀ys L Q,dI ys L Q->vd kG.1 2 ys L Q:=by
 rintro ys L Q ⟨s,f,rfl,h0,h1,q⟩;refine⟨.inr ⟨by omega,by omega⟩,(by decide:(0:Int)<2147483629),⟨by decide,by decide⟩,xa<|q _ ?_ ?_⟩
 all_goals
  generalize s*f=z;omega
structure iz(ks:VE)(R:Ru)(E:Vk):Prop where
 ok:dR ks
 sr:SR ks R E
 tp:(z0 R).Perm (List.range ks.length)
 len:ks.length<=96
def S5(I:Vo)(lo hi:Vq):∃ms:Vo,gD (I.map Y.int) lo hi=ms.map Y.int/\ms.length<=I.length:=by unfold gD;refine⟨(I.drop<|HT.sIx (I.map Y.int).length 0 lo).take<|HT.sIx (I.map Y.int).length (I.map Y.int).length hi-HT.sIx (I.map Y.int).length 0 lo,by rw[EJ,List.map_drop],?_⟩;rw[AZ,BF];lia
inductive lu(ys:List Y)(L:qk)(Q:YK):Prop
 |mk:∀ns:Vo,∀s:Int,∀w:Nat,∀wi:Int,(ys=[.sq<|ns.map Y.int,.int s,.int wi])->(wi=(w:Int))->(ns.length<=63)->(w<=96)->(∀ka ks R E L',qh L L'->L ka=none->L' ka=some (.lst<|vh ks)->iz ks R E->Q (.tup [.ref ka,j8 R]) L')->lu ys L Q
def S6:∀ys L Q,lu ys L Q->vd (lB dI gp cj).1 4 ys L Q:=by
 rintro ys L Q ⟨I,s,w,wi,rfl,rfl,hn,hw,q⟩;refine⟨s,774511,rfl,by decide,by decide,λv v0 _=>⟨(by decide:(0:Int)<37),?_⟩⟩;refine⟨λg j=>∃r:Nat,r<=96/\g=[some<|.sq<|I.map Y.int,some<|.int s,some<|.int (w:Int),some<|.int (r:Int)]/\j=L,?_,?_⟩
 ·refine⟨s,31337,rfl,by decide,by decide,λu _ _=>⟨(by decide:(0:Int)<8),zk (λ_=>⟨w,hw,rfl,rfl⟩) λ_=>⟨(24+v % 37).toNat,by lia,?_,rfl⟩⟩⟩;rw[show(((24+v % 37).toNat:Nat):Int)=24+v % 37 by lia];rfl
 ·rintro g j ⟨r,o,rfl,rfl⟩ pm J;obtain⟨p,U,t⟩:=S5 I (some 1) none;rw[U];exact⟨I,0,rfl,by decide,λc=>⟨(by decide:(0:Int)<1000000000),pm,p,_,r,rfl,q9,by lia,o,λC T R E l ok sr tp hl=>xa<|q C T R E _ ((By J).trans<|By l) (bO l) q9 ⟨ok,sr,tp,by lia⟩⟩⟩
open PySem L2 PyProof.Rows
end L3
namespace L2
open PySem PySem.Spec PyProof.Rows
def S7(neg:Bool)(p:X.A.units+128<cLine):wn X (compareOp<|if neg then .NotIn else .In) (λx y H Q=>∃a kvs k,y=.ref a/\H a=some (.dK kvs)/\x=kV k/\Q (.bl<|if neg then !(bT kvs k).isSome else(bT kvs k).isSome) H):=by intro U s r H x y v u Q I g j ⟨a,kvs,k,l,e,ex,q⟩;subst ex l;cases (show u=Value.ref a from j);cases neg with|false=>exact ND (by omega) I (qZ.k e) g λo J=>⟨.bl _,H,J,rfl,q⟩|true=>exact NE (by omega) I (qZ.k e) g λo J=>⟨.bl _,H,J,rfl,q⟩
def uF:jg X (.builtin "len") (λxs H Q=>∃a kvs,xs=[.ref a]/\H a=some (.dK kvs)/\Q (.int kvs.length) H):=by intro J s j H xs l Q I r ⟨a,kvs,ex,e,q⟩;subst ex;obtain⟨u,rfl,U⟩:=lL r;cases U;exact NF I (.inl e) λt o g=>⟨.int _,H,g,⟨t,rfl⟩,q⟩
end L2
namespace L3
open PySem L2
def zK{xs:List<|j9×V}(p:Paired (λ(p:j9×Y) (q:j9×V)=>p.1=q.1/\RV G H p.2 q.2) kvs xs)(k:j9):(bT xs k).isSome=(ve kvs k).isSome:=by
 unfold bT ve;rw[CO,CO]
 induction p with
 |nil=>rfl
 |@cons a b _ _ r t I=>
  rw[BE,BE,r.1];cases decide (b.1=k) with|true=>rfl|false=>exact I
def Ft(neg:Bool)(x y:Y)(L:qk)(Q:YK):Prop:=match y,Gh x with
 |.ref a,some k=>oo L a λkvs=>Q (.bl<|nb neg (ve kvs k).isSome) L
 |_,_=>False
def JP(neg:Bool)(j:X.A.units+128<cLine):wn X (compareOp<|if neg then .NotIn else .In) (gQ X.g3<|Ft neg):=wn.imq (S7 neg j) λx y H Q C T L Q3 l o g z k=>by
 unfold Ft at z;split at z
 ·rename_i a I p;obtain⟨J,e,z⟩:=dg z;obtain⟨U,r,t⟩:=g a _ e;refine⟨a,U,I,o,r,oV p l,?_⟩;have:(if neg=true then !(bT U I).isSome else(bT U I).isSome)=nb neg (ve J I).isSome:=by rw[zK t];cases neg<;>simp[nb]
  rw[this];exact k _ H _ L (EL _) g (by rfl) z
 ·exact z.elim
def S8(I:X.A.units+128<cLine):wn X (compareOp .In) (gQ X.g3<|Ft false):=JP false I
def S9(I:X.A.units+128<cLine):wn X (compareOp .NotIn) (gQ X.g3<|Ft true):=JP true I
def Hq(xs:List Y)(L:qk)(Q:YK):Prop:=match xs with
 |[.ref a]=>oo L a λkvs=>Q (.int kvs.length) L
 |_=>False
theorem anr :jg X (.builtin "len") (b_ X.g3 Hq):=EY uF λp H Q r L t J I z k=>by
 unfold Hq at z;split at z
 ·rename_i a;obtain⟨u,rfl,U⟩:=J.inv1;obtain⟨g,e,z⟩:=dg z;obtain⟨j,l,o⟩:=I a _ e;cases (show u=V.ref a from U);refine⟨a,j,rfl,l,?_⟩;rw[<-uE o];exact k _ H _ L (EL _) I (by rfl) z
 ·exact z.elim
def JQ(xs:List Y)(L:qk)(Q:YK):Prop:=match xs with
 |[.ref a]=>fU L a λys=>Q (.tup ys) L
 |_=>False
theorem Ta :jg X (.type "tuple") (b_ X.g3 JQ):=EY oj λt H Q C L T g J z k=>by
 unfold JQ at z;split at z
 ·rename_i a;obtain⟨u,rfl,j⟩:=g.inv1;obtain⟨o,e,z⟩:=w6 z;obtain⟨U,p,r⟩:=J a _ e;cases (show u=V.ref a from j);exact⟨a,U,rfl,.inl ⟨.inl<|.inl p,λl I=>k _ _ (.tup o) L (EN I) (J.skip I) ⟨l,U,rfl,.inl<|.inl zg,r.ts<|EN I⟩ z⟩⟩
 ·exact z.elim
open PySem L2 Words
def plR:Ru->Vk
 |.link p q=>[p,q]
 |.ei r _=>[r]
 |.bo r _ _=>[r]
 |.cu p q _ _=>[p,q]
def tG(A:Ru):0<v5 A:=by cases A<;>simp[v5]
structure UsI(us:Vk)(kvs:List<|j9×Y):Prop where
 val:∀x:Nat,(ve kvs<|.inl (x:Int)).isSome=decide (x∈us)
 len:kvs.length<=us.length
def UsI.nil:UsI [] []:=⟨λ_=>rfl,Ap _⟩
def UsI.put{us:Vk}(h:UsI us kvs)(x:Nat)(y:Y):UsI (us++[x]) (dU kvs (.inl (x:Int)) y):=by
 refine⟨λz=>?_,?_⟩
 ·rw[nM];by_cases e:z=x
  ·subst e;rw[AA rfl,AK<|Ag _<|An.mpr rfl];rfl
  ·rw[Ay λq=>e<|BP.mp<|Fj q,h.val];refine decide_eq_decide.mpr ⟨λq=>Ao _ q,λq=>?_⟩;rcases Ak.mp q with q|q
   ·exact q
   ·exact absurd (An.mp q) e
 ·have:=bK kvs (.inl (x:Int)) y;have:=h.len;rw[Ad];show _<=us.length+1;lia
def Tb{k:VG}(h:wd[i]?=some k):dW (jr wd) (0+(i:Int))=some (oR k):=by rw[B3];exact v4 h
def Tc(Pt:Addr)(I:kh):a9:=(zm (x8 (jT jn)<|qp 2)
 (zm (oh (IG<|qf 0) (lK 2<|vj (qp 3)<|vj (qp 4) gu) (zm (x8 (vg FO (xm I<|qo (qf 1)<|cB (qf 3)<|fQ 39373)<|fQ 40)<|qp 5)
 (qH (am (m_ (rV 4)<|fQ 3) (x8 (vg gE (vg gE (qf 5)<|fQ 1)<|cI m9<|qo (vg fM (qf 2)<|fP 4 1)<|qo (vg fM (qf 2)<|fP 4 2) jn)<|qp 5) wm)
 (kj<|jP jt (qf 2)<|bL<|qf 5))))
 (aY<|JI Pt lamQ 2<|uc<|rV 0)))
inductive fE(Pt:Addr)(ys:List Y)(L:qk)(Q:YK):Prop
 |mk:∀a,∀ks:VE,∀s:Int,(ys=[.ref a,.int s])->(L a=some (.lst<|vh ks))->(jB<|ks.map some)->(ks.length<=127)->(L Pt=some (.tb lamQ))->(∀D qs,L D=none->qs.Perm (List.range (ks.map some).length)->cf (ks.map some) qs->Q (.ref D) (qi L D<|.lst<|nY qs))->fE Pt ys L Q
def Td :∀ys L Q,fE Pt ys L Q->vd (Tc Pt ij) 6 ys L Q:=by
 rintro ys L Q ⟨a,ac,s,rfl,ha,ok,hz,hP,q⟩;obtain⟨g,U⟩:∃g,g=ac.map some:=⟨_,rfl⟩;rw[<-eE,<-U] at ha;rw[<-U] at ok q;have hz:g.length<=127:=by rw[U,Af];exact hz
 have all:∀i,g[i]?≠some none:=λi e=>by rw[U,Au] at e;obtain⟨_,_,z⟩:=AB.mp e;cases z
 have big:=a_;intro J I;have s0:qh L (qi L J<|.lst []):=By I;have a3:a≠J:=aP ha I;refine wb (s0 _ _ ha) λkeep kp=>kc ⟨λi τ l=>∃rks:Vo,∃c3 c4 c5,τ=[some<|Y.ref a,some<|.int s,some<|Y.ref J,c3,c4,c5]/\l=qi L J (.lst<|rks.map Y.int)/\rks.length=i/\aa6 g rks,⟨[],_,_,_,rfl,rfl,rfl,λp _ _ _ hp=>by cases hp⟩,?_,?_,?_⟩
 ·rintro i τ l ⟨rks,c3,c4,c5,rfl,rfl,_⟩;exact kp _ (by rw[qc a3,qc a3])
 ·rintro i y τ l hy ⟨rks,c3,c4,c5,rfl,rfl,C,T⟩;obtain⟨z,ez,rfl⟩:=hG hy;rw[Au] at ez;obtain⟨k,ek,rfl⟩:=AB.mp ez;have hi:=zn ek;refine⟨s,i,39373,rfl,by exact A3 _,by omega,by decide,by decide,λv h0 h1=>?_⟩;have m0:(0:Int)<=v % 40:=ED _ (by decide);have a4:(rks.map Y.int).length=i:=by rw[Af];exact C
  refine⟨show(0:Int)<40 by decide,λa5 l=>∃r:Int,a5=[some<|Y.ref a,some<|.int s,some<|Y.ref J,some<|.int (i:Nat),some<|oR k,some<|.int r]/\l=qi L J (.lst<|rks.map Y.int)/\∀e i j,k=some (.nd e i j)->rks.getD i 0<r/\rks.getD j 0<r,?_,?_⟩
  ·cases k with
   |none=>exact absurd ek<|all i
   |some k=>
    cases k with
    |lf t n=>exact⟨v % 40,rfl,rfl,λe i j z=>by cases z⟩
    |nd e p1 p2=>
     obtain⟨l1,l2⟩:=ok _ _ _ _ ek;have g1:=jx<|tw (rks:=rks) (i:=p1) (by lia);have g2:=jx<|tw (rks:=rks) (i:=p2) (by lia);refine qb q9<|qj g1 ?_;refine qb q9<|qj g2 ?_;refine⟨v % 40+1+max (rks.getD p1 0) (rks.getD p2 0),rfl,rfl,λe' i' j' z=>?_⟩;cases z;have a1:rks.getD p1 0<=max (rks.getD p1 0) (rks.getD p2 0):=Int.le_max_left ..;have a2:rks.getD p2 0<=max (rks.getD p1 0) (rks.getD p2 0):=Int.le_max_right ..;constructor<;>lia
  ·rintro a5 l ⟨r,rfl,rfl,hr⟩;refine qb q9 (qr q9 ⟨by rw[a4];exact big _ (by lia),?_⟩);refine⟨_,EK _,rks++[r],_,_,_,rfl,?_,by rw[Ad,C];rfl,aa6.snoc ok T (by rw[C];exact ek) hr⟩;rw[zq,AI];rfl
 ·rintro τ l ⟨rks,c3,c4,c5,rfl,rfl,C,T⟩;rw[pi,Af] at C;have s1:qh L (qi L J<|.lst<|rks.map Y.int):=By I;refine qb (s1 _ _ ha) ?_;have lo:(jr g).length=g.length:=Af ..;refine⟨⟨A3 _,by rw[lo];lia⟩,λp hp=>qr q9 ?_⟩;have al:J≠p:=aP q9 hp;have au:Pt≠p:=aP (s1 _ _ hP) hp;have av:Pt≠J:=aP hP I;refine⟨g.length,rks,J,by rw[BB,lo],rfl,(qc al).trans q9,C,hz,(qc au).trans<|(qc av).trans hP,λD qs hD pm pw=>?_⟩;have ax:=bO hD;have aL:=bO ax;refine⟨qi L D<|.lst<|nY qs,λb o e=>?_,q D qs aL pm<|SG ok T C pw⟩;by_cases c:b=D
  ·subst c;rw[q9] at e ⊢;exact e
  ·rw[qc c] at e ⊢;rw[qc (λz=>by subst z;rw[bO hp] at e;cases e),qc (λz=>by subst z;rw[I] at e;cases e)];exact e
def mM(y:Y)(l:List Y):gD (y::l) (some 1) none=l:=by
 unfold gD;have e:HT.sIx (y::l).length 0 (some 1)=1:=by show min 1 (l.length+1)=1;lia
 rw[e];show(l.take<|l.length+1-1)=l;rw[Nat.add_sub_cancel,Bz]
def rq(y:Y)(l:List Y):¬(HT.sIx (y::l).length 0 (some 1)=0/\HT.sIx (y::l).length (y::l).length none=(y::l).length):=λz=>by
 have e:HT.sIx (y::l).length 0 (some 1)=1:=by show min 1 (l.length+1)=1;lia
 rw[e] at z;exact absurd z.1 (by decide)
def FY:Ru->Str
 |.link _ _ => "link"
 |.ei _ _ => "either"
 |.bo _ _ _ => "both"
 |.cu _ _ _ _ => "cut"
def iY(A:Ru):j8 A=.tup (.str (FY A)::(nY (plR A)++(aD A).map j8)):=by cases A<;>rfl
inductive bC(n:Nat)(ys:List Y)(L:qk)(Q:YK):Prop
 |mk:∀R:Ru,∀d,∀kvs:List (j9×Y),∀f:Vr,(ys=[j8 R,.ref d])->(L d=some (.dct kvs))->((∀B∈df R,∀x∈plR B,ve kvs (.inl (x:Int))=some (.int (f x:Int))))->(v5 R<=n)->(Q (j8<|bv f R) L)->bC n ys L Q
def Te:∀ys L Q,¬bC 0 ys L Q:=by rintro ys L Q ⟨A,_,_,_,_,_,_,h,_⟩;have:=tG A;lia
def rN{P:Vk}{As:List Ru}{y:Y}(h:(nY P++As.map j8)[i]?=some y):(i<P.length/\∃x,P[i]?=some x/\y=.int (x:Int))\/(P.length<=i/\∃B,As[i-P.length]?=some B/\y=j8 B):=by
 by_cases c:i<P.length
 ·rw[AE (by rw[dE];exact c)] at h;exact .inl ⟨c,JG h⟩
 ·rw[AN (by rw[dE];lia),dE,Au] at h;obtain⟨B,e,z⟩:=AB.mp h;exact .inr ⟨by lia,B,e,z.symm⟩
def SR.pl{E:Vk}(h:SR ks R E):∀B∈df R,∀x∈plR B,x<ks.length:=λB J x I=>by
 obtain⟨⟨o,s⟩,_⟩:=h.rls B J;have l:=s.lt;cases s with
 |link=>exact l x I
 |ei=>rw[An.mp I];exact l _<|Aj ..
 |bo=>rw[An.mp I];exact l _<|Aj ..
 |cu U g h3 j=>
  rcases Am.mp I with rfl|I
  ·exact l _<|Ao _<|U.sub _ h3
  ·rw[An.mp I];exact l _<|Ag _<|g.sub _ j
def fk(I:kh):RR "_law_gather" fh 1 ["_law_rule","_law_links","_law_cuts"] ["_law_rule","_law_links","_law_cuts","_law_arm"] I (λ_=>True):=⟨_,λV B c _ _ J _ _ _ _ _ _ g hN U=>(xw (zr (E_ U (J_ 0) jv) (qg<|zf<|ze (qv 1)<|xn<|zh<|v9 (J_ 0)<|J_ 0) za)<|xw (zr (E_ U (J_ 0) jv) (qg<|zf<|ze (qv 2)<|xn<|zh<|v9 (J_ 0)<|J_ 0) za)<|qg<|ky ya rfl (rC<|aC (Ho _ _ _) (qv 0) (aV qd) bW) (G_ 3 hN)<|qg<|zr (aB<|wo .tuple rfl B.bg rfl B.b_tuple db<|qv 3) (qg<|zf<|C_ J g<|bQ (qv 3) (qv 1)<|qv 2) za)⟩
def JR(I:kh):RD "_law_web" nX 121 ["_law_tree_here","_law_links","_law_cuts"] (λV=>IY V I):=⟨_,λV B c _ _ _ _ _ _ _ J hN U=>(qa (S_ 1 hN<|jm wg)<|qa (S_ 2 hN<|jm wg)<|qa (zf<|C_ c J<|bQ (J_ 0) (qv 1)<|qv 2)<|qg<|zb<|zh<|bQ (vt ko rfl B.bf vk<|xn<|J_ 0) (jj eh rfl B.bj az<|xn<|qv 1)<|jj eh rfl B.bj az<|xn<|qv 2)⟩
abbrev ai(L:qk)(l c:Addr)(lk ct:Vg):qk:=qi (qi L l<|.lst<|qt lk) c<|.lst<|qt ct
def Hr{c:Addr}(h:l≠c):ai L l c lk ct l=some (.lst<|qt lk):=(qc h).trans q9
def Tf{c:Addr}(h:l≠c):qi (ai L l c lk ct) l (.lst<|qt fx)=ai L l c fx ct:=by unfold ai;rw[ar<|AG h,zq]
def y4{c:Addr}(h:l≠c):ai (ai L l c lk ct) l c fx ln=ai L l c fx ln:=by show qi (qi (ai L l c lk ct) l _) c _=_;rw[Tf h,zq]
def Tg{c:Addr}(h1:L l=some (.lst<|qt lk))(h2:L c=some (.lst<|qt ct)):ai L l c lk ct=L:=by unfold ai;rw[im h1,im h2]
inductive aQ(n:Nat)(ys:List Y)(L:qk)(Q:YK):Prop
 |mk:∀R:Ru,∀l c,∀lk ct:Vh,(ys=[j8 R,.ref l,.ref c])->(L l=some (.lst<|qt lk))->(L c=some (.lst<|qt ct))->(l≠c)->(v5 R<=n)->(lk.length+gh R<=127)->(ct.length+gh R<=127)->(Q .non<|ai L l c (lk++zc R)<|ct++zd R)->aQ n ys L Q
def zS:∀ys L Q,¬aQ 0 ys L Q:=by rintro ys L Q ⟨A,_,_,_,_,_,_,_,_,h,_⟩;have:=tG A;lia
def Th(R:Ru):(tU R).length<=1/\(wN R).length<=1:=by cases R<;>simp[tU,wN]
theorem kn:∀R:Ru,(zc R).length+(zd R).length<=gh R
 |.link _ _=>Ap _
 |.ei _ A=>by have:=kn A;show _<=gh A+1;exact BV this
 |.bo _ A B=>by have:=kn A;have:=kn B;show(zc A++zc B).length+(zd A++zd B).length<=gh A+gh B+1;rw[Ad,Ad];lia
 |.cu p q A B=>by have:=kn A;have:=kn B;show(zc A++zc B).length+((p,q)::(zd A++zd B)).length<=gh A+gh B+1;rw[Ad,AF,Ad];lia
def Ti{As:List Ru} :((As.take j).flatMap zc).length<=((As.take j).map gh).sum/\((As.take j).flatMap zd).length<=((As.take j).map gh).sum:=by
 generalize As.take j=I
 induction I with
 |nil=>exact⟨Ap _,Ap _⟩
 |cons B r J=>
  have:=kn B;rw[Bq,Bq,Ad,Ad,AJ,EH];lia
def Tj{l:Vk}{x:Nat}(h:l[j]?=some x):(l.take j).sum+x<=l.sum:=by
 obtain⟨I,e⟩:=AL.mp h;have:l=l.take j++x::l.drop (j+1):=by rw[<-e,CK,A8]
 have:=BM List.sum this;rw[List.sum_append,EH] at this;lia
theorem Tk(n:Nat):∀ys L Q,aQ (n+1) ys L Q->vd (fk<|aQ n).1 4 ys L Q:=by
 rintro ys L Q ⟨R,l,c,lk,U,rfl,C,hc,ne,hr,hz,hy,q⟩;have big:=a_;have pl:∀l:Vh,(qt l).length=l.length:=λl=>Af ..;have rz:=SJ R;have same:ai L l c (lk++[]) (U++[])=L:=by rw[AC,AC];exact Tg C hc
 refine⟨λI J=>I=[some<|j8 R,some<|.ref l,some<|.ref c,none]/\J=ai L l c (lk++tU R) (U++[]),?_,?_⟩
 ·cases R with|link p s=>exact qr C (qr C ⟨by rw[pl];exact big _ (by lia),rfl,by rw[AC];unfold ai;rw[ar ne,im hc];exact BM (λz=>qi L l<|.lst z)<|vz lk (p,s)⟩)|ei r A=>exact⟨rfl,same.symm⟩|bo r A B=>exact⟨rfl,same.symm⟩|cu p s A B=>exact⟨rfl,same.symm⟩
 rintro I L1 ⟨rfl,rfl⟩;refine⟨λI J=>I=[some<|j8 R,some<|.ref l,some<|.ref c,none]/\J=ai L l c (lk++tU R) (U++wN R),?_,?_⟩
 ·cases R with|link p s=>exact⟨rfl,rfl⟩|ei r A=>exact⟨rfl,rfl⟩|bo r A B=>exact⟨rfl,rfl⟩|cu p s A B=>exact qr q9 (qr q9 ⟨by rw[pl,AC];exact big _ (by lia),rfl,by rw[AC,zq];exact BM (λz=>qi _ c<|.lst z)<|vz U (p,s)⟩)
 rintro I L1 ⟨rfl,rfl⟩;have va:∀B∈aD R,v5 B<=n:=λB hB=>by have:=qB hB;lia
 have lp:(plR R).length<=2:=by cases R<;>simp[plR]
 have ol:=Th R;rw[vK,SI,<-Ar,<-Ar] at q;have l1:(lk++tU R).length<=lk.length+1:=by rw[Ad];lia
 have l2:(U++wN R).length<=U.length+1:=by rw[Ad];lia
 rw[iY R];generalize lk++tU R=mH at q l1 ⊢;generalize U++wN R=g at q l2 ⊢;generalize plR R=P at lp ⊢;generalize aD R=As at va rz q ⊢;generalize FY R=T;have ll:(nY P++As.map j8).length=P.length+As.length:=by rw[Ad,dE,Af]
 refine⟨rq _ _,?_⟩;rw[mM];refine kc ⟨λi I J=>∃o,I=[some<|.tup<|.str T::(nY P++As.map j8),some<|.ref l,some<|.ref c,o]/\J=ai L l c (mH++(As.take<|i-P.length).flatMap zc) (g++(As.take<|i-P.length).flatMap zd),⟨_,rfl,by rw[Nat.zero_sub,List.take_zero,CZ,CZ,AC,AC]⟩,λ_ _ _ _=>True.intro,?_,?_⟩
 ·rintro i y I J a1 ⟨o,rfl,rfl⟩;rcases rN a1 with⟨t,x,ex,rfl⟩|⟨t,B,eB,rfl⟩
  ·exact⟨_,EK _,_,rfl,by rw[CM t,CM<|BK t]⟩
  ·have t1:=Ti (As:=As) (j:=i-P.length);have t2:=Tj (l:=As.map gh) (j:=i-P.length) (x:=gh B) (by rw[Au,eB];rfl);rw[EJ] at t1;have z:aQ n [j8 B,.ref l,.ref c] (ai L l c (mH++(As.take<|i-P.length).flatMap zc)<|g++(As.take<|i-P.length).flatMap zd) λz L4=>iO (λI J=>∃o,I=[some<|.tup<|.str T::(nY P++As.map j8),some<|.ref l,some<|.ref c,o]/\J=ai L l c (mH++(As.take<|i+1-P.length).flatMap zc) (g++(As.take<|i+1-P.length).flatMap zd)) [some<|.tup<|.str T::(nY P++As.map j8),some<|.ref l,some<|.ref c,some<|j8 B] L4:=by refine⟨B,l,c,_,_,rfl,Hr ne,q9,ne,va B<|Az eB,by rw[Ad];lia,by rw[Ad];lia,_,EK _,_,rfl,?_⟩;rw[y4 ne,Nat.succ_sub t,Bm,eB,A7,A7,Ar,Ar];simp
   rw[iY B] at z ⊢;exact z
 ·rintro I J ⟨o,rfl,rfl⟩;rw[ll,Bj,Bz];exact xa q
inductive gb(ys:List Y)(L:qk)(Q:YK):Prop
 |mk:∀a,∀xs:List Y,∀R:Ru,(ys=[.tup [.ref a,j8 R]])->(L a=some (.lst xs))->(v5 R<=120)->(gh R<=127)->((zc R).Nodup)->((zd R).Nodup)->((∀p∈zc R,p.2<1000000))->((∀p∈zd R,p.2<1000000))->(∀a' l' c' lk ct L',qh L L'->L a'=none->L l'=none->L c'=none->a'≠l'->a'≠c'->l'≠c'->L' a'=some (.lst xs)->L' l'=some (.lst<|qt lk)->L' c'=some (.lst<|qt ct)->lk.Perm (zc R)->lk.Pairwise bJ->ct.Perm (zd R)->ct.Pairwise bJ->Q (xc a' l' c') L')->gb ys L Q
def To:∀ys L Q,gb ys L Q->vd (JR<|aQ 120).1 3 ys L Q:=by rintro ys L Q ⟨a,xs,R,rfl,ha,hd,hz,n1,n2,b1,b2,q⟩ l hl c hc;have I:l≠c:=aP q9 hc;have p:L c=none:=bO hc;have pz:=kn R;have s0:qh L (ai L l c [] []):=(By hl).trans<|By hc;have e0:qi (qi L l<|.lst []) c (.lst [])=ai L l c [] []:=rfl;have a5:a≠l:=aP ha hl;have ac:a≠c:=aP ha p;rw[e0];refine⟨R,l,c,[],[],rfl,Hr I,q9,I,hd,by rw[DI];lia,by rw[DI];lia,?_⟩;rw[y4 I,Cr,Cr];have T:qh L (ai L l c (zc R)<|zd R):=((EK _).upd hl).upd p;have g1:ai L l c (zc R) (zd R) l=some (.lst<|qt<|zc R):=Hr I;have g2:ai L l c (zc R) (zd R) c=some (.lst<|qt<|zd R):=q9;generalize ai L l c (zc R) (zd R)=L1 at T g1 g2 ⊢;refine qb (T _ _ ha) λr J=>?_;have s2:=T.trans<|By (o:=.lst xs) J;show kw [.ref l] (qi L1 r<|.lst xs) λz2 L2=>kw [.ref c] L2 λz3 L3=>eQ Q (.tup [.ref r,z2,z3]) L3;refine pX (By J _ _ g1) b1 n1 (by lia) λD1 lk U a1 a2=>?_;have s3:=s2.trans<|By (o:=.lst<|qt lk) U;refine pX (((By J).trans<|By U) _ _ g2) b2 n2 (by lia) λD2 ct g a3 a4=>?_;have j:r≠D1:=aP q9 U;have t:D1≠D2:=aP q9 g;have C:r≠D2:=aP ((qc j).trans q9) g;exact xa<|q r D1 D2 lk ct _ (s3.trans<|By g) (T.none J) (s2.none U) (s3.none g) j C t ((qc C).trans<|(qc j).trans q9) ((qc t).trans q9) q9 a1 a2 a3 a4
def uk:a9:=(zm (x8 (qf 0)<|lK 3<|vj (qp 1)<|vj (qp 2)<|vj (qp 3) gu)
 (zm (x8 Jm<|qp 4)
 (zm (oh (gH<|qf 1) (qp 5) (am (vZ (yB<|gJ true<|qf 5)<|m_ (rV 5)<|fQ 3) (zm (lG (qf 4) (fP 5 1)<|yC<|.bl true)
 (lG (qf 4) (fP 5 2)<|yC<|.bl true)) wm))
 (zm (oh (gH<|qf 3) (lK 2<|vj (qp 6)<|vj (qp 7) gu) (zm (lG (qf 4) (qf 6)<|yC<|.bl true)
 (lG (qf 4) (qf 7)<|yC<|.bl true)))
 (JK 6<|aY<|u_ 1 (mn<|bL<|rV 1) (qp 8) (vZ (yB<|gJ true<|vg fM (qf 1)<|qf 8)<|yB<|vg (Ft true) (qf 8)<|qf 4)<|qf 8)))))
inductive lh(ys:List Y)(L:qk)(Q:YK):Prop
 |mk:∀a l c,∀wd:List (VG),∀ct:Vh,(ys=[xc a l c])->(L a=some (.lst<|jr wd))->(L c=some (.lst<|qt ct))->(wd.length<=1000)->(ct.length<=1000)->(∀p,L p=none->Q (.ref p) (qi L p<|.lst<|nY<|ah wd (aX wd ct) wd.length))->lh ys L Q
def Tp:∀ys L Q,lh ys L Q->vd uk 8 ys L Q:=by
 rintro ys L Q ⟨wa,la,ca,I,l,rfl,e1,e3,wl,cl,q⟩;have big:=a_;intro us a1;have s2:qh L (qi L us<|.dct []):=By a1;refine wb (s2 _ _ e1) λkeep kp=>kc ⟨λi r j=>∃J c3 C T,r=[some<|xc wa la ca,some<|.ref wa,some<|.ref la,some<|.ref ca,some<|.ref us,c3,C,T]/\qh L j/\j us=some (.dct J)/\UsI (xl<|I.take i) J,⟨[],_,_,_,rfl,s2,q9,UsI.nil⟩,?_,?_,?_⟩
 ·rintro i r j ⟨J,c3,C,T,rfl,s,_⟩;exact kp j (by rw[s _ _ e1,s2 _ _ e1])
 ·rintro i y r j hy ⟨J,c3,C,T,rfl,s,g,U⟩;rw[Au] at hy;obtain⟨k,ek,rfl⟩:=AB.mp hy;have et:I.take (i+1)=I.take i++[k]:=by rw[Bm,ek];rfl
  have pl:=pS<|I.take i;rw[AZ] at pl;have ul:=U.len;have stay:ja k=[]->UsI (xl<|I.take<|i+1) J:=λh=>by rw[et,oS,h,AC];exact U
  cases k with
  |none=>exact⟨_,EK _,_,_,_,_,rfl,s,g,stay rfl⟩
  |some k=>
   cases k with
   |lf t n=>exact⟨_,EK _,_,_,_,_,rfl,s,g,stay rfl⟩
   |nd e i' j'=>
    refine jd g ⟨big _ (by lia),?_⟩;have U1:=U.put i'<|.bl true;have k1:=U1.len;rw[Ad] at k1;refine jd q9 ⟨big _ (by simp at k1;lia),?_⟩;have U2:=U1.put j'<|.bl true;rw[zq];exact⟨_,EK _,_,_,_,_,rfl,s.upd a1,q9,by rw[et,oS];rw[Ar] at U2;exact U2⟩
 rintro r L2 ⟨J,c3,C,T,rfl,s3,g,U⟩;rw[Af,Bz] at U;have pl:=pS I;have a2:=w4 l;refine wb (s3 _ _ e3) λkeep kp=>kc ⟨λi r j=>∃J C T,r=[some<|xc wa la ca,some<|.ref wa,some<|.ref la,some<|.ref ca,some<|.ref us,c3,C,T]/\qh L j/\j us=some (.dct J)/\UsI (xl I++plcs (l.take i)) J,⟨_,_,_,rfl,s3,g,by show UsI (xl I++[]) _;rw[AC];exact U⟩,?_,?_,?_⟩
 ·rintro i r j ⟨J,C,T,rfl,s,_⟩;exact kp j (by rw[s _ _ e3,s3 _ _ e3])
 ·rintro i y r j hy ⟨J,C,T,rfl,s,g,U⟩;rw[Au] at hy;obtain⟨pr,ep,rfl⟩:=AB.mp hy;have et:l.take (i+1)=l.take i++[pr]:=by rw[Bm,ep];rfl
  have pt:=w4<|l.take i;rw[AZ] at pt;have ul:=U.len;rw[Ad] at ul;refine jd g ⟨big _ (by lia),?_⟩;have U1:=U.put pr.1<|.bl true;have k1:=U1.len;rw[Ad,Ad] at k1;refine jd q9 ⟨big _ (by simp at k1;lia),?_⟩;have U2:=U1.put pr.2<|.bl true;rw[zq];exact⟨_,EK _,_,_,_,rfl,s.upd a1,q9,by rw[et,zj,jy,<-Ar];rw[Ar<|_++_] at U2;exact U2⟩
 rintro r L3 ⟨J,a3,a4,rfl,s4,g,U⟩;rw[Af,Bz] at U;have U:UsI (aX I l) J:=U;have k1:=s4 _ _ e1;have lw:(jr I).length=I.length:=Af ..;refine qb k1 ⟨⟨A3 _,by rw[lw];omega⟩,?_⟩;rw[lw,BB];refine rM (λi o=>o=nY (ah I (aX I l) i)) (big _ (by lia)) rfl ?_ ?_
 ·rintro i o hi rfl;obtain⟨k,ek⟩:∃k,I[i]?=some k:=⟨_,Al hi⟩;have no:lC I (aX I l) i=false->iO (λo j=>j=L3/\o=nY (ah I (aX I l)<|i+1)) (nY<|ah I (aX I l) i) L3:=λh=>⟨L3,EK _,rfl,by rw[mw,Ay (by rw[h];exact AQ),AC]⟩;have yes:lC I (aX I l) i=true->iO (λo j=>j=L3/\o=nY (ah I (aX I l)<|i+1)) (nY (ah I (aX I l) i)++[.int<|0+(i:Int)]) L3:=λh=>⟨L3,EK _,rfl,by rw[mw,AA h,vF,B3];rfl⟩;refine qb k1<|qj (Tb ek) ?_;cases k with
  |none=>exact no (by unfold lC hU;rw[ek];rfl)
  |some k=>
   have key:oo L3 us λJ=>we (nb true (ve J<|.inl<|0+(i:Int)).isSome) (iO (λo j=>j=L3/\o=nY (ah I (aX I l)<|i+1)) (nY (ah I (aX I l) i)++[.int<|0+(i:Int)]) L3) (iO (λo j=>j=L3/\o=nY (ah I (aX I l)<|i+1)) (nY<|ah I (aX I l) i) L3):=by
    refine jd g ?_;rw[show(Sum.inl (0+(i:Int)):j9)=.inl (i:Int) by rw[B3],U.val];by_cases cu:i∈aX I l
    ·exact dC (by rw[AK cu];rfl) (no (by unfold lC hU;rw[ek,AK cu];rfl))
    ·exact iu (by rw[AD cu];rfl) (yes (by unfold lC hU;rw[ek,AD cu];rfl))
   cases k with|lf t n=>exact key|nd e i' j'=>exact key
 ·rintro o rfl p hp;exact mV (qh.put (s4.trans<|By hp) q9)<|q p<|s4.none hp
def JS(U:kh)(I:kh)(J:kh):RD "_law_gapped" fZ 121 ["_law_tree_here","_law_stir_here","_law_number_here","_law_gap","_law_offset","_law_at","_law_made","_law_k","_law_p","_law_knot"] (λV=>FV V U/\Ja V I/\Jb V J):=⟨_,λV B c _ _ _ _ _ _ _ j hN g=>(qa (S_ 2 hN<|C_ c.1 j<|v9 (qv 1) qd)<|qa (S_ 3 hN qd)<|xw (zr (E_ g (qm js (qv 2) qd) qd) (qg<|S_ 3 hN<|qm ju qd<|qm js (qm vf (qv 2) qd) qd) za)<|qa (S_ 4 hN<|qm js (qm vf (qv 2) qd)<|qm ju (qv 3) qd)<|qa (S_ 5 hN hW)<|qa (S_ 6 hN<|jm wg)<|qa (ky ya rfl (mC rfl B.bp<|C_ c.2.1 j<|v9 (J_ 0)<|qv 1) (ku (n:=2) rfl<|qz (G_ 7 hN)<|qz (G_ 8 hN) xi)<|qa (gW ya (je pJ (L_ B.ba<|qv 6) (qm ju (qv 7)<|qm vf (qm ju (qv 7)<|qv 4)<|qv 3)<|vn _)<|qg<|zf<|ze (qv 6)<|xn aa)<|qa (wq g (qv 5) (qv 8)<|L_ B.ba<|qv 6)<|qa (S_ 9 hN<|I_ (J_ 0)<|qv 8)<|qg<|zf<|ze (qv 6)<|xn<|eM (E_ g (L_ B.ba<|qv 9) qd) (qv 9)<|zh<|bQ (J_ 9) (aF g (qv 5) (J_ 9) λ_ _=>rfl)<|aF g (qv 5) (J_ 9) λ_ _=>rfl)<|qg<|zb<|zh<|v9 (qv 6)<|C_ c.2.2 j<|v9 (J_ 0)<|qv 5)⟩
inductive lm(Pt:Addr)(ys:List Y)(L:qk)(Q:YK):Prop
 |mk:∀a,∀ks:VE,∀R:Ru,∀E:Vk,∀s:Int,(ys=[.tup [.ref a,j8 R],.int s])->(L a=some (.lst<|vh ks))->(iz ks R E)->(L Pt=some (.tb lamQ))->(∀w f wd,L w=none->yM f (ks.map some) wd->Q (.tup [.ref w,j8<|bv f R]) (qi L w<|.lst<|jr wd))->lm Pt ys L Q
def Tq{i off g:Int}(hi:0<=i)(h1:1<=g)(I:off<=g):(i+off) / g<=i+1:=by refine Int.ediv_le_of_le_mul (by lia) ?_;have:=Int.mul_le_mul_of_nonneg_left h1 hi;rw[EG];lia
theorem Ts :∀ys L Q,lm Pt ys L Q->vd (JS dI (fE Pt)<|bC 120).1 10 ys L Q:=by
 rintro ys L Q ⟨a,a2,R,E,s,rfl,ha,T,hP,q⟩;have big:=a_;have hz:=T.len;have sr:=T.sr;obtain⟨U,l⟩:∃U,U=a2.map some:=⟨_,rfl⟩;have ax:U.length=a2.length:=by rw[l,Af]
 have ok:jB U:=by rw[l];exact oU T.ok
 refine⟨s,91827,rfl,by decide,by decide,λnum n0 _=>?_⟩;refine⟨λo L'=>∃g:Int,5<=g/\g<=200/\o=[some<|.tup [.ref a,j8 R],some<|.int s,some<|.int num,some<|.int g,none,none,none,none,none,none]/\L'=L,?_,?_⟩
 ·exact⟨(by decide:(0:Int)<3),zk (λ_=>⟨⟨by decide,by decide⟩,(by decide:(0:Int)<9),_,by lia,by lia,rfl,rfl⟩) λ_=>⟨200,by decide,by decide,rfl,rfl⟩⟩
 rintro o L' ⟨g,g1,g2,rfl,rfl⟩;refine⟨⟨by decide,by decide⟩,(show(0:Int)<g+1 by lia),?_⟩;have ho:num / 27 % (g+1)<=g:=by have:=DV (num / 27) (show(0:Int)<g+1 by lia);lia
 show qp 4 (.int<|num / 27 % (g+1)) _ _ _;generalize num / 27 % (g+1)=off at ho ⊢;intro d hd w hw;have a4:L' w=none:=bO hw;have a1:d≠w:=aP q9 hw;have s0:qh L' (qi (qi L' d<|.dct []) w<|.lst []):=(By hd).trans<|By hw;refine⟨a,a2,s,rfl,s0 _ _ ha,by rw[<-l];exact ok,by lia,s0 _ _ hP,λD I hD pm pf=>?_⟩;rw[<-l] at pm pf;have a5:w≠D:=aP q9 hD;have au:d≠D:=aP ((qc a1).trans q9) hD;have lq:I.length=U.length:=by rw[pm.length_eq,B1]
 have aL:I.Nodup:=pm.nodup_iff.mpr C0;have mq:∀p∈I,p<U.length:=λp hp=>Ba.mp<|pm.mem_iff.mp hp;have G0:qV L' U I d w D 0 0 (λ_=>0) [] [] (qi (qi (qi L' d<|.dct []) w<|.lst []) D<|.lst<|nY I):=
  ⟨s0.trans<|By hD,(qc au).trans<|(qc a1).trans q9,(qc a5).trans q9,q9,Ap _,λp=>rfl,vQ.nil _ _,Ap _⟩
 refine wb q9 λkeep kp=>kc ⟨λi o L1=>∃f wd J c7 c8 c9,o=[some<|.tup [.ref a,j8 R],some<|.int s,some<|.int num,some<|.int g,some<|.int off,some<|.ref d,some<|.ref w,c7,c8,c9]/\qV L' U I d w D i 0 f wd J L1,⟨_,_,_,_,_,_,rfl,G0⟩,?_,?_,?_⟩
 ·rintro i o L1 ⟨f,wd,J,c7,c8,c9,rfl,G⟩;exact kp L1 (by rw[G.hD,q9])
 ·rintro i y o L1 hy ⟨f,wd,J,c7,c8,c9,rfl,G⟩;obtain⟨z,ez,rfl⟩:=hG hy;obtain⟨p,ep,rfl⟩:=JG ez;have hi:=zn ep;have hp:p<U.length:=mq p<|Az ep;obtain⟨k,hk⟩:∃k,a2[p]?=some k:=⟨_,Al (by lia)⟩;have av:U[p]?=some (some k):=by rw[l,Au,hk];rfl
  have pn:p∉I.take i:=λhm=>by
   have e2:I=I.take i++p::I.drop (i+1):=by rw[Al hi] at ep;rw[<-Be ep,CK,A8]
   have nd:=aL;rw[e2] at nd;exact(Aq.mp nd).2.2 p hm p (Aj ..) rfl
  have et:I.take (i+1)=I.take i++[p]:=by rw[Bm,ep];rfl
  have a3:∀e i' j',some k=some (.nd e i' j')->i'∈I.take i/\j'∈I.take i:=λe i' j' z=>mz ok pm pf ep (by rw[av,z]);have ac:∀x∈I.take i,∀e i' j',U[x]?=some (some<|.nd e i' j')->i'∈I.take i/\j'∈I.take i:=λx hx e i' j' z=>by
   obtain⟨n,hn⟩:=DF hx;have aR:=zn hn;rw[AZ] at aR;rw[Ef (by lia)] at hn;obtain⟨h1,h2⟩:=mz ok pm pf hn z;have sb:∀y,y∈I.take n->y∈I.take i:=λy hy=>by
    have:I.take n=(I.take i).take n:=by rw[List.take_take,BO (by lia)]
    rw[this] at hy;exact BN hy
   exact⟨sb _ h1,sb _ h2⟩
  have plain:qV L' U I d w D i 1 f wd J L1:=⟨G.sub,G.hd,G.hw,G.hD,G.len,G.val,G.gap,BV G.wlen⟩;refine⟨λm o L2=>∃wd',o=[some<|.tup [.ref a,j8 R],some<|.int s,some<|.int num,some<|.int g,some<|.int off,some<|.ref d,some<|.ref w,some<|.int (i:Int),some<|.int (p:Int),c9]/\qV L' U I d w D i 1 f wd' J L2/\m=2*i+1-wd'.length,⟨_,wd,rfl,plain,rfl⟩,?_⟩;rintro m o L2 ⟨wd',rfl,C,rfl⟩;have wl:=C.wlen;refine qb C.hw ⟨⟨by lia,by lia⟩,?_⟩;refine zk (λc=>?_) λc=>?_
  ·have c:((jr wd').length:Int)<(i:Int)+((i:Int)+off) / g:=c;rw[aA] at c;have dv:=Tq (i:=(i:Int)) (A3 _) (show 1<=g by lia) ho;refine⟨λo L3=>∃j,o=[some<|.tup [.ref a,j8 R],some<|.int s,some<|.int num,some<|.int g,some<|.int off,some<|.ref d,some<|.ref w,some<|.int (i:Int),some<|.int (p:Int),c9]/\qV L' U I d w D i 1 f j J L3/\j.length=wd'.length+1,?_,?_⟩
   ·rintro o L3 ⟨j,rfl,G2,e⟩;exact⟨2*i+1-j.length,by lia,j,rfl,G2,rfl⟩
   ·refine qb C.hw (qr C.hw ⟨by rw[aA];exact big _ (by lia),?_⟩);have:=C.wide (wd':=wd'++[none]) (ex':=1) a4 a1 a5 C.gap.gap (by rw[Ad];show wd'.length+1<=_;lia);rw[<-tN] at this;exact⟨_,EK _,wd'++[none],rfl,this,Ad⟩
  have vp:∀y:Nat,ve (dU J (.inl (p:Int))<|.int ((wd'.length:Nat):Int)) (.inl (y:Int))=if y∈I.take i++[p] then some (.int (((if y=p then wd'.length else f y):Nat):Int)) else none:=λy=>by
   rw[nM];by_cases e:y=p
   ·subst e;rw[AA rfl,AA rfl,AA<|Ag _<|An.mpr rfl]
   ·rw[Ay λz=>e<|BP.mp<|Fj z,Ay e,C.val];by_cases h:y∈I.take i
    ·rw[AA h,AA<|Ao _ h]
    ·rw[Ay h,Ay λz=>(Ak.mp z).elim h λz=>e<|An.mp z]
  have kl:=C.len;refine qb C.hw ?_;rw[aA];refine jd C.hd ⟨big _ (by lia),?_⟩;have ba:a≠d:=aP ha hd;refine qb ((qc ba).trans<|C.sub _ _ ha)<|qj (v4 hk) ?_;have al:qi L2 d (.dct<|dU J (.inl (p:Int))<|.int ((wd'.length:Nat):Int)) w=some (.lst<|jr wd'):=(qc<|AG a1).trans C.hw;have hb:∀x∈I.take i,x<U.length:=λx hx=>mq x<|BN hx;have done:iO (λo L1=>∃f wd J c7 c8 c9,o=[some<|.tup [.ref a,j8 R],some<|.int s,some<|.int num,some<|.int g,some<|.int off,some<|.ref d,some<|.ref w,c7,c8,c9]/\qV L' U I d w D (i+1) 0 f wd J L1) [some<|.tup [.ref a,j8 R],some<|.int s,some<|.int num,some<|.int g,some<|.int off,some<|.ref d,some<|.ref w,some<|.int (i:Int),some<|.int (p:Int),some<|pF k] (qi (qi L2 d<|.dct<|dU J (.inl (p:Int))<|.int ((wd'.length:Nat):Int)) w<|.lst<|jr wd'++[oR<|i9 f<|some k]):=by
   rw[tN];refine⟨_,EK _,λx=>if x=p then wd'.length else f x,wd'++[i9 f<|some k],_,_,_,_,rfl,(C.sub.upd hd).upd a4,(qc a1).trans q9,q9,(qc<|AG a5).trans<|(qc<|AG au).trans C.hD,?_,λy=>?_,?_,?_⟩
   ·have:=bK J (.inl (p:Int))<|.int ((wd'.length:Nat):Int);lia
   ·rw[et];exact vp y
   ·rw[et];exact C.gap.step hb pn av ac a3
   ·rw[Ad];show wd'.length+1<=_;lia
  refine qb al ?_;cases k with
  |lf t n=>exact qr al ⟨by rw[aA];exact big _ (by lia),done⟩
  |nd e p1 p2=>
   obtain⟨m1,m2⟩:=a3 e p1 p2 rfl;have v1:=vp p1;have v2:=vp p2;rw[AA<|Ao _ m1,Ay λ(z:p1=p)=>pn<|z▸m1] at v1;rw[AA<|Ao _ m2,Ay λ(z:p2=p)=>pn<|z▸m2] at v2;refine jd ((q9:qi L2 d _ d=some _))<|qj v1 ?_;refine jd ((q9:qi L2 d _ d=some _))<|qj v2 ?_;exact qr al ⟨by rw[aA];exact big _ (by lia),done⟩
 ·rintro o L1 ⟨f,wd,J,c7,c8,c9,rfl,G⟩;have eq:(nK<|nY I).length=I.length:=by rw[pi];exact Af ..
  rw[eq] at G;have et:I.take I.length=I:=Bz;have val:∀p,p<U.length->ve J (.inl (p:Int))=some (.int (f p:Int)):=λp hp=>by rw[G.val,et,AA<|pm.mem_iff.mpr<|Ba.mpr hp]
  have gap:vQ U (List.range U.length) f wd:=by have g:=G.gap;rw[et] at g;exact⟨λp hp=>g.at_ p<|pm.mem_iff.mpr hp,λp hp r hr=>g.inj p (pm.mem_iff.mpr hp) r<|pm.mem_iff.mpr hr,λx k hx=>let ⟨r,hr,e⟩:=g.only x k hx;⟨r,pm.mem_iff.mp hr,e⟩,g.ok⟩
  have rd:=wf R;have tl:=T.tp.length_eq;rw[B1] at tl;refine⟨R,d,J,f,rfl,G.hd,λB hB x hx=>val x (by rw[ax];exact sr.pl B hB x hx),by lia,?_⟩;have wl:=G.wlen;rw[lq] at wl;exact mV (qh.put G.sub G.hw) (q w f wd a4 ⟨by rw[<-l];exact gap,by rw[<-l];lia⟩)
end L3
namespace L2
open PySem PySem.W
section
variable {K:Ah}(T:K.lookup Pt=some (PySem.W.tabObj #[]))
include T
def vO :clsIn (lessK Pt K) C=clsIn K C:=by
 unfold clsIn;by_cases d:C=Pt
 ·subst d;rw[vm,T]
 ·rw[xh d]
def JT{b:Vt}:mroIn (lessK Pt K) C b=mroIn K C b:=by unfold mroIn;rw[vO T]
def sI{t b:Vt}:subIn (lessK Pt K) t b=subIn K t b:=by
 unfold subIn;split
 ·rfl
 ·exact JT T
 ·rfl
def wK{i:Vy} :specialIn (lessK Pt K) (.builtin i) x=specialIn K (.builtin i) x:=by unfold specialIn typeIn;dsimp only;congr 1;funext t;exact iB T
def Tt{i:Vy}:takesIn (lessK Pt K) (.builtin i)=takesIn K (.builtin i):=by unfold takesIn;rw[wK T,wK T]
def qR{t c:Vt}{b:Bool}(e:kitCls K t c=some b):kitCls (lessK Pt K) t c=some b:=by
 unfold kitCls at e ⊢;split at e
 ·rename_i C;have n:C≠Pt:=by rintro rfl;unfold clsIn at e;rw[T] at e;cases e
  have h:typeIn (lessK Pt K) (.ref C)=typeIn K (.ref C):=by show(List.lookup C<|lessK Pt K).map _=(List.lookup C K).map _;rw[xh n]
  rw[vO T,sI T,h];exact e
 ·rw[sI T];exact e
 ·cases e
def jS{t c:Vt}{b:Bool}(e:kitOne K t c=some b):kitOne (lessK Pt K) t c=some b:=by
 unfold kitOne at e ⊢;split at e
 ·rename_i h;rw[AA h];exact e
 ·rename_i h;rw[Ay h];exact qR T e
theorem pN{t:Vt}{b:Bool}:∀{l:Vi},kitAny K t l=some b->kitAny (lessK Pt K) t l=some b
 |[],e=>e
 |c::r,e=>by
  unfold kitAny at e ⊢;split at e
  ·rename_i h;rw[jS T h];exact e
  ·rename_i h;rw[jS T h];exact pN e
  ·cases e
def Tu{t c:Vt}{b:Bool}(e:exmOne K t c=some b):exmOne (lessK Pt K) t c=some b:=by
 unfold exmOne at e ⊢;rw[sI T];split at e
 ·rename_i h;rw[AA h];exact qR T e
 ·cases e
def Tv(x:t_ K C):t_ (lessK Pt K) C:=by obtain⟨⟨ga,gt,cl,ge,tk,mo,be⟩,h⟩:=x;exact⟨⟨(iB T).trans ga,(iB T).trans gt,(iB T).trans cl,(wK T).trans ge,(Tt T).trans tk,(JT T).trans mo,(sI T).trans be⟩,by rw[vO T];exact h⟩
def yV{N:Addr}:nsOkIn (lessK Pt K) N=nsOkIn K N:=by
 unfold nsOkIn;by_cases d:N=Pt
 ·subst d;rw[vm,T]
 ·rw[xh d]
theorem xY{bm:Vi}:∀l:Vi,tailIn (lessK Pt K) bm l=tailIn K bm l
 |[]=>rfl
 |v::r=>by
  unfold tailIn;congr 1;split
  ·rename_i A;by_cases d:A=Pt
   ·subst d;rw[vm,T]
   ·rw[xh d];split
    ·rw[yV T,ns_dn T rfl,xY r]
    ·rfl
  ·rfl
def exc_dn{bm:Vi}{i:Vy}(e:excIn K C bm i=true):excIn (lessK Pt K) C bm i=true:=by
 unfold excIn at e ⊢;by_cases d:C=Pt
 ·subst d;rw[T] at e;cases e
 ·rw[xh d];split at e
  ·split at e
   ·rw[xY T,yV T,ns_dn T rfl];exact e
   ·cases e
  ·cases e
end
section
variable {K:Ah}(T:K.lookup Pt=some (PySem.W.tabObj #[]))
include T
end
end L2
namespace L3
open PySem L2
open PySem L2 Words
def qD{x y:Vs}(hN:(plcs lk).Nodup)(I:x∈lk)(J:y∈lk)(ne:x≠y){r s:Nat}(h:r=y.1/\s=y.2\/r=y.2/\s=y.1):(plcs<|(lk.filter λz=>decide (z≠x)&&decide (z≠y))++[bM x.1 r,bM x.2 s]).Perm (plcs lk):=by
 have pm:=jc<|iL (zy hN) I J ne;rw[qx,qx] at pm;rw[zj,qx,jy];refine AU.trans<|List.Perm.trans ?_ pm.symm;refine(cX x.1 r _).trans ((((cX x.2 s _).cons _).cons _).trans<|List.Perm.cons _<|(List.Perm.swap ..).trans<|List.Perm.cons _ ?_);rcases h with⟨rfl,rfl⟩|⟨rfl,rfl⟩
 ·exact .refl _
 ·exact .swap ..
def yL{a b r:Int}{Q:YK}(h:0<b)(e:a % b=r)(q:Q (.int r) L):FO (.int a) (.int b) L Q:=by subst e;exact⟨h,q⟩
def da:RD "_law_swapped" eX 0 ["_law_web_here","_law_number_here","_law_knots","_law_links","_law_cuts","_law_one","_law_name_here","_law_alike_here","_law_two","_law_row","_law_p","_law_q","_law_x","_law_y"] (λ_=>True):=⟨_,λV B c _ _ _ _ _ _ _ J hN I=>(qa (bB (qv 0)<|ku (n:=3) rfl<|qz (bX (i:=2) hN rfl<|Or.inr rfl)<|qz (bX (i:=3) hN rfl<|Or.inr rfl)<|qz (G_ 4 hN) xi)<|qa (bx (i:=5) hN rfl (Or.inr rfl)<|qm js (qv 1)<|L_ B.ba<|qv 3)<|qa (bx (i:=6) hN rfl (Or.inr rfl)<|I_ (I_ (qv 2)<|I_ (I_ (qv 3)<|qv 5) qd) qd)<|qa (a8 ["_law_k"] (i:=7) hN rfl (Or.inl rfl) (E5 (by rfl)) rfl (wu rfl B.bh<|xn<|L_ B.ba<|qv 3) (xG 14) (λ_ _ _ _=>cg<|bD<|cD (N_ I (qv 14)<|qv 5)<|aW<|E_ I (I_ (I_ (qv 2)<|I_ (I_ (qv 3)<|qv 14) qd) qd)<|qv 6) λ_ _ _ _=>(qv 14))<|qa (zr (E_ I (qv 7)<|jm wg) (qg<|zb<|qv 0) za)<|qa (bx (i:=8) hN rfl (Or.inr rfl)<|I_ (qv 7)<|qm js (qm vf (qv 1) qd)<|L_ B.ba<|qv 7)<|qa (a8 ["_law_k"] (i:=9) hN rfl (Or.inl rfl) (E5 (by rfl)) rfl (wu rfl B.bh<|xn<|L_ B.ba<|qv 3) (xG 14) (λ_ _ _ _=>cg<|je (oI _ _ _) (qv 14) (zh<|v9 (qv 5)<|qv 8) (by with_unfolding_all rfl)) λ_ _ _ _=>(I_ (qv 3)<|qv 14))<|qa (bB (I_ (qv 3)<|qv 5)<|ku (n:=2) rfl<|qz (G_ 10 hN)<|qz (G_ 11 hN) xi)<|qa (bB (I_ (qv 3)<|qv 8)<|ku (n:=2) rfl<|qz (G_ 12 hN)<|qz (G_ 13 hN) xi)<|xw (zr (N_ I (I_ (I_ (qv 2)<|qv 10) qd)<|I_ (I_ (qv 2)<|qv 12) qd) (qg<|wL (i:=12) (j:=13) rfl hN rfl rfl (by decide) rfl rfl (v9 (qv 13)<|qv 12) rfl) za)<|qa (zf<|ze (qv 9)<|xn<|zh<|v9 (jj sW rfl B.bn jK<|v9 (qv 10)<|qv 13)<|jj qI rfl B.bi gB<|v9 (qv 10)<|qv 13)<|qa (zf<|ze (qv 9)<|xn<|zh<|v9 (jj sW rfl B.bn jK<|v9 (qv 12)<|qv 11)<|jj qI rfl B.bi gB<|v9 (qv 12)<|qv 11)<|qg<|zb<|zh<|bQ (qv 2) (jj eh rfl B.bj az<|xn<|qv 9)<|qv 4)⟩
def t9:a9:=(zm (kj<|jP jt (qf 9)<|qo (aE<|qo (cI pI<|cB (qf 10)<|qf 13)<|qo (cI m9<|cB (qf 10)<|qf 13) jn) jn)
 (zm (kj<|jP jt (qf 9)<|qo (aE<|qo (cI pI<|cB (qf 12)<|qf 11)<|qo (cI m9<|cB (qf 12)<|qf 11) jn) jn)
 (aY<|aE<|qo (qf 2)<|qo (cI kw<|bL<|qf 9)<|bL<|qf 4)))
def Tw:a9:=(qH (am (Hg (vg fM (vg fM (qf 2)<|qf 10)<|fQ 0)<|vg fM (vg fM (qf 2)<|qf 12)<|fQ 0) (F7 12 13<|cB (qf 13)<|qf 12) wm)
 (zm (kj<|jP jt (qf 9)<|qo (aE<|qo (cI pI<|cB (qf 10)<|qf 13)<|qo (cI m9<|cB (qf 10)<|qf 13) jn) jn)
 (zm (kj<|jP jt (qf 9)<|qo (aE<|qo (cI pI<|cB (qf 12)<|qf 11)<|qo (cI m9<|cB (qf 12)<|qf 11) jn) jn)
 (aY<|aE<|qo (qf 2)<|qo (cI kw<|bL<|qf 9)<|bL<|qf 4))))
def Tx:a9:=(zm (x8 (u_ 1 (mn<|bL<|rV 3) (qp 14) (yB<|vg (ip true) (qf 14)<|Gi (qf 5)<|qf 8)<|vg fM (qf 3)<|qf 14)<|qp 9)
 (zm (x8 (vg fM (qf 3)<|qf 5)<|lK 2<|vj (qp 10)<|vj (qp 11) gu)
 (zm (x8 (vg fM (qf 3)<|qf 8)<|lK 2<|vj (qp 12)<|vj (qp 13) gu)
 (qH (am (Hg (vg fM (vg fM (qf 2)<|qf 10)<|fQ 0)<|vg fM (vg fM (qf 2)<|qf 12)<|fQ 0) (F7 12 13<|cB (qf 13)<|qf 12) wm)
 (zm (kj<|jP jt (qf 9)<|qo (aE<|qo (cI pI<|cB (qf 10)<|qf 13)<|qo (cI m9<|cB (qf 10)<|qf 13) jn) jn)
 (zm (kj<|jP jt (qf 9)<|qo (aE<|qo (cI pI<|cB (qf 12)<|qf 11)<|qo (cI m9<|cB (qf 12)<|qf 11) jn) jn)
 (aY<|aE<|qo (qf 2)<|qo (cI kw<|bL<|qf 9)<|bL<|qf 4)))))))
structure i7(wd:List<|VG)(lk:Vg):Prop where
 lkA:∀c∈lk,c.1<c.2/\∃t n,wd[c.1]?=some (some<|.lf t n)/\wd[c.2]?=some (some<|.lf (!t) n)
 lkN:(plcs lk).Nodup
 lkL:∀p,p∈plcs lk↔∃t n,wd[p]?=some (some<|.lf t n)
 lkS:lk.Pairwise bJ
 ll:lk.length<=60
 ne:lk≠[]
 wl:wd.length<=241
def mv(a b:Nat):bM a b=bM b a:=by unfold bM;rw[Nat.min_comm,Nat.max_comm]
def iq{a b:Nat}{n:Str}(J:wd[a]?=some (some<|.lf t n))(I:wd[b]?=some (some<|.lf (!t) n)):(bM a b).1<(bM a b).2/\∃t n,wd[(bM a b).1]?=some (some<|.lf t n)/\wd[(bM a b).2]?=some (some<|.lf (!t) n):=by
 have U:a≠b:=λh=>by subst h;rw[J] at I;cases t<;>cases I
 unfold bM;by_cases c:a<b
 ·rw[BO (by lia),Cj (by lia)];exact⟨c,t,n,J,I⟩
 ·rw[Cg (by lia),Cs (by lia)];exact⟨by show b<a;lia,!t,n,I,by rw[Dt];exact J⟩
def i7.of(I:i7 wd lk)(J:(plcs qs).Perm<|plcs lk)(h:∀c∈qs,c.1<c.2/\∃t n,wd[c.1]?=some (some<|.lf t n)/\wd[c.2]?=some (some<|.lf (!t) n))(U:qs.Pairwise bJ):i7 wd qs:=by have e:=J.length_eq;rw[w4,w4] at e;have l:=DL.mpr I.ne;exact⟨h,J.nodup_iff.mpr I.lkN,λp=>(J.mem_iff).trans<|I.lkL p,U,by have:=I.ll;lia,DL.mp (by lia),I.wl⟩
def i7.swap(I:i7 wd lk){x y:Vs}(l:x∈lk)(o:y∈lk)(ne:x≠y){u:Bool}{n:Str}(x1:wd[x.1]?=some (some<|.lf t n))(p:wd[x.2]?=some (some<|.lf (!t) n))(g:wd[y.1]?=some (some<|.lf u n))(U:wd[y.2]?=some (some<|.lf (!u) n)){r s:Nat}(h:t=u/\s=y.1/\r=y.2\/t≠u/\s=y.2/\r=y.1)
 (pm:qs.Perm<|(lk.filter λz=>decide (z≠x)&&decide (z≠y))++[bM x.1 r,bM s x.2]) (C:qs.Pairwise bJ):i7 wd qs:=by
 have j:wd[s]?=some (some<|.lf t n)/\wd[r]?=some (some<|.lf (!t) n):=by
  rcases h with⟨rfl,rfl,rfl⟩|⟨e,rfl,rfl⟩
  ·exact⟨g,U⟩
  ·have:u=!t:=by cases t<;>cases u<;>simp at e ⊢
   subst this;rw[Dt] at U;exact⟨U,g⟩
 refine I.of ((jc pm).trans (by rw[mv s];exact qD I.lkN l o ne<|h.elim (λh=>.inr ⟨h.2.2,h.2.1⟩) λh=>.inl ⟨h.2.2,h.2.1⟩)) (λc J=>?_) C;rcases Ak.mp (pm.mem_iff.mp J) with J|J
 ·exact I.lkA c (AH.mp J).1
 ·rcases Am.mp J with rfl|J
  ·exact iq x1 j.2
  ·rw[An.mp J];exact iq j.1 p
def m8(a b:Nat):(Y.tup [.int<|min (a:Int) (b:Int),.int<|max (a:Int) (b:Int)])=f' (bM a b):=by
 have I:min (a:Int) (b:Int)=((min a b:Nat):Int):=by omega
 have J:max (a:Int) (b:Int)=((max a b:Nat):Int):=by omega
 unfold f' bM;rw[I,J]
inductive dD(ys:List Y)(L:qk)(Q:YK):Prop
 |mk:∀a l c,∀wd:List (VG),∀lk:Vh,∀num:Int,(ys=[xc a l c,.int num])->(L a=some (.lst<|jr wd))->(L l=some (.lst<|qt lk))->(i7 wd lk)->(∀D fx L',qh L L'->L' D=some (.lst<|qt fx)->i7 wd fx->Q (xc a D c) L')->dD ys L Q
def Tz{wd:List<|VG}{lk I:Vg}{a c p9:Addr}{A B C D:Nat}(g:L p9=some (.lst<|qt I))(hz:I.length<=60)(nd:(I++[bM A D,bM C B]).Nodup)(U:∀p∈I++[bM A D,bM C B],p.2<1000000)(s:qh L0 L)(h0:L0 p9=none)
 (q:∀J qs L',qh L0 L'->L' J=some (.lst<|qt qs)->qs.Perm (I++[bM A D,bM C B])->qs.Pairwise bJ->En.rt (xc a J c) L'):
 t9 En [c0,c1,some<|.ref a,some<|.ref l,some<|.ref c,c5,c6,c7,c8,some<|.ref p9,some<|.int (A:Int),some<|.int (B:Int),some<|.int (C:Int),some<|.int (D:Int)] L:=by
 have big:=a_;have pl:∀l:Vh,(qt l).length=l.length:=λl=>Af ..;refine qr g (qr g ⟨by rw[pl];exact big _ (by lia),?_⟩);rw[m8,vz];refine qr q9 (qr q9 ⟨by rw[pl,Ad];exact big _ (by show I.length+1<=_;lia),?_⟩);rw[m8,vz,zq,Ar];show kw [.ref p9] (qi L p9<|.lst<|qt<|I++[bM A D,bM C B]) λz L'=>En.rt (.tup [.ref a,z,.ref c]) L';exact pX q9 U nd (by rw[Ad];show I.length+2<=_;lia) λJ qs j pm o=>q J qs _ ((s.upd h0).trans<|By j) q9 pm o
def TB{a c p9:Addr}{x y:Vs}{u:Bool}{n:Str}(I:i7 wd lk)(o:x∈lk)(C:y∈lk)(j:x≠y)(x1:wd[x.1]?=some (some<|.lf t n))(x2:wd[x.2]?=some (some<|.lf (!t) n))(y1:wd[y.1]?=some (some<|.lf u n))(y2:wd[y.2]?=some (some<|.lf (!u) n))
 (ha:L a=some (.lst<|jr wd)) (g:L p9=some (.lst<|qt<|lk.filter λz=>decide (z≠x)&&decide (z≠y))) (s:qh L0 L) (h0:L0 p9=none) (q:∀T qs L',qh L0 L'->L' T=some (.lst<|qt qs)->i7 wd qs->En.rt (xc a T c) L'):
 Tw En [c0,c1,some<|.ref a,some<|.ref l,some<|.ref c,c5,c6,c7,c8,some<|.ref p9,some<|.int (x.1:Int),some<|.int (x.2:Int),some<|.int (y.1:Int),some<|.int (y.2:Int)] L:=by
 have wl:=I.wl;have z2:=I.ll;have tail:∀r J:Nat,(t=u/\J=y.1/\r=y.2\/t≠u/\J=y.2/\r=y.1)->t9 En [c0,c1,some<|.ref a,some<|.ref l,some<|.ref c,c5,c6,c7,c8,some<|.ref p9,some<|.int (x.1:Int),some<|.int (x.2:Int),some<|.int (J:Int),some<|.int (r:Int)] L:=λr J h=>by
  have fl:=B6 (λz=>decide (z≠x)&&decide (z≠y)) lk;have nd:((lk.filter λz=>decide (z≠x)&&decide (z≠y))++[bM x.1 r,bM J x.2]).Nodup:=by refine zy ?_;rw[mv J];exact(qD I.lkN o C j<|h.elim (λh=>.inr ⟨h.2.2,h.2.1⟩) λh=>.inl ⟨h.2.2,h.2.1⟩).nodup_iff.mpr I.lkN
  refine Tz (lk:=lk) (wd:=wd) g (by lia) nd (λp U=>?_) s h0 λT qs L' t1 t2 pm pw=>q T qs L' t1 t2<|I.swap o C j x1 x2 y1 y2 h pm pw;have lt:∀p∈plcs lk,p<wd.length:=λp U=>by obtain⟨_,_,e⟩:=(I.lkL p).mp U;exact zn e
  have l1:=lt _ (jk o).1;have l2:=lt _ (jk o).2;have l3:=lt _ (jk C).1;have l4:=lt _ (jk C).2;rcases Ak.mp U with U|U
  ·have:=lt _ (jk (AH.mp U).1).2;lia
  ·rcases Am.mp U with rfl|U
   ·show max _ _<_;lia
   ·rw[An.mp U];show max _ _<_;lia
 refine⟨λτ L'=>∃r J:Nat,(t=u/\J=y.1/\r=y.2\/t≠u/\J=y.2/\r=y.1)/\τ=[c0,c1,some<|.ref a,some<|.ref l,some<|.ref c,c5,c6,c7,c8,some<|.ref p9,some<|.int (x.1:Int),some<|.int (x.2:Int),some<|.int (J:Int),some<|.int (r:Int)]/\L'=L,?_,?_⟩
 ·refine qb ha<|qj (v4 x1)<|qb ha<|qj (v4 y1) ?_;cases t<;>cases u
  ·exact⟨y.2,y.1,.inl ⟨rfl,rfl,rfl⟩,rfl,rfl⟩
  ·exact⟨y.1,y.2,.inr ⟨by decide,rfl,rfl⟩,rfl,rfl⟩
  ·exact⟨y.1,y.2,.inr ⟨by decide,rfl,rfl⟩,rfl,rfl⟩
  ·exact⟨y.2,y.1,.inl ⟨rfl,rfl,rfl⟩,rfl,rfl⟩
 ·rintro τ L' ⟨r,J,h,rfl,rfl⟩;exact tail r J h
def TC{p:qk}{a c:Addr}{r C T:Option Y}{k:Nat}{x y:Vs}{u:Bool}{n:Str}(I:i7 wd lk)(ex:lk[k]?=some x)(ey:lk[j]?=some y)(a1:x≠y)(x1:wd[x.1]?=some (some<|.lf t n))(x2:wd[x.2]?=some (some<|.lf (!t) n))(y1:wd[y.1]?=some (some<|.lf u n))(y2:wd[y.2]?=some (some<|.lf (!u) n))
 (a2:p a=some (.lst<|jr wd)) (J:p l=some (.lst<|qt lk)) (s8:qh L p) (q:∀Dd qs L',qh L L'->L' Dd=some (.lst<|qt qs)->i7 wd qs->En.rt (xc a Dd c) L'):
 Tx En [c0,c1,some<|.ref a,some<|.ref l,some<|.ref c,some<|.int (k:Int),c6,c7,some<|.int (j:Int),c9,nu,r,C,T] p:=by
 have big:=a_;have pl:(qt lk).length=lk.length:=Af ..;have z2:=I.ll;have mx:=Az ex;have my:=Az ey;refine qb J ⟨⟨A3 _,by rw[pl];lia⟩,?_⟩;rw[pl,BB];refine rM (λi us=>us=qt ((lk.take i).filter λz=>decide (z≠x)&&decide (z≠y))) (big _ (by lia)) rfl ?_ ?_
 ·rintro i us hi rfl;have U:lk[i]?=some lk[i]:=Al hi;generalize lk[i]=z at U;have e0:(0:Int)+(i:Int)=(i:Int):=B3 _;rw[e0];refine⟨rfl,rfl,?_⟩;show we (!(sQ (fW<|.int (i:Int))<|([.int (k:Int),.int (j:Int)]:List Y).map fW)) _ _;rw[bV];have idx:∀m w,lk[m]?=some w->(z=w↔i=m):=λm w ew=>by obtain⟨hm,ew⟩:=AL.mp ew;obtain⟨hi,U⟩:=AL.mp U;rw[<-U,<-ew];exact El (zy I.lkN)
  have i1:=idx k x ex;have i2:=idx j y ey;by_cases c:i=k\/i=j
  ·refine dC (by rw[AK c];rfl) ⟨_,EK _,rfl,?_⟩;rw[Bm,U,Br];have:([z].filter λz=>decide (z≠x)&&decide (z≠y))=[]:=B8 (by rw[<-i1,<-i2] at c;simp;intro h;exact c.resolve_left h);rw[Di,this,AC]
  ·refine iu (by rw[AD c];rfl)<|qb J<|qj (jx<|gF U) ⟨_,EK _,rfl,?_⟩;rw[<-i1,<-i2] at c;rw[Bm,U,Br];have:([z].filter λz=>decide (z≠x)&&decide (z≠y))=[z]:=B9 (by simp;exact⟨λh=>c<|.inl h,λh=>c<|.inr h⟩);rw[Di,this,vz]
 rintro us rfl p9 g;rw[Bz];refine pD g λL9 s9 g9=>?_;have n9:=s8.none g;have o:=s9 _ _ J;have a3:=s9 _ _ a2;refine qb o<|qj (jx<|gF ex)<|qb o<|qj (jx<|gF ey) ?_;exact TB I mx my a1 x1 x2 y1 y2 a3 g9 (s8.trans s9) n9 q
def wY:∀ys L Q,dD ys L Q->vd da.1 14 ys L Q:=by
 rintro ys L Q ⟨a,l,c,wd,lk,num,rfl,ha,g,I,q⟩;have big:=a_;have pl:(qt lk).length=lk.length:=Af ..;have z2:=I.ll;have wl:=I.wl;obtain⟨k,x,ek,hk,ex⟩:=jU (DL.mpr I.ne) num;have mx:=Az ex;obtain⟨lx,t,n,x1,x2⟩:=I.lkA x mx;have em:num % ((qt lk).length:Int)=(k:Int):=by rw[pl];exact ek
 refine qb g (yL (by rw[pl];lia) em ?_);refine qb g<|qj (jx<|gF ex)<|qb ha<|qj (v4 x1) ?_;refine qb g ⟨⟨A3 _,by rw[pl];lia⟩,?_⟩;rw[pl,BB];refine rM (λi C=>∃os:Vk,C=nY os/\os.length<=i/\∀j∈os,j≠k/\∃y u,lk[j]?=some y/\wd[y.1]?=some (some<|.lf u n)/\wd[y.2]?=some (some<|.lf (!u) n)) (big _ (by lia)) ⟨[],rfl,Ap _,nofun⟩ ?_ ?_
 ·rintro i C hi ⟨os,rfl,lo,ho⟩;have U:lk[i]?=some lk[i]:=Al hi;generalize lk[i]=y at U;obtain⟨_,u,m,y1,y2⟩:=I.lkA y<|Az U;have no:iO (λC L'=>L'=L/\∃os:Vk,C=nY os/\os.length<=i+1/\∀j∈os,j≠k/\∃y u,lk[j]?=some y/\wd[y.1]?=some (some<|.lf u n)/\wd[y.2]?=some (some<|.lf (!u) n)) (nY os) L:=⟨_,EK _,rfl,os,rfl,BV lo,ho⟩;have e0:(0:Int)+(i:Int)=(i:Int):=B3 _;rw[e0];by_cases ck:i=k
  ·exact dC (by rw[AK<|BM Nat.cast ck];rfl) no
  ·refine iu (by rw[AD λz=>ck<|BP.mp z];rfl) ?_;refine qb g<|qj (jx<|gF U)<|qb ha<|qj (v4 y1) ?_;refine zk (λh=>?_) λ_=>no;have h:m=n:=h;subst h;refine⟨_,EK _,rfl,os++[i],by rw[vF];rfl,by rw[Ad];exact CY lo,λj p=>?_⟩;rcases Ak.mp p with p|p
   ·exact ho j p
   ·rw[An.mp p];exact⟨ck,y,u,U,y1,y2⟩
 rintro C ⟨os,rfl,lo,ho⟩ p7 a1;have s7:=By (o:=.lst<|nY os) a1;have g7:qi L p7 (.lst<|nY os) p7=some (.lst<|(os.map λn:Nat=>(n:Int)).map Y.int):=by rw[q9,yb]
 generalize qi L p7 (.lst<|nY os)=L7 at s7 g7 ⊢;intro p8 T;have s8:=s7.trans<|By (o:=.lst []) T;have g8:=By (o:=.lst []) T _ _ g7;refine dy (n:=0) (m:=0) (by decide) g8 q9 (pW _) .nil ?_;generalize qi L7 p8 (.lst [])=L8 at s8 g8 ⊢;cases os with
 |nil=>exact mV s8<|q l lk L (EK _) g I
 |cons o os=>
  rw[<-yb] at g8;obtain⟨j,mj,ej⟩:∃r,r∈o::os/\dW (nY<|o::os) (num / 64 % ((nY<|o::os).length:Int))=some (.int ((r:Nat):Int)):=gc (E:=o::os) (BQ _)<|num / 64;obtain⟨a2,y,u,U,y1,y2⟩:=ho j mj;have my:=Az U;have a3:x≠y:=λe=>by obtain⟨p,U⟩:=AL.mp U;obtain⟨hk,ex⟩:=AL.mp ex;exact a2<|(El<|zy I.lkN).mp<|U.trans<|e.symm.trans ex.symm
  refine⟨⟨by decide,by decide⟩,qb g8 ⟨by rw[dE];exact DP.mpr<|BQ _,qb g8<|qj ej ?_⟩⟩;exact TC I ex U a3 x1 x2 y1 y2 (s8 _ _ ha) (s8 _ _ g) s8 λDd qs L' t1 t2 J=>xa<|q Dd qs L' t1 t2 J
end L3
namespace L2
open PySem PySem.Spec PyProof.Rows
def sT{a:Addr}{i j:Int}(I:qw X pins σ H s)(sq:aS X.K H a [.int i,.int j]):∃t t',s.heap.IsList a (intItems #[(i,t),(j,t')]):=by obtain⟨U,g,pl,_⟩:=I.list sq;obtain⟨u,v,rfl,⟨t,rfl⟩,⟨t',rfl⟩⟩:=GI g;have J:=xp pl;rw[show #[Value.int i t,Value.int j t']=intItems #[(i,t),(j,t')] by simp[intItems]] at J;exact⟨t,t',J⟩
def zP(hc:X.calm=true:=by rfl):jg X (.builtin "min") (λxs H Q=>∃(a:Addr) (i j:Int),xs=[.ref a]/\aS X.K H a [.int i,.int j]/\Q (.int<|if j<i then j else i) H):=by
 rintro U s C H xs T Q I r⟨a,i,j,rfl,sq,q⟩;obtain⟨u,rfl,g⟩:=lL r;cases g;obtain⟨t,t',l⟩:=sT I sq;refine jq I.tk<|min_intList (I.ok.hd hc) l (show 0<2 by decide) λv h' tk J o p=>⟨_,H,I.kept (h':=h') (t':=tk) o p,?_,q⟩;have J:(intItems #[(i,t),(j,t')])[if decide (j<i) then 1 else 0]?=some v:=J;by_cases c:j<i
 ·rw[AA c];rw[AA<|AK c] at J;exact⟨t',by simpa[intItems] using J.symm⟩
 ·rw[Ay c];rw[Ay (by simpa using c)] at J;exact⟨t,by simpa[intItems] using J.symm⟩
def TD(hc:X.calm=true:=by rfl):jg X (.builtin "max") (λxs H Q=>∃(a:Addr) (i j:Int),xs=[.ref a]/\aS X.K H a [.int i,.int j]/\Q (.int<|if j > i then j else i) H):=by
 rintro U s C H xs T Q I r⟨a,i,j,rfl,sq,q⟩;obtain⟨u,rfl,g⟩:=lL r;cases g;obtain⟨t,t',l⟩:=sT I sq;refine jq I.tk<|max_intList (I.ok.hd hc) l (show 0<2 by decide) λv h' tk J o p=>⟨_,H,I.kept (h':=h') (t':=tk) o p,?_,q⟩;have J:(intItems #[(i,t),(j,t')])[if decide (j > i) then 1 else 0]?=some v:=J;by_cases c:j > i
 ·rw[AA c];rw[AA<|AK c] at J;exact⟨t',by simpa[intItems] using J.symm⟩
 ·rw[Ay c];rw[Ay (by simpa using c)] at J;exact⟨t,by simpa[intItems] using J.symm⟩
end L2
namespace L3
open PySem L2
def Fu(L:qk)(Q:Int->Int->Prop):List Y->Prop
 |[.ref a]=>match L a with
  |some (.lst [.int i,.int j])=>Q i j
  |_=>False
 |_=>False
def yK{a:Addr}{i j:Int}{Q:Int->Int->Prop}(h:L a=some (.lst [.int i,.int j]))(q:Q i j):Fu L Q [.ref a]:=by unfold Fu;simp only[h];exact q
def u5{Q:Int->Int->Prop}(h:Fu L Q ys):∃a i j,ys=[.ref a]/\L a=some (.lst [.int i,.int j])/\Q i j:=by
 unfold Fu at h;split at h
 ·split at h
  ·rename_i e;exact⟨_,_,_,rfl,e,h⟩
  ·exact h.elim
 ·exact h.elim
def xU{a:Addr}{i j:Int}(I:xt X.g3 H [.ref a] xs)(J:zw X.g3 H L)(e:L a=some (.lst [.int i,.int j])):∃b,xs=[.ref b]/\aS X.K H b [.int i,.int j]:=by obtain⟨x,rfl,r⟩:=I.inv1;obtain⟨b,U,rfl,sq,rr⟩:=qN J r rfl<|wv e;cases pO (bs:=[i,j]) rfl rr;exact⟨b,rfl,sq⟩
def Hs(xs:List Y)(L:qk)(Q:YK):Prop:=Fu L (λi j=>Q (.int<|min i j) L) xs
def Ht(xs:List Y)(L:qk)(Q:YK):Prop:=Fu L (λi j=>Q (.int<|max i j) L) xs
def TF(hc:X.calm=true:=by rfl):jg X (.builtin "min") (b_ X.g3 Hs):=EY (zP hc) λU H Q g L l J I z k=>by obtain⟨a,i,j,rfl,e,z⟩:=u5 z;obtain⟨b,rfl,sq⟩:=xU J I e;refine⟨b,i,j,rfl,sq,?_⟩;rw[Iw];exact k _ H _ L (EL _) I (by rfl) z
def TH(hc:X.calm=true:=by rfl):jg X (.builtin "max") (b_ X.g3 Ht):=EY (TD hc) λU H Q g L l J I z k=>by obtain⟨a,i,j,rfl,e,z⟩:=u5 z;obtain⟨b,rfl,sq⟩:=xU J I e;refine⟨b,i,j,rfl,sq,?_⟩;rw[Iv];exact k _ H _ L (EL _) I (by rfl) z
open PySem L2 Words
def fz:RD "_law_looped" fc 0 ["_law_web_here","_law_number_here","_law_knots","_law_links","_law_cuts","_law_leaf","_law_p","_law_q","_law_row","_law_others","_law_link"] (λ_=>True):=⟨_,λV B c _ _ _ _ _ _ _ J hN I=>(qa (bB (qv 0)<|ku (n:=3) rfl<|qz (bX (i:=2) hN rfl<|Or.inr rfl)<|qz (G_ 3 hN)<|qz (G_ 4 hN) xi)<|qa (a8 ["_law_cut_here"] (i:=5) hN rfl (Or.inl rfl) (E5 (by rfl)) rfl (wx<|qv 4) (xG 11) (λ_ _ _ _=>cg<|E_ I (L_ B.ba<|I_ (qv 2)<|J_ 11) qd) λ_ _ _ _=>(qv 11))<|qa (zr (E_ I (qv 5)<|jm wg) (qg<|zb<|qv 0) za)<|qa (bB (I_ (qv 5)<|qm js (qv 1)<|L_ B.ba<|qv 5)<|ku (n:=2) rfl<|qz (G_ 6 hN)<|qz (G_ 7 hN) xi)<|qa (S_ 8 hN<|jm<|xn<|zh<|v9 (jj sW rfl B.bn jK<|v9 (qv 6)<|qv 7)<|jj qI rfl B.bi gB<|v9 (qv 6)<|qv 7)<|qa (S_ 9 hN<|jm wg)<|qa (ky ya rfl (wx<|qv 3) (G_ 10 hN)<|qg<|zr (bD<|uG (je (uM _ _ _) (qv 6) (qv 10) (by with_unfolding_all rfl))<|oA<|je (uM _ _ _) (qv 7) (qv 10) (by with_unfolding_all rfl)) (qg<|zf<|ze (qv 9)<|xn<|qm cU (qm ju (J_ 10)<|J_ 10)<|eM (je (uM _ _ _) (qv 6) (qv 10) (by with_unfolding_all rfl)) (qv 6)<|qv 7)<|qg<|zf<|ze (qv 8)<|xn<|qv 10)<|qa (zr (bD<|uG (je pJ (L_ B.ba<|qv 9) qd<|vn _)<|oA<|je (uM _ _ _) (qv 7) (qv 9) (by with_unfolding_all rfl)) (qg<|zb<|qv 0) za)<|qa (zf<|ze (qv 8)<|xn<|zh<|v9 (jj TF rfl B.bn jK<|xn<|qv 9)<|jj TH rfl B.bi gB<|xn<|qv 9)<|qg<|zb<|zh<|bQ (qv 2) (jj eh rfl B.bj az<|xn<|qv 8)<|qv 4)⟩
def TJ:a9:=(zm (x8 (jT<|qo (aE<|qo (cI pI<|cB (qf 6)<|qf 7)<|qo (cI m9<|cB (qf 6)<|qf 7) jn) jn)<|qp 8)
 (zm (x8 (jT jn)<|qp 9)
 (zm (oh (gH<|qf 3) (qp 10)<|am (Fm (yB<|vg (ip false) (qf 6)<|qf 10)<|yB<|vg (ip false) (qf 7)<|qf 10) (kj<|jP jt (qf 9)<|qo (vg xM (vg gE (fP 10 0)<|fP 10 1)<|FI (yB<|vg (ip false) (qf 6)<|qf 10) (qf 6)<|qf 7) jn)<|kj<|jP jt (qf 8)<|bL<|qf 10)
 (zm (am (Fm (yB<|vg FP (rV 9)<|fQ 2)<|yB<|vg (ip false) (qf 7)<|qf 9) (aY<|qf 0) wm)
 (zm (kj<|jP jt (qf 8)<|qo (aE<|qo (cI Hs<|bL<|qf 9)<|qo (cI Ht<|bL<|qf 9) jn) jn)
 (aY<|aE<|qo (qf 2)<|qo (cI kw<|bL<|qf 8)<|bL<|qf 4))))))
def yD:a9:=(zm (am (Fm (yB<|vg FP (rV 9)<|fQ 2)<|yB<|vg (ip false) (qf 7)<|qf 9) (aY<|qf 0) wm)
 (zm (kj<|jP jt (qf 8)<|qo (aE<|qo (cI Hs<|bL<|qf 9)<|qo (cI Ht<|bL<|qf 9) jn) jn)
 (aY<|aE<|qo (qf 2)<|qo (cI kw<|bL<|qf 8)<|bL<|qf 4)))
def a6(nd:(plcs lk).Nodup){x y:Vs}(I:x∈lk)(J:y∈lk)(px:p=x.1\/p=x.2)(py:p=y.1\/p=y.2):x=y:=Decidable.byContradiction λc=>by have pm:=jc<|iL (zy nd) I J c;rw[qx,qx] at pm;have:=pm.nodup_iff.mp nd;rcases px with rfl|rfl<;>rcases py with e|e<;>simp[e] at this
def TK{l:List α}{a b:α}(h:l.Perm [a,b]):l=[a,b]\/l=[b,a]:=by
 cases l with
 |nil=>exact absurd h.length_eq (by simp)
 |cons u r=>
  rcases Am.mp (h.mem_iff.mp Aj) with rfl|e
  ·exact .inl (by rw[DM.mp<|List.Perm.cons_inv h])
  ·cases An.mp e;exact .inr (by rw[DM.mp<|List.Perm.cons_inv<|h.trans<|List.Perm.swap ..])
def ji(p q:Nat)(z:Vs):Bool:=!(decide (p=z.1\/p=z.2)||decide (q=z.1\/q=z.2))
def nL{z:Vs}:(!ji p q z)=true↔(p=z.1\/p=z.2)\/(q=z.1\/q=z.2):=by unfold ji;simp
def oz(p q:Nat)(z:Vs):Int:=(z.1:Int)+(z.2:Int)-(if p=z.1\/p=z.2 then(p:Int) else(q:Int))
def gA(p x:Nat)(z:Vs):Prop:=z=(p,x)\/z=(x,p)
def nQ{z:Vs}(h:p=z.1\/p=z.2):∃x,gA p x z:=by
 rcases h with rfl|rfl
 ·exact⟨z.2,.inl rfl⟩
 ·exact⟨z.1,.inr rfl⟩
def gA.mem{x:Nat}{z:Vs}(h:gA p x z):p=z.1\/p=z.2:=by rcases h with rfl|rfl;exact .inl rfl;exact .inr rfl
def gA.lf(I:∀c∈lk,c.1<c.2/\∃t n,wd[c.1]?=some (some<|.lf t n)/\wd[c.2]?=some (some<|.lf (!t) n)){x:Nat}{z:Vs}{n:Str}(h:gA p x z)(hz:z∈lk)(J:wd[p]?=some (some<|.lf t n)):wd[x]?=some (some<|.lf (!t) n):=by
 obtain⟨_,U,g,h1,h2⟩:=I z hz;rcases h with rfl|rfl
 ·rw[J] at h1;cases h1;exact h2
 ·rw[J] at h2;cases h2;rw[Dt];exact h1
def gA.plcs{x:Nat}{z:Vs}(h:gA p x z)(r:Vk):(z.1::z.2::r).Perm (p::x::r):=by
 rcases h with rfl|rfl
 ·exact .refl _
 ·exact .swap ..
def oM(nd:(plcs lk).Nodup){I J:Vs}(U:I∈lk)(j:J∈lk)(px:p=I.1\/p=I.2)(l:q=J.1\/q=J.2):
 (I=J/\(lk.filter λz=>!ji p q z)=[I])\/(I≠J/\lk.filter (ji p q)=(lk.filter λz=>decide (z≠I)&&decide (z≠J))/\((lk.filter λz=>!ji p q z)=[I,J]\/(lk.filter λz=>!ji p q z)=[J,I])):=by
 have key:∀z∈lk,(!ji p q z)=true↔z=I\/z=J:=λz g=>by
  rw[nL];constructor
  ·rintro(h|h)
   ·exact .inl<|a6 nd g U h px
   ·exact .inr<|a6 nd g j h l
  ·rintro(rfl|rfl)
   ·exact .inl px
   ·exact .inr l
 have nl:=zy nd;by_cases c:I=J
 ·refine .inl ⟨c,DM.mp<|(A4 (nl.filter _) (by simp)).mpr λz=>?_⟩;rw[AH,An];constructor
  ·rintro⟨h1,h2⟩;rcases (key z h1).mp h2 with e|e;exact e;exact e.trans c.symm
  ·rintro rfl;exact⟨U,(key _ U).mpr<|.inl rfl⟩
 ·refine .inr ⟨c,List.filter_congr λz g=>?_,TK<|(A4 (nl.filter _) (by simp[c])).mpr λz=>?_⟩
  ·have:=key z g;cases o:ji p q z with
   |true=>
    rw[o] at this;have:¬(z=I\/z=J):=λh=>by have:=this.mpr h;cases this
    simp at this;simp[this]
   |false=>
    rw[o] at this;rcases this.mp rfl with rfl|rfl<;>simp
  ·rw[AH];constructor
   ·rintro⟨h1,h2⟩;rcases (key z h1).mp h2 with rfl|rfl<;>simp
   ·intro h;have h:z=I\/z=J:=by simpa using h
    rcases h with rfl|rfl
    ·exact⟨U,(key _ U).mpr<|.inl rfl⟩
    ·exact⟨j,(key _ j).mpr<|.inr rfl⟩
def i7.loop(I:i7 wd lk){U g:Vs}(j:U∈lk)(l:g∈lk)(ne:U≠g){x:Nat}(o:gA p x U)(r:gA q y g){n:Str}(C:wd[p]?=some (some<|.lf t n))(T:wd[q]?=some (some<|.lf (!t) n))
 (pm:qs.Perm<|bM p q::(lk.filter λz=>decide (z≠U)&&decide (z≠g))++[bM x y]) (pw:qs.Pairwise bJ):i7 wd qs:=by
 have h1:=o.lf I.lkA j C;have h2:=r.lf I.lkA l T;refine I.of ((jc pm).trans ?_) (λc J=>?_) pw
 ·have e:=jc<|iL (zy I.lkN) j l ne;rw[qx,qx] at e;refine List.Perm.trans ?_ e.symm;refine List.Perm.trans ?_ (o.plcs _).symm;rw[DC,qx,zj,jy];refine(cX p q _).trans (List.Perm.cons _<|List.Perm.trans ?_<|(r.plcs _).symm.cons _);refine(List.Perm.cons q<|AU.trans<|cX x y _).trans ?_;exact List.Perm.swap ..
 ·rcases Ak.mp (pm.mem_iff.mp J) with J|J
  ·rcases Am.mp J with rfl|J
   ·exact iq C T
   ·exact I.lkA c (AH.mp J).1
  ·rw[An.mp J];exact iq h1 (by rw[Dt] at h2 ⊢;exact h2)
def TL{M:qk}{a c g r9:Addr}{r:Nat}{n:Str}(I:i7 wd lk)(j:wd[p]?=some (some<|.lf t n))(hr:wd[r]?=some (some<|.lf (!t) n))(s:qh L M)(hl:L l=some (.lst<|qt lk))(n8:L g=none)(g8:M g=some (.lst<|qt<|bM p r::lk.filter (ji p r)))(U:M r9=some (.lst<|((lk.filter λz=>!ji p r z).map<|oz p r).map Y.int))
 (q:∀Dd qs L',qh L L'->L' Dd=some (.lst<|qt qs)->i7 wd qs->En.rt (xc a Dd c) L'):
 yD En [some<|xc a l c,c1,some<|.ref a,some<|.ref l,some<|.ref c,c5,some<|.int (p:Int),some<|.int (r:Int),some<|.ref g,some<|.ref r9,nu] M:=by
 have big:=a_;have pl:∀l:Vh,(qt l).length=l.length:=λl=>Af ..;have z2:=I.ll;have wl:=I.wl;obtain⟨x0,o,px⟩:=bE<|(I.lkL p).mpr ⟨t,n,j⟩;obtain⟨y0,C,ry⟩:=bE<|(I.lkL r).mpr ⟨_,n,hr⟩;have back:En.rt (xc a l c) M:=q l lk M s (s _ _ hl) I;rcases oM I.lkN o C px ry with⟨_,e⟩|⟨ne,e1,T⟩
 ·rw[e] at U;exact qb U back
 obtain⟨x,ox⟩:=nQ px;obtain⟨y,oy⟩:=nQ ry;have fl:=B6 (λz=>decide (z≠x0)&&decide (z≠y0)) lk;rw[e1] at g8;have v1:oz p r x0=(x:Int):=by unfold oz;rw[AA px];rcases ox with rfl|rfl<;>simp only<;>lia
 have v2:oz p r y0=(y:Int):=by unfold oz;rw[Ay λh=>ne<|a6 I.lkN o C px h];rcases oy with rfl|rfl<;>simp only<;>lia
 have lt:∀p∈plcs lk,p<wd.length:=λp j=>by obtain⟨_,_,e⟩:=(I.lkL p).mp j;exact zn e
 have lp:=zn j;have lr:=zn hr;have lx:x<wd.length:=zn<|ox.lf I.lkA o j;have ly:y<wd.length:=zn<|oy.lf I.lkA C hr;have fin2:∀M',qh L M'->M' g=some (.lst<|qt<|bM p r::(lk.filter λz=>decide (z≠x0)&&decide (z≠y0))++[bM x y])->kw [.ref g] M' λz L'=>En.rt (.tup [.ref a,z,.ref c]) L':=λM' s' g'=>by
  have J:=λqs pm pw=>I.loop (qs:=qs) o C ne ox oy j hr pm pw;refine pX g' (λd hd=>?_) (zy ?_) (by rw[Ad,AF];show _+1+1<=_;lia) λD qs hD pm pw=>q D qs _ (s'.trans<|By hD) q9<|J qs pm pw
  ·rcases Ak.mp hd with hd|hd
   ·rcases Am.mp hd with rfl|hd
    ·show max _ _<_;lia
    ·have:=lt _ (jk (AH.mp hd).1).2;lia
   ·rw[An.mp hd];show max _ _<_;lia
  ·have e:=jc<|iL (zy I.lkN) o C ne;rw[qx,qx] at e;have:=(e.trans<|ox.plcs _).nodup_iff.mp I.lkN;rw[DC,qx,zj,jy];refine(((cX p r _).trans<|List.Perm.cons _<|List.Perm.trans ?_<|(oy.plcs _).symm.cons _).nodup_iff).mpr this;exact(List.Perm.cons r<|AU.trans<|cX x y _).trans (List.Perm.swap ..)
 have go:∀u v:Nat,bM u v=bM x y->M r9=some (.lst [.int (u:Int),.int (v:Int)])->yD En [some<|xc a l c,c1,some<|.ref a,some<|.ref l,some<|.ref c,c5,some<|.int (p:Int),some<|.int (r:Int),some<|.ref g,some<|.ref r9,nu] M:=λu v e U=>by refine qb U<|qb U ⟨rfl,rfl,JN (λ_=>back) λ_=>?_⟩;refine qr g8 (yK U (yK U (qr g8 ⟨by rw[pl,AF];exact big _ (by lia),?_⟩)));rw[m8,e,vz];exact fin2 _ (s.upd n8) q9
 rcases T with T|T
 ·rw[T] at U;exact go x y rfl (by rw[U,<-v1,<-v2];rfl)
 ·rw[T] at U;exact go y x (mv y x) (by rw[U,<-v1,<-v2];rfl)
def TM{a c:Addr}{r:Nat}{n:Str}(I:i7 wd lk)(hp:wd[p]?=some (some<|.lf t n))(hr:wd[r]?=some (some<|.lf (!t) n))(s0:qh L0 L)(hl:L0 l=some (.lst<|qt lk))
 (q:∀Dd qs L',qh L0 L'->L' Dd=some (.lst<|qt qs)->i7 wd qs->En.rt (xc a Dd c) L'):
 TJ En [some<|xc a l c,c1,some<|.ref a,some<|.ref l,some<|.ref c,c5,some<|.int (p:Int),some<|.int (r:Int),c8,c9,nu] L:=by
 have big:=a_;have pl:∀l:Vh,(qt l).length=l.length:=λl=>Af ..;have z2:=I.ll;intro U h8;rw[m8];intro J h9;have n8:=s0.none h8;have n9:=s0.none<|bO h9;have g:U≠J:=aP q9 h9;have s2:qh L0 (qi (qi L U<|.lst [f'<|bM p r]) J<|.lst []):=s0.trans<|(By h8).trans<|By h9;refine wb (s2 _ _ hl) λkeep kp=>kc ⟨λi C L'=>∃nu,C=[some<|xc a l c,c1,some<|.ref a,some<|.ref l,some<|.ref c,c5,some<|.int (p:Int),some<|.int (r:Int),some<|.ref U,some<|.ref J,nu]/\qh L0 L'/\L' U=some (.lst<|qt<|bM p r::(lk.take i).filter (ji p r))/\L' J=some (.lst<|(((lk.take i).filter λz=>!ji p r z).map<|oz p r).map Y.int),⟨_,rfl,s2,(qc g).trans q9,q9⟩,?_,?_,?_⟩
 ·rintro i C L' ⟨nu,rfl,s,_⟩;exact kp L' (by rw[s _ _ hl,s2 _ _ hl])
 ·rintro i y C L' hy ⟨nu,rfl,s,T,j⟩;rw[Au] at hy;obtain⟨z,ez,rfl⟩:=AB.mp hy;have f1:=B6 (ji p r)<|lk.take i;have f2:=B6 (λz=>!ji p r z)<|lk.take i;rw[AZ] at f1 f2;have et:lk.take (i+1)=lk.take i++[z]:=by rw[Bm,ez];rfl
  have yes:∀w:Int,ji p r z=false->oz p r z=w->fU L' J λys=>ys.length<sizeLine/\iO (λC L'=>∃nu,C=[some<|xc a l c,c1,some<|.ref a,some<|.ref l,some<|.ref c,c5,some<|.int (p:Int),some<|.int (r:Int),some<|.ref U,some<|.ref J,nu]/\qh L0 L'/\L' U=some (.lst<|qt<|bM p r::(lk.take<|i+1).filter (ji p r))/\L' J=some (.lst<|(((lk.take<|i+1).filter λz=>!ji p r z).map<|oz p r).map Y.int)) [some<|xc a l c,c1,some<|.ref a,some<|.ref l,some<|.ref c,c5,some<|.int (p:Int),some<|.int (r:Int),some<|.ref U,some<|.ref J,some<|f' z] (qi L' J<|.lst<|ys++[.int w]):=λw hk ho=>by
   refine qr j ⟨by rw[Af,Af];exact big _ (by lia),_,EK _,_,rfl,s.upd n9,?_,?_⟩
   ·rw[qc g,T,et,Br,B8 (by rw[hk];decide),B4,AC]
   ·rw[q9,et,Br,B9 (by rw[hk];rfl),B4,AI,AI,<-ho];rfl
  refine⟨rfl,rfl,?_⟩;show we (sQ (fW<|.int (p:Int))<|([.int (z.1:Int),.int (z.2:Int)]:List Y).map fW) _ _;rw[bV];refine zk (λo=>?_) λo=>?_
  ·refine qr j ⟨rfl,rfl,?_⟩;show we (sQ (fW<|.int (p:Int))<|([.int (z.1:Int),.int (z.2:Int)]:List Y).map fW) _ _;rw[bV];exact Pb o (yes _ (by unfold ji;rw[AK o];rfl) (by unfold oz;rw[AA o]))
  ·refine⟨rfl,rfl,?_⟩;show we (sQ (fW<|.int (r:Int))<|([.int (z.1:Int),.int (z.2:Int)]:List Y).map fW) _ _;rw[bV];refine zk (λcr=>?_) λcr=>?_
   ·refine qr j ⟨rfl,rfl,?_⟩;show we (sQ (fW<|.int (p:Int))<|([.int (z.1:Int),.int (z.2:Int)]:List Y).map fW) _ _;rw[bV];exact Pd o (yes _ (by unfold ji;rw[AK cr,Bool.or_true];rfl) (by unfold oz;rw[Ay o]))
   ·have hk:ji p r z=true:=by unfold ji;rw[AD o,AD cr];rfl
    refine qr T (qr T ⟨by rw[pl,AF];exact big _ (by lia),_,EK _,_,rfl,s.upd n8,?_,?_⟩)
    ·rw[q9,et,Br,B9 hk,B4,<-DC,vz]
    ·rw[qc<|AG g,j,et,Br,B8 (by rw[hk];decide),B4,AC]
 ·rintro C L' ⟨nu,rfl,s,T,j⟩;rw[pl,Bz] at T j;exact TL I hp hr s hl n8 T j q
inductive fB(ys:List Y)(L:qk)(Q:YK):Prop
 |mk:∀a l c,∀wd:List (VG),∀lk ct:Vh,∀num:Int,(ys=[xc a l c,.int num])->(L a=some (.lst<|jr wd))->(L l=some (.lst<|qt lk))->(L c=some (.lst<|qt ct))->(i7 wd lk)->((∀d∈ct,∃w,KW (jr wd) d.1 w/\KW (jr wd) d.2 w.turn))->(ct.length<=200)->(∀D fx L',qh L L'->L' D=some (.lst<|qt fx)->i7 wd fx->Q (xc a D c) L')->fB ys L Q
def TN:∀ys L Q,fB ys L Q->vd fz.1 11 ys L Q:=by
 rintro ys L Q ⟨a,l,c,wd,lk,ct,num,rfl,ha,hl,hc,I,hw,hz,q⟩;have big:=a_;have pl:∀l:Vh,(qt l).length=l.length:=λl=>Af ..;refine wb hc λkeep kp=>iw (λi T=>∃fs:Vh,T=qt fs/\fs.length<=i/\∀f∈fs,∃t n,wd[f.1]?=some (some<|.lf t n)/\wd[f.2]?=some (some<|.lf (!t) n)) (by rw[pl];exact big _ (by lia)) (kp _ rfl) ⟨[],rfl,Ap _,nofun⟩ ?_ ?_
 ·rintro i y T hy ⟨fs,rfl,lo,p⟩;rw[Au] at hy;obtain⟨f,r,rfl⟩:=AB.mp hy;obtain⟨w,h1,h2⟩:=hw f<|Az r;cases w with
  |leaf t n=>
   refine qb ha (qj (v4 h1.inv_lf) ⟨_,EK _,rfl,fs++[f],vz fs f,by rw[Ad];exact CY lo,λg U=>?_⟩);rcases Ak.mp U with U|U
   ·exact p g U
   ·rw[An.mp U];exact⟨t,n,h1.inv_lf,h2.inv_lf⟩
  |node e u v=>
   obtain⟨i',j',e1,_,_⟩:=h1.inv_nd;exact qb ha<|qj (v4 e1) ⟨_,EK _,rfl,fs,rfl,BV lo,p⟩
 rintro T ⟨fs,rfl,lo,p⟩ p5 a1;refine pD a1 λL5 s5 g5=>?_;intro p6 j;have s6:=s5.trans<|By (o:=.lst []) j;have C:=By (o:=.lst []) j _ _ g5;refine dy (n:=1) (m:=0) (by decide) C q9 (oD fs) .nil ?_;generalize qi L5 p6 (.lst [])=L6 at s6 C ⊢;cases fs with
 |nil=>exact mV s6<|q l lk L (EK _) hl I
 |cons f0 fs=>
  obtain⟨k,f,ek,hk,r⟩:=jU (l:=f0::fs) (BQ _) num;obtain⟨t,n,h1,h2⟩:=p f<|Az r;have em:num % ((qt<|f0::fs).length:Int)=(k:Int):=by rw[pl];exact ek
  refine qb C (yL (by rw[pl];exact DP.mpr<|BQ _) em<|qb C<|qj (jx<|gF r) ?_);exact TM I h1 h2 s6 hl λDd qs L' t1 t2 J=>xa<|q Dd qs L' t1 t2 J
def tZ(U:kh)(I:kh)(g:kh)(J:kh):RD "_law_crossed" eI 1 ["_law_web_here","_law_stir_here","_law_number_here","_law_k"] (λV=>FV V U/\Jd V I/\G' V g/\Je V J):=⟨_,λV B c _ _ _ _ _ _ _ j hN l=>(qa (S_ 2 hN<|C_ c.1 j<|v9 (qv 1) qd)<|qa (ky ya rfl (wu rfl B.bh<|xn<|qm js (qv 2) qd) (G_ 3 hN)<|qg<|S_ 0 hN<|C_ c.2.1 j<|v9 (qv 0)<|C_ c.2.2.1 j<|bQ (qv 2) (qv 3) qd)<|xw (zr (E_ l (qm js (qm vf (qv 2) qd) qd) qd) (qg<|S_ 0 hN<|C_ c.2.2.2 j<|v9 (qv 0)<|qm vf (qv 2) qd) za)<|qg<|zb<|qv 0)⟩
inductive fA(ys:List Y)(L:qk)(Q:YK):Prop
 |mk:∀a l c,∀wd:List (VG),∀lk ct:Vh,∀s:Int,(ys=[xc a l c,.int s])->(L a=some (.lst<|jr wd))->(L l=some (.lst<|qt lk))->(L c=some (.lst<|qt ct))->(i7 wd lk)->((∀d∈ct,∃w,KW (jr wd) d.1 w/\KW (jr wd) d.2 w.turn))->(ct.length<=200)->(∀D fx L',qh L L'->L' D=some (.lst<|qt fx)->i7 wd fx->Q (xc a D c) L')->fA ys L Q
def TQ:∀ys L Q,fA ys L Q->vd (tZ dI dD ij fB).1 4 ys L Q:=by
 rintro ys L Q ⟨a,l,c,C,lk,ct,s,rfl,ha,hl,hc,I,hw,hz,q⟩;refine⟨s,52813309,rfl,by decide,by decide,λnum _ _=>⟨(by decide:(0:Int)<4),⟨by show _<=num % 4;lia,by show num % 4<_;lia⟩,?_⟩⟩;refine iX (λi p T=>∃D U r,p=[some<|xc a D c,some<|.int s,some<|.int num,r]/\qh L T/\T D=some (.lst<|qt U)/\i7 C U) ⟨l,lk,_,rfl,EK _,hl,I⟩ ?_ ?_
 ·rintro i p T hi ⟨D,U,r,rfl,o,t,J⟩;exact⟨num,_,39373,rfl,by lia,by lia,by decide,by decide,λv _ _=>⟨a,D,c,C,U,v,rfl,o _ _ ha,t,J,λD' j g u1 u2 J'=>⟨_,EK _,D',j,_,rfl,o.trans u1,u2,J'⟩⟩⟩
 ·rintro p T ⟨D,U,r,rfl,o,t,J⟩;refine⟨λp g=>∃D U r,p=[some<|xc a D c,some<|.int s,some<|.int num,r]/\qh L g/\g D=some (.lst<|qt U)/\i7 C U,?_,?_⟩
  ·refine⟨⟨by decide,by decide⟩,(by decide:(0:Int)<8),zk (λ_=>?_) λ_=>⟨D,U,_,rfl,o,t,J⟩⟩;exact⟨⟨by decide,by decide⟩,a,D,c,C,U,ct,_,rfl,o _ _ ha,t,o _ _ hc,J,hw,hz,λD' j g u1 u2 J'=>⟨D',j,_,rfl,o.trans u1,u2,J'⟩⟩
  ·rintro p g ⟨D,U,r,rfl,o,t,J⟩;exact xa<|q D U g o t J
end L3
namespace L2
open PySem PySem.Spec PyProof.Rows
section
variable {w:Vw}
def uT{a:Addr}{Q:Option Obj->Vu->Prop}(h:Q (s.heap.get? a) s):wpAny M A (loadIfAlive a) Q E s:=by intro J I p;simp only[loadIfAlive,Sem.wp_loadIfAlive];exact h
abbrev jE(h:Vx)(z TI TO t:Addr)(b:Bool):Prop:=h.get? z=some {cls:=.type "zip",dict:=none,data:=.fields #[rawInt t,.bool b,.bool false,.ref TI,.ref TO],slots:=#[]}
def uH{z TI TO t:Addr}{b:Bool}{o:Obj}{Q:Bool->Vu->Prop}(hz:jE s.heap z TI TO t b)(I:s.heap.get? t=some o)(q:∀h',jE h' z TI TO t true->Heap.SameBut z s.heap h'->Q false {s with heap:=h'}):
 wpAny (model prog w) A (Builtin.SmallTypes.ownedTupleIsFree<|.ref z) Q E s:=by
 unfold Builtin.SmallTypes.ownedTupleIsFree;refine Aa<|AX hz rfl (x:=rawInt t) rfl ?_;show wpAny _ _ (loadIfAlive (t:Int).toNat >>= _) _ _ _;refine Aa<|uT ?_;rw[BB,I];refine Aa<|AX hz rfl (x:=.bool b) rfl ?_;cases b with
 |true=>
  dsimp only;rw[Ay (by decide)];exact Ai<|q s.heap hz ⟨rfl,λ_ _=>rfl⟩
 |false=>
  dsimp only;rw[AA (by decide)];exact Aa<|wpAny_setField_rec hz (by simp) λh' J U=>Ai<|q h' J U
def yu{z TI TO t:Addr}{c:Bool}{o:Obj}{k:Nat}{xs ys:Vj}{x y:Vt}(D:FQ z TI TO i1 i2 l1 l2)(hz:jE s.heap z TI TO t c)(r:s.heap.get? t=some o)(C:IsPair s.heap TI (.ref i1)<|.ref i2)
 (h1:dP t1 s.heap i1 l1 k) (h2:dP t2 s.heap i2 l2 k) (T:i6 t1 s.heap l1 xs) (q2:i6 t2 s.heap l2 ys) (hx:xs[k]?=some x) (hy:ys[k]?=some y)
 (q:∀h',jE h' z TI TO t true->dP t1 h' i1 l1 (k+1)->dP t2 h' i2 l2 (k+1)->IsPair h' s.heap.objs.size x y->
  (∀c o,c≠z->c≠i1->c≠i2->s.heap.get? c=some o->h'.get? c=some o)->Q (.ref s.heap.objs.size) {s with heap:=h'}):
 wpAny (model prog w) A (Builtin.«zip.__next__» ⟨[.ref z],[]⟩) (λxa s'=>∃v,xa=.done (.ret v)/\Q v s') E s:=by
 refine Aa (m:=field (.ref z) 2)<|AX hz rfl (x:=.bool false) rfl<|Aa (m:=field (.ref z) 3)<|AX hz rfl (x:=.ref TI) rfl<|Aa<|Bo C rfl ?_;refine Aa (m:=Builtin.SmallTypes.ownedTupleIsFree<|.ref z)<|uH hz r λg1 z1 I=>?_;simp only[BZ,if_false];refine Aa ?_;rw[<-Array.forIn_toList];simp only[Cq,Ds];refine Aa<|Aa<|A6<|Aa (m:=Builtin.SmallTypes.nextOf<|.ref i1)<|(h1.on λo e=>I.extBut _ _ D.n3 e).next (T.on λo e=>I.extBut _ _ D.n8 e) hx λg2 j J=>Ai<|Ai ?_;refine Aa<|Aa<|A6<|Aa (m:=Builtin.SmallTypes.nextOf<|.ref i2)<|dP.next (l:=l2) (i:=k) (xs:=ys) (x:=y) (t:=t2) (h2.on λo e=>J.extBut _ _ (AG D.n7)<|I.extBut _ _ D.n4 e) (q2.on λo e=>J.extBut _ _ D.n14<|I.extBut _ _ D.n12 e) hy λU p g=>Ai<|Ai<|Ai ?_;refine Aa (wpAny_newTuple (Ai ⟨_,rfl,?_⟩) (by show 2<=sizeLine;decide));have sz:U.objs.size=s.heap.objs.size:=by rw[g.1,J.1,I.1]
 have k4:∀c o,c≠z->c≠i1->c≠i2->s.heap.get? c=some o->(U.push {cls:=.type "tuple",data:=.seq #[x,y]}).get? c=some o:=λc o a1 a3 a4 e=>vb _<|g.extBut _ _ a4<|J.extBut _ _ a3<|I.extBut _ _ a1 e;have xa:=q (U.push {cls:=.type "tuple",data:=.seq #[x,y]}) (vb _<|g.extBut _ _ (AG D.n4)<|J.extBut _ _ (AG D.n3) z1) (j.on λo e=>vb _<|g.extBut _ _ D.n7 e) (p.on λo e=>vb _ e)
  (by rw[<-sz];exact xT _ rfl) k4
 show Q (.ref U.objs.size) _;rw[sz];exact xa
def zB{z TI TO t:Addr}{c:Bool}{o:Obj}{k:Nat}{xs ys:Vj}{Q:Fin->Vu->Prop}(hh:A.handled=none)(D:FQ z TI TO i1 i2 l1 l2)(hz:jE s.heap z TI TO t c)(ht:s.heap.get? t=some o)(hI:IsPair s.heap TI (.ref i1)<|.ref i2)
 (h1:dP t1 s.heap i1 l1 k) (h2:dP t2 s.heap i2 l2 k) (q1:i6 t1 s.heap l1 xs) (q2:i6 t2 s.heap l2 ys) (J:xs[k]?=none\/ys[k]?=none)
 (q:∀h' e,(∀c o,c≠z->c≠TO->c≠i1->c≠i2->s.heap.get? c=some o->h'.get? c=some o)->(∃o,h'.get? e=some o/\o.cls=.type "StopIteration")->E (.ref e) {s with heap:=h'}):
 wpAny (model prog w) A (Builtin.«zip.__next__» ⟨[.ref z],[]⟩) Q E s:=by
 refine Aa (m:=field (.ref z) 2)<|AX hz rfl (x:=.bool false) rfl<|Aa (m:=field (.ref z) 3)<|AX hz rfl (x:=.ref TI) rfl<|Aa<|Bo hI rfl ?_;refine Aa (m:=Builtin.SmallTypes.ownedTupleIsFree<|.ref z)<|uH hz ht λg1 z1 I=>?_;simp only[BZ,if_false];refine Aa ?_;rw[<-Array.forIn_toList];simp only[Cq,Ds];refine Aa<|Aa<|A6<|Aa (m:=Builtin.SmallTypes.nextOf<|.ref i1) ?_;have U:=h1.on λo e=>I.extBut _ _ D.n3 e;have g:=q1.on λo e=>I.extBut _ _ D.n8 e;cases j:xs[k]? with
 |none=>exact dP.stop hh U g j λg2 e s2 p=>q g2 e (λc o r _ C _ w=>s2 _ _ C<|I.extBut _ _ r w) p
 |some x=>
  have hy:ys[k]?=none:=by rcases J with h|h;rw[j] at h;cases h;exact h
  refine dP.next U g j λg2 a2 T=>Ai<|Ai ?_;refine Aa<|Aa<|A6<|Aa (m:=Builtin.SmallTypes.nextOf<|.ref i2)<|dP.stop (t:=t2) (l:=l2) (i:=k) (xs:=ys) hh (h2.on λo e=>T.extBut _ _ (AG D.n7)<|I.extBut _ _ D.n4 e) (q2.on λo e=>T.extBut _ _ D.n14<|I.extBut _ _ D.n12 e) hy λg4 e s4 p=>?_;exact q g4 e (λc o r _ C a4 w=>s4 _ _ a4<|T.extBut _ _ C<|I.extBut _ _ r w) p
def ZS(t1 t2:Bool)(z TI TO i1 i2 l1 l2 B:Addr)(i:Nat)(h:Vx):Prop:=
 ((IsZip h z TI TO .none/\∃a b,IsPair h TO a b)\/∃t c u v,B<=t/\jE h z TI TO t c/\IsPair h t u v)/\IsPair h TI (.ref i1) (.ref i2)/\dP t1 h i1 l1 i/\dP t2 h i2 l2 i
structure ZB(z TI TO i1 i2 l1 l2 B:Addr):Prop where
 ap:FQ z TI TO i1 i2 l1 l2
 d1:TI≠TO
 d2:TI≠i1
 d3:TI≠i2
 lt:∀c∈[z,TI,TO,i1,i2],c<B
section
variable {z TI TO B:Addr}{xs ys:Vj}
def ZS.keep(st:ZS t1 t2 z TI TO i1 i2 l1 l2 B i h)(k:∀b o,b∈[z,TI,TO,i1,i2]\/B<=b->h.get? b=some o->h'.get? b=some o):ZS t1 t2 z TI TO i1 i2 l1 l2 B i h':=by
 obtain⟨J,U,g,j⟩:=st;refine⟨?_,k _ _ (.inl (by simp)) U,g.on λo e=>k _ o (.inl (by simp)) e,j.on λo e=>k _ o (.inl (by simp)) e⟩;rcases J with⟨a,u,v,b⟩|⟨t,c,u,v,I,a,b⟩
 ·exact .inl ⟨k _ _ (.inl (by simp)) a,u,v,k _ _ (.inl (by simp)) b⟩
 ·exact .inr ⟨t,c,u,v,I,k _ _ (.inl (by simp)) a,k _ _ (.inr I) b⟩
def ZS.type(st:ZS t1 t2 z TI TO i1 i2 l1 l2 B i s.heap):s.TypeIs (.ref z) "zip" := by
 rcases st.1 with⟨a,_⟩|⟨t,c,u,v,I,a,b⟩
 ·exact⟨_,a,rfl⟩
 ·exact⟨_,a,rfl⟩
def TR{x y:Vt}{Q:Vp->Vu->Prop}(D:ZB z TI TO i1 i2 l1 l2 B)(hB:B<=s.heap.objs.size)(st:ZS t1 t2 z TI TO i1 i2 l1 l2 B i s.heap)(p:i6 t1 s.heap l1 xs)(r:i6 t2 s.heap l2 ys)(C:xs[i]?=some x)(T:ys[i]?=some y)
 (q:∀h',ZS t1 t2 z TI TO i1 i2 l1 l2 B (i+1) h'->IsPair h' s.heap.objs.size x y->(∀c o,c∉[z,TI,TO,i1,i2]->s.heap.get? c=some o->h'.get? c=some o)->Q (some<|.ref s.heap.objs.size) {s with heap:=h'}):
 wpAny (model prog w) A (pyNext<|.ref z) Q E s:=by
 have hT:=st.type;obtain⟨s1,U,s3,s4⟩:=st;unfold pyNext;refine Aa<|wpAny_attempt<|wpAny_callSpecial?_slot (name:="__next__") hT Fh<|wpAny_call_entry Fh hT F.entry_zip_next ?_<|F.args_zip_next_1 _;have ne:∀{c d:Addr},c∈[z,TI,TO,i1,i2]->B<=d->d≠c:=λh1 h2 z=>by have:=D.lt _ h1;rw[z] at h2;exact absurd h2<|Nat.not_le.mpr this
 rcases s1 with⟨a,u,v,b⟩|⟨t,c,u,v,g,a,b⟩
 ·refine P8 D.ap a U b s3 s4 p r C T λh' g1 g2 g3 l j J=>Ai<|q h' ⟨.inr ⟨_,false,x,y,hB,g1,j⟩,J _ _ D.ap.n1 D.d1 D.d2 D.d3 U,g3,l⟩ j λc o I e=>?_;simp only[Am,Bx,or_false,not_or] at I;exact J c o I.1 I.2.2.1 I.2.2.2.1 I.2.2.2.2 e
 ·refine yu D.ap a b U s3 s4 p r C T λh' g1 g3 l j J=>Ai<|q h' ⟨.inr ⟨t,true,u,v,g,g1,J _ _ (ne (by simp) g) (ne (by simp) g) (ne (by simp) g) b⟩,J _ _ D.ap.n1 D.d2 D.d3 U,g3,l⟩ j λc o I e=>?_;simp only[Am,Bx,or_false,not_or] at I;exact J c o I.1 I.2.2.2.1 I.2.2.2.2 e
def TU{Q:Vp->Vu->Prop}(g:A.handled=none)(D:ZB z TI TO i1 i2 l1 l2 B)(st:ZS t1 t2 z TI TO i1 i2 l1 l2 B i s.heap)(j:i6 t1 s.heap l1 xs)(l:i6 t2 s.heap l2 ys)(I:xs[i]?=none\/ys[i]?=none)
 (q:∀h',(∀c o,c∉[z,TI,TO,i1,i2]->s.heap.get? c=some o->h'.get? c=some o)->Q none {s with heap:=h'}):wpAny (model prog w) A (pyNext<|.ref z) Q E s:=by
 have p:=st.type;obtain⟨s1,r,C,s4⟩:=st;unfold pyNext;refine Aa<|wpAny_attempt<|wpAny_callSpecial?_slot (name:="__next__") p Fh<|wpAny_call_entry Fh p F.entry_zip_next ?_<|F.args_zip_next_1 _;have xa:∀h' e,(∀c o,c≠z->c≠TO->c≠i1->c≠i2->s.heap.get? c=some o->h'.get? c=some o)->(∃o,h'.get? e=some o/\o.cls=.type "StopIteration")->wpAny (model prog w) A (isInstance (.ref e) (.type "StopIteration") >>= λb=>if b=true then pure none else throw (.ref e)) Q E {s with heap:=h'}:=λh' e gk he=>by obtain⟨o,ho,U⟩:=he;refine Aa<|wpAny_isInstance (T:="StopIteration") (b:=true) ⟨o,ho,U⟩ isSubtype_stop<|Ai<|q h' λc o J e=>?_;simp only[Am,Bx,or_false,not_or] at J;exact gk c o J.1 J.2.2.1 J.2.2.2.1 J.2.2.2.2 e
 rcases s1 with⟨a,u,v,b⟩|⟨t,c,u,v,hb,a,b⟩
 ·exact P9 g D.ap a r b C s4 j l I xa
 ·exact zB g D.ap a b r C s4 j l I xa
end
end
inductive tQ:Hp->List Addr->List (V×V)->Hp->Prop
 |nil {H:Hp}:tQ H [] [] H
 |snoc {H H1:Hp} {ps:List Addr} {vs:List<|V×V} {p:Addr} {v:V×V}:tQ H ps vs H1->H1 p=none->tQ H (ps++[p]) (vs++[v]) (upd H1 p<|.tup [v.1,v.2])
def TX{a b:Addr}{o u:HO}(h:a≠b):upd (upd H a o) b u=upd (upd H b u) a o:=by
 funext c;by_cases I:c=a
 ·subst I;rw[ql h,zg,zg]
 ·by_cases J:c=b
  ·subst J;rw[zg,ql I,zg]
  ·rw[ql J,ql I,ql I,ql J]
def Sq.new{K:Ah}{a p:Addr}{o:HO}(h:Sq t K H a xs)(I:H p=none):Sq t K (upd H p o) a xs:=by
 have rd:∀u,Rd H a u->Rd (upd H p o) a u:=λu r=>by
  rcases r with r|⟨c,r⟩
  ·exact .inl (by rw[ql<|zo r I];exact r)
  ·exact .inr ⟨c,by rw[ql<|zo r I];exact r⟩
 cases t with|false=>exact h.imp (rd _) id|true=>exact h.imp (rd _) id
section
variable {σ:L2.St}{z TI TO S:Addr}{ys:Vz}{R:Result->Vu->Prop}{res:Vt}
def TY(hh:A.handled=none)(D:ZB z TI TO i1 i2 l1 l2<|S+1)(hS:S∉[z,TI,TO,i1,i2])(hR:∀s' G ps,qw X pins σ (upd G S<|.lst<|ps.map V.ref) s'->tQ H ps (xs.zip ys) G->G S=none->R (.ok<|.ret res) s'):
 ∀(k i:Nat) (s:Vu) (G:Hp) (ps:List Addr),min xs.length ys.length-i=k->i<=min xs.length ys.length->qw X pins σ (upd G S<|.lst<|ps.map V.ref) s->(∀b∈[z,TI,TO,i1,i2],lW X pins (upd G S<|.lst<|ps.map V.ref) b)->ZS t1 t2 z TI TO i1 i2 l1 l2 (S+1) i s.heap->tQ H ps ((xs.zip ys).take i) G->G S=none->Sq t1 X.K G l1 xs->Sq t2 X.K G l2 ys->ps.length=i->
  codeAny (model X.prog X.w) A (.builtin "list.extend.loop" ⟨[.ref S,.ref z,res],[]⟩) R s:=by
 have zl:(xs.zip ys).length=min xs.length ys.length:=De;intro k
 induction k with
 |zero=>
  intro i s G ps hk hi I hf st nt j J U hl;have hi:min xs.length ys.length<=i:=by lia
  obtain⟨a2,p,p1,_⟩:=I.seq<|J.new j;obtain⟨a3,t,p2,_⟩:=I.seq<|U.new j;have e1:=p.length;have e2:=t.length;refine codeAny_builtin F.entry_extend_loop ?_;rw[Fa Fe _];rw[AS (by lia)] at nt;refine Aa (m:=pyNext<|.ref z) (TU hh D st p1 p2 (by rcases Nat.le_total xs.length ys.length with h|h;exact .inl (by simp;lia);exact .inr (by simp;lia)) λh' kk=>Ai<|hR _ G ps (I.turnedL (t':=s.toks) (fp:=[z,TI,TO,i1,i2]) kk hf) nt j)
 |succ k ih=>
  intro i s G ps hk hi I hf st nt j J U hl;obtain⟨a2,p,p1,z1⟩:=I.seq<|J.new j;obtain⟨a3,t,p2,_⟩:=I.seq<|U.new j;have hx:xs[i]?=some (xs[i]'(by lia)):=Al (by lia);have hy:ys[i]?=some (ys[i]'(by lia)):=Al (by lia);have ez:(xs.zip ys).take (i+1)=(xs.zip ys).take i++[(xs[i]'(by lia),ys[i]'(by lia))]:=by rw[Bm,(DY (z:=(xs[i]'(by lia),ys[i]'(by lia)))).mpr ⟨hx,hy⟩];rfl
  generalize xs[i]'(by lia)=x at hx ez;generalize ys[i]'(by lia)=y at hy ez;obtain⟨ux,a4,a5⟩:=p.get hx;obtain⟨uy,ac,al⟩:=t.get hy;obtain⟨_,_,_,_,_,eS⟩:=I.lstM (l:=S) zg;have lS:S<s.heap.objs.size:=wh eS;refine codeAny_builtin F.entry_extend_loop ?_;rw[Fa Fe _];refine Aa (m:=pyNext<|.ref z)<|TR D lS st p1 p2 (x:=ux) (y:=uy) (by simpa using a4) (by simpa using ac) λh' au tp kk=>?_;have I1:=I.turnedN (t':=s.toks) (fp:=[z,TI,TO,i1,i2]) (h':=h') (a:=s.heap.objs.size) (o:=.tup [x,y]) kk hf (Ap _) ⟨by show 2<=sizeLine;decide,[ux,uy],.cons a5<|.cons al .nil,⟨_,tp,rfl,_,rfl⟩⟩;have C:S≠s.heap.objs.size:=A9 lS;have gP:G s.heap.objs.size=none:=by have:=I.hok.fresh<|Ap s.heap.objs.size;rw[ql<|AG C] at this;exact this
  generalize s.heap.objs.size=P at I1 C gP lS tp ⊢;have T:upd (upd G S<|.lst<|ps.map V.ref) P (.tup [x,y]) S=some (.lst<|ps.map V.ref):=by rw[ql C,zg]
  obtain⟨_,a1,n,r,hn,e⟩:=I1.lstM T;rw[Af,hl] at hn;have I2:=I1.lset (its':=a1++[.ref P]) (f:=(·.push (.ref P))) (ys:=(ps++[P]).map V.ref) (t':=s.toks) T e (by simp) (by rw[AI];exact r.append<|.cons rfl .nil) (by rw[Af,Ad,CL];lia);rw[TX C,yc] at I2;have li:a1.length=i:=by lia
  refine Aa (m:=updateSeq S (·.push (.ref P))) (wpAny_updateSeq (s:={s with heap:=h'}) e rfl (Ai ⟨plainId_quiet Fe _,ih (i+1) _ (upd G P<|.tup [x,y]) (ps++[P]) (by lia) (by lia) I2 (λb g=>?_) (au.keep λb o g q=>?_) (by rw[ez];exact nt.snoc gP) (by rw[ql C];exact j) (J.new gP) (U.new gP) (by rw[Ad,hl];rfl)⟩)
   (by rw[Aw];lia) (by rw[Bp,Aw];lia))
  ·obtain⟨f0,f1⟩:=hf b g;have bl:=D.lt b g;have bS:b≠S:=λz=>hS<|z▸g;refine⟨?_,f1⟩;rw[ql bS,ql (by lia)];rw[ql bS] at f0;exact f0
  ·have bS:S≠b:=by
    rcases g with g|g
    ·exactλz=>hS<|z▸g
    ·lia
   exact(At _ _ bS).trans q
def zD:typeLookup (.type "zip") "__len__" = pure none:=by rw[typeLookup_type,builtinLookup_eq_fast];kernel_rfl
def vI:typeLookup (.type "zip") "__length_hint__" = pure none:=by rw[typeLookup_type,builtinLookup_eq_fast];kernel_rfl
def TZ{r:Addr}{Q:Bool->Vu->Prop}(J:s.TypeIs (.ref r) "zip")(h:Q true s):wpAny (model X.prog X.w) A (Builtin.List.listLengthHint<|.ref r) Q E s:=by unfold Builtin.List.listLengthHint;refine Aa<|wpAny_specialOf J zD ?_;refine wpAny_ite_split (λI=>absurd I (by decide)) λ_=>?_;refine wpAny_ite_split (λI=>absurd I (by decide)) λ_=>?_;refine Aa<|wpAny_specialOf J vI<|Ai h
def rp(hh:A.handled=none)(I:qw X pins σ H s)(D:ZB z TI TO i1 i2 l1 l2 s.heap.objs.size)(hz:IsZip s.heap z TI TO .none)(hf:∀b∈[z,TI,TO,i1,i2],lW X pins H b)(st:ZS t1 t2 z TI TO i1 i2 l1 l2 (s.heap.objs.size+1) 0 s.heap)(t:Sq t1 X.K H l1 xs)(C:Sq t2 X.K H l2 ys)
 (q:∀s' G ps,qw X pins σ (upd G s.heap.objs.size<|.lst<|ps.map V.ref) s'->tQ H ps (xs.zip ys) G->G s.heap.objs.size=none->Q (.ref s.heap.objs.size) s'):wpAny (model X.prog X.w) A (call (.type "list") [.ref z]) Q E s:=by
 have hn:=I.hok.fresh<|Ap s.heap.objs.size;have I0:=I.laid (t':=s.toks) (h':=s.heap.push {cls:=.type "list",data:=.seq #[]}) (a:=s.heap.objs.size) (o:=.lst []) (λb u e=>vb _ e) (Ap _) ⟨Bb _,[],0,.nil,xT _ rfl⟩;have hS:s.heap.objs.size∉[z,TI,TO,i1,i2]:=λh=>Cz _<|D.lt _ h;have D':ZB z TI TO i1 i2 l1 l2 (s.heap.objs.size+1):=⟨D.ap,D.d1,D.d2,D.d3,λc hc=>BC<|D.lt c hc⟩;refine callType_codes (Q₁:=λobj U=>obj=.ref s.heap.objs.size/\U={s with heap:=s.heap.push {cls:=.type "list",data:=.seq #[]}}) F.called_list (F.typeCall_list_1 _) F.entry_list_init (code_list_new _ ⟨rfl,rfl⟩) λobj U g=>?_;obtain⟨rfl,rfl⟩:=g;have l:(s.heap.push {cls:=.type "list",data:=.seq #[]}).get? s.heap.objs.size=some {cls:=.type "list",data:=.seq #[]}:=xT _ rfl;have st0:=st.keep (h':=s.heap.push {cls:=.type "list",data:=.seq #[]}) λb o _ e=>vb _ e;refine⟨⟨_,l,rfl⟩,F.args_list_init_2 _ _,?_⟩;have key:∀(h:Vx) (c:Nat),h.get? s.heap.objs.size=some {cls:=.type "list",data:=.seq #[] c}->(∀b o,b≠s.heap.objs.size->(s.heap.push {cls:=.type "list",data:=.seq #[]}).get? b=some o->h.get? b=some o)->
  codeAny (model X.prog X.w) A.in1 (.builtin "list.extend.loop" ⟨[.ref s.heap.objs.size,.ref z,.none],[]⟩) (wants (λr j=>r=.none/\Q (.ref s.heap.objs.size) j) E) {s with heap:=h}:=λh c e k=>by
  refine TY (X:=X) (pins:=pins) (σ:=σ) (H:=H) (xs:=xs) (ys:=ys) (A:=A.in1) hh D' hS (λs' G ps I' nt gS=>⟨rfl,q s' G ps I' nt gS⟩) _ 0 _ H [] rfl (Bb _) ?_ (λb J=>?_) (st0.keep λb o J e=>k b o ?_ e) .nil hn t C rfl
  ·exact I.laid (t':=s.toks) (h':=h) (a:=s.heap.objs.size) (o:=.lst []) (λb u e=>k b u (A9<|wh e)<|vb _ e) (Ap _) ⟨Bb _,[],c,.nil,e⟩
  ·obtain⟨f0,f1⟩:=hf b J;exact⟨by rw[ql<|A9<|D.lt b J];exact f0,f1⟩
  ·rcases J with J|J
   ·exact A9<|D.lt b J
   ·exact CH J
 show wpAny _ _ (Builtin.List.listItems (.ref s.heap.objs.size) >>= λold=>Builtin.List.listUpdate (.ref s.heap.objs.size) (λ_=>#[]) >>= λ_=>letGo old.toList.reverse >>= λ_=>Builtin.List.listExtendWith (.ref s.heap.objs.size) (.ref z) .none) _ _ _;refine Aa ?_;unfold Builtin.List.listItems;refine Aa<|Bo l rfl<|Ai ?_;refine Aa (m:=updateSeq s.heap.objs.size λ_=>#[])<|wpAny_updateSeq l rfl ?_;have e2:=Bs (Obj.mapSeq λ_=>(#[]:Vj)) l rfl;have p:∀b o,b≠s.heap.objs.size->(s.heap.push {cls:=.type "list",data:=.seq #[]}).get? b=some o->((s.heap.push {cls:=.type "list",data:=.seq #[]}).update s.heap.objs.size<|Obj.mapSeq λ_=>(#[]:Vj)).get? b=some o:=λb o J e=>(At _ _<|AG J).trans e;generalize (s.heap.push {cls:=.type "list",data:=.seq #[]}).update s.heap.objs.size (Obj.mapSeq λ_=>(#[]:Vj))=g2 at e2 p ⊢;refine Aa<|wpAny_letGo ?_;unfold Builtin.List.listExtendWith;have a1:=st0.keep (h':=g2) λb o J e=>p b o (by rcases J with J|J;exact A9<|D.lt b J;exact CH J) e;have T2:=a1.type (s:={s with heap:=g2});refine Aa<|wpAny_typeOf (T:="zip") T2 ?_;have sr:Builtin.List.listSameRef (.ref s.heap.objs.size) (.ref z)=false:=by have:s.heap.objs.size≠z:=λe=>hS (by rw[e];simp);simp[Builtin.List.listSameRef,this]
 rw[Ay (by rw[sr];decide)];refine Aa<|wpAny_pyIter_zip (s:={s with heap:=g2}) (p _ _ (A9<|D.lt z (by simp))<|vb _ hz) ?_;refine Aa<|A6<|TZ T2 ?_;rw[AA (by decide)];refine Aa<|Bv<|Aa ?_;show wpAny _ _ (updateSeq s.heap.objs.size (·.push .none) >>= λ_=>updateSeq s.heap.objs.size (·.pop)) _ _ _;refine Aa<|wpAny_updateSeq (s:={s with heap:=g2}) e2 rfl ?_;have e3:=Bs (Obj.mapSeq (·.push Value.none)) e2 rfl;refine wpAny_updateSeq (hz:=by seq_fits) e3 rfl ?_;have e4:=Bs (Obj.mapSeq (·.pop)) e3 rfl;exact Ai ⟨plainId_quiet Fe _,key _ _ e4 λb o J e=>(At _ _<|AG J).trans<|(At _ _<|AG J).trans<|p b o J e⟩
end
def T3(X:Cx)(ta:TA):TE:=λσ H Q=>ta σ H λvs H1=>∃t1 t2 a b xs ys,vs=[.ref a,.ref b]/\Sq t1 X.K H1 a xs/\Sq t2 X.K H1 b ys/\∀S G ps,tQ H1 ps (xs.zip ys) G->G S=none->Q (.ref S) (upd G S<|.lst<|ps.map V.ref)
def wX{a b:Expr}{ta:TA}{ps:Pos}(hc:X.calm=true)(t:Gl X "list")(C:X.mg "list"=none)(T:Gl X "zip")(a1:X.mg "zip"=none)(ha:PA X [a,b] ta)(hs:starEach [a,b] X.env=[(false,eval a X.env),(false,eval b X.env)]:=by rfl)
 (j:starEach [b] X.env=[(false,eval b X.env)]:=by rfl):PE X (.Call (.Name "list" p1) [.Call (.Name "zip" p2) [a,b] [] ps] [] pos) (T3 X ta):=by
 intro J s σ H Q I h;refine wpAny_Call_Name_kw<|e9 I t C vk ?_;refine callWith_type1 ?_ rfl rfl;show wpAny _ _ (spliced<|(false,eval (.Call (.Name "zip" p2) [a,b] [] ps) X.env)::[]) _ _ s;refine EQ ?_;refine wpAny_Call_Name_kw<|e9 I T a1 Qa ?_;refine callWith_type1 (aI (ha ps J s σ H _ I h) λus U ⟨vs,H1,g,r1,q1⟩=>?_) (by rw[hs,j]) (by rw[j];rfl);obtain⟨t1,t2,l1,l2,xs,ys,e,hx,hy,q⟩:=q1;subst e;obtain⟨u1,u2,rfl,a2,a3⟩:=zu.two r1;cases a2;cases a3;obtain⟨au,_,w1,_⟩:=g.seq hx;obtain⟨av,_,w2,_⟩:=g.seq hy;have a4:l1<U.heap.objs.size:=by
  cases t1 with
  |false=>obtain⟨o,e,_⟩:=w1;exact wh e
  |true=>obtain⟨o,e,_⟩:=w1;exact wh e
 have a5:l2<U.heap.objs.size:=by
  cases t2 with
  |false=>obtain⟨o,e,_⟩:=w2;exact wh e
  |true=>obtain⟨o,e,_⟩:=w2;exact wh e
 refine P_ w1 w2 λg1 gz gI gO l p gk=>Ff ?_;have I2:qw X J σ H1 {U with heap:=g1}:=g.kept (t':=U.toks) gk;refine rp (s:={U with heap:=g1}) (g.ok.hd hc) I2 ⟨?_,?_,?_,?_,λc hc=>?_⟩ gz (λc hc=>?_) ⟨.inl ⟨gz,_,_,gO⟩,gI,l,p⟩ hx hy λs' G ps I' nt gS=>⟨.ref _,_,I',rfl,q _ G ps nt gS⟩
 ·have ac:@LT.lt Nat instLTNat l1 U.heap.objs.size:=a4;have al:@LT.lt Nat instLTNat l2 U.heap.objs.size:=a5;constructor<;>exact vD (by lia)
 ·exact vD (by lia)
 ·exact vD (by lia)
 ·exact vD (by lia)
 ·simp only[Am,Bx,or_false] at hc;rcases hc with rfl|rfl|rfl|rfl|rfl
  ·exact wh gz
  ·exact wh gI
  ·exact wh gO
  ·obtain⟨o,e,_⟩:=l.ob;exact wh e
  ·obtain⟨o,e,_⟩:=p.ob;exact wh e
 ·have r:U.heap.objs.size<=c:=by simp only[Am,Bx,or_false] at hc;rcases hc with rfl|rfl|rfl|rfl|rfl<;>exact r_ (by simp +arith only)
  exact g.fpOk r<|g.hok.fresh r
end L2
namespace L3
open PySem L2
def T4{H1:Hp}{ps:List Addr}{vs:List<|V×V}(n:tQ H ps vs H1)(J:zw G H L):jf H H1/\zw G H1 L/\Paired (λp (v:V×V)=>H1 p=some (.tup [v.1,v.2])) ps vs:=by
 induction n with
 |nil=>exact⟨EL _,J,.nil⟩
 |snoc _ I U=>
  obtain⟨a,b,c⟩:=U;exact⟨a.trans<|EN I,b.skip I,Words.Paired.app (ER c λq v e=>(ql<|zo e I).trans e)<|.cons zg .nil⟩
theorem ss{G:G3}{H H1:Hp}(t:jf H H1):∀{xs ys:List Y} {us vs:Vz} {ps:List Addr},xt G H xs us->xt G H ys vs->Paired (λp (v:V×V)=>H1 p=some (.tup [v.1,v.2])) ps (us.zip vs)->xt G H1 (amp xs ys) (ps.map V.ref)
 |[],ys,us,vs,ps,h1,h2,h3=>by cases h1;cases h3;rfl
 |x::xs,[],us,vs,ps,h1,h2,h3=>by cases h2;rw[List.zip_nil_right] at h3;cases h3;rfl
 |x::xs,y::ys,us,vs,ps,⟨u,I,J,U,h1⟩,⟨v,g,j,l,h2⟩,h3=>by subst J j;cases h3 with|cons a b=>exact⟨_,_,rfl,⟨_,_,rfl,dS.of a,⟨_,_,rfl,U.ts t,_,_,rfl,l.ts t,rfl⟩⟩,ss t h1 h2 b⟩
def xI(ta:fS)(τ:jo)(L:qk)(Q:YK):Prop:=ta τ L λvs L1=>match vs with
 |[x,y]=>nN L1 x λxs=>nN L1 y λys=>∀p,L1 p=none->Q (.ref p) (qi L1 p<|.lst<|amp xs ys)
 |_=>False
def T5{a b:Expr}{ta:fS}{ps:Pos}(hc:X.calm=true)(U:Gl X "list")(g:X.mg "list"=none)(j:Gl X "zip")(l:X.mg "zip"=none)(ha:QA X [a,b] ta)(hs:starEach [a,b] X.env=[(false,eval a X.env),(false,eval b X.env)]:=by rfl)
 (o:starEach [b] X.env=[(false,eval b X.env)]:=by rfl):QE X (.Call (.Name "list" p1) [.Call (.Name "zip" p2) [a,b] [] ps] [] pos) (xI ta):=EO (wX hc U g j l ha hs o) λσ H Q τ L Q3 rs rl z k=>
 ⟨τ,L,_,rs,rl,z,λus H1 ys L1 t1 I p r=>by
  split at r
  ·rename_i x y;obtain⟨xs,ex,z2⟩:=bN r;obtain⟨zs,ez,z3⟩:=bN z2;obtain⟨u,v,rfl,r1,r2⟩:=p.inv2;obtain⟨b1,q1,t,rfl,s1,w1⟩:=IH I r1 ex;obtain⟨b2,q2,C,rfl,s2,w2⟩:=IH I r2 ez;refine⟨b1,b2,q1,q2,t,C,rfl,s1,s2,λS G ps nt T=>?_⟩;obtain⟨t2,J,pr⟩:=T4 nt I;exact k _ _ _ _ ((t1.trans t2).trans<|EN T) (J.newL T<|ss t2 w1 w2 pr) (by rfl) (z3 S<|J.none T)
  ·exact r.elim⟩
end L3
namespace L3
open PySem L2
open PySem L2 Words
theorem Paired.len{α β:Type}{F:α->β->Prop}:∀{xs:List α} {ys:List β},Paired F xs ys->xs.length=ys.length
 |_,_,.nil=>rfl
 |_,_,.cons _ r=>BM (· + 1)<|Paired.len r
def JU:Y->Bool
 |.non=>true
 |.int _=>true
 |.str _=>true
 |_=>false
def gR(L:qk):Nat->Y->Y->Prop
 |0,_,_=>False
 |n+1,x,y=>(JU x=true/\y=x)\/(∃xs ys,x=.tup xs/\y=.tup ys/\ys.length<=1000/\Paired (gR L n) xs ys)\/(∃a b xs ys,x=.ref a/\y=.ref b/\L a=some (.lst xs)/\L b=some (.lst ys)/\ys.length<=1000/\Paired (gR L n) xs ys)
def gR.flat{x:Y}(h:JU x=true):gR L (n+1) x x:=.inl ⟨h,rfl⟩
def gR.tup{xs:List Y}(h:Paired (gR L n) xs ys)(l:Nat.ble ys.length 1000=true:=by rfl):gR L (n+1) (.tup xs) (.tup ys):=.inr<|.inl ⟨xs,ys,rfl,rfl,Cp l,h⟩
theorem rT{L:qk}{n:Nat}:∀wd:List (VG),Paired (gR L<|n+2) (jr wd)<|jr wd
 |[]=>.nil
 |none::r=>.cons (.flat rfl)<|rT r
 |some (.lf t m)::r=>.cons (.tup<|.cons (.flat rfl)<|.cons (.flat rfl) .nil)<|rT r
 |some (.nd e i j)::r=>.cons (.tup<|.cons (.flat rfl)<|.cons (.flat rfl)<|.cons (.flat rfl) .nil)<|rT r
inductive wr(n:Nat)(ys:List Y)(L:qk)(Q:YK):Prop
 |mk:∀x y,(ys=[x,y])->(gR L n x y)->(Q (.bl true) L)->wr n ys L Q
def T6:∀ys L Q,¬wr 0 ys L Q:=λys L Q ⟨x,y,_,h,_⟩=>h
def tW(I:kh):RR "_law_moved" iZ 1 ["_law_rule","_law_at"] ["_law_rule","_law_at","_law_places","_law_arms"] I (λ_=>True):=⟨_,λV B c _ _ J _ _ _ _ _ _ g hN U=>(qa (zr (E_ U (J_ 0) jv) (qg<|zb<|zh<|bQ jv (jj sW rfl B.bn jK<|v9 (aF U (qv 1) (J_ 0) λ_ _=>rfl)<|aF U (qv 1) (J_ 0) λ_ _=>rfl)<|jj qI rfl B.bi gB<|v9 (aF U (qv 1) (J_ 0) λ_ _=>rfl)<|aF U (qv 1) (J_ 0) λ_ _=>rfl) za)<|qa (a8 ["_law_x"] (i:=2) hN rfl (Or.inl rfl) (E5 (by rfl)) rfl (rC<|aC (Ho _ _ _) (qv 0) (aV qd) bW) (xG 4) (λ_ _ _ _=>cg<|aB<|wo .int rfl B.bg rfl B.b_int wT<|qv 4) λ_ _ _ _=>(aF U (qv 1) (qv 4) λ_ _=>rfl))<|qa (a8 ["_law_x"] (i:=3) hN rfl (Or.inl rfl) (E5 (by rfl)) rfl (rC<|aC (Ho _ _ _) (qv 0) (aV qd) bW) (xG 4) (λ_ _ _ _=>cg<|aB<|wo .tuple rfl B.bg rfl B.b_tuple db<|qv 4) λ_ _ _ _=>(C_ J g<|v9 (qv 4)<|qv 1))<|qg<|zb<|vt Ta rfl B.b_tuple db<|xn<|qm ju (qm ju (jm<|xn<|J_ 0)<|qv 2)<|qv 3)⟩
theorem T7(n:Nat):∀ys L Q,bC (n+1) ys L Q->vd (tW<|bC n).1 4 ys L Q:=by
 rintro ys L Q ⟨R,d,g,f,rfl,hd,l,hr,q⟩;have big:=a_;by_cases U:∃a b,R=.link a b
 ·obtain⟨a,b,rfl⟩:=U;have v1:=l _ (gw _) a<|Aj ..;have v2:=l _ (gw _) b<|Ab _<|Aj ..;refine jd hd<|qj v1 ?_;refine jd hd<|qj v2 ?_;refine jd hd<|qj v1 ?_;refine jd hd<|qj v2 ?_;refine xa ?_;have e1:min (f a:Int) (f b:Int)=((min (f a) (f b):Nat):Int):=Sj _ _;have e2:max (f a:Int) (f b:Int)=((max (f a) (f b):Nat):Int):=Sk _ _;have q:Q (.tup [.str "link",.int ((min (f a) (f b):Nat):Int),.int ((max (f a) (f b):Nat):Int)]) L:=q;rw[<-e1,<-e2] at q;exact q
 have hk:FY R ≠ "link" := by cases R with|link a b=>exact absurd ⟨a,b,rfl⟩ U|ei r A=>show(Str.ofString "either") ≠ "link";decide +kernel|bo r A B=>show(Str.ofString "both") ≠ "link";decide +kernel|cu p s A B=>show(Str.ofString "cut") ≠ "link";decide +kernel
 have T:Q (.tup<|[.str<|FY R]++nY ((plR R).map f)++(aD R).map λB=>j8<|bv f B) L:=by cases R with|link a b=>exact absurd ⟨a,b,rfl⟩ U|ei r A=>exact q|bo r A B=>exact q|cu p s A B=>exact q
 have vp:∀x∈plR R,ve g (.inl (x:Int))=some (.int (f x:Int)):=l R<|gw R;have va:∀B∈aD R,v5 B<=n/\∀C∈df B,∀x∈plR C,ve g (.inl (x:Int))=some (.int (f x:Int)):=λB hB=>⟨by have:=qB hB;lia,λC hC=>l C<|aw (SX hB) hC⟩;have lp:(plR R).length<=2:=by cases R<;>simp[plR]
 have lA:(aD R).length<=2:=by cases R<;>simp[aD]
 rw[iY R];generalize plR R=P at vp T lp;generalize aD R=I at va T lA;generalize FY R=t at hk T;clear q l U hr;have e0:dW (Y.str t::(nY P++I.map j8)) 0=some (Y.str t):=jx (xs:=Y.str t::(nY P++I.map j8)) (j:=0) rfl;have ll:(nY P++I.map j8).length=P.length+I.length:=by rw[Ad,dE,Af]
 walk_at "w";rw[e0];refine dC (AD hk) ?_;refine⟨rq _ _,?_⟩;rw[mM];refine iw (λi J=>J=nY ((P.take i).map f)) (by rw[ll];exact big _ (by lia)) trivial rfl ?_ ?_
 ·rintro i y J hy rfl;rcases rN hy with⟨c,x,ex,rfl⟩|⟨c,B,eB,rfl⟩
  ·refine jd hd<|qj (vp x<|Az ex) ⟨_,EK _,rfl,?_⟩;rw[Bm,ex,AI,vF];rfl
  ·have e1:P.take (i+1)=P.take i:=by rw[AS (by lia),AS c]
   have z:iO (λJ L'=>L'=L/\J=nY ((P.take<|i+1).map f)) (nY<|(P.take i).map f) L:=⟨_,EK _,rfl,by rw[e1]⟩;rw[iY B];exact z
 rintro J rfl p1 h1;rw[ll,AS (by lia)];have s3:=By (o:=.lst<|nY<|P.map f) h1;have g3:qi L p1 (.lst<|nY<|P.map f) p1=some (.lst<|nY<|P.map f):=q9;refine⟨rq _ _,?_⟩;rw[mM];generalize qi L p1 (.lst<|nY<|P.map f)=L3 at s3 g3 ⊢;refine iw (λi J=>J=(I.take<|i-P.length).map λB=>j8<|bv f B) (by rw[ll];exact big _ (by lia)) trivial (by rw[Nat.zero_sub];rfl) ?_ ?_
 ·rintro i y J hy rfl;rcases rN hy with⟨c,x,ex,rfl⟩|⟨c,B,eB,rfl⟩
  ·exact⟨_,EK _,rfl,by rw[CM c,CM<|BK c]⟩
  ·obtain⟨h1,h2⟩:=va B<|Az eB;have z:bC n [j8 B,.ref d] L3 λz L4=>iO (λJ L'=>L'=L3/\J=(I.take<|i+1-P.length).map λB=>j8<|bv f B) (((I.take<|i-P.length).map λB=>j8<|bv f B)++[z]) L4:=by refine⟨B,d,g,f,rfl,s3 _ _ hd,h2,h1,_,EK _,rfl,?_⟩;rw[Nat.succ_sub c,Bm,eB,AI];rfl
   rw[iY B] at z ⊢;exact z
 rintro J rfl p4 h4;rw[ll,Bj,Bz];have a1:=aP g3 h4;have s4:=s3.trans<|By (o:=.lst<|I.map λB=>j8<|bv f B) h4;have g4:=(qc (o:=.lst<|I.map λB=>j8<|bv f B) a1).trans g3;have k4:qi L3 p4 (.lst<|I.map λB=>j8<|bv f B) p4=some (.lst<|I.map λB=>j8<|bv f B):=q9;generalize qi L3 p4 (.lst<|I.map λB=>j8<|bv f B)=L4 at s4 g4 k4 ⊢;walk_at "w";rw[e0];intro p2 h2;have s2:=By (o:=.lst [Y.str t]) h2;refine⟨_,_,q9,s2 _ _ g4,?_,λp3 h3=>?_⟩
 ·rw[dE,Af];exact BK (big _ (by show 1+P.length<=20000;lia))
 have s5:=s2.trans<|By (o:=.lst<|[Y.str t]++nY (P.map f)) h3;refine⟨_,_,q9,s5 _ _ k4,?_,λp5 h5=>?_⟩
 ·rw[Ad,dE,Af,Af];exact BK (big _ (by show 1+P.length+I.length<=20000;lia))
 exact qr q9<|mV ((s4.trans s5).trans<|By h5) T
def fj:RD "_law_number" ff 0 ["_law_x"] (λ_=>True):=⟨_,λV B c _ _ _ _ _ _ _ I hN J=>(qg<|zb<|rF (wo .int rfl B.bg rfl B.b_int wT<|qv 0)<|sK<|IA<|wo .bool rfl B.bg rfl B.b_bool OL<|qv 0)⟩
def sj(I:kh)(J:kh):RR "_law_alike" gv 2 ["_law_found","_law_due"] ["_law_found","_law_due","_law_k"] J (λV=>Jf V I):=⟨_,λV B c _ _ U _ _ _ _ _ _ j hN g=>(qa (zr (jY<|qv 1) (qg<|zb<|PD<|qv 0) za)<|qa (zr (aB<|wo .int rfl B.bg rfl B.b_int wT<|qv 1) (qg<|zb<|rF (C_ c j<|xn<|qv 0)<|sK<|sE (G6 _ _ _ g) (qv 0) (qv 1)<|vn _) za)<|qa (zr (aB<|wo .str rfl B.bg rfl B.b_str Ii<|qv 1) (qg<|zb<|rF (wo .str rfl B.bg rfl B.b_str Ii<|qv 0)<|sK<|sE (G6 _ _ _ g) (qv 0) (qv 1)<|vn _) za)<|qa (zr (bD<|cD (aB<|wo .tuple rfl B.bg rfl B.b_tuple db<|qv 1)<|aW<|jR<|aB<|wo .tuple rfl B.bg rfl B.b_tuple db<|qv 0) (qg<|zb bU) za)<|qa (zr (bD<|cD (aB<|wo .list rfl B.bg rfl B.bf vk<|qv 1)<|aW<|jR<|aB<|wo .list rfl B.bg rfl B.bf vk<|qv 0) (qg<|zb bU) za)<|qa (zr (N_ g (L_ B.ba<|qv 0)<|L_ B.ba<|qv 1) (qg<|zb bU) za)<|qa (ky ya rfl (wu rfl B.bh<|xn<|L_ B.ba<|qv 1) (G_ 2 hN)<|qg<|zr (jR<|aB<|C_ U j<|v9 (I_ (qv 0)<|qv 2)<|I_ (qv 1)<|qv 2) (qg<|zb bU) za)<|qg<|zb bU)⟩
def kW(U:kh)(j:kh)(g:kh)(I:kh)(J:kh):RD "_law_deep" kA 170 ["_law_tree_here","_law_number_here","_law_knots","_law_ends","_law_p","_law_word_here","_law_rule","_law_q","_law_same"] (λV=>I9 V U/\IZ V j/\IR V g/\IS V I/\IT V J):=⟨_,λV B c _ _ _ _ _ _ _ l hN o=>(qa (S_ 2 hN<|vt ko rfl B.bf vk<|xn<|J_ 0)<|qa (S_ 3 hN<|C_ c.1 l<|xn<|C_ c.2.1 l<|xn<|qv 0)<|qa (S_ 4 hN<|I_ (qv 3)<|qm js (qv 1)<|L_ B.ba<|qv 3)<|qa (S_ 5 hN<|C_ c.2.2.1 l<|v9 (qv 2)<|qv 4)<|qa (zr (je yn (qm ju (qm iI qd<|C_ c.2.2.2.1 l<|xn<|qv 5)<|L_ B.ba<|qv 2) qd<|vn _) (qg<|zb<|qv 0) za)<|qa (bB (C_ c.2.2.2.2 l<|v9 (qv 2)<|qv 5)<|Jq (n:=3) rfl<|qz (G_ 6 hN)<|qz (G_ 7 hN)<|qz (G_ 8 hN) xi)<|qa (zr (E_ o (qm js (qm vf (qv 1) qd) qd) qd) (qg<|zb<|zh<|v9 (qv 2)<|zh<|jw jv<|jw (qv 4)<|bQ (qv 7) (J_ 0)<|qv 6) za)<|qg<|zb<|zh<|v9 (qv 2)<|zh<|jw jv<|jw (qv 7)<|bQ (qv 4) (qv 6)<|J_ 0)⟩
def iH(J:kh)(U:kh)(g:kh)(I:kh):RD "_law_grown" i0 173 ["_law_script","_law_stir_here","_law_wide","_law_tree_here"] (λV=>Jg V J/\FV V U/\Jh V g/\Jc V I):=⟨_,λV B c _ _ _ _ _ _ _ j hN l=>(qa (S_ 3 hN<|C_ c.1 j<|bQ (qv 0) (qv 1)<|qv 2)<|xw (zr (je yn (qm js (C_ c.2.1 j<|v9 (qv 1) qd) qd) qd<|vn _) (qg<|S_ 3 hN<|C_ c.2.2.1 j<|v9 (qv 3)<|C_ c.2.1 j<|v9 (qv 1) qd) za)<|xw (zr (E_ l (qm js (C_ c.2.1 j<|v9 (qv 1) qd) qd) qd) (qg<|S_ 3 hN<|C_ c.2.2.1 j<|v9 (qv 3)<|C_ c.2.1 j<|v9 (qv 1) qd) za)<|qg<|zb<|C_ c.2.2.2 j<|v9 (qv 3)<|qv 1)⟩
inductive fH(ys:List Y)(L:qk)(Q:YK):Prop
 |mk:∀i:Int,(ys=[.int i])->(Q (.bl true) L)->fH ys L Q
def zT:∀ys L Q,fH ys L Q->vd fj.1 1 ys L Q:=by rintro ys L Q ⟨i,rfl,q⟩;exact xa q
def yz(n:Nat):∀ys L Q,wr (n+1) ys L Q->vd (sj fH<|wr n).1 3 ys L Q:=by
 rintro ys L Q ⟨x,y,rfl,h,q⟩;rcases h with⟨f,rfl⟩|⟨I,ys,rfl,rfl,l,p⟩|⟨a,b,I,ys,rfl,rfl,h1,h2,l,p⟩
 ·cases y with
  |non=>exact xa q
  |int i=>
   refine⟨i,rfl,xa ?_⟩;show Q (.bl<|nb false<|decide<|i=i) L;rw[AK rfl];exact q
  |str i=>
   refine xa ?_;show Q (.bl<|nb false<|decide<|i=i) L;rw[AK rfl];exact q
  |_=>cases f
 ·have j:=Paired.len p;walk_at "w";refine dC (b:=nb true<|decide<|(I.length:Int)=ys.length) (by rw[j,AK rfl];rfl) ?_;refine⟨⟨A3 _,by lia⟩,?_⟩;rw[BB];refine iX (λi J U=>U=L/\∃c,J=[some<|.tup I,some<|.tup ys,c]) ⟨rfl,_,rfl⟩ ?_ ?_
  ·rintro i J U o ⟨rfl,c,rfl⟩;have g:I[i]?=some (I[i]'(by lia)):=Al (by lia);have ev:ys[i]?=some ys[i]:=Al o;have r:dW I (0+(i:Int))=some (I[i]'(by lia)):=by rw[B3];exact jx g
   have t:dW ys (0+(i:Int))=some ys[i]:=by rw[B3];exact jx ev
   walk_at "w";rw[r];walk_at "w";rw[t];exact⟨_,_,rfl,ET p g ev,_,EK _,rfl,_,rfl⟩
  ·rintro J U ⟨rfl,c,rfl⟩;exact xa q
 ·have j:=Paired.len p;refine iN h2 ?_;walk_at "w";refine iN h2 ?_;walk_at "w";refine iN h2 ?_;walk_at "w";refine iN h2<|iN h1 ?_;walk_at "w";refine qb h1 (qb h2 (dC (by rw[j,AK rfl];rfl) ?_));refine qb h2 ⟨⟨A3 _,by lia⟩,?_⟩;rw[BB];refine iX (λi J U=>U=L/\∃c,J=[some<|.ref a,some<|.ref b,c]) ⟨rfl,_,rfl⟩ ?_ ?_
  ·rintro i J U o ⟨rfl,c,rfl⟩;have g:I[i]?=some (I[i]'(by lia)):=Al (by lia);have ev:ys[i]?=some ys[i]:=Al o;have r:dW I (0+(i:Int))=some (I[i]'(by lia)):=by rw[B3];exact jx g
   have t:dW ys (0+(i:Int))=some ys[i]:=by rw[B3];exact jx ev
   refine qb h1<|qj r<|qb h2<|qj t ?_;exact⟨_,_,rfl,ET p g ev,_,EK _,rfl,_,rfl⟩
  ·rintro J U ⟨rfl,c,rfl⟩;exact xa q
def T9(h:m<=n)(I:n<=120):∀ys L Q,vv m ys L Q->vv n ys L Q:=by rintro ys L Q ⟨a,J,w,e,U,hd,_,g,j,l,z⟩;exact⟨a,J,w,e,U,by lia,I,g,j,l,z⟩
def iz.nd{E:Vk}(T:iz ks R E):(z0 R).Nodup:=T.tp.nodup_iff.mpr C0
def iz.dep{E:Vk}(T:iz ks R E):v5 R<=96/\gh R<=96:=by have rd:=wf R;have J:=bG R;have I:=T.tp.length_eq;have:=T.len;rw[B1] at I;exact⟨by lia,by lia⟩
def iz.pairs{E:Vk}(T:iz ks R E):(zc R).Nodup/\(zd R).Nodup/\(∀p∈zc R,p.1<ks.length/\p.2<ks.length)/\∀p∈zd R,p.1<ks.length/\p.2<ks.length:=by
 have cu:=T.sr.cuts T.nd;refine⟨zy (T.sr.lkI T.nd).nd,zy cu.1,λp I=>?_,λp I=>?_⟩
 ·obtain⟨_,_,_,h1,h2⟩:=T.sr.links p I;exact⟨zn h1,zn h2⟩
 ·obtain⟨h1,h2⟩:=jk I;exact⟨T.sr.lt _ (cu.2 _ h1).2,T.sr.lt _ (cu.2 _ h2).2⟩
def iz.trO{E:Vk}(T:iz ks R E):TrO ks R E/\j_ ks (z0 R)=ks.map some:=⟨⟨T.ok,T.sr,T.nd,T.len⟩,SW λp I=>T.tp.mem_iff.mpr<|Ba.mpr I⟩
def iz.open{E:Vk}(T:iz ks R E)(I:ct.Perm<|zd R)(x:Nat):x∈ah (ks.map some) (aX (ks.map some) ct) (ks.map some).length↔x∈E:=by
 obtain⟨TO,e⟩:=T.trO;rw[TO.ends x,e];unfold ah lC hU aX;rw[AH,Ba,Af,Bd,CQ,decide_eq_false_iff_not,Ak,(jc I).mem_iff,T.tp.mem_iff,Ba];constructor
 ·rintro⟨a,b,c⟩;exact⟨a,λz=>c<|.inl z,λz=>c<|.inr z⟩
 ·rintro⟨a,b,c⟩;refine⟨a,?_,λz=>z.elim b c⟩;rw[Au,Al a];rfl
def iz.cut{A:Ru}{E:Vk}(T:iz ks R E){tp sp:Nat}{w:Wd}(j:p∈E)(hw:cJ ks p w)(M:x_ ks w ms A tp sp)(C:ks.length+ms.length<=96):(∃U,iz (ks++ms) (.cu p tp R A) U)/\∃U,iz (ks++ms) (.cu tp p A R) U:=by
 have l:=M.sr.nod;have hs:sp≠tp:=λe=>by rw[e] at l;simp at l
 have ls:=(M.tm sp).mp<|M.sr.sub sp (by simp);have lE:∀x∈E,x<ks.length:=λx I=>T.sr.lt x<|T.sr.sub x I;have o:(E.filter (λx=>decide<|x≠p)++[sp]).Nodup:=Aq.mpr ⟨T.sr.nod.filter _,by simp,λx I y g e=>by rw[An.mp g] at e;have:=lE x (AH.mp I).1;lia⟩
 have r:∀x,x∈E.filter (λx=>decide<|x≠p)++[sp]↔(x∈E/\x≠p)\/(x∈[tp,sp]/\x≠tp):=λx=>by
  rw[Ak,AH,decide_eq_true_iff,An];constructor
  ·rintro(h|rfl)
   ·exact .inl h
   ·exact .inr ⟨by simp,hs⟩
  ·rintro(h|⟨h,n⟩)
   ·exact .inl h
   ·rcases Am.mp h with h|h
    ·exact(n h).elim
    ·exact .inr<|An.mp h
 have t:∀x,x∈z0 R↔x<ks.length:=λx=>by rw[T.tp.mem_iff,Ba]
 have len:(ks++ms).length<=96:=by rw[Ad];exact C
 have tn:(z0 R++z0 A).Nodup:=Aq.mpr ⟨T.nd,M.nd,λx I y g e=>by have:=(t x).mp I;have:=(M.tm y).mp g;lia⟩
 have J:(z0 R++z0 A).Perm (List.range (ks++ms).length):=(A4 tn C0).mpr λx=>by rw[Ak,t,M.tm,Ba,Ad];lia
 refine⟨⟨_,M.ok,.cu (T.sr.more ms) M.sr j (by simp) (hw.more ms) M.wt r o,J,len⟩,_,M.ok,.cu (w:=w.turn) M.sr (T.sr.more ms) (by simp) j M.wt (by rw[iA];exact hw.more ms) (λx=>(r x).trans Or.comm) o,AU.trans J,len⟩
theorem Wd.dep_size:∀w:Wd,w.depth<=w.size
 |.leaf _ _=>Ap _
 |.node _ l r=>by have:=Wd.dep_size l;have:=Wd.dep_size r;show max l.depth r.depth+1<=1+l.size+r.size;lia
inductive iG(ys:List Y)(L:qk)(Q:YK):Prop
 |mk:∀a,∀ks:VE,∀R:Ru,∀E:Vk,∀num:Int,(ys=[.tup [.ref a,j8 R],.int num])->(L a=some (.lst<|vh ks))->(iz ks R E)->(∀a' ks' R' E' L',qh L L'->L' a'=some (.lst<|vh ks')->iz ks' R' E'->Q (.tup [.ref a',j8 R']) L')->iG ys L Q
theorem Ua:∀ys L Q,iG ys L Q->vd (kW lh gb (w9 120) (aJ 120)<|vv 48).1 9 ys L Q:=by
 rintro ys L Q ⟨a,I,R,E,num,rfl,ha,T,q⟩;have hz:=T.len;obtain⟨d1,d2⟩:=T.dep;obtain⟨n1,n2,b1,b2⟩:=T.pairs;refine qb ha λJ j=>?_;refine pD j λL1 s1 g1=>?_;refine⟨a,vh I,R,rfl,s1 _ _ ha,by lia,by lia,n1,n2,λp U=>by have:=b1 p U;lia,λp U=>by have:=b2 p U;lia,λa' l' c' lk ct L2 s2 _ _ _ _ _ _ g2 _ g3 _ _ pc _=>?_⟩;refine⟨a',l',c',I.map some,ct,rfl,by rw[eE];exact g2,g3,by rw[Af];lia,by rw[pc.length_eq];have:=kn R;lia,λp3 a1=>?_⟩;have op:=T.open pc;generalize ah (I.map some) (aX (I.map some) ct) (I.map some).length=F at op ⊢;have nF:0<F.length:=by obtain⟨x,hx⟩:=DG<|T.sr.ends T.ok;exact Ew<|(op x).mpr hx
 refine pD a1 λL3 g g4=>?_;have g:=s2.trans g;obtain⟨p,mp,ep⟩:∃r,r∈F/\dW (nY F) (num % ((nY F).length:Int))=some (.int ((r:Nat):Int)):=gc nF num;refine qb g4 ⟨by rw[dE];exact DP.mpr nF,qb g4<|qj ep ?_⟩;have U:=(op p).mp mp;have lp:=T.sr.lt p<|T.sr.sub p U;obtain⟨w,hw,a2,l⟩:=gN T.ok (p+1) p (by exact BH _) lp;have k3:=g _ _ g1;refine⟨J,vh I,p,w,rfl,k3,hw,by lia,?_⟩;refine⟨w,rfl,by lia,.inl ⟨by decide,by decide⟩,qb k3 ?_⟩;have o:(vh I).length=I.length:=Af ..;refine zk (λ_=>xa<|q a I R E L3 (s1.trans g) (g _ _<|s1 _ _ ha) T) λcz=>?_;have cz:¬(2*(w.size:Int)+((vh I).length:Int) > 96):=cz;rw[o] at cz;have ds:=Wd.dep_size w;refine⟨J,I,w,rfl,k3,by lia,by decide,l,T.ok,by lia,λms A t sp p5 C M=>?_⟩;have ml:=M.len;obtain⟨⟨E1,T1⟩,E2,T2⟩:=T.cut U hw M (by lia);have n5:J≠p5:=aP k3 C;have nk:L J=none:=j;have s5:qh L (qi (qi L3 J<|.lst<|vh<|I++ms) p5<|.lst [j8 A,.int ((t:Nat):Int),.int ((sp:Nat):Int)]):=((s1.trans g).upd nk).trans (By (by rw[qc<|AG n5];exact C));have g5:qi (qi L3 J<|.lst<|vh<|I++ms) p5 (.lst [j8 A,.int ((t:Nat):Int),.int ((sp:Nat):Int)]) J=some (.lst<|vh<|I++ms):=(qc n5).trans q9;refine qr q9 ?_;generalize qi (qi L3 J<|.lst<|vh<|I++ms) p5 (.lst [j8 A,.int ((t:Nat):Int),.int ((sp:Nat):Int)])=L5 at s5 g5 ⊢;refine⟨⟨by decide,by decide⟩,(by decide:(0:Int)<2),zk (λ_=>?_) λ_=>?_⟩
 ·exact xa<|q J _ (.cu p t R A) E1 L5 s5 g5 T1
 ·exact xa<|q J _ (.cu t p A R) E2 L5 s5 g5 T2
inductive gU(Pt:Addr)(ys:List Y)(L:qk)(Q:YK):Prop
 |mk:∀ns:Vo,∀s:Int,∀w:Nat,∀wi:Int,(ys=[.sq<|ns.map Y.int,.int s,.int wi])->(wi=(w:Int))->(ns.length<=63)->(w<=96)->(L Pt=some (.tb lamQ))->(∀ks R E wd f a L',qh L L'->L' a=some (.lst<|jr wd)->iz ks R E->yM f (ks.map some) wd->Q (.tup [.ref a,j8<|bv f R]) L')->gU Pt ys L Q
def Ub :∀ys L Q,gU Pt ys L Q->vd (iH lu dI iG<|lm Pt).1 4 ys L Q:=by
 rintro ys L Q ⟨j,s,w,wi,rfl,rfl,hn,hw,hP,q⟩;refine⟨j,s,w,_,rfl,rfl,hn,hw,λka I R E L1 s1 _ g1 T=>?_⟩;refine⟨λg J=>∃a I R E,g=[some<|.sq<|j.map Y.int,some<|.int s,some<|.int (w:Int),some<|.tup [.ref a,j8 R]]/\qh L J/\J a=some (.lst<|vh I)/\iz I R E,?_,?_⟩
 ·refine⟨s,24680,rfl,by decide,by decide,λv _ _=>⟨(by decide:(0:Int)<8),zk (λ_=>?_) λ_=>⟨ka,I,R,E,rfl,s1,g1,T⟩⟩⟩;exact⟨s,1234577,rfl,by decide,by decide,λv _ _=>⟨ka,I,R,E,v,rfl,g1,T,λl U o p J r t C=>⟨l,U,o,p,rfl,s1.trans r,t,C⟩⟩⟩
 rintro g L2 ⟨a,I,R,E,rfl,s2,g2,T⟩;refine⟨λg J=>∃a I R E,g=[some<|.sq<|j.map Y.int,some<|.int s,some<|.int (w:Int),some<|.tup [.ref a,j8 R]]/\qh L J/\J a=some (.lst<|vh I)/\iz I R E,?_,?_⟩
 ·refine⟨s,55667,rfl,by decide,by decide,λv _ _=>⟨(by decide:(0:Int)<3),zk (λ_=>?_) λ_=>⟨a,I,R,E,rfl,s2,g2,T⟩⟩⟩;exact⟨s,7654321,rfl,by decide,by decide,λv _ _=>⟨a,I,R,E,v,rfl,g2,T,λl U o p J r t C=>⟨l,U,o,p,rfl,s2.trans r,t,C⟩⟩⟩
 rintro g L3 ⟨a,I,R,E,rfl,s3,g3,T⟩;exact⟨a,I,R,E,s,rfl,g3,T,s3 _ _ hP,λw f wd hw rn=>xa<|q I R E wd f w _ (s3.trans<|By hw) q9 T rn⟩
theorem bH(f:Vr):∀R:Ru,zc (bv f R)=(zc R).map (JL f)
 |.link _ _=>rfl
 |.ei _ A=>bH f A
 |.bo _ A B=>by show zc (bv f A)++zc (bv f B)=(zc A++zc B).map _;rw[bH f A,bH f B,AI]
 |.cu _ _ A B=>by show zc (bv f A)++zc (bv f B)=(zc A++zc B).map _;rw[bH f A,bH f B,AI]
theorem bZ(f:Vr):∀R:Ru,zd (bv f R)=(zd R).map (JM f)
 |.link _ _=>rfl
 |.ei _ A=>bZ f A
 |.bo _ A B=>by show zd (bv f A)++zd (bv f B)=(zd A++zd B).map _;rw[bZ f A,bZ f B,AI]
 |.cu p q A B=>by show(f p,f q)::(zd (bv f A)++zd (bv f B))=((p,q)::(zd A++zd B)).map _;rw[bZ f A,bZ f B,AJ,AI];rfl
structure bR(wd:List<|VG)(ct:Vg):Prop where
 pu:dJ wd
 cw:∀c∈ct,∃w,KW (jr wd) c.1 w/\KW (jr wd) c.2 w.turn
 ctN:(plcs ct).Nodup
 ctP:∀x∈plcs ct,x∉xl wd
 ctS:ct.Pairwise bJ
 wl:wd.length<=241
def bR.lt(I:bR wd ct){c:Vs}(hc:c∈ct):c.1<wd.length/\c.2<wd.length:=by obtain⟨w,h1,h2⟩:=I.cw c hc;obtain⟨_,J⟩:=h1.ex;obtain⟨_,U⟩:=h2.ex;exact⟨zn J,zn U⟩
def bR.len(I:bR wd ct):ct.length<=120:=by
 have:=kq wd.length _ I.ctN λx J=>by
  obtain⟨c,U,e⟩:=bE J;have:=I.lt U;rcases e with rfl|rfl
  ·exact this.1
  ·exact this.2
 rw[w4] at this;have:=I.wl;lia
theorem KW.leafI :∀{w:Wd} {p:Nat},KW (jr wd) p w->∃(q:Nat) (t:Bool) (n:Str),wd[q]?=some (some<|.lf t n)
 |.leaf t n,p,h=>⟨p,t,n,h.inv_lf⟩
 |.node e l r,p,h=>by obtain⟨i,j,_,I,_⟩:=h.inv_nd;exact I.leafI
def iz.cutI{E:Vk}{f:Vr}(T:iz ks R E)(U:yM f (ks.map some) wd)(pl:lk.Perm<|zc<|bv f R)(a2:lk.Pairwise bJ)(pc:ct.Perm<|zd<|bv f R)(a3:ct.Pairwise bJ):bR wd ct/\i7 wd lk:=by
 rw[bH] at pl;rw[bZ] at pc;have nd:=T.nd;have hz:=T.len;have lt:∀x∈z0 R,x<ks.length:=λx g=>Ba.mp<|T.tp.mem_iff.mp g;have N:=(T.sr.part nd).nodup_iff.mpr nd;obtain⟨N1,N2,N3⟩:=Aq.mp N;have U0:dJ (ks.map some):=SS N1 λp hp=>T.tp.mem_iff.mpr<|Ba.mpr hp;have a1:=oU T.ok;have lo:(ks.map some).length=ks.length:=Af ..;have ev:∀{p:Nat} {k:Kn},ks[p]?=some k->(ks.map some)[p]?=some (some k):=λh=>by rw[Au,h];rfl
 have up:∀{p:Nat} {k:Kn},ks[p]?=some k->wd[f p]?=some (i9 f<|some k):=λ{p k} h=>U.gap.at_ p (Ba.mpr (by rw[lo];exact zn h)) _<|ev h;have inj:∀a b,a<ks.length->b<ks.length->f a=f b->a=b:=λa b ha hb=>U.inj (by lia) (by lia);have a4:∀x,x∈plcs ct->∃y,y∈plcs (zd R)/\x=f y:=λx g=>by have:=(jc pc).mem_iff.mp g;rw[mI] at this;obtain⟨y,J,e⟩:=BX.mp this;exact⟨y,J,e.symm⟩
 have l:∀y∈plcs (zd R),y<ks.length:=λy J=>lt y<|(T.sr.part nd).mem_iff.mp<|Ag _<|Ao _ J;have r:(plcs lk).Perm ((plcs<|zc R).map f):=(jc pl).trans<|sJ f _;have mH:∀y∈plcs (zc R),y<ks.length:=λy J=>lt y (AH.mp<|T.sr.leaves.mem_iff.mp J).1;have wl:=U.len;have I:=T.sr.lkI nd;refine⟨⟨U0.ren a1 U,λc hc=>?_,?_,λx g z=>?_,a3,by lia⟩,λc hc=>?_,?_,λp=>?_,a2,?_,?_,by lia⟩
 ·obtain⟨c0,C,rfl⟩:=BX.mp<|pc.mem_iff.mp hc;obtain⟨w,w1,w2⟩:=T.sr.cutw c0 C;have e:∀{p w},cJ ks p w->KW (jr<|ks.map some) p w:=λh=>by rw[eE];exact h
  exact⟨w,U.word<|e w1,U.word<|e w2⟩
 ·have e:(plcs ct).Perm ((plcs<|zd R).map f):=by rw[<-mI];exact jc pc
  exact e.nodup_iff.mpr<|cH (Aq.mp N2).1 λa ha b hb=>inj a b (l a ha)<|l b hb
 ·obtain⟨y,J,rfl⟩:=a4 x g;obtain⟨y',k,h1,h2⟩:=jD z;obtain⟨p,o,a,_,h3,e,h4⟩:=U.part h1 h2;have la:=oQ a1 h3 h4;have e1:ks[p]?=some o:=l6 h3;cases inj _ _ (l y J) (by lia) e;exact N3 y (Bh.mpr ⟨p,T.tp.mem_iff.mpr<|Ba.mpr<|zn e1,by rw[e1];exact h4⟩) y (Ao _ J) rfl
 ·obtain⟨c0,C,rfl⟩:=BX.mp<|pl.mem_iff.mp hc;obtain⟨t,n,h1,h2⟩:=I.at_ c0 C;exact iq (up h1)<|up h2
 ·exact r.nodup_iff.mpr<|cH I.nd λa ha b hb=>inj a b (mH a ha)<|mH b hb
 ·rw[r.mem_iff,BX];constructor
  ·rintro⟨y,J,rfl⟩;have:=(AH.mp<|T.sr.leaves.mem_iff.mp J).2;cases e:ks[y]? with
   |none=>rw[e] at this;cases this
   |some k=>
    cases k with|lf t n=>exact⟨t,n,up e⟩|nd b i j=>rw[e] at this;cases this
  ·rintro⟨t,n,h⟩;obtain⟨y,J,rfl,o,eo,ek⟩:=U.inv h;cases o with
   |none=>cases ek
   |some o=>
    cases o with
    |nd b i j=>cases ek
    |lf t' n'=>
     have e1:=l6 eo;exact⟨y,T.sr.leaves.mem_iff.mpr (AH.mpr ⟨T.tp.mem_iff.mpr<|Ba.mpr<|zn e1,by rw[e1];rfl⟩),rfl⟩
 ·have h1:=pl.length_eq;have h2:=kq _ _ I.nd mH;rw[Af] at h1;rw[w4] at h2;lia
 ·intro z;obtain⟨x,g⟩:=DG<|T.sr.ends T.ok;have lx:=T.sr.lt x<|T.sr.sub x g;obtain⟨w,hw,_⟩:=gN T.ok (x+1) x (by exact BH _) lx;have hw:KW (jr<|ks.map some) x w:=by rw[eE];exact hw
  obtain⟨q,t,n,h⟩:=hw.leafI;have:=T.sr.leaves.mem_iff.mpr (AH.mpr ⟨T.tp.mem_iff.mpr<|Ba.mpr<|zn<|l6 h,by rw[l6 h];rfl⟩);have:=r.mem_iff.mpr<|BX.mpr ⟨q,this,rfl⟩;rw[z] at this;cases this
def gg:RD "partner_of" gq 0 ["links","place","p","q"] (λ_=>True):=⟨_,λV B c _ _ _ _ _ _ _ J hN I=>(qa (ky ya rfl (wx<|qv 0) (ku (n:=2) rfl<|qz (G_ 2 hN)<|qz (G_ 3 hN) xi)<|qa (zr (E_ I (qv 2)<|qv 1) (qg<|zb<|qv 3) za)<|qg<|zr (E_ I (qv 3)<|qv 1) (qg<|zb<|qv 2) za)<|qg<|zb aa)⟩
def JV(J:Addr)(E3:X3)(I:kh):a9:=(zm (x8 (xm I<|cB (qf 0)<|qf 1)<|qp 3)
 (zm (x8 (xm I<|cB (qf 0)<|qf 2)<|qp 4)
 (zm (am (m_ (qf 3)<|qf 2) (vU J E3<|qo (Jo<|jN (f_ "the places ")<|jN (He<|qf 1)<|jN (f_ " and ")<|jN (He<|qf 2)<|jN (f_ " of the cut are linked with one another") Jn) jn) wm)
 (zm (x8 (u_ 1 (gH<|qf 0) (qp 6) (vZ (yB<|vg (ip true) (qf 1)<|qf 6)<|yB<|vg (ip true) (qf 2)<|qf 6)<|qf 6)<|qp 5)
 (aY<|cI kw<|qo (vg gE (qf 5)<|jT<|qo (aE<|qo (cI pI<|cB (qf 3)<|qf 4)<|qo (cI m9<|cB (qf 3)<|qf 4) jn) jn) jn)))))
def uU:∀k:Nat,k<242->(toString ((k:Nat):Int):Str).length<=10:=by decide +kernel
def tL:∀k:Nat,k<242->((k:Nat):Int).natAbs.log2<1920:=by decide +kernel
def lg(nd:(plcs lk).Nodup){z:Vs}(hz:z∈lk):z.1≠z.2:=by obtain⟨a,b,rfl⟩:=Cn hz;rw[zj,qx] at nd;have:=(Aq.mp nd).2.1;simp at this;exact this.1.1
def vR(nd:(plcs lk).Nodup){z:Vs}(hz:z∈lk){x:Nat}(o:gA p x z):p≠x:=by
 have:=lg nd hz;rcases o with rfl|rfl
 ·exact this
 ·exact AG this
inductive bA(ys:List Y)(L:qk)(Q:YK):Prop
 |mk:∀l,∀lk:Vh,∀p x:Nat,∀z:Vs,(ys=[.ref l,.int (p:Int)])->(L l=some (.lst<|qt lk))->((plcs lk).Nodup)->(z∈lk)->(gA p x z)->(Q (.int (x:Int)) L)->bA ys L Q
def vH:∀ys L Q,bA ys L Q->vd gg.1 4 ys L Q:=by
 rintro ys L Q ⟨l,lk,p,x,z,rfl,hl,nd,U,o,q⟩;have J:=vR nd U o;refine wb hl λkeep kp=>kc ⟨λi g j=>∃r t,g=[some<|.ref l,some<|.int (p:Int),r,t]/\j=L/\∀y∈lk.take i,¬(p=y.1\/p=y.2),⟨_,_,rfl,rfl,nofun⟩,?_,?_,?_⟩
 ·rintro i g j ⟨r,t,rfl,rfl,_⟩;exact kp _ rfl
 ·rintro i y g j C ⟨r,t,rfl,rfl,no⟩;rw[Au] at C;obtain⟨y,T,rfl⟩:=AB.mp C;have my:=Az T;refine zk (λh=>?_) λh1=>zk (λh=>?_) λh2=>?_
  ·have h:y.1=p:=BP.mp h;cases a6 nd my U (.inl h.symm) o.mem;rcases o with rfl|rfl
   ·exact xa q
   ·exact(J h.symm).elim
  ·have h:y.2=p:=BP.mp h;cases a6 nd my U (.inr h.symm) o.mem;rcases o with rfl|rfl
   ·exact(J h.symm).elim
   ·exact xa q
  ·refine⟨_,EK _,_,_,rfl,rfl,λu I=>?_⟩;rw[Bm,T] at I;rcases Ak.mp I with I|I
   ·exact no u I
   ·rw[An.mp I];rintro(e|e)
    ·exact h1<|BM Nat.cast e.symm
    ·exact h2<|BM Nat.cast e.symm
 ·rintro g j ⟨r,t,rfl,rfl,no⟩;rw[Af,Bz] at no;exact(no z U o.mem).elim
def pM{lk:Vg}{x:Nat}{I:Vs}(ne:p≠q)(J:gA p x I)(h:q=I.1\/q=I.2):x=q:=by
 rcases J with rfl|rfl<;>rcases h with h|h<;>simp only at h
 ·exact(ne h.symm).elim
 ·exact h.symm
 ·exact h.symm
 ·exact(ne h.symm).elim
def fK(nd:(plcs lk).Nodup){x:Nat}{I J:Vs}(U:I∈lk)(g:J∈lk)(ne:I≠J)(j:gA p x I)(l:gA q y J):(plcs lk).Perm (p::q::plcs (lk.filter (ji p q)++[bM x y])):=by
 rcases oM nd U g j.mem l.mem with⟨e,_⟩|⟨_,e,_⟩
 ·exact(ne e).elim
 have pm:=jc<|iL (zy nd) U g ne;rw[qx,qx] at pm;rw[e];refine(pm.trans<|j.plcs _).trans (List.Perm.cons p ?_);rw[zj,jy];refine((l.plcs _).cons x).trans ((List.Perm.swap ..).trans<|List.Perm.cons q ?_);exact(cX x y _).symm.trans (AU (l₁:=[min x y,max x y]))
inductive m7(C:Addr)(ys:List Y)(L:qk)(Q:YK)(E:Addr->qk->Prop):Prop
 |mk:∀l,∀lk:Vh,∀p q x y:Nat,∀x0 y0:Vs,(ys=[.ref l,.int (p:Int),.int (q:Int)])->(L l=some (.lst<|qt lk))->((plcs lk).Nodup)->(lk.length<=60)->((∀c∈plcs lk,c<242))->(x0∈lk)->(y0∈lk)->(p≠q)->(gA p x x0)->(gA q y y0)->((x=q->E C L))->((x0≠y0->∀D qs L',qh L L'->L D=none->L' D=some (.lst<|qt qs)->qs.Perm (lk.filter (ji p q)++[bM x y])->qs.Pairwise bJ->Q (.ref D) L'))->m7 C ys L Q E
def Uc :∀ys L Q E,m7 C ys L Q E->vd (JV C (rR E) bA) 6 ys L Q:=by
 rintro ys L Q E ⟨l,lk,p,q,x,y,x0,y0,rfl,T,nd,hz,lt,hx,I,a1,g,j,qe,qq⟩;have big:=a_;have pl:∀l:Vh,(qt l).length=l.length:=λl=>Af ..;have J:∀{p:Nat} {z:Vs},z∈lk->(p=z.1\/p=z.2)->p∈plcs lk:=λhz h=>by rcases h with rfl|rfl;exact(jk hz).1;exact(jk hz).2
 refine⟨l,lk,p,x,x0,rfl,T,nd,hx,g,⟨l,lk,q,y,y0,rfl,T,nd,I,j,zk (λh=>?_) λh=>?_⟩⟩
 ·have h:x=q:=BP.mp h;have lp:=lt p<|J hx g.mem;have lq:=lt q<|J I j.mem;have sl:=uU p lp;have sm:=uU q lq;have ap:∀a b:Str,(a++b).length=a.length+b.length:=λa b=>BW;have l1:(Str.empty++Str.ofString "the places ").length=11:=by decide
  have l2:(Str.ofString " and ").length=5:=by decide
  have l3:(Str.ofString " of the cut are linked with one another").length=39:=by decide
  have a3:=SK;refine⟨by decide,tL p lp,?_,?_,tL q lq,?_,?_,?_,by show 1<=1000;decide,L,EK _,qe h⟩
  ·rw[ap];omega
  ·rw[ap,ap];omega
  ·rw[ap,ap,ap];omega
  ·rw[ap,ap,ap,ap];omega
  ·rw[ap,ap,ap,ap];omega
 have h:¬x=q:=λe=>h<|BM Nat.cast e;have ne:x0≠y0:=λe=>h<|pM (lk:=lk) a1 g<|e▸j.mem;have jp:=fK nd hx I ne g j;refine wb T λkeep kp=>iw (λi U=>U=qt ((lk.take i).filter<|ji p q)) (by rw[pl];exact big _ (by lia)) (kp _ rfl) rfl ?_ ?_
 ·rintro i y U I rfl;rw[Au] at I;obtain⟨z,ez,rfl⟩:=AB.mp I;have no:ji p q z=false->iO (λU L'=>L'=L/\U=qt ((lk.take<|i+1).filter<|ji p q)) (qt<|(lk.take i).filter<|ji p q) L:=λe=>⟨_,EK _,rfl,by rw[Bm,ez,Br,Di,B8 (by rw[e];decide),B4,AC]⟩;refine⟨rfl,rfl,?_⟩;show we (!(sQ (fW<|.int (p:Int))<|([.int (z.1:Int),.int (z.2:Int)]:List Y).map fW)) _ _;rw[bV];by_cases r:p=z.1\/p=z.2
  ·exact dC (by rw[AK r];rfl) (no (by unfold ji;rw[AK r];rfl))
  refine iu (by rw[AD r];rfl) ⟨rfl,rfl,?_⟩;show we (!(sQ (fW<|.int (q:Int))<|([.int (z.1:Int),.int (z.2:Int)]:List Y).map fW)) _ _;rw[bV];by_cases t:q=z.1\/q=z.2
  ·exact dC (by rw[AK t];rfl) (no (by unfold ji;rw[AK t,Bool.or_true];rfl))
  refine iu (by rw[AD t];rfl) ⟨_,EK _,rfl,?_⟩;rw[Bm,ez,Br,Di,B9 (by unfold ji;rw[AD r,AD t];rfl),B4,vz]
 rintro U rfl p5 h5;rw[pl,Bz];have fl:=B6 (ji p q) lk;refine pD h5 λL5 s5 g5=>?_;intro p6 h6;rw[m8];show gE (.ref p5) (.ref p6) (qi L5 p6<|.lst [f'<|bM x y]) λz L'=>kw [z] L'<|eQ Q;have s6:=By (o:=.lst [f'<|bM x y]) h6;refine⟨_,_,s6 _ _ g5,q9,by rw[pl];exact BK (big _ (by show _+1<=_;lia)),λp7 h7=>?_⟩;have s7:=s5.trans<|s6.trans<|By (o:=.lst<|qt (lk.filter<|ji p q)++[f'<|bM x y]) h7;have a2:=jp.nodup_iff.mp nd;refine pX (ps:=lk.filter (ji p q)++[bM x y]) (by rw[q9,vz]) (λd hd=>?_) (zy (Av.mp (Av.mp a2).2).2) (by rw[Ad];show _+1<=_;lia) λD qs hD pm pw=>xa<|qq ne D qs _ (s7.trans<|By hD) (s7.none hD) q9 pm pw;have:=lt d.2<|jp.mem_iff.mpr<|Ab _<|Ab _ (jk hd).2;lia
def yF(I:Addr)(E3:X3)(J:kh)(p1:jV)(p2:kh):a9:=(zm (x8 (fP 0 2)<|qp 2)
 (zm (am (yo<|yB<|vT (fQ 0)<|Hd PV (qf 1)<|Hc FP<|rV 2) (vU I E3<|bL<|f_ "no cut has that number") wm)
 (zm (x8 (cI cY<|bL<|fP 0 0)<|qp 3)
 (zm (x8 (vg fM (vg fM (qf 2)<|qf 1)<|fQ 0)<|qp 4)
 (zm (x8 (vg fM (vg fM (qf 2)<|qf 1)<|fQ 1)<|qp 5)
 (zm (x8 (FI (yB<|xm J<|qo (vg fM (qf 3)<|qf 4) jn) (jG p1 E3<|qo (fP 0 1)<|cB (qf 4)<|qf 5)<|cI cY<|bL<|fP 0 1)<|qp 6)
 (zm (x8 (xI<|qo (xm p2<|qo (vg fM (qf 3)<|qf 4) jn)<|qo (xm p2<|qo (vg fM (qf 3)<|qf 5) jn) jn)<|qp 7)
 (zm (uw (qf 3) (qf 4)<|yC .non)
 (zm (uw (qf 3) (qf 5)<|yC .non)
 (aY<|aE<|qo (qf 3)<|qo (qf 6)<|qo (cI kw<|qo (vg gE (vg gE (FK FT (qf 2) gj<|ue<|qf 1)<|FK FT (qf 2) (ue<|vg gE (qf 1)<|fQ 1) gj)<|qf 7) jn) jn))))))))))
def Ud(E3:X3)(I:kh):a9:=(zm (x8 (xI<|qo (xm I<|qo (vg fM (qf 3)<|qf 4) jn)<|qo (xm I<|qo (vg fM (qf 3)<|qf 5) jn) jn)<|qp 7)
 (zm (uw (qf 3) (qf 4)<|yC .non)
 (zm (uw (qf 3) (qf 5)<|yC .non)
 (aY<|aE<|qo (qf 3)<|qo (qf 6)<|qo (cI kw<|qo (vg gE (vg gE (FK FT (qf 2) gj<|ue<|qf 1)<|FK FT (qf 2) (ue<|vg gE (qf 1)<|fQ 1) gj)<|qf 7) jn) jn))))
def gone2(wd:List<|VG)(x:Vs):List (VG):=(wd.set x.1 none).set x.2 none
def dw(wd:List<|VG)(x:Vs):Vh:=(ja<|wd[x.1]?.getD none).zip<|ja<|wd[x.2]?.getD none
def bR.two(I:bR wd ct){x:Vs}(p:x∈ct):(∃t n,wd[x.1]?=some (some<|.lf t n)/\wd[x.2]?=some (some<|.lf (!t) n)/\dw wd x=[])\/∃e i j g o,wd[x.1]?=some (some<|.nd e i j)/\wd[x.2]?=some (some<|.nd (!e) g o)/\dw wd x=[(i,g),(j,o)]:=by
 obtain⟨w,h1,h2⟩:=I.cw x p;unfold dw;cases w with
 |leaf t n=>
  have J:=h1.inv_lf;have U:=h2.inv_lf;exact .inl ⟨t,n,J,U,by rw[J,U];rfl⟩
 |node e l r=>
  obtain⟨i,j,J,_⟩:=h1.inv_nd;obtain⟨g,o,U,_⟩:=h2.inv_nd;exact .inr ⟨e,i,j,g,o,J,U,by rw[J,U];rfl⟩
def mm{e:Bool}(h:wd[p]?=some (some<|.nd e i j)):i∈xl wd/\j∈xl wd:=⟨Bh.mpr ⟨_,Az h,Aj⟩,Bh.mpr ⟨_,Az h,Ab _ Aj⟩⟩
def bR.ins(I:bR wd ct){k:Nat}{x:Vs}(ex:ct[k]?=some x):(ct.eraseIdx k++dw wd x).Nodup/\(∀c∈ct.eraseIdx k++dw wd x,c.2<1000000)/\(ct.eraseIdx k++dw wd x).length<=127:=by
 have T:=Az ex;have sub:=DA ct k;have cl:=I.len;have wl:=I.wl;have lt:∀c∈ct.eraseIdx k,c.2<1000000:=λc J=>by have:=I.lt<|sub.subset J;lia
 have nd:=sub.nodup<|zy I.ctN;have le:=sub.length_le;rcases I.two T with⟨t,n,_,_,e⟩|⟨e,i,j,i',j',g,e2,ei⟩
 ·rw[e,AC];exact⟨nd,lt,by lia⟩
 ·obtain⟨w,h1,h2⟩:=I.cw x T;cases w with
  |leaf t n=>have:=h1.inv_lf;rw[g] at this;cases this
  |node b l r=>
   obtain⟨i2,j2,U,o,p⟩:=h2.inv_nd;rw[e2] at U;obtain⟨rfl,rfl⟩:i'=i2/\j'=j2:=by injection U with U;injection U with U;injection U with _ a b;exact⟨a,b⟩
   obtain⟨_,z1⟩:=o.ex;obtain⟨_,z2⟩:=p.ex;have l1:=zn z1;have l2:=zn z2;have ne:=I.pu.ne _ _ _ _ g;rw[ei];refine⟨Aq.mpr ⟨nd,by simp;intro h;exact(ne h).elim,λc J d hd z=>?_⟩,λc J=>?_,by rw[Ad];show _+2<=_;lia⟩
   ·subst z;have C:=I.ctP _ (jk<|sub.subset J).1;rcases Am.mp hd with rfl|hd
    ·exact C (mm g).1
    ·rw[An.mp hd] at C;exact C (mm g).2
   ·rcases Ak.mp J with J|J
    ·exact lt c J
    ·rcases Am.mp J with rfl|J
     ·show i'<_;lia
     ·rw[An.mp J];show j'<_;lia
def l7(wd:List<|VG)(p:Nat):(jr wd).set p .non=jr (wd.set p none):=by unfold jr;rw[List.map_set];rfl
def y9{M:qk}{J U c:Addr}{k:Nat}{x:Vs}{E3:X3}(I:bR wd ct)(ex:ct[k]?=some x)(s:qh L M)(na:L J=none)(nl:L U=none)(n1:J≠U)(k1:M J=some (.lst<|jr wd))(k2:M U=some (.lst<|qt fx))(k3:M c=some (.lst<|qt ct))(nc:J≠c)
 (q:∀ln c' L',qh L L'->L c'=none->J≠c'->U≠c'->L' J=some (.lst<|jr<|gone2 wd x)->L' U=some (.lst<|qt fx)->L' c'=some (.lst<|qt ln)->ln.Perm (ct.eraseIdx k++dw wd x)->ln.Pairwise bJ->En.rt (xc J U c') L'):
 Ud E3 cG En [c0,some<|.int (k:Int),some<|.ref c,some<|.ref J,some<|.int (x.1:Int),some<|.int (x.2:Int),some<|.ref U,c7] M:=by
 have big:=a_;have pl:∀l:Vh,(qt l).length=l.length:=λl=>Af ..;have hx:=Az ex;have hk:=zn ex;obtain⟨lx,ly⟩:=I.lt hx;obtain⟨nd,lt,le⟩:=I.ins ex;have cl:=I.len;have e1:wd[x.1]?=some wd[x.1]:=Al lx;have e2:wd[x.2]?=some wd[x.2]:=Al ly;have ei:dw wd x=(ja wd[x.1]).zip (ja wd[x.2]):=by unfold dw;rw[e1,e2];rfl
 have ez:amp (nY<|ja wd[x.1]) (nY<|ja wd[x.2])=qt (dw wd x):=by
  rw[ei];generalize wd[x.1]=u;generalize wd[x.2]=v;cases u with
  |none=>rfl
  |some u=>
   cases u with
   |lf t n=>rfl
   |nd e i j=>
    cases v with|none=>rfl|some v=>cases v<;>rfl
 refine qb k1<|qj (v4 e1) ⟨_,rfl,λp1 h1=>?_⟩;refine pD h1 λM1 s1 g1=>?_;refine qb (s1 _ _ k1)<|qj (v4 e2) ⟨_,rfl,λp2 h2=>?_⟩;have p:=s1.trans<|By (o:=.lst<|nY<|ja wd[x.2]) h2;refine qb (By h2 _ _ g1)<|qb q9 λp3 h3=>?_;rw[ez];refine pD h3 λr g g3=>?_;have g:=p.trans g;have j1:=g _ _ k1;have C:J≠p3:=λe=>by have:=(s.trans p).none h3;subst e;have:=p _ _ k1;rw[this] at h3;cases h3
 refine qr j1 (qj (by rw[aA];exact l5 lx:wG (jr wd).length (x.1:Int)=some x.1) ?_);rw[l7];refine qr q9 (qj (by rw[aA,Bk];exact l5 ly:wG (jr<|wd.set x.1 none).length (x.2:Int)=some x.2) ?_);rw[l7,zq];have T:qh L (qi r J<|.lst<|jr<|gone2 wd x):=(s.trans g).upd na;have j4:qi r J (.lst<|jr<|gone2 wd x) J=some (.lst<|jr<|gone2 wd x):=q9;have j5:=(qc (o:=.lst<|jr<|gone2 wd x)<|AG n1).trans<|g _ _ k2;have j6:=(qc (o:=.lst<|jr<|gone2 wd x)<|AG nc).trans<|g _ _ k3;have j7:=(qc (o:=.lst<|jr<|gone2 wd x)<|AG C).trans g3;rw[show(wd.set x.1 none).set x.2 none=gone2 wd x from rfl];generalize qi r J (.lst<|jr<|gone2 wd x)=M4 at T j4 j5 j6 j7 ⊢;refine qr j6 λp5 h5=>?_;rw[P4];refine pD h5 λM5 s5 g5=>?_;refine qr (s5 _ _ j6) λp6 h6=>?_;have ek:((k:Int)+1)=((k+1:Nat):Int):=by lia
 show gE (.ref p5) (.ref p6) (qi M5 p6<|.lst<|gD (qt ct) (some<|(k:Int)+1) none) λy L2=>gE y (.ref p3) L2 λz L3=>kw [z] L3 λz' L4=>En.rt (.tup [.ref J,.ref U,z']) L4;rw[ek,P2];have s6:=s5.trans<|By (o:=.lst<|(qt ct).drop<|k+1) h6;refine⟨_,_,By h6 _ _ g5,q9,by rw[AZ,BF,pl];exact BK<|big _ (by lia),λp7 h7=>?_⟩;have ee:(qt ct).take k++(qt ct).drop (k+1)=qt (ct.eraseIdx k):=by unfold qt;rw[List.eraseIdx_eq_take_drop_succ,AI,EJ,List.map_drop]
 rw[ee];have lE:=(DA ct k).length_le;have s7:=s6.trans<|By (o:=.lst<|qt<|ct.eraseIdx k) h7;refine⟨_,_,q9,s7 _ _ j7,by rw[pl,pl];rw[Ad] at le;exact BK<|big _ (by lia),λp8 h8=>?_⟩;have s8:=s7.trans<|By (o:=.lst<|qt (ct.eraseIdx k)++qt (dw wd x)) h8;refine pX (ps:=ct.eraseIdx k++dw wd x) (by rw[q9];unfold qt;rw[AI]) lt nd (by lia) λD ln hD pm pw=>?_;have s9:=s8.trans<|By (o:=.lst<|qt ln) hD;have nD:=s8.none hD;exact q ln D _ (T.trans s9) (T.none nD) (aP j4 nD) (aP j5 nD) (s9 _ _ j4) (s9 _ _ j5) q9 pm pw
structure LkC(wd:List<|VG)(lk:Vg):Prop where
 lkA:∀c∈lk,c.1<c.2/\∃t n,wd[c.1]?=some (some<|.lf t n)/\wd[c.2]?=some (some<|.lf (!t) n)
 lkN:(plcs lk).Nodup
 lkL:∀p,p∈plcs lk↔∃t n,wd[p]?=some (some<|.lf t n)
 lkS:lk.Pairwise bJ
 ll:lk.length<=60
def i7.c(I:i7 wd lk):LkC wd lk:=⟨I.lkA,I.lkN,I.lkL,I.lkS,I.ll⟩
def wF(wd:List<|VG)(lk:Vg)(x:Vs)(fx:Vg):Prop:=
 ((∃e i j,wd[x.1]?=some (some<|.nd e i j))/\fx=lk)\/∃t n I J u v,wd[x.1]?=some (some<|.lf t n)/\I∈lk/\J∈lk/\I≠J/\gA x.1 u I/\gA x.2 v J/\fx.Perm (lk.filter (ji x.1 x.2)++[bM u v])/\fx.Pairwise bJ
def JW(lk:Vg)(x:Vs):Prop:=∃z∈lk,gA x.1 x.2 z
def Ue(nd:(plcs lk).Nodup){z y:Vs}(hz:z∈lk)(I:y∈lk){x:Nat}(o:gA p x z)(o':gA p q y):x=q/\z=y:=by
 cases a6 nd hz I o.mem o'.mem;have:=vR nd hz o;refine⟨?_,rfl⟩;rcases o with rfl|rfl<;>rcases o' with h|h<;>injection h with h1 h2
 ·exact(this h2.symm).elim
 ·exact(this h1.symm).elim
inductive eF(C:Addr)(ys:List Y)(L:qk)(Q:YK)(E:Addr->qk->Prop):Prop
 |mk:∀a l c,∀wd:List (VG),∀lk ct:Vh,∀ki:Int,(ys=[xc a l c,.int ki])->(L a=some (.lst<|jr wd))->(L l=some (.lst<|qt lk))->(L c=some (.lst<|qt ct))->(bR wd ct)->(LkC wd lk)->(((∀(k:Nat) (x:Vs),ki=(k:Int)->ct[k]?=some x->JW lk x)->E C L))->(∀(k:Nat) (x:Vs),ki=(k:Int)->ct[k]?=some x->∀fx ln a' l' c' L',qh L L'->L a'=none->L l'=none->L c'=none->a'≠l'->a'≠c'->l'≠c'->L' a'=some (.lst<|jr<|gone2 wd x)->L' l'=some (.lst<|qt fx)->L' c'=some (.lst<|qt ln)->wF wd lk x fx->ln.Perm (ct.eraseIdx k++dw wd x)->ln.Pairwise bJ->Q (xc a' l' c') L')->eF C ys L Q E
def Uf :∀ys L Q E,eF C ys L Q E->vd (yF C (rR E) aN (m7 C) cG) 8 ys L Q:=by
 rintro ys L Q E ⟨a,l,c,wd,lk,ct,ki,rfl,ha,hl,hc,I,J,qe,q⟩;have pl:∀l:Vh,(qt l).length=l.length:=λl=>Af ..;cases ki with
 |negSucc n=>exact⟨by decide,L,EK _,qe λk x e=>by cases e⟩
 |ofNat k=>
  refine qb hc<|JN (b:=!decide ((k:Int)<((qt ct).length:Int))) (λh=>?_) λh=>?_
  ·exact⟨by decide,L,EK _,qe λk' x e ex=>by cases BP.mp e;rw[pl] at h;simp at h;exact absurd (zn ex)<|Et.mpr h⟩
  have hk:k<ct.length:=by rw[pl] at h;simp at h;exact h
  have ex:ct[k]?=some ct[k]:=Al hk;generalize ct[k]=x at ex;have q2:=q k x rfl ex;have hx:=Az ex;have a4:∀{T:Addr},L T=none->T≠c:=λh e=>by subst e;rw[hc] at h;cases h
  refine qb ha λT U=>?_;refine pD U λL1 g g1=>?_;have ax:dW (qt ct) (k:Int)=some (f' x):=jx<|gF ex;have c1:=g _ _ hc;refine qb c1<|qj ax<|qb c1<|qj ax ?_;rcases I.two hx with⟨t,n,e1,e2,_⟩|⟨e,i,j,i',j',e1,e2,_⟩
  ·refine qb g1<|qj (v4 e1) ⟨true,t,_,rfl,?_⟩;obtain⟨x0,mx,ox⟩:=bE<|(J.lkL x.1).mpr ⟨t,n,e1⟩;obtain⟨y0,my,oy⟩:=bE<|(J.lkL x.2).mpr ⟨_,n,e2⟩;obtain⟨u,ou⟩:=nQ ox;obtain⟨v,ov⟩:=nQ oy;have wl:=I.wl;have lt:∀p∈plcs lk,p<242:=λp hp=>by obtain⟨_,_,e⟩:=(J.lkL p).mp hp;have:=zn e;lia
   refine⟨l,lk,x.1,x.2,u,v,x0,y0,rfl,g _ _ hl,J.lkN,J.ll,lt,mx,my,lg I.ctN hx,ou,ov,λe=>⟨L,g,qe λk' x' e' a5=>by cases BP.mp e';rw[ex] at a5;cases a5;exact⟨x0,mx,e▸ou⟩⟩,λne D ac L2 s2 r g2 pm pw=>?_⟩;have n1:T≠D:=aP g1 r;exact y9 (E3:=rR E) I ex (g.trans s2) U (g.none r) n1 (s2 _ _ g1) g2 (s2 _ _ c1) (a4 U) λa1 c' L' t1 t2 t3 t4 t5 t6 t7 a2 a3=>xa<|q2 ac a1 T D c' L' t1 U (g.none r) t2 n1 t3 t4 t5 t6 t7 (.inr ⟨t,n,x0,y0,u,v,e1,mx,my,ne,ou,ov,pm,pw⟩) a2 a3
  ·refine qb g1<|qj (v4 e1) ⟨false,e,_,rfl,?_⟩;refine qb (g _ _ hl) λD r=>?_;have n1:T≠D:=aP g1 r;have s2:=By (o:=.lst<|qt lk) r;exact y9 (E3:=rR E) I ex (g.trans s2) U (g.none r) n1 (s2 _ _ g1) q9 (s2 _ _ c1) (a4 U) λa1 c' L' t1 t2 t3 t4 t5 t6 t7 a2 a3=>xa<|q2 lk a1 T D c' L' t1 U (g.none r) t2 n1 t3 t4 t5 t6 t7 (.inl ⟨⟨_,_,_,e1⟩,rfl⟩) a2 a3
def zE(wd:List<|VG)(x:Vs):(gone2 wd x).length=wd.length:=by unfold gone2;rw[Bk,Bk]
theorem KW.gone{wd:List<|VG}{a:Nat}(I:a∉xl wd):∀{w:Wd} {p:Nat},p≠a->KW (jr wd) p w->KW (jr<|wd.set a none) p w
 |.leaf t n,p,J,h=>KW.lf (by rw[A5<|AG J];exact h.inv_lf)
 |.node e l r,p,J,h=>by obtain⟨i,j,U,h1,h2⟩:=h.inv_nd;obtain⟨g,o⟩:=mm U;exact KW.nd (by rw[A5<|AG J];exact U) (KW.gone I (λc=>I<|c▸g) h1)<|KW.gone I (λc=>I<|c▸o) h2
def rB{a:Nat}{o:Kn}(h:(wd.set a none)[q]?=some (some o)):q≠a/\wd[q]?=some (some o):=by
 by_cases c:q=a
 ·subst c;rw[Dq] at h;cases e:wd[q]? with|none=>rw[e] at h;cases h|some z=>rw[e] at h;cases h
 ·rw[A5<|AG c] at h;exact⟨c,h⟩
def cN{x:Vs}{o:Kn}(h:(gone2 wd x)[q]?=some (some o)):q≠x.1/\q≠x.2/\wd[q]?=some (some o):=by obtain⟨h2,h⟩:=rB h;obtain⟨h1,h⟩:=rB h;exact⟨h1,h2,h⟩
def Ug{x:Vs}(h1:q≠x.1)(h2:q≠x.2):(gone2 wd x)[q]?=wd[q]?:=by unfold gone2;rw[A5<|AG h2,A5<|AG h1]
def nW{wd':List<|VG}(h:∀{q:Nat} {o:Kn},wd'[q]?=some (some o)->wd[q]?=some (some o)){x:Nat}(I:x∈xl wd'):∃(q:Nat) (k:Kn),wd'[q]?=some (some k)/\wd[q]?=some (some k)/\x∈ja (some k):=by obtain⟨y,k,h1,h2⟩:=jD I;exact⟨y,k,h1,h h1,h2⟩
def KW.gone2{x:Vs}(I:x.1∉xl wd)(J:x.2∉xl wd){w:Wd}(h1:p≠x.1)(h2:p≠x.2)(h:KW (jr wd) p w):KW (jr<|L3.gone2 wd x) p w:=
 KW.gone (λz=>by obtain⟨q,k,_,e,U⟩:=nW (λh=>(rB h).2) z;exact J<|Bh.mpr ⟨_,Az e,U⟩) h2 (KW.gone I h1 h)
def bR.step(I:bR wd ct){k:Nat}{x:Vs}(ex:ct[k]?=some x)(pm:ln.Perm<|ct.eraseIdx k++dw wd x)(pw:ln.Pairwise bJ):bR (gone2 wd x) ln:=by
 have hx:=Az ex;have n1:=I.ctP _ (jk hx).1;have n2:=I.ctP _ (jk hx).2;have ac:=lg I.ctN hx;have pe:(plcs ct).Perm (x.1::x.2::plcs (ct.eraseIdx k)):=by have:=jc<|x4 ex;rw[qx] at this;exact this
 have nd:=pe.nodup_iff.mp I.ctN;obtain⟨f1,al⟩:=Av.mp nd;obtain⟨f2,a4⟩:=Av.mp al;have old:∀p∈plcs (ct.eraseIdx k),p≠x.1/\p≠x.2/\p∉xl wd:=λp hp=>⟨λe=>f1<|e▸Ab _ hp,λe=>f2<|e▸hp,I.ctP p<|pe.mem_iff.mpr<|Ab _<|Ab _ hp⟩;have sub:∀{q:Nat} {o:Kn},(gone2 wd x)[q]?=some (some o)->wd[q]?=some (some o):=λh=>(cN h).2.2;have T:∀p,p∉xl wd->p∉xl (gone2 wd x):=λp h z=>by obtain⟨q,k,_,e,hk⟩:=nW sub z;exact h<|Bh.mpr ⟨_,Az e,hk⟩
 have U:(plcs ln).Perm (plcs (ct.eraseIdx k)++plcs (dw wd x)):=by rw[<-zj];exact jc pm
 have pu:dJ (gone2 wd x):=⟨λq e i j h=>I.pu.ne q e i j<|sub h,λa b k1 k2 y h1 h2=>I.pu.un a b k1 k2 y (sub h1)<|sub h2⟩;have a3:∀c∈ct.eraseIdx k,∃w,KW (jr<|gone2 wd x) c.1 w/\KW (jr<|gone2 wd x) c.2 w.turn:=λc J=>by obtain⟨w,h1,h2⟩:=I.cw c<|(DA ct k).subset J;obtain⟨a1,a2,_⟩:=old _ (jk J).1;obtain⟨b1,b2,_⟩:=old _ (jk J).2;exact⟨w,h1.gone2 n1 n2 a1 a2,h2.gone2 n1 n2 b1 b2⟩
 have wl:(gone2 wd x).length<=241:=by rw[zE];exact I.wl
 rcases I.two hx with⟨t,n,_,_,ei⟩|⟨e,i,j,i',j',e1,e2,ei⟩
 ·rw[ei,AC] at pm;rw[ei] at U;have U:(plcs ln).Perm (plcs<|ct.eraseIdx k):=by rw[show plcs []=[] from rfl,AC] at U;exact U
  exact⟨pu,λc J=>a3 c<|pm.mem_iff.mp J,U.nodup_iff.mpr a4,λy C=>T y (old y<|U.mem_iff.mp C).2.2,pw,wl⟩
 ·obtain⟨w,h1,h2⟩:=I.cw x hx;cases w with
  |leaf t n=>have:=h1.inv_lf;rw[e1] at this;cases this
  |node b l r=>
   obtain⟨i1,j1,q1,au,av⟩:=h1.inv_nd;obtain⟨i2,j2,q2,ax,aL⟩:=h2.inv_nd;rw[e1] at q1;rw[e2] at q2;obtain⟨rfl,rfl⟩:i=i1/\j=j1:=by injection q1 with q1;injection q1 with q1;injection q1 with _ a b;exact⟨a,b⟩
   obtain⟨rfl,rfl⟩:i'=i2/\j'=j2:=by injection q2 with q2;injection q2 with q2;injection q2 with _ a b;exact⟨a,b⟩
   have P:∀y,y=i\/y=j->y∈ja (some<|.nd e i j):=λy h=>by rcases h with rfl|rfl;exact Aj;exact Ab _ Aj
   have P':∀y,y=i'\/y=j'->y∈ja (some<|.nd (!e) i' j'):=λy h=>by rcases h with rfl|rfl;exact Aj;exact Ab _ Aj
   have mP:∀y,y=i\/y=j\/y=i'\/y=j'->y∈xl wd:=λy h=>by
    rcases h with h|h|h|h
    ·exact h▸(mm e1).1
    ·exact h▸(mm e1).2
    ·exact h▸(mm e2).1
    ·exact h▸(mm e2).2
   have new:∀y,y=i\/y=j\/y=i'\/y=j'->y≠x.1/\y≠x.2/\y∉xl (gone2 wd x):=λy h=>by
    refine⟨λe=>n1<|e▸mP y h,λe=>n2<|e▸mP y h,λz=>?_⟩;obtain⟨q,k,g,ek,hk⟩:=nW sub z;obtain⟨c1,c2,_⟩:=cN g;rcases h with h|h|h|h
    ·exact c1<|I.pu.un _ _ _ _ y ek e1 hk<|P y<|.inl h
    ·exact c1<|I.pu.un _ _ _ _ y ek e1 hk<|P y<|.inr h
    ·exact c2<|I.pu.un _ _ _ _ y ek e2 hk<|P' y<|.inl h
    ·exact c2<|I.pu.un _ _ _ _ y ek e2 hk<|P' y<|.inr h
   have a5:∀y,(y=i\/y=j)->¬(y=i'\/y=j'):=λy h h'=>ac<|I.pu.un _ _ _ _ y e1 e2 (P y h)<|P' y h';rw[ei] at pm U;refine⟨pu,λc J=>?_,U.nodup_iff.mpr<|Aq.mpr ⟨a4,?_,λa ha b hb z=>?_⟩,λy C=>?_,pw,wl⟩
   ·rcases Ak.mp (pm.mem_iff.mp J) with J|J
    ·exact a3 c J
    ·rcases Am.mp J with rfl|J
     ·obtain⟨a1,a2,_⟩:=new i<|.inl rfl;obtain⟨b1,b2,_⟩:=new i'<|.inr<|.inr<|.inl rfl;exact⟨l,au.gone2 n1 n2 a1 a2,ax.gone2 n1 n2 b1 b2⟩
     ·rw[An.mp J];obtain⟨a1,a2,_⟩:=new j<|.inr<|.inl rfl;obtain⟨b1,b2,_⟩:=new j'<|.inr<|.inr<|.inr rfl;exact⟨r,av.gone2 n1 n2 a1 a2,aL.gone2 n1 n2 b1 b2⟩
   ·have d1:=a5 i<|.inl rfl;have d2:=a5 j<|.inr rfl;have d3:=I.pu.ne _ _ _ _ e1;have d4:=I.pu.ne _ _ _ _ e2;rw[qx,jy];simp only[Av,Am,Bx,or_false,not_or,CW,and_true,not_false_eq_true];exact⟨⟨λh=>d1<|.inl h,d3,λh=>d1<|.inr h⟩,⟨λh=>d2<|.inl h.symm,d4⟩,λh=>d2<|.inr h⟩
   ·subst z;have hb:a=i\/a=j\/a=i'\/a=j':=by
     rw[qx,jy] at hb;simp at hb;rcases hb with h|h|h|h
     ·exact .inl h
     ·exact .inr<|.inr<|.inl h
     ·exact .inr<|.inl h
     ·exact .inr<|.inr<|.inr h
    exact(old a ha).2.2 (mP a hb)
   ·rcases Ak.mp (U.mem_iff.mp C) with C|C
    ·exact T y (old y C).2.2
    ·rw[qx,jy] at C;simp at C;refine(new y ?_).2.2;rcases C with h|h|h|h
     ·exact .inl h
     ·exact .inr<|.inr<|.inl h
     ·exact .inr<|.inl h
     ·exact .inr<|.inr<|.inr h
def LkC.step(I:bR wd ct){x:Vs}(hx:x∈ct)(J:LkC wd lk)(st:wF wd lk x fx):LkC (gone2 wd x) fx:=by
 have ap:∀{p:Nat} {t:Bool} {n:Str},p≠x.1->p≠x.2->wd[p]?=some (some<|.lf t n)->(gone2 wd x)[p]?=some (some<|.lf t n):=λa b h=>by rw[Ug a b];exact h
 rcases st with⟨⟨e,i,j,U⟩,rfl⟩|⟨t,n,x0,y0,u,v,U,mx,my,ne,ou,ov,pm,pw⟩
 ·rcases I.two hx with⟨t,n,g,_⟩|⟨_,_,_,i',j',_,g,_⟩
  ·rw[U] at g;cases g
  have no:∀{p:Nat} {t:Bool} {n:Str},wd[p]?=some (some<|.lf t n)->p≠x.1/\p≠x.2:=λh=>⟨(λz=>by rw[z,U] at h;cases h),(λz=>by rw[z,g] at h;cases h)⟩;refine⟨λc o=>?_,J.lkN,λp=>(J.lkL p).trans ⟨λ⟨t,n,h⟩=>⟨t,n,ap (no h).1 (no h).2 h⟩,λ⟨t,n,h⟩=>⟨t,n,(cN h).2.2⟩⟩,J.lkS,J.ll⟩;obtain⟨l,t,n,h1,h2⟩:=J.lkA c o;exact⟨l,t,n,ap (no h1).1 (no h1).2 h1,ap (no h2).1 (no h2).2 h2⟩
 ·have g:wd[x.2]?=some (some<|.lf (!t) n):=by
   rcases I.two hx with⟨t',n',a,b,_⟩|⟨_,_,_,_,_,a,_⟩
   ·rw[U] at a;cases a;exact b
   ·rw[U] at a;cases a
  have jp:=(fK J.lkN mx my ne ou ov).trans<|((jc pm).symm.cons _).cons _;obtain⟨f1,nd⟩:=Av.mp<|jp.nodup_iff.mp J.lkN;obtain⟨f2,nd⟩:=Av.mp nd;have r:∀{p:Nat},p∈plcs fx->p≠x.1/\p≠x.2:=λh=>⟨λz=>f1<|Ab _<|z▸h,λz=>f2<|z▸h⟩;have pl:=jp.length_eq;rw[w4,AF,AF,w4] at pl;refine⟨λc o=>?_,nd,λp=>⟨λh=>?_,λ⟨t,n,h⟩=>?_⟩,pw,by have:=J.ll;lia⟩
  ·have C:=r (jk o).1;have T:=r (jk o).2;rcases Ak.mp (pm.mem_iff.mp o) with h|h
   ·obtain⟨l,t,n,h1,h2⟩:=J.lkA c (AH.mp h).1;exact⟨l,t,n,ap C.1 C.2 h1,ap T.1 T.2 h2⟩
   ·have h:c=bM u v:=An.mp h;have w1:=ou.lf J.lkA mx U;have w2:=ov.lf J.lkA my g;obtain⟨l,t,n,h1,h2⟩:=iq w1 w2;rw[<-h] at l h1 h2;exact⟨l,t,n,ap C.1 C.2 h1,ap T.1 T.2 h2⟩
  ·obtain⟨t,n,h1⟩:=(J.lkL p).mp<|jp.mem_iff.mpr<|Ab _<|Ab _ h;exact⟨t,n,ap (r h).1 (r h).2 h1⟩
  ·obtain⟨a,b,h⟩:=cN h;rcases Am.mp (jp.mem_iff.mp<|(J.lkL p).mpr ⟨t,n,h⟩) with z|z
   ·exact(a z).elim
   ·exact(Am.mp z).resolve_left b
def xo(lk:Vg)(a b:Nat):Prop:=∃z∈lk,gA a b z
def gA.symm{x:Nat}{z:Vs}(h:gA p x z):gA x p z:=by
 rcases h with rfl|rfl
 ·exact .inr rfl
 ·exact .inl rfl
theorem xo.symm{a b:Nat}(h:xo lk a b):xo lk b a:=by obtain⟨z,I,o⟩:=h;exact⟨z,I,o.symm⟩
def xo.fn(nd:(plcs lk).Nodup){a b c:Nat}(h:xo lk a b)(h':xo lk a c):b=c:=by obtain⟨z,I,o⟩:=h;obtain⟨y,J,U⟩:=h';exact(Ue nd I J o U).1
abbrev EM:=@xo.fn
def xo.ne(nd:(plcs lk).Nodup){a b:Nat}(h:xo lk a b):a≠b:=by obtain⟨z,I,o⟩:=h;exact vR nd I o
def xo.mem{a b:Nat}(h:xo lk a b):a∈plcs lk/\b∈plcs lk:=by
 obtain⟨z,I,o⟩:=h;rcases o with rfl|rfl
 ·exact jk I
 ·exact⟨(jk I).2,(jk I).1⟩
abbrev EV:=@xo.mem
def nw{a:Nat}(h:a∈plcs lk):∃b,xo lk a b:=by obtain⟨z,I,e⟩:=bE h;obtain⟨b,o⟩:=nQ e;exact⟨b,z,I,o⟩
def aZ{l m:Vg}(h:l.Perm m){a b:Nat}:xo l a b↔xo m a b:=⟨λ⟨z,I,o⟩=>⟨z,h.mem_iff.mp I,o⟩,λ⟨z,I,o⟩=>⟨z,h.mem_iff.mpr I,o⟩⟩
def acz{u v a b:Nat}:gA a b (bM u v)↔(a=u/\b=v)\/(a=v/\b=u):=by
 unfold gA bM;by_cases c:u<=v
 ·rw[BO c,Cj c];simp only[Prod.mk.injEq];constructor
  ·rintro(⟨h1,h2⟩|⟨h1,h2⟩)
   ·exact .inl ⟨h1.symm,h2.symm⟩
   ·exact .inr ⟨h2.symm,h1.symm⟩
  ·rintro(⟨rfl,rfl⟩|⟨rfl,rfl⟩)
   ·exact .inl ⟨rfl,rfl⟩
   ·exact .inr ⟨rfl,rfl⟩
 ·rw[Cg (by lia),Cs (by lia)];simp only[Prod.mk.injEq];constructor
  ·rintro(⟨h1,h2⟩|⟨h1,h2⟩)
   ·exact .inr ⟨h1.symm,h2.symm⟩
   ·exact .inl ⟨h2.symm,h1.symm⟩
  ·rintro(⟨rfl,rfl⟩|⟨rfl,rfl⟩)
   ·exact .inr ⟨rfl,rfl⟩
   ·exact .inl ⟨rfl,rfl⟩
structure Gn(lk fx:Vg)(p q u v:Nat):Prop where
 up:xo lk p u
 vq:xo lk q v
 pv:p≠v
 qu:q≠u
 pq:p≠q
 iff:∀a b,xo fx a b↔(xo lk a b/\a≠p/\a≠q/\b≠p/\b≠q)\/(a=u/\b=v)\/(a=v/\b=u)
def JX(nd:(plcs lk).Nodup){u v:Nat}{J U:Vs}(g:J∈lk)(j:U∈lk)(ne:J≠U)(l:p≠q)(r:gA p u J)(t:gA q v U)(pm:fx.Perm<|lk.filter (ji p q)++[bM u v]):Gn lk fx p q u v:=by
 refine⟨⟨J,g,r⟩,⟨U,j,t⟩,λe=>?_,λe=>?_,l,λa b=>?_⟩
 ·exact ne<|a6 nd g j r.mem<|e▸t.symm.mem
 ·exact ne<|a6 nd g j (e▸r.symm.mem) t.mem
 ·rw[aZ pm];constructor
  ·rintro⟨z,I,o⟩;rcases Ak.mp I with I|I
   ·obtain⟨I,C⟩:=AH.mp I;have no:¬((p=z.1\/p=z.2)\/(q=z.1\/q=z.2)):=λh=>by have:=nL.mpr h;rw[C] at this;cases this
    refine .inl ⟨⟨z,I,o⟩,λe=>no<|.inl<|e▸o.mem,λe=>no<|.inr<|e▸o.mem,λe=>no<|.inl<|e▸o.symm.mem,λe=>no<|.inr<|e▸o.symm.mem⟩
   ·rw[An.mp I] at o;exact .inr<|acz.mp o
  ·rintro(⟨⟨z,I,o⟩,h1,h2,h3,T⟩|h)
   ·refine⟨z,Ao _<|AH.mpr ⟨I,?_⟩,o⟩;cases C:ji p q z with
    |true=>rfl
    |false=>
     exfalso;have:=nL.mp (show(!ji p q z)=true by rw[C];rfl);rcases o with rfl|rfl<;>rcases this with(e|e)|(e|e)
     ·exact h1 e.symm
     ·exact h3 e.symm
     ·exact h2 e.symm
     ·exact T e.symm
     ·exact h3 e.symm
     ·exact h1 e.symm
     ·exact T e.symm
     ·exact h2 e.symm
   ·exact⟨_,Ag _ Aj,acz.mpr h⟩
def i5(ps:Vg)(a b:Nat):Prop:=xo ps a b
inductive cW(lk ps:Vg):Nat->Nat->Nat->Prop
 |one {x y:Nat}:xo lk x y->cW lk ps 0 x y
 |more {n x a b y:Nat}:xo lk x a->i5 ps a b->cW lk ps n b y->cW lk ps (n+1) x y
def cW.back{ps:Vg}{u v:Nat}(J:Gn lk fx p q u v)(U:∀a b,i5 mE a b->i5 ps a b)(I:i5 ps p q){x:Nat}(h:cW fx mE n x y):∃m,cW lk ps m x y:=by
 induction h with
 |@one x y h=>
  rcases (J.iff x y).mp h with⟨h,_⟩|⟨rfl,rfl⟩|⟨rfl,rfl⟩
  ·exact⟨0,.one h⟩
  ·exact⟨1,.more J.up.symm I<|.one J.vq⟩
  ·exact⟨1,.more J.vq.symm I.symm<|.one J.up⟩
 |@more n x a b y h h2 _ g=>
  obtain⟨m,w⟩:=g;rcases (J.iff x a).mp h with⟨h,_⟩|⟨rfl,rfl⟩|⟨rfl,rfl⟩
  ·exact⟨m+1,.more h (U _ _ h2) w⟩
  ·exact⟨m+1+1,.more J.up.symm I<|.more J.vq (U _ _ h2) w⟩
  ·exact⟨m+1+1,.more J.vq.symm I.symm<|.more J.up (U _ _ h2) w⟩
def cW.on{ps:Vg}(nd:(plcs lk).Nodup)(np:(plcs ps).Nodup){u v:Nat}(J:Gn lk fx p q u v)(o:i5 ps p q)(hp:∀a b,i5 ps a b->a≠p->a≠q->i5 mE a b):∀(n:Nat) {x y:Nat},x≠p->x≠q->y≠p->y≠q->cW lk ps n x y->∃m,cW fx mE m x y:=by
 intro n
 induction n using Nat.strongRecOn with
 |_ n ih=>
  intro x y x1 x2 r t h;have nb:∀{a b:Nat},i5 ps a b->a≠p->a≠q->b≠p/\b≠q:=λh h1 h2=>⟨λe=>h2<|EM np (e▸h).symm o,λe=>h1<|EM np (e▸h).symm o.symm⟩;cases h with
  |one h=>exact⟨0,.one<|(J.iff x y).mpr<|.inl ⟨h,x1,x2,r,t⟩⟩
  |@more n _ a b _ h h2 w=>
   by_cases C:a=p
   ·subst C;have e1:x=u:=EM nd h.symm J.up;have e2:b=q:=EM np h2 o;subst e1 e2;have uv:xo fx x v:=(J.iff _ _).mpr<|.inr<|.inl ⟨rfl,rfl⟩;cases w with
    |one j=>
     have:=EM nd j J.vq;subst this;exact⟨0,.one uv⟩
    |@more m _ l b' _ j I w'=>
     have:=EM nd j J.vq;subst this;have U:l≠a:=AG J.pv;have g:l≠b:=AG<|xo.ne nd J.vq;obtain⟨b1,b2⟩:=nb I U g;obtain⟨k,w⟩:=ih m (by lia) b1 b2 r t w';exact⟨k+1,.more uv (hp _ _ I U g) w⟩
   ·by_cases T:a=q
    ·subst T;have e1:x=v:=EM nd h.symm J.vq;have e2:b=p:=EM np h2 o.symm;subst e1 e2;have vu:xo fx x u:=(J.iff _ _).mpr<|.inr<|.inr ⟨rfl,rfl⟩;cases w with
     |one j=>
      have:=EM nd j J.up;subst this;exact⟨0,.one vu⟩
     |@more m _ l b' _ j I w'=>
      have:=EM nd j J.up;subst this;have U:l≠b:=AG<|xo.ne nd J.up;have g:l≠a:=AG J.qu;obtain⟨b1,b2⟩:=nb I U g;obtain⟨k,w⟩:=ih m (by lia) b1 b2 r t w';exact⟨k+1,.more vu (hp _ _ I U g) w⟩
    ·obtain⟨b1,b2⟩:=nb h2 C T;obtain⟨k,w⟩:=ih n (by lia) b1 b2 r t w;exact⟨k+1,.more ((J.iff _ _).mpr<|.inl ⟨h,x1,x2,C,T⟩) (hp _ _ h2 C T) w⟩
inductive ao(lk ps:Vg):Nat->Nat->Prop
 |self {x:Nat}:ao lk ps x x
 |at_ {x y z:Nat}:xo lk x y->i5 ps y z->ao lk ps x y
 |next {x y z a:Nat}:xo lk x y->i5 ps y z->ao lk ps z a->ao lk ps x a
def aK(lk ps:Vg):Prop:=∀a∈plcs lk,∃x∈plcs lk,x∉plcs ps/\ao lk ps x a
section
variable {ps:Vg}{u v:Nat}
structure Out(lk fx ps mE:Vg)(p q u v:Nat):Prop where
 nd:(plcs lk).Nodup
 np:(plcs ps).Nodup
 j:Gn lk fx p q u v
 pq:i5 ps p q
 up:∀a b,i5 ps a b->a≠p->a≠q->i5 mE a b
 dn:∀a b,i5 mE a b->i5 ps a b/\a≠p/\a≠q
def Out.nb(O:Out lk fx ps mE p q u v){a b:Nat}(h:i5 ps a b)(h1:a≠p)(h2:a≠q):b≠p/\b≠q:=⟨λe=>h2<|EM O.np (e▸h).symm O.pq,λe=>h1<|EM O.np (e▸h).symm O.pq.symm⟩
def Out.uv(O:Out lk fx ps mE p q u v):u≠p/\u≠q/\v≠p/\v≠q:=⟨AG<|xo.ne O.nd O.j.up,AG O.j.qu,AG O.j.pv,AG<|xo.ne O.nd O.j.vq⟩
def ao.back(O:Out lk fx ps mE p q u v){x a:Nat}(h:ao fx mE x a):ao lk ps x a:=by
 have J:=O.j
 induction h with
 |self=>exact .self
 |@at_ x y z h h2=>
  have h2:=(O.dn _ _ h2).1;rcases (J.iff x y).mp h with⟨h,_⟩|⟨rfl,rfl⟩|⟨rfl,rfl⟩
  ·exact .at_ h h2
  ·exact .next J.up.symm O.pq (.at_ J.vq h2)
  ·exact .next J.vq.symm O.pq.symm (.at_ J.up h2)
 |@next x y z a h h2 _ I=>
  have h2:=(O.dn _ _ h2).1;rcases (J.iff x y).mp h with⟨h,_⟩|⟨rfl,rfl⟩|⟨rfl,rfl⟩
  ·exact .next h h2 I
  ·exact .next J.up.symm O.pq (.next J.vq h2 I)
  ·exact .next J.vq.symm O.pq.symm (.next J.up h2 I)
def ao.on(O:Out lk fx ps mE p q u v){x a:Nat}(h:ao lk ps x a):a≠p->a≠q->(x≠p->x≠q->ao fx mE x a)/\(x=q->ao fx mE u a)/\(x=p->ao fx mE v a):=by
 have J:=O.j;have L1:xo fx u v:=(J.iff _ _).mpr<|.inr<|.inl ⟨rfl,rfl⟩;have L2:xo fx v u:=(J.iff _ _).mpr<|.inr<|.inr ⟨rfl,rfl⟩;obtain⟨o,r,v1,t⟩:=O.uv;have kp:∀{x y:Nat},xo lk x y->x≠p->x≠q->y≠p->y≠q->xo fx x y:=λh a b c d=>(J.iff _ _).mpr<|.inl ⟨h,a,b,c,d⟩
 induction h with
 |self=>exactλI U=>⟨λ_ _=>.self,λe=>(U e).elim,λe=>(I e).elim⟩
 |@at_ x y z h h2=>
  intro I U;refine⟨λC T=>.at_ (kp h C T I U)<|O.up _ _ h2 I U,λe=>?_,λe=>?_⟩
  ·subst e;have:=EM O.nd h J.vq;subst this;exact .at_ L1<|O.up _ _ h2 v1 t
  ·subst e;have:=EM O.nd h J.up;subst this;exact .at_ L2<|O.up _ _ h2 o r
 |@next x y z a h h2 _ ih=>
  intro I U;obtain⟨i1,i2,i3⟩:=ih I U;refine⟨λC T=>?_,λe=>?_,λe=>?_⟩
  ·by_cases g:y=p
   ·subst g;have e1:=EM O.nd h.symm J.up;have e2:=EM O.np h2 O.pq;subst e1;exact i2 e2
   ·by_cases l:y=q
    ·subst l;have e1:=EM O.nd h.symm J.vq;have e2:=EM O.np h2 O.pq.symm;subst e1;exact i3 e2
    ·obtain⟨b1,b2⟩:=O.nb h2 g l;exact .next (kp h C T g l) (O.up _ _ h2 g l) (i1 b1 b2)
  ·subst e;have:=EM O.nd h J.vq;subst this;obtain⟨b1,b2⟩:=O.nb h2 v1 t;exact .next L1 (O.up _ _ h2 v1 t) (i1 b1 b2)
  ·subst e;have:=EM O.nd h J.up;subst this;obtain⟨b1,b2⟩:=O.nb h2 o r;exact .next L2 (O.up _ _ h2 o r) (i1 b1 b2)
def ao.mid(O:Out lk fx ps mE p q u v){x a:Nat}(h:ao fx mE x a):a=u\/a=v->x≠p->x≠q->ao lk ps x p/\ao lk ps x q:=by
 have J:=O.j;have I:ao lk ps u p/\ao lk ps u q:=⟨.at_ J.up.symm O.pq,.next J.up.symm O.pq .self⟩;have U:ao lk ps v p/\ao lk ps v q:=⟨.next J.vq.symm O.pq.symm .self,.at_ J.vq.symm O.pq.symm⟩
 induction h with
 |self=>exactλh _ _=>by rcases h with rfl|rfl;exact I;exact U
 |@at_ x y z h h2=>
  intro e g l;rcases (J.iff x y).mp h with⟨h,_,_,o,r⟩|⟨rfl,rfl⟩|⟨rfl,rfl⟩
  ·exfalso;rcases e with rfl|rfl
   ·exact g<|EM O.nd h.symm J.up.symm
   ·exact l<|EM O.nd h.symm J.vq.symm
  ·exact I
  ·exact U
 |@next x y z a h h2 _ t=>
  intro e g l;obtain⟨g2,o,r⟩:=O.dn _ _ h2;obtain⟨b1,b2⟩:=O.nb g2 o r;rcases (J.iff x y).mp h with⟨h,_⟩|⟨rfl,rfl⟩|⟨rfl,rfl⟩
  ·obtain⟨C,T⟩:=t e b1 b2;exact⟨.next h g2 C,.next h g2 T⟩
  ·exact I
  ·exact U
def aK.iff(O:Out lk fx ps mE p q u v)(U:∀a,a∈plcs fx↔a∈plcs lk/\a≠p/\a≠q)(hs:∀a,a∈plcs mE↔a∈plcs ps/\a≠p/\a≠q):aK lk ps↔aK fx mE:=by
 have r:=O.pq.mem;obtain⟨u1,u2,_⟩:=O.uv;constructor
 ·intro A a g;obtain⟨g,a1,a2⟩:=(U a).mp g;obtain⟨x,J,I,m⟩:=A a g;have l:x≠p:=λe=>I<|e▸r.1;have o:x≠q:=λe=>I<|e▸r.2;exact⟨x,(U x).mpr ⟨J,l,o⟩,λz=>I ((hs x).mp z).1,(m.on O a1 a2).1 l o⟩
 ·intro A a g;have old:∀x,x∈plcs fx->x∉plcs mE->x∈plcs lk/\x∉plcs ps/\x≠p/\x≠q:=λx J I=>by obtain⟨h,l,o⟩:=(U x).mp J;exact⟨h,λz=>I<|(hs x).mpr ⟨z,l,o⟩,l,o⟩
  have t:∃x∈plcs lk,x∉plcs ps/\ao lk ps x p/\ao lk ps x q:=by obtain⟨x,J,I,m⟩:=A u<|(U u).mpr ⟨O.j.up.mem.2,u1,u2⟩;obtain⟨h1,h2,h3,h4⟩:=old x J I;exact⟨x,h1,h2,m.mid O (.inl rfl) h3 h4⟩
  by_cases C:a=p
  ·subst C;obtain⟨x,h1,h2,h3,_⟩:=t;exact⟨x,h1,h2,h3⟩
  by_cases T:a=q
  ·subst T;obtain⟨x,h1,h2,_,h3⟩:=t;exact⟨x,h1,h2,h3⟩
  obtain⟨x,J,I,m⟩:=A a<|(U a).mpr ⟨g,C,T⟩;obtain⟨h1,h2,_⟩:=old x J I;exact⟨x,h1,h2,m.back O⟩
def ao.ring(nd:(plcs lk).Nodup)(np:(plcs ps).Nodup)(I:i5 ps p q)(l:xo lk p q){x a:Nat}(h:ao lk ps x a):x≠p->x≠q->a≠p/\a≠q:=by
 have st:∀{x y:Nat},xo lk x y->x≠p->x≠q->y≠p/\y≠q:=λh J U=>⟨λe=>U<|EM nd (e▸h).symm l,λe=>J<|EM nd (e▸h).symm l.symm⟩
 induction h with
 |self=>exactλa b=>⟨a,b⟩
 |at_ h _=>exactλa b=>st h a b
 |next h h2 _ g=>
  intro a b;obtain⟨j,o⟩:=st h a b;exact g (λe=>o<|EM np (e▸h2).symm I) λe=>j<|EM np (e▸h2).symm I.symm
def aK.no(nd:(plcs lk).Nodup)(np:(plcs ps).Nodup)(I:i5 ps p q)(l:xo lk p q):¬aK lk ps:=λA=>by obtain⟨x,_,J,m⟩:=A p l.mem.1;exact(m.ring nd np I l (λe=>J<|e▸I.mem.1) λe=>J<|e▸I.mem.2).1 rfl
end
theorem cW.mem{ps:Vg}{x:Nat}(h:cW lk ps n x y):x∈plcs lk/\y∈plcs lk:=by induction h with|one h=>exact h.mem|more h _ _ I=>exact⟨h.mem.1,I.2⟩
def cW.mono{ps:Vg}(h1:∀a b,xo lk a b->xo fx a b)(h2:∀a b,i5 ps a b->i5 mE a b){x:Nat}(h:cW lk ps n x y):cW fx mE n x y:=by induction h with|one h=>exact .one (h1 _ _ h)|more h g _ I=>exact .more (h1 _ _ h) (h2 _ _ g) I
def tE{a b:Nat}{ps:Vg}(h:i5 ps a b):i5 ((p,q)::ps) a b:=by obtain⟨z,I,o⟩:=h;exact⟨z,Ab _ I,o⟩
def Uh{ps:Vg}:i5 ((p,q)::ps) p q:=⟨_,Aj,.inl rfl⟩
theorem xX:∀(ps lk:Vg),(plcs lk).Nodup->(plcs ps).Nodup->(∀x∈plcs ps,x∈plcs lk)->∀x∈plcs lk,x∉plcs ps->∃m y,cW lk ps m x y/\y∉plcs ps
 |[],lk,nd,_,_,x,T,_=>by obtain⟨y,h⟩:=nw T;exact⟨0,y,.one h,nofun⟩
 |(p,q)::ps,lk,nd,np,r,x,T,t=>by
  rw[qx] at np r t;obtain⟨f1,np⟩:=Av.mp np;obtain⟨f2,np⟩:=Av.mp np;have U:p≠q:=λe=>f1<|e▸Aj;have x1:x≠p:=λe=>t<|e▸Aj;have x2:x≠q:=λe=>t<|e▸Ab _ Aj;have x3:x∉plcs ps:=λz=>t<|Ab _<|Ab _ z;obtain⟨u,x0,J,g⟩:=nw<|r p Aj;obtain⟨v,y0,j,C⟩:=nw<|r q<|Ab _ Aj;have xa:∀mH:Vh,(plcs lk).Perm (p::q::plcs mH)->(∀m y,cW mH ps m x y->∃m,cW lk ((p,q)::ps) m x y)->∃m y,cW lk ((p,q)::ps) m x y/\y∉plcs ((p,q)::ps):=λmH pm wk=>by
   have I:=pm.nodup_iff.mp nd;obtain⟨g1,I⟩:=Av.mp I;obtain⟨g2,I⟩:=Av.mp I;have mem:∀y,y∈plcs lk->y≠p->y≠q->y∈plcs mH:=λy l a b=>((Am.mp<|(Am.mp<|pm.mem_iff.mp l).resolve_left a).resolve_left b);obtain⟨m,y,w,ny⟩:=xX ps mH I np (λy l=>mem y (r y<|Ab _<|Ab _ l) (λe=>f1<|Ab _<|e▸l) λe=>f2<|e▸l) x (mem x T x1 x2) x3;obtain⟨m',w'⟩:=wk m y w;refine⟨m',y,w',λz=>?_⟩;rw[qx] at z;rcases Am.mp z with e|z
   ·have e:y=p:=e;exact g1<|Ab _<|e▸w.mem.2
   ·rcases Am.mp z with e|z
    ·have e:y=q:=e;exact g2<|e▸w.mem.2
    ·exact ny z
  by_cases c:x0=y0
  ·subst c;have eu:u=q:=pM (lk:=lk) U g C.mem;subst eu;rcases oM nd J J g.mem C.mem with⟨_,e⟩|⟨ne,_⟩
   ·refine xa (lk.filter<|ji p u) ?_ λm y w=>⟨m,w.mono (λa b ⟨z,hz,o⟩=>⟨z,(AH.mp hz).1,o⟩) λa b=>tE⟩;have pf:lk.Perm (x0::lk.filter (ji p u)):=by have:=(List.filter_append_perm (ji p u) lk).symm;rw[show(lk.filter λz=>!ji p u z)=[x0] from e] at this;exact this.trans AU
    have:=jc pf;rw[qx] at this;exact this.trans<|g.plcs _
   ·exact(ne rfl).elim
  ·refine xa (lk.filter (ji p q)++[bM u v]) (fK nd J j c g C) λm y w=>?_;exact cW.back (JX nd J j c U g C<|.refl _) (λa b=>tE) Uh w
inductive Dn(wd:List<|VG)(p:Nat):Nat->Prop
 |self:Dn wd p p
 |part {z y:Nat} {k:Kn}:Dn wd p z->wd[z]?=some (some k)->y∈ja (some k)->Dn wd p y
def Dn.le(ok:jB wd)(h:Dn wd p y):y<=p:=by
 induction h with
 |self=>exact Ap _
 |@part z y k _ e I J=>
  cases k with
  |lf t n=>cases I
  |nd b i j=>
   have:=ok z b i j e;have I:y=i\/y=j:=by simpa[ja] using I
   rcases I with rfl|rfl<;>lia
def Dn.up{z:Nat}{k:Kn}(e:wd[p]?=some (some k))(hz:z∈ja (some k))(h:Dn wd z y):Dn wd p y:=by induction h with|self=>exact .part .self e hz|part _ I J U=>exact .part U I J
def Dn.prt(h:Dn wd p y):y=p\/y∈xl wd:=by cases h with|self=>exact .inl rfl|part _ e I=>exact .inr<|Bh.mpr ⟨_,Az e,I⟩
def Dn.meet(U:dJ wd)(h:Dn wd p y)(g:Dn wd q y):Dn wd p q\/Dn wd q p:=by
 induction h with
 |self=>exact .inr g
 |@part z y k h e J j=>
  cases g with
  |self=>exact .inl<|.part h e J
  |@part o _ r g l I=>
   cases U.un _ _ _ _ y e l J I;exact j g
def rJ(U:dJ wd)(np:p∉xl wd)(I:q∉xl wd)(h:Dn wd p y)(g:Dn wd q y):p=q:=by
 rcases h.meet U g with h|h
 ·exact(h.prt.resolve_right I).symm
 ·exact h.prt.resolve_right np
def uL(ok:jB wd)(U:dJ wd){e:Bool}(h:wd[p]?=some (some<|.nd e i j))(h1:Dn wd i y)(h2:Dn wd j y):False:=by
 have no:∀{a b:Nat},a∈ja (some<|.nd e i j)->b∈ja (some<|.nd e i j)->a≠b->¬Dn wd a b:=λ{a b} I o ne g=>by
  cases g with
  |self=>exact ne rfl
  |@part z _ k g r t=>
   cases U.un _ _ _ _ b h r o t;have C:=g.le ok;obtain⟨T,k2⟩:=ok _ _ _ _ h;have I:a=i\/a=j:=by simpa[ja] using I
   rcases I with rfl|rfl<;>lia
 have J:i∈ja (some<|.nd e i j):=Aj;have l:j∈ja (some<|.nd e i j):=Ab _ Aj;have ne:=U.ne _ _ _ _ h;rcases h1.meet U h2 with g|g
 ·exact no J l ne g
 ·exact no l J (AG ne) g
inductive qA(wd:List<|VG):Nat->Nat->Vh->Vk->Prop
 |lf {p q:Nat} {t t':Bool} {n n':Str}:wd[p]?=some (some<|.lf t n)->wd[q]?=some (some<|.lf t' n')->qA wd p q [(p,q)] [p,q]
 |nd {p q i j i' j':Nat} {e e':Bool} {A B:Vg} {G H:Vk}:wd[p]?=some (some<|.nd e i j)->wd[q]?=some (some<|.nd e' i' j')->qA wd i i' A G->qA wd j j' B H->qA wd p q (A++B) (p::q::(G++H))
theorem xP{wd:List<|VG}:∀{w:Wd} {p q:Nat},KW (jr wd) p w->KW (jr wd) q w.turn->∃A G,qA wd p q A G
 |.leaf t n,p,q,h,g=>⟨_,_,.lf h.inv_lf g.inv_lf⟩
 |.node e l r,p,q,h,g=>by obtain⟨i,j,I,h1,h2⟩:=h.inv_nd;obtain⟨C,T,J,g1,g2⟩:=g.inv_nd;obtain⟨A,G,U⟩:=xP h1 g1;obtain⟨B,H,o⟩:=xP h2 g2;exact⟨_,_,.nd I J U o⟩
def mD{x y:α}{l:List α}:x∉y::l↔x≠y/\x∉l:=by simp
section
variable {A:Vg}{G:Vk}
def qA.dn(M:qA wd p q A G):∀y∈G,Dn wd p y\/Dn wd q y:=by
 induction M with
 |lf _ _=>
  intro y I;rcases Am.mp I with rfl|I
  ·exact .inl .self
  ·rw[An.mp I];exact .inr .self
 |@nd p q i j o r e t A B G H g l _ _ J U=>
  intro y I;rcases Am.mp I with rfl|I
  ·exact .inl .self
  rcases Am.mp I with rfl|I
  ·exact .inr .self
  rcases Ak.mp I with I|I
  ·exact(J y I).imp (Dn.up g Aj) (Dn.up l Aj)
  ·exact(U y I).imp (Dn.up g<|Ab _ Aj) (Dn.up l<|Ab _ Aj)
def qA.leaf(M:qA wd p q A G):∀y∈plcs A,∃t n,wd[y]?=some (some<|.lf t n):=by
 induction M with
 |lf h1 h2=>
  intro y I;rw[jy] at I;rcases Am.mp I with rfl|I
  ·exact⟨_,_,h1⟩
  ·rw[An.mp I];exact⟨_,_,h2⟩
 |nd _ _ _ _ J U=>
  intro y I;rw[zj] at I;exact(Ak.mp I).elim (J y) (U y)
def qA.gone{x:Nat}(M:qA wd p q A G):x∉G->qA (wd.set x none) p q A G:=by
 have st:∀{y:Nat} {o:VG},x≠y->wd[y]?=some o->(wd.set x none)[y]?=some o:=λh e=>by rw[A5 h];exact e
 induction M with
 |lf h1 h2=>
  intro J;have I:=(mD.mp J);exact .lf (st I.1 h1)<|st (mD.mp I.2).1 h2
 |nd h1 h2 _ _ U g=>
  intro J;have I:=(mD.mp J);have j:=(mD.mp I.2);exact .nd (st I.1 h1) (st j.1 h2) (U λh=>j.2<|Ao _ h)<|g λh=>j.2<|Ag _ h
def qA.nodup(ok:jB wd)(U:dJ wd)(M:qA wd p q A G):(∀y,Dn wd p y->¬Dn wd q y)->G.Nodup:=by
 induction M with
 |@lf p q t t' n n' h1 h2=>
  intro ap;have:p≠q:=λe=>ap p .self<|e▸.self;simp[this]
 |@nd p q i j i' j' e e' A B G H I J m1 m2 a1 a2=>
  intro ap;have o:∀{a b:Nat} {e:Bool},a∈ja (some<|.nd e a b):=Aj;have r:∀{a b:Nat} {e:Bool},b∈ja (some<|.nd e a b):=Ab _ Aj;have n1:=a1 λy h h'=>ap y (h.up I o)<|h'.up J o;have n2:=a2 λy h h'=>ap y (h.up I r)<|h'.up J r;have dG:∀y∈G,Dn wd i y\/Dn wd i' y:=m1.dn;have dH:∀y∈H,Dn wd j y\/Dn wd j' y:=m2.dn;obtain⟨l1,l2⟩:=ok _ _ _ _ I;obtain⟨l3,l4⟩:=ok _ _ _ _ J;have C:∀y∈G++H,(Dn wd p y/\y<p)\/(Dn wd q y/\y<q):=λy T=>by
   rcases Ak.mp T with T|T
   ·rcases dG y T with h|h
    ·exact .inl ⟨h.up I o,by have:=h.le ok;lia⟩
    ·exact .inr ⟨h.up J o,by have:=h.le ok;lia⟩
   ·rcases dH y T with h|h
    ·exact .inl ⟨h.up I r,by have:=h.le ok;lia⟩
    ·exact .inr ⟨h.up J r,by have:=h.le ok;lia⟩
  refine Av.mpr ⟨λh=>?_,Av.mpr ⟨λh=>?_,Aq.mpr ⟨n1,n2,λa ha b hb z=>?_⟩⟩⟩
  ·rcases Am.mp h with e|h
   ·exact ap p .self<|e▸.self
   ·rcases C p h with⟨_,l⟩|⟨h,_⟩
    ·lia
    ·exact ap p .self h
  ·rcases C q h with⟨h,_⟩|⟨_,l⟩
   ·exact ap q h .self
   ·lia
  ·subst z;rcases dG a ha with h|h<;>rcases dH a hb with g|g
   ·exact uL ok U I h g
   ·exact ap a (h.up I o)<|g.up J r
   ·exact ap a (g.up I r)<|h.up J o
   ·exact uL ok U J h g
end
inductive kz(wd:List<|VG):Vh->Vh->Vk->Prop
 |nil:kz wd [] [] []
 |cons {c:Vs} {ct A B:Vg} {G H:Vk}:qA wd c.1 c.2 A G->kz wd ct B H->kz wd (c::ct) (A++B) (G++H)
theorem yT{wd:List<|VG}:∀{ct:Vg},(∀c∈ct,∃w,KW (jr wd) c.1 w/\KW (jr wd) c.2 w.turn)->∃A G,kz wd ct A G
 |[],_=>⟨_,_,.nil⟩
 |c::ct,h=>by obtain⟨w,h1,h2⟩:=h c Aj;obtain⟨A,G,m⟩:=xP h1 h2;obtain⟨B,H,n⟩:=yT λd hd=>h d<|Ab _ hd;exact⟨_,_,.cons m n⟩
def qA.subl{A:Vg}{G:Vk}(M:qA wd p q A G):(plcs A).Sublist G:=by induction M with|lf _ _=>rw[jy];exact Cy _|nd _ _ _ _ I J=>rw[zj];exact((I.append J).cons _).cons _
section
variable {A:Vg}{G:Vk}
theorem kz.subl(M:kz wd ct A G):(plcs A).Sublist G:=by induction M with|nil=>exact Cy _|cons m _ I=>rw[zj];exact m.subl.append I
theorem kz.leaf(M:kz wd ct A G):∀y∈plcs A,∃t n,wd[y]?=some (some<|.lf t n):=by
 induction M with
 |nil=>exact nofun
 |cons m _ J=>
  intro y I;rw[zj] at I;exact(Ak.mp I).elim (m.leaf y) (J y)
theorem kz.dn(M:kz wd ct A G):∀y∈G,∃p∈plcs ct,Dn wd p y:=by
 induction M with
 |nil=>exact nofun
 |@cons c ct A B G H m _ J=>
  intro y I;rw[qx];rcases Ak.mp I with I|I
  ·rcases m.dn y I with h|h
   ·exact⟨_,Aj,h⟩
   ·exact⟨_,Ab _ Aj,h⟩
  ·obtain⟨p,U,h⟩:=J y I;exact⟨p,Ab _<|Ab _ U,h⟩
theorem kz.nodup(ok:jB wd)(U:dJ wd)(M:kz wd ct A G):(plcs ct).Nodup->(∀x∈plcs ct,x∉xl wd)->G.Nodup:=by
 induction M with
 |nil=>exactλ_ _=>CW
 |@cons c ct A B G H m o r=>
  intro nd np;rw[qx] at nd np;obtain⟨f1,nd⟩:=Av.mp nd;obtain⟨f2,nd⟩:=Av.mp nd;have j:=np c.1 Aj;have l:=np c.2<|Ab _ Aj;have J:∀p∈plcs ct,p∉xl wd:=λp I=>np p<|Ab _<|Ab _ I;refine Aq.mpr ⟨m.nodup ok U λy h g=>f1<|rJ U j l h g▸Aj,r nd J,λa t b C z=>?_⟩;subst z;obtain⟨p,I,g⟩:=o.dn a C;rcases m.dn a t with h|h
  ·exact f1<|rJ U j (J p I) h g▸Ab _ I
  ·exact f2<|rJ U l (J p I) h g▸I
theorem kz.gone{x:Nat}(M:kz wd ct A G):x∉G->kz (wd.set x none) ct A G:=by induction M with|nil=>exactλ_=>.nil|cons m _ I=>exactλh=>.cons (m.gone λz=>h<|Ao _ z)<|I λz=>h<|Ag _ z
def kz.app{B:Vg}{H:Vk}(M:kz wd ct A G)(N:kz wd ln B H):kz wd (ct++ln) (A++B) (G++H):=by induction M with|nil=>exact N|cons m _ I=>rw[Ar,Ar];exact .cons m I
def kz.perm(p:ct.Perm ln):∀{A G},kz wd ct A G->∃j r,kz wd ln j r/\j.Perm A/\r.Perm G:=by
 induction p with
 |nil=>exactλM=>⟨_,_,M,.refl _,.refl _⟩
 |cons c _ t=>
  rintro _ _ (⟨⟩|⟨m,n⟩);obtain⟨B,H,C,I,J⟩:=t n;exact⟨_,_,.cons m C,I.append_left _,J.append_left _⟩
 |swap c d l=>
  rintro _ _ (⟨⟩|⟨m,⟨⟩|⟨n,o⟩⟩);refine⟨_,_,.cons n<|.cons m o,?_,?_⟩
  ·rw[<-Ar,<-Ar];exact AU.append_right _
  ·rw[<-Ar,<-Ar];exact AU.append_right _
 |trans _ _ U g=>
  intro _ _ M;obtain⟨A1,G1,T,I,J⟩:=U M;obtain⟨A2,G2,M2,p3,p4⟩:=g T;exact⟨A2,G2,M2,p3.trans I,p4.trans J⟩
end
def vi(l:List<|VG):Vk->List (VG)
 |[]=>l
 |x::G=>vi (l.set x none) G
theorem wc:∀(G:Vk) (l:List<|VG),(vi l G).length=l.length
 |[],_=>rfl
 |x::G,l=>by show(vi (l.set x none) G).length=_;rw[wc G,Bk]
theorem dq:∀(G:Vk) (l:List<|VG) (i:Nat),i<l.length->(vi l G)[i]?=if i∈G then some none else l[i]?
 |[],l,i,_=>by rw[Ay (by simp)];rfl
 |x::G,l,i,h=>by
  show(vi (l.set x none) G)[i]?=_;rw[dq G _ i (by rw[Bk];exact h)];by_cases c:i∈G
  ·rw[AA c,AA<|Ab _ c]
  ·rw[Ay c];by_cases e:i=x
   ·subst e;rw[AA Aj,BR h]
   ·rw[Ay λz=>(Am.mp z).elim e c,A5<|AG e]
def wV{G H:Vk}(p:G.Perm H)(l:List<|VG):vi l G=vi l H:=by
 refine Dx λi=>?_;by_cases h:i<l.length
 ·rw[dq G l i h,dq H l i h];by_cases c:i∈G
  ·rw[AA c,AA<|p.mem_iff.mp c]
  ·rw[Ay c,Ay λz=>c<|p.mem_iff.mpr z]
 ·rw[BJ (by rw[wc];lia),BJ (by rw[wc];lia)]
theorem kz.step{A:Vg}{G:Vk}(ok:jB wd)(I:bR wd ct)(M:kz wd ct A G){k:Nat}{x:Vs}(ex:ct[k]?=some x)(pm:ln.Perm<|ct.eraseIdx k++dw wd x):∃J U,kz (gone2 wd x) ln J U/\G.Perm (x.1::x.2::U)/\
 ((∃e i j,wd[x.1]?=some (some<|.nd e i j))/\J.Perm A\/(∃t n,wd[x.1]?=some (some<|.lf t n))/\A.Perm (x::J)):=by
 have hx:=Az ex;obtain⟨A1,g,M1,pA,p⟩:=M.perm<|x4 ex;have nd:=p.nodup_iff.mpr<|M.nodup ok I.pu I.ctN I.ctP;cases M1 with
 |@cons _ _ Ax B Gx H m n=>
  rcases I.two hx with⟨t,nm,l,e2,ei⟩|⟨e,i,j,i',j',l,e2,ei⟩
  ·rw[ei,AC] at pm;cases m with
   |nd h1 _ _ _=>rw[l] at h1;cases h1
   |lf h1 h2=>
    have d:=Aq.mp nd;have g1:x.1∉H:=λz=>d.2.2 x.1 Aj x.1 z rfl;have g2:x.2∉H:=λz=>d.2.2 x.2 (Ab _ Aj) x.2 z rfl;obtain⟨J,U,r,C,T⟩:=((n.gone g1).gone g2).perm pm.symm;exact⟨J,U,r,p.symm.trans<|(T.symm.cons _).cons _,.inr ⟨⟨t,nm,l⟩,pA.symm.trans<|C.symm.cons x⟩⟩
  ·rw[ei] at pm;cases m with
   |lf h1 _=>rw[l] at h1;cases h1
   |@nd _ _ i1 j1 i2 j2 b b' A1 A2 g o h1 h2 m1 m2=>
    rw[l] at h1;rw[e2] at h2;obtain⟨rfl,rfl⟩:i=i1/\j=j1:=by injection h1 with q;injection q with q;injection q with _ a b;exact⟨a,b⟩
    obtain⟨rfl,rfl⟩:i'=i2/\j'=j2:=by injection h2 with q;injection q with q;injection q with _ a b;exact⟨a,b⟩
    have nd:(x.1::x.2::((g++o)++H)).Nodup:=nd;obtain⟨f1,nd⟩:=Av.mp nd;obtain⟨f2,nd⟩:=Av.mp nd;have f1:x.1∉(g++o)++H:=λz=>f1<|Ab _ z;have N:kz wd (ct.eraseIdx k++[(i,i'),(j,j')]) (B++(A1++(A2++[]))) (H++(g++(o++[]))):=n.app<|.cons m1<|.cons m2 .nil;have pH:(H++(g++(o++[]))).Perm ((g++o)++H):=by rw[AC];exact AU
    obtain⟨J,U,r,C,T⟩:=((N.gone λz=>f1<|pH.mem_iff.mp z).gone λz=>f2<|pH.mem_iff.mp z).perm pm.symm;refine⟨J,U,r,p.symm.trans<|((T.trans pH).symm.cons _).cons _,.inl ⟨⟨e,i,j,l⟩,C.trans<|List.Perm.trans ?_ pA⟩⟩;rw[AC];exact AU
def ao.mono{ps:Vg}(h:∀a b,i5 ps a b->i5 mE a b){x a:Nat}(m:ao lk ps x a):ao lk mE x a:=by induction m with|self=>exact .self|at_ h1 h2=>exact .at_ h1 (h _ _ h2)|next h1 h2 _ I=>exact .next h1 (h _ _ h2) I
def aK.perm{A B:Vg}(p:A.Perm B):aK lk A↔aK lk B:=by
 have one:∀{A B:Vg},A.Perm B->aK lk A->aK lk B:=λp h a I=>by obtain⟨x,J,U,m⟩:=h a I;exact⟨x,J,λz=>U<|(jc p).mem_iff.mpr z,m.mono λa b=>(aZ p).mp⟩
 exact⟨one p,one p.symm⟩
def cW.perm{A B:Vg}(p:A.Perm B){x:Nat}:(∃n,cW lk A n x y)↔∃n,cW lk B n x y:=⟨λ⟨n,w⟩=>⟨n,w.mono (λ_ _ h=>h) λa b=>(aZ p).mp⟩,λ⟨n,w⟩=>⟨n,w.mono (λ_ _ h=>h) λa b=>(aZ p).mpr⟩⟩
def rY{l m:Vk}(pm:l.Perm<|p::q::m)(nd:l.Nodup)(a:Nat):a∈m↔a∈l/\a≠p/\a≠q:=by
 obtain⟨f1,I⟩:=Av.mp<|pm.nodup_iff.mp nd;obtain⟨f2,_⟩:=Av.mp I;constructor
 ·exactλh=>⟨pm.mem_iff.mpr<|Ab _<|Ab _ h,λe=>f1<|e▸Ab _ h,λe=>f2<|e▸h⟩
 ·rintro⟨h,h1,h2⟩;exact(Am.mp<|(Am.mp<|pm.mem_iff.mp h).resolve_left h1).resolve_left h2
def Ui{A U:Vg}{x g j:Vs}{u v:Nat}(nd:(plcs lk).Nodup)(np:(plcs A).Nodup)(J:A.Perm<|x::U)(l:x.1≠x.2)(p:g∈lk)(r:j∈lk)(ne:g≠j)(t:gA x.1 u g)(C:gA x.2 v j)(pm:fx.Perm<|lk.filter (ji x.1 x.2)++[bM u v]):Out lk fx A U x.1 x.2 u v:=by
 have pl:(plcs A).Perm (x.1::x.2::plcs U):=by have:=jc J;rw[qx] at this;exact this
 refine⟨nd,np,JX nd p r ne l t C pm,(aZ J).mpr ⟨x,Aj,.inl rfl⟩,λa b h h1 h2=>?_,λa b h=>⟨(aZ J).mpr ?_,((rY pl np a).mp (EV h).1).2⟩⟩
 ·obtain⟨z,I,o⟩:=(aZ J).mp h;rcases Am.mp I with rfl|I
  ·rcases o.mem with e|e
   ·exact(h1 e).elim
   ·exact(h2 e).elim
  ·exact⟨z,I,o⟩
 ·obtain⟨z,I,o⟩:=h;exact⟨z,Ab _ I,o⟩
structure FrI(nE A0:Vg)(Z wd:List<|VG)(lk ct:Vg)(m:Nat):Prop where
 ok:jB wd
 i:bR wd ct
 j:LkC wd lk
 ex:∃A G,kz wd ct A G/\vi wd G=Z/\G.length=m/\(aK lk A↔aK nE A0)/\(∀x,(x∈plcs lk/\x∉plcs A)↔(x∈plcs nE/\x∉plcs A0))/\∀x y,x∈plcs lk->x∉plcs A->y∈plcs lk->y∉plcs A->((∃n,cW lk A n x y)↔∃n,cW nE A0 n x y)
section
variable {nE A0:Vg}
def FrI.start(ok:jB wd)(I:bR wd ct)(J:LkC wd lk){A:Vg}{G:Vk}(M:kz wd ct A G):FrI lk A (vi wd G) wd lk ct G.length:=⟨ok,I,J,A,G,M,rfl,rfl,Iff.rfl,λ_=>Iff.rfl,λ_ _ _ _ _ _=>Iff.rfl⟩
def jB.gone2(ok:jB wd)(x:Vs):jB (L3.gone2 wd x):=λp e i j h=>ok p e i j (cN h).2.2
theorem FrI.step(F:FrI nE A0 Z wd lk ct m){k:Nat}{x:Vs}(ex:ct[k]?=some x)(st:wF wd lk x fx)(pm:ln.Perm<|ct.eraseIdx k++dw wd x)(pw:ln.Pairwise bJ):∃m',m=m'+2/\FrI nE A0 Z (gone2 wd x) fx ln m':=by
 have hx:=Az ex;obtain⟨A,G,M,eZ,em,aR,fr,wk⟩:=F.ex;obtain⟨l,p,M',pG,h⟩:=M.step F.ok F.i ex pm;have zl:=pG.length_eq;rw[AF,AF] at zl;have nG:=M.nodup F.ok F.i.pu F.i.ctN F.i.ctP;have np:(plcs A).Nodup:=M.subl.nodup nG;have r:vi (gone2 wd x) p=Z:=by rw[<-eZ,wV pG];rfl
 have I':=F.i.step ex pm pw;have J':=F.j.step F.i hx st;refine⟨p.length,by lia,F.ok.gone2 x,I',J',l,p,M',r,rfl,?_⟩;rcases h with⟨⟨e,i,j,C⟩,J⟩|⟨⟨t,n,C⟩,J⟩
 ·rcases st with⟨_,rfl⟩|⟨t,n,_,_,_,_,U,_⟩
  ·have T:∀x,x∈plcs l↔x∈plcs A:=λx=>(jc J).mem_iff;refine⟨(aK.perm J).trans aR,λx=>by rw[T x];exact fr x,λx y h1 h2 h3 g=>(cW.perm J).trans<|wk x y h1 (λz=>h2<|(T x).mpr z) h3 λz=>g<|(T y).mpr z⟩
  ·rw[C] at U;cases U
 ·rcases st with⟨⟨e,i,j,U⟩,_⟩|⟨t',n',x0,y0,u,v,_,mx,my,ne,ou,ov,pl,a4⟩
  ·rw[C] at U;cases U
  ·have a3:=lg F.i.ctN hx;have O:=Ui F.j.lkN np J a3 mx my ne ou ov pl;have pp:(plcs A).Perm (x.1::x.2::plcs l):=by have:=jc J;rw[qx] at this;exact this
   have hs:=rY pp np;have o:=rY ((fK F.j.lkN mx my ne ou ov).trans<|((jc pl).symm.cons _).cons _) F.j.lkN;have pq:=O.pq.mem;have I:∀y,(y∈plcs fx/\y∉plcs l)↔(y∈plcs lk/\y∉plcs A):=λy=>by
    rw[o y,hs y];constructor
    ·rintro⟨⟨h1,h2,h3⟩,g⟩;exact⟨h1,λz=>g ⟨z,h2,h3⟩⟩
    ·rintro⟨h1,h2⟩;exact⟨⟨h1,λe=>h2<|e▸pq.1,λe=>h2<|e▸pq.2⟩,λz=>h2 z.1⟩
   refine⟨(aK.iff O o hs).symm.trans aR,λy=>(I y).trans<|fr y,λy z h1 h2 h3 g=>?_⟩;obtain⟨a1,a2⟩:=(I y).mp ⟨h1,h2⟩;obtain⟨b1,b2⟩:=(I z).mp ⟨h3,g⟩;obtain⟨_,y1,y2⟩:=(o y).mp h1;obtain⟨_,z1,z2⟩:=(o z).mp h3;refine Iff.trans ⟨λ⟨n,w⟩=>cW.back O.j (λa b h=>(O.dn a b h).1) O.pq w,λ⟨n,w⟩=>cW.on O.nd O.np O.j O.pq O.up n y1 y2 z1 z2 w⟩<|wk y z a1 a2 b1 b2
theorem FrI.ref(F:FrI nE A0 Z wd lk ct m){k:Nat}{x:Vs}(ex:ct[k]?=some x)(U:JW lk x):¬aK nE A0:=by
 have C:=Az ex;obtain⟨A,G,M,T,em,g,fr,wk⟩:=F.ex;obtain⟨_,_,_,_,h⟩:=M.step F.ok F.i ex<|.refl _;have l:=M.nodup F.ok F.i.pu F.i.ctN F.i.ctP;obtain⟨z,I,o⟩:=U;have lf:x.1∈plcs lk:=(EV ⟨z,I,o⟩).1;rcases h with⟨⟨e,i,j,p⟩,_⟩|⟨_,r⟩
 ·obtain⟨t,n,J⟩:=(F.j.lkL x.1).mp lf;rw[p] at J;cases J
 ·exactλh=>aK.no F.j.lkN (M.subl.nodup l) ((aZ r).mpr ⟨x,Aj,.inl rfl⟩) ⟨z,I,o⟩<|g.mpr h
def FrI.end_(F:FrI nE A0 Z wd lk [] m):wd=Z/\aK nE A0/\∀x y,xo lk x y↔(x∈plcs nE/\x∉plcs A0)/\(y∈plcs nE/\y∉plcs A0)/\∃n,cW nE A0 n x y:=by
 obtain⟨A,G,M,g,em,j,I,U⟩:=F.ex;cases M;have no:∀a,a∉plcs ([]:Vg):=λa=>nofun;refine⟨g,j.mp λa l=>⟨a,l,no a,.self⟩,λx y=>⟨λh=>?_,λ⟨h1,h2,h3⟩=>?_⟩⟩
 ·have J:=h.mem;exact⟨(I x).mp ⟨J.1,no x⟩,(I y).mp ⟨J.2,no y⟩,(U x y J.1 (no x) J.2<|no y).mp ⟨0,.one h⟩⟩
 ·obtain⟨o,p⟩:=(I x).mpr h1;obtain⟨b1,b2⟩:=(I y).mpr h2;obtain⟨n,w⟩:=(U x y o p b1 b2).mpr h3;cases w with
  |one h=>exact h
  |more _ h _=>obtain⟨z,r,_⟩:=h;cases r
end
def xS(E3:X3)(I:jV):a9:=(zm (x8 (aE<|qo (cI cY<|bL<|fP 0 0)<|qo (cI cY<|bL<|fP 0 1)<|qo (cI cY<|bL<|fP 0 2) jn)<|qp 1)
 (zm (sD (Hg (fP 1 2)<|jT jn)<|x8 (jG I E3<|cB (qf 1)<|fQ 0)<|qp 1)
 (aY<|qf 1)))
def JY(lk A fx:Vg):Prop:=∀x y,xo fx x y↔(x∈plcs lk/\x∉plcs A)/\(y∈plcs lk/\y∉plcs A)/\∃n,cW lk A n x y
inductive cM(C:Addr)(ys:List Y)(L:qk)(Q:YK)(E:Addr->qk->Prop):Prop
 |mk:∀a l c,∀wd:List (VG),∀lk ct A:Vh,∀G:Vk,(ys=[xc a l c])->(L a=some (.lst<|jr wd))->(L l=some (.lst<|qt lk))->(L c=some (.lst<|qt ct))->(jB wd)->(bR wd ct)->(LkC wd lk)->(kz wd ct A G)->((¬aK lk A->E C L))->((aK lk A->∀fx a' l' c' L',qh L L'->L a'=none->L l'=none->L c'=none->a'≠l'->a'≠c'->l'≠c'->L' a'=some (.lst<|jr<|vi wd G)->L' l'=some (.lst<|qt fx)->L' c'=some (.lst [])->LkC (vi wd G) fx->JY lk A fx->Q (xc a' l' c') L'))->cM C ys L Q E
def Uj :∀ys L Q E,cM C ys L Q E->vd (xS (rR E)<|eF C) 2 ys L Q:=by
 rintro ys L Q E ⟨a,l,c,wd,lk,ct,A,G,rfl,ha,hl,hc,ok,I,J,M,qe,q⟩;refine qb ha λU h1=>?_;have s1:=By (o:=.lst<|jr wd) h1;refine qb (s1 _ _ hl) λg h2=>?_;have s2:=s1.trans<|By (o:=.lst<|qt lk) h2;refine qb (s2 _ _ hc) λr h3=>?_;have a2:U≠g:=aP q9 h2;have a3:g≠r:=aP q9 h3;have a4:U≠r:=aP ((qc a2).trans q9) h3;have s3:=s2.trans<|By (o:=.lst<|qt ct) h3;have g1:qi (qi (qi L U<|.lst<|jr wd) g<|.lst<|qt lk) r (.lst<|qt ct) U=some (.lst<|jr wd):=(qc a4).trans<|(qc a2).trans q9;have g2:qi (qi (qi L U<|.lst<|jr wd) g<|.lst<|qt lk) r (.lst<|qt ct) g=some (.lst<|qt lk):=(qc a3).trans q9;have g3:qi (qi (qi L U<|.lst<|jr wd) g<|.lst<|qt lk) r (.lst<|qt ct) r=some (.lst<|qt ct):=q9;have f2:=s1.none h2;have f3:=s2.none h3;generalize qi (qi (qi L U<|.lst<|jr wd) g<|.lst<|qt lk) r (.lst<|qt ct)=L3 at s3 g1 g2 g3 ⊢;refine⟨λm τ L'=>∃U g r T mH t,τ=[some<|xc a l c,some<|xc U g r]/\qh L L'/\L U=none/\L g=none/\L r=none/\U≠g/\U≠r/\g≠r/\L' U=some (.lst<|jr T)/\L' g=some (.lst<|qt mH)/\L' r=some (.lst<|qt t)/\FrI lk A (vi wd G) T mH t m,⟨_,U,g,r,wd,lk,ct,rfl,s3,h1,f2,f3,a2,a4,a3,g1,g2,g3,FrI.start ok I J M⟩,?_⟩;rintro m τ L4 ⟨U,g,r,T,mH,t,rfl,s4,e1,e2,e3,d1,d2,d3,k1,k2,k3,F⟩;intro p hp;have sp:=By (o:=.lst []) hp;refine dy (n:=1) (m:=0) (by decide) (sp _ _ k3) q9 (oD t) .nil ?_;have s5:=s4.trans sp;have j1:=sp _ _ k1;have j2:=sp _ _ k2;have j3:=sp _ _ k3;generalize qi L4 p (.lst [])=L5 at s5 j1 j2 j3 ⊢;cases t with
 |nil=>
  obtain⟨ew,aR,fr⟩:=F.end_;subst ew;exact xa<|q aR mH U g r L5 s5 e1 e2 e3 d1 d2 d3 j1 j2 j3 F.j fr
 |cons x0 t=>
  refine⟨λτ L'=>∃m',m'<m/\∃U g r T mH t,τ=[some<|xc a l c,some<|xc U g r]/\qh L L'/\L U=none/\L g=none/\L r=none/\U≠g/\U≠r/\g≠r/\L' U=some (.lst<|jr T)/\L' g=some (.lst<|qt mH)/\L' r=some (.lst<|qt t)/\FrI lk A (vi wd G) T mH t m',?_,?_⟩
  ·rintro τ L' ⟨m',h,z⟩;exact⟨m',h,z⟩
  ·refine⟨U,g,r,T,mH,_,0,rfl,j1,j2,j3,F.i,F.j,λh=>⟨L,s5,qe<|F.ref (k:=0) rfl<|h 0 x0 rfl rfl⟩,λk x ek ex a5 ac a' l' c' L' t1 r1 r2 r3 n1 n2 n3 v1 v2 v3 st pm pw=>?_⟩;obtain⟨m',em,F'⟩:=F.step ex st pm pw;exact⟨_,EK _,m',by lia,a',l',c',_,a5,ac,rfl,s5.trans t1,s5.none r1,s5.none r2,s5.none r3,n1,n2,n3,v1,v2,v3,F'⟩
def kY(J:kh):RR "_law_meet" kD 1 ["_law_knots","_law_p","_law_q","_law_across","_law_left"] ["_law_knots","_law_p","_law_q","_law_across","_law_left"] J (λ_=>True):=⟨_,λV B c _ _ I _ _ _ _ _ _ g hN U=>(qa (iD (qv 4) (qv 1) aa)<|qa (iD (qv 4) (qv 2) aa)<|qa (zr (E_ U (L_ B.ba<|I_ (qv 0)<|qv 1) qd) (qa (wq U (qv 3) (qv 1)<|qv 2)<|qa (wq U (qv 3) (qv 2)<|qv 1)<|qg rg) za)<|qa (zf<|C_ I g<|jw (qv 0)<|jw (I_ (I_ (qv 0)<|qv 1) qd)<|bQ (I_ (I_ (qv 0)<|qv 2) qd) (qv 3)<|qv 4)<|qg<|zf<|C_ I g<|jw (qv 0)<|jw (I_ (I_ (qv 0)<|qv 1) qd)<|bQ (I_ (I_ (qv 0)<|qv 2) qd) (qv 3)<|qv 4)⟩
structure AcI(ps:Vg)(kvs:List<|j9×Y):Prop where
 val:∀x y:Nat,i5 ps x y->ve kvs (.inl (x:Int))=some (.int (y:Int))
 no:∀x:Nat,x∉plcs ps->ve kvs (.inl (x:Int))=none
 len:kvs.length<=2*ps.length
def AcI.nil:AcI [] []:=⟨λ_ _ ⟨_,h,_⟩=>(by cases h),λ_ _=>rfl,Ap _⟩
def cT{x:Nat}{y:Y}:ve (dU kvs (.inl (p:Int)) y) (.inl (x:Int))=if x=p then some y else ve kvs (.inl (x:Int)):=by
 rw[nM];by_cases c:x=p
 ·subst c;rw[AA rfl,AA rfl]
 ·rw[Ay c,Ay λz=>c<|BP.mp<|Fj z]
def AcI.put{ps:Vg}(I:AcI ps kvs)(nd:(plcs<|ps++[(p,q)]).Nodup):AcI (ps++[(p,q)]) (dU (dU kvs (.inl (p:Int))<|.int (q:Int)) (.inl (q:Int))<|.int (p:Int)):=by
 rw[zj,jy] at nd;obtain⟨_,g,j⟩:=Aq.mp nd;have U:p≠q:=by simp at g;exact g
 have old:∀x∈plcs ps,x≠p/\x≠q:=λx l=>⟨λe=>j x l p Aj e,λe=>j x l q (Ab _ Aj) e⟩;refine⟨λx y h=>?_,λx h=>?_,?_⟩
 ·rw[cT,cT];obtain⟨z,J,o⟩:=h;rcases Ak.mp J with J|J
  ·have:=old x (EV ⟨z,J,o⟩).1;rw[Ay this.2,Ay this.1];exact I.val x y ⟨z,J,o⟩
  ·rw[An.mp J] at o;rcases o with e|e<;>injection e with r t<;>subst r t
   ·rw[Ay U,AA rfl]
   ·rw[AA rfl]
 ·rw[zj,jy] at h;have h1:x≠p:=λe=>h<|Ag _<|e▸Aj;have h2:x≠q:=λe=>h<|Ag _<|e▸Ab _ Aj;rw[cT,cT,Ay h2,Ay h1];exact I.no x λz=>h<|Ao _ z
 ·have a:=bK kvs (.inl (p:Int))<|.int (q:Int);have b:=bK (dU kvs (.inl (p:Int))<|.int (q:Int)) (.inl (q:Int))<|.int (p:Int);have c:=I.len;rw[Ad];show _<=2*(ps.length+1);lia
theorem io:∀(G H:Vk) (l:List<|VG),vi l (G++H)=vi (vi l G) H
 |[],_,_=>rfl
 |_::G,H,l=>io G H _
inductive fC(n:Nat)(ys:List Y)(L:qk)(Q:YK):Prop
 |mk:∀a d b,∀wd ls:List (VG),∀ps:Vh,∀kvs:List (j9×Y),∀p q:Nat,∀w:Wd,∀A:Vh,∀G:Vk,(ys=[.ref a,.int (p:Int),.int (q:Int),.ref d,.ref b])->(L a=some (.lst<|jr wd))->(L d=some (.dct kvs))->(L b=some (.lst<|jr ls))->(a≠b)->(ls.length=wd.length)->(KW (jr wd) p w)->(KW (jr wd) q w.turn)->(w.depth<=n)->(AcI ps kvs)->(qA wd p q A G)->((plcs<|ps++A).Nodup)->((ps++A).length<=1000)->(∀kvs',AcI (ps++A) kvs'->Q .non (qi (qi L d<|.dct kvs') b<|.lst<|jr<|vi ls G))->fC n ys L Q
def Uk:∀ys L Q,¬fC 0 ys L Q:=by rintro ys L Q ⟨_,_,_,_,_,_,_,_,_,w,_,_,_,_,_,_,_,_,_,_,h,_⟩;cases w<;>simp[Wd.depth] at h
def Ul(n:Nat):∀ys L Q,fC (n+1) ys L Q->vd (kY<|fC n).1 5 ys L Q:=by
 rintro ys L Q ⟨a,d,b,T,ls,ps,o,p,q,w,A,G,rfl,ha,hd,hb,g,hl,h1,h2,hw,I,M,nd,hz,qq⟩;have big:=a_;have a2:a≠d:=λe=>by subst e;rw[ha] at hd;cases hd
 have U:b≠d:=λe=>by subst e;rw[hb] at hd;cases hd
 obtain⟨k1,e1⟩:=h1.ex;obtain⟨k2,e2⟩:=h2.ex;have l1:=zn e1;have l2:=zn e2;have kl:=I.len;refine qr hb (qj (by rw[aA];exact l5 (by lia):wG (jr ls).length (p:Int)=some p) ?_);rw[l7];refine qr q9 (qj (by rw[aA,Bk];exact l5 (by lia):wG (jr<|ls.set p none).length (q:Int)=some q) ?_);rw[l7,zq];have ka:qi L b (.lst<|jr<|(ls.set p none).set q none) a=some (.lst<|jr T):=(qc g).trans ha;have kd:qi L b (.lst<|jr<|(ls.set p none).set q none) d=some (.dct o):=(qc<|AG U).trans hd;cases w with
 |leaf t nm=>
  have f1:=h1.inv_lf;refine qb ka<|qj (v4 f1) ?_;cases M with
  |nd g1 _ _ _=>rw[f1] at g1;cases g1
  |lf _ _=>
   rw[Ad] at hz;have hz:ps.length+1<=1000:=hz;refine jd kd ⟨big _ (by lia),?_⟩;have b1:=bK o (.inl (p:Int))<|.int (q:Int);refine jd q9 ⟨big _ (by lia),?_⟩;rw[zq,ar U];exact xa<|qq _<|I.put nd
 |node e l r=>
  have ax:max l.depth r.depth+1<=n+1:=hw;obtain⟨i,j,f1,a3,a4⟩:=h1.inv_nd;obtain⟨i',j',f2,a5,ac⟩:=h2.inv_nd;have b1:dW (jr T) (p:Int)=some (oR<|some<|.nd e i j):=v4 f1;have b2:dW (jr T) (q:Int)=some (oR<|some<|.nd (!e) i' j'):=v4 f2;cases M with
  |lf g1 _=>rw[f1] at g1;cases g1
  |@nd _ _ i1 j1 i2 j2 c c' A1 A2 G1 G2 g1 g2 M1 M2=>
   rw[f1] at g1;rw[f2] at g2;obtain⟨rfl,rfl⟩:i=i1/\j=j1:=by injection g1 with z;injection z with z;injection z with _ a b;exact⟨a,b⟩
   obtain⟨rfl,rfl⟩:i'=i2/\j'=j2:=by injection g2 with z;injection z with z;injection z with _ a b;exact⟨a,b⟩
   rw[<-Ar] at nd hz;have al:(plcs<|ps++A1).Nodup:=by rw[zj] at nd;exact(Aq.mp nd).1
   have au:(ps++A1).length<=1000:=by rw[Ad] at hz;lia
   refine qb ka<|qj b1 ?_;refine qb ka<|qj b1<|qb ka<|qj b2 ?_;refine⟨a,d,b,T,_,ps,o,i,i',l,A1,G1,rfl,ka,kd,q9,g,by rw[Bk,Bk];exact hl,a3,a5,by lia,I,M1,al,au,λJ I1=>?_⟩;rw[ar U,zq];have C:qi (qi L d<|.dct J) b (.lst<|jr<|vi ((ls.set p none).set q none) G1) a=some (.lst<|jr T):=(qc g).trans<|(qc a2).trans ha;have av:qi (qi L d<|.dct J) b (.lst<|jr<|vi ((ls.set p none).set q none) G1) d=some (.dct J):=(qc<|AG U).trans q9;refine qb C<|qj b1<|qb C<|qj b2 ?_;refine⟨a,d,b,T,_,ps++A1,J,j,j',r,A2,G2,rfl,C,av,q9,g,by rw[wc,Bk,Bk];exact hl,a4,ac,by lia,I1,M2,nd,hz,λa1 I2=>?_⟩;rw[ar U,zq,zq,<-io];rw[Ar] at I2;exact xa<|qq a1 I2
structure MkI(S:Vk)(kvs:List<|j9×Y):Prop where
 val:∀x:Nat,(ve kvs<|.inl (x:Int)).isSome=true↔x∈S
 len:kvs.length=S.length
 nd:S.Nodup
theorem MkI.nil:MkI [] []:=⟨λ_=>⟨λh=>(by cases h),λh=>(by cases h)⟩,rfl,.nil⟩
theorem nU:∀(l m:Vk),l.Nodup->(∀x∈l,x∈m)->l.length<=m.length
 |[],_,_,_=>Bb _
 |x::r,m,nd,h=>by obtain⟨J,U⟩:=Av.mp nd;have g:=nU r (m.erase x) U λy I=>(List.mem_erase_of_ne (λe:y=x=>J<|e▸I)).mpr<|h y<|Ab _ I;rw[(List.perm_cons_erase<|h x Aj).length_eq,AF,AF];lia
def MkI.put{S:Vk}(I:MkI S kvs)(x:Nat)(y:Y):∃S',MkI S' (dU kvs (.inl (x:Int)) y)/\∀z,z∈S'↔z∈S\/z=x:=by
 by_cases c:x∈S
 ·refine⟨S,⟨λz=>?_,?_,I.nd⟩,λz=>⟨.inl,λh=>h.elim id λe=>e▸c⟩⟩
  ·rw[cT];by_cases e:z=x
   ·rw[AA e,e];exact⟨λ_=>c,λ_=>rfl⟩
   ·rw[Ay e];exact I.val z
  ·unfold dU;rw[iM,(I.val x).mpr c,AA rfl,Af,I.len]
 ·refine⟨S++[x],⟨λz=>?_,?_,?_⟩,λz=>by simp⟩
  ·rw[cT,Ak,An];by_cases e:z=x
   ·rw[AA e];exact⟨λ_=>.inr e,λ_=>rfl⟩
   ·rw[Ay e,I.val z];exact⟨.inl,λh=>h.elim id λh=>(e h).elim⟩
  ·have h:(ve kvs<|.inl (x:Int)).isSome=false:=Bool.eq_false_iff.mpr λh=>c<|(I.val x).mp h;unfold dU;rw[iM,h,Ay AQ,Ad,Ad,I.len];rfl
  ·rw[Aq];exact⟨I.nd,by simp,λa J b U e=>c<|An.mp U▸e▸J⟩
section
variable {A:Vg}{b w z x:Nat}
def Um(nd:(plcs lk).Nodup)(l:xo lk b y)(I:y∉plcs A):ao lk A b z↔z=b:=by refine⟨λh=>?_,λe=>e▸.self⟩;cases h with|self=>rfl|at_ h1 h2=>exact(I<|EM nd l h1▸(EV h2).1).elim|next h1 h2 _=>exact(I<|EM nd l h1▸(EV h2).1).elim
def Uo(nd:(plcs lk).Nodup)(np:(plcs A).Nodup)(l:xo lk b y)(a:i5 A y w):ao lk A b z↔z=b\/z=y\/ao lk A w z:=by
 refine⟨λh=>?_,λh=>?_⟩
 ·cases h with
  |self=>exact .inl rfl
  |at_ h1 h2=>exact .inr<|.inl<|EM nd h1 l
  |next h1 h2 h3=>
   have e:=EM nd h1 l;subst e;exact .inr<|.inr<|EM np h2 a▸h3
 ·rcases h with rfl|rfl|h
  ·exact .self
  ·exact .at_ l a
  ·exact .next l a h
def ao.mem(I:∀a∈plcs A,a∈plcs lk)(h:ao lk A x z):x∈plcs lk->z∈plcs lk:=by induction h with|self=>exact id|at_ h1 _=>exactλ_=>(EV h1).2|next _ h2 _ J=>exactλ_=>J<|I _ (EV h2).2
theorem MkI.all{S:Vk}(I:MkI S kvs)(nd:(plcs lk).Nodup)(g:∀a∈plcs A,a∈plcs lk)(h:∀a,a∈S↔∃x∈plcs lk,x∉plcs A/\ao lk A x a):kvs.length<2*lk.length↔¬aK lk A:=by
 have sub:∀a∈S,a∈plcs lk:=λa J=>by obtain⟨x,j,_,m⟩:=(h a).mp J;exact m.mem g j
 have l:=nU S _ I.nd sub;rw[I.len,<-w4];refine⟨λc all=>?_,λc=>?_⟩
 ·have:=nU _ S nd λa J=>(h a).mpr<|all a J;lia
 ·refine Ck l λe=>c λa J=>(h a).mp ?_;by_cases k:a∈S
  ·exact k
  ·have:=nU (a::S) (plcs lk) (Av.mpr ⟨k,I.nd⟩) λy U=>by
    rcases Am.mp U with rfl|U
    ·exact J
    ·exact sub y U
   rw[AF] at this;lia
def Uq(nd:(plcs lk).Nodup)(np:(plcs A).Nodup){S S' T:Nat->Prop}(I:S b)(l:xo lk b y)(a:i5 A y w)(s:∀z,S' z↔(S z\/z=y)\/z=w)(i:∀z,(S z\/ao lk A b z)↔T z):S' w/\∀z,(S' z\/ao lk A w z)↔T z:=by
 refine⟨(s w).mpr<|.inr rfl,λz=>?_⟩;rw[<-i z,Uo nd np l a,s z];constructor
 ·rintro(((h|h)|h)|h)
  ·exact .inl h
  ·exact .inr<|.inr<|.inl h
  ·exact .inr<|.inr<|.inr<|h▸.self
  ·exact .inr<|.inr<|.inr h
 ·rintro(h|h|h|h)
  ·exact .inl<|.inl<|.inl h
  ·exact .inl<|.inl<|.inl<|h▸I
  ·exact .inl<|.inl<|.inr h
  ·exact .inr h
def wE(nd:(plcs lk).Nodup){S T:Nat->Prop}(I:S b)(l:xo lk b y)(J:y∉plcs A)(i:∀z,(S z\/ao lk A b z)↔T z)(z:Nat):S z↔T z:=by rw[<-i z,Um nd l J];exact⟨.inl,λh=>h.elim id λe=>e▸I⟩
end
def hZ(I:kh):RD "_law_freed" gr 97 ["_law_web_here","_law_knots","_law_links","_law_cuts","_law_across","_law_left","_law_p","_law_q","_law_partner","_law_walked","_law_row","_law_x","_law_y"] (λV=>Ji V I):=⟨_,λV B c _ _ _ _ _ _ _ U hN J=>(qa (bB (qv 0)<|ku (n:=3) rfl<|qz (G_ 1 hN)<|qz (G_ 2 hN)<|qz (G_ 3 hN) xi)<|qa (S_ 4 hN hW)<|qa (S_ 5 hN<|vt ko rfl B.bf vk<|xn<|qv 1)<|qa (ky ya rfl (wx<|qv 3) (ku (n:=2) rfl<|qz (G_ 6 hN)<|qz (G_ 7 hN) xi)<|qg<|zf<|C_ c U<|jw (qv 1)<|jw (qv 6)<|bQ (qv 7) (qv 4)<|qv 5)<|qa (S_ 8 hN hW)<|qa (ky ya rfl (wx<|qv 2) (ku (n:=2) rfl<|qz (G_ 6 hN)<|qz (G_ 7 hN) xi)<|qa (wq J (qv 8) (qv 6)<|qv 7)<|qg<|wq J (qv 8) (qv 7)<|qv 6)<|qa (S_ 9 hN hW)<|qa (S_ 10 hN<|jm wg)<|qa (ky ya rfl (wu rfl B.bh<|xn<|L_ B.ba<|qv 5) (G_ 11 hN)<|qg<|zr (bD<|cD (mF<|I_ (qv 5)<|qv 11)<|aW<|E_ J (L_ B.ba<|I_ (qv 5)<|qv 11) qd) (qa (wq J (qv 9) (qv 11) bU)<|qa (S_ 12 hN<|aF J (qv 8) (qv 11) λ_ _=>rfl)<|qa (gW ya (je (S8 J) (qv 12) (qv 4) (by with_unfolding_all rfl))<|qa (wq J (qv 9) (qv 12) bU)<|qa (wq J (qv 9) (aF J (qv 4) (qv 12) λ_ _=>rfl) bU)<|qg<|S_ 12 hN<|aF J (qv 8) (aF J (qv 4) (qv 12) λ_ _=>rfl) λ_ _=>rfl)<|qg<|zr (je pJ (qv 11) (qv 12)<|vn _) (qg<|zf<|ze (qv 10)<|xn<|zh<|v9 (qv 11)<|qv 12) za) za)<|qa (zr (je pJ (jj anr rfl B.ba Ij<|xn<|qv 9) (qm iI qd<|L_ B.ba<|qv 2)<|vn _) (qg<|zb aa) za)<|qg<|zb<|zh<|bQ (qv 5) (qv 10)<|jm wg)⟩
def Ur:a9:=(zm (oh (mn<|bL<|rV 5) (qp 11) (am (vZ (yB<|gJ true<|vg fM (qf 5)<|qf 11)<|m_ (cI zN<|qo (vg fM (qf 5)<|qf 11) jn)<|fQ 2) (zm (lG (qf 9) (qf 11)<|yC<|.bl true)
 (zm (x8 (uN (qf 8)<|qf 11)<|qp 12)
 (zm (sD (yB<|vg (Ft false) (qf 12)<|qf 4) (zm (lG (qf 9) (qf 12)<|yC<|.bl true)
 (zm (lG (qf 9) (uN (qf 4)<|qf 12)<|yC<|.bl true)
 (x8 (uN (qf 8)<|uN (qf 4)<|qf 12)<|qp 12))))
 (am (yB<|vg FP (qf 11)<|qf 12) (kj<|jP jt (qf 10)<|qo (Gi (qf 11)<|qf 12) jn) wm)))) wm))
 (zm (am (yB<|vg FP (cI Hq<|bL<|qf 9)<|vg PR (fQ 2)<|rV 2) (aY<|yC .non) wm)
 (aY<|aE<|qo (qf 5)<|cB (qf 10)<|jT jn)))
def o4{k:VG}(h:Z[i]?=some k):dW (jr Z) (0+(i:Int))=some (oR k):=by rw[B3];exact v4 h
def Us{A:Vg}(nd:(plcs lk).Nodup)(np:(plcs A).Nodup){x:Nat}(h:cW lk A n x y):∀{k u:Nat},cW lk A k x u->y∉plcs A->u∉plcs A->y=u:=by
 induction h with
 |one h=>
  intro k u g I J;cases g with|one g=>exact EM nd h g|more g1 g2 _=>exact(I<|EM nd g1 h▸(EV g2).1).elim
 |more h1 h2 _ U=>
  intro k u g I J;cases g with
  |one g=>exact(J<|EM nd h1 g▸(EV h2).1).elim
  |more g1 g2 g3=>
   have j:=EM nd g1 h1;subst j;have l:=EM np g2 h2;subst l;exact U g3 I J
def Ut{A:Vg}{d b e m r:Addr}{c3 U g:Option Y}{kd ke:List<|j9×Y}
 (nd:(plcs lk).Nodup) (np:(plcs A).Nodup) (sb:∀a∈plcs A,a∈plcs lk) (hz:Z.length<=1000) (hl:lk.length<=1000)
 (fr:∀x,(∃t n,Z[x]?=some (some<|.lf t n))↔x∈plcs lk/\x∉plcs A)
 (D:AcI A kd) (E:AcI lk ke) (s:qh L0 L) (fm:L0 m=none) (fq:L0 r=none)
 (kl:L l=some (.lst<|qt lk)) (gd:L d=some (.dct kd)) (ge:L e=some (.dct ke)) (kb:L b=some (.lst<|jr Z)) (km:L m=some (.dct [])) (kr:L r=some (.lst [])) (ax:d≠m) (aL:e≠m) (a4:b≠r) (ba:l≠r)
 (q1:¬aK lk A->∀L',qh L0 L'->En.rt .non L')
 (q2:aK lk A->∀row c' L',qh L0 L'->L0 c'=none->c'≠b->c'≠r->L' b=some (.lst<|jr Z)->L' r=some (.lst<|qt row)->L' c'=some (.lst [])->(row.Pairwise λa b=>a.1<b.1)->(∀z,z∈row↔z.1<z.2/\(z.1∈plcs lk/\z.1∉plcs A)/\(z.2∈plcs lk/\z.2∉plcs A)/\∃n,cW lk A n z.1 z.2)->En.rt (xc b r c') L'):
 Ur En [c0,c1,some<|.ref l,c3,some<|.ref d,some<|.ref b,c6,c7,some<|.ref e,some<|.ref m,some<|.ref r,U,g] L:=by
 have big:=a_;have lw:(jr Z).length=Z.length:=aA Z;have a3:m≠r:=λh=>by subst h;rw[km] at kr;cases kr
 have a5:b≠m:=λh=>by subst h;rw[km] at kb;cases kb
 have bb:d≠r:=λh=>by subst h;rw[gd] at kr;cases kr
 have bc:e≠r:=λh=>by subst h;rw[ge] at kr;cases kr
 have bd:l≠m:=λh=>by subst h;rw[km] at kl;cases kl
 have sub:∀x z,x∈plcs lk->ao lk A x z->z∈plcs lk:=λx z hx h=>h.mem sb hx;refine qb kb ⟨⟨A3 _,by rw[lw];lia⟩,?_⟩;rw[lw,BB];refine iX (λi τ L'=>∃U g S J row,τ=[c0,c1,some<|.ref l,c3,some<|.ref d,some<|.ref b,c6,c7,some<|.ref e,some<|.ref m,some<|.ref r,U,g]/\L'=qi (qi L m<|.dct J) r (.lst<|qt row)/\MkI S J/\(∀z,z∈S↔∃x,x<i/\(x∈plcs lk/\x∉plcs A)/\ao lk A x z)/\(row.Pairwise λa b=>a.1<b.1)/\row.length<=i/\∀z:Vs,z∈row↔z.1<i/\z.1<z.2/\(z.1∈plcs lk/\z.1∉plcs A)/\(z.2∈plcs lk/\z.2∉plcs A)/\∃n,cW lk A n z.1 z.2) ?_ ?_ ?_
 ·refine⟨U,g,[],[],[],rfl,?_,.nil,λz=>⟨λh=>(by cases h),λ⟨_,h,_⟩=>absurd h<|Nat.not_lt_zero _⟩,.nil,Ap _,λz=>⟨λh=>(by cases h),λh=>absurd h.1<|Nat.not_lt_zero _⟩⟩;funext p;by_cases h1:p=r
  ·rw[h1,q9];exact kr
  ·rw[qc h1];by_cases h2:p=m
   ·rw[h2,q9];exact km
   ·rw[qc h2]
 ·rintro i τ L' hi ⟨U,g,S,J,row,rfl,rfl,I,iS,pw,hr,iR⟩;have b1:qi (qi L m<|.dct J) r (.lst<|qt row) b=some (.lst<|jr Z):=(qc a4).trans<|(qc a5).trans kb;obtain⟨k,ek⟩:∃k,Z[i]?=some k:=⟨_,Al hi⟩;refine qb b1<|qj (o4 ek) ?_;have ac:¬(i∈plcs lk/\i∉plcs A)->∀z,z∈S↔∃x,x<i+1/\(x∈plcs lk/\x∉plcs A)/\ao lk A x z:=λnf z=>(iS z).trans ⟨λ⟨x,h,f,k⟩=>⟨x,BC h,f,k⟩,λ⟨x,h,f,k⟩=>⟨x,Ck (CP h) λe=>nf<|e▸f,f,k⟩⟩;have au:¬(i∈plcs lk/\i∉plcs A)->∀z:Vs,z∈row↔z.1<i+1/\z.1<z.2/\(z.1∈plcs lk/\z.1∉plcs A)/\(z.2∈plcs lk/\z.2∉plcs A)/\∃n,cW lk A n z.1 z.2:=λnf z=>(iR z).trans ⟨λ⟨h,k⟩=>⟨BC h,k⟩,λ⟨h,k⟩=>⟨Ck (CP h) λe=>nf<|e▸k.2.1,k⟩⟩;cases k with
  |none=>
   have nf:¬(i∈plcs lk/\i∉plcs A):=λh=>by obtain⟨_,_,h⟩:=(fr i).mpr h;rw[ek] at h;cases h
   exact⟨_,EK _,_,_,S,J,row,rfl,rfl,I,ac nf,pw,by lia,au nf⟩
  |some k=>
   cases k with
   |nd e i' j'=>
    have nf:¬(i∈plcs lk/\i∉plcs A):=λh=>by obtain⟨_,_,h⟩:=(fr i).mpr h;rw[ek] at h;cases h
    refine qb b1<|qj (o4 ek) ?_;exact⟨_,EK _,_,_,S,J,row,rfl,rfl,I,ac nf,pw,by lia,au nf⟩
   |lf t n=>
    refine qb b1<|qj (o4 ek) ?_;have fi:=(fr i).mp ⟨t,n,ek⟩;obtain⟨w0,y0,a1,ny⟩:=xX A lk nd np sb i fi.1 fi.2;obtain⟨y,ly⟩:=nw fi.1;have cnt:∀{S:Vk} {J:List<|j9×Y},MkI S J->(∀z∈S,z∈plcs lk)->J.length<=2000:=λ{S J} I h=>by have:=nU S _ I.nd h;rw[w4] at this;rw[I.len];lia
    have g1:∀J,qi (qi L m<|.dct J) r (.lst<|qt row) m=some (.dct J):=λJ=>(qc a3).trans q9;have g2:∀J,qi (qi L m<|.dct J) r (.lst<|qt row) e=some (.dct ke):=λJ=>(qc bc).trans<|(qc aL).trans ge;have g3:∀J,qi (qi L m<|.dct J) r (.lst<|qt row) d=some (.dct kd):=λJ=>(qc bb).trans<|(qc ax).trans gd;have g4:∀J j,qi (qi (qi L m<|.dct J) r<|.lst<|qt row) m (.dct j)=qi (qi L m<|.dct j) r (.lst<|qt row):=λJ j=>by rw[ar<|AG a3,zq]
    have k1:=cnt I λz h=>by obtain⟨x,_,f,k⟩:=(iS z).mp h;exact sub x z f.1 k
    refine jd (g1 J) ⟨big _ (by lia),?_⟩;rw[g4,B3];refine jd (g2 _)<|qj (E.val i y ly) ?_;obtain⟨S1,I1,s1⟩:=I.put i<|.bl true;have tS:∀z,z∈S\/ao lk A i z↔∃x,x<i+1/\(x∈plcs lk/\x∉plcs A)/\ao lk A x z:=λz=>by
     rw[iS z];refine⟨?_,λ⟨x,h,f,k⟩=>?_⟩
     ·rintro(⟨x,h,f,k⟩|k)
      ·exact⟨x,BC h,f,k⟩
      ·exact⟨i,BH i,fi,k⟩
     ·by_cases c:x=i
      ·exact .inr<|c▸k
      ·exact .inl ⟨x,Ck (CP h) c,f,k⟩
    have iT:∀z,z∈S1\/ao lk A i z↔∃x,x<i+1/\(x∈plcs lk/\x∉plcs A)/\ao lk A x z:=λz=>by rw[<-tS z,s1 z];exact⟨λh=>h.elim (λh=>h.elim .inl λe=>.inr<|e▸.self) .inr,λh=>h.elim (λh=>.inl<|.inl h) .inr⟩
    refine⟨λw τ L'=>∃(T y:Nat) (S:Vk) (J:List<|j9×Y),τ=[c0,c1,some<|.ref l,c3,some<|.ref d,some<|.ref b,c6,c7,some<|.ref e,some<|.ref m,some<|.ref r,some<|.int (i:Int),some<|.int (y:Int)]/\L'=qi (qi L m<|.dct J) r (.lst<|qt row)/\MkI S J/\T∈S/\xo lk T y/\cW lk A w T y0/\∀z,z∈S\/ao lk A T z↔∃x,x<i+1/\(x∈plcs lk/\x∉plcs A)/\ao lk A x z,⟨w0,i,y,S1,_,rfl,rfl,I1,(s1 i).mpr<|.inr rfl,ly,a1,iT⟩,?_⟩;rintro w τ L' ⟨T,y,S2,C,rfl,rfl,I2,hb,lb,wk,iU⟩;have k2:=cnt I2 λz h=>by obtain⟨x,_,f,k⟩:=(iU z).mp<|.inl h;exact sub x z f.1 k
    refine jd (g3 _) ?_;by_cases cy:y∈plcs A
    ·cases wk with
     |one h=>exact(ny<|EM nd lb h▸cy).elim
     |@more w' _ a2 v _ h1 h2 h3=>
      have ea:=EM nd h1 lb;subst ea;rw[D.val a2 v h2];obtain⟨y',av⟩:=nw h3.mem.1;refine⟨λτ L'=>∃m',m'<w'+1/\∃(T y:Nat) (S:Vk) (J:List<|j9×Y),τ=[c0,c1,some<|.ref l,c3,some<|.ref d,some<|.ref b,c6,c7,some<|.ref e,some<|.ref m,some<|.ref r,some<|.int (i:Int),some<|.int (y:Int)]/\L'=qi (qi L m<|.dct J) r (.lst<|qt row)/\MkI S J/\T∈S/\xo lk T y/\cW lk A m' T y0/\∀z,z∈S\/ao lk A T z↔∃x,x<i+1/\(x∈plcs lk/\x∉plcs A)/\ao lk A x z,λτ L' ⟨m',h,z⟩=>⟨m',h,z⟩,?_⟩;refine jd (g1 _) ⟨big _ (by lia),?_⟩;rw[g4];obtain⟨S3,I3,s3⟩:=I2.put a2<|.bl true;obtain⟨S4,I4,s4⟩:=I3.put v<|.bl true;have k3:=bK C (.inl (a2:Int))<|.bl true;refine jd (g3 _)<|qj (D.val a2 v h2)<|jd (g1 _) ⟨big _ (by lia),?_⟩;rw[g4];refine jd (g3 _)<|qj (D.val a2 v h2)<|jd (g2 _)<|qj (E.val v y' av) ?_;obtain⟨j1,j2⟩:=Uq nd np (S:=(· ∈ S2)) (S':=(· ∈ S4)) hb lb h2 (λz=>by rw[s4 z,s3 z]) iU;exact⟨_,EK _,w',BH _,v,y',S4,_,rfl,rfl,I4,j1,av,h3,j2⟩
    ·rw[D.no y cy];have ey:y=y0:=by cases wk with|one h=>exact EM nd lb h|more h1 h2 _=>exact(cy<|EM nd h1 lb▸(EV h2).1).elim
     have iV:=wE nd (S:=(· ∈ S2)) hb lb cy iU;subst ey;have one:∀z:Vs,(z.1<i+1/\z.1<z.2/\(z.1∈plcs lk/\z.1∉plcs A)/\(z.2∈plcs lk/\z.2∉plcs A)/\∃n,cW lk A n z.1 z.2)↔z∈row\/(i<y/\z=(i,y)):=λz=>by
      rw[iR z];refine⟨λ⟨h,h1,h2,h3,n,h4⟩=>?_,?_⟩
      ·by_cases c:z.1=i
       ·have:z.2=y:=Us nd np h4 (c▸a1) h3.2 ny;exact .inr ⟨by rw[<-c,<-this];exact h1,Prod.ext c this⟩
       ·exact .inl ⟨Ck (CP h) c,h1,h2,h3,n,h4⟩
      ·rintro(⟨h,k⟩|⟨h,rfl⟩)
       ·exact⟨BC h,k⟩
       ·exact⟨BH i,h,fi,⟨a1.mem.2,ny⟩,w0,a1⟩
     refine zk (p:=(i:Int)<(y:Int)) (λh=>?_) λh=>?_
     ·have h:=DP.mp h;refine qb q9 (qr q9 ⟨big _ (by rw[qt,Af];lia),?_⟩);rw[zq];refine⟨_,EK _,_,_,S2,C,row++[(i,y)],rfl,by unfold qt;rw[AI];rfl,I2,iV,?_,by rw[Ad];exact CY hr,λz=>?_⟩
      ·refine AR.mpr ⟨pw,Ep ..,λa ha b hb=>?_⟩;rw[An.mp hb];exact((iR a).mp ha).1
      ·rw[one z,Ak,An];exact⟨λk=>k.elim .inl λe=>.inr ⟨h,e⟩,λk=>k.elim .inl λe=>.inr e.2⟩
     ·have h:¬i<y:=λk=>h<|DP.mpr k;refine⟨_,EK _,_,_,S2,C,row,rfl,rfl,I2,iV,pw,by lia,λz=>?_⟩;rw[one z];exact⟨.inl,λk=>k.elim id λe=>(h e.1).elim⟩
 ·rintro τ L' ⟨U,g,S,J,row,rfl,rfl,I,iS,pw,hr,iR⟩;have lz:∀x,(x∈plcs lk/\x∉plcs A)->x<Z.length:=λx f=>by obtain⟨_,_,h⟩:=(fr x).mpr f;exact zn h
  have al:=I.all (A:=A) nd sb λa=>(iS a).trans ⟨λ⟨x,_,f,k⟩=>⟨x,f.1,f.2,k⟩,λ⟨x,f1,f2,k⟩=>⟨x,lz x ⟨f1,f2⟩,⟨f1,f2⟩,k⟩⟩;have sL:qh L0 (qi (qi L m<|.dct J) r<|.lst<|qt row):=(s.upd fm).upd fq;refine jd ((qc a3).trans q9)<|qb ((qc ba).trans<|(qc bd).trans kl) ?_;refine⟨.inl ⟨by decide,by decide⟩,zk (p:=(J.length:Int)<2*((qt lk).length:Int)) (λh=>?_) λh=>?_⟩
  ·exact(q1 (al.mp (by rw[qt,Af] at h;lia)) _ sL)
  ·have nl:¬J.length<2*lk.length:=λk=>h (by rw[qt,Af];lia);refineλc' hc=>?_;have aR:aK lk A:=Classical.not_not.mp λk=>nl<|al.mpr k;have sc:=By (o:=.lst []) hc;have jb:qi (qi L m<|.dct J) r (.lst<|qt row) b=some (.lst<|jr Z):=(qc a4).trans<|(qc a5).trans kb;exact(q2 aR row c' _ (sL.trans sc) (sL.none hc) (AG<|aP jb hc) (AG<|aP q9 hc) (sc _ _ jb) (sc _ _ q9) q9 pw λz=>(iR z).trans ⟨λk=>k.2,λk=>⟨lz _ k.2.1,k⟩⟩)
def Uu{l:List α}{x:α}(h:l[i]?=some x):l.drop i=x::l.drop (i+1):=by have I:=zn h;rw[B5 I];rw[Al I] at h;rw[Be h]
def qA.lfA{A:Vg}{G:Vk}(M:qA wd p q A G){n:Str}(h:wd[y]?=some (some<|.lf t n)):y∈G->y∈plcs A:=by
 induction M with
 |lf _ _=>rw[jy];exact id
 |nd g j _ _ J U=>
  intro I;rw[zj];rcases Am.mp I with rfl|I
  ·rw[g] at h;cases h
  rcases Am.mp I with rfl|I
  ·rw[j] at h;cases h
  exact(Ak.mp I).elim (λz=>Ao _<|J z) λz=>Ag _<|U z
theorem kz.lfA{A:Vg}{G:Vk}(M:kz wd ct A G){n:Str}(h:wd[y]?=some (some<|.lf t n)):y∈G->y∈plcs A:=by
 induction M with
 |nil=>exact nofun
 |cons m _ I=>
  intro J;rw[zj];exact(Ak.mp J).elim (λz=>Ao _<|m.lfA h z) λz=>Ag _<|I z
inductive gx(ys:List Y)(L:qk)(Q:YK):Prop
 |mk:∀a l c,∀wd:List (VG),∀lk ct A:Vh,∀G:Vk,(ys=[xc a l c])->(L a=some (.lst<|jr wd))->(L l=some (.lst<|qt lk))->(L c=some (.lst<|qt ct))->(jB wd)->(bR wd ct)->(LkC wd lk)->(kz wd ct A G)->((∀c∈ct,∃w,KW (jr wd) c.1 w/\KW (jr wd) c.2 w.turn/\w.depth<=96))->((¬aK lk A->∀L',qh L L'->Q .non L'))->((aK lk A->∀row b r c' L',qh L L'->L' b=some (.lst<|jr<|vi wd G)->L' r=some (.lst<|qt row)->L' c'=some (.lst [])->(row.Pairwise λa b=>a.1<b.1)->(∀z,z∈row↔z.1<z.2/\(z.1∈plcs lk/\z.1∉plcs A)/\(z.2∈plcs lk/\z.2∉plcs A)/\∃n,cW lk A n z.1 z.2)->Q (xc b r c') L'))->gx ys L Q
theorem Uv:∀ys L Q,gx ys L Q->vd (hZ<|fC 96).1 13 ys L Q:=by
 rintro ys L Q ⟨a,l,c,j,lk,ct,A,G,rfl,ha,hl,hc,ok,I,J,M,hw,q1,q2⟩;have big:=a_;have nG:=M.nodup ok I.pu I.ctN I.ctP;have np:(plcs A).Nodup:=M.subl.nodup nG;have lA:A.length<=1000:=by
  have:=kq j.length _ np λx hx=>by obtain⟨t,n,e⟩:=M.leaf x hx;exact zn e
  rw[w4] at this;have:=I.wl;lia
 intro d hd;have s1:=By (o:=.dct []) hd;refine qb (s1 _ _ ha) λb hb=>?_;have a3:d≠b:=aP q9 hb;have fb:=s1.none hb;have s2:=s1.trans<|By (o:=.lst<|jr j) hb;have g1:qi (qi L d<|.dct []) b (.lst<|jr j) d=some (.dct []):=(qc a3).trans q9;have g2:qi (qi L d<|.dct []) b (.lst<|jr j) b=some (.lst<|jr j):=q9;generalize qi (qi L d<|.dct []) b (.lst<|jr j)=L1 at s2 g1 g2 ⊢;have al:a≠b:=aP ha fb;refine wb (s2 _ _ hc) λkeep kp=>kc ⟨λi p U=>∃c6 c7 C A1 G1 A2 G2,p=[some<|xc a l c,some<|.ref a,some<|.ref l,some<|.ref c,some<|.ref d,some<|.ref b,c6,c7,none,none,none,none,none]/\qh L U/\U d=some (.dct C)/\U b=some (.lst<|jr<|vi j G1)/\AcI A1 C/\kz j (ct.drop i) A2 G2/\A=A1++A2/\G=G1++G2,⟨_,_,[],[],[],A,G,rfl,s2,g1,g2,AcI.nil,M,rfl,rfl⟩,?_,?_,?_⟩
 ·rintro i p U ⟨_,_,_,_,_,_,_,rfl,s,_⟩;exact kp U (by rw[s _ _ hc,s2 _ _ hc])
 ·rintro i y p U hy ⟨c6,c7,C,A1,G1,A2,G2,rfl,s,k1,k2,D,M2,rfl,rfl⟩;rw[Au] at hy;obtain⟨x,ex,rfl⟩:=AB.mp hy;obtain⟨w,w1,w2,au⟩:=hw x<|Az ex;rw[Uu ex] at M2;cases M2 with
  |@cons _ _ Ax B Gx H m n=>
   rw[<-Ar,zj] at np;rw[<-Ar,Ad] at lA;refine⟨a,d,b,j,_,A1,C,x.1,x.2,w,Ax,Gx,rfl,s _ _ ha,k1,k2,al,wc _ _,w1,w2,au,D,m,(Aq.mp np).1,by lia,λa4 D'=>?_⟩;exact⟨_,EK _,_,_,a4,A1++Ax,G1++Gx,B,H,rfl,(s.upd hd).upd fb,(qc a3).trans q9,by rw[q9,io],D',n,(Ar ..).symm,(Ar ..).symm⟩
 rintro p L2 ⟨c6,c7,kd,A1,G1,A2,G2,rfl,s3,k1,k2,D,M2,eA,eG⟩;rw[Af,List.drop_length] at M2;cases M2;rw[AC] at eA eG;subst eA eG;intro e he;have s4:=s3.trans<|By (o:=.dct []) he;have fe:=s3.none he;have a5:d≠e:=aP k1 he;have ac:b≠e:=aP k2 he;have j1:qi L2 e (.dct []) d=some (.dct kd):=(qc a5).trans k1;have j2:qi L2 e (.dct []) b=some (.lst<|jr<|vi j G):=(qc ac).trans k2;have j3:qi L2 e (.dct []) e=some (.dct []):=q9;generalize qi L2 e (.dct [])=L3 at s4 j1 j2 j3 ⊢;have ll:=J.ll;refine wb (s4 _ _ hl) λkeep kp=>kc ⟨λi p U=>∃c6 c7 ke,p=[some<|xc a l c,some<|.ref a,some<|.ref l,some<|.ref c,some<|.ref d,some<|.ref b,c6,c7,some<|.ref e,none,none,none,none]/\qh L U/\U d=some (.dct kd)/\U b=some (.lst<|jr<|vi j G)/\U e=some (.dct ke)/\AcI (lk.take i) ke,⟨_,_,[],rfl,s4,j1,j2,j3,AcI.nil⟩,?_,?_,?_⟩
 ·rintro i p U ⟨_,_,_,rfl,s,_⟩;exact kp U (by rw[s _ _ hl,s4 _ _ hl])
 ·rintro i y p U hy ⟨c6,c7,ke,rfl,s,k1,k2,k3,E⟩;rw[Au] at hy;obtain⟨x,ex,rfl⟩:=AB.mp hy;have et:lk.take (i+1)=lk.take i++[(x.1,x.2)]:=by rw[Bm,ex];rfl
  have el:=E.len;rw[AZ] at el;refine jd k3 ⟨big _ (by lia),?_⟩;have b1:=bK ke (.inl (x.1:Int))<|.int (x.2:Int);refine jd q9 ⟨big _ (by lia),?_⟩;rw[zq];have nt:(plcs<|lk.take i++[(x.1,x.2)]).Nodup:=by have:=J.lkN;rw[<-A8 (i+1) lk,zj] at this;rw[<-et];exact(Aq.mp this).1
  exact⟨_,EK _,_,_,_,rfl,s.upd fe,(qc a5).trans k1,(qc ac).trans k2,q9,by rw[et];exact E.put nt⟩
 rintro p L4 ⟨ax,aL,ke,rfl,s5,h1,h2,h3,E⟩;rw[Af,Bz] at E;intro m hm;have s6:=s5.trans<|By (o:=.dct []) hm;have fm:=s5.none hm;intro r hr;have s7:=s6.trans<|By (o:=.lst []) hr;have fr:=s6.none hr;have T:∀{x:Addr} {o:LO},L4 x=some o->x≠m/\x≠r/\qi (qi L4 m<|.dct []) r (.lst []) x=some o:=λ{x o} h=>by have a1:=aP h hm;have a2:x≠r:=aP ((qc a1).trans h) hr;exact⟨a1,a2,(qc a2).trans<|(qc a1).trans h⟩
 have av:m≠r:=aP q9 hr;refine Ut (L0:=L) (Z:=vi j G) J.lkN np (λx hx=>(J.lkL x).mpr<|M.leaf x hx) (by rw[wc];have:=I.wl;lia) (by lia) (λx=>?_) D E s7 fm fr (T<|s5 _ _ hl).2.2 (T h1).2.2 (T h3).2.2 (T h2).2.2 ((qc av).trans q9) q9 (T h1).1 (T h3).1 (T h2).2.1 (T<|s5 _ _ hl).2.1 (λh U s=>xa<|q1 h U s) λh row c' U s _ _ _ v1 v2 v3 pw hz=>xa<|q2 h row b r c' U s v1 v2 v3 pw hz;constructor
 ·rintro⟨t,n,h⟩;have hx:=zn h;rw[wc] at hx;rw[dq _ _ _ hx] at h;by_cases g:x∈G
  ·rw[AA g] at h;cases h
  ·rw[Ay g] at h;exact⟨(J.lkL x).mpr ⟨t,n,h⟩,λz=>g<|M.subl.subset z⟩
 ·rintro⟨h,h'⟩;obtain⟨t,n,e⟩:=(J.lkL x).mp h;exact⟨t,n,by rw[dq _ _ _<|zn e,Ay λg=>h'<|M.lfA e g];exact e⟩
theorem sN{L:qk}{n:Nat}:∀l:Vh,Paired (gR L<|n+2) (qt l)<|qt l
 |[]=>.nil
 |_::r=>.cons (.tup<|.cons (.flat rfl)<|.cons (.flat rfl) .nil)<|sN r
def rX{a b:Addr}{xs:List Y}(I:L a=some (.lst xs))(J:L b=some (.lst xs))(l:xs.length<=1000)(p:Paired (gR L n) xs xs):gR L (n+1) (.ref a) (.ref b):=.inr<|.inr ⟨a,b,xs,xs,rfl,rfl,I,J,l,p⟩
def rZ{a c I J:Addr}(h1:L a=some (.lst<|jr wd))(h2:L l=some (.lst<|qt lk))(h3:L c=some (.lst<|qt ct))(g1:L I=some (.lst<|jr wd))(g2:L J=some (.lst<|qt lk))(g3:L c'=some (.lst<|qt ct))(U:wd.length<=1000)(g:lk.length<=1000)(j:ct.length<=1000):gR L 4 (xc a l c) (xc I J c'):=
 .tup (.cons (rX h1 g1 (by rw[Af];exact U)<|rT wd) (.cons (rX h2 g2 (by rw[Af];exact g)<|sN lk) (.cons (rX h3 g3 (by rw[Af];exact j)<|sN ct) .nil)))
def Uw{l m:Vg}(h:l.Perm m)(I:l.Pairwise bJ)(J:m.Pairwise bJ):l=m:=
 List.Perm.eq_of_pairwise (le:=bJ) (λa b _ _ h1 h2=>by unfold bJ at h1 h2;exact Prod.ext (by lia) (by lia)) I J h
section
variable {K:Ah}{N b1 b2 b3 b4 b5 b6 b7 b8 b9:Addr}{a c:Addr}{o0 o1 o3:Option Y}{ki:Int}
end
def iz.mvp{E:Vk}{f:Vr}(T:iz ks R E)(j:yM f (ks.map some) wd):v5 (bv f R)<=96/\gh (bv f R)<=96/\(zc<|bv f R).Nodup/\(zd<|bv f R).Nodup/\(∀p∈zc (bv f R),p.2<1000000)/\∀p∈zd (bv f R),p.2<1000000:=by
 have rd:=wf<|bv f R;have C:=bG<|bv f R;have o:=(fF f R).length_eq;have r:=T.tp.length_eq;have hz:=T.len;have wl:=j.len;have lo:(ks.map some).length=ks.length:=Af ..;rw[Af] at o;rw[B1] at r;obtain⟨_,_,b1,b2⟩:=T.pairs;have inj:∀a b,a<ks.length->b<ks.length->f a=f b->a=b:=λa b U g=>j.inj (by lia) (by lia);have flt:∀p,p<ks.length->f p<wd.length:=λp J=>j.gap.lt (Ba.mpr (by lia)) (by lia);have cu:=T.sr.cuts T.nd;rw[bH,bZ];have I:∀{l:Vg},(∀p∈l,p.1<ks.length/\p.2<ks.length)->∀x∈plcs l,x<ks.length:=λh x t=>by
  obtain⟨p,J,e⟩:=bE t;rcases e with rfl|rfl
  ·exact(h p J).1
  ·exact(h p J).2
 refine⟨by lia,by lia,zy<|(sJ f _).nodup_iff.mpr<|cH (T.sr.lkI T.nd).nd λa U b g=>inj a b (I b1 a U)<|I b1 b g,zy (by rw[mI];exact cH cu.1 λa U b g=>inj a b (I b2 a U)<|I b2 b g),λp J=>?_,λp J=>?_⟩
 ·obtain⟨d,hd,rfl⟩:=BX.mp J;have:=flt _ (b1 d hd).1;have:=flt _ (b1 d hd).2;show max _ _<_;lia
 ·obtain⟨d,hd,rfl⟩:=BX.mp J;have:=flt _ (b2 d hd).2;show f d.2<_;lia
def Ux(K:Ah)(I:Addr)(J:Addr)(U:Addr)(g:Addr)(j:kh)(p1:kh)(p2:kh)(p3:kh)(p4:kh)(p5:kh)(p6:jV)(p7:kh):a9:=(zm (x8 (xm j<|bL<|qf 0)<|qp 1)
 (zm (x8 (xm p1<|qo (xm p2<|qo (xm p3<|qo (qf 0)<|cB (qf 1)<|fQ 96) jn)<|bL<|qf 1)<|qp 2)
 (zm (x8 (xm p4<|bL<|qf 2)<|qp 3)
 (zm (x8 (xm p5<|bL<|qf 2)<|qp 4)
 (zm (x8 (yC .non)<|qp 5)
 (zm (x8 (yC .non)<|qp 6)
 (zm (Hb K I 7 (λE3=>x8 (jG p6 E3<|bL<|qf 4)<|qp 5)<|x8 (qf 7)<|qp 6)
 (zm (am (yo<|yB<|xm p7<|cB (qf 4)<|qf 2) (aY<|yC<|.bl false) wm)
 (zm (am (yB<|gJ false<|qf 3) (aY<|GX (wW K (.ref g)<|qf 6)<|GY<|sG K [(.ref J),(.ref U)]<|qf 6) wm)
 (zm (am (Fm (yB<|gJ true<|qf 6)<|yo<|yB<|xm p7<|cB (qf 5)<|qf 3) (aY<|yC<|.bl false) wm)
 (zm (oh (GZ<|qf 5) (qp 8)<|kj<|jP jt (qf 8)<|bL<|yC .non)
 (aY<|xm p7<|cB (qf 4)<|qf 2))))))))))))
def tj(K:Ah)(I:Addr)(J:Addr)(U:Addr)(g:Addr)(j:kh)(p1:jV)(p2:kh):a9:=(zm (x8 (xm j<|bL<|qf 2)<|qp 4)
 (zm (x8 (yC .non)<|qp 5)
 (zm (x8 (yC .non)<|qp 6)
 (zm (Hb K I 7 (λE3=>x8 (jG p1 E3<|bL<|qf 4)<|qp 5)<|x8 (qf 7)<|qp 6)
 (zm (am (yo<|yB<|xm p2<|cB (qf 4)<|qf 2) (aY<|yC<|.bl false) wm)
 (zm (am (yB<|gJ false<|qf 3) (aY<|GX (wW K (.ref g)<|qf 6)<|GY<|sG K [(.ref J),(.ref U)]<|qf 6) wm)
 (zm (am (Fm (yB<|gJ true<|qf 6)<|yo<|yB<|xm p2<|cB (qf 5)<|qf 3) (aY<|yC<|.bl false) wm)
 (zm (oh (GZ<|qf 5) (qp 8)<|kj<|jP jt (qf 8)<|bL<|yC .non)
 (aY<|xm p2<|cB (qf 4)<|qf 2)))))))))
structure XF54(K:Ah)(O W T N:Addr):Prop where
 hd:t_ K N
 em:PySem.W.exmOne K (.ref N) (.ref O)=some true
 on:PySem.W.kitOne K (.ref N) (.ref N)=some true
 ot:PySem.W.kitAny K (.ref N) [.ref W,.ref T]=some false
def XF54.dn{K:Ah}{T N:Addr}(t:K.lookup Pt=some (PySem.W.tabObj #[]))(x:XF54 K O W T N):XF54 (lessK Pt K) O W T N:=⟨Tv t x.hd,Tu t x.em,jS t x.on,pN t x.ot⟩
def Uy{row A:Vg}(J:LkC wd fx)(g:JY lk A fx)(I:row.Pairwise λa b=>a.1<b.1)(j:∀z,z∈row↔z.1<z.2/\(z.1∈plcs lk/\z.1∉plcs A)/\(z.2∈plcs lk/\z.2∉plcs A)/\∃n,cW lk A n z.1 z.2):fx=row:=
 Uw ((A4 (zy J.lkN) (show row.Nodup from I.imp λ{a b} h (e:a=b)=>by rw[e] at h;exact Cz _ h)).mpr λz=>by
  rw[j z,<-g z.1 z.2];constructor
  ·exactλh=>⟨(J.lkA z h).1,z,h,.inl rfl⟩
  ·rintro⟨lt,y,U,e|e⟩
   ·rw[show z=y from e.symm];exact U
   ·have:=(J.lkA y U).1;rw[e] at this;exact(Nat.lt_asymm lt this).elim) J.lkS (I.imp .inl)
def iz.depC{E:Vk}{f:Vr}(T:iz ks R E)(U:yM f (ks.map some) wd)(g:ct.Perm<|zd<|bv f R):∀c∈ct,∃w,KW (jr wd) c.1 w/\KW (jr wd) c.2 w.turn/\w.depth<=96:=λc j=>by
 rw[bZ] at g;obtain⟨l,I,rfl⟩:=BX.mp<|g.mem_iff.mp j;obtain⟨w,J,o⟩:=T.sr.cutw l I;have e:∀{p w},cJ ks p w->KW (jr<|ks.map some) p w:=λh=>by rw[eE];exact h
 obtain⟨k,r⟩:=(e J).ex;have h1:=(e J).dep<|oU T.ok;have h2:=zn r;have h3:=T.len;rw[Af] at h2;exact⟨w,U.word<|e J,U.word<|e o,by lia⟩
section
variable {K:Ah}{T N:Addr}{a c:Addr}{A:Vg}{G:Vk}{o0 o1:Option Y}
def Uz(xf:XF54 K O W T N)(ok:jB wd)(I:bR wd ct)(J:LkC wd lk)(M:kz wd ct A G)(p:¬aK lk A)(j:L a=some (.lst<|jr wd))(o:L l=some (.lst<|qt lk))(hc:L c=some (.lst<|qt ct))(q:∀L',qh L L'->En.rt (.bl true) L'):
 tj K O W T N fN (cM N) (wr 4) En [o0,o1,some<|xc a l c,some .non,none,none,none,none,none] L:=by
 have wl:=I.wl;have cl:=I.len;have ll:=J.ll;refine⟨a,l,c,_,_,_,rfl,j,o,hc,λr t C L2 s2 _ _ _ _ _ _ g1 g2 g3=>?_⟩;refine⟨r,t,C,wd,lk,ct,A,G,rfl,g1,g2,g3,ok,I,J,M,λ_=>⟨xf.em,λe he=>?_⟩,λz=>(p z).elim⟩;refine pD he λL3 U ge=>?_;have g:=s2.trans U;refine⟨_,_,rfl,rZ (U _ _ g1) (U _ _ g2) (U _ _ g3) (g _ _ j) (g _ _ o) (g _ _ hc) (by lia) (by lia) (by lia),?_⟩;exact yX ge ⟨xf.hd,true,xf.on,yX ge ⟨xf.hd,false,xf.ot,q L3 g⟩⟩
def UA(ok:jB wd)(I:bR wd ct)(J:LkC wd lk)(M:kz wd ct A G)(aR:aK lk A)(ha:L a=some (.lst<|jr wd))(hl:L l=some (.lst<|qt lk))(hc:L c=some (.lst<|qt ct)){d1 d2 d3:Addr}{row:Vg}(h1:L d1=some (.lst<|jr<|vi wd G))(h2:L d2=some (.lst<|qt row))(h3:L d3=some (.lst []))
 (pw:row.Pairwise λa b=>a.1<b.1) (hr:∀z,z∈row↔z.1<z.2/\(z.1∈plcs lk/\z.1∉plcs A)/\(z.2∈plcs lk/\z.2∉plcs A)/\∃n,cW lk A n z.1 z.2) (q:∀L',qh L L'->En.rt (.bl true) L'):
 tj K O W T N fN (cM N) (wr 4) En [o0,o1,some<|xc a l c,some<|xc d1 d2 d3,none,none,none,none,none] L:=by
 have big:=a_;have wl:=I.wl;have cl:=I.len;have ll:=J.ll;refine⟨a,l,c,_,_,_,rfl,ha,hl,hc,λr C c2 L2 U _ _ _ _ _ _ g1 g2 g3=>?_⟩;refine⟨r,C,c2,wd,lk,ct,A,G,rfl,g1,g2,g3,ok,I,J,M,λz=>(z aR).elim,λ_ a4 g j o L3 s3 na nl nc n1 n2 n3 r1 r2 r3 J' fr=>?_⟩;cases Uy J' fr pw hr;have a5:=J'.ll;have t3:=U.trans s3;have keep:∀L',qh L2 L'->gR L' 4 (xc r C c2) (xc a l c):=λL' t=>rZ (t _ _ g1) (t _ _ g2) (t _ _ g3) (t _ _<|U _ _ ha) (t _ _<|U _ _ hl) (t _ _<|U _ _ hc) (by lia) (by lia) (by lia);refine⟨_,_,rfl,keep L3 s3,?_⟩;refine⟨_,_,rfl,rZ (ct:=[]) r1 r2 r3 (t3 _ _ h1) (t3 _ _ h2) (t3 _ _ h3) (by rw[wc];lia) (by lia)<|Bb _,?_⟩;refine kc ⟨λi τ L'=>∃c8,τ=[o0,o1,some<|xc a l c,some<|xc d1 d2 d3,some<|xc r C c2,some<|xc g j o,some .non,none,c8]/\qh L2 L'/\∀p,p=g\/p=j\/p=o->∃xs:List Y,L' p=some (.lst xs)/\xs.length<=300+i,⟨_,rfl,s3,λp hp=>?_⟩,λ_ _ _ _=>True.intro,?_,?_⟩
 ·rcases hp with rfl|rfl|rfl
  ·exact⟨_,r1,by rw[aA,wc];lia⟩
  ·exact⟨_,r2,by rw[Af];lia⟩
  ·exact⟨_,r3,Bb _⟩
 ·rintro i y τ L' hy ⟨c8,rfl,t,hh⟩;have hi:i<3:=zn hy;obtain⟨p,hp,rfl,np⟩:∃p,(p=g\/p=j\/p=o)/\y=.ref p/\L2 p=none:=by
   rcases (show i=0\/i=1\/i=2 by lia) with rfl|rfl|rfl<;>cases hy
   ·exact⟨g,.inl rfl,rfl,na⟩
   ·exact⟨j,.inr<|.inl rfl,rfl,nl⟩
   ·exact⟨o,.inr<|.inr rfl,rfl,nc⟩
  obtain⟨xs,ex,lx⟩:=hh p hp;refine qr ex<|qr ex ⟨big _ (by lia),_,EK _,_,rfl,t.upd np,λp' a1=>?_⟩;by_cases c:p'=p
  ·subst c;exact⟨_,q9,by rw[Ad];show _+1<=_;lia⟩
  ·obtain⟨ys,ey,ly⟩:=hh p' a1;exact⟨ys,(qc c).trans ey,by lia⟩
 ·rintro τ L' ⟨c8,rfl,t,_⟩;exact⟨_,_,rfl,keep L' t,q L'<|U.trans t⟩
end
def UB{K:Ah}{T N:Addr}(xf:XF54 K O W T N):∀ys L Q,mJ Pt lamQ ys L Q->vd (Ux K O W T N mB fA gb (gU Pt) gx fN (cM N)<|wr 4) 9 ys L Q:=by
 rintro ys L Q ⟨ns,rfl,a1,hL,q⟩;have hP:L Pt=some (.tb lamQ):=by rw[hL];exact q9
 clear hL;refine⟨ns,rfl,λst=>?_⟩;refine⟨ns,st,96,_,rfl,rfl,by lia,by decide,hP,λks R E l f a L1 s1 g1 T j=>?_⟩;obtain⟨m1,m2,m3,m4,m5,m6⟩:=T.mvp j;refine⟨a,jr l,bv f R,rfl,g1,by lia,by lia,m3,m4,m5,m6,λa' l' c' lk ct L2 s2 _ _ _ _ _ _ e1 e2 e3 pl o pc p=>?_⟩;obtain⟨I,J0⟩:=T.cutI j pl o pc p;have cl:=I.len;refine⟨a',l',c',l,lk,ct,st,rfl,e1,e2,e3,J0,I.cw,by lia,λD C L3 s3 g3 J'=>?_⟩;have J:=J'.c;have k1:=s3 _ _ e1;have k3:=s3 _ _ e3;have fn:∀g,qh L3 g->eQ Q (.bl true) g:=λg t=>xa<|q g;obtain⟨A,G,M⟩:=yT I.cw;have ok:=j.gap.ok;refine⟨a',D,c',l,C,ct,A,G,rfl,k1,g3,k3,ok,I,J,M,T.depC j pc,λnR L4 U=>?_,λaR row b r cc L4 U h1 h2 h3 pw hr=>?_⟩
 ·exact Uz xf ok I J M nR (U _ _ k1) (U _ _ g3) (U _ _ k3) λg t=>fn g<|U.trans t
 ·exact UA ok I J M aR (U _ _ k1) (U _ _ g3) (U _ _ k3) h1 h2 h3 pw hr λg t=>fn g<|U.trans t
end L3
end
set_option maxRecDepth 100000
set_option maxHeartbeats 8000000
namespace K54
open PySem L2 L3 Words
abbrev ng:Str:="_law_script"
abbrev nh:Str:="_law_knots"
theorem UC{us:Vi}{n:Nat}(h:us.length=n+1):∃a r,us=a::r/\r.length=n:=by cases us with|nil=>cases h|cons a r=>exact⟨a,r,rfl,Nat.succ.inj h⟩
structure DD(K:Ah):Prop where
 D0:jl K "is_leaf" qQ
 D1:jl K "parts_of" nI
 D2:jl K "partner_of" gq
 D3:jl K "links_without" lU
 D4:jl K "cut_step" wA
 D5:jl K "cut_free" wQ
 D6:jl K "_law_cell_at" dh
 D7:jl K "_law_stir" kM
 D8:jl K "_law_pick" kC
 D9:jl K "_law_mix" nO
 D10:jl K "_law_name" lI
 D11:jl K "_law_word" lJ
 D12:jl K "_law_flip" kE
 D13:jl K "_law_weight" f9
 D14:jl K "_law_mirror" oq
 D15:jl K "_law_join" lH
 D16:jl K "_law_fold" kK
 D17:jl K "_law_cut" vM
 D18:jl K "_law_tree" kI
 D19:jl K "_law_gather" fh
 D20:jl K "_law_web" nX
 D21:jl K "_law_open" vC
 D23:jl K "_law_moved" iZ
 D24:jl K "_law_gapped" fZ
 D25:jl K "_law_swapped" eX
 D26:jl K "_law_looped" fc
 D27:jl K "_law_crossed" eI
 D28:jl K "_law_number" ff
 D29:jl K "_law_alike" gv
 D30:jl K "_law_copy" kH
 D31:jl K "_law_sown" kR
 D32:jl K "_law_deep" kA
 D33:jl K "_law_grown" i0
 D34:jl K "_law_meet" kD
 D35:jl K "_law_freed" gr
 D36:jl K "law" uZ
structure B_(V:V_):Prop extends B0_ V,DD V.K where
 hp:∃h:Vx,V.K.In h/\h.Ns mainGlobals V.mg
 D22:DefInT V.K "_law_order" s__law_order V.Pt
 md:V.mg "NoCut"=some (.ref V.Ca)
 mf:V.mg "OnceError"=some (.ref V.Cb)
 mh:V.mg "BadWeb"=some (.ref V.Cd)
 me:V.mg "NoTree"=some (.ref V.Cc)
 x_NoCut:FF V.K V.Ca
 xf:L3.XF54 V.K V.Cb V.Cd V.Cc V.Ca
local macro_rules|`(tactic| walk_at "s")=>`(tactic| exact⟨rfl,rfl,rfl,by decide +kernel,rfl,by decide +kernel,by decide +kernel⟩)
local macro_rules|`(tactic| walk_at "l")=>`(tactic| (rintro _ _ _ h;cases h;subst_vars;rfl))
local macro_rules|`(tactic| walk_at "x")=>`(tactic| (intro _;walk_at "l"))
local macro_rules|`(tactic| walk_at "b")=>`(tactic| (intro _ _ _ _ _ _ us hl;(repeat (obtain⟨_,_,e,h⟩:=UC hl;clear hl;subst e;have hl:=h;clear h));cases List.eq_nil_of_length_eq_zero hl;rfl))
section
variable {f:Addr}{fd:FuncData}{x q:Str}{st:Stmt}{ps:Vl}(V:V_)(k:Nat)(N:Vl)
theorem W_{sp:kh}{t:a9}(F:Fun V.K x q st f fd)(j:∀ys L Q,sp ys L Q->vd t N.length ys L Q)(h:FW V k N q st f t)(U:wy N ps (z9 st):=by walk_at "s")(len:∀ys L Q,sp ys L Q->ys.length=ps.length:=by walk_at "l"):Fn3 V.P V.w V.K V.mg V.base (k+1) f fd ps sp:=
 PN F U len λJ A I s H E g=>⟨t,h J A I s H E g U.nd<|GS g,j⟩
theorem M_{sp:kh}{t:a9}(I:∃h:Vx,V.K.In h/\h.Ns mainGlobals V.mg)(D:jl V.K x st)(J:∀ys L Q,sp ys L Q->vd t N.length ys L Q)(h:∀f,FW V k N x st f t)(U:wy N ps (z9 st):=by walk_at "s")(len:∀ys L Q,sp ys L Q->ys.length=ps.length:=by walk_at "l")(g:Gf x st ps:=by walk_at "b"):Q_ V (k+1) x ps sp:=by obtain⟨_,X,G⟩:=I;obtain⟨f,fd,F,b,m⟩:=D.use X G g;exact Cal.of (W_ V k N F J (h f) U len) b F.kp m
theorem R_{sp:Nat->kh}{t:Nat->a9}(I:∃h:Vx,V.K.In h/\h.Ns mainGlobals V.mg)(D:jl V.K x st)(no:∀ys L Q,¬sp 0 ys L Q)(J:∀n ys L Q,sp (n+1) ys L Q->vd (t n) N.length ys L Q)(h:∀n f,Q_ V (n+k) x ps (sp n)->FW V (n+k) N x st f (t n))(n:Nat)(U:wy N ps (z9 st):=by walk_at "s")(len:∀n ys L Q,sp n ys L Q->ys.length=ps.length:=by walk_at "x")(g:Gf x st ps:=by walk_at "b"):Q_ V (n+k) x ps (sp n):=by
 obtain⟨_,X,G⟩:=I;obtain⟨f,fd,F,b,m⟩:=D.use X G g
 induction n with|zero=>exact Cal.of (Fn3.never no) b F.kp m|succ n j=>rw[Nat.add_right_comm];exact Cal.of (W_ V (n+k) N F (J n) (h n f j) U<|len _) b F.kp m
theorem X_{sp:jV}{t:X3->a9}(U:∃h:Vx,V.K.In h/\h.Ns mainGlobals V.mg)(D:jl V.K x st)(g:∀ys L Q E,sp ys L Q E->vd (t<|rR E) N.length ys L Q)(h:∀f,∀(fv:Vt) (A:Around) (outer:List Env) (s:Vu) (H:Hp) (E:XK) (E3:X3),ww k (A.deeper<|PyProof.Rows.envOfC x (z9 st) s.heap.objs.size f fv)->bY (eY (d_ V.P V.w) V.P V.w V.K V.mg V.base N x (z9 st) f fv A outer s H E) (FU ⟨V.K,V.P,V.w⟩ E3)->N.Nodup->(A.deeper<|PyProof.Rows.envOfC x (z9 st) s.heap.objs.size f fv).units+128<cLine->uJ (eY (d_ V.P V.w) V.P V.w V.K V.mg V.base N x (z9 st) f fv A outer s H E) (x6 st) (t E3))(I:wy N ps (z9 st):=by walk_at "s")(len:∀ys L Q E,sp ys L Q E->ys.length=ps.length:=by walk_at "x")(j:Gf x st ps:=by walk_at "b"):gy V.P V.w V.K V.mg V.base (k+1) x ps sp:=by obtain⟨_,X,G⟩:=U;obtain⟨f,fd,F,b,m⟩:=D.use X G j;exact⟨_,_,Qk F I len (λfv A outer s H E E3 J l=>h f fv A outer s H E E3 J l I.nd<|GS J) g,b,F.kp,m⟩
theorem T_{sp:kh}{t:a9}(U:∃h:Vx,V.K.In h/\h.Ns mainGlobals V.mg)(D:DefInT V.K x st V.Pt)(g:∀ys L Q,sp ys L Q->vd t N.length ys L Q)(h:∀f,∀(fv:Vt) (A:Around) (outer:List Env) (s:Vu) (H:Hp) (E:XK),zW V.K fv V.Pt->ww k (A.deeper<|PyProof.Rows.envOfC x (z9 st) s.heap.objs.size f fv)->N.Nodup->(A.deeper<|PyProof.Rows.envOfC x (z9 st) s.heap.objs.size f fv).units+128<cLine->uJ (eY CX0 V.P V.w V.K V.mg V.base N x (z9 st) f fv A outer s H E).nox (x6 st) t)(I:wy N ps (z9 st):=by walk_at "s")(len:∀ys L Q,sp ys L Q->ys.length=ps.length:=by walk_at "l")(j:Gf x st ps:=by walk_at "b"):Q_ V (k+1) x ps sp:=by obtain⟨_,X,G⟩:=U;obtain⟨f,fd,F,b,m⟩:=D.use X G j;exact Cal.of (Su F I len λfv A outer s H E C J=>⟨t,h f fv A outer s H E C J I.nd<|GS J,g⟩) b F.kp m
end
section
variable {V:V_}(B:B_ V)
include B
theorem d1:IM V (aN):=M_ V _ _ B.hp B.D0 wC<|(pL).2 V B.toB0_ ⟨⟩
theorem d2:Ql V (cG):=M_ V _ _ B.hp B.D1 Si<|(mU _).2 V B.toB0_<|d1 B
theorem d3:Qm V (bA):=M_ V _ _ B.hp B.D2 vH<|(gg).2 V B.toB0_ ⟨⟩
theorem d4:Qn V (m7 V.Ca):=X_ V 1 ["links","p","q","x","y","kept"] (t:=(λJ=>JV V.Ca J<|bA)) B.hp B.D3 Uc λ_ _ _ _ _ _ _ _ I U hN g=>(qa (S_ 3 hN<|C_ (d3 B) I<|v9 (qv 0)<|qv 1)<|qa (S_ 4 hN<|C_ (d3 B) I<|v9 (qv 0)<|qv 2)<|qa (zr (E_ g (qv 3)<|qv 2) (qg<|tf B.x_NoCut rfl B.md rfl U rfl<|xn<|Q4<|gZ jv<|gZ (yO<|qv 1)<|gZ jv<|gZ (yO<|qv 2)<|gZ jv Q2) za)<|qa (a8 ["link"] (i:=5) hN rfl (Or.inl rfl) (E5 (by rfl)) rfl (wx<|qv 0) (gi Ge (λ_ _ _ _=>Or.inl rfl) λ_ _ _ _=>rfl) (λ_ _ _ _=>cg<|bD<|cD (je (oI _ _ _) (qv 1) (qv 6) (by with_unfolding_all rfl))<|aW<|je (oI _ _ _) (qv 2) (qv 6) (by with_unfolding_all rfl)) λ_ _ _ _=>(qv 6))<|qg<|zb<|jj eh rfl B.bj az<|xn<|qm ju (qv 5)<|jm<|xn<|zh<|v9 (jj sW rfl B.bn jK<|v9 (qv 3)<|qv 4)<|jj qI rfl B.bi gB<|v9 (qv 3)<|qv 4)
theorem d5:Qo V (eF V.Ca):=X_ V 2 ["web","k","cuts","knots","p","q","links","inner"] (t:=(λU=>yF V.Ca U (aN) (m7 V.Ca)<|cG)) B.hp B.D4 Uf λ_ _ _ _ _ _ _ _ I J hN g=>(qa (S_ 2 hN<|J_ 0)<|qa (zr (jR<|QQ qd<|QN Ps (qv 1)<|QM pJ<|L_ B.ba<|qv 2) (qg<|tf B.x_NoCut rfl B.md rfl J rfl<|xn jv) za)<|qa (S_ 3 hN<|vt ko rfl B.bf vk<|xn<|J_ 0)<|qa (S_ 4 hN<|I_ (I_ (qv 2)<|qv 1) qd)<|qa (S_ 5 hN<|I_ (I_ (qv 2)<|qv 1) qd)<|qa (S_ 6 hN<|eM (aB<|C_ (d1 B) I<|xn<|I_ (qv 3)<|qv 4) (IL ((d4 B).mono (by decide)) I rfl J rfl<|bQ (J_ 0) (qv 4)<|qv 5)<|vt ko rfl B.bf vk<|xn<|J_ 0)<|qa (S_ 7 hN<|T5 rfl rfl B.bf rfl B.bq<|v9 (C_ (d2 B) I<|xn<|I_ (qv 3)<|qv 4)<|C_ (d2 B) I<|xn<|I_ (qv 3)<|qv 5)<|qa (iD (qv 3) (qv 4) aa)<|qa (iD (qv 3) (qv 5) aa)<|qg<|zb<|zh<|bQ (qv 3) (qv 6)<|jj eh rfl B.bj az<|xn<|qm ju (qm ju (aC (qC _ _ _) (qv 2) bW<|aV<|qv 1)<|aC (qC _ _ _) (qv 2) (aV<|qm ju (qv 1) qd) bW)<|qv 7)
theorem d6:Qp V (cM V.Ca):=X_ V 3 ["web","free"] (t:=(λI=>xS I<|eF V.Ca)) B.hp B.D5 Uj λ_ _ _ _ _ _ _ _ J U hN g=>(qa (S_ 1 hN<|zh<|bQ (vt ko rfl B.bf vk<|xn<|J_ 0) (vt ko rfl B.bf vk<|xn<|J_ 0)<|vt ko rfl B.bf vk<|xn<|J_ 0)<|qa (gW PassesOwn.leaving (N_ g (J_ 1)<|jm wg)<|qg<|S_ 1 hN<|IL ((d5 B).mono (by decide)) J rfl U rfl<|v9 (qv 1) qd)<|qg<|zb<|qv 1)
theorem d7:IP V (cj):=M_ V _ _ B.hp B.D6 vJ<|(dz).2 V B.toB0_ ⟨⟩
theorem d8:Qq V (mB):=M_ V _ _ B.hp B.D7 SY<|(kF).2 V B.toB0_ ⟨⟩
theorem d9:FV V (dI):=M_ V _ _ B.hp B.D8 S0<|(kG).2 V B.toB0_ ⟨⟩
theorem d10:G' V (ij):=M_ V _ _ B.hp B.D9 Rj<|(oK).2 V B.toB0_ ⟨⟩
theorem UD:IQ V (iK):=M_ V _ _ B.hp B.D10 Rz<|(u3).2 V B.toB0_ ⟨⟩
theorem Hu:IR V (w9 120):=R_ V _ _ B.hp B.D11 rf uj (λn=>(kZ _).2 V B.toB0_ ⟨⟩ n) 120
theorem Hv:Qr V (aG 120):=R_ V _ _ B.hp B.D12 Rn Ro (λn=>(y8 _).2 V B.toB0_ ⟨⟩ n) 120
theorem JZ:IS V (aJ 120):=R_ V _ _ B.hp B.D13 nH Rl (λn=>(fg _).2 V B.toB0_ ⟨⟩ n) 120
theorem J1:IT V (vv 48):=R_ V 122 [nh,"_law_word_here","_law_left","_law_right","_law_turn","_law_same","_law_low","_law_high"] B.hp B.D14 yw (Ry (FS:=aG 120) λ_ _ _ h=>h) (λ_ _ I _ _ _ _ _ _ J hN U=>(qa (zr (E_ U (L_ B.ba<|qv 1) qd) (qa (zf<|ze (qv 0)<|xn<|C_ (Hv B) J<|xn<|qv 1)<|qa (zf<|ze (qv 0)<|xn<|qv 1)<|qg<|zb<|jm<|bQ (zh<|bQ jv (qm cU (L_ B.ba<|qv 0) qd)<|qm cU (L_ B.ba<|qv 0) qd) (qm cU (L_ B.ba<|qv 0) qd)<|qm cU (L_ B.ba<|qv 0) qd) za)<|qa (S_ 2 hN<|C_ I J<|v9 (qv 0)<|J_ 1)<|qa (S_ 3 hN<|C_ I J<|v9 (qv 0)<|J_ 1)<|qa (zf<|ze (qv 0)<|xn<|zh<|bQ (I_ (C_ (Hv B) J<|xn<|qv 1) qd) (J_ 2)<|J_ 3)<|qa (zf<|ze (qv 0)<|xn<|zh<|bQ (J_ 1) (J_ 2)<|J_ 3)<|qa (wL (i:=4) (j:=5) rfl hN rfl rfl (by decide) rfl rfl (v9 (qm cU (L_ B.ba<|qv 0) qd)<|qm cU (L_ B.ba<|qv 0) qd) rfl)<|qa (S_ 6 hN<|eM (E_ U (J_ 1) jv) (qv 4)<|qv 5)<|qa (S_ 7 hN<|eM (E_ U (J_ 1) jv) (qv 5)<|qv 4)<|qg<|zb<|jm<|bQ (zh<|bQ jv (qv 7)<|zh<|jw jv<|bQ (qv 6) (J_ 2)<|J_ 3) (qv 4)<|qv 5)) 48
theorem UE:IU V (mK):=M_ V _ _ B.hp B.D15 RC<|(Jt).2 V B.toB0_ ⟨⟩
theorem UF:IV V (hJ):=M_ V _ _ B.hp B.D16 RE<|(xW).2 V B.toB0_ ⟨⟩
theorem UG:IW V (l9):=M_ V 170 [nh,"_law_forest","_law_one","_law_two","_law_first","_law_p","_law_word_here","_law_second","_law_q","_law_at","_law_end","_law_rule","_law_same","_law_ends"] B.hp B.D17 (RK (FS:=aG 120) (MS:=vv 48) (λ_ _ _ h=>h)<|T9 (by decide) (by decide)) λ_ _ _ _ _ _ _ I hN J=>(qa (S_ 4 hN<|cQ (qv 1)<|xn<|qm js (qv 3)<|L_ B.ba<|qv 1)<|qa (bx (i:=5) hN rfl (Or.inr rfl)<|I_ (J_ 4)<|qm js (qm vf (qv 3) qd)<|L_ B.ba<|J_ 4)<|qa (S_ 6 hN<|C_ (Hu B) I<|v9 (qv 0)<|qv 5)<|qa (bB (zh<|v9 aa aa)<|ku rfl<|qz (G_ 7 hN)<|qz (bX (i:=8) hN rfl<|Or.inr rfl) xi)<|qa (ky ya rfl (wu rfl B.bh<|xn<|L_ B.ba<|qv 1) (G_ 9 hN)<|qg<|ky ya rfl (wx<|I_ (I_ (qv 1)<|qv 9) qd) (G_ 10 hN)<|qg<|zr (bD<|cD (jY<|qv 7)<|aW<|E_ J (C_ (Hu B) I<|v9 (qv 0)<|qv 10)<|C_ (Hv B) I<|xn<|qv 6) (qg<|bB (zh<|v9 (I_ (qv 1)<|qv 9)<|qv 10)<|ku rfl<|qz (G_ 7 hN)<|qz (bX (i:=8) hN rfl<|Or.inr rfl) xi) za)<|qa (zr (bD<|cD (jY<|qv 7)<|aW<|je yn (C_ (JZ B) I<|xn<|qv 6) qd<|vn _) (qa (zf<|ze (qv 1)<|xn<|qv 4)<|qg rg) za)<|xw (zr (jY<|qv 7) (qa (bB (C_ (J1 B) I<|v9 (qv 0)<|qv 6)<|Jq rfl<|qz (G_ 11 hN)<|qz (bX (i:=8) hN rfl<|Or.inr rfl)<|qz (G_ 12 hN) xi)<|qg<|S_ 7 hN<|jm<|v9 (qv 11)<|jm<|v9 (qv 8)<|qv 12)<|qg<|zf<|zF J (qv 1)<|xn<|qv 7)<|qa (a8 ["_law_x"] (i:=13) hN rfl (Or.inl rfl) (E5 (by rfl)) rfl (wx<|qm ju (J_ 4)<|J_ 7) (gi Ge (λ_ _ _ _=>Or.inl rfl) λ_ _ _ _=>rfl) (λ_ _ _ _=>cg<|je (oI _ _ _) (qv 14) (zh<|v9 (qv 5)<|qv 8) (by with_unfolding_all rfl)) λ_ _ _ _=>(qv 14))<|qg<|zr (E_ J (qm js (qv 2) qd) qd) (qg<|zf<|ze (qv 1)<|xn<|jm<|v9 (zh<|jw jv<|jw (qv 5)<|bQ (qv 8) (J_ 4)<|J_ 7)<|qv 13)<|qg<|zf<|ze (qv 1)<|xn<|jm<|v9 (zh<|jw jv<|jw (qv 8)<|bQ (qv 5) (J_ 7)<|J_ 4)<|qv 13)
theorem UH:IX V (gp):=M_ V _ _ B.hp B.D18 RL<|(yH _ _ _ _ _).2 V B.toB0_ ⟨(d10 B),(UD B),(UF B),(UE B),(UG B)⟩
theorem UI:IY V (aQ 120):=R_ V _ _ B.hp B.D19 zS Tk (λn=>(fk _).2 V B.toB0_ ⟨⟩ n) 120
theorem J2:IZ V (gb):=M_ V _ _ B.hp B.D20 To<|(JR _).2 V B.toB0_<|UI B
theorem UJ:I9 V (lh):=M_ V 0 ["_law_web_here",nh,"_law_links","_law_cuts","_law_taken","_law_knot","_law_p","_law_q"] B.hp B.D21 Tp λ_ _ _ _ _ _ _ J hN I=>(qa (bB (qv 0)<|ku rfl<|qz (bX (i:=1) hN rfl<|Or.inr rfl)<|qz (G_ 2 hN)<|qz (G_ 3 hN) xi)<|qa (bx (i:=4) hN rfl (Or.inr rfl) hW)<|qa (ky ya rfl (wx<|qv 1) (G_ 5 hN)<|qg<|zr (bD<|cD (mF<|qv 5)<|aW<|E_ I (L_ B.ba<|qv 5) qd) (qa (wq I (qv 4) (J_ 5) bU)<|qg<|wq I (qv 4) (J_ 5) bU) za)<|qa (ky ya rfl (wx<|qv 3) (ku rfl<|qz (G_ 6 hN)<|qz (G_ 7 hN) xi)<|qa (wq I (qv 4) (qv 6) bU)<|qg<|wq I (qv 4) (qv 7) bU)<|qg<|SA "_law_p'"<|zb<|ID ["_law_p"] (E5 (by rfl)) rfl (wu rfl B.bh<|xn<|L_ B.ba<|qv 1) (gi Ge (λ_ _ _ _=>Or.inl rfl) λ_ _ _ _=>rfl) (λ_ _ _ _=>cg<|bD<|cD (mF<|I_ (qv 1)<|qv 8)<|aW<|je (S9 I) (qv 8) (qv 4) (by with_unfolding_all rfl)) λ_ _ _ _=>(qv 8))
theorem UK:Ja V (fE V.Pt):=T_ V 1 [nh,"_law_seed","_law_ranks","_law_p","_law_knot","_law_rank"] B.hp B.D22 Td λ_ _ _ _ _ _ _ C I hN J=>(qa (bx (i:=2) hN rfl (Or.inr rfl)<|jm wg)<|qa (ky ya rfl (mC rfl B.bp<|qv 0) (ku rfl<|qz (G_ 3 hN)<|qz (G_ 4 hN) xi)<|qa (S_ 5 hN<|qm js (C_ (d10 B) I<|bQ (qv 1) (qv 3) qd) qd)<|xw (zr (E_ J (L_ B.ba<|qv 4) qd) (qg<|S_ 5 hN<|qm ju (qm ju (qv 5) qd)<|jj qI rfl B.bi gB<|v9 (I_ (qv 2)<|J_ 4)<|I_ (qv 2)<|J_ 4) za)<|qg<|zf<|ze (qv 2)<|xn<|qv 5)<|qg<|zb<|Ss rfl B.bj (wP rfl rfl B.bf rfl B.bh<|L_ B.ba<|qv 0) ⟨rfl,rfl,rfl,by decide +kernel,rfl,rfl,by decide,by decide,by decide⟩ C (SE I) rfl rfl rfl ⟨_,rfl,rfl⟩ rfl λ_ _ _ _ _ _ _=>rfl)
theorem UL:Jb V (bC 120):=R_ V _ _ B.hp B.D23 Te T7 (λn=>(tW _).2 V B.toB0_ ⟨⟩ n) 120
theorem UM:Jc V (lm V.Pt):=M_ V _ _ B.hp B.D24 Ts<|(JS _ _ _).2 V B.toB0_ ⟨(d9 B),(UK B),(UL B)⟩
theorem UN:Jd V (dD):=M_ V _ _ B.hp B.D25 wY<|(da).2 V B.toB0_ ⟨⟩
theorem UO:Je V (fB):=M_ V _ _ B.hp B.D26 TN<|(fz).2 V B.toB0_ ⟨⟩
theorem UP:Qs V (fA):=M_ V _ _ B.hp B.D27 TQ<|(tZ _ _ _ _).2 V B.toB0_ ⟨(d9 B),(UN B),(d10 B),(UO B)⟩
theorem UQ:Jf V (fH):=M_ V _ _ B.hp B.D28 zT<|(fj).2 V B.toB0_ ⟨⟩
theorem Hw:Qt V (wr 4):=R_ V _ _ B.hp B.D29 T6 yz (λn=>(sj _ _).2 V B.toB0_ (UQ B) n) 4
theorem UR:Qu V (fN):=M_ V _ _ B.hp B.D30 SQ<|(kB).2 V B.toB0_ ⟨⟩
theorem US:Jg V (lu):=M_ V _ _ B.hp B.D31 S6<|(lB _ _ _).2 V B.toB0_ ⟨(d9 B),(UH B),(d7 B)⟩
theorem UT:Jh V (iG):=M_ V _ _ B.hp B.D32 Ua<|(kW _ _ _ _ _).2 V B.toB0_ ⟨(UJ B),(J2 B),(Hu B),(JZ B),(J1 B)⟩
theorem UU:Qv V (gU V.Pt):=M_ V _ _ B.hp B.D33 Ub<|(iH _ _ _ _).2 V B.toB0_ ⟨(US B),(d9 B),(UT B),(UM B)⟩
theorem UV:Ji V (fC 96):=R_ V _ _ B.hp B.D34 Uk Ul (λn=>(kY _).2 V B.toB0_ ⟨⟩ n) 96
theorem UW:Qw V (gx):=M_ V _ _ B.hp B.D35 Uv<|(hZ _).2 V B.toB0_<|UV B
theorem dL{f:Addr}{fd:FuncData}(F:Fun V.K "law" "law" uZ f fd):Fn3 V.P V.w V.K V.mg V.base 175 f fd [ng] (mJ V.Pt lamQ):=
 W_ V 174 [ng,"_law_stir_here","_law_web_here","_law_due","_law_handed","_law_found","_law_caught","e","_law_part"] F (UB B.xf) λ_ _ _ _ _ _ I hN J=>(qa (S_ 1 hN<|C_ (d8 B) I<|xn<|qv 0)<|qa (S_ 2 hN<|C_ (UP B) I<|v9 (C_ (J2 B) I<|xn<|C_ (UU B) I<|bQ (qv 0) (qv 1) qd)<|qv 1)<|qa (S_ 3 hN<|C_ (UW B) I<|xn<|qv 2)<|qa (S_ 4 hN<|C_ (UR B) I<|xn<|qv 2)<|qa (S_ 5 hN aa)<|qa (S_ 6 hN aa)<|qa (Qz (i:=7) rfl rfl rfl hN rfl rfl rfl B.mf (Qy (i:=5) ((d6 B).mono (by decide)) I rfl rfl hN rfl (Or.inl rfl) λ_ _=>(xn<|qv 4)) λ_=>(qg<|S_ 6 hN<|qv 7))<|qa (zr (jR<|aB<|C_ (Hw B) I<|v9 (qv 4)<|qv 2) (qg<|zb bU) za)<|qa (zr (jY<|qv 3) (qg<|zb<|rF (QD rfl B.bg (qv 6) (xK rfl B.md) rfl)<|sK<|IA<|QH rfl B.bg (qv 6) (sk (xK rfl B.mh)<|sk (xK rfl B.me) QC) rfl<|Cp rfl) za)<|qa (zr (bD<|uG (mF<|qv 6)<|oA<|jR<|aB<|C_ (Hw B) I<|v9 (qv 5)<|qv 3) (qg<|zb bU) za)<|qa (ky ya rfl (rC<|qv 5) (G_ 8 hN)<|qg<|zf<|ze (qv 8)<|xn aa)<|qg<|zb<|C_ (Hw B) I<|v9 (qv 4)<|qv 2)
end
theorem all_mk{l:PySem.W.OpenLaw}{w:Vw}{K:Ah}{h:Vx}{mg:Vf}{fa:Addr}{I:Addr}{g:Option Addr}{j:Nat}{o:Array<|Vp}{J U:Tok}{p:Addr}{r:Addr}{t:Addr}{C:Addr}{Pt:Addr}(X:K.In h)(G:h.Ns mainGlobals mg)(T:mg "law"=some (.ref fa))
 (D:DD K)
 (D22:DefInT K "_law_order" s__law_order Pt)
 (aLEAF_KINDS:PySem.W.nsIn K mainGlobals "LEAF_KINDS"=some (some<|.ref I))
 (lLEAF_KINDS:K.lookup I=some ⟨.type "tuple",g,.seq #[.str "plain" J,.str "turned" U] j,o⟩)
 (aCNoCut:PySem.W.nsIn K mainGlobals "NoCut"=some (some<|.ref p))
 (aCOnceError:PySem.W.nsIn K mainGlobals "OnceError"=some (some<|.ref r))
 (aCBadWeb:PySem.W.nsIn K mainGlobals "BadWeb"=some (some<|.ref t))
 (aCNoTree:PySem.W.nsIn K mainGlobals "NoTree"=some (some<|.ref C))
 (qCNoCut:PySem.W.excIn K p [.type "ValueError",.type "Exception",.type "BaseException",.type "object"] "ValueError.__new__"=true)
 (xf:L3.XF54 K r t C p)
 (zmax:PySem.W.nsIn K mainGlobals "max"=some none)
 (zmin:PySem.W.nsIn K mainGlobals "min"=some none)
 (zsorted:PySem.W.nsIn K mainGlobals "sorted"=some none)
 (zlen:PySem.W.nsIn K mainGlobals "len"=some none)
 (zlist:PySem.W.nsIn K mainGlobals "list"=some none)
 (zzip:PySem.W.nsIn K mainGlobals "zip"=some none)
 (zenumerate:PySem.W.nsIn K mainGlobals "enumerate"=some none)
 (zrange:PySem.W.nsIn K mainGlobals "range"=some none)
 (zisinstance:PySem.W.nsIn K mainGlobals "isinstance"=some none)
 (ztuple:PySem.W.nsIn K mainGlobals "tuple"=some none)
 (zint:PySem.W.nsIn K mainGlobals "int"=some none)
 (zbool:PySem.W.nsIn K mainGlobals "bool"=some none)
 (zstr:PySem.W.nsIn K mainGlobals "str"=some none):
 ∃fd:FuncData,(∀(s:Vu) (v:Vt),BindsTo s fd ⟨[v],[]⟩ [(ng,v)])/\∀base:Vx,K.In base->base.Ns mainGlobals mg->bP l.prog w K mg base CX0 175 fa fd [ng] (spTopT lamQ K Pt):=by
 obtain⟨fL,kV,a1,pm,an,a2,ct,aL,FL⟩:=D.D36.ex;have e:=T.symm.trans<|Cf X G aL;cases e;refine⟨PySem.W.fnOf "law" "law" (k8 uZ) (x6 uZ) (z9 uZ) .none kV a1 pm an a2 ct,λs v=>.of_eq rfl,λbase _ _=>?_⟩;have B:B_ ⟨l.prog,w,K,mg,base,Pt,p,r,t,C⟩:=⟨⟨Bl X G zmax,Bl X G zmin,Bl X G zsorted,Bl X G zlen,Bl X G zlist,Bl X G zzip,Bl X G zenumerate,Bl X G zrange,Bl X G zisinstance,Bl X G ztuple,Bl X G zint,Bl X G zbool,Bl X G zstr,⟨I,Cf X G aLEAF_KINDS,λH=>⟨I,[V.str "plain",V.str "turned"],rfl,.inr ⟨_,_,_,lLEAF_KINDS,rfl,rfl,by show 2<=sizeLine;decide,.cons ⟨_,rfl⟩<|.cons ⟨_,rfl⟩<|.nil⟩,⟨_,_,rfl,rfl,⟨_,_,rfl,rfl,rfl⟩⟩⟩⟩⟩,D,⟨h,X,G⟩,D22,Cf X G aCNoCut,Cf X G aCOnceError,Cf X G aCBadWeb,Cf X G aCNoTree,xN qCNoCut,xf⟩;exact bP.imp (dL B FL) λvs H Q E q=>Sv q
theorem def_inT{K:Ah}{x:Str}{st:Stmt}{f Pt:Addr}{oc:Vt}{od an:Option Addr}{oi:Array<|Vp}{kV kt pm fv ct:Vt}(a:PySem.W.nsIn K mainGlobals x=some (some<|.ref f))
 (l:K.lookup f=some ⟨oc,od,.func<|PySem.W.fnOf x x (k8 st) (x6 st) (z9 st) .none kV kt pm an fv ct,oi⟩) (c:PySem.W.codeIn K fv x=true) (k:PySem.W.keepIn K (.ref f)=true) (C:zW K fv Pt):DefInT K x st Pt:=
 ⟨f,kV,kt,pm,an,fv,ct,a,⟨⟨oc,od,kV,kt,pm,an,fv,ct,oi,rfl,l,c,C⟩,k⟩⟩
end K54
namespace H54
noncomputable section
open PySem PySem.W PySem.W.X L2 L3 PyProof.Rows
abbrev rr:=PySem.Challenge.rw_oncewise_k54_links_walked_through_cuts
abbrev p:Vv:=PySem.Challenge.pw_oncewise_k54_links_walked_through_cuts
abbrev top:=L3.top
abbrev J3(i k:Nat):Stmt:=(Q5<|top i).getD k<|.Pass ⟨0,0,0,0⟩
abbrev s(x:Vy):Str:=Str.ofString x
noncomputable abbrev S (x:Vy) (t:Tok):Vt:=.str (Str.ofString x) t
noncomputable abbrev I (i:Int) (t:Tok):Vt:=.int i t
noncomputable abbrev R (a:Addr):Vt:=.ref a
abbrev E(P:Params)(k:Vy)(t:Tok)(v:Vt):DictEntry:=⟨PyData.keyHash P<|Str.ofString k,.str (Str.ofString k) t,v⟩
noncomputable abbrev O (c:Vt) (d:Data):Obj:=⟨c,none,d,#[]⟩
abbrev FN(n q:Vy)(st:Stmt)(I kV kt pm:Vt)(an:Option Addr)(cd ct:Vt):FuncData:=fnOf (Str.ofString n) (Str.ofString q) (k8 st) (x6 st) (z9 st) I kV kt pm an cd ct
abbrev FG(n q:Vy)(st:Stmt):FuncData:={fnOf (Str.ofString n) (Str.ofString q) (k8 st) (x6 st) (z9 st) .none .none .none .none none .none .none with globals:=0}
abbrev tu(l:Vj):Obj:=O (.type "tuple")<|.seq l 0
abbrev fo(f:FuncData):Obj:=O (.type "function")<|.func f
abbrev go(f:FuncData):Obj:=O .none<|.func f
abbrev co(n q:Vy)(t l a b c fl v:Nat)(o:Bool)(m k:Nat)(x y z u:Vt)(d:Nat):Obj:=O (.type "code")<|.fields #[S n t,S q<|t+1,S "/claim/cut.py"<|t+2,I l 0,I a 0,I b 0,I c 0,I fl 0,R v,.bool o,I m 0,R k,x,y,z,u,I d 0,I l 0,S "/claim/cut.py"<|d+1]
abbrev gL:Vt:=S "law_oncewise_k54_links_walked_through_cuts" 326
abbrev Go:Vt:=S "oncewise.cutting" 286
abbrev fX(n:Vy)(i:Nat)(m:Vt)(r:Nat):Obj:=fo<|FN n n (top i) .none .none .none m none (R r) .none
abbrev gX(n:Vy)(i:Nat):Obj:=go<|FG n n<|top i
abbrev cF(n:Vy)(t l a v d:Nat):Obj:=co n n t l a 0 0 3 v true 181 (v+1) .none (R<|v+2) (R<|v+3) (R<|v+4) d
abbrev cC(n:Vy)(t l v d:Nat):Obj:=co n n t l 0 0 0 0 v false 181 (v+1) .none .none .none .none d
abbrev cS(n:Vy)(a I k t v:Nat):Obj:=⟨.type "type",none,.cls<|ClassData.mk (s n) [R 24] [R a,R 24,.type "ValueError",.type "Exception",.type "BaseException",.type "object"] I (s n) true [] [] false none false,#[some<|R k,none,some<|S n t,some<|S n v,some<|.builtin "ValueError.__new__",some<|.bool true]⟩
abbrev dA(P:Params)(a b:Nat)(l:Int)(c d r e:Nat):Obj:=O (.type "dict")<|.dict #[E P "__module__" a<|S "oncewise.errors" 187,E P "__firstlineno__" b<|I l c,E P "__static_attributes__" d<|R r,E P "__doc__" e .none] 2
abbrev dB(P:Params)(a q:Nat)(n:Vy)(J b:Nat)(l:Int)(c d r:Nat):Obj:=O (.type "dict")<|.dict #[E P "__module__" a<|S "oncewise.errors" 187,E P "__qualname__" q<|S n J,E P "__firstlineno__" b<|I l c,E P "__static_attributes__" d<|R r] 4
abbrev fR(a b:Nat):Obj:=⟨.type "frame",none,.plain,#[some<|R a,some<|R 3,some<|R b,none,some<|S "oncewise.errors" 187,none,some<|R 0]⟩
abbrev bI(a:Nat):Obj:=O (.type "builtin_function_or_method")<|.fields #[.builtin "object.__init_subclass__",R a]
abbrev sU(a:Nat):Obj:=O (.type "super")<|.fields #[R a,R a,R a]
abbrev Ob:=Params->Obj
def ev{α:Type}:Bool->List α->List α
 |_,[]=>[]
 |true,x::r=>x::ev false r
 |false,_::r=>ev true r
def bt:Nat->List Obj->BT
 |0,_=>.nil
 |_,[]=>.nil
 |n+1,x::r=>.node x (bt n<|ev true r)<|bt n<|ev false r
def env0:Env:={scope:=p.main.scope,locals:=mainNs,globals:=mainNs,cells:=[],code:=.ref 13,frame:=some 14}
abbrev cE:Code:=.body (behindTheImports p) env0
abbrev q0:Pos:=⟨0,0,0,0⟩
abbrev an:Vp:=some<|.ref 6
abbrev Pc(n:Nat)(S S':Vw->OsState->SharedT)(l:Vn)(q I:Pos)(w:Vw):Prop:=(λos=>segRunT treeTable p w 11 an 1 n (S w os)<|piecesOf l env0 cE q [topFrame q0])=λos=>some (Flow.next,S' w os,cE,I)
abbrev b0:=PySem.W.boot_o_0
abbrev b1:=PySem.W.boot_o_1
abbrev b2:=PySem.W.boot_o_2
abbrev b3:=PySem.W.boot_o_3
abbrev b4:=PySem.W.boot_o_4
abbrev b5:=PySem.W.boot_o_5
abbrev b6:=PySem.W.boot_o_6
abbrev b7:=PySem.W.boot_o_7
abbrev b8:=PySem.W.boot_o_8
abbrev b9:=PySem.W.boot_o_9
abbrev Gp:=PySem.W.boot_o_10
def vo:Ob:=λ_=>tu #[]
def bu:Ob:=λ_=>O .none<|.fields #[]
def Gq:Ob:=λ_=>cC "<module>" 182 1 11 185
def Hx:Ob:=λ_=>⟨(.type "frame"),none,.plain,#[(some<|R 13),(some<|R 3),(some<|R 3),none,(some<|S "__main__" 164),none,(some<|R 0)]⟩
def J4:Ob:=λP=>O (.type "dict")<|.dict #[(E P "__module__" 196<|S "oncewise.errors" 187),(E P "__firstlineno__" 200<|I 2 199),(E P "__static_attributes__" 201<|R 22),(E P "__weakref__" 203<|R 25),(E P "__doc__" 204 .none)] 3
def J5:Ob:=λ_=>O (.type "getset_descriptor")<|.fields #[S "__weakref__" 202,R 24,(.builtin "ExceptionGroup.__weakref__"),.none]
def Gr:Ob:=λ_=>O (.type "builtin_function_or_method")<|.fields #[(.builtin "type.__prepare__"),(.type "type")]
def J6:Ob:=λ_=>cS "BadWeb" 37 36 28 207 215
def J7:Ob:=λP=>dA P 214 218 4 217 219 35 220
def Hy:Ob:=λ_=>tu #[R 24]
def J8:Ob:=λP=>O (.type "dict")<|.dict #[(E P "__module__" 230<|S "oncewise.errors" 187),(E P "__firstlineno__" 234<|I 6 233),(E P "__init__" 243<|R 53),(E P "__static_attributes__" 245<|R 54),(E P "__doc__" 246 .none)] 2
def J9:Ob:=λ_=>fo<|FN "__init__" "NoTree.__init__" (J3 3 0) .none .none .none (S "oncewise.errors" 187) none (R 52) .none
def Ka:Ob:=λ_=>cS "NoTree" 56 55 40 223 231
def Kb:Ob:=λ_=>co "__init__" "NoTree.__init__" 235 8 3 0 0 3 47 true 181 48 .none (R 49) (R 50) (R 51) 241
def Kc:Ob:=λ_=>tu #[S "plain" 267,S "turned" 268]
def Kd:Ob:=λP=>dA P 256 260 11 259 261 66 262
def Ke:Ob:=λ_=>cF "partner_of" 288 23 2 86 295
def Kf:Ob:=λ_=>fX "links_without" 12 Go 96
def Kg:Ob:=λ_=>fo<|FN "parts_of" "parts_of" (top 9) .none .none .none (S "oncewise.webs" 277) none (R 84) .none
def Kh:Ob:=λ_=>cF "is_leaf" 270 15 1 72 274
def Ki:Ob:=λ_=>co "links_without" "links_without" 298 30 3 0 0 3 93 true 181 94 .none .none .none (R 95) 301
def Kj:Ob:=λ_=>⟨(.type "type"),none,(.cls<|ClassData.mk (s "OnceError") [(.type "ValueError")] [R 24,(.type "ValueError"),(.type "Exception"),(.type "BaseException"),(.type "object")] 23 (s "OnceError") true [] [R 37,R 56,R 68] false none false),#[(some<|R 15),none,(some<|S "OnceError" 189),(some<|S "OnceError" 197),(some<|.builtin "ValueError.__new__"),(some<|.bool true)]⟩
def Kk:Ob:=λ_=>cS "NoCut" 68 67 59 249 257
def Kl:Ob:=λ_=>cF "parts_of" 279 18 1 79 283
def Km:Ob:=λ_=>fX "partner_of" 11 Go 91
def Ko:Ob:=λ_=>fo<|FN "is_leaf" "is_leaf" (top 7) .none .none .none (S "oncewise.words" 265) none (R 77) .none
def Kp:Ob:=λ_=>co "_law_name" "_law_name" 363 68 2 0 0 3 140 true 181 141 .none .none .none (R 142) 366
def Kq:Ob:=λ_=>fX "cut_free" 14 Go 110
def Kr:Ob:=λ_=>cF "cut_step" 304 37 2 98 315
def Ks:Ob:=λ_=>fX "_law_word" 21 gL 150
def Kt:Ob:=λ_=>cF "_law_pick" 346 64 2 126 351
def Ku:Ob:=λ_=>fX "_law_mix" 19 gL 138
def Kv:Ob:=λ_=>cF "_law_mirror" 393 91 2 166 404
def Kw:Ob:=λ_=>fX "_law_join" 25 gL 176
def Kx:Ob:=λ_=>fX "_law_weight" 23 gL 164
def Ky:Ob:=λ_=>cF "_law_cell_at" 328 55 2 112 333
def Kz:Ob:=λ_=>cF "_law_flip" 378 82 1 152 383
def KA:Ob:=λ_=>fX "_law_stir" 17 gL 124
def KC:Ob:=λ_=>fX "_law_name" 20 gL 143
def KE:Ob:=λ_=>co "_law_join" "_law_join" 407 104 4 0 0 3 173 true 181 174 .none .none .none (R 175) 410
def KG:Ob:=λ_=>fX "cut_step" 13 Go 103
def KH:Ob:=λ_=>fX "_law_pick" 18 gL 131
def KI:Ob:=λ_=>cF "_law_weight" 386 87 1 159 390
def KJ:Ob:=λ_=>fX "_law_mirror" 24 gL 171
def KL:Ob:=λ_=>cF "_law_stir" 336 59 1 119 343
def KN:Ob:=λ_=>cF "_law_mix" 354 66 3 133 360
def KO:Ob:=λ_=>cF "_law_word" 369 77 2 145 375
def KP:Ob:=λ_=>fX "_law_cell_at" 16 gL 117
def KQ:Ob:=λ_=>cF "cut_free" 318 49 1 105 323
def KR:Ob:=λ_=>fX "_law_flip" 22 gL 157
def KS:Ob:=λ_=>fX "_law_swapped" 35 gL 238
def KU:Ob:=λ_=>fX "_law_open" 31 gL 214
def KY:Ob:=λ_=>cF "_law_fold" 413 112 4 178 422
def KZ:Ob:=λ_=>cF "_law_tree" 431 142 3 190 445
def K1:Ob:=λ_=>fX "_law_moved" 33 gL 226
def K2:Ob:=λ_=>co "_law_looped" "_law_looped" 513 240 2 0 0 3 240 true 181 241 .none .none .none (R 242) 516
def K3:Ob:=λ_=>fX "_law_gather" 29 gL 202
def K4:Ob:=λ_=>fX "_law_crossed" 37 gL 250
def K5:Ob:=λ_=>cF "_law_number" 529 264 1 252 533
def K6:Ob:=λ_=>cF "_law_web" 458 179 1 204 464
def K7:Ob:=λ_=>cF "_law_gapped" 491 209 2 228 504
def Hz:Ob:=λ_=>cF "_law_order" 473 195 2 216 482
def K8:Ob:=λ_=>fX "_law_cut" 27 gL 188
def K9:Ob:=λ_=>fX "_law_fold" 26 gL 183
def K_:Ob:=λ_=>fX "_law_tree" 28 gL 195
def K':Ob:=λ_=>fX "_law_looped" 36 gL 243
def La:Ob:=λ_=>co "_law_cut" "_law_cut" 425 120 4 0 0 3 185 true 181 186 .none .none .none (R 187) 428
def Lb:Ob:=λ_=>fX "_law_number" 38 gL 257
def Lc:Ob:=λ_=>co "_law_moved" "_law_moved" 485 203 2 0 0 3 223 true 181 224 .none .none .none (R 225) 488
def Ld:Ob:=λ_=>fX "_law_web" 30 gL 209
def Le:Ob:=λ_=>cF "_law_gather" 448 171 3 197 455
def Lf:Ob:=λ_=>fX "_law_gapped" 34 gL 233
def Lg:Ob:=λ_=>cF "_law_crossed" 519 257 2 245 526
def Lh:Ob:=λ_=>co "_law_open" "_law_open" 467 184 1 0 0 3 211 true 181 212 .none .none .none (R 213) 470
def Li:Ob:=λ_=>co "_law_swapped" "_law_swapped" 507 224 2 0 0 3 235 true 181 236 .none .none .none (R 237) 510
def Lj:Ob:=λ_=>fX "_law_order" 32 gL 221
def Lk:Ob:=λP=>O (.type "dict")<|.dict #[(E P "__name__" 165<|S "law_oncewise_k54_links_walked_through_cuts" 326),(E P "__doc__" 166 .none),(E P "__package__" 167 .none),(E P "__loader__" 168<|.builtin "__main__.__loader__#opaque"),(E P "__spec__" 169 .none),(E P "__annotations__" 170<|R 6),(E P "__builtins__" 171<|R 4),(E P "__file__" 173<|S "/claim/cut.py" 172),(E P "__cached__" 174 .none),(E P "OnceError" 206<|R 24),(E P "BadWeb" 222<|R 37),(E P "NoTree" 248<|R 56),(E P "NoCut" 264<|R 68),(E P "LEAF_KINDS" 269<|R 71),(E P "is_leaf" 276<|R 78),(E P "parts_of" 285<|R 85),(E P "partner_of" 297<|R 92),(E P "links_without" 303<|R 97),(E P "cut_step" 317<|R 104),(E P "cut_free" 325<|R 111),(E P "_law_cell_at" 335<|R 118),(E P "_law_stir" 345<|R 125),(E P "_law_pick" 353<|R 132),(E P "_law_mix" 362<|R 139),(E P "_law_name" 368<|R 144),(E P "_law_word" 377<|R 151),(E P "_law_flip" 385<|R 158),(E P "_law_weight" 392<|R 165),(E P "_law_mirror" 406<|R 172),(E P "_law_join" 412<|R 177),(E P "_law_fold" 424<|R 184),(E P "_law_cut" 430<|R 189),(E P "_law_tree" 447<|R 196),(E P "_law_gather" 457<|R 203),(E P "_law_web" 466<|R 210),(E P "_law_open" 472<|R 215),(E P "_law_order" 484<|R 222),(E P "_law_moved" 490<|R 227),(E P "_law_gapped" 506<|R 234),(E P "_law_swapped" 512<|R 239),(E P "_law_looped" 518<|R 244),(E P "_law_crossed" 528<|R 251),(E P "_law_number" 535<|R 258),(E P "_law_alike" 544<|R 265),(E P "_law_copy" 551<|R 272),(E P "_law_sown" 561<|R 279),(E P "_law_deep" 576<|R 286),(E P "_law_grown" 586<|R 293),(E P "_law_meet" 597<|R 300),(E P "_law_freed" 616<|R 307),(E P "law" 631<|R 314)] 51
def Ll:Ob:=λ_=>cF "_law_copy" 545 283 1 266 549
def Lm:Ob:=λ_=>fX "_law_sown" 41 gL 278
def Ln:Ob:=λ_=>fX "_law_freed" 45 gL 306
def Lo:Ob:=λ_=>cF "_law_meet" 587 308 5 294 595
def Lp:Ob:=λ_=>fX "_law_alike" 39 gL 264
def Lq:Ob:=λ_=>cF "law" 617 342 1 308 629
def Lr:Ob:=λ_=>fX "_law_grown" 43 gL 292
def Ls:Ob:=λ_=>cF "_law_deep" 562 290 2 280 574
def Lu:Ob:=λ_=>fX "_law_copy" 40 gL 271
def Lv:Ob:=λ_=>cF "_law_alike" 536 266 2 259 542
def Lw:Ob:=λ_=>cF "_law_grown" 577 301 3 287 584
def Lx:Ob:=λ_=>fX "_law_meet" 44 gL 299
def Ly:Ob:=λ_=>cF "_law_freed" 598 317 1 301 614
def Lz:Ob:=λ_=>fX "law" 46 gL 313
def LA:Ob:=λ_=>cF "_law_sown" 552 285 3 273 559
def LB:Ob:=λ_=>fX "_law_deep" 42 gL 285
def asu:List Ob:=[b0,b1,b2,b3,b4,b5,b6,b7,b8,b9,Gp,vo,bu,Gq,Hx]
def aq3:List Ob:=[b0,b1,b2,Lk,b4,b5,b6,b7,b8,b9,Gp,vo,λ_=>O .none<|.fields #[I 2 0,I 0 0,R 20,I 4 0,I 0 0,R 33,I 6 0,I 0 0,R 45,I 11 0,I 0 0,R 64,I 15 0,I 0 0,R 77,I 18 0,I 0 0,R 84,I 23 0,I 0 0,R 91,I 30 0,I 0 0,R 96,I 37 0,I 0 0,R 103,I 49 0,I 0 0,R 110,I 55 0,I 0 0,R 117,I 59 0,I 0 0,R 124,I 64 0,I 0 0,R 131,I 66 0,I 0 0,R 138,I 68 0,I 0 0,R 143,I 77 0,I 0 0,R 150,I 82 0,I 0 0,R 157,I 87 0,I 0 0,R 164,I 91 0,I 0 0,R 171,I 104 0,I 0 0,R 176,I 112 0,I 0 0,R 183,I 120 0,I 0 0,R 188,I 142 0,I 0 0,R 195,I 171 0,I 0 0,R 202,I 179 0,I 0 0,R 209,I 184 0,I 0 0,R 214,I 195 0,I 0 0,R 221,I 203 0,I 0 0,R 226,I 209 0,I 0 0,R 233,I 224 0,I 0 0,R 238,I 240 0,I 0 0,R 243,I 257 0,I 0 0,R 250,I 264 0,I 0 0,R 257,I 266 0,I 0 0,R 264,I 283 0,I 0 0,R 271,I 285 0,I 0 0,R 278,I 290 0,I 0 0,R 285,I 301 0,I 0 0,R 292,I 308 0,I 0 0,R 299,I 317 0,I 0 0,R 306,I 342 0,I 0 0,R 313],Gq,Hx,λ_=>tu #[(.type "ValueError")],Gr,λP=>dB P 196 198 "OnceError" 197 200 2 199 201 22,vo,bu,λ_=>cC "OnceError" 191 2 18 194,λ_=>fR 20 17,vo,J4,Kj,J5,λ_=>sU 24,λ_=>bI 24,Hy,Gr,λP=>dB P 214 216 "BadWeb" 215 218 4 217 219 35,vo,bu,λ_=>cC "BadWeb" 209 4 31 212,λ_=>fR 33 30,vo,J7,J6,λ_=>sU 37,λ_=>bI 37,Hy,Gr,λP=>O (.type "dict")<|.dict #[(E P "__module__" 230<|S "oncewise.errors" 187),(E P "__qualname__" 232<|S "NoTree" 231),(E P "__firstlineno__" 234<|I 6 233),(E P "__init__" 243<|R 53),(E P "__static_attributes__" 245<|R 54)] 5,vo,λ_=>O .none<|.fields #[I 8 0,I 4 0,R 52],λ_=>cC "NoTree" 225 6 43 228,λ_=>fR 45 42,vo,bu,λ_=>tu #[S "self" 238,S "words" 239,S "choices" 240],vo,λ_=>go<|FG "__init__" "NoTree.__init__"<|J3 3 0,Kb,J9,λ_=>tu #[S "choices" 244],J8,Ka,λ_=>sU 56,λ_=>bI 56,Hy,Gr,λP=>dB P 256 258 "NoCut" 257 260 11 259 261 66,vo,bu,λ_=>cC "NoCut" 251 11 62 254,λ_=>fR 64 61,vo,Kd,Kk,λ_=>sU 68,λ_=>bI 68,Kc,vo,bu,λ_=>tu #[S "word" 273],vo,λ_=>gX "is_leaf" 7,Kh,Ko,vo,bu,λ_=>tu #[S "knot" 282],vo,λ_=>gX "parts_of" 9,Kl,Kg,vo,bu,λ_=>tu #[S "links" 291,S "place" 292,S "p" 293,S "q" 294],vo,λ_=>gX "partner_of" 11,Ke,Km,vo,bu,λ_=>gX "links_without" 12,Ki,Kf,vo,bu,λ_=>tu #[S "web" 307,S "k" 308,S "cuts" 309,S "knots" 310,S "p" 311,S "q" 312,S "links" 313,S "inner" 314],vo,λ_=>gX "cut_step" 13,Kr,KG,vo,bu,λ_=>tu #[S "web" 321,S "free" 322],vo,λ_=>gX "cut_free" 14,KQ,Kq,vo,bu,λ_=>tu #[S "_law_script" 331,S "_law_k" 332],vo,λ_=>gX "_law_cell_at" 16,Ky,KP,vo,bu,λ_=>tu #[S "_law_script" 339,S "_law_total" 340,S "_law_k" 341,S "_law_cell" 342],vo,λ_=>gX "_law_stir" 17,KL,KA,vo,bu,λ_=>tu #[S "_law_stir_here" 349,S "_law_factor" 350],vo,λ_=>gX "_law_pick" 18,Kt,KH,vo,bu,λ_=>tu #[S "_law_cell" 357,S "_law_k" 358,S "_law_factor" 359],vo,λ_=>gX "_law_mix" 19,KN,Ku,vo,bu,λ_=>gX "_law_name" 20,Kp,KC,vo,bu,λ_=>tu #[S "_law_knots" 372,S "_law_p" 373,S "_law_knot" 374],vo,λ_=>gX "_law_word" 21,KO,Ks,vo,bu,λ_=>tu #[S "_law_word_here" 381,S "_law_sides" 382],vo,λ_=>gX "_law_flip" 22,Kz,KR,vo,bu,λ_=>tu #[S "_law_word_here" 389],vo,λ_=>gX "_law_weight" 23,KI,Kx,vo,bu,λ_=>tu #[S "_law_knots" 396,S "_law_word_here" 397,S "_law_left" 398,S "_law_right" 399,S "_law_turn" 400,S "_law_same" 401,S "_law_low" 402,S "_law_high" 403],vo,λ_=>gX "_law_mirror" 24,Kv,KJ,vo,bu,λ_=>gX "_law_join" 25,KE,Kw,vo,bu,λ_=>tu #[S "_law_knots" 416,S "_law_tree_here" 417,S "_law_one" 418,S "_law_two" 419,S "_law_left" 420,S "_law_right" 421],vo,λ_=>gX "_law_fold" 26,KY,K9,vo,bu,λ_=>gX "_law_cut" 27,La,K8,vo,bu,λ_=>tu #[S "_law_cells" 434,S "_law_seed" 435,S "_law_room" 436,S "_law_knots" 437,S "_law_forest" 438,S "_law_k" 439,S "_law_cell" 440,S "_law_one" 441,S "_law_two" 442,S "_law_deed" 443,S "_law_at" 444],vo,λ_=>gX "_law_tree" 28,KZ,K_,vo,bu,λ_=>tu #[S "_law_rule" 451,S "_law_links" 452,S "_law_cuts" 453,S "_law_arm" 454],vo,λ_=>gX "_law_gather" 29,Le,K3,vo,bu,λ_=>tu #[S "_law_tree_here" 461,S "_law_links" 462,S "_law_cuts" 463],vo,λ_=>gX "_law_web" 30,K6,Ld,vo,bu,λ_=>gX "_law_open" 31,Lh,KU,vo,bu,λ_=>tu #[S "_law_knots" 476,S "_law_seed" 477,S "_law_p" 478,S "_law_knot" 479,S "_law_rank" 480],λ_=>tu #[S "_law_ranks" 481],λ_=>gX "_law_order" 32,Hz,Lj,vo,bu,λ_=>gX "_law_moved" 33,Lc,K1,vo,bu,λ_=>tu #[S "_law_tree_here" 494,S "_law_stir_here" 495,S "_law_number_here" 496,S "_law_gap" 497,S "_law_offset" 498,S "_law_at" 499,S "_law_made" 500,S "_law_k" 501,S "_law_p" 502,S "_law_knot" 503],vo,λ_=>gX "_law_gapped" 34,K7,Lf,vo,bu,λ_=>gX "_law_swapped" 35,Li,KS,vo,bu,λ_=>gX "_law_looped" 36,K2,K',vo,bu,λ_=>tu #[S "_law_web_here" 522,S "_law_stir_here" 523,S "_law_number_here" 524,S "_law_k" 525],vo,λ_=>gX "_law_crossed" 37,Lg,K4,vo,bu,λ_=>tu #[S "_law_x" 532],vo,λ_=>gX "_law_number" 38,K5,Lb,vo,bu,λ_=>tu #[S "_law_found" 539,S "_law_due" 540,S "_law_k" 541],vo,λ_=>gX "_law_alike" 39,Lv,Lp,vo,bu,λ_=>tu #[S "_law_web_here" 548],vo,λ_=>gX "_law_copy" 40,Ll,Lu,vo,bu,λ_=>tu #[S "_law_script" 555,S "_law_stir_here" 556,S "_law_wide" 557,S "_law_room" 558],vo,λ_=>gX "_law_sown" 41,LA,Lm,vo,bu,λ_=>tu #[S "_law_tree_here" 565,S "_law_number_here" 566,S "_law_knots" 567,S "_law_ends" 568,S "_law_p" 569,S "_law_word_here" 570,S "_law_rule" 571,S "_law_q" 572,S "_law_same" 573],vo,λ_=>gX "_law_deep" 42,Ls,LB,vo,bu,λ_=>tu #[S "_law_script" 580,S "_law_stir_here" 581,S "_law_wide" 582,S "_law_tree_here" 583],vo,λ_=>gX "_law_grown" 43,Lw,Lr,vo,bu,λ_=>tu #[S "_law_knots" 590,S "_law_p" 591,S "_law_q" 592,S "_law_across" 593,S "_law_left" 594],vo,λ_=>gX "_law_meet" 44,Lo,Lx,vo,bu,λ_=>tu #[S "_law_web_here" 601,S "_law_knots" 602,S "_law_links" 603,S "_law_cuts" 604,S "_law_across" 605,S "_law_left" 606,S "_law_p" 607,S "_law_q" 608,S "_law_partner" 609,S "_law_walked" 610,S "_law_row" 611,S "_law_x" 612,S "_law_y" 613],vo,λ_=>gX "_law_freed" 45,Ly,Ln,vo,bu,λ_=>tu #[S "_law_script" 620,S "_law_stir_here" 621,S "_law_web_here" 622,S "_law_due" 623,S "_law_handed" 624,S "_law_found" 625,S "_law_caught" 626,S "e" 627,S "_law_part" 628],vo,λ_=>gX "law" 46,Lq,Lz]
def aus:List Ob:=[b0,b1,b2,b3,b4,b5,b6,b7,b8,b9,Gp,vo,bu,Gq,Hx]
def atv:List Ob:=aq3
def UX(P:Params):Vx:=⟨⟨asu.map (· P)⟩,{}⟩
def Gs(P:Params):Vx:=⟨⟨aq3.map (· P)⟩,{}⟩
def UY(P:Params):BT:=bt 20 (aus.map (· P))
def UZ(P:Params):BT:=bt 20 (atv.map (· P))
def sA(w:Vw)(os:OsState):Vu:=⟨UX w.params,#[],{},187,os⟩
def sZ(w:Vw)(os:OsState):Vu:=⟨Gs w.params,#[],{},632,os⟩
def st0(w:Vw)(os:OsState):SharedT:=⟨UY w.params,15,{},#[],{},187,os⟩
def LC(w:Vw)(os:OsState):SharedT:=⟨UZ w.params,315,{},#[],{},632,os⟩
def HA:Vn:=((behindTheImports p).drop 0).take 47
theorem U3(w:Vw):(λos=>topGo treeTable p w 11 an 12 ⟨boot_heap w.params,#[],boot_drawn,boot_toks,os⟩<|topStub p)=λos=>some (sA w os,⟨denote treeTable cE,cE,⟨0,0,0,0⟩,[topFrame q0]⟩):=by kernel_rfl
theorem U4(w:Vw):(λos=>segRun treeTable p w 11 an 1 1 (sA w os)<|blockOf (behindTheImports p) env0 cE ⟨0,0,0,0⟩ [topFrame q0])=λos=>some (.next,(st0 w os).abs,cE,⟨0,0,0,0⟩):=by kernel_rfl
theorem U5:∀w,Pc 2076 st0 LC HA ⟨0,0,0,0⟩ ⟨342,0,361,49⟩ w:=λw=>by kernel_rfl
theorem U6(w:Vw):(λos=>topRun treeTable p w 11 an 2 (LC w os).abs ⟨doneF .next,cE,⟨342,0,361,49⟩,[topFrame q0]⟩)=λos=>some (sZ w os):=by kernel_rfl
theorem U7:HA++([])=behindTheImports p:=by kernel_rfl
theorem U8(w:Vw)(os:OsState):topRun treeTable p w 11 an (12+(1+(2076+(2)))) ⟨boot_heap w.params,#[],boot_drawn,boot_toks,os⟩ (topStub p)=some (sZ w os):=by have h:=(piece_app (l:=HA) (rest:=[]) (segRun_of<|Er (U5 w) os)<|piece_nil (env:=env0)<|Er (U6 w) os);rw[U7] at h;exact go_top (Er (U3 w) os)<|piece_block (Er (U4 w) os) h
def as0:Vk:=[0,1,2,3,4,5,6,7,8,9,10,13,23,24,25,36,37,52,53,55,56,67,68,71,77,78,84,85,91,92,96,97,103,104,110,111,117,118,124,125,131,132,138,139,143,144,150,151,157,158,164,165,171,172,176,177,183,184,188,189,195,196,202,203,209,210,214,215,217,221,222,226,227,233,234,238,239,243,244,250,251,257,258,264,265,271,272,278,279,285,286,292,293,299,300,306,307,313,314]
def vw:Vv:={p with main:={p.main with body:=[top 1,top 2,top 3,top 4,top 6,top 7,top 9,top 11,top 12,top 13,top 14,top 16,top 17,top 18,top 19,top 20,top 21,top 22,top 23,top 24,top 25,top 26,top 27,top 28,top 29,top 30,top 31,top 32,top 33,top 34,top 35,top 36,top 37,top 38,top 39,top 40,top 41,top 42,top 43,top 44,top 45,top 46]}}
def K0:Params->Frag:=λP=>(nat_lit 0,b0 P)::(nat_lit 1,b1 P)::(nat_lit 2,b2 P)::(nat_lit 3,Lk P)::(nat_lit 4,b4 P)::(nat_lit 5,b5 P)::(nat_lit 6,b6 P)::(nat_lit 7,b7 P)::(nat_lit 8,b8 P)::(nat_lit 9,b9 P)::(nat_lit 10,Gp P)::(nat_lit 13,Gq P)::(nat_lit 23,J4 P)::(nat_lit 24,Kj P)::(nat_lit 25,J5 P)::(nat_lit 36,J7 P)::(nat_lit 37,J6 P)::(nat_lit 52,Kb P)::(nat_lit 53,J9 P)::(nat_lit 55,J8 P)::(nat_lit 56,Ka P)::(nat_lit 67,Kd P)::(nat_lit 68,Kk P)::(nat_lit 71,Kc P)::(nat_lit 77,Kh P)::(nat_lit 78,Ko P)::(nat_lit 84,Kl P)::(nat_lit 85,Kg P)::(nat_lit 91,Ke P)::(nat_lit 92,Km P)::(nat_lit 96,Ki P)::(nat_lit 97,Kf P)::(nat_lit 103,Kr P)::(nat_lit 104,KG P)::(nat_lit 110,KQ P)::(nat_lit 111,Kq P)::(nat_lit 117,Ky P)::(nat_lit 118,KP P)::(nat_lit 124,KL P)::(nat_lit 125,KA P)::(nat_lit 131,Kt P)::(nat_lit 132,KH P)::(nat_lit 138,KN P)::(nat_lit 139,Ku P)::(nat_lit 143,Kp P)::(nat_lit 144,KC P)::(nat_lit 150,KO P)::(nat_lit 151,Ks P)::(nat_lit 157,Kz P)::(nat_lit 158,KR P)::(nat_lit 164,KI P)::(nat_lit 165,Kx P)::(nat_lit 171,Kv P)::(nat_lit 172,KJ P)::(nat_lit 176,KE P)::(nat_lit 177,Kw P)::(nat_lit 183,KY P)::(nat_lit 184,K9 P)::(nat_lit 188,La P)::(nat_lit 189,K8 P)::(nat_lit 195,KZ P)::(nat_lit 196,K_ P)::(nat_lit 202,Le P)::(nat_lit 203,K3 P)::(nat_lit 209,K6 P)::(nat_lit 210,Ld P)::(nat_lit 214,Lh P)::(nat_lit 215,KU P)::(nat_lit 217,bu P)::(nat_lit 221,Hz P)::(nat_lit 222,Lj P)::(nat_lit 226,Lc P)::(nat_lit 227,K1 P)::(nat_lit 233,K7 P)::(nat_lit 234,Lf P)::(nat_lit 238,Li P)::(nat_lit 239,KS P)::(nat_lit 243,K2 P)::(nat_lit 244,K' P)::(nat_lit 250,Lg P)::(nat_lit 251,K4 P)::(nat_lit 257,K5 P)::(nat_lit 258,Lb P)::(nat_lit 264,Lv P)::(nat_lit 265,Lp P)::(nat_lit 271,Ll P)::(nat_lit 272,Lu P)::(nat_lit 278,LA P)::(nat_lit 279,Lm P)::(nat_lit 285,Ls P)::(nat_lit 286,LB P)::(nat_lit 292,Lw P)::(nat_lit 293,Lr P)::(nat_lit 299,Lo P)::(nat_lit 300,Lx P)::(nat_lit 306,Ly P)::(nat_lit 307,Ln P)::(nat_lit 313,Lq P)::(nat_lit 314,Lz P)::[]
abbrev lamC:Nat:=221
abbrev lamT:Nat:=217
abbrev lamO:Ob:=Hz
abbrev ls:Vl:=[]
abbrev Xt:Vu->Bool:=λs=>xlAt vw [] s&&recOk (RowW.records rr.row.toRowW) s
theorem U9(w:Vw):((boot_heap w.params).isNs mainGlobals&&(#[]:Array GenState).size==0,(boot_heap w.params).objs.size,(boot_heap w.params).nsMap mainGlobals "__annotations__")=(true,11,an):=by kernel_rfl
theorem U_:opening p=plainProg p.main.scope.names:=by kernel_rfl
theorem Va(s:Vu):fenceModules? p s=some s:=by kernel_rfl
theorem mH(w:Vw):(λos=>(staticsOk (importedModules p.main.body) (boot_heap w.params) (Gs w.params)&&namesBound p (Gs w.params)&&gensDone (sZ w os)&&laidKept (boot_heap w.params) (Gs w.params)))=λ_=>true:=by kernel_rfl
theorem Vb(w:Vw):(λos=>openSeen vw ls (importedModules p.main.body) Xt true<|sZ w os)=λ_=>openGood vw ls:=by kernel_rfl
theorem Vc(w:Vw):(λos=>obsZ as0<|sZ w os)=λ_=>valZ K0 315 632 w:=by kernel_rfl
theorem left_:LeftO p vw ls Xt (obsZ as0) (valZ K0 315 632) 4264:=LeftO.of_pieces (boot_open U_ rfl Va) U9 U8 rfl λw=>funext λos=>looks_pair (Er (mH w) os)<|looks_pair (Er (Vb w) os)<|Er (Vc w) os
end
end H54
open PySem PySem.W PyProof.Rows
set_option maxRecDepth 100000 in
set_option maxHeartbeats 0 in
theorem PySem.Challenge.cw_oncewise_k54_links_walked_through_cuts_holds : PySem.Challenge.rw_oncewise_k54_links_walked_through_cuts.Holds := by
 w_on;refine holds_law (by unfold OpenLaw.wellSaid OpenRow.wellSaid OpenRow.partSaid looksOpen;walk_at "y";walk_at "y";walk_at "y";walk_at "y";walk_at "y";walk_at "y";all_goals decide +kernel) λJ=>?_
 refine holds_openX (q:=H54.vw) (loose:=H54.ls) (Xt:=H54.Xt) (XP:=XL H54.vw []) (Yf:=PySem.W.X.obsZ H54.as0) (Ya:=PySem.W.X.valZ H54.K0 315 632) (N:=4264) H54.left_ (λs e=>xl_of s (Bool.and_eq_true_iff.mp e).1)
  XL.keeps (by rfl) (by rfl) (by rfl) (λs e=>recFacts_of (Bool.and_eq_true_iff.mp e).2)
  (by rfl) (by decide +kernel) (by decide +kernel) ⟨rfl,rfl,rfl,rfl,rfl,by decide +kernel⟩ ?hw ?hc
 case hw=>w_witness2
 k_fill
 refine L2.walk_ofZT (l:=PySem.Challenge.rw_oncewise_k54_links_walked_through_cuts) (n:=63) (k:=175) (x:="_law_script") (CX:=L2.CX0) (sp:=L3.spTopT L3.lamQ) rfl (by decide) rfl ⟨rfl,by decide,by decide⟩ (λ_=>rfl) (by decide) ?F ?S ?C
 case F=>
  intro w r t h g G I;have T:(H54.K0 w.params).lookup H54.lamT=some (PySem.W.tabObj #[]):=by k_is
  have U:(H54.K0 w.params).lookup H54.lamC=some (H54.lamO w.params):=by k_is
  have hd:∀h:Vx,h.get? H54.lamC=some (H54.lamO w.params)->PySem.W.CodeHd h H54.lamC H54.lamT:=λh e=>⟨_,_,_,_,_,_,_,_,_,e,rfl,rfl,rfl,rfl,rfl,rfl,rfl,rfl,by decide⟩;have j:(H54.K0 w.params).lookup 4=some (PySem.W.boot_o_4 w.params):=by k_is
  have o:L3.DefInT (L2.lessK H54.lamT<|H54.K0 w.params) "_law_order" L3.s__law_order H54.lamT:=by
   refine' K54.def_inT (L2.ns_dn T ?a) (L2.lk_dn T ?l ?n) (L2.code_dn T ?c) (L2.keep_dn T ?k) ?LC
   (case a=>k_is);(case l=>k_is);(case n=>(intro e;cases e));(case c=>k_is);(case k=>k_is)
   refine'⟨⟨H54.lamC,_,rfl,L2.lk_dn T U ?m,hd⟩,⟨4,_,L2.ns_dn T ?b,by decide,by decide,L2.lk_dn T j ?p,rfl,rfl,rfl⟩⟩
   (case m=>(intro e;cases e));(case b=>k_is);(case p=>(intro e;cases e))
  refine⟨H54.lamT,⟨T,⟨H54.lamC,λh X=>hd h<|X _ _ U⟩,by decide⟩,?_⟩;refine' K54.all_mk (K:=L2.lessK H54.lamT<|H54.K0 w.params) (L2.lessK_in g) G I ?D ?D22 ?aLEAF_KINDS ?lLEAF_KINDS ?aCNoCut ?aCOnceError ?aCBadWeb ?aCNoTree ?qCNoCut ?xf ?zmax ?zmin ?zsorted ?zlen ?zlist ?zzip ?zenumerate ?zrange ?zisinstance ?ztuple ?zint ?zbool ?zstr
  (case aCNoCut=>(refine' L2.ns_dn T ?_;k_is))
  (case aCOnceError=>(refine' L2.ns_dn T ?_;k_is))
  (case aCBadWeb=>(refine' L2.ns_dn T ?_;k_is))
  (case aCNoTree=>(refine' L2.ns_dn T ?_;k_is))
  (case D=>(constructor<;>(refine' L2.def_in (L2.ns_dn T ?a) (L2.lk_dn T ?l ?n) (L2.code_dn T ?c)<|L2.keep_dn T ?k;(case a=>k_is);(case l=>k_is);(case n=>(intro e;cases e));(case c=>k_is);(case k=>k_is))))
  (case D22=>exact o)
  (case aLEAF_KINDS=>(refine' L2.ns_dn T ?_;k_is))
  (case lLEAF_KINDS=>(refine' L2.lk_dn T ?x ?n;(case x=>k_is);(case n=>(intro e;cases e))))
  (case qCNoCut=>(refine' L2.exc_dn T ?_;k_exc))
  (case xf=>(refine' L3.XF54.dn T ?_;(refine' L3.XF54.mk ?hd ?em ?on ?o1;(case hd=>(refine' L3.xhd_of ?ga ?gt ?cl ?ge ?tk ?mo ?be ?h;(case ga=>k_is);(case gt=>k_is);(case cl=>k_is);(case ge=>k_is);(case tk=>k_is);(case mo=>k_is);(case be=>k_is);(case h=>k_is)));(case em=>(refine' L3.exm_own ?h0 ?h1 ?h2 ?h3;(case h0=>k_is);(case h1=>k_is);(case h2=>k_is);(case h3=>k_is)));(case on=>exact L3.kit_self);(case o1=>(refine' L3.kitAny_no ?z ?_;(case z=>(refine' L3.kit_own ?a ?b ?c ?d;(case a=>rfl);(case b=>k_is);(case c=>k_is);(case d=>k_is)));refine' L3.kitAny_no ?z ?_;(case z=>(refine' L3.kit_own ?a ?b ?c ?d;(case a=>rfl);(case b=>k_is);(case c=>k_is);(case d=>k_is)));exact rfl)))))
  (case zmax|zmin|zsorted|zlen|zlist|zzip|zenumerate|zrange|zisinstance|ztuple|zint|zbool|zstr=>(refine' L2.ns_dn T ?_;k_is))
 case S=>exact L3.top_startT
 case C=>exactλ_ _ _ _ z=>z
#print axioms PySem.Challenge.cw_oncewise_k54_links_walked_through_cuts_holds
