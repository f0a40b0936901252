import PyProof.Rows.All
import Wide.All
import OpenK.AllK
import Wide.FinOn
import Lean
import PyProof.EqAt
import PyProof.EqKinds
import PyProof.TupleCall
import PyProof.NeKinds
import PySem.Challenge.RW_oncewise_k15_written_and_read
import OpenK.ZGo
set_option genSizeOf false
set_option bootstrap.genMatcherCode false
set_option compiler.extract_closed false
set_option hygiene false
local macro_rules|`(tactic| walk_at "t")=>`(tactic| (first|assumption|exact Nat.succ_pos _|exact z0.tk (by assumption)|exact Nat.lt_of_lt_of_le (z0.tk (by assumption)) (Nat.le_add_right _ _)|exact Nat.lt_of_lt_of_le (z0.tk (by assumption)) (by assumption)))
set_option hygiene true
local macro_rules|`(tactic| walk_at "w")=>`(tactic| conv=>whnf)
local macro_rules|`(tactic| walk_at "y")=>`(tactic| ((refine PySem.W.look_both ?_ ?_);(refine PySem.W.look_both ?_ ?_);(refine PySem.W.look_both ?_ ?_);(refine PySem.W.look_both ?_ ?_);(refine PySem.W.look_both ?_ ?_);(refine PySem.W.look_both ?_ ?_)))
set_option Elab.async false
set_option linter.all false
set_option maxRecDepth 100000
abbrev Aa:=@PySem.wpAny_bind
abbrev Ab:=@List.length_map
abbrev Ac:=@List.length_append
abbrev Ad:=@PyProof.Rows.wpS_bind
abbrev Ae:=@PyProof.Rows.wpS_pure
abbrev Af:=@List.mem_cons_of_mem
abbrev Ag:=@List.getElem?_eq_getElem
abbrev Ah:=@PySem.W.Frag
abbrev Ai:=@List.getElem?_map
abbrev Aj:=@PySem.wpAny_pure
abbrev Ak:=@Nat.le_refl
abbrev Al:=@List.mem_append_right
abbrev Am:=@Option.map_eq_some_iff
abbrev An:=@List.mem_append
abbrev Ao:=@List.mem_cons_self
abbrev Ap:=@List.mem_cons
abbrev Aq:=@List.append_assoc
abbrev Ar:=@decide_eq_false
abbrev As:=@List.size_toArray
abbrev Au:=@List.length_cons
abbrev Av:=@List.mem_singleton
abbrev Aw:=@List.map_append
abbrev Ax:=@decide_eq_true
abbrev Ay:=@List.mem_append_left
abbrev Az:=@List.nodup_append
abbrev AA:=@if_neg
abbrev AB:=@List.mem_of_getElem?
abbrev AC:=@List.getElem?_append_left
abbrev AD:=@List.map_cons
abbrev AE:=@Nat.le_trans
abbrev AF:=@if_pos
abbrev AG:=@List.append_nil
abbrev AH:=@List.nodup_cons
abbrev AI:=@List.getElem?_append_right
abbrev AJ:=@List.length_take
abbrev AK:=@PyProof.Rows.wpS_forRange
abbrev AL:=@Bool.false_ne_true
abbrev AM:=@List.getElem?_eq_some_iff
abbrev AN:=@Ne.symm
abbrev AO:=@List.flatMap_append
abbrev AQ:=@Nat.lt_of_lt_of_le
abbrev AR:=@List.mem_filter
abbrev AS:=@List.length_replicate
abbrev AU:=@List.pairwise_append
abbrev AV:=@PyProof.Rows.wpS_mono
abbrev AW:=@Nat.lt_of_le_of_lt
abbrev AX:=@List.take_length
abbrev AY:=@List.take_of_length_le
abbrev AZ:=@List.take_succ
abbrev A1:=@List.take_append_drop
abbrev A2:=@List.mem_range
abbrev A3:=@Nat.zero_le
abbrev A4:=@PySem.wpAny_mono
abbrev A5:=@Array.length_toList
abbrev A6:=@Int.natCast_nonneg
abbrev A7:=@Array.getElem?_toList
abbrev A8:=@Array.toList_append
abbrev A9:=@Nat.ne_of_lt
abbrev Ba:=@Bool.and_eq_true
abbrev Bb:=@Option.some.inj
abbrev Bc:=@PySem.W.mg_none_of
abbrev Bd:=@Nat.le_add_right
abbrev Be:=@List.perm_ext_iff_of_nodup
abbrev Bf:=@PySem.wpAny_field
abbrev Bg:=@List.flatMap_cons
abbrev Bh:=@List.not_mem_nil
abbrev Bi:=@PySem.wpAny_holding
abbrev Bj:=@List.mem_map
abbrev Bk:=@List.perm_append_comm
abbrev Bl:=@Array.size_push
abbrev Bm:=@List.getD_eq_getElem?_getD
abbrev Bn:=@PySem.wpAny_newObj_type
abbrev Bo:=@Nat.add_sub_cancel_left
abbrev Bp:=@Nat.le_of_lt
abbrev Bq:=@List.getElem?_set_ne
abbrev Br:=@PySem.W.kia_one
abbrev Bs:=@congrArg
abbrev Bt:=@PySem.wpAny_rule
abbrev Bu:=@List.lookup_cons
abbrev Bv:=@List.perm_append_right_iff
abbrev Bw:=@List.mem_flatMap
abbrev Bx:=@List.getElem_take
abbrev Bz:=@List.mem_of_mem_take
abbrev BA:=@List.perm_append_left_iff
abbrev BB:=@List.filter_append
abbrev BC:=@Nat.min_eq_left
abbrev BD:=@List.length_drop
abbrev BE:=@Nat.lt_succ_self
abbrev BF:=@PySem.mem_of_lookup
abbrev BG:=@List.getElem_of_mem
abbrev BH:=@List.map_map
abbrev BI:=@PySem.wpAny_seqItems
abbrev BJ:=@List.mem_erase_of_ne
abbrev BK:=@List.find?_cons
abbrev BL:=@Int.le_of_lt
abbrev BM:=@List.eq_nil_of_length_eq_zero
abbrev BN:=@List.pairwise_map
abbrev BO:=@Int.le_trans
abbrev BP:=@PySem.W.mg_of
abbrev BQ:=@Array.size_append
abbrev BR:=@List.length_nil
abbrev BS:=@List.drop_eq_getElem_cons
abbrev BU:=@List.length_singleton
abbrev BV:=@List.all_eq_true
abbrev BW:=@List.nodup_nil
abbrev BX:=@Nat.exists_eq_add_of_le
abbrev BY:=@PySem.W.kia_tup
abbrev BZ:=@List.nil_append
abbrev B3:=@Nat.succ_pos
abbrev B4:=@List.getElem?_set_self
abbrev B5:=@PyProof.Rows.callWith_type1
abbrev B6:=@List.length_take_of_le
abbrev B7:=@List.perm_middle
abbrev B8:=@Bool.false_eq_true
abbrev B9:=@List.perm_append_singleton
abbrev Ca:=@List.append_of_mem
abbrev Cb:=@List.getElem?_eq_none
abbrev Cc:=@Bool.eq_iff_iff
abbrev Cd:=@List.length_set
abbrev Ce:=@List.forIn_cons
abbrev Cf:=@PySem.W.look_both
abbrev Cg:=@Int.toNat_natCast
abbrev Ci:=@List.length_range
abbrev Cj:=@List.mem_of_mem_drop
abbrev Ck:=@Nat.lt_or_ge
abbrev Cm:=@Nat.lt_succ_of_lt
abbrev Cn:=@List.any_cons
abbrev Co:=@Int.ofNat_inj
abbrev Cp:=@PyProof.Rows.slot_tuple_getitem
abbrev Cq:=@List.getElem?_replicate
abbrev Cr:=@List.eraseIdx_cons_succ
abbrev Cs:=@Nat.min_eq_right
abbrev Ct:=@List.getElem_mem
abbrev Cu:=@Nat.max_eq_right
abbrev Cv:=@List.Perm.refl
abbrev Cw:=@Int.mul_le_mul_of_nonneg_right
abbrev Cy:=@List.filter_cons
abbrev Cz:=@List.nodup_range
abbrev CA:=@List.map_nil
abbrev CB:=@Nat.sub_self
abbrev CC:=@Nat.zero_add
abbrev CD:=@Nat.max_eq_left
abbrev CF:=@Nat.not_lt_zero
abbrev CG:=@PySem.W.kitx_list
abbrev CH:=@Array.toList_push
abbrev CI:=@Nat.le_succ
abbrev CK:=@Array.toList_reverse
abbrev CL:=@Nat.le_sub_one_of_lt
abbrev CM:=@List.replicate_succ'
abbrev CN:=@Nat.ne_of_gt
abbrev CO:=@Nat.add_comm
abbrev CP:=@List.range'_succ
abbrev CQ:=@Array.toList_inj
abbrev CS:=@List.pairwise_iff_getElem
abbrev CT:=@List.filterMap_cons
abbrev CU:=@List.reverse_append
abbrev CV:=@List.mem_map_of_mem
abbrev CW:=@List.length_pos_iff
abbrev CY:=@List.perm_iff_count
abbrev CZ:=@Nat.lt_irrefl
abbrev C0:=@Nat.le_add_left
abbrev C1:=@List.filter_nil
abbrev C2:=@Int.emod_nonneg
abbrev C3:=@List.getElem?_drop
abbrev C4:=@Array.size_extract
abbrev C5:=@Int.emod_lt_of_pos
abbrev C6:=@List.getElem?_cons_succ
abbrev C7:=@List.length_eraseIdx_le
abbrev C8:=@Int.le_refl
abbrev C9:=@Nat.lt_add_of_pos_right
abbrev Dc:=@Nat.lt_trans
abbrev De:=@Nat.le_succ_of_le
abbrev Df:=@List.drop_zero
abbrev Dg:=@List.getElem_cons_drop
abbrev Dh:=@List.mem_range'_1
abbrev Di:=@List.Perm.append_right
abbrev Dj:=@List.count_append
abbrev Dk:=@List.eraseIdxIfInBounds_toArray
abbrev Dl:=@Nat.le_of_ble_eq_true
abbrev Dm:=@List.singleton_append
abbrev Dn:=@List.length_filter_le
abbrev Do:=@List.Perm.append_left
abbrev Dp:=@List.flatMap_nil
abbrev Dq:=@Nat.add_assoc
abbrev Dr:=@List.sum_cons
abbrev Ds:=@List.take_append_of_le_length
abbrev Dt:=@List.getElem?_of_mem
abbrev Du:=@List.of_mem_zip
abbrev Dv:=@List.length_zip
abbrev Dw:=@List.sum_append
abbrev Dx:=@List.length_reverse
abbrev Dy:=@List.map_congr_left
abbrev Dz:=@PySem.W.kitx_tuple
abbrev DA:=@Bool.and_false
abbrev DB:=@PyProof.Rows.LSm.kept_iter
abbrev DC:=@List.take_zero
abbrev DE:=@Nat.lt_or_eq_of_le
abbrev DF:=@List.zip_cons_cons
abbrev DG:=@decide_eq_true_iff
abbrev DH:=@PySem.F.slot_dict_getitem
abbrev DI:=@PySem.W.kitx_dict
abbrev DJ:=@List.take_sublist
abbrev DK:=@List.getElem_drop
abbrev DL:=@List.reverse_perm
abbrev DM:=@List.nodup_range'
abbrev DN:=@Bool.not_eq_true'
abbrev DO:=@List.set_comm
abbrev DP:=@List.getElem?_take_of_lt
abbrev DQ:=@List.all_cons
abbrev DR:=@List.getElem_append_left
abbrev DS:=@List.Pairwise.imp_of_mem
abbrev DU:=@List.Perm.eq_of_pairwise
abbrev DV:=@List.map_drop
abbrev DW:=@PySem.F.plainAttrs_list
abbrev DX:=@List.zipIdx_cons
abbrev DY:=@List.length_eq_zero_iff
abbrev DZ:=@List.getElem?_set_self'
abbrev Eb:=@List.filter_cons_of_neg
abbrev Ec:=@List.filter_cons_of_pos
abbrev Ed:=@congrFun
abbrev Ee:=@PySem.W.cellsFrom_some
abbrev Ef:=@Nat.not_lt
abbrev Eg:=@List.drop_of_length_le
abbrev Eh:=@Nat.sub_zero
abbrev Ei:=@List.drop_eq_nil_of_le
abbrev Ej:=@Int.ofNat_lt
abbrev Ek:=@Bool.or_eq_true
abbrev El:=@List.foldl_cons
abbrev Em:=@List.Perm.of_eq
abbrev Eo:=@beq_false_of_ne
abbrev Ep:=@List.forIn_nil
abbrev Er:=@List.cons.inj
abbrev Es:=@List.map_take
abbrev Et:=@Prod.ext
abbrev vc:=@PySem.Heap.get?_push_of_some
abbrev wh:=@PySem.Heap.lt_size
abbrev wn:=@PySem.Heap.get?_push_size
abbrev xT:=@PySem.PassesOwn.never
abbrev ya:=@PySem.Heap.SameBut.update
abbrev yp:=@PySem.Calls.spliced_cons
abbrev At:=@PySem.F.slot_tuple_iterator_next
abbrev Db:=@PySem.MeetsSeq.plain_remove_loop
abbrev Dd:=@PySem.W.look_both
abbrev DT:=@PySem.Calls.spliced_nil
abbrev En:=@PySem.Heap.size_push
abbrev Ev:=@PySem.Heap.get?_update_self
abbrev EQ:=@PySem.F.slot_zip_next
abbrev EZ:=@PySem.F.args_str_split_2
abbrev E5:=@Sum.inr.inj
abbrev XT:=PySem.Value->PySem.Shared->Prop
abbrev XU:=Unit->PySem.Shared->Prop
abbrev XW:=PySem.Str->Option PySem.Value
abbrev XX:=List<|Nat×Nat
abbrev XY:=List (Nat×Nat)
abbrev XZ:=List PySem.Value
abbrev X0:=Array PySem.Value
abbrev X2:=List Nat
abbrev X4:=List PySem.Str
abbrev X5:=List PySem.Expr
abbrev X6:=List PySem.Stmt
abbrev X7:=List Int
abbrev X8:=Option PySem.Value
abbrev X9:=Option Int
abbrev X_:=Nat->Nat
abbrev Yb:=Nat×Nat
abbrev Yc:=PySem.Value
abbrev Yd:=PySem.Shared
abbrev Ye:=PySem.Program
abbrev Yg:=PySem.World
abbrev Yh:=PySem.Heap
abbrev Yi:=String
noncomputable section
namespace L2
open PySem PyProof.Rows
def jH{M:Model}{U:Ctx}{p:Pos}{t:Sem Fin}{fs:List Frame}{s s':Yd}{e:End}(h:Runs M U p t fs s e s'):s.toks<=s'.toks:=by induction h with|fresh _ g=>exact AE (CI _) g|call _ _ I J=>exact AE I J|resumeFresh _ _ _ _ I J=>exact AE I J|resumeSuspended _ _ _ _ I J=>exact AE I J|segRet _ _ I J=>exact AE I J|segGen _ _ I J=>exact AE I J|segSuspGen _ _ _ _ I J=>exact AE I J|_=>first|exact Ak _|assumption
def yW{M:Model}{J:Ctx}{p:Pos}{g:Nat}{r:Resume}{s s':Yd}{res:GenResult}(h:Wakes M J p g r s res s'):s.toks<=s'.toks:=by
 unfold Wakes at h;split at h
 ·exact h.elim
 ·split at h
  ·obtain⟨e,U,I,_,_,rfl⟩:=h;have q:=jH I;exact q
  ·obtain⟨_,rfl⟩:=h;exact Ak _
  ·obtain⟨_,rfl⟩:=h;exact Ak _
 ·obtain⟨e,U,I,_,_,rfl⟩:=h;have q:=jH I;exact q
 ·obtain⟨_,rfl⟩:=h;exact Ak _
 ·obtain⟨_,rfl⟩:=h;exact Ak _
def Nw{α:Type}{M:Model}{T:Ctx}(t:Sem α):∀{Q:α->Pos->Yd->Prop} {E:Yc->Pos->Yd->Prop} {p:Pos} {s:Yd} (n:Nat),n<=s.toks->Sem.wp M T t Q E p s->Sem.wp M T t (λa C s'=>Q a C s'/\n<=s'.toks) (λe C s'=>E e C s'/\n<=s'.toks) p s:=by induction t with|pure a=>intro Q E p s n I h;exact⟨h,I⟩|raise e=>intro Q E p s n I h;exact⟨h,I⟩|load a part k J=>intro Q E p s n I ⟨o,U,j⟩;exact⟨o,U,J o n I j⟩|update a part f k J=>intro Q E p s n I ⟨U,j⟩;exact⟨U,J () n I j⟩|fresh k J=>intro Q E p s n I h;exact J s.toks n (AE I<|CI _) h|choose a0 m k J=>intro Q E p s n I ⟨U,j⟩;exact⟨U,J _ n I j⟩|call c hd g l k J=>intro Q E p s n I ⟨r,s',U,j⟩;exact⟨r,s',U,J r n (AE I<|jH U) j⟩|genState g k J=>intro Q E p s n I ⟨st,U,j⟩;exact⟨st,U,J _ n I j⟩|resume g r l k J=>intro Q E p s n I ⟨res,s',U,j⟩;exact⟨res,s',U,J _ n (AE I<|yW U) j⟩|rule tag k J=>intro Q E p s n I h;exact J () n I h|«at» pos k J=>intro Q E p s n I h;exact J () n I h|alloc o k J=>intro Q E p s n I h;exact J _ n I h|loadIfAlive a k J=>intro Q E p s n I h;exact J _ n I h|point l k J=>intro Q E p s n I h;exact J _ n I h|ask k J=>intro Q E p s n I h;exact J _ n I h|os q l k J=>intro Q E p s n I h;exact J _ n I h|handled own k J=>intro Q E p s n I h;exact J _ n I h|newGen c k J=>intro Q E p s n I h;exact J _ n I h|stack k J=>intro Q E p s n I h;exact J _ n I h|thread k J=>intro Q E p s n I h;exact J _ n I h|unsupported w=>intro Q E p s n I h;exact h.elim|finish e=>intro Q E p s n I h;exact h.elim|register a k J=>intro Q E p s n I h;exact h.elim|yield v g l k J=>intro Q E p s n I h;exact h.elim|fork c k J=>intro Q E p s n I h;exact h.elim|await a f d l k J=>intro Q E p s n I h;exact h.elim
def yY{α:Type}{M:Model}{A:Around}{t:Sem α}{Q:α->Yd->Prop}{E:XT}{s:Yd}(h:wpAny M A t Q E s):wpAny M A t (λa s'=>Q a s'/\s.toks<=s'.toks) (λe s'=>E e s'/\s.toks<=s'.toks) s:=
 λJ p I=>Nw t s.toks (Ak _)<|h J p I
def j4{α:Type}{M:Model}{A:Around}{t:Sem α}{Q:α->Yd->Prop}{E:XT}{s:Yd}(I:0<s.toks)(h:wpAny M A t (λa s'=>0<s'.toks->Q a s') (λe s'=>0<s'.toks->E e s') s):wpAny M A t Q E s:=
 A4 (yY h) (λ_ _ z=>z.1<|AQ I z.2) λ_ _ z=>z.1<|AQ I z.2
end L2
variable {M:PySem.Model}{apos fm u3 p p1 p2 p3 p4 p5 pos fy py tp:PySem.Pos}{t t1 t2:Bool}{s s':PySem.Shared}{c e nC o target tg value:PySem.Expr}{α β κ:Type}{A:PySem.Around}{E Q:PySem.Value->PySem.Shared->Prop}{eH us vs:List PySem.Value}{eW hQ oc pm u:PySem.Value}{base h h':PySem.Heap}{d i j kt m na t' x1:Nat}{ch fp:List PySem.Addr}{C Pt c' dx f fa it ka l1 l2 pa pb:PySem.Addr}{kx name px q eK x:PySem.Str}{pins:List<|PySem.Addr×PySem.Obj}{st:PySem.Stmt}{ml es mv:List PySem.Expr}{body:List PySem.Stmt}{ct l lk:XX}{lo:Int}{mA mg:PySem.Str->Option PySem.Value}{fd:PySem.FuncData}{ps:List PySem.Str}{fx scope:PySem.Scope}{an od:Option PySem.Addr}{pR:Array<|Option PySem.Value}{prog:PySem.Program}{env:PySem.Env}{rks:X7}{qs:X2}{rows:List<|List<|X2}
namespace L2
open PySem PySem.Spec PyProof.Rows
abbrev ja:=Sum Int Str
abbrev Yl:=List ja
def o4:ja->Yc->Bool
 |.inl k,v=>Value.isInt k v
 |.inr x,v=>Value.isStrOf x v
def Nx(w:Yg):ja->Int
 |.inl k=>hashInt k
 |.inr x=>hashStr w x
theorem xt:∀{k:ja} {v:Yc},o4 k v=true->(∃i t,k=Sum.inl i/\v=Value.int i t)\/(∃x t,k=Sum.inr x/\v=Value.str x t)
 |.inl i,v,h=>by obtain⟨t,e⟩:=Value.isInt_shape (k:=i) (v:=v) h;exact .inl ⟨i,t,rfl,e⟩
 |.inr x,v,h=>by obtain⟨t,e⟩:=Value.isStrOf_shape (x:=x) (v:=v) h;exact .inr ⟨x,t,rfl,e⟩
def Ny(i:Int)(t:Tok):o4 (.inl i) (.int i t)=true:=by simp[o4,Value.isInt]
def kB(x:Str)(t:Tok):o4 (.inr x) (.str x t)=true:=by simp[o4,Value.isStrOf]
def Nz(a b:Int):decide ((Sum.inl a:ja)=Sum.inl b)=(a==b):=by
 by_cases e:a=b
 ·subst e;simp
 ·have h:¬(Sum.inl a:ja)=Sum.inl b:=λq=>e<|Sum.inl.inj q;rw[Ar h];exact(beq_eq_false_iff_ne.mpr e).symm
def NA(a b:Str):decide ((Sum.inr a:ja)=Sum.inr b)=decide (a=b):=by
 by_cases e:a=b
 ·subst e;simp
 ·have h:¬(Sum.inr a:ja)=Sum.inr b:=λq=>e<|E5 q;rw[Ar h,Ar e]
def NB(a:Int)(b:Str):decide ((Sum.inl a:ja)=Sum.inr b)=false:=Ar λq=>nomatch q
def NC(a:Str)(b:Int):decide ((Sum.inr a:ja)=Sum.inl b)=false:=Ar λq=>nomatch q
def xx(prog:Ye)(w:Yg):PySem.KeyKind prog w ja where
 is:=o4
 hash:=Nx w
 inj:=λv a b g U=>by
  rcases xt g with⟨i,t,rfl,rfl⟩|⟨x,t,rfl,rfl⟩
  ·rcases xt U with⟨j,u,rfl,e⟩|⟨y,u,rfl,e⟩
   ·injection e with I _;rw[I]
   ·exact nomatch e
  ·rcases xt U with⟨j,u,rfl,e⟩|⟨y,u,rfl,e⟩
   ·exact nomatch e
   ·injection e with I _;rw[I]
 byValue:=λk v h=>by rcases xt h with⟨i,t,rfl,rfl⟩|⟨x,t,rfl,rfl⟩<;>rfl
 pyHash:=λJ h=>by
  rcases xt J with⟨i,t,rfl,rfl⟩|⟨x,t,rfl,rfl⟩
  ·exact wpAny_pyHash_int h
  ·exact wpAny_pyHash_str h
 eqBool:=λl J h=>by
  rcases xt l with⟨i,t,rfl,rfl⟩|⟨x,t,rfl,rfl⟩
  ·rcases xt J with⟨j,u,rfl,rfl⟩|⟨y,u,rfl,rfl⟩
   ·rw[Nz] at h;exact wpAny_eqBool_int h
   ·rw[NB] at h;exact SeqAt.EqAt.int_str i t y u _ _ _ _ h
  ·rcases xt J with⟨j,u,rfl,rfl⟩|⟨y,u,rfl,rfl⟩
   ·rw[NC] at h;exact SeqAt.EqAt.str_int x t j u _ _ _ _ h
   ·rw[NA] at h;exact wpAny_eqBool_str h
 «strs» := λk x t v h=>by
  rcases xt h with⟨i,u,rfl,e⟩|⟨y,u,rfl,e⟩
  ·exact nomatch e
  ·injection e with I _
   subst I;cases v<;>rfl
def wA(prog:Ye)(w:Yg)(i:Int)(t:Tok):(xx prog w).is (.inl i) (.int i t)=true:=Ny i t
def vD(prog:Ye)(w:Yg)(x:Str)(t:Tok):(xx prog w).is (.inr x) (.str x t)=true:=kB x t
inductive V where
 |non|bl (b:Bool)|int (i:Int)|str (x:Str)|byt (b:Array UInt8)|flt (b:UInt64)|ref (a:Addr)|ty (n:Yi)
 deriving DecidableEq
abbrev Yk:=Option V
abbrev Yj:=List V
def zm:V->Yc->Prop
 |.non,u=>u=Value.none
 |.bl b,u=>u=Value.bool b
 |.int i,u=>∃t,u=Value.int i t
 |.str x,u=>∃t,u=Value.str x t
 |.byt b,u=>∃t,u=Value.bytes b t
 |.flt b,u=>∃t,u=Value.float b t
 |.ref a,u=>u=Value.ref a
 |.ty n,u=>u=Value.type n
abbrev zk:Yj->XZ->Prop:=Paired zm
theorem zk.length{xs:Yj}(r:zk xs us):xs.length=us.length:=Paired.length r
theorem zk.get:∀{xs:Yj} {us:XZ} {i:Nat} {x:V},zk xs us->xs[i]?=some x->∃u,us[i]?=some u/\zm x u
 |_,_,_,_,.nil,e=>by simp at e
 |_,_,0,_,.cons r _,e=>by simp at e;subst e;exact⟨_,rfl,r⟩
 |_,_,i+1,x,.cons _ t,e=>by obtain⟨u,I,J⟩:=zk.get (i:=i) (x:=x) t (by simpa using e);exact⟨u,by simpa using I,J⟩
theorem zk.set{x:V}{u:Yc}(r:zm x u):∀{xs:Yj} {us:XZ} (i:Nat),zk xs us->zk (xs.set i x) (us.set i u)
 |_,_,_,.nil=>.nil
 |_,_,0,.cons _ t=>.cons r t
 |_,_,i+1,.cons q t=>.cons q<|zk.set r i t
def zk.append:∀{xs ys:Yj} {us ws:XZ},zk xs us->zk ys ws->zk (xs++ys) (us++ws):=by
 intro xs ys us ws h s
 induction h with|nil=>exact s|cons r t I=>exact .cons r I
theorem zk.take:∀{xs:Yj} {us:XZ} (n:Nat),zk xs us->zk (xs.take n) (us.take n)
 |_,_,0,_=>.nil
 |_,_,_+1,.nil=>.nil
 |_,_,n+1,.cons r t=>.cons r<|zk.take n t
theorem zk.drop:∀{xs:Yj} {us:XZ} (n:Nat),zk xs us->zk (xs.drop n) (us.drop n)
 |_,_,0,r=>r
 |_,_,_+1,.nil=>.nil
 |_,_,n+1,.cons _ t=>zk.drop n t
def jQ:Yk->X8->Prop
 |some v,some u=>zm v u
 |none,none=>True
 |_,_=>False
def KV :List (κ×V)->List (κ×Yc)->Prop:=Paired λ(p:κ×V) (q:κ×Yc)=>p.1=q.1/\zm p.2 q.2
def kV:ja->V
 |.inl i=>.int i
 |.inr x=>.str x
inductive HO where
 |lst (xs:Yj)
 |tup (xs:Yj)
 |dK (kvs:List<|ja×V)|dT (kvs:List<|Yl×V)
 |set (S:Int->Bool) (n:Nat)
 |ins (C dx:Addr) (fs:List<|Str×V)
 |own (x:Addr)
 |xd (fs:List<|Str×V)
 |met (f x:Addr)
 |rng (lo hi:Int)
 |frz (o:Obj) (u:HO)
 |tbl (ps:X0)
 |ext (φ:Yh->Prop)
abbrev Hp:=Addr->Option HO
def upd(H:Hp)(a:Addr)(o:HO):Hp:=λb=>if b=a then some o else H b
def j6{H:Hp}{a:Addr}{o:HO}:upd H a o a=some o:=by unfold upd;rw[AF rfl]
def qu{H:Hp}{a b:Addr}{o:HO}(h:b≠a):upd H a o b=H b:=by unfold upd;rw[AA h]
def ND{H:Hp}{a:Addr}{o u:HO}:upd (upd H a o) a u=upd H a u:=by funext b;unfold upd;split<;>rfl
def NE{H:Hp}{a b:Addr}{o u:HO}(h:H a=some o)(h':H b=some u)(d:o≠u):a≠b:=by intro e;subst e;rw[h] at h';exact d<|Bb h'
def zw{H:Hp}{a b:Addr}{o:HO}(h:H a=some o)(h':H b=none):a≠b:=by intro e;subst e;rw[h] at h';cases h'
section
variable (P:Ye)(w:Yg)
def xn(H:Hp)(h:Yh)(a:Addr):HO->Prop
 |.lst xs=>xs.length<=sizeLine/\∃(eH:XZ) (n:Nat),zk xs eH/\h.get? a=some {cls:=.type "list",data:=.seq eH.toArray n}
 |.tup xs=>xs.length<=sizeLine/\∃eH:XZ,zk xs eH/\IsTup h a eH.toArray
 |.dK kvs=>kvs.length<=sizeLine/\(a==sysModules)=false/\∃vs,KV kvs vs/\h.DictOf (xx P w) a vs
 |.dT kvs=>kvs.length<=sizeLine/\(a==sysModules)=false/\∃xs:List (Yl×Addr×Yc),
  Paired (λ(p:Yl×V) (q:Yl×Addr×Yc)=>p.1=q.1/\H q.2.1=some (.tup<|p.1.map kV)/\zm p.2 q.2.2) kvs xs/\
  ∃o es J,h.get? a=some o/\o.ExactDict/\o.data=.dict es J/\es.toList=xs.map (entryOfKey<|tupleKind<|xx P w)/\(xs.map (·.1)).Nodup
 |.set S n=>h.SetOf (intKind P w) a S n
 |.ins C dx fs=>H dx=some (.own a)/\fs.length<=1000/\dx≠a/\h.get? a=some (PySem.W.instObj C dx)/\
  ∃mA,h.Ns1 dx mA/\(∀f,jQ (fs.lookup f)<|mA f)/\PySem.Within mA (fs.map (·.1))
 |.own _=>∃o,h.get? a=some o
 |.xd fs=>∃mA,h.Ns1 a mA/\∀f,jQ (fs.lookup f)<|mA f
 |.rng lo hi=>∃t u v,h.get? a=some {cls:=.type "range",data:=.fields #[.int lo t,.int hi u,.int 1 v]}
 |.frz o u=>h.get? a=some o/\xn H h a u
 |.tbl ps=>h.get? a=some {cls:=.none,data:=.fields ps}
 |.met f x=>h.get? a=some (PySem.W.methodObj (.ref f)<|.ref x)
 |.ext I=>I h/\(∃o,h.get? a=some o)/\∀h1 h2:Yh,I h1->(∀o,h1.get? a=some o->h2.get? a=some o)->I h2
def fh(H:Hp)(h:Yh):Prop:=∀a o,H a=some o->xn P w H h a o
end
section
variable {P:Ye}{w:Yg}{H H':Hp}{a:Addr}{o:HO}
theorem xn.lt(x:xn P w H h a o):a<h.objs.size:=by
 cases o with
 |lst J=>obtain⟨_,_,_,_,e⟩:=x;exact wh e
 |tup J=>obtain⟨_,_,_,p⟩:=x;exact p.lt
 |dK I=>obtain⟨_,_,_,_,o,_,_,e,_⟩:=x;exact wh e
 |dT I=>obtain⟨_,_,_,_,o,_,_,e,_⟩:=x;exact wh e
 |set S n=>obtain⟨o,_,_,_,e,_⟩:=x;exact wh e
 |ins C U fs=>obtain⟨_,_,_,e,_⟩:=x;exact wh e
 |own y=>obtain⟨_,e⟩:=x;exact wh e
 |xd fs=>obtain⟨_,⟨_,_,_,e,_⟩,_⟩:=x;exact wh e
 |rng lo g=>obtain⟨_,_,_,e⟩:=x;exact wh e
 |frz ob u=>obtain⟨e,_⟩:=x;exact wh e
 |tbl j=>exact wh<|show h.get? a=some _ from x
 |met f y=>exact wh<|show h.get? a=some _ from x
 |ext l=>obtain⟨_,⟨_,e⟩,_⟩:=x;exact wh e
def Paired.mapP{F G:α->β->Prop}:∀{l₁:List α} {l₂:List β},Paired F l₁ l₂->(∀a b,F a b->G a b)->Paired G l₁ l₂:=by
 intro l₁ l₂ h f
 induction h with|nil=>exact .nil|cons r t I=>exact .cons (f _ _ r) I
abbrev EE:=@Paired.mapP
def xn.stay(x:xn P w H h a o)(k:∀b u,(b=a\/H b=some (.own a))->h.get? b=some u->h'.get? b=some u)
 (ho:∀b,H b=some (.own a)->H' b=some (.own a)) (ht:∀b xs,H b=some (.tup xs)->H' b=some (.tup xs)):xn P w H' h' a o:=by
 induction o with
 |lst xs=>obtain⟨z,U,n,r,e⟩:=x;exact⟨z,U,n,r,k _ _ (.inl rfl) e⟩
 |tup xs=>obtain⟨z,U,r,ob,e,c⟩:=x;exact⟨z,U,r,ob,k _ _ (.inl rfl) e,c⟩
 |dK g=>obtain⟨z,y,vs,r,ob,I,J,e,c⟩:=x;exact⟨z,y,vs,r,ob,I,J,k _ _ (.inl rfl) e,c⟩
 |dT g=>
  obtain⟨z,y,xs,r,ob,I,J,e,c⟩:=x;exact⟨z,y,xs,EE r λp q z=>⟨z.1,ht _ _ z.2.1,z.2.2⟩,ob,I,J,k _ _ (.inl rfl) e,c⟩
 |set S n=>obtain⟨ob,I,J,t,e,c⟩:=x;exact⟨ob,I,J,t,k _ _ (.inl rfl) e,c⟩
 |ins C dx fs=>
  obtain⟨d,z,ne,e,j,⟨l,I,J,e2,c⟩,r⟩:=x;exact⟨ho _ d,z,ne,k _ _ (.inl rfl) e,j,⟨l,I,J,k _ _ (.inr d) e2,c⟩,r⟩
 |own y=>obtain⟨ob,e⟩:=x;exact⟨ob,k _ _ (.inl rfl) e⟩
 |xd fs=>obtain⟨j,⟨l,I,J,e,c⟩,r⟩:=x;exact⟨j,⟨l,I,J,k _ _ (.inl rfl) e,c⟩,r⟩
 |rng lo hi=>obtain⟨t,u,v,e⟩:=x;exact⟨t,u,v,k _ _ (.inl rfl) e⟩
 |frz ob u ih=>obtain⟨e,q⟩:=x;exact⟨k _ _ (.inl rfl) e,ih q⟩
 |tbl T=>
  have e:h.get? a=some {cls:=.none,data:=.fields T}:=x;show h'.get? a=some {cls:=.none,data:=.fields T};exact k a _ (.inl rfl) e
 |met f y=>
  have e:h.get? a=some (PySem.W.methodObj (.ref f)<|.ref y):=x;show h'.get? a=some (PySem.W.methodObj (.ref f)<|.ref y);exact k a _ (.inl rfl) e
 |ext φ=>obtain⟨p,⟨o,e⟩,st⟩:=x;exact⟨st _ _ p λo q=>k _ _ (.inl rfl) q,⟨o,k _ _ (.inl rfl) e⟩,st⟩
theorem fh.lt(x:fh P w H h)(e:H a=some o):a<h.objs.size:=(x a o e).lt
def fh.fresh(x:fh P w H h)(e:h.objs.size<=a):H a=none:=by cases q:H a with|none=>rfl|some u=>exact absurd (AQ (x.lt q) e)<|CZ _
def fh.kept(x:fh P w H h)(k:∀b u,h.get? b=some u->h'.get? b=some u):fh P w H h':=λa o e=>
 (x a o e).stay (λb u _ q=>k b u q) (λ_ q=>q) λ_ _ q=>q
def fh.laid(x:fh P w H h)(k:∀b u,h.get? b=some u->h'.get? b=some u)(U:h.objs.size<=a)(new:xn P w (upd H a o) h' a o):fh P w (upd H a o) h':=λb u e=>by
 have I:=x.fresh U;by_cases J:b=a
 ·subst J;rw[j6] at e;cases e;exact new
 ·rw[qu J] at e;exact(x b u e).stay (λc v _ q=>k c v q) (λc q=>by rw[qu<|zw q I];exact q) λc g q=>by rw[qu<|zw q I];exact q
end
def Rd(H:Hp)(a:Addr)(u:HO):Prop:=H a=some u\/∃o,H a=some (.frz o u)
def Rd.ok{P:Ye}{w:Yg}{H:Hp}{a:Addr}{u:HO}(r:Rd H a u)(x:fh P w H h):xn P w H h a u:=by
 rcases r with r|⟨o,r⟩
 ·exact x a u r
 ·obtain⟨_,q⟩:=x a _ r;exact q
def Fk:Option HO->Prop
 |some (.lst _)=>True
 |some (.dK _)=>True
 |some (.dT _)=>True
 |some (.set _ _)=>True
 |some (.ins _ _ _)=>True
 |some (.ext _)=>True
 |_=>False
section
variable {P:Ye}{w:Yg}{H:Hp}{x e:Addr}{o':HO}
def fh.write(ok:fh P w H h)(g:Fk<|H x)(t:e=x\/H e=some (.own x))(k:∀b u,b≠e->h.get? b=some u->h'.get? b=some u)(p:∃u,h'.get? e=some u)
 (new:xn P w (upd H x o') h' x o'):fh P w (upd H x o') h':=λb u q=>by
 have J:∀c y,H c=some (.own y)->c≠x:=λc y r z=>by subst z;rw[r] at g;exact g
 have U:∀c j,H c=some (.tup j)->c≠x:=λc j r z=>by subst z;rw[r] at g;exact g
 by_cases l:b=x
 ·subst l;rw[j6] at q;cases q;exact new
 ·rw[qu l] at q;by_cases I:b=e
  ·have C:H b=some (.own x):=by
    rcases t with z|z
    ·exact absurd (I.trans z) l
    ·rw[I];exact z
   rw[q] at C;cases C;obtain⟨v,T⟩:=p;exact⟨v,by rw[I];exact T⟩
  ·refine(ok b u q).stay (λc v o r=>k c v ?_ r) (λc r=>by rw[qu<|J c b r];exact r) λc j r=>by rw[qu<|U c j r];exact r
   rcases o with rfl|o
   ·exact I
   ·rintro rfl;rcases t with z|z
    ·exact J c b o z
    ·rw[o] at z;cases z;exact l rfl
end
structure Un(fs ex:List Addr)(H H':Hp)(h h':Yh):Prop where
 keep:∀b o,h.get? b=some o->H b=none->b∉fs->b∉ex->h'.get? b=some o
 slot:∀b o,h.get? b=some o->H b=none->b∈fs->b∉ex->∃sl,h'.get? b=some {o with slots:=sl}
 free:∀b o,h.get? b=some o->H b=none->b∉ex->H' b=none
 there:∀b o,h.get? b=some o->b∉ex->∃o',h'.get? b=some o'
 tups:∀b xs,H b=some (.tup xs)->H' b=some (.tup xs)
 frzs:∀b o u,H b=some (.frz o u)->H' b=some (.frz o u)
 tbls:∀b ps,H b=some (.tbl ps)->∃more,H' b=some (.tbl<|ps++more)
section
variable {fs fs' ex ex':List Addr}{H H1 H2:Hp}{h1 h2:Yh}{a x e:Addr}{o:HO}
def Un.any(u:Un fs ex H H1 h h1){b:Addr}{ob:Obj}(q:h.get? b=some ob)(n:H b=none)(I:b∉ex):∃U,h1.get? b=some {ob with slots:=U}:=by
 by_cases J:b∈fs
 ·exact u.slot b ob q n J I
 ·exact⟨ob.slots,u.keep b ob q n J I⟩
def Un.kept(k:∀b u,h.get? b=some u->h'.get? b=some u):Un fs ex H H h h':=
 ⟨λb ob q _ _ _=>k b ob q,λb ob q _ _ _=>⟨ob.slots,k b ob q⟩,λ_ _ _ n _=>n,λb ob q _=>⟨ob,k b ob q⟩,λ_ _ q=>q,λ_ _ _ q=>q,λ_ I q=>⟨#[],by rw[q];simp⟩⟩
def Un.refl:Un fs ex H H h h:=Un.kept λ_ _ q=>q
def Un.laid(k:∀b u,h.get? b=some u->h'.get? b=some u)(J:h.objs.size<=a)(I:H a=none):Un fs ex H (upd H a o) h h' where
 keep:=λb u q _ _ _=>k b u q
 slot:=λb u q _ _ _=>⟨u.slots,k b u q⟩
 free:=λb u q n _=>by rw[qu<|A9<|AQ (wh q) J];exact n
 there:=λb u q _=>⟨u,k b u q⟩
 tups:=λb U q=>by rw[qu<|zw q I];exact q
 frzs:=λb u U q=>by rw[qu<|zw q I];exact q
 tbls:=λb g q=>⟨#[],by rw[qu<|zw q I,q];simp⟩
def Un.write(J:Fk<|H x)(p:e=x\/H e=some (.own x))(k:∀b u,b≠e->h.get? b=some u->h'.get? b=some u)(U:∃u,h'.get? e=some u):Un fs ex H (upd H x o) h h':=by
 have j:∀b,H b=none->b≠x:=λb n z=>by subst z;rw[n] at J;exact J
 have l:∀b,H b=none->b≠e:=λb n z=>by
  subst z;rcases p with r|r
  ·exact j b n r
  ·rw[n] at r;cases r
 have g:∀b u,H b=some u->¬Fk (some u)->b≠x:=λb u q nm z=>by subst z;rw[q] at J;exact nm J
 refine⟨λb u q n _ _=>k b u (l b n) q,λb u q n _ _=>⟨u.slots,k b u (l b n) q⟩,λb u q n _=>by rw[qu<|j b n];exact n,λb u q _=>?_,
  λb t q=>by rw[qu<|g b _ q λz=>z];exact q,λb u t q=>by rw[qu<|g b _ q λz=>z];exact q,λb C q=>⟨#[],by rw[qu<|g b _ q λz=>z,q];simp⟩⟩
 by_cases I:b=e
 ·subst I;exact U
 ·exact⟨u,k b u I q⟩
end
def FF(h:Yh)(H:Hp):List Addr:=(List.range h.objs.size).filter λa=>(H a).isSome
def sI(h:Yh)(H:Hp):Yh:=PySem.W.hideAll h<|FF h H
def NF(h:Yh)(H:Hp):(sI h H).objs.size=h.objs.size:=PySem.W.hideAll_size _ _
def NG{H:Hp}{b:Addr}{o:Obj}(e:h.get? b=some o)(n:H b=none):(sI h H).get? b=some o:=
 PySem.W.hideAll_get _ e λI=>by have q:(H b).isSome=true:=(AR.mp I).2;rw[n] at q;simp at q
def NH{H:Hp}{b:Addr}{o:Obj}(e:(sI h H).get? b=some o):h.get? b=some o/\H b=none:=by
 have I:h.get? b=some o:=PySem.W.of_hideAll (FF h H) e;refine⟨I,?_⟩;cases q:H b with
 |none=>rfl
 |some x=>
  have J:b∈FF h H:=AR.mpr ⟨A2.mpr<|wh I,by simp[q]⟩;have z:(sI h H).get? b=none:=PySem.W.hideAll_none (FF h H) J;rw[z] at e;cases e
end L2
variable {xs zs:List L2.V}{H H' H₀:L2.Hp}{v:L2.V}{kvs:List<|List L2.ja×L2.V}
namespace L2
open PySem PySem.Spec PyProof.Rows
structure Mod(K:Ah)(mg:XW)(base:Yh):Prop where
 kin:K.In base
 glob:base.Ns mainGlobals mg
 blt:∃mb,base.Ns builtinsNs mb/\∀x:Str,x ≠ "__name__" -> mb x=bootBuiltins x
 nolimit:base.NoLimit
structure Cx where
 prog:Ye
 w:Yg
 K:Ah
 mg:XW
 base:Yh
 A:Around
 N:X4
 s₀:Yd
 H₀:Hp
 env:Env
 outer:List Env
 stack:List Env
 ex:List Addr
 fn:Str->Bool
 calm:Bool
 pn:List (Addr×Obj)
 xe:XT
def frs(l:List Env):List Addr:=l.filterMap (·.frame)
abbrev Cx.fs(X:Cx):List Addr:=frs X.outer
def A'(I:Scope)(x:Str):Prop:=I.names.lookup x=some .local\/I.names.lookup x=some .cell\/I.names.lookup x=some .free
def Loc(I:Scope)(x:Str):Prop:=I.names.lookup x=some .local\/I.names.lookup x=some .cell
def NI(env:Env)(h:Yh)(m:XW)(x:Str)(u:Yc):Prop:=
 (env.kindOf x=some .local/\m x=some u)\/((env.kindOf x=some .cell\/env.kindOf x=some .free)/\∃c,env.cells.lookup x=some c/\h.IsCell c (some u))
structure Cx.Ok(X:Cx):Prop where
 mod:Mod X.K X.mg X.base
 kind:X.env.scope.kind=.function
 glob:X.env.globals=mainGlobals
 blt:X.env.builtins=builtinsNs
 above:X.s₀.heap.objs.size<=X.env.locals
 inj:∀x y c,X.env.cells.lookup x=some c->X.env.cells.lookup y=some c->x=y
 has:∀x,(X.env.kindOf x=some .cell\/X.env.kindOf x=some .free)->∃c,X.env.cells.lookup x=some c
 cab:∀x c,X.fn x=true->X.env.cells.lookup x=some c->X.s₀.heap.objs.size<=c
 hd:X.calm=true->X.A.handled=none
 frames:X.A.frames=some X.stack
 stk:X.stack=X.outer\/(X.stack=X.env::X.outer/\X.env.frame=some X.env.locals)
 exf:∀b∈X.ex,b≠X.env.locals/\∀x c,X.env.cells.lookup x=some c->c≠b
 bs:∀b o,X.base.get? b=some o->X.s₀.heap.get? b=some o/\X.H₀ b=none
 bsz:X.base.objs.size<=X.s₀.heap.objs.size
 noex:∀b o,X.base.get? b=some o->b∉X.ex
 exfs:∀b∈X.ex,b∉X.fs
 funs:X.s₀.heap.FunFrames X.base X.outer
 frf:∀b∈X.fs,X.H₀ b=none
structure z0(X:Cx)(pins:List<|Addr×Obj)(σ:List<|Yk)(H:Hp)(s:Yd):Prop where
 ok:X.Ok
 os:s.os=X.s₀.os
 bare:AllBare s.gens
 base:Un X.fs X.ex X.H₀ H X.s₀.heap s.heap
 loc:∃m,s.heap.Ns X.env.locals m/\∀(i:Nat) (x:Str) (v:V),X.N[i]?=some x->σ[i]?=some (some v)->A' X.env.scope x->∃u,zm v u/\NI X.env s.heap m x u
 cell:∀x c,X.env.cells.lookup x=some c->∃v,s.heap.IsCell c v
 free:H X.env.locals=none
 freeC:∀x c,X.env.cells.lookup x=some c->H c=none
 pin:∀p∈X.pn++pins,s.heap.get? p.1=some p.2/\H p.1=none/\p.1≠X.env.locals/\p.1∉X.fs/\∀v,p.2.data≠.cell v
 hok:fh X.prog X.w H s.heap
 len:σ.length=X.N.length
 tk:0<s.toks
section
variable {X:Cx}{σ:List<|Yk}
theorem Cx.Ok.nofr(ok:X.Ok){b:Addr}{o:Obj}(e:X.base.get? b=some o):b∉X.fs:=λI=>by have:=(ok.funs.mem I).1;rw[e] at this;cases this
theorem z0.bs(I:z0 X pins σ H s):∀b o,X.base.get? b=some o->s.heap.get? b=some o/\H b=none:=λb o e=>
 ⟨I.base.keep b o (I.ok.bs b o e).1 (I.ok.bs b o e).2 (I.ok.nofr e)<|I.ok.noex b o e,I.base.free b o (I.ok.bs b o e).1 (I.ok.bs b o e).2<|I.ok.noex b o e⟩
def z0.bk(I:z0 X pins σ H s):∀b o,X.base.get? b=some o->s.heap.get? b=some o:=λb o e=>(I.bs b o e).1
theorem z0.mod(I:z0 X pins σ H s):Mod X.K X.mg X.base:=I.ok.mod
def z0.kIn(I:z0 X pins σ H s):X.K.In s.heap:=I.ok.mod.kin.keeps I.bk
theorem z0.nolimit(I:z0 X pins σ H s):s.heap.NoLimit:=I.ok.mod.nolimit.keeps I.bk
theorem z0.lt(I:z0 X pins σ H s):X.env.locals<s.heap.objs.size:=let ⟨_,J,_⟩:=I.loc;J.lt
def z0.sz(I:z0 X pins σ H s):X.s₀.heap.objs.size<=s.heap.objs.size:=AE I.ok.above<|Bp I.lt
def z0.nofs(I:z0 X pins σ H s){a:Addr}(h:s.heap.objs.size<=a):a∉X.fs:=λJ=>by obtain⟨_,o,U,_⟩:=I.ok.funs.mem J;exact absurd (AQ (wh U)<|AE I.sz h)<|CZ _
def z0.cne(I:z0 X pins σ H s):∀x c,X.env.cells.lookup x=some c->c≠X.env.locals:=λx c e z=>by obtain⟨v,o,g,hd⟩:=I.cell x c e;obtain⟨m,⟨j,l,p,J,U,_⟩,_⟩:=I.loc;rw[z,J] at g;cases g;rw[U] at hd;cases hd
theorem z0.funs(I:z0 X pins σ H s):s.heap.FunFrames X.base X.outer:=by
 have all:∀(l:List Env),(∀b∈frs l,b∈X.fs)->X.s₀.heap.FunFrames X.base l->s.heap.FunFrames X.base l:=by
  intro l
  induction l with
  |nil=>intro _ _;trivial
  |cons p r t=>
   rintro j⟨T,⟨L,o,J,hn,ho,hd⟩,hr⟩;have U:L∈X.fs:=j L (by unfold frs;rw[CT,J];exact Ao);obtain⟨sl,e⟩:=I.base.slot L o ho (I.ok.frf L U) U λz=>I.ok.exfs L z U;exact⟨T,⟨L,_,J,hn,e,hd⟩,t (λb g=>j b (by unfold frs;rw[CT,J];exact Af _ g)) hr⟩
 exact all X.outer (λ_ g=>g) I.ok.funs
def z0.stack(I:z0 X pins σ H s):s.heap.FunFrames X.base X.stack:=by
 rcases I.ok.stk with e|⟨e,J⟩
 ·rw[e];exact I.funs
 ·rw[e];obtain⟨m,U,_⟩:=I.loc;refine .cons (by rw[I.ok.kind];decide) J U ?_ I.funs;exact Heap.get?_none_of_le<|AE I.ok.bsz I.ok.above
def z0.stkSub(I:z0 X pins σ H s):∀b∈frs X.stack,b∈X.env.locals::X.fs:=λb J=>by
 rcases I.ok.stk with e|⟨e,U⟩
 ·rw[e] at J;exact Af _ J
 ·rw[e] at J;unfold frs at J;rw[CT,U] at J;exact J
def z0.stkFree(I:z0 X pins σ H s):∀b∈frs X.stack,H b=none:=λb J=>by
 rcases Ap.mp (I.stkSub b J) with e|J
 ·rw[e];exact I.free
 ·obtain⟨_,o,U,_⟩:=I.ok.funs.mem J;exact I.base.free b o U (I.ok.frf b J) λz=>I.ok.exfs b z J
def z0.step{g':Array GenState}{d':Drawn}(I:z0 X pins σ H s)
 (U:∀b∈ch,(b∈X.ex\/X.s₀.heap.objs.size<=b)/\b≠X.env.locals/\(∀x c,X.env.cells.lookup x=some c->c≠b)/\∀p∈X.pn++pins,p.1≠b)
 (keep:∀b o,b≠X.env.locals->b∉X.fs->b∉ch->s.heap.get? b=some o->H b=none->h'.get? b=some o)
 (slot:∀b o,b≠X.env.locals->b∈X.fs->b∉ch->s.heap.get? b=some o->H b=none->∃sl,h'.get? b=some {o with slots:=sl}) (free:∀b o,b∉ch->s.heap.get? b=some o->H b=none->H' b=none)
 (there:∀b o,b∉ch->s.heap.get? b=some o->∃o',h'.get? b=some o')
 (tups:∀b xs,H b=some (.tup xs)->H' b=some (.tup xs)) (frzs:∀b o u,H b=some (.frz o u)->H' b=some (.frz o u)) (tbls:∀b ps,H b=some (.tbl ps)->∃more,H' b=some (.tbl<|ps++more))
 (ns:∀m,s.heap.Ns X.env.locals m->h'.Ns X.env.locals m) (hok:fh X.prog X.w H' h') (hg:AllBare g') (ht:0<t':=by walk_at "t"):
 z0 X pins σ H' {s with heap:=h',gens:=g',drawn:=d',toks:=t'}:=by
 have vt:∀b o,X.s₀.heap.get? b=some o->b≠X.env.locals:=λb o e=>A9<|AQ (wh e) I.ok.above;have t:∀b o,X.s₀.heap.get? b=some o->b∉X.ex->b∉ch:=λb o e J T=>by
  rcases (U b T).1 with z|z
  ·exact J z
  ·exact absurd (AQ (wh e) z)<|CZ _
 have g:∀x c,X.env.cells.lookup x=some c->∀v,s.heap.IsCell c v->h'.IsCell c v:=λx c e v ⟨o,ho,hd⟩=>by
  have j:c∉ch:=λz=>(U c z).2.2.1 x c e rfl;by_cases hc:c∈X.fs
  ·obtain⟨sl,q⟩:=slot c o (I.cne x c e) hc j ho<|I.freeC x c e;exact⟨_,q,hd⟩
  ·exact⟨o,keep c o (I.cne x c e) hc j ho<|I.freeC x c e,hd⟩
 refine⟨I.ok,I.os,hg,⟨λb o e n T J=>?_,λb o e n T J=>?_,λb o e n J=>?_,λb o e J=>?_,λb xs e=>tups b xs<|I.base.tups b xs e,λb o xs e=>frzs b o xs<|I.base.frzs b o xs e,λb ps e=>?_⟩,?_,λx c e=>?_,?_,λx c e=>?_,λp hp=>?_,hok,I.len,ht⟩
 ·exact keep b o (vt b o e) T (t b o e J) (I.base.keep b o e n T J)<|I.base.free b o e n J
 ·obtain⟨sl,C⟩:=I.base.slot b o e n T J;obtain⟨a0,e2⟩:=slot b _ (vt b o e) T (t b o e J) C<|I.base.free b o e n J;exact⟨a0,e2⟩
 ·obtain⟨o',C⟩:=I.base.there b o e J;exact free b o' (t b o e J) C<|I.base.free b o e n J
 ·obtain⟨o',C⟩:=I.base.there b o e J;exact there b o' (t b o e J) C
 ·obtain⟨m1,C⟩:=I.base.tbls b ps e;obtain⟨m2,e2⟩:=tbls b _ C;exact⟨m1++m2,by rw[e2,Array.append_assoc]⟩
 ·obtain⟨m,hn,hl⟩:=I.loc;refine⟨m,ns m hn,λi x v C e2 e3=>?_⟩;obtain⟨u,r,l⟩:=hl i x v C e2 e3;refine⟨u,r,?_⟩;rcases l with l|⟨k,c,e,z⟩
  ·exact .inl l
  ·exact .inr ⟨k,c,e,g x c e _ z⟩
 ·obtain⟨v,z⟩:=I.cell x c e;exact⟨v,g x c e v z⟩
 ·obtain⟨m,⟨o,_,_,ho,_⟩,_⟩:=I.loc;exact free _ o (λz=>(U _ z).2.1 rfl) ho I.free
 ·obtain⟨v,o,ho,hd⟩:=I.cell x c e;exact free c o (λz=>(U c z).2.2.1 x c e rfl) ho<|I.freeC x c e
 ·obtain⟨e,n,ne,nf,d⟩:=I.pin p hp;have j:p.1∉ch:=λz=>(U p.1 z).2.2.2 p hp rfl;exact⟨keep p.1 p.2 ne nf j e n,free p.1 p.2 j e n,ne,nf,d⟩
def z0.un(I:z0 X pins σ H s)(u:Un X.fs [] H H' s.heap h')(hok:fh X.prog X.w H' h')(T:0<t':=by walk_at "t"):z0 X pins σ H' {s with heap:=h',toks:=t'}:=by obtain⟨m,⟨o,es,ep,l,r⟩,_⟩:=id I.loc;obtain⟨sl,p⟩:=u.any l I.free (by simp);exact I.step (g':=s.gens) (d':=s.drawn) (ch:=[]) (λ_ z=>nomatch z) (λb o _ U _ e n=>u.keep b o e n U (by simp)) (λb o _ U _ e n=>u.slot b o e n U (by simp)) (λb o _ e n=>u.free b o e n (by simp)) (λb o _ e=>u.there b o e (by simp)) u.tups u.frzs u.tbls (λm' t=>by obtain⟨o',g,j,J,C⟩:=t;rw[l] at J;cases J;exact⟨_,g,j,p,C⟩) hok I.bare
def z0.call{g':Array GenState}{d':Drawn}(I:z0 X pins σ H s)(u:Un (frs X.stack) ch H H' s.heap h')(hok:fh X.prog X.w H' h')(T:AllBare g')
 (U:∀b∈ch,(b∈X.ex\/X.s₀.heap.objs.size<=b)/\b≠X.env.locals/\(∀x c,X.env.cells.lookup x=some c->c≠b)/\∀p∈X.pn++pins,p.1≠b) (ht:0<t':=by walk_at "t"):
 z0 X pins σ H' {s with heap:=h',gens:=g',drawn:=d',toks:=t'}:=by
 obtain⟨m,⟨o,es,ep,C,r⟩,_⟩:=id I.loc;obtain⟨sl,j⟩:=u.any C I.free λz=>(U _ z).2.1 rfl;exact I.step (ch:=ch) U (λb o j hb J e n=>u.keep b o e n (λz=>(Ap.mp<|I.stkSub b z).elim j hb) J) (λb o _ _ J e n=>u.any e n J) (λb o J e n=>u.free b o e n J) (λb o J e=>u.there b o e J) u.tups u.frzs u.tbls (λm' hm=>by obtain⟨o',l,t,g,r'⟩:=hm;rw[C] at g;cases g;exact⟨_,l,t,j,r'⟩) hok T
def z0.turned(I:z0 X pins σ H s)(k:∀b o,b≠it->s.heap.get? b=some o->h'.get? b=some o)(j:H it=none)(g:it≠X.env.locals)
 (h1:it∈X.ex\/X.s₀.heap.objs.size<=it) (h2:∀x c,X.env.cells.lookup x=some c->c≠it) (l:∀p∈X.pn++pins,p.1≠it) (ht:0<t':=by walk_at "t"):z0 X pins σ H {s with heap:=h',toks:=t'}:=by
 have U:∀b u,H b=some u->b≠it:=λb u e z=>by rw[z,j] at e;cases e
 refine I.step (g':=s.gens) (d':=s.drawn) (ch:=[it]) (λb t=>?_) (λb o _ _ J e _=>k b o (λz=>J (by simp[z])) e) (λb o _ _ J e _=>⟨o.slots,k b o (λz=>J (by simp[z])) e⟩) (λ_ _ _ _ n=>n)
  (λb o J e=>⟨o,k b o (λz=>J (by simp[z])) e⟩) (λ_ _ e=>e) (λ_ _ _ e=>e) (λb ps e=>⟨#[],by rw[e];simp⟩) (λm C=>?_) (λb u e=>?_) I.bare
 ·have e:b=it:=by simpa using t
  subst e;exact⟨h1,g,h2,l⟩
 ·obtain⟨o,T,ep,ho,r⟩:=C;exact⟨o,T,ep,k _ o (AN g) ho,r⟩
 ·refine(I.hok b u e).stay (λc v J q=>k c v ?_ q) (λ_ q=>q) λ_ _ q=>q;rcases J with z|z
  ·rw[z];exact U b u e
  ·exact U c _ z
def z0.tok(I:z0 X pins σ H s)(t:Nat)(J:0<t:=by walk_at "t"):z0 X pins σ H {s with toks:=t}:=I.un (h':=s.heap) (t':=t) Un.refl I.hok
theorem z0.kept(I:z0 X pins σ H s)(k:∀b u,s.heap.get? b=some u->h'.get? b=some u)(J:0<t':=by walk_at "t"):z0 X pins σ H {s with heap:=h',toks:=t'}:=I.un (Un.kept k)<|I.hok.kept k
theorem z0.laid{a:Addr}{o:HO}(I:z0 X pins σ H s)(k:∀b u,s.heap.get? b=some u->h'.get? b=some u)(J:s.heap.objs.size<=a)(new:xn X.prog X.w (upd H a o) h' a o)(U:0<t':=by walk_at "t"):
 z0 X pins σ (upd H a o) {s with heap:=h',toks:=t'}:=I.un (Un.laid k J<|I.hok.fresh J)<|I.hok.laid k J new
theorem z0.write{x e:Addr}{o:HO}(I:z0 X pins σ H s)(U:Fk<|H x)(g:e=x\/H e=some (.own x))(k:∀b u,b≠e->s.heap.get? b=some u->h'.get? b=some u)(J:∃u,h'.get? e=some u)
 (new:xn X.prog X.w (upd H x o) h' x o) (j:0<t':=by walk_at "t"):z0 X pins σ (upd H x o) {s with heap:=h',toks:=t'}:=I.un (Un.write U g k J)<|I.hok.write U g k J new
def z0.weak{hE:List<|Yk}(I:z0 X pins σ H s)(U:hE.length=σ.length)(w:∀(i:Nat) v,hE[i]?=some (some v)->σ[i]?=some (some v)):z0 X pins hE H s:=
 ⟨I.ok,I.os,I.bare,I.base,let ⟨m,g,J⟩:=I.loc;⟨m,g,λi x v j l o=>J i x v j (w i v l) o⟩,I.cell,I.free,I.freeC,I.pin,I.hok,U.trans I.len,I.tk⟩
def z0.pins_of{J:List<|Addr×Obj}(I:z0 X pins σ H s)(h:∀p∈J,s.heap.get? p.1=some p.2/\H p.1=none/\p.1≠X.env.locals/\p.1∉X.fs/\∀v,p.2.data≠.cell v):z0 X J σ H s:=
 ⟨I.ok,I.os,I.bare,I.base,I.loc,I.cell,I.free,I.freeC,λp U=>(An.mp U).elim (λz=>I.pin p<|Ay _ z)<|h p,I.hok,I.len,I.tk⟩
def wF{N:X4}(hN:N.Nodup)(a:N[i]?=some x)(b:N[j]?=some x):i=j:=by obtain⟨U,I⟩:=AM.mp a;obtain⟨g,J⟩:=AM.mp b;exact(List.getElem_inj hN).mp (I.trans J.symm)
def rq{Q:XU}(I:z0 X pins σ H s)(hN:X.N.Nodup)(hi:X.N[i]?=some x)(t:Loc X.env.scope x)(r:zm v u)
 (h:∀s',z0 X pins (σ.set i<|some v) H s'->(∃a,Heap.SameBut a s.heap s'.heap/\(a=X.env.locals\/X.env.cells.lookup x=some a))->(X.env.kindOf x=some .local->∃m',s'.heap.Ns X.env.locals m'/\m' x=some u)->Q () s') (hf:X.fn x=true\/X.env.scope.names.lookup x=some .local:=by first|exact .inl rfl|exact .inr rfl|assumption):wpAny M A (storeName X.env x u) Q E s:=by
 obtain⟨m,hn,hl⟩:=id I.loc;have a2:(X.env.scope.kind==.class||(X.env.scope.kind==.module&&X.env.locals != X.env.globals))=false:=by rw[I.ok.kind];rfl
 have a0:i<σ.length:=by rw[I.len];exact(AM.mp hi).1
 have cne:=I.cne;have U:∀{a:Addr} {h':Yh},(∃o,s.heap.get? a=some o/\H a=none)->Heap.SameBut a s.heap h'->fh X.prog X.w H h':=λ{a h'} ha J b ob e=>by
  obtain⟨_,_,C⟩:=ha;refine(I.hok b ob e).stay (λc w' l q=>(J.2 c ?_).trans q) (λ_ q=>q) λ_ _ q=>q;rintro rfl;rcases l with rfl|l
  ·rw[C] at e;cases e
  ·rw[C] at l;cases l
 rcases t with T|T
 ·refine wpAny_storeName_local T hn (λh' a3 J=>?_) a2;obtain⟨oL,_,_,al,_⟩:=id hn;refine h _ ⟨I.ok,I.os,I.bare,⟨λb o e n hb t=>?_,λb o e n hb t=>?_,I.base.free,λb o e t=>?_,I.base.tups,I.base.frzs,I.base.tbls⟩,⟨_,a3,λj y v' g e2 e3=>?_⟩,λy c e=>?_,I.free,I.freeC,λp hp=>?_,U ⟨oL,al,I.free⟩ J,by simpa using I.len,by first|exact I.tk|exact B3 _⟩ ⟨_,J,.inl rfl⟩ λ_=>⟨_,a3,by simp⟩
  ·exact(J.2 b<|A9<|AQ (wh e) I.ok.above).trans (I.base.keep b o e n hb t)
  ·obtain⟨sl,g⟩:=I.base.slot b o e n hb t;exact⟨sl,(J.2 b<|A9<|AQ (wh e) I.ok.above).trans g⟩
  ·obtain⟨o',g⟩:=I.base.there b o e t;exact⟨o',(J.2 b<|A9<|AQ (wh e) I.ok.above).trans g⟩
  ·by_cases hj:j=i
   ·subst hj;rw[hi] at g;cases g;rw[B4 a0] at e2;cases e2;exact⟨u,r,.inl ⟨T,by simp⟩⟩
   ·rw[Bq<|AN hj] at e2;obtain⟨u',r',q⟩:=hl j y v' g e2 e3;refine⟨u',r',?_⟩;rcases q with⟨k,e⟩|⟨k,c,e,z⟩
    ·refine .inl ⟨k,?_⟩;have:y≠x:=λe=>hj<|wF hN g<|e▸hi;simp[this,e]
    ·exact .inr ⟨k,c,e,z.sameBut J<|cne y c e⟩
  ·obtain⟨w',z⟩:=I.cell y c e;exact⟨w',z.sameBut J<|cne y c e⟩
  ·obtain⟨e,n,ne,nf,d⟩:=I.pin p hp;exact⟨(J.2 p.1 ne).trans e,n,ne,nf,d⟩
 ·have a1:X.fn x=true:=by
   rcases hf with z|z
   ·exact z
   ·rw[z] at T;cases T
  obtain⟨c,l⟩:=I.ok.has x<|.inl T;obtain⟨w',z⟩:=I.cell x c l;refine wpAny_storeName_cell I.ok.kind T l z λh' a4 J=>?_;obtain⟨oc,a5,ab⟩:=id z;refine h {s with heap:=h'} ⟨I.ok,I.os,I.bare,⟨λb o e n hb t=>?_,λb o e n hb t=>?_,I.base.free,λb o e t=>?_,I.base.tups,I.base.frzs,I.base.tbls⟩,⟨m,hn.sameBut J<|AN<|cne x c l,λj y v' g e2 e3=>?_⟩,λy c' e=>?_,I.free,I.freeC,λp hp=>?_,U ⟨oc,a5,I.freeC x c l⟩ J,by simpa using I.len,I.tk⟩ ⟨c,J,.inr l⟩ (λz=>by have e:=(show X.env.kindOf x=some .cell from T).symm.trans z;cases e)
  ·exact(J.2 b<|A9<|AQ (wh e)<|I.ok.cab x c a1 l).trans (I.base.keep b o e n hb t)
  ·obtain⟨sl,g⟩:=I.base.slot b o e n hb t;exact⟨sl,(J.2 b<|A9<|AQ (wh e)<|I.ok.cab x c a1 l).trans g⟩
  ·obtain⟨o',g⟩:=I.base.there b o e t;exact⟨o',(J.2 b<|A9<|AQ (wh e)<|I.ok.cab x c a1 l).trans g⟩
  ·by_cases hj:j=i
   ·subst hj;rw[hi] at g;cases g;rw[B4 a0] at e2;cases e2;exact⟨u,r,.inr ⟨.inl T,c,l,a4⟩⟩
   ·rw[Bq<|AN hj] at e2;obtain⟨u',r',q⟩:=hl j y v' g e2 e3;refine⟨u',r',?_⟩;rcases q with q|⟨k,c',e,z'⟩
    ·exact .inl q
    ·refine .inr ⟨k,c',e,z'.sameBut J ?_⟩;rintro rfl;exact hj<|wF hN g<|I.ok.inj _ _ _ e l▸hi
  ·by_cases ac:c'=c
   ·subst ac;exact⟨_,a4⟩
   ·obtain⟨w2,z2⟩:=I.cell y c' e;exact⟨w2,z2.sameBut J ac⟩
  ·obtain⟨e,n,ne,nf,d⟩:=I.pin p hp;refine⟨(J.2 p.1 ?_).trans e,n,ne,nf,d⟩;intro q;rw[q,a5] at e;have q':oc=p.2:=Bb e;exact d w' (by rw[<-q'];exact ab)
def aU{Q:XU}(I:z0 X pins σ H s)(hN:X.N.Nodup)(hi:X.N[i]?=some x)(J:Loc X.env.scope x)(r:zm v u)
 (h:∀s',z0 X pins (σ.set i<|some v) H s'->Q () s') (U:X.fn x=true\/X.env.scope.names.lookup x=some .local:=by first|exact .inl rfl|exact .inr rfl|assumption):wpAny M A (storeName X.env x u) Q E s:=
 rq I hN hi J r (λs' g _ _=>h s' g) U
def z0.call'(I:z0 X pins σ H s)(U:s'.os=s.os)(u:Un (frs X.stack) ch H H' s.heap s'.heap)(hok:fh X.prog X.w H' s'.heap)(g:AllBare s'.gens)
 (J:∀b∈ch,(b∈X.ex\/X.s₀.heap.objs.size<=b)/\b≠X.env.locals/\(∀x c,X.env.cells.lookup x=some c->c≠b)/\∀p∈X.pn++pins,p.1≠b) (j:0<s'.toks:=by walk_at "t"):z0 X pins σ H' s':=by
 obtain⟨o,g',d',t',l⟩:=s';have e:l=s.os:=U;subst e;exact I.call (g':=g') (t':=t') (d':=d') u hok g J j
end
abbrev XK:=Yc->Option Addr->Hp->Prop
abbrev St:=List<|Yk
abbrev VK:=V->Hp->Prop
abbrev TE:=St->Hp->VK->Prop
abbrev TT:=St->Hp->(Bool->Hp->Prop)->Prop
abbrev TA:=St->Hp->(Yj->Hp->Prop)->Prop
structure yL where
 nx:St->Hp->Prop
 rt:VK
 bk:St->Hp->Prop:=λ_ _=>False
 ct:St->Hp->Prop:=λ_ _=>False
abbrev TS:=yL->St->Hp->Prop
def EP(X:Cx)(pins:List<|Addr×Obj)(σ:St)(Q:VK)(u:Yc)(s':Yd):Prop:=∃v H',z0 X pins σ H' s'/\zm v u/\Q v H'
def TP(X:Cx)(pins:List<|Addr×Obj)(σ:St)(Q:Bool->Hp->Prop)(b:Bool)(s':Yd):Prop:=∃H',z0 X pins σ H' s'/\Q b H'
def AP(X:Cx)(pins:List<|Addr×Obj)(σ:St)(Q:Yj->Hp->Prop)(us:XZ)(s':Yd):Prop:=∃vs H',z0 X pins σ H' s'/\zk vs us/\Q vs H'
def SP(X:Cx)(pins:List<|Addr×Obj)(D:yL)(f:Flow)(s':Yd):Prop:=
 match f with
 |.next=>∃hE H',z0 X pins hE H' s'/\D.nx hE H'
 |.brk=>∃hE H',z0 X pins hE H' s'/\D.bk hE H'
 |.cont=>∃hE H',z0 X pins hE H' s'/\D.ct hE H'
 |.ret u=>∃v hE H',z0 X pins hE H' s'/\zm v u/\D.rt v H'
def PE(X:Cx)(e:Expr)(t:TE):Prop:=
 ∀(pins:List<|Addr×Obj) (s:Yd) (σ:St) (H:Hp) (Q:VK),z0 X pins σ H s->t σ H Q->wpAny (model X.prog X.w) X.A (eval e X.env) (EP X pins σ Q) X.xe s
def PT(X:Cx)(e:Expr)(t:TT):Prop:=
 ∀(pins:List<|Addr×Obj) (s:Yd) (σ:St) (H:Hp) (Q:Bool->Hp->Prop),z0 X pins σ H s->t σ H Q->wpAny (model X.prog X.w) X.A (isTrue e X.env<|eval e X.env) (TP X pins σ Q) X.xe s
def PW(X:Cx)(e:Expr)(t:TT):Prop:=
 ∀(whole:Sem Yc) (pins:List<|Addr×Obj) (s:Yd) (σ:St) (H:Hp) (Q:Bool->Hp->Prop),z0 X pins σ H s->t σ H Q->wpAny (model X.prog X.w) X.A (isTrue e X.env whole) (TP X pins σ Q) X.xe s
def PW.pt{X:Cx}{t:TT}(h:PW X e t):PT X e t:=h _
def PA(X:Cx)(es:X5)(t:TA):Prop:=
 ∀(pos:Pos) (pins:List<|Addr×Obj) (s:Yd) (σ:St) (H:Hp) (Q:Yj->Hp->Prop),z0 X pins σ H s->t σ H Q->wpAny (model X.prog X.w) X.A (spliced<|backTo pos<|starEach es X.env) (AP X pins σ Q) X.xe s
def PS(X:Cx)(st:Stmt)(t:TS):Prop:=
 ∀(pins:List<|Addr×Obj) (s:Yd) (σ:St) (H:Hp) (D:yL),z0 X pins σ H s->t D σ H->wpAny (model X.prog X.w) X.A (exec st X.env) (SP X pins D) X.xe s
def mH(X:Cx)(st:X6)(t:TS):Prop:=
 ∀(pins:List<|Addr×Obj) (s:Yd) (σ:St) (H:Hp) (D:yL),z0 X pins σ H s->t D σ H->wpAny (model X.prog X.w) X.A (execs st X.env) (SP X pins D) X.xe s
def wq{t:Sem α}{Q I:α->Yd->Prop}(h:wpAny M A t Q E s)(J:∀a s,Q a s->I a s):wpAny M A t I E s:=A4 h J λ_ _ x=>x
def aW{t:Sem Yc}{X:Cx}{σ:St}{Q:VK}{I:XT}(h:wpAny M A t (EP X pins σ Q) E s)(J:∀v s x H,z0 X pins σ H s->zm x v->Q x H->I v s):wpAny M A t I E s:=wq h λv s ⟨x,H,a,b,c⟩=>J v s x H a b c
def Ez{t:Sem<|XZ}{X:Cx}{σ:St}{Q:Yj->Hp->Prop}{I:XZ->Yd->Prop}(h:wpAny M A t (AP X pins σ Q) E s)(J:∀v s x H,z0 X pins σ H s->zk x v->Q x H->I v s):wpAny M A t I E s:=wq h λv s ⟨x,H,a,b,c⟩=>J v s x H a b c
end L2
variable {r:L2.V->X9->X9->L2.Hp->L2.VK->Prop}{X:L2.Cx}{σ:L2.St}
namespace L2
open PySem PySem.Spec PyProof.Rows
section
def Gu(i:Nat):TE:=λσ H Q=>∃v,σ[i]?=some (some v)/\Q v H
def tC(v:V):TE:=λ_ H Q=>Q v H
abbrev Ex(x:Str):Prop:=(x==("__debug__":Str))=false
abbrev Ey(x:Str):Prop:=(x==("__classdict__":Str))=false
def NJ(hN:X.N[i]?=some x)(p:A' X.env.scope x)(hd:Ex x:=by decide)(j:Ey x:=by decide):PE X (.Name x pos) (Gu i):=by
 rintro g s t H Q I⟨v,e,h⟩;obtain⟨m,C,T⟩:=I.loc;obtain⟨u,r,l⟩:=T i x v hN e p;have jw:EP X g t Q u s:=⟨v,H,I,r,h⟩;rcases l with⟨U,hm⟩|⟨U,c,o,J⟩
 ·exact wpAny_Name (wpAny_loadName_local I.ok.kind U C hm jw) hd
 ·rcases U with U|U
  ·exact wpAny_Name (wpAny_loadName_cell I.ok.kind U o J jw) hd
  ·exact wpAny_Name (wpAny_loadName_free I.ok.kind U o J jw j) hd
def NK{i j pos}:PE X (.Constant (.int i) j pos) (tC<|.int i):=λ_ _ _ H _ I h=>wpAny_Constant_int ⟨.int i,H,I.tok _,⟨_,rfl⟩,h⟩
def NL{b j pos}:PE X (.Constant (.bool b) j pos) (tC<|.bl b):=λ_ _ _ H _ I h=>Constant_bool ⟨.bl b,H,I,rfl,h⟩
def NM{j pos}:PE X (.Constant .none j pos) (tC .non):=λ_ _ _ H _ I h=>Constant_none ⟨.non,H,I,rfl,h⟩
def cH{x j pos}:PE X (.Constant (.str x) j pos) (tC<|.str x):=λ_ _ _ H _ I h=>Calls.Constant_str ⟨.str x,H,I.tok _,⟨_,rfl⟩,h⟩
def Gl(X:Cx)(x:Str):Prop:=X.env.kindOf x=some .globalImplicit
def HE(I:z0 X pins σ H s)(J:Gl X x)(U:X.mg x=some u)(h:Q u s)
 (hd:Ex x:=by decide):wpAny (model X.prog X.w) X.A (eval (.Name x pos) X.env) Q E s:=
 Calls.Name_function_global I.ok.kind J (Calls.loadGlobal_global (by rw[I.ok.glob];exact I.mod.glob.keeps I.bk) U h) hd
def dD(I:z0 X pins σ H s)(J:Gl X x)(U:X.mg x=none)(g:bootBuiltins x=some u)(h:Q u s)
 (j:x ≠ "__name__" := by decide) (hd:Ex x:=by decide):wpAny (model X.prog X.w) X.A (eval (.Name x pos) X.env) Q E s:=by
 obtain⟨p,l,o⟩:=I.mod.blt;exact Calls.Name_function_global I.ok.kind J (Calls.loadGlobal_builtin (by rw[I.ok.glob];exact I.mod.glob.keeps I.bk) U (by rw[I.ok.blt];exact l.keeps I.bk) ((o x j).trans g) h) hd
def zX(J:Gl X x)(U:X.mg x=some u)(r:zm v u)(hd:Ex x:=by decide):PE X (.Name x pos) (tC v):=
 λ_ _ _ H _ I h=>HE I J U ⟨v,H,I,r,h⟩ hd
def NN(J:Gl X x)(U:X.mg x=none)(g:bootBuiltins x=some u)(r:zm v u)(j:x ≠ "__name__" := by decide)(hd:Ex x:=by decide):PE X (.Name x pos) (tC v):=
 λ_ _ _ H _ I h=>dD I J U g ⟨v,H,I,r,h⟩ j hd
variable {a b:Expr}{ta tb:TE}
def PC(X:Cx)(op:CmpOp)(a b:Expr)(t:TE):Prop:=
 ∀(pins:List<|Addr×Obj) (s:Yd) (σ:St) (H:Hp) (Q:VK),z0 X pins σ H s->t σ H Q->
  wpAny (model X.prog X.w) X.A (eval a X.env) (λv I=>wpAny (model X.prog X.w) X.A (eval b X.env) (λu J=>wpAny (model X.prog X.w) X.A (compareOp op v u) (EP X pins σ Q) X.xe J) X.xe I) X.xe s
def uo(b:Expr){op:CmpOp}(h:op≠.In)(h2:op≠.NotIn):behindInMarks op b=false:=by
 have I:(op==CmpOp.In)=false:=by cases op<;>first|rfl|exact absurd rfl h
 have J:(op==CmpOp.NotIn)=false:=by cases op<;>first|rfl|exact absurd rfl h2
 cases b<;>simp[behindInMarks,I,J]
def HF(ta:TE):TE:=λσ H Q=>ta σ H λx H1=>Q (.bl<|decide<|x=.non) H1
def HG(ta:TE):TE:=λσ H Q=>ta σ H λx H1=>Q (.bl<|!decide (x=.non)) H1
def zm.none_iff{x:V}{v:Yc}(r:zm x v):(v==Value.none)=decide (x=.non):=by
 cases x with
 |non=>cases r;rfl
 |bl _=>cases r;rfl
 |int _=>obtain⟨t,rfl⟩:=r;rfl
 |str _=>obtain⟨t,rfl⟩:=r;rfl
 |byt _=>obtain⟨t,rfl⟩:=r;rfl
 |flt _=>obtain⟨t,rfl⟩:=r;rfl
 |ref _=>cases r;rfl
 |ty _=>cases r;rfl
def HH{j fy}(U:PE X a ta):PC X .Is a (.Constant .none j fy) (HF ta):=by intro J s g H Q I h;refine aW (U J s g H _ I h) λv t x l o p r=>?_;exact Constant_none (is_none_gen ⟨.bl _,l,o,by rw[p.none_iff];rfl,r⟩)
def HI{j fy}(U:PE X a ta):PC X .IsNot a (.Constant .none j fy) (HG ta):=by intro J s g H Q I h;refine aW (U J s g H _ I h) λv t x l o p r=>?_;exact Constant_none (isnot_none_gen ⟨.bl _,l,o,by rw[p.none_iff];rfl,r⟩)
def tB(t:TE):TT:=λσ H Q=>t σ H λx H1=>∃c,x=.bl c/\Q c H1
def HJ{op:CmpOp}{t:TE}(h:PC X op a b t)(h1:behindInMarks op b=false:=by first|exact uo _ (by decide) (by decide)|rfl):PE X (.Compare a [op] [b] pos) t:=λJ s U H Q I hw=>wpAny_Compare1 (h J s U H Q I hw) h1
def HK{op:CmpOp}{t:TE}(h:PC X op a b t)(h1:behindInMarks op b=false:=by first|exact uo _ (by decide) (by decide)|rfl):PT X (.Compare a [op] [b] pos) (tB t):=by intro J s U H Q I hw;refine wpAny_isTrue_Compare1 (wq (h J s U H _ I hw) λv r h1=>wq h1 λu C g=>wq g λc T ⟨x,j,l,o,p⟩=>?_) h1;obtain⟨d,rfl,q⟩:=p;cases o;exact wpAny_truthy_bool ⟨j,l,q⟩
def NO{t:TE}(h:PE X e t)(U:∀whole,isTrue e X.env whole=(do let v <-whole;standAt e.pos;holding [v] (truthy v)):=by intro _;rfl):PT X e (tB t):=by intro J s g H Q I hw;refine isTrue_plain (aW (h J s g H _ I hw) λv r x j l o p=>?_)<|U _;obtain⟨d,rfl,q⟩:=p;cases o;exact wpAny_truthy_bool ⟨j,l,q⟩
variable {tA vb:TT}{rest:X5}
def NP(t u:TT):TT:=λσ H Q=>t σ H λc H1=>if c=true then u σ H1 Q else Q false H1
def NQ(t u:TT):TT:=λσ H Q=>t σ H λc H1=>if c=true then Q true H1 else u σ H1 Q
def NR(t:TT):TT:=λσ H Q=>t σ H λc H1=>Q (!c) H1
def NS(U:PT X a tA):PW X (.BoolOp .And [a] pos) tA:=by intro j J s g H Q I h;refine isTrue_and<|wq (U J s g H Q I h) λc l e=>?_;cases c with|true=>exact isTrue_and_nil e|false=>exact e
def NT(U:PT X a tA):PW X (.BoolOp .Or [a] pos) tA:=by intro j J s g H Q I h;refine isTrue_or<|wq (U J s g H Q I h) λc l e=>?_;cases c with|false=>exact isTrue_or_nil e|true=>exact e
def NU(o:PT X a tA)(p:PW X (.BoolOp .And (b::rest) pos) vb):PW X (.BoolOp .And (a::b::rest) pos) (NP tA vb):=by intro r J s U H Q I h;refine isTrue_and<|wq (o J s U H _ I h) λc t ⟨g,j,l⟩=>?_;cases c with|true=>exact p r J t U g Q j l|false=>exact⟨g,j,l⟩
def NV(o:PT X a tA)(p:PW X (.BoolOp .Or (b::rest) pos) vb):PW X (.BoolOp .Or (a::b::rest) pos) (NQ tA vb):=by intro r J s U H Q I h;refine isTrue_or<|wq (o J s U H _ I h) λc t ⟨g,j,l⟩=>?_;cases c with|true=>exact⟨g,j,l⟩|false=>exact p r J t U g Q j l
def NW(U:PT X a tA):PT X (.UnaryOp .Not a pos) (NR tA):=by intro J s g H Q I h;exact isTrue_not<|U J s g H (λc j=>Q (!c) j) I h
def NX(ta tb:TE):TE:=λσ H Q=>ta σ H λx H1=>∃c,x=.bl c/\if c=true then tb σ H1 Q else Q (.bl false) H1
def NY(ta tb:TE):TE:=λσ H Q=>ta σ H λx H1=>∃c,x=.bl c/\if c=true then Q (.bl true) H1 else tb σ H1 Q
def NZ{op}{t:TE}(h:PE X a t):PE X (.BoolOp op [a] pos) t:=λJ s U H Q I hw=>BoolOp_one<|h J s U H Q I hw
def N0(o:PE X a ta)(p:PE X (.BoolOp .And (b::rest) pos) tb):PE X (.BoolOp .And (a::b::rest) pos) (NX ta tb):=by
 intro J s g H Q I h;refine BoolOp_and<|aW (o J s g H _ I h) λv r x j l t U=>?_;obtain⟨c,rfl,U⟩:=U;cases t;refine wpAny_truthy_bool ?_;cases c with
 |true=>exact p J r g j Q l U
 |false=>exact⟨.bl false,j,l,rfl,U⟩
def N5(o:PE X a ta)(p:PE X (.BoolOp .Or (b::rest) pos) tb):PE X (.BoolOp .Or (a::b::rest) pos) (NY ta tb):=by
 intro J s g H Q I h;refine BoolOp_or<|aW (o J s g H _ I h) λv r x j l t U=>?_;obtain⟨c,rfl,U⟩:=U;cases t;refine wpAny_truthy_bool ?_;cases c with
 |false=>exact p J r g j Q l U
 |true=>exact⟨.bl true,j,l,rfl,U⟩
def N6(t:TT)(ta tb:TE):TE:=λσ H Q=>t σ H λc H1=>if c=true then ta σ H1 Q else tb σ H1 Q
def N7(hc:PT X c tA)(p:PE X a ta)(r:PE X b tb):PE X (.IfExp c a b pos) (N6 tA ta tb):=by intro J s U H Q I h;refine wpAny_IfExp<|wq (hc J s U H _ I h) λd g ⟨j,l,o⟩=>?_;cases d with|true=>exact p J g U j Q l o|false=>exact r J g U j Q l o
end
def aH(K:Ah)(H:Hp)(a:Addr)(xs:Yj):Prop:=
 Rd H a (.lst xs)\/
  ∃(o:Obj) (eH:X0) (n:Nat),K.lookup a=some o/\o.cls=.type "list" /\ o.dict=none/\o.data=.seq eH n/\eH.size<=sizeLine/\zk xs eH.toList
def dS(K:Ah)(H:Hp)(a:Addr)(xs:Yj):Prop:=
 Rd H a (.tup xs)\/
  ∃(o:Obj) (eH:X0) (n:Nat),K.lookup a=some o/\o.cls=.type "tuple" /\ o.data=.seq eH n/\eH.size<=sizeLine/\zk xs eH.toList
def N8:Yc->Yk
 |.none=>some .non
 |.bool b=>some<|.bl b
 |.int i _=>some<|.int i
 |.str x _=>some<|.str x
 |.bytes b _=>some<|.byt b
 |.float b _=>some<|.flt b
 |.ref a=>some<|.ref a
 |.type n=>some<|.ty n
 |_=>none
def zm.abs{x:V}(r:zm x u):N8 u=some x:=by
 cases x with
 |non=>cases r;rfl
 |bl _=>cases r;rfl
 |int _=>obtain⟨t,rfl⟩:=r;rfl
 |str _=>obtain⟨t,rfl⟩:=r;rfl
 |byt _=>obtain⟨t,rfl⟩:=r;rfl
 |flt _=>obtain⟨t,rfl⟩:=r;rfl
 |ref _=>cases r;rfl
 |ty _=>cases r;rfl
def zm.inj{x y:V}(r:zm x u)(q:zm y u):x=y:=Bb<|r.abs.symm.trans q.abs
theorem zk.inj:∀{xs ys:Yj} {us:XZ},zk xs us->zk ys us->xs=ys:=by
 intro xs ys us h k
 induction h generalizing ys with
 |nil=>cases k;rfl
 |cons r t I=>
  cases k with|cons J U=>rw[r.inj J,I U]
section
variable {a:Addr}{ys:Yj}
def aH.of{K:Ah}(h:H a=some (.lst xs)):aH K H a xs:=.inl<|.inl h
abbrev EV:=@aH.of
def dS.of{K:Ah}(h:H a=some (.tup xs)):dS K H a xs:=.inl<|.inl h
def z0.list(I:z0 X pins σ H s)(h:aH X.K H a xs):∃eH:XZ,zk xs eH/\PlainL s.heap a eH.toArray/\xs.length<=sizeLine:=by
 rcases h with h|⟨o,eH,n,J,U,hd,g,j,r⟩
 ·obtain⟨z,eH,n,r,e⟩:=h.ok I.hok;exact⟨eH,r,⟨_,n,e,rfl,rfl,rfl⟩,z⟩
 ·refine⟨eH.toList,r,⟨o,n,I.kIn a o J,U,hd,by simpa using g⟩,?_⟩;have e:=r.length;simp only[A5] at e;lia
def z0.tuple(I:z0 X pins σ H s)(h:dS X.K H a xs):∃eH:XZ,zk xs eH/\IsTup s.heap a eH.toArray/\xs.length<=sizeLine:=by
 rcases h with h|⟨o,eH,n,J,U,g,j,r⟩
 ·obtain⟨z,eH,r,p⟩:=h.ok I.hok;exact⟨eH,r,p,z⟩
 ·refine⟨eH.toList,r,⟨o,I.kIn a o J,U,n,by simpa using g⟩,?_⟩;have e:=r.length;simp only[A5] at e;lia
def z0.list_inj(I:z0 X pins σ H s)(h:aH X.K H a xs)(h':aH X.K H a ys):xs=ys:=by
 obtain⟨U,r,⟨o,n,e,_,_,d⟩,_⟩:=I.list h;obtain⟨J,l,⟨p,t,g,_,_,j⟩,_⟩:=I.list h';rw[e] at g;cases g;rw[d] at j;injection j with d1 _
 have:U=J:=by simpa using Bs Array.toList d1
 subst this;exact r.inj l
def z0.tuple_inj(I:z0 X pins σ H s)(h:dS X.K H a xs)(h':dS X.K H a ys):xs=ys:=by
 obtain⟨U,r,⟨o,e,_,n,d⟩,_⟩:=I.tuple h;obtain⟨J,l,⟨p,g,_,t,j⟩,_⟩:=I.tuple h';rw[e] at g;cases g;rw[d] at j;injection j with d1 _
 have:U=J:=by simpa using Bs Array.toList d1
 subst this;exact r.inj l
end
abbrev Cx.wish(X:Cx)(E:XT):Cx:={X with xe:=E}
abbrev Cx.nox(X:Cx):Cx:=X.wish λ_ _=>False
theorem Cx.Ok.wish(ok:X.Ok)(E:XT):(X.wish E).Ok:=
 ⟨ok.mod,ok.kind,ok.glob,ok.blt,ok.above,ok.inj,ok.has,ok.cab,ok.hd,ok.frames,ok.stk,ok.exf,ok.bs,ok.bsz,ok.noex,ok.exfs,ok.funs,ok.frf⟩
theorem Cx.Ok.unwish(ok:(X.wish E).Ok):X.Ok:=
 ⟨ok.mod,ok.kind,ok.glob,ok.blt,ok.above,ok.inj,ok.has,ok.cab,ok.hd,ok.frames,ok.stk,ok.exf,ok.bs,ok.bsz,ok.noex,ok.exfs,ok.funs,ok.frf⟩
theorem z0.wish(I:z0 X pins σ H s)(E:XT):z0 (X.wish E) pins σ H s:=⟨I.ok.wish E,I.os,I.bare,I.base,I.loc,I.cell,I.free,I.freeC,I.pin,I.hok,I.len,I.tk⟩
theorem z0.unwish(I:z0 (X.wish E) pins σ H s):z0 X pins σ H s:=⟨I.ok.unwish,I.os,I.bare,I.base,I.loc,I.cell,I.free,I.freeC,I.pin,I.hok,I.len,I.tk⟩
theorem SP.unwish{D:yL}{f:Flow}(h:SP (X.wish E) pins D f s'):SP X pins D f s':=by
 cases f with
 |next=>obtain⟨J,U,I,q⟩:=h;exact⟨J,U,I.unwish,q⟩
 |brk=>obtain⟨J,U,I,q⟩:=h;exact⟨J,U,I.unwish,q⟩
 |cont=>obtain⟨J,U,I,q⟩:=h;exact⟨J,U,I.unwish,q⟩
 |ret u=>obtain⟨v,J,U,I,r,q⟩:=h;exact⟨v,J,U,I.unwish,r,q⟩
def mH.nox{st:X6}{t:TS}(h:mH X.nox st t):mH X st t:=λJ s U H D I hw=>
 A4 (h J s U H D (I.wish _) hw) (λ_ _ q=>q.unwish) λ_ _ z=>False.elim z
section
variable {rest:X6}{t u:TS}{te:TE}
def N9:TS:=λD σ H=>D.nx σ H
def N'(t u:TS):TS:=λD σ H=>t {D with nx:=u D} σ H
def Oa:mH X [] N9:=λ_ _ J H _ I h=>wpAny_execs_nil ⟨J,H,I,h⟩
def uT(h1:PS X st t)(h2:mH X rest u):mH X (st::rest) (N' t u):=by
 intro J s g H D I h;refine wpAny_execs_cons<|wq (h1 J s g H {D with nx:=u D} I h) λf j q=>?_;cases f with
 |next=>
  obtain⟨U,l,o,q⟩:=q;exact h2 J j U l D o q
 |ret v=>exact q
 |brk=>exact q
 |cont=>exact q
def Oc(h1:PS X st t):mH X [st] t:=by intro J s U H D I h;refine wpAny_execs_cons<|wq (h1 J s U H D I h) λf g q=>?_;cases f with|next=>exact wpAny_execs_nil q|ret v=>exact q|brk=>exact q|cont=>exact q
def Od:TS:=λD σ H=>D.ct σ H
def vF:PS X (.Continue pos) Od:=λ_ _ J H _ I h=>wpAny_Continue ⟨J,H,I,h⟩
def z0.quiet(I:z0 X pins σ H s):interactive X.env=false:=by simp[interactive,I.ok.kind]
def Oe(te:TE):TS:=λD σ H=>te σ H λ_ H1=>D.nx σ H1
def Of(g:PE X e te)(hs:swapsWith e none pos.line X.env=pure false:=by rfl):PS X (.Expr e pos) (Oe te):=by intro J s U H D I h;exact wpAny_Expr_any (aW (g J s U H _ I h) λv p x j l r o=>⟨U,j,l,o⟩) I.quiet hs
def Og(te:TE):TS:=λD σ H=>te σ H D.rt
def Oh(g:PE X e te):PS X (.Return (some e) pos) (Og te):=by intro J s U H D I h;exact wpAny_Return_some<|aW (g J s U H _ I h) λv r x j l o p=>⟨x,U,j,l,o,p⟩
def Oi:TS:=λD _ H=>D.rt .non H
def Oj:PS X (.Return none pos) Oi:=λ_ _ J H _ I h=>wpAny_Return_none ⟨.non,J,H,I,rfl,h⟩
def Ol(c:TT)(t u:TS):TS:=λD σ H=>c σ H λb H1=>if b=true then t D σ H1 else u D σ H1
def Om{a b:X6}{tc:TT}(hc:PT X c tc)(p:mH X a t)(r:mH X b u):PS X (.If c a b pos) (Ol tc t u):=by intro J s U H D I h;refine wpAny_If<|wq (hc J s U H _ I h) λd g ⟨j,l,o⟩=>?_;cases d with|true=>exact p J g U j D l o|false=>exact r J g U j D l o
end
abbrev TG:=V->St->Hp->(St->Hp->Prop)->Prop
abbrev k_:=Yj->St->Hp->(St->Hp->Prop)->Prop
def PG(X:Cx)(target:Expr)(t:TG):Prop:=
 ∀(pins:List<|Addr×Obj) (s:Yd) (σ:St) (H:Hp) (v:V) (u:Yc) (Q:St->Hp->Prop),z0 X pins σ H s->zm v u->t v σ H Q->
  wpAny (model X.prog X.w) X.A (assign target X.env u) (λ_ s'=>∃hE H',z0 X pins hE H' s'/\Q hE H') X.xe s
def PGs(X:Cx)(ts:X5)(t:k_):Prop:=
 ∀(pins:List<|Addr×Obj) (s:Yd) (σ:St) (H:Hp) (vs:Yj) (us:XZ) (Q:St->Hp->Prop),z0 X pins σ H s->zk vs us->t vs σ H Q->
  wpAny (model X.prog X.w) X.A (assignInOrder ((assignEach ts X.env).map (·.2)) us) (λ_ s'=>∃hE H',z0 X pins hE H' s'/\Q hE H') X.xe s
abbrev Gv:=V->V->V->Hp->(Hp->Prop)->Prop
def HL(X:Cx)(t:Gv):Prop:=
 ∀(pins:List<|Addr×Obj) (s:Yd) (σ:St) (H:Hp) (o i v:V) (I J u:Yc) (Q:Hp->Prop),z0 X pins σ H s->zm o I->zm i J->zm v u->t o i v H Q->
  wpAny (model X.prog X.w) X.A (setItem I J u) (λ_ s'=>∃H',z0 X pins σ H' s'/\Q H') X.xe s
abbrev FH:=V->V->Hp->VK->Prop
def E4(X:Cx)(op:Operator)(t:FH):Prop:=
 ∀(pins:List<|Addr×Obj) (s:Yd) (σ:St) (H:Hp) (x y:V) (v u:Yc) (Q:VK),z0 X pins σ H s->zm x v->zm y u->t x y H Q->
  wpAny (model X.prog X.w) X.A (inplaceOp op v u) (EP X pins σ Q) X.xe s
def du(i:Nat):TG:=λv σ H Q=>Q (σ.set i<|some v) H
def mS(hN:X.N.Nodup)(hi:X.N[i]?=some x)(U:Loc X.env.scope x)(g:X.fn x=true\/X.env.scope.names.lookup x=some .local:=by first|exact .inl rfl|exact .inr rfl|assumption):PG X (.Name x pos) (du i):=by intro J s l H v u Q I r h;exact wpAny_assign_Name<|aU I hN hi U r (λo j=>⟨_,H,j,h⟩) g
def Gw:k_:=λvs σ H Q=>vs=[]/\Q σ H
def vX(t:TG)(u:k_):k_:=λvs σ H Q=>∃v r,vs=v::r/\t v σ H λhE H'=>u r hE H' Q
def HM:PGs X [] Gw:=by rintro J s U H g j Q I r⟨e,h⟩;subst e;cases r;exact assignInOrder_nil ⟨U,H,I,h⟩
def og{t:TG}{u:k_}(h1:PG X e t)(h2:PGs X es u)
 (hs:(assignEach (e::es) X.env).map (·.2)=assign e X.env::(assignEach es X.env).map (·.2):=by rfl):PGs X (e::es) (vX t u):=by
 rintro J s g H T us Q I r⟨v,vr,j,h⟩;subst j;cases r with
 |cons r rr=>
  rw[hs];refine assignInOrder_cons<|wq (h1 J s g H _ _ _ I r h) λ_ l ⟨U,o,p,C⟩=>?_;exact h2 J l U o _ _ Q p rr C
def Gx(K:Ah)(n:Nat)(t:k_):TG:=λv σ H Q=>∃a xs,v=.ref a/\dS K H a xs/\xs.length=n/\t xs σ H Q
def HN{k:Nat}{t:k_}{n:Nat}(hc:X.calm=true)(h:PGs X es t)
 (l:(assignEach es X.env).length=n:=by rfl) (U:(assignEach es X.env).findIdx? (·.1)=none:=by rfl):PG X (.Tuple es k pos) (Gx X.K n t):=by
 rintro J s g H v u Q I r⟨a,p,C,T,hl,hw⟩;subst C;cases r;obtain⟨a0,j,ht,hz⟩:=I.tuple T;refine assign_Tuple_tuple (I.ok.hd hc) ht (by simp[l,<-hl,j.length]) U λh' hx=>?_;have I1:z0 X J g H {s with heap:=h'}:=I.kept (t':=s.toks) λb o e=>hx b o (A9<|wh e) e;exact h J _ g H p _ Q I1 (by simpa using j) hw
def Oo(to ti:TE)(t:Gv):TG:=λv σ H Q=>to σ H λo H1=>ti σ H1 λi H2=>t o i v H2 λI=>Q σ I
def Op{i:Expr}{to ti:TE}{t:Gv}(l:PE X o to)(hi:PE X i ti)(hs:HL X t)
 (p:∀v,assign (.Subscript o i pos) X.env v=(do
  let U <-holding [v] (eval o X.env)
  let g <-holding [v,U] (eval i X.env)
  standAt pos
  holding [v,U,g] (setItem U g v)
  release [v,U,g] []):=by intro _;rfl):PG X (.Subscript o i pos) (Oo to ti t):=by
 intro J s j H v u Q I r h;rw[p];refine Aa<|Bi<|aW (l J s j H _ I h) λU C x T I1 r1 q1=>?_;refine Aa<|Bi<|aW (hi J C j T _ I1 q1) λg s2 y H2 I2 r2 q2=>?_;refine Aa<|wpAny_standAt<|Aa<|Bi<|wq (hs J s2 j H2 x y v U g u _ I2 r1 r2 r q2) λ_ s3 ⟨H3,I3,q3⟩=>?_;exact wpAny_release ⟨j,H3,I3,q3⟩
def Gy(te:TE)(g:TG):TS:=λD σ H=>te σ H λx H1=>g x σ H1 D.nx
def HQ{te:TE}{g:TG}(j:PE X e te)(l:PG X tg g)(hs:swapsWithSole [tg] e pos.line X.env=pure false:=by rfl)(hw:swappedStores [tg] e X.env=pure none:=by rfl)
 (h1:(assignEach [tg] X.env).map (·.2)=[assign tg X.env]:=by rfl):PS X (.Assign [tg] e pos) (Gy te g):=by
 intro J s U H D I h;refine wpAny_Assign_stores (aW (j J s U H _ I h) λv o x p r t C=>?_) hs hw;rw[h1];exact wq (l J o U p x v _ r t C) λ_ T q=>q
def Oq{te:TE}(hN:X.N.Nodup)(hi:X.N[i]?=some x)(U:Loc X.env.scope x)(g:PE X e te)(hs:swapsWith e (some<|.Name x fy) pos.line X.env=pure false:=by rfl)(j:X.fn x=true\/X.env.scope.names.lookup x=some .local:=by first|exact .inl rfl|exact .inr rfl|assumption):
 PS X (.Assign [.Name x fy] e pos) (Gy te<|du i):=by
 intro J s l H D I h;refine wpAny_Assign_Name (aW (g J s l H _ I h) λv T y o p r t=>?_) hs;exact aU p hN hi U r (λs2 C=>⟨_,o,C,t⟩) j
def Ot(i j:Nat)(ta:TA):TS:=λD σ H=>ta σ H λvs H1=>∃v w,vs=[v,w]/\D.nx ((σ.set i<|some v).set j<|some w) H1
def Ou{y:Str}{a b:Expr}{ta:TA}{px pt:Pos}{kt t U}(hc:X.calm=true)(hN:X.N.Nodup)(hi:X.N[i]?=some x)(hj:X.N[j]?=some y)(C:i≠j)
 (hx:X.env.scope.names.lookup x=some .local) (hy:X.env.scope.names.lookup y=some .local) (ha:PA X [a,b] ta)
 (hw:swappedStores [.Tuple [.Name x px,.Name y py] kt pt] (.Tuple [a,b] t U) X.env=pure (some [x,y]))
 (hs:swapsWithSole [.Tuple [.Name x px,.Name y py] kt pt] (.Tuple [a,b] t U) pos.line X.env=pure false:=by rfl):
 PS X (.Assign [.Tuple [.Name x px,.Name y py] kt pt] (.Tuple [a,b] t U) pos) (Ot i j ta):=by
 intro J s σ H D I h;rw[exec_Assign_arm];refine Aa<|wpAny_standAt ?_;rw[hs];refine Aa<|Aj ?_;rw[AA (by decide)];refine Aa<|Tuple_<|Ez (ha _ J s σ H _ I h) λus g vs H1 I1 r1 T=>?_;obtain⟨v,w,e1,T⟩:=T;subst e1;obtain⟨l,r,rfl,rv,a0⟩:∃l r,us=[l,r]/\zm v l/\zm w r:=by
  cases r1 with
  |cons p q=>
   cases q with
   |cons p' q'=>
    cases q';exact⟨_,_,rfl,p,p'⟩
 refine Bn ?_ (by show 2<=sizeLine;decide);have I2:z0 X J σ H1 {g with heap:=g.heap.push {cls:=.type "tuple",data:=.seq [l,r].toArray}}:=I1.kept (t':=g.toks) λb o e=>vc _ e;rw[hw];refine Aa<|Aj ?_;show wpAny (model X.prog X.w) X.A (do rule "assign.swapped-stores";let items <-unpackItems (.ref g.heap.objs.size) 2 none;assignInOrder [λv=>bindName X.env y v,λv=>bindName X.env x v] items.reverse;pure Flow.next) _ _ _;refine Aa<|Bt<|Aa<|unpackItems_tuple (items:=#[l,r]) (I.ok.hd hc) (IsTup.new g.heap _) λh' a1=>?_;have I3:=I2.kept (h':=h') (t':=g.toks) λb o e=>a1 b o (A9<|wh e) e;show wpAny _ _ (assignInOrder [λv=>bindName X.env y v,λv=>bindName X.env x v] [r,l] >>= λ_=>pure Flow.next) _ _ _;refine Aa<|assignInOrder_cons<|wpAny_bindName<|aU I3 hN hj (.inl hy) a0 (λs2 I4=>?_)<|.inr hy;refine assignInOrder_cons<|wpAny_bindName<|aU I4 hN hi (.inl hx) rv (λs3 I5=>assignInOrder_nil<|Aj ?_)<|.inr hx;rw[DO _ _<|AN C] at I5;exact⟨_,H1,I5,T⟩
def Ov(i:Nat)(te:TE)(ti:FH):TS:=λD σ H=>∃x,σ[i]?=some (some x)/\te σ H λy H1=>ti x y H1 λz H2=>D.nx (σ.set i<|some z) H2
def Ow{te:TE}{op:Operator}{ti:FH}(hN:X.N.Nodup)(hi:X.N[i]?=some x)(p:Loc X.env.scope x)(C:PE X e te)(T:E4 X op ti)(hf:X.fn x=true\/X.env.scope.names.lookup x=some .local:=by first|exact .inl rfl|exact .inr rfl|assumption):
 PS X (.AugAssign (.Name x fy) op e pos) (Ov i te ti):=by
 rintro J s t H D I⟨v,e1,h⟩;obtain⟨m,hn,hl⟩:=I.loc;have vis:A' X.env.scope x:=by rcases p with k|k;exact .inl k;exact .inr<|.inl k
 obtain⟨u,r,l⟩:=hl i x v hi e1 vis;refine wpAny_AugAssign_Name ?_;have go:wpAny (model X.prog X.w) X.A (eval e X.env) (λw j=>wpAny (model X.prog X.w) X.A (inplaceOp op u w) (λr o=>wpAny (model X.prog X.w) X.A (storeName X.env x r) (λ_=>SP X J D .next) X.xe o) X.xe j) X.xe s:=by refine aW (C J s t H _ I h) λw s1 y H1 I1 r1 q1=>?_;refine aW (T J s1 t H1 v y u w _ I1 r r1 q1) λz s2 zv H2 I2 r2 q2=>?_;exact aU I2 hN hi p r2 (λs3 I3=>⟨_,H2,I3,q2⟩) hf
 rcases l with⟨U,hm⟩|⟨U,c,hc,g⟩
 ·exact wpAny_loadName_local I.ok.kind U hn hm go
 ·rcases U with U|U
  ·exact wpAny_loadName_cell I.ok.kind U hc g go
  ·rcases p with k|k
   ·have:X.env.scope.names.lookup x=some .free:=U;rw[k] at this;cases this
   ·have:X.env.scope.names.lookup x=some .free:=U;rw[k] at this;cases this
def HR(f:Int->Int->Int):FH:=λx y H Q=>∃i j,x=.int i/\y=.int j/\Q (.int<|f i j) H
def Ox:E4 X .Add (HR λi j=>i+j):=by rintro J s p H x y v u Q I U g⟨i,j,l,o,q⟩;subst l;subst o;obtain⟨t,rfl⟩:=U;obtain⟨r,rfl⟩:=g;exact iadd_int ⟨.int _,H,I.tok _,⟨_,rfl⟩,q⟩
def Oy(c:TT)(tb:TS):TS:=λD σ H=>∃W:Nat->St->Hp->Prop,(∃m,W m σ H)/\∀m σ H,W m σ H->
 c σ H λb H1=>if b=true then ∃N:St->Hp->Prop,(∀hE H',N hE H'->∃I,I<m/\W I hE H')/\tb {D with nx:=N,ct:=N,bk:=D.nx} σ H1 else D.nx σ H1
def Oz{tc:TT}{tb:TS}(hp:PassesOwn (model X.prog X.w) X.A X.env X.xe)(hc:PT X c tc)(hb:mH X body tb):PS X (.While c body [] pos) (Oy tc tb):=by
 rintro J s σ H D I⟨W,⟨m0,w0⟩,turn⟩;refine wpAny_While<|codeAny_whileLoop (λn s'=>∃j H',z0 X J j H' s'/\W n j H') ?_ m0 ⟨σ,H,I,w0⟩;rintro n s1 ⟨g,H1,I1,w1⟩;refine wpAny_passesOwn hp<|wq (hc J s1 g H1 _ I1<|turn n g H1 w1) λb s2 ⟨H2,I2,o⟩=>?_;cases b with
 |true=>
  obtain⟨N,hN,o⟩:=o;rw[AF rfl];refine wpAny_passesOwn hp<|wq (hb J s2 g H2 _ I2 o) λf s3 p=>?_;cases f with
  |next=>
   obtain⟨U,l,r,t⟩:=p;obtain⟨C,T,w3⟩:=hN U l t;exact⟨C,T,U,l,r,w3⟩
  |cont=>
   obtain⟨U,l,r,t⟩:=p;obtain⟨C,T,w3⟩:=hN U l t;exact⟨C,T,U,l,r,w3⟩
  |brk=>exact p
  |ret v=>exact p
 |false=>
  rw[AA AL];exact wpAny_execs_nil ⟨g,H2,I2,o⟩
structure It where
 go:Nat->Hp->Prop
 yld:Nat->Hp->V->Hp->Prop
 stop:Nat->Hp->Prop
def qJ(X:Cx)(pins:List<|Addr×Obj)(H:Hp)(b:Addr):Prop:=
 H b=none/\b≠X.env.locals/\b∉X.fs/\(b∈X.ex\/X.s₀.heap.objs.size<=b)/\(∀x c,X.env.cells.lookup x=some c->c≠b)/\∀p∈X.pn++pins,p.1≠b
def z0.fpOk{b:Addr}(I:z0 X pins σ H s)(J:s.heap.objs.size<=b)(U:H' b=none):qJ X pins H' b:=by
 refine⟨U,CN<|AQ I.lt J,I.nofs J,.inr<|AE I.sz J,λx c e z=>?_,λp g z=>?_⟩
 ·obtain⟨v,q⟩:=I.cell x c e;exact absurd (AQ q.lt (by rw[z];exact J))<|CZ _
 ·exact absurd (AQ (wh (I.pin p g).1) (by rw[z];exact J))<|CZ _
structure yD(P:Ye)(w:Yg)(K:Ah)(tg:Expr)(J:It)(fp:List Addr)(it:Addr)(tn:Nat->Yh->Prop):Prop where
 mem:it∈fp
 obj:∀i h,tn i h->∀b∈fp,∃o,h.get? b=some o/\∀v,o.data≠.cell v
 keep:∀i h h',tn i h->(∀b∈fp,∀o,h.get? b=some o->h'.get? b=some o)->tn i h'
 item:∀(X:Cx),X.prog=P->X.w=w->X.K=K->X.calm=true->∀(i:Nat) (pins:List<|Addr×Obj) (s:Yd) (σ:St) (H:Hp) (E:XT),z0 X pins σ H s->(∀b∈fp,qJ X pins H b)->tn i s.heap->J.go i H->
  wpAny (model P w) X.A (pyNext<|.ref it) (λr s1=>∃u,r=some u/\
   wpAny (model P w) X.A (letOwnedTupleGo tg (.ref it) u) (λ_ s2=>∃x H',z0 X pins σ H' s2/\zm x u/\J.yld i H x H'/\tn (i+1) s2.heap/\∀b∈fp,H' b=none) E s1) E s
 done:∀(X:Cx),X.prog=P->X.w=w->X.K=K->X.calm=true->∀(i:Nat) (pins:List<|Addr×Obj) (s:Yd) (σ:St) (H:Hp) (E:XT),z0 X pins σ H s->(∀b∈fp,qJ X pins H b)->tn i s.heap->J.stop i H->
  wpAny (model P w) X.A (pyNext<|.ref it) (λr s1=>r=none/\z0 X pins σ H s1) E s
 self:∀(A:Around) (i:Nat) (s:Yd) (Q:XT) (E:XT),tn i s.heap->Q (.ref it) s->wpAny (model P w) A (pyIter<|.ref it) Q E s
abbrev TI:=St->Hp->(It->Hp->Prop)->Prop
def Gz(X:Cx)(pins:List<|Addr×Obj)(σ:St)(tg:Expr)(R:It->Hp->Prop)(I:Yc)(U:Yd):Prop:=
 ∃(it:Addr) (fp:List Addr) (g:Nat->Yh->Prop) (J:It) (H':Hp),I=.ref it/\z0 X pins σ H' U/\yD X.prog X.w X.K tg J fp it g/\g 0 U.heap/\(∀b∈fp,qJ X pins H' b)/\R J H'
def PI(X:Cx)(tg iter:Expr)(wi:TI):Prop:=
 ∀(pins:List<|Addr×Obj) (s:Yd) (σ:St) (H:Hp) (R:It->Hp->Prop),z0 X pins σ H s->wi σ H R->
  wpAny (model X.prog X.w) X.A (eval iter X.env) (λv I=>wpAny (model X.prog X.w) X.A (pyIter v) (Gz X pins σ tg R) X.xe I) X.xe s
def FI{o:Obj}{n:Yi}{vs:X0}{Q:XU}(J:s.heap.get? it=some o)(hc:o.cls=.type n)(hd:o.data=.fields vs)
 (U:["enumerate","zip","dict_itemiterator","dict_reverseitemiterator","odict_iterator","itertools.zip_longest","itertools.pairwise"].contains n=false) (I:Q () s):wpAny M A (letOwnedTupleGo tg (.ref it) u) Q E s:=by
 unfold letOwnedTupleGo;cases tg<;>first
  |exact Aj I
  |(cases u<;>first
   |exact Aj I
   |(refine Aa (wpAny_load J ?_)
     rw[hc,hd];show wpAny M A (if (["enumerate","zip","dict_itemiterator","dict_reverseitemiterator","odict_iterator","itertools.zip_longest","itertools.pairwise"].contains n&&vs[0]?==some (rawInt _))=true then _ else _) Q E s;rw[AA (by intro h;rw[U,Bool.false_and] at h;cases h)];exact Aj I))
def GA(K:Ah)(a:Addr):It:=
 ⟨λi H=>∃xs x,aH K H a xs/\xs[i]?=some x,λi H x H'=>H'=H/\∀xs,aH K H a xs->xs[i]?=some x,λi H=>∃xs,aH K H a xs/\xs.length<=i⟩
def GB(K:Ah)(a:Addr):It:=
 ⟨λi H=>∃xs x,dS K H a xs/\xs[i]?=some x,λi H x H'=>H'=H/\∀xs,dS K H a xs->xs[i]?=some x,λi H=>∃xs,dS K H a xs/\xs.length<=i⟩
def Fl(lo:Int)(n:Nat):It:=⟨λi _=>i<n,λi H x H'=>H'=H/\x=.int (lo+i),λi _=>n<=i⟩
def OA{P:Ye}{w:Yg}{K:Ah}(a it:Addr):yD P w K tg (GA K a) [it] it (λi h=>h.IsListIter it a i) where
 mem:=by simp
 obj:=λi h st b U=>by
  have e:b=it:=by simpa using U
  subst e;obtain⟨o,e,c,d⟩:=st;exact⟨o,e,λv z=>by rw[d] at z;cases z⟩
 keep:=λi h j st k=>st.at λo e=>k it (by simp) o e
 item:=by intro X t hw C hc i J s σ H E I l st T;subst t hw C;obtain⟨xs,x,r,hx⟩:=T;obtain⟨a0,rv,p,hz⟩:=I.list r;obtain⟨u,hu,ru⟩:=rv.get hx;obtain⟨f0,f1,f2,f3,f4,f5⟩:=l it (by simp);refine wpAny_pyNext_list_item st p.isList (x:=u) (by simpa using hu) λj g sb=>?_;have I1:z0 X J σ H {s with heap:=j}:=I.turned (t':=s.toks) (λb o U e=>(sb.2 b U).trans e) f0 f1 f3 f4 f5;obtain⟨o,e,c,d⟩:=id g;exact⟨u,rfl,FI (s:={s with heap:=j}) e c d (by decide) ⟨x,H,I1,ru,⟨rfl,λys hy=>by rw[I.list_inj hy r];exact hx⟩,g,λb U=>(l b U).1⟩⟩
 done:=by intro X t hw C hc i J s σ H E I l st T;subst t hw C;obtain⟨xs,r,hx⟩:=T;obtain⟨a0,rv,p,hz⟩:=I.list r;obtain⟨f0,f1,f2,f3,f4,f5⟩:=l it (by simp);have hl:=rv.length;exact wpAny_pyNext_list_end (I.ok.hd hc) st p.isList (by simp;lia) λj eb=>⟨rfl,I.turned (t':=s.toks) (λb o U e=>eb b o U e) f0 f1 f3 f4 f5⟩
 self:=λ_ _ _ _ _ st h=>wpAny_pyIter_listiter st h
def yf{P:Ye}{w:Yg}{K:Ah}(a it:Addr):yD P w K tg (GB K a) [it] it (λi h=>h.IsTupleIter it a i) where
 mem:=by simp
 obj:=λi h st b U=>by
  have e:b=it:=by simpa using U
  subst e;obtain⟨o,e,c,d⟩:=st;exact⟨o,e,λv z=>by rw[d] at z;cases z⟩
 keep:=λi h l st k=>st.at λo e=>k it (by simp) o e
 item:=by intro X C hw T hc i J s σ H E I r st hg;subst C hw T;obtain⟨xs,x,t,hx⟩:=hg;obtain⟨g,rv,p,hz⟩:=I.tuple t;obtain⟨u,hu,ru⟩:=rv.get hx;obtain⟨f0,f1,f2,f3,f4,f5⟩:=r it (by simp);refine wpAny_pyNext_tuple_item st (show s.heap.IsTuple a g.toArray from p) (x:=u) (by simpa using hu) λl j sb=>?_;have I1:z0 X J σ H {s with heap:=l}:=I.turned (t':=s.toks) (λb o U e=>(sb.2 b U).trans e) f0 f1 f3 f4 f5;obtain⟨o,e,c,d⟩:=id j;exact⟨u,rfl,FI (s:={s with heap:=l}) e c d (by decide) ⟨x,H,I1,ru,⟨rfl,λys hy=>by rw[I.tuple_inj hy t];exact hx⟩,j,λb U=>(r b U).1⟩⟩
 done:=by intro X C hw T hc i J s σ H E I r st hg;subst C hw T;obtain⟨xs,t,hx⟩:=hg;obtain⟨g,rv,p,hz⟩:=I.tuple t;obtain⟨f0,f1,f2,f3,f4,f5⟩:=r it (by simp);have hl:=rv.length;exact wpAny_pyNext_tuple_end (I.ok.hd hc) st (show s.heap.IsTuple a g.toArray from p) (by simp;lia) λl eb=>⟨rfl,I.turned (t':=s.toks) (λb o U e=>eb b o U e) f0 f1 f3 f4 f5⟩
 self:=λ_ _ _ _ _ st h=>wpAny_pyIter_tupleiter st h
theorem xO{P:Ye}{w:Yg}{K:Ah}(it:Addr)(lo:Int)(n:Nat):yD P w K tg (Fl lo n) [it] it (λi h=>IsRangeIter h it (lo+(i:Nat)*1) ((n:Int)-(i:Nat)) 1) where
 mem:=by simp
 obj:=λi h st b U=>by
  have e:b=it:=by simpa using U
  subst e;exact⟨_,st,λv z=>by have z':Data.fields _=Data.cell v:=z;cases z'⟩
 keep:=λi h j st k=>k it (by simp) _ st
 item:=by intro X p hw r C i J s σ H E I l st T;subst p hw r;obtain⟨f0,f1,f2,f3,f4,f5⟩:=l it (by simp);have W:=Walks.range (prog:=X.prog) (w:=X.w) (I.ok.hd C) it lo 1 n;refine j4 I.tk<|W.item i s _ _ T st λv j tk hv g kk ht=>?_;obtain⟨t,rfl⟩:=hv;have I1:z0 X J σ H {s with heap:=j,toks:=tk}:=I.turned (λb o U e=>kk b o (by simpa using U) e) f0 f1 f3 f4 f5;refine⟨_,rfl,FI (s:={s with heap:=j,toks:=tk}) (n:="range_iterator") g rfl rfl (by decide) ⟨.int<|lo+i,H,I1,⟨t,?_⟩,⟨rfl,rfl⟩,g,λb U=>(l b U).1⟩⟩;rw[Int.mul_one]
 done:=by intro X p hw r C i J s σ H E I l st T;subst p hw r;obtain⟨f0,f1,f2,f3,f4,f5⟩:=l it (by simp);exact wpAny_pyNext_range_end (I.ok.hd C) st (by have:n<=i:=T;lia) λj eb=>⟨rfl,I.turned (t':=s.toks) (λb o U e=>eb b o U e) f0 f1 f3 f4 f5⟩
 self:=λ_ _ _ _ _ st h=>wpAny_pyIter_rangeiter st h
end L2
variable {wi:L2.TI}
namespace L2
open PySem PySem.Spec PyProof.Rows
def OB(K:Ah)(tl:TE):TI:=λσ H R=>tl σ H λx H1=>∃a,x=.ref a/\(∃xs,aH K H1 a xs)/\R (GA K a) H1
def OC(K:Ah)(tl:TE):TI:=λσ H R=>tl σ H λx H1=>∃a,x=.ref a/\(∃xs,dS K H1 a xs)/\R (GB K a) H1
def OD{l:Expr}{tl:TE}(j:PE X l tl):PI X tg l (OB X.K tl):=by
 intro J s r H R I h;refine aW (j J s r H _ I h) λv U x t g C T=>?_;obtain⟨a,e,⟨xs,hq⟩,q⟩:=T;subst e;cases C;obtain⟨a0,rv,p,hz⟩:=g.list hq;refine wpAny_pyIter_list p.isList ?_;refine⟨U.heap.objs.size,[U.heap.objs.size],_,_,t,rfl,g.kept (t':=U.toks) λb o e=>vc _ e,OA a _,⟨_,wn _ rfl,rfl,rfl⟩,λb hb=>?_,q⟩;have e:b=U.heap.objs.size:=by simpa using hb
 subst e;exact g.fpOk (Ak _)<|g.hok.fresh<|Ak _
def OE{l:Expr}{tl:TE}(r:PE X l tl):PI X tg l (OC X.K tl):=by
 intro J s t H R I h;refine aW (r J s t H _ I h) λv U x C g T q1=>?_;obtain⟨a,e,⟨xs,hq⟩,q⟩:=q1;subst e;cases T;obtain⟨j,rv,p,hz⟩:=g.tuple hq;refine wpAny_pyIter_tuple (show U.heap.IsTuple a j.toArray from p) ?_;refine⟨U.heap.objs.size,[U.heap.objs.size],_,_,C,rfl,g.kept (t':=U.toks) λb o e=>vc _ e,yf a _,⟨_,wn _ rfl,rfl,rfl⟩,λb hb=>?_,q⟩;have e:b=U.heap.objs.size:=by simpa using hb
 subst e;exact g.fpOk (Ak _)<|g.hok.fresh<|Ak _
def OF{R:It->Hp->Prop}{hi:Int}{t u v:Tok}{tk:Nat}(I:z0 X pins σ H s)(h1 : -(2 ^ 62)<=lo)(h2:lo<2 ^ 62)(U : -(2 ^ 62)<=hi)(g:hi<2 ^ 62)
 (q:R (Fl lo (hi-lo).toNat) H) (r:0<tk:=by walk_at "t"):wpAny (model X.prog X.w) X.A (pyIter<|.ref s.heap.objs.size) (Gz X pins σ tg R) E {s with heap:=s.heap.push {cls:=.type "range",data:=.fields #[.int lo t,.int hi u,.int 1 v]},toks:=tk}:=by
 refine wpAny_pyIter_range (IsRange.new ..) (small_one h1 h2 U g) ?_;have J:z0 X pins σ H {s with heap:=s.heap.push {cls:=.type "range",data:=.fields #[.int lo t,.int hi u,.int 1 v]},toks:=tk}:=I.kept λb o e=>vc _ e;refine⟨(s.heap.push {cls:=.type "range",data:=.fields #[.int lo t,.int hi u,.int 1 v]}).objs.size,[(s.heap.push {cls:=.type "range",data:=.fields #[.int lo t,.int hi u,.int 1 v]}).objs.size],_,_,H,rfl,
  J.kept (t':=tk) λb o e=>vc _ e,xO _ lo (hi-lo).toNat,?_,λb j=>?_,q⟩
 ·have l:lo+((0:Nat):Int)*1=lo:=by simp
  have p:(((hi-lo).toNat:Nat):Int)-((0:Nat):Int)=Builtin.Range.rangeSize lo hi 1:=by rw[rangeSize_one];split<;>lia
  show IsRangeIter _ _ (lo+((0:Nat):Int)*1) ((((hi-lo).toNat:Nat):Int)-((0:Nat):Int)) 1;rw[l,p];exact wn _ rfl
 ·have e:b=(s.heap.push {cls:=.type "range",data:=.fields #[.int lo t,.int hi u,.int 1 v]}).objs.size:=by simpa using j
  subst e;exact J.fpOk (Ak _)<|J.hok.fresh<|Ak _
def OG(ta:TA):TI:=λσ H R=>ta σ H λvs H1=>∃j:Int,vs=[.int j] /\ -(2 ^ 62)<=j/\j<2 ^ 62/\R (Fl 0 j.toNat) H1
def OH{a:Expr}{ta:TA}(g:Gl X "range")(l:X.mg "range"=none)(o:PA X [a] ta)(hs:starEach [a] X.env=[(false,eval a X.env)]:=by rfl):PI X tg (.Call (.Name "range" p) [a] [] pos) (OG ta):=by
 intro J s C H R I h;refine Call_<|dD I g l boot_range<|B5 (Ez (o pos J s C H _ I h) λus s1 vs H1 T r1 U=>?_) hs rfl;obtain⟨j,e,U,q2,q⟩:=U;subst e;cases r1 with
 |cons r rr=>
  cases rr;obtain⟨t,rfl⟩:=r;exact call_range_1<|OF T (by lia) (by lia) U q2 (by simpa using q)
def OI(wi:TI)(g:TG)(tb:TS):TS:=λD σ H=>wi σ H λJ H1=>∃W:Nat->Nat->St->Hp->Prop,(∃m,W 0 m σ H1)/\∀i m σ H,W i m σ H->
 (J.stop i H/\D.nx σ H)\/(J.go i H/\∃N:St->Hp->Prop,(∀hE H',N hE H'->∃U,U<m/\W (i+1) U hE H')/\∀x H',J.yld i H x H'->g x σ H' λI H2=>tb {D with nx:=N,ct:=N,bk:=D.nx} I H2)
def oA(fp:List Addr)(h:Yh):List (Addr×Obj):=fp.filterMap λb=>(h.get? b).map λo=>(b,o)
def cY{b:Addr}{o:Obj}(I:b∈fp)(e:h.get? b=some o):(b,o)∈oA fp h:=List.mem_filterMap.mpr ⟨b,I,by rw[e];rfl⟩
def OJ{p:Addr×Obj}(I:p∈oA fp h):p.1∈fp/\h.get? p.1=some p.2:=by
 obtain⟨b,J,e⟩:=List.mem_filterMap.mp I;cases q:h.get? b with
 |none=>rw[q] at e;cases e
 |some o=>
  rw[q] at e;have U:(b,o)=p:=Bb e;subst U;exact⟨J,q⟩
def z0.pinned(I:z0 X pins σ H s)(g:∀b∈fp,qJ X pins H b)(j:∀b∈fp,∃o,s.heap.get? b=some o/\∀v,o.data≠.cell v):z0 X (pins++oA fp s.heap) σ H s:=
 I.pins_of λp l=>(An.mp l).elim (λz=>I.pin p<|Al _ z) λz=>by obtain⟨J,e⟩:=OJ z;obtain⟨r,f1,f2,_⟩:=g p.1 J;obtain⟨o,U,d⟩:=j p.1 J;rw[e] at U;cases U;exact⟨e,r,f1,f2,d⟩
def z0.unpinned{J:List<|Addr×Obj}(I:z0 X (pins++J) σ H s):z0 X pins σ H s:=I.pins_of λp U=>I.pin p<|Al _<|Ay _ U
def OK{iter:Expr}{g:TG}{tb:TS}(hp:PassesOwn (model X.prog X.w) X.A X.env X.xe)(hc:X.calm=true)(hi:PI X tg iter wi)(hg:PG X tg g)(l:mH X body tb)
 (hs:∀x,foldedSetIterable iter X.env x=pure x:=by intro _;rfl):PS X (.For tg iter body [] pos) (OI wi g tb):=by
 intro U s σ H D I h;refine wpAny_For (wq (hi U s σ H _ I h) λv s1 h1=>wq h1 λac s2 h2=>?_) hs;obtain⟨it,fp,tn,J,H2,e,I2,T,a3,f2,W,⟨m0,w0⟩,turn⟩:=h2;subst e;have p:∀{H':Hp},(∀b∈fp,H' b=none)->∀b∈fp,qJ X U H' b:=λhn b l=>⟨hn b l,(f2 b l).2⟩;refine codeAny_forLoop_any (λn s'=>∃i t H',z0 X U t H' s'/\tn i s'.heap/\(∀b∈fp,H' b=none)/\W i n t H') ?_ m0 ⟨0,σ,H2,I2,a3,λb l=>(f2 b l).1,w0⟩;rintro n s3 ⟨i,C,H3,I3,a1,a2,w3⟩;rcases turn i n C H3 w3 with⟨stop,qn⟩|⟨go,N,hN,step⟩
 ·refine wpAny_passesOwn hp<|wq (T.done X rfl rfl rfl hc i U s3 C H3 X.xe I3 (p a2) a1 stop) λr s4 ⟨hr,I4⟩=>?_;subst hr;exact wpAny_execs_nil ⟨C,H3,I4,qn⟩
 ·refine wpAny_passesOwn hp<|wq (T.item X rfl rfl rfl hc i U s3 C H3 X.xe I3 (p a2) a1 go) λr s4 ⟨u,hr,h4⟩=>?_;subst hr;refine wpAny_passesOwn hp<|wq h4 λ_ s5 ⟨x,H5,I5,r5,y5,a0,a4⟩=>?_;have a5:=I5.pinned (p a4)<|T.obj _ _ a0;refine wpAny_passesOwn hp<|wq (hg _ s5 C H5 x u _ a5 r5<|step x H5 y5) λ_ s6 ⟨ab,H6,I6,q6⟩=>?_;refine wpAny_passesOwn hp<|wq (l _ s6 ab H6 _ I6 q6) λf s7 q7=>?_;have again:∀{j:St} {H7:Hp},z0 X (U++oA fp s5.heap) j H7 s7->N j H7->∃m,m<n/\∃i t H',z0 X U t H' s7/\tn i s7.heap/\(∀b∈fp,H' b=none)/\W i m t H':=λ{j H7} I7 n7=>by obtain⟨m',hm,w7⟩:=hN j H7 n7;refine⟨m',hm,i+1,j,H7,I7.unpinned,T.keep _ _ _ a0 λb l o e=>(I7.pin (b,o)<|Al _<|Al _<|cY l e).1,λb l=>?_,w7⟩;obtain⟨o,e,d⟩:=T.obj _ _ a0 b l;exact(I7.pin (b,o)<|Al _<|Al _<|cY l e).2.1
  cases f with
  |next=>obtain⟨j,H7,I7,n7⟩:=q7;exact again I7 n7
  |cont=>obtain⟨j,H7,I7,n7⟩:=q7;exact again I7 n7
  |brk=>obtain⟨j,H7,I7,q7⟩:=q7;exact⟨j,H7,I7.unpinned,q7⟩
  |ret v=>obtain⟨x7,j,H7,I7,r7,q7⟩:=q7;exact⟨x7,j,H7,I7.unpinned,r7,q7⟩
abbrev R2:=V->V->Hp->VK->Prop
def k8(X:Cx)(f:Yc->Yc->Sem Yc)(r:R2):Prop:=
 ∀(pins:List<|Addr×Obj) (s:Yd) (σ:St) (H:Hp) (x y:V) (v u:Yc) (Q:VK),z0 X pins σ H s->zm x v->zm y u->r x y H Q->
  wpAny (model X.prog X.w) X.A (f v u) (EP X pins σ Q) X.xe s
def zq(X:Cx)(f:Yc)(r:Yj->Hp->VK->Prop):Prop:=
 ∀(pins:List<|Addr×Obj) (s:Yd) (σ:St) (H:Hp) (xs:Yj) (us:XZ) (Q:VK),z0 X pins σ H s->zk xs us->r xs H Q->
  wpAny (model X.prog X.w) X.A (call f us) (EP X pins σ Q) X.xe s
def Fm(r:R2)(ta tb:TE):TE:=λσ H Q=>ta σ H λx H1=>tb σ H1 λy H2=>r x y H2 Q
def rI(C:Int->Int->Prop)(g:Int->Int->V):R2:=λx y H Q=>∃i j,x=.int i/\y=.int j/\C i j/\Q (g i j) H
def w_(g:Int->Int->V):R2:=λx y H Q=>∃i j,x=.int i/\y=.int j/\Q (g i j) H
section
variable {a b:Expr}{ta tb tc:TE}
def GC(j:PE X a ta)(l:PE X b tb){R:V->V->Hp->Prop}(I:z0 X pins σ H s)
 (h:ta σ H λx H1=>tb σ H1 λy H2=>R x y H2) {f:Yc->Yc->Sem Yc}
 (o:∀v u g x y H2,z0 X pins σ H2 g->zm x v->zm y u->R x y H2->wpAny (model X.prog X.w) X.A (f v u) Q X.xe g):
 wpAny (model X.prog X.w) X.A (eval a X.env) (λv J=>wpAny (model X.prog X.w) X.A (eval b X.env) (λu U=>wpAny (model X.prog X.w) X.A (f v u) Q X.xe U) X.xe J) X.xe s:=by
 refine aW (j pins s σ H _ I h) λv p x H1 r t C=>?_;refine aW (l pins p σ H1 _ r C) λu g y H2 T r2 q2=>?_;exact o v u g x y H2 T t r2 q2
def OL{op:Operator}{r:R2}(U:k8 X (binaryOp op) r)(g:PE X a ta)(j:PE X b tb):PE X (.BinOp a op b pos) (Fm r ta tb):=by intro J s l H Q I h;exact wpAny_BinOp<|GC g j I h λv u o x y p t C T q=>U J o l p x y v u Q t C T q
def FJ{f:Yc->Yc->Sem Yc}{C:Int->Int->Prop}{g:Int->Int->Int}
 (rule:∀(i j:Int) (t u:Tok) (s:Yd) (Q:XT) (E:XT),C i j->Q (.int (g i j) s.toks) {s with toks:=s.toks+1}->wpAny (model X.prog X.w) X.A (f (.int i t)<|.int j u) Q E s):
 k8 X f (rI C λi j=>.int<|g i j):=by
 rintro J s r H x y v u Q I U l⟨i,j,rfl,rfl,o,q⟩;obtain⟨t,rfl⟩:=U;obtain⟨p,rfl⟩:=l;exact rule i j t p s _ _ o ⟨.int<|g i j,H,I.tok _,⟨_,rfl⟩,q⟩
def HU{f:Yc->Yc->Sem Yc}{g:Int->Int->Int}
 (rule:∀(i j:Int) (t u:Tok) (s:Yd) (Q:XT) (E:XT),Q (.int (g i j) s.toks) {s with toks:=s.toks+1}->wpAny (model X.prog X.w) X.A (f (.int i t)<|.int j u) Q E s):
 k8 X f (w_ λi j=>.int<|g i j):=by
 rintro J s p H x y v u Q I U l⟨i,j,rfl,rfl,q⟩;obtain⟨t,rfl⟩:=U;obtain⟨o,rfl⟩:=l;exact rule i j t o s _ _ ⟨.int<|g i j,H,I.tok _,⟨_,rfl⟩,q⟩
def GD{f:Yc->Yc->Sem Yc}{g:Int->Int->Bool}
 (rule:∀(i j:Int) (t u:Tok) (s:Yd) (Q:XT) (E:XT),Q (.bool<|g i j) s->wpAny (model X.prog X.w) X.A (f (.int i t)<|.int j u) Q E s):
 k8 X f (w_ λi j=>.bl<|g i j):=by
 rintro J s p H x y v u Q I U l⟨i,j,rfl,rfl,q⟩;obtain⟨t,rfl⟩:=U;obtain⟨o,rfl⟩:=l;exact rule i j t o s _ _ ⟨.bl<|g i j,H,I,rfl,q⟩
def GF(i j:Int):Prop:=0<j/\j<1073741824
def GG(i j:Int):Prop:=0<=j/\j<=1000000/\i.natAbs<2 ^ 64
def aig(i j:Int):Prop:=(-(2 ^ 64)<i/\i<2 ^ 64)\/(-(2 ^ 64)<j/\j<2 ^ 64)
def aig.ok{i j:Int}(h:aig i j):IntMulOk i j:=by
 rcases h with⟨I,J⟩|⟨I,J⟩
 ·exact .of_left<|intBits_le_64 I J
 ·exact .of_right<|intBits_le_64 I J
def OM:k8 X (binaryOp .Add) (w_ λi j=>.int<|i+j):=HU λ_ _ _ _ _ _ _ q=>add_int q
def ON:k8 X (binaryOp .Sub) (w_ λi j=>.int<|i-j):=HU λ_ _ _ _ _ _ _ q=>sub_int q
def OO:k8 X (binaryOp .Mult) (rI aig λi j=>.int<|i*j):=FJ λ_ _ _ _ _ _ _ I q=>mul_int q I.ok
def OP:k8 X (binaryOp .FloorDiv) (rI GF λi j=>.int<|i / j):=FJ λi j _ _ _ _ _ I q=>by have J:(0:Int)<j:=I.1;have U:j<1073741824:=I.2;exact floordiv_int (by lia) (by rw[Int.fdiv_eq_ediv_of_nonneg i (by lia)];exact q)<|.inl<|PyProof.noPylong_small (by lia)
def OQ:k8 X (binaryOp .Mod) (rI (λ_ j=>0<j) λi j=>.int<|i % j):=FJ λi j _ _ _ _ _ I q=>by have J:(0:Int)<j:=I;exact mod_int' (by lia) (by rw[Int.fmod_eq_emod_of_nonneg i (by lia)];exact q)
def OR:k8 X (binaryOp .Pow) (rI GG λi j=>.int<|i ^ j.toNat):=FJ λ_ _ _ _ _ _ _ I q=>pow_int_small I.1 I.2.1 I.2.2 q
end
def HV:V->V->Bool
 |.int _,.int _=>true
 |.bl _,.bl _=>true
 |.str _,.str _=>true
 |_,_=>false
def FK:Bool->CmpOp
 |true=>.NotEq
 |false=>.Eq
def Fn(ne b:Bool):Bool:=match ne with
 |true=>!b
 |false=>b
def OS(ne:Bool):R2:=λx y H Q=>HV x y=true/\Q (.bl<|Fn ne<|decide<|x=y) H
def zS{i j:Int}:decide (V.int i=V.int j)=(i==j):=by rw[Cc];simp
def HW{i j:Bool}:decide (V.bl i=V.bl j)=(i==j):=by rw[Cc];simp
def zW{i j:Str}:decide (V.str i=V.str j)=(i==j):=by rw[Cc];simp
section
variable {a b:Expr}{ta tb tc:TE}
def fk{Q:VK}{k J:Bool}(I:z0 X pins σ H s)(q:Q (.bl k) H)(e:k=J):EP X pins σ Q (.bool J) s:=by subst e;exact⟨.bl k,H,I,rfl,q⟩
def HX(ne:Bool):k8 X (compareOp<|FK ne) (OS ne):=by
 rintro l s o H x y v u Q I U g⟨J,q⟩;cases x with
 |bl i=>
  cases y with|bl j=>cases U;cases g;cases ne;exact eq_bool<|fk I q HW;exact ne_bool (fk I q<|Bs not HW)|_=>exact(AL J).elim
 |int i=>
  cases y with
  |int j=>obtain⟨_,rfl⟩:=U;obtain⟨_,rfl⟩:=g;cases ne;exact eq_int<|fk I q zS;exact ne_int<|fk I q<|Bs not zS
  |_=>exact(AL J).elim
 |str i=>
  cases y with
  |str j=>obtain⟨_,rfl⟩:=U;obtain⟨_,rfl⟩:=g;cases ne;exact eq_str<|fk I q zW;exact ne_str<|fk I q<|Bs not zW
  |_=>exact(AL J).elim
 |_=>cases y<;>exact(AL J).elim
def OT:k8 X (compareOp .Lt) (w_ λi j=>.bl<|decide<|i<j):=GD λ_ _ _ _ _ _ _ q=>lt_int q
def OU:k8 X (compareOp .LtE) (w_ λi j=>.bl<|decide<|i<=j):=GD λ_ _ _ _ _ _ _ q=>le_int q
def ast:k8 X (compareOp .Gt) (w_ λi j=>.bl<|decide<|j<i):=GD λ_ _ _ _ _ _ _ q=>gt_int q
def jk(b:Expr){op:CmpOp}(h:op≠.In:=by decide)(h2:op≠.NotIn:=by decide):behindInMarks op b=false:=by
 have I:(op==CmpOp.In)=false:=by cases op<;>first|rfl|exact absurd rfl h
 have J:(op==CmpOp.NotIn)=false:=by cases op<;>first|rfl|exact absurd rfl h2
 cases b<;>simp[behindInMarks,I,J]
def OV{op:CmpOp}{r:R2}(U:k8 X (compareOp op) r)(g:PE X a ta)(j:PE X b tb)(l:behindInMarks op b=false):PE X (.Compare a [op] [b] pos) (Fm r ta tb):=by intro J s o H Q I h;exact wpAny_Compare1 (GC g j I h λv u p x y t C T ry q=>U J p o t x y v u Q C T ry q) l
def GH(t:TE):TT:=λσ H Q=>t σ H λx H'=>∃k,x=.bl k/\Q k H'
def OW{op:CmpOp}{r:R2}(g:k8 X (compareOp op) r)(j:PE X a ta)(l:PE X b tb)(o:behindInMarks op b=false):PT X (.Compare a [op] [b] pos) (GH<|Fm r ta tb):=by
 intro J s U H Q I h;refine wpAny_isTrue_Compare1 (aW (j J s U H _ I h) λv p x t C T q1=>aW (l J p U t _ C q1) λu s2 y H2 I2 r2 q2=>
  wq (g J s2 U H2 x y v u _ I2 T r2 q2) λc s3 ⟨z,H3,I3,r3,k,e,q3⟩=>?_) o
 subst e;cases r3;exact wpAny_truthy_bool ⟨H3,I3,q3⟩
def jW:(sizeLine:Nat)<2 ^ 63:=by rw[sizeLine_eq];decide
def yq:k8 X (binaryOp .Add) (λx y H Q=>∃i j,x=.str i/\y=.str j/\i.length+j.length<=sizeLine/\Q (.str<|i++j) H):=by rintro J s p H x y v u Q I U g⟨i,j,rfl,rfl,l,q⟩;obtain⟨t,rfl⟩:=U;obtain⟨o,rfl⟩:=g;exact j4 I.tk<|add_str (λo r C=>⟨.str<|i++j,H,I.tok _,⟨_,rfl⟩,q⟩) l
def lG{x:V}(r:zk [x] us):∃u,us=[u]/\zm x u:=by cases r with|cons I J=>cases J;exact⟨_,rfl,I⟩
def HY{x y:V}(r:zk [x,y] us):∃u I,us=[u,I]/\zm x u/\zm y I:=by
 cases r with
 |cons J U=>
  cases U with|cons g j=>cases j;exact⟨_,_,rfl,J,g⟩
def OX(hc:X.calm=true):zq X (.builtin "max") (λxs H Q=>∃i j,xs=[.int i,.int j]/\Q (.int<|if j > i then j else i) H):=by
 rintro U s g H xs l Q I r⟨i,j,rfl,q⟩;obtain⟨u,o,rfl,⟨t,rfl⟩,⟨p,rfl⟩⟩:=HY r;refine j4 I.tk<|max_two_ints (I.ok.hd hc) λC T k ht=>⟨_,H,I.kept k,?_,q⟩;by_cases J:j > i
 ·rw[AF J,AF J];exact⟨_,rfl⟩
 ·rw[AA J,AA J];exact⟨_,rfl⟩
def OY(hc:X.calm=true):zq X (.builtin "min") (λxs H Q=>∃i j,xs=[.int i,.int j]/\Q (.int<|if j<i then j else i) H):=by
 rintro U s g H xs l Q I r⟨i,j,rfl,q⟩;obtain⟨u,o,rfl,⟨t,rfl⟩,⟨p,rfl⟩⟩:=HY r;refine j4 I.tk<|min_two_ints (I.ok.hd hc) λC T k ht=>⟨_,H,I.kept k,?_,q⟩;by_cases J:j<i
 ·rw[AF J,AF J];exact⟨_,rfl⟩
 ·rw[AA J,AA J];exact⟨_,rfl⟩
end
structure aq6(h:Yh)(x dx C:Addr)(mA:XW):Prop where
 obj:h.get? x=some (PySem.W.instObj C dx)
 ns:h.Ns1 dx mA
 ne:dx≠x
def OZ(n:h.Ns1 dx mA):∃od,h.get? dx=some od/\∀name,PySem.W.lookIn name od=some (mA name):=by
 obtain⟨o,J,r,U,hd,g,_,j⟩:=n;refine⟨o,U,λname=>?_⟩;have e:=j name;unfold nsFind findBy at e;rw[<-Array.find?_toList] at e;unfold PySem.W.lookIn;rw[hd];dsimp only;split
 ·rename_i y q;rw[q] at e;exact Bs some e
 ·rename_i q;rw[q] at e;have a:J.toList.any (·.refKey)=false:=by rw[List.any_eq_false];intro y l;obtain⟨z,t,I⟩:=g y<|Array.mem_toList_iff.mp l;simp[DictEntry.refKey,I]
  have p:¬J.toList.any (·.refKey)=true:=by rw[a];exact AL
  rw[AA p];exact Bs some e
def aq6.look{x:Addr}(I:aq6 h x dx C mA):∃od,PySem.W.InstAt h x (PySem.W.instObj C dx) C (some od)/\∀name,PySem.W.lookIn name od=some (mA name):=
 let ⟨od,J,U⟩:=OZ I.ns
 ⟨od,⟨I.obj,rfl,rfl,J⟩,U⟩
section
variable {w:Yg}{K:Ah}{x:Addr}{v:Yc}
end
def jQ.some_of{o:X8}(r:jQ (some v) o):∃u,o=some u/\zm v u:=by cases o with|none=>exact(show False from r).elim|some u=>exact⟨u,rfl,r⟩
abbrev ET:=@jQ.some_of
section
variable {P:Ye}{w:Yg}{a:Addr}{fs fs':List<|Str×V}
def O0(hok:fh P w H h)(e:H a=some (.ins C dx fs)):∃mA,aq6 h a dx C mA/\(∀f,jQ (fs.lookup f)<|mA f)/\PySem.Within mA (fs.map (·.1))/\fs.length<=1000/\H dx=some (.own a):=by obtain⟨d,z,ne,ob,mA,n,r,q⟩:=(show xn P w H h a (.ins C dx fs) from hok a _ e);exact⟨mA,⟨ob,n,ne⟩,r,q,z,d⟩
end
structure Cls(K:Ah)(C:Addr):Prop where
 pg:PySem.W.plainGet K C Str.empty=true
 hd:PySem.W.hasDictIn K C=true
 po:PySem.W.plainOver K C=true
 sa:PySem.W.findIn K (.ref C) "__setattr__"=some (some<|.builtin "object.__setattr__")
def Cls.get{K:Ah}(c:Cls K C)(f:Str):PySem.W.plainGet K C f=true:=c.pg
section
variable {a:Addr}{fs:List<|Str×V}{f:Str}
end
section
variable {f:Str}{tpos:Pos}{ta tv:TE}
end
section
variable {c:Yc}{b:Bool}
inductive mK(K:Ah)(H:Hp):V->Yc->Prop where
 |non:mK K H .non (.type "NoneType")
 |bl (x:Bool):mK K H (.bl x) (.type "bool")
 |int (i:Int):mK K H (.int i) (.type "int")
 |str (x:Str):mK K H (.str x) (.type "str")
 |flt (x:UInt64):mK K H (.flt x) (.type "float")
 |lst {a:Addr} {xs:Yj} (e:H a=some (.lst xs)):mK K H (.ref a) (.type "list")
 |frz {a:Addr} {o:Obj} {xs:Yj} (e:H a=some (.frz o<|.lst xs)):mK K H (.ref a) (.type "list")
 |tup {a:Addr} {xs:Yj} (e:H a=some (.tup xs)):mK K H (.ref a) (.type "tuple")
 |dK {a:Addr} {kvs:List<|ja×V} (e:H a=some (.dK kvs)):mK K H (.ref a) (.type "dict")
 |dT {a:Addr} {kvs:List<|Yl×V} (e:H a=some (.dT kvs)):mK K H (.ref a) (.type "dict")
 |ins {a C dx:Addr} {fs:List<|Str×V} (e:H a=some (.ins C dx fs)) (cl:Cls K C) (ha:PySem.W.findIn K (.ref C) "__class__"=some (some<|.builtin "object.__class__"))
  (hn:PySem.W.specialIn K (.builtin "object.__class__") "__get__"=some (some<|.builtin "getset_descriptor.__get__")) (htk:PySem.W.takesIn K (.builtin "object.__class__")=some true)
  (hm:PySem.W.mroIn K C (.type "object")=some true):mK K H (.ref a) (.ref C)
def au{x:V}{t:Yc}(I:z0 X pins σ H s)(U:zm x u)(ty:mK X.K H x t)(e:PySem.W.kitOne X.K t c=some b)(h:∀tk,Q (.bool b) {s with toks:=tk}):
 wpAny (model X.prog X.w) A (call (.builtin "isinstance") [u,c]) Q E s:=by
 cases ty with
 |non=>cases (show u=Value.none from U);exact Br PySem.W.kitx_none I.kIn True.intro e (λz=>nomatch z) h
 |bl y=>cases (show u=Value.bool y from U);exact Br PySem.W.kitx_bool I.kIn True.intro e (λz=>nomatch z) h
 |int i=>obtain⟨t,q⟩:=(show ∃t,u=Value.int i t from U);cases q;exact Br PySem.W.kitx_int I.kIn True.intro e (λz=>nomatch z) h
 |str y=>obtain⟨t,q⟩:=(show ∃t,u=Value.str y t from U);cases q;exact Br PySem.W.kitx_str I.kIn True.intro e (λz=>nomatch z) h
 |flt y=>obtain⟨t,q⟩:=(show ∃t,u=Value.float y t from U);cases q;exact Br PySem.W.kitx_float I.kIn True.intro e (λz=>nomatch z) h
 |@lst a l ea=>
  cases (show u=Value.ref a from U);obtain⟨_,_,n,_,g⟩:=(show xn X.prog X.w H s.heap a (.lst l) from I.hok a _ ea);exact Br CG I.kIn ⟨_,g,rfl⟩ e (λz=>nomatch z) h
 |@frz a ob l ea=>
  cases (show u=Value.ref a from U);obtain⟨_,_,_,n,_,g⟩:=(show xn X.prog X.w H s.heap a (.frz ob<|.lst l) from I.hok a _ ea);exact Br CG I.kIn ⟨_,g,rfl⟩ e (λz=>nomatch z) h
 |@tup a l ea=>
  cases (show u=Value.ref a from U);obtain⟨_,_,_,p⟩:=(show xn X.prog X.w H s.heap a (.tup l) from I.hok a _ ea);obtain⟨o,g,r,_⟩:=p;exact Br Dz I.kIn ⟨o,g,r⟩ e (λz=>nomatch z) h
 |@dK a j ea=>
  cases (show u=Value.ref a from U);obtain⟨_,_,vs,_,p⟩:=(show xn X.prog X.w H s.heap a (.dK j) from I.hok a _ ea);obtain⟨o,es,ep,g,r,_⟩:=p;exact Br DI I.kIn ⟨o,g,r.1⟩ e (λz=>nomatch z) h
 |@dT a j ea=>
  cases (show u=Value.ref a from U);obtain⟨_,_,l,_,o,es,ep,g,r,_⟩:=(show xn X.prog X.w H s.heap a (.dT j) from I.hok a _ ea);exact Br DI I.kIn ⟨o,g,r.1⟩ e (λz=>nomatch z) h
 |@ins a C dx fs ea cl ha hn T hm=>
  cases (show u=Value.ref a from U);obtain⟨mA,O,_⟩:=O0 I.hok ea;obtain⟨od,J,_⟩:=O.look;exact Br (PySem.W.kitx_own (cl.get _) cl.hd ha hn T hm) I.kIn J e (λz=>nomatch z) h
end
structure am(k:Nat)(A:Around):Prop where
 hd:A.handled=none
 dp:A.depth+3*k+5<recursionLimit
 un:A.units+16*k+200<cLine
def am.mono{k:Nat}(r:am k A)(h:j<=k):am j A:=⟨r.hd,by have:=r.dp;lia,by have:=r.un;lia⟩
def am.deeper{k:Nat}(r:am (k+1) A)(env:Env):am k (A.deeper env):=
 ⟨r.hd,by have:=r.dp;show A.depth+1+3*k+5<_;lia,by have:=r.un;show A.units+3+16*k+200<_;lia⟩
def am.depth{k:Nat}(r:am k A):A.depth<recursionLimit:=by have:=r.dp;lia
def O1:TA:=λ_ H Q=>Q [] H
def O6(ta:TE)(tr:TA):TA:=λσ H Q=>ta σ H λx H1=>tr σ H1 λxs H2=>Q (x::xs) H2
section
variable {te:TE}{t:TA}
def fq:PA X [] O1:=λ_ _ _ _ H Q I h=>DT ⟨[],H,I,.nil,h⟩
abbrev Eu(e:Expr)(es:X5)(X:Cx):Prop:=starEach (e::es) X.env=(false,eval e X.env)::starEach es X.env
def aR(g:PE X e te)(j:PA X es t)(hs:Eu e es X:=by rfl):PA X (e::es) (O6 te t):=by intro pos J s U H Q I h;rw[hs];show wpAny _ _ (spliced<|(false,eval e X.env)::backTo pos (starEach es X.env)) _ _ s;refine yp<|aW (g J s U H _ I h) λu l x o p r C=>?_;exact Ez (j pos J l U o _ p C) λus s2 T H2 I2 r2 q2=>⟨x::T,H2,I2,.cons r r2,q2⟩
def O7(t:TA):TE:=λσ H Q=>t σ H λxs H1=>xs.length<=sizeLine/\∀p,H1 p=none->Q (.ref p) (upd H1 p<|.tup xs)
def O8(t:TA):TE:=λσ H Q=>t σ H λxs H1=>xs.length<=sizeLine/\∀p,H1 p=none->Q (.ref p) (upd H1 p<|.lst xs)
def HZ{x1}(h:PA X es t):PE X (.Tuple es x1 pos) (O7 t):=by intro J s l H Q I o;refine wpAny_Tuple_spliced (wq (h pos J s l H _ I o) λp U ⟨C,g,j,r,z,q⟩=>⟨by rw[<-r.length];exact z,?_⟩);have T:g U.heap.objs.size=none:=j.hok.fresh<|Ak _;refine⟨.ref U.heap.objs.size,upd g U.heap.objs.size<|.tup C,j.laid (t':=U.toks) (λb u e=>vc _ e) (Ak _) ?_,rfl,q _ T⟩;exact⟨z,p,r,⟨_,wn _ rfl,rfl,_,rfl⟩⟩
def O9(h:PA X es t):PE X (.List es pos) (O8 t):=by intro J s l H Q I o;refine wpAny_List_spliced (wq (h pos J s l H _ I o) λp U ⟨C,g,j,r,z,q⟩=>⟨by rw[<-r.length];exact z,?_⟩);have T:g U.heap.objs.size=none:=j.hok.fresh<|Ak _;refine⟨.ref U.heap.objs.size,upd g U.heap.objs.size<|.lst C,j.laid (t':=U.toks) (λb u e=>vc _ e) (Ak _) ?_,rfl,q _ T⟩;exact⟨z,p,0,r,wn _ rfl⟩
end
abbrev Sp:=Yj->Hp->VK->XK->Prop
abbrev g_:=List Env->Hp->Yd->XK->XT
structure FM(P:Ye)(w:Yg)(K:Ah)(mg:XW)(base:Yh)(A:Around)(outer:List Env)(s:Yd)(H:Hp):Prop where
 frames:A.frames=some outer
 mod:Mod K mg base
 bs:∀b o,base.get? b=some o->s.heap.get? b=some o/\H b=none
 bsz:base.objs.size<=s.heap.objs.size
 funs:s.heap.FunFrames base outer
 frf:∀b∈frs outer,H b=none
 hok:fh P w H s.heap
 bare:AllBare s.gens
 tk:0<s.toks
def CE(outer:List Env)(P:Ye)(w:Yg)(H:Hp)(s:Yd)(Q:VK)(u:Yc)(s':Yd):Prop:=
 ∃v H',s'.os=s.os/\AllBare s'.gens/\Un (frs outer) [] H H' s.heap s'.heap/\fh P w H' s'.heap/\zm v u/\Q v H'/\0<s'.toks
def CR(CX:g_)(outer:List Env)(P:Ye)(w:Yg)(H:Hp)(s:Yd)(Q:VK)(E:XK)(r:Result)(s':Yd):Prop:=
 match r with
 |.ok (.ret u)=>CE outer P w H s Q u s'
 |.ok _=>False
 |.error e=>CX outer H s E e s'
structure bV(P:Ye)(w:Yg)(K:Ah)(mg:XW)(base:Yh)(CX:g_)(k:Nat)(f:Addr)(fd:FuncData)(ps:X4)(sp:Sp):Prop where
 len:∀vs H Q E,sp vs H Q E->vs.length=ps.length
 run:∀(A:Around) (outer:List Env) (s:Yd) (H:Hp) (args:Args) (us:XZ) (vs:Yj) (Q:VK) (E:XK),am k A->FM P w K mg base A outer s H->BindsTo s fd args (ps.zip us)->zk vs us->sp vs H Q E->
  codeAny (model P w) A (.call (.ref f) args) (CR CX outer P w H s Q E) s
theorem bV.mono{P:Ye}{w:Yg}{K:Ah}{CX:g_}{k:Nat}{sp:Sp}(F:bV P w K mg base CX j f fd ps sp)(h:j<=k):
 bV P w K mg base CX k f fd ps sp:=⟨F.len,λA I s H args J U Q E g=>F.run A I s H args J U Q E<|g.mono h⟩
def bV.imp{P:Ye}{w:Yg}{K:Ah}{CX:g_}{k:Nat}{sp J:Sp}(F:bV P w K mg base CX k f fd ps sp)
 (h:∀vs H Q E,J vs H Q E->sp vs H Q E):bV P w K mg base CX k f fd ps J:=
 ⟨λvs H Q E q=>F.len vs H Q E<|h _ _ _ _ q,λA I s H args U vs Q E g j l o p=>F.run A I s H args U vs Q E g j l o<|h _ _ _ _ p⟩
def z0.env0(I:z0 X pins σ H s):FM X.prog X.w X.K X.mg X.base X.A X.stack s H:=
 ⟨I.ok.frames,I.ok.mod,I.bs,AE I.ok.bsz I.sz,I.stack,I.stkFree,I.hok,I.bare,I.tk⟩
def z0.after{Q:VK}(I:z0 X pins σ H s)(h:CE X.stack X.prog X.w H s Q u s'):EP X pins σ Q u s':=by obtain⟨v,j,os,bare,un,J,r,q,o⟩:=h;obtain⟨l,g,d,t,U⟩:=s';obtain rfl:U=s.os:=os;exact⟨v,j,I.call (h':=l) (g':=g) (d':=d) (t':=t) (ch:=[]) un J bare λb z=>absurd z (by simp),r,q⟩
def H0(sp:Sp)(sL:Yj)(E:XK)(t:TA):TE:=λσ H Q=>t σ H λvs H1=>sp (vs++sL) H1 Q E
def iO(K:Ah)(fd:FuncData)(ps:X4)(ds:XZ):Prop:=
 ∀(s:Yd) (us:XZ),K.In s.heap->(us++ds).length=ps.length->BindsTo s fd ⟨us,[]⟩ (ps.zip<|us++ds)
def iO.all{K:Ah}(h:∀us:XZ,us.length=ps.length->bindArgs fd ⟨us,[]⟩=pure (ps.zip us)):iO K fd ps []:=λs us _ I=>by rw[AG] at I ⊢;exact .of_eq<|h us I
def xI(CX:g_)(X:Cx)(E:XK):Prop:=∀(pins:List<|Addr×Obj) (σ:St) (H:Hp) (s:Yd) (e:Yc) (s':Yd),z0 X pins σ H s->CX X.stack H s E e s'->X.xe e s'
section
variable {CX:g_}{k:Nat}{sp:Sp}{sL:Yj}{ds:XZ}{E:XK}{m:Str}{ta:TE}{t:TA}
def O_{Q:VK}{vs:Yj}(F:bV X.prog X.w X.K X.mg X.base CX k f fd ps sp)(g:am k X.A)(j:iO X.K fd ps ds)(hd:zk sL ds)(l:xI CX X E)
 (I:z0 X pins σ H s) (r:zk vs us) (h:sp (vs++sL) H Q E):wpAny (model X.prog X.w) X.A (call (.ref f) us) (EP X pins σ Q) X.xe s:=by
 have U:zk (vs++sL) (us++ds):=r.append hd;have o:(us++ds).length=ps.length:=by rw[<-U.length];exact F.len _ _ _ _ h
 refine wpAny_call<|codeAny_mono (F.run X.A X.stack s H ⟨us,[]⟩ (us++ds) (vs++sL) Q E g I.env0 (j s us I.kIn o) U h) λr p J=>?_;cases r with
 |error e=>exact l pins σ H s e p I J
 |ok t=>
  cases t with|ret u=>exact I.after J|next=>exact False.elim J|brk=>exact False.elim J|cont=>exact False.elim J
abbrev Ew(p:Pos)(es:X5)(X:Cx):Prop:=(backTo p<|starEach es X.env).any (·.1)=false
def O'(F:bV X.prog X.w X.K X.mg X.base CX k f fd ps sp)(l:am k X.A)(o:Gl X x)(C:X.mg x=some (.ref f))(T:PySem.W.keepIn X.K (.ref f)=true)(hb:iO X.K fd ps ds)(hd:zk sL ds)(hx:xI CX X E)
 (ha:PA X (e::es) t) (U:Ex x:=by decide) (he:Eu e es X:=by rfl) (g:Ew pos es X:=by rfl):
 PE X (.Call (.Name x p) (e::es) [] pos) (H0 sp sL E t):=by
 intro J s σ H Q I h;refine wpAny_Call_Name_kw<|HE I o C ?_ U;refine PySem.W.callWith_K (h₀:=X.base) I.ok.mod.kin T (Ez (ha pos J s σ H _ I h) λus s1 vs H1 j r q=>⟨j.kIn,?_⟩) he g;exact O_ F l hb hd hx j r q
end
section
variable {CX:g_}{k:Nat}{ks:X4}{sp:Sp}{E:XK}{m:Str}{kws:List Keyword}{te ta:TE}{t tk:TA}{nm:Option Str}
variable {g:XZ->XZ->XZ}{gV:Yj->Yj->Yj}
end
structure ak(N P:X4)(sc:Scope):Prop where
 kind:sc.kind=.function
 co:sc.isCoroutine=false
 gen:sc.isGenerator=false
 nd:N.Nodup
 pre:N.take P.length=P
 par:∀x∈P,sc.names.lookup x=some .local\/sc.names.lookup x=some .cell
 nofree:∀y∈sc.names,y.2≠.free
theorem rP{kindOf:Str->Option NameKind}{x:Str}:∀{I:List<|Str×Yc} {m:XW},(∀v,(x,v)∉I)->bindL kindOf I m x=m x
 |[],_,_=>rfl
 |(n,v)::r,m,h=>by
  unfold bindL;rw[rP λw hw=>h w<|Af _ hw];split
  ·have:x≠n:=by rintro rfl;exact h v Ao
   simp[this]
  ·rfl
theorem rA{kindOf:Str->Option NameKind}{x:Str}:∀{I:List<|Str×Yc} {m:XW},(∀v,(x,v)∉I)->bindC kindOf I m x=m x
 |[],_,_=>rfl
 |(n,v)::r,m,h=>by
  unfold bindC;rw[rA λw hw=>h w<|Af _ hw];split
  ·rfl
  ·have:x≠n:=by rintro rfl;exact h v Ao
   simp[this]
theorem rL{kindOf:Str->Option NameKind}{x:Str}{v:Yc}:∀{P:X4} {vs:XZ} {i:Nat} {m:XW},P.Nodup->P[i]?=some x->vs[i]?=some v->kindOf x=some .local->
 bindL kindOf (P.zip vs) m x=some v
 |[],_,_,_,_,h,_,_=>by simp at h
 |_::_,[],_,_,_,_,h,_=>by simp at h
 |p::P,w::vs,0,m,nd,I,J,U=>by simp at I J;subst I;subst J;show bindL kindOf ((p,w)::P.zip vs) m p=_;unfold bindL;rw[rP λv g=>(AH.mp nd).1 (Du g).1,AF U];simp
 |p::P,w::vs,i+1,m,nd,I,J,U=>by show bindL kindOf ((p,w)::P.zip vs) m x=_;unfold bindL;exact rL (i:=i) (AH.mp nd).2 (by simpa using I) (by simpa using J) U
theorem rV{kindOf:Str->Option NameKind}{x:Str}{v:Yc}:∀{P:X4} {vs:XZ} {i:Nat} {m:XW},P.Nodup->P[i]?=some x->vs[i]?=some v->kindOf x≠some .local->
 bindC kindOf (P.zip vs) m x=some v
 |[],_,_,_,_,h,_,_=>by simp at h
 |_::_,[],_,_,_,_,h,_=>by simp at h
 |p::P,w::vs,0,m,nd,I,J,U=>by simp at I J;subst I;subst J;show bindC kindOf ((p,w)::P.zip vs) m p=_;unfold bindC;rw[rA λv g=>(AH.mp nd).1 (Du g).1,AA U];simp
 |p::P,w::vs,i+1,m,nd,I,J,U=>by show bindC kindOf ((p,w)::P.zip vs) m x=_;unfold bindC;exact rV (i:=i) (AH.mp nd).2 (by simpa using I) (by simpa using J) U
def start(N:X4)(vs:Yj):St:=vs.map some++List.replicate (N.length-vs.length) none
def qO(CX:g_)(P:Ye)(w:Yg)(K:Ah)(mg:XW)(base:Yh)(N:X4)(eK:Str)(scope:Scope)(f:Addr)(cd:Yc)(A:Around)(outer:List Env)(s:Yd)(H:Hp)(E:XK):Cx where
 prog:=P
 w:=w
 K:=K
 mg:=mg
 base:=base
 A:=A.deeper<|envOfC eK scope s.heap.objs.size f cd
 N:=N
 s₀:=s
 H₀:=H
 env:=envOfC eK scope s.heap.objs.size f cd
 outer:=outer
 stack:=envOfC eK scope s.heap.objs.size f cd::outer
 ex:=[]
 calm:=true
 fn:=λ_=>true
 pn:=[]
 xe:=λe s'=>wpAny (model P w) (A.deeper<|envOfC eK scope s.heap.objs.size f cd) (leaving (envOfC eK scope s.heap.objs.size f cd) e) (λ_ I=>CX outer H s E e I) (λJ I=>CX outer H s E J I) s'
def wI{I:Scope}{n:Nat}(h:I.names.lookup x=some .cell):∃c,(cellsFrom n I.names []).lookup x=some c:=by have q:=Ee I.names n []<|.inl h;exact Option.isSome_iff_exists.mp q
def Pa{CX:g_}{P:Ye}{w:Yg}{K:Ah}{N:X4}{cd:Yc}{outer:List Env}{C:Yd}{E:XK}{vs:Yj}
 (S:ak N ps scope) (hd:A.handled=none) (J:FM P w K mg base A outer s H) (hl:vs.length=ps.length) (r:zk vs us)
 (x:InCallC s s.heap.objs.size (bindL (envOfC eK scope s.heap.objs.size f cd).kindOf (ps.zip us) λ_=>none) (cellsFrom (s.heap.objs.size+1) scope.names []) (bindC (envOfC eK scope s.heap.objs.size f cd).kindOf (ps.zip us) λ_=>none) C) (ht:0<C.toks):
 z0 (qO CX P w K mg base N eK scope f cd A outer s H E) [] (start N vs) H C:=by
 have a0:ps.length<=N.length:=by have:=Bs List.length S.pre;rw[AJ] at this;lia
 obtain⟨o,tk,rfl,T⟩:=x.done;have U:∀b:Addr,b∉(qO CX P w K mg base N eK scope f cd A outer s H E).ex:=λb z=>absurd (show b∈([]:List Addr) from z) (by simp);refine⟨⟨J.mod,S.kind,rfl,rfl,Ak _,λy z c o I=>?_,λy g=>?_,λy c _ h=>?_,λ_=>hd,Around.frames_deeper J.frames,.inr ⟨rfl,rfl⟩,λb z=>absurd z<|U b,J.bs,J.bsz,λb _ _=>U b,λb z=>absurd z<|U b,J.funs,J.frf⟩,
  rfl,J.bare,Un.kept T,⟨_,x.toInCall.ns,λi y v o I h3=>?_⟩,λy c h=>⟨_,x.cell y c h⟩,J.hok.fresh<|Ak _,λy c h=>?_,λp j=>absurd (show p∈([]:List<|Addr×Obj) from j) (by simp),J.hok.kept T,?_,ht⟩
 ·exact name_of_addr x.apart (BF o)<|BF I
 ·have g:scope.names.lookup y=some .cell\/scope.names.lookup y=some .free:=g;rcases g with g|g
  ·exact wI g
  ·exact absurd rfl<|S.nofree _<|BF g
 ·exact Bp<|x.above y c<|BF h
 ·have t:i<vs.length:=by
   unfold start at I;by_cases t:i<vs.length
   ·exact t
   ·rw[AI (by simpa using t)] at I;rw[Cq] at I;split at I<;>cases I
  have ha:vs[i]?=some v:=by unfold start at I;rw[AC (by simpa using t),Ai] at I;cases e:vs[i]? with|none=>rw[e] at I;cases I|some a=>rw[e] at I;cases I;rfl
  obtain⟨u,hu,rv⟩:=r.get ha;have j:ps[i]?=some y:=by rw[<-S.pre,DP (by lia)];exact o
  have l:ps.Nodup:=by rw[<-S.pre];exact S.nd.sublist<|DJ _ _
  refine⟨u,rv,?_⟩;rcases S.par y (AB j) with k|k
  ·exact .inl ⟨k,rL l j hu k⟩
  ·obtain⟨c,e⟩:=wI (n:=s.heap.objs.size+1) k;refine .inr ⟨.inl k,c,e,?_⟩;have q:=x.cell y c e;rw[rV l j hu (by show scope.names.lookup y≠_;rw[k];decide)] at q;exact q
 ·exact J.hok.fresh<|Bp<|x.above y c<|BF h
 ·unfold start;show _=N.length;rw[Ac,Ab,AS];lia
theorem H9{CX:g_}{P:Ye}{w:Yg}{K:Ah}{k:Nat}{U:Arguments}{dV kV ct:Yc}
 {N:X4} {sp:Sp} (lk:K.lookup f=some ⟨oc,od,.func<|PySem.W.fnOf name eK U body scope dV kV hQ pm an eW ct,pR⟩) (a0:PySem.W.codeIn K eW eK=true) (S:ak N ps scope)
 (len:∀vs H Q E,sp vs H Q E->vs.length=ps.length)
 (j:∀(A:Around) (outer:List Env) (s:Yd) (H:Hp) (vs:Yj) (Q:VK) (E:XK),am k (A.deeper<|envOfC eK scope s.heap.objs.size f eW)->sp vs H Q E->
  ∃t,mH (qO CX P w K mg base N eK scope f eW A outer s H E) body t/\t {nx:=λ_ H'=>Q .non H',rt:=Q} (start N vs) H):
 bV P w K mg base CX (k+1) f (PySem.W.fnOf name eK U body scope dV kV hQ pm an eW ct) ps sp:=by
 refine⟨len,λA outer s H args us vs Q E hr p hb r T=>?_⟩;have hl:=len _ _ _ _ T;have KX:K.In s.heap:=p.mod.kin.keeps λb o e=>(p.bs b o e).1;have a1:s.heap.NoLimit:=p.mod.nolimit.keeps λb o e=>(p.bs b o e).1;have l:∀y∈ps.zip us,scope.names.lookup y.1=some .local\/(scope.names.lookup y.1=some .cell/\((cellsFrom (s.heap.objs.size+1) scope.names []).lookup y.1).isSome=true):=λ⟨n,v⟩ hy=>by
  rcases S.par n (Du hy).1 with q|q
  ·exact .inl q
  ·exact .inr ⟨q,Ee _ _ _<|.inl q⟩
 refine codeAny_call_function hr.depth (KX _ _ lk) rfl S.co S.gen rfl (PySem.W.codeRec_of KX a0)<|hb _ _ _ _ ?_;refine j4 p.tk<|wpAny_newFunctionEnv_cells S.kind l λa3 he s1 x a2=>?_;subst he;refine⟨a1.keeps x.toInCall.keep,codeAny_func ?_⟩;obtain⟨t,ht,hq⟩:=j A outer s H vs Q E (hr.deeper _) T;have I:z0 (qO CX P w K mg base N eK scope f eW A outer s H E) [] (start N vs) H s1:=Pa S hr.hd p hl r x a2;refine A4 (ht [] s1 (start N vs) H _ I hq) (λfl s' C=>?_) λe s' C=>C;have jw:∀{g:St} {H':Hp} {v:V} {u:Yc},z0 (qO CX P w K mg base N eK scope f eW A outer s H E) [] g H' s'->zm v u->Q v H'->CE outer P w H s Q u s':=
  λ{g H' v u} J rv q=>⟨v,H',J.os,J.bare,J.base,J.hok,rv,q,J.tk⟩
 cases fl with
 |ret u=>
  obtain⟨v,g,H',J,rv,q⟩:=C;exact jw J rv q
 |next=>
  obtain⟨g,H',J,q⟩:=C;exact jw (v:=V.non) (u:=Value.none) J rfl q
 |brk=>
  obtain⟨_,_,_,q⟩:=C;exact False.elim q
 |cont=>
  obtain⟨_,_,_,q⟩:=C;exact False.elim q
end L2
variable {sp:L2.Sp}
namespace L2
open PySem PySem.Spec PyProof.Rows
section
variable {t:TA}{id T:Yi}{r:Yj->Hp->VK->Prop}
def H_(r:Yj->Hp->VK->Prop)(t:TA):TE:=λσ H Q=>t σ H λvs H1=>r vs H1 Q
def ny(hc:zq X (.builtin id) r)(l:Gl X x)(o:X.mg x=none)(C:bootBuiltins x=some (.builtin id))(T:PA X (e::es) t)(hn:x ≠ "__name__" := by decide)(U:Ex x:=by decide)
 (he:Eu e es X:=by rfl) (g:Ew pos es X:=by rfl):PE X (.Call (.Name x p) (e::es) [] pos) (H_ r t):=by
 intro J s j H Q I h;refine wpAny_Call_Name_kw<|dD I l o C ?_ hn U;exact PyProof.Rows.callWith_builtin1 (Ez (T pos J s j H _ I h) λus s1 vs H1 I1 r1 q1=>hc J s1 j H1 vs us Q I1 r1 q1) he g
def iy(hc:zq X (.type T) r)(l:Gl X x)(o:X.mg x=none)(C:bootBuiltins x=some (.type T))(ha:PA X (e::es) t)(hn:x ≠ "__name__" := by decide)(U:Ex x:=by decide)
 (he:Eu e es X:=by rfl) (g:Ew pos es X:=by rfl):PE X (.Call (.Name x p) (e::es) [] pos) (H_ r t):=by
 intro J s j H Q I h;refine wpAny_Call_Name_kw<|dD I l o C ?_ hn U;exact B5 (Ez (ha pos J s j H _ I h) λus s1 vs H1 I1 r1 q1=>hc J s1 j H1 vs us Q I1 r1 q1) he g
end
section
variable [DecidableEq κ]
def cZ(kvs:List<|κ×V)(k:κ):Yk:=(kvs.find? λI=>decide<|I.1=k).map (·.2)
def dZ(kvs:List<|κ×V)(k:κ)(v:V):List (κ×V):=
 if (kvs.any λI=>decide<|I.1=k)=true then kvs.map (λI=>if I.1=k then(I.1,v) else I) else kvs++[(k,v)]
def nW{p:κ×V}{r:List<|κ×V}{k:κ}(e:p.1=k):cZ (p::r) k=some p.2:=by simp[cZ,BK,e]
def o6{p:κ×V}{r:List<|κ×V}{k:κ}(e:¬p.1=k):cZ (p::r) k=cZ r k:=by simp[cZ,BK,e]
theorem uf(k:κ):∀kvs:List (κ×V),(kvs.any λI=>decide<|I.1=k)=(cZ kvs k).isSome
 |[]=>rfl
 |p::r=>by
  rw[Cn];by_cases e:p.1=k
  ·simp only[nW e,Ax e,Bool.true_or,Option.isSome_some]
  ·rw[o6 e,Ar e,Bool.false_or];exact uf k r
def eI(kvs:List<|κ×V)(k:κ)(v:V):(dZ kvs k v).length<=kvs.length+1:=by
 unfold dZ;split
 ·rw[Ab];lia
 ·rw[Ac,Au,BR];lia
def jQ.isSome_eq{o:Yk}{u:X8}(r:jQ o u):o.isSome=u.isSome:=by
 cases o with
 |none=>cases u with|none=>rfl|some _=>exact(show False from r).elim
 |some _=>cases u with|none=>exact(show False from r).elim|some _=>rfl
def KV.val{kvs:List<|κ×V}{vs:List<|κ×Yc}(r:KV kvs vs)(k:κ):jQ (cZ kvs k) (valueAt vs k):=by
 unfold KV at r
 induction r with
 |nil=>exact True.intro
 |@cons p q l I h t g=>
  obtain⟨U,j⟩:=h;by_cases e:p.1=k
  ·have J:q.1=k:=U.symm.trans e;have b:valueAt (q::I) k=some q.2:=by simp[valueAt,BK,J]
   rw[nW e,b];exact j
  ·have J:¬q.1=k:=λz=>e<|U.trans z;have b:valueAt (q::I) k=valueAt I k:=by simp[valueAt,BK,J]
   rw[o6 e,b];exact g
def KV.any{kvs:List<|κ×V}{vs:List<|κ×Yc}(r:KV kvs vs)(k:κ):(kvs.any λI=>decide<|I.1=k)=vs.any λI=>decide (I.1=k):=by
 unfold KV at r
 induction r with|nil=>rfl|cons h t J=>rw[Cn,Cn,J,h.1]
def KV.repl{kvs:List<|κ×V}{vs:List<|κ×Yc}(r:KV kvs vs)(k:κ){y:V}(U:zm y u):
 KV (kvs.map λI=>if I.1=k then(I.1,y) else I) (vs.map λI=>if I.1=k then(I.1,u) else I):=by
 unfold KV at r ⊢
 induction r with
 |nil=>exact .nil
 |@cons p q l o h t g=>
  rw[AD,AD];refine .cons ?_ g;obtain⟨J,j⟩:=h;by_cases e:p.1=k
  ·rw[AF e,AF<|J.symm.trans e];exact⟨J,U⟩
  ·rw[AA e,AA λz=>e<|J.trans z];exact⟨J,j⟩
def KV.put{kvs:List<|κ×V}{vs:List<|κ×Yc}(r:KV kvs vs)(k:κ){y:V}(I:zm y u):KV (dZ kvs k y) (stored vs k u):=by
 unfold dZ stored;rw[r.any k];by_cases e:(vs.any λJ=>decide<|J.1=k)=true
 ·rw[AF e,AF e];exact r.repl k I
 ·rw[AA e,AA e];exact Paired.snoc r ⟨rfl,I⟩
theorem KV.length{kvs:List<|κ×V}{vs:List<|κ×Yc}(r:KV kvs vs):kvs.length=vs.length:=Paired.length r
end
def lZ{P:Ye}{w:Yg}{k:ja}(r:zm (kV k) u):(xx P w).is k u=true:=by
 cases k with
 |inl i=>obtain⟨t,e⟩:=(show ∃t,u=Value.int i t from r);subst e;exact wA P w i t
 |inr x=>obtain⟨t,e⟩:=(show ∃t,u=Value.str x t from r);subst e;exact vD P w x t
theorem qY{P:Ye}{w:Yg}:∀{ks:Yl} {us:XZ},zk (ks.map kV) us->ItemsAre (xx P w) ks us
 |[],_,r=>by rw[CA] at r;cases r;exact .nil
 |k::ks,_,r=>by rw[AD] at r;cases r with|cons h t=>exact .cons (lZ h)<|qY t
abbrev KT(H:Hp):List (Yl×V)->List (Yl×Addr×Yc)->Prop:=Paired λp q=>p.1=q.1/\H q.2.1=some (.tup<|p.1.map kV)/\zm p.2 q.2.2
def KT.val{xs:List<|Yl×Addr×Yc}(r:KT H kvs xs)(k:Yl):jQ (cZ kvs k) ((atKey xs k).map (·.2)):=by
 induction r with
 |nil=>exact True.intro
 |@cons p q l I h t g=>
  obtain⟨U,_,j⟩:=h;by_cases e:p.1=k
  ·have J:q.1=k:=U.symm.trans e;have b:atKey (q::I) k=some q.2:=by simp[atKey,BK,J]
   rw[nW e,b];exact j
  ·have J:¬q.1=k:=λz=>e<|U.trans z;have b:atKey (q::I) k=atKey I k:=by simp[atKey,BK,J]
   rw[o6 e,b];exact g
def KT.repl{xs:List<|Yl×Addr×Yc}(r:KT H kvs xs)(k:Yl){y:V}(g:zm y u):
 KT H (kvs.map λJ=>if J.1=k then(J.1,y) else J) (xs.map<|putAt k u):=by
 induction r with
 |nil=>exact .nil
 |@cons p q o C h t j=>
  rw[AD,AD];refine .cons ?_ j;obtain⟨I,U,l⟩:=h;unfold putAt;by_cases e:p.1=k
  ·rw[AF e,AF<|I.symm.trans e];exact⟨I,U,g⟩
  ·rw[AA e,AA λz=>e<|I.trans z];exact⟨I,U,l⟩
def KT.put{xs:List<|Yl×Addr×Yc}(r:KT H kvs xs)(k:Yl){b:Addr}{y:V}(J:H b=some (.tup<|k.map kV))(I:zm y u):
 KT H (dZ kvs k y) (storedH xs k b u):=by
 have e:(kvs.any λU=>decide<|U.1=k)=(atKey xs k).isSome:=by rw[uf,(r.val k).isSome_eq,Option.isSome_map]
 unfold dZ storedH;rw[e];by_cases q:(atKey xs k).isSome=true
 ·rw[AF q,AF q];exact r.repl k I
 ·rw[AA q,AA q];exact Paired.snoc r ⟨rfl,J,I⟩
def KT.keeps{xs:List<|Yl×Addr×Yc}(r:KT H kvs xs)(I:∀b ys,H b=some (.tup ys)->H' b=some (.tup ys)):KT H' kvs xs:=
 EE r λ_ _ z=>⟨z.1,I _ _ z.2.1,z.2.2⟩
section
variable {P:Ye}{w:Yg}{a:Addr}
def Ia{u:HO}(ok:fh P w H h)(e:Rd H a u):xn P w H h a u:=e.ok ok
def FO{kvs:List<|ja×V}(ok:fh P w H h)(e:Rd H a<|.dK kvs):kvs.length<=sizeLine/\(a==sysModules)=false/\∃vs,KV kvs vs/\h.DictOf (xx P w) a vs:=
 show xn P w H h a (.dK kvs) from Ia ok e
def Ib{kvs:List<|ja×V}(ok:fh P w H h)(e:H a=some (.dK kvs)):kvs.length<=sizeLine/\(a==sysModules)=false/\∃vs,KV kvs vs/\h.DictOf (xx P w) a vs:=FO ok<|.inl e
def zI{ks:Yl}(ok:fh P w H h)(e:H a=some (.tup<|ks.map kV)):(tupleKind<|xx P w).is h ks a:=by obtain⟨_,I,r,o,J,U,n,g⟩:=(show xn P w H h a (.tup<|ks.map kV) from ok a _ e);exact⟨o,I.toArray,n,J,U,g,by simpa using qY r⟩
def GI(ok:fh P w H h)(e:Rd H a<|.dT kvs):kvs.length<=sizeLine/\(a==sysModules)=false/\
 ∃xs,KT H kvs xs/\h.DictOfH (tupleKind<|xx P w) a xs:=by
 obtain⟨z,y,xs,r,o,U,g,j,C,T,h4,h5⟩:=(show xn P w H h a (.dT kvs) from Ia ok e);refine⟨z,y,xs,r,o,U,g,j,C,T,h4,λx I=>?_,h5⟩;have all:∀{l:List<|Yl×V} {m:List<|Yl×Addr×Yc},KT H l m->∀x∈m,(tupleKind<|xx P w).is h x.1 x.2.1:=by
  intro l m q
  induction q with
  |nil=>intro x I;exact nomatch I
  |@cons p q ps qs J t ih=>
   intro x I;rcases Ap.mp I with e|I
   ·subst e;exact zI ok (by rw[<-J.1];exact J.2.1)
   ·exact ih x I
 exact all r x I
def Pb(ok:fh P w H h)(e:H a=some (.dT kvs)):kvs.length<=sizeLine/\(a==sysModules)=false/\
 ∃xs,KT H kvs xs/\h.DictOfH (tupleKind<|xx P w) a xs:=GI ok<|.inl e
end
def GJ(H:Hp)(a:Addr)(y:V)(r:Yk):Prop:=
 (∃kvs k,Rd H a (.dK kvs)/\y=kV k/\r=cZ kvs k)\/∃kvs k b,Rd H a (.dT kvs)/\y=.ref b/\H b=some (.tup<|k.map kV)/\r=cZ kvs k
def Ic(H:Hp)(a:Addr)(y v:V)(H':Hp):Prop:=
 (∃kvs k,H a=some (.dK kvs)/\y=kV k/\kvs.length<sizeLine/\H'=upd H a (.dK<|dZ kvs k v))\/
 ∃kvs k b,H a=some (.dT kvs)/\y=.ref b/\H b=some (.tup<|k.map kV)/\kvs.length<sizeLine/\H'=upd H a (.dT<|dZ kvs k v)
section
variable {a:Addr}{y:V}{r:Yc}{o:Yk}
def z0.big(I:z0 X pins σ H s):sysModules<s.heap.objs.size:=by have h:mainGlobals<s.heap.objs.size:=(I.mod.glob.keeps I.bk).lt;exact Dc (by decide) h
def Pd(hu:A.units+1<cLine)(I:z0 X pins σ H s)(g:GJ H a y<|some v)(T:zm y u)(h:∀U s',z0 X pins σ H s'->zm v U->Q U s'):
 wpAny (model X.prog X.w) A (getItem (.ref a) u) Q E s:=by
 rcases g with⟨j,k,e,r,l⟩|⟨j,k,b,e,r,eb,l⟩
 ·subst r;obtain⟨z,hd,vs,rel,t⟩:=FO I.hok e;obtain⟨U,hw,J⟩:=ET (v:=v) (o:=valueAt vs k) (by rw[l];exact rel.val k);exact wpAny_getItem_of (lZ T) t.mapOf hw<|h U _ (I.tok _) J
 ·subst r;cases (show u=Value.ref b from T);obtain⟨z,hd,xs,rel,t⟩:=GI I.hok e;obtain⟨U,hw,J⟩:=ET (v:=v) (o:=(atKey xs k).map (·.2)) (by rw[l];exact rel.val k);obtain⟨p,hp,C⟩:=Am.mp hw;refine wpAny_getItem_heap (tupleKind_room_in1 hu) (zI I.hok eb) t hp ?_;rw[C];exact h U _ (I.tok _) J
def tQ{ob:HO}(I:z0 X pins σ H s)(J:Fk<|H a)(hs:Heap.SameBut a s.heap h')(U:∃q,h'.get? a=some q)(new:xn X.prog X.w (upd H a ob) h' a ob)(j:0<t':=by walk_at "t"):
 z0 X pins σ (upd H a ob) {s with heap:=h',toks:=t'}:=
 I.write (x:=a) (e:=a) J (.inl rfl) (λb q g z=>(hs.2 b g).trans z) U new
def Ie{P:Ye}{w:Yg}{kvs:List<|ja×V}{vs:List<|ja×Yc}(z:kvs.length<=sizeLine)(hd:(a==sysModules)=false)(rel:KV kvs vs)(I:h'.DictOf (xx P w) a vs):
 xn P w H' h' a (.dK kvs):=⟨z,hd,vs,rel,I⟩
def Pe{Q:XU}(hu:A.units+1<cLine)(I:z0 X pins σ H s)(g:Ic H a y v H')(ry:zm y u)(rv:zm v r)(h:∀s',z0 X pins σ H' s'->Q () s'):
 wpAny (model X.prog X.w) A (setItem (.ref a) u r) Q E s:=by
 rcases g with⟨J,k,e,o,l,p⟩|⟨J,k,b,e,o,eb,l,p⟩
 ·subst o p;obtain⟨z,hd,vs,rel,t⟩:=Ib I.hok e;have C:vs.length<=sizeLine:=by rw[<-rel.length];exact z
  have T:(dZ J k v).length<=sizeLine:=by have:=eI J k v;lia
  refine wpAny_setItem_pairs (hsz:=C) (lZ ry) t λh' U hs=>h _ ?_;have he:∃q,h'.get? a=some q:=let ⟨q,_,_,j,_⟩:=U;⟨q,j⟩;exact tQ I (by rw[e];exact True.intro) hs he<|Ie T hd (rel.put k rv) U
 ·subst o p;cases (show u=Value.ref b from ry);obtain⟨z,hd,xs,rel,t⟩:=Pb I.hok e;have C:xs.length<=sizeLine:=by rw[<-Paired.length rel];exact z
  have T:(dZ J k v).length<=sizeLine:=by have:=eI J k v;lia
  refine wpAny_setItem_heap (hsz:=C) (tupleKind_room_in1 hu) (zI I.hok eb) t λh' U hs=>h _ ?_;obtain⟨q,es,ep,j,h2,h3,h4,_,h5⟩:=U;refine tQ I (by rw[e];exact True.intro) hs ⟨q,j⟩ ⟨T,hd,_,(rel.put k eb rv).keeps λc ys ec=>?_,q,es,ep,j,h2,h3,h4,h5⟩;rw[qu<|NE ec e λz=>nomatch z];exact ec
end
section
variable {a:Addr}{kvs:List<|ja×V}{k:ja}
end
def GK(i:Expr):Prop:=∀I J,subscripted i false I J=operate [I,J] (getItem I J)
def Pf{w:Yg}{slice:Expr}{T id:Yi}
 (t:typeLookup (.type T) "__getitem__" = pure (some<|.builtin id)) (hs:GK slice)
 (h:wpAny (model prog w) A (eval value env) (λo U=>wpAny (model prog w) A (eval slice env) (λi I=>I.TypeIs o T/\wpAny (model prog w) A (getItem o i) Q E I) E U) E s):
 wpAny (model prog w) A (eval (.Subscript value slice pos) env) Q E s:=by
 refine Subscript_<|A4 h (λo U j=>A4 j (λi I J=>?_) λ_ _ x=>x) λ_ _ x=>x;obtain⟨p,J⟩:=J;unfold subscriptTail;refine Aa ?_;rw[getitemInPython_of_ne p.not_modules];refine Aa<|wpAny_specialOf p t ?_;have jw:wpAny (model prog w) A (subscripted slice false o i) (λr g=>wpAny (model prog w) A (letTemporaryGo value o r >>= λ_=>pure r) Q E g) E I:=by rw[hs o i];exact wpAny_operating<|A4 J (λr g l=>Aa<|wpAny_letTemporaryGo<|Aj l) λ_ _ x=>x
 first
  |exact Aj<|Aa jw
  |exact Aa<|Aj<|Aa jw
  |exact Aa jw
def uv{a:Addr}{y:V}{o:Yk}(I:z0 X pins σ H s)(g:GJ H a y o):s.TypeIs (.ref a) "dict" := by
 rcases g with⟨J,k,e,_,_⟩|⟨J,k,b,e,_,_,_⟩
 ·obtain⟨_,_,j,_,U⟩:=FO I.hok e;exact U.typeIs
 ·obtain⟨_,_,l,_,U⟩:=GI I.hok e;exact U.typeIs
def Pg(td ty:TE):TE:=λσ H Q=>td σ H λx H1=>ty σ H1 λy H2=>∃a v,x=.ref a/\GJ H2 a y (some v)/\Q v H2
def Ph(td ty tv:TE):TS:=λD σ H=>tv σ H λv H1=>td σ H1 λx H2=>ty σ H2 λy J=>∃a I,x=.ref a/\Ic J a y v I/\D.nx σ I
section
variable {i:Expr}{tpos:Pos}{td ty tv:TE}
def Pj(p:X.A.units+1<cLine)(r:PE X o td)(hi:PE X i ty)(hs:GK i):PE X (.Subscript o i pos) (Pg td ty):=by intro J s j H Q I h;refine Pf DH.lookup hs<|aW (r J s j H _ I h) λu t x C T rx q1=>wq (hi J t j C _ T q1) λiv s2 ⟨y,H2,l,ry,a,v,ex,g,q2⟩=>?_;subst ex;obtain rfl:u=Value.ref a:=rx;exact⟨uv l g,Pd p l g ry λw' s3 I3 U=>⟨v,H2,I3,U,q2⟩⟩
def Pk(j:X.A.units+1<cLine)(l:PE X o td)(hi:PE X i ty)(p:PE X value tv)(hs:swapsWith value (some<|.Subscript o i fy) pos.line X.env=pure false):
 PS X (.Assign [.Subscript o i fy] value pos) (Ph td ty tv):=by
 intro J s U H D I h;refine wpAny_Assign_Subscript (aW (p J s U H _ I h) λr t v C T rv q1=>aW (l J t U C _ T q1) λu s2 x H2 I2 rx q2=>wq (hi J s2 U H2 _ I2 q2) λiv s3 ⟨y,H3,I3,ry,a,H4,ex,g,q3⟩=>?_) hs;subst ex;obtain rfl:u=Value.ref a:=rx;exact Pe j I3 g ry rv λs4 I4=>⟨U,H4,I4,q3⟩
end
def wX{P:Ye}{w:Yg}(h:Yh)(I:sysModules<h.objs.size):xn P w H (h.push {cls:=.type "dict",data:=.dict #[]}) h.objs.size (.dK []):=
 ⟨A3 _,beq_eq_false_iff_ne.mpr<|AN<|A9 I,[],.nil,Heap.DictOf.new h⟩
def Pl:TE:=λ_ H Q=>∀p,H p=none->Q (.ref p) (upd H p<|.dK [])
def Pm:PE X (.Dict [] [] pos) Pl:=λJ s U H Q I h=>
 wpAny_Dict_empty ⟨.ref s.heap.objs.size,_,I.laid (a:=s.heap.objs.size) (o:=.dK []) (t':=s.toks) (λ_ _ q=>vc _ q) (Ak _)<|wX s.heap I.big,rfl,h _<|I.hok.fresh<|Ak _⟩
def tL:List (TE×TE)->St->Hp->(List (V×V)->Hp->Prop)->Prop
 |[],_,H,Q=>Q [] H
 |(tk,tv)::r,σ,H,Q=>tk σ H λx H1=>tv σ H1 λy H2=>tL r σ H2 λps I=>Q ((x,y)::ps) I
abbrev VV:List (V×V)->List (Yc×Yc)->Prop:=Paired λp q=>zm p.1 q.1/\zm p.2 q.2
def Fo(X:Cx)(pos:Pos)(keys:List<|Option Expr)(values:X5)(I:List<|TE×TE):Prop:=
 ∀(pins:List<|Addr×Obj) (s:Yd) (σ:St) (H:Hp) (Q:List (V×V)->Hp->Prop),z0 X pins σ H s->tL I σ H Q->
  wpAny (model X.prog X.w) X.A (evalPairs<|pairTrees keys values X.env pos) (λvs s'=>∃ps H',z0 X pins σ H' s'/\VV ps vs/\Q ps H') X.xe s
def Pn :Fo X pos [] [] []:=λJ s U H Q I h=>pairTrees_nil_walk ⟨[],H,I,.nil,h⟩
def gN{k v:Expr}{ks:List<|Option Expr}{vs:X5}{tk tv:TE}{U:List<|TE×TE}(j:PE X k tk)(l:PE X v tv)(o:Fo X pos ks vs U):
 Fo X pos (some k::ks) (v::vs) ((tk,tv)::U):=λJ s g H Q I h=>
 pairTrees_cons_walk (aW (j J s g H _ I h) λu p x r t C T=>aW (l J p g r _ t T) λw2 s2 y H2 I2 ry q2=>
  wq (o J s2 g H2 _ I2 q2) λws s3 ⟨ps,H3,I3,rel,q3⟩=>⟨(x,y)::ps,H3,I3,.cons ⟨C,ry⟩ rel,q3⟩)
def iz(kvs more:List<|ja×V):List (ja×V):=more.foldl (λI J=>dZ I J.1 J.2) kvs
def KV.merge:∀{more:List<|ja×V} {I:List<|ja×Yc} {kvs:List<|ja×V} {vs:List<|ja×Yc},KV more I->KV kvs vs->KV (iz kvs more) (merged vs I):=by
 intro more I kvs vs r;unfold KV at r
 induction r generalizing kvs vs with
 |nil=>intro q;exact q
 |@cons p q g j h t J=>
  intro U;have e:KV (dZ kvs p.1 p.2) (stored vs q.1 q.2):=by have:=U.put p.1 h.2;rw[<-h.1];exact this
  exact J e
theorem fV:∀(more kvs:List<|ja×V),(iz kvs more).length<=kvs.length+more.length
 |[],kvs=>by show kvs.length<=kvs.length+0;lia
 |p::r,kvs=>by have I:=fV r<|dZ kvs p.1 p.2;have J:=eI kvs p.1 p.2;show(iz (dZ kvs p.1 p.2) r).length<=_;rw[Au];lia
theorem oj{P:Ye}{w:Yg}:∀{kvs:List<|ja×V} {ws:List<|Yc×Yc},VV (kvs.map λJ=>(kV J.1,J.2)) ws->∃I,Carries (xx P w) ws I/\KV kvs I
 |[],_,r=>by rw[CA] at r;cases r;exact⟨[],True.intro,.nil⟩
 |p::kvs,_,r=>by
  rw[AD] at r;cases r with
  |@cons a b as bs h t=>
   obtain⟨I,c,q⟩:=oj (P:=P) (w:=w) t;obtain⟨b1,b2⟩:=b;exact⟨(p.1,b2)::I,⟨lZ h.1,rfl,c⟩,.cons ⟨rfl,h.2⟩ q⟩
def Po(I:List<|TE×TE):TE:=λσ H Q=>∀p,H p=none->tL I σ (upd H p<|.dK []) λps H2=>H2 p=some (.dK [])/\∃kvs:List (ja×V),ps=kvs.map (λJ=>(kV J.1,J.2))/\kvs.length<=15/\Q (.ref p) (upd H2 p<|.dK<|iz [] kvs)
def Pp{keys:List<|Option Expr}{values:X5}{J:List<|TE×TE}(h:Fo X pos keys values J)(U:keys.all (·.isSome)=true)(t:keys.length=values.length)(C:keys≠[])
 (p:keys.length<=15):PE X (.Dict keys values pos) (Po J):=by
 intro g s T H Q I q;have hn:=I.hok.fresh<|Ak s.heap.objs.size;have I1:=I.laid (a:=s.heap.objs.size) (o:=.dK []) (h':=s.heap.push {cls:=.type "dict",data:=.dict #[]}) (t':=s.toks) (λ_ _ q=>vc _ q) (Ak _)<|wX s.heap I.big;refine wpAny_Dict_walk (knd:=xx X.prog X.w) U t C p<|wq (h g _ T _ _ I1<|q _ hn) λws s2 ⟨ps,H2,r,rel,e,j,ep,lk,q2⟩=>?_;subst ep;obtain⟨rs,c,rk⟩:=oj (P:=X.prog) (w:=X.w) rel;obtain⟨z,hd,a0,r0,dd⟩:=Ib r.hok e;cases r0;refine⟨rs,c,dd,λh' l hs=>⟨.ref s.heap.objs.size,_,?_,rfl,q2⟩⟩;have hz:(iz [] j).length<=sizeLine:=by have h1:=fV j [];rw[BR] at h1;rw[sizeLine_eq];lia
 have he:∃q,h'.get? s.heap.objs.size=some q:=let ⟨q,_,_,hq,_⟩:=l;⟨q,hq⟩;exact tQ r (by rw[e];exact True.intro) hs he<|Ie hz hd (rk.merge .nil) l
section
variable {a:Addr}{y d:V}{r:Yc}{o:Yk}
end
section
variable {f:Expr}{td ty tx:TE}
end
section
variable {a:Addr}{kvs:List<|ja×V}
end
section
variable {a:Addr}{y:V}
end
end L2
namespace HT
open PySem PyProof.Rows
section
open PySem.SeqAt
open PySem.AutoSeq1 (wpAny_loadPart')
open PySem.MeetsSeq PySem.MeetsSeq2 PySem.MeetsSeq3
end
section
variable {w:Yg}
def sIx(n d:Nat):X9->Nat
 |none=>d
 |some v=>if v<0 then(v+(n:Int)).toNat else min v.toNat n
def sIx_none(n d:Nat):sIx n d none=d:=rfl
def sIx_nat(n d k:Nat):sIx n d (some (k:Int))=min k n:=by show(if (k:Int)<0 then((k:Int)+(n:Int)).toNat else min (k:Int).toNat n)=min k n;rw[AA (by lia),Cg]
def sIx_le(n d:Nat)(hd:d<=n)(o:X9):sIx n d o<=n:=by
 cases o with
 |none=>exact hd
 |some v=>
  show(if v<0 then(v+(n:Int)).toNat else min v.toNat n)<=n;by_cases I:v<0
  ·rw[AF I];lia
  ·rw[AA I];exact Nat.min_le_right _ _
def Ig(v:Int)(n d:Nat):(if v<0 then max (v+(n:Int)) 0 else min v (n:Int))=((sIx n d (some v):Nat):Int):=by
 show(if v<0 then max (v+(n:Int)) 0 else min v (n:Int))=(((if v<0 then(v+(n:Int)).toNat else min v.toNat n):Nat):Int);by_cases I:v<0
 ·simp only[AF I];lia
 ·simp only[AA I];lia
def y7(lo hi:X9)(n:Nat):Builtin.Slice.sliceAdjust lo hi 1 (n:Int)=(((sIx n 0 lo:Nat):Int),(sIx n n hi:Int)):=by
 have I:¬((1:Int)<0):=by lia
 unfold Builtin.Slice.sliceAdjust;simp only[I,if_false];refine Et ?_ ?_
 ·cases lo with|none=>rfl|some v=>exact Ig v n 0
 ·cases hi with|none=>rfl|some v=>exact Ig v n n
def yF(i j:Nat):Builtin.Slice.slicePlaces (i:Int) (j:Int) 1=j-i:=by
 unfold Builtin.Slice.slicePlaces;have I:(1:Int) > 0:=by lia
 simp only[I,if_true,Int.ediv_one];split<;>lia
def oH{v:Yc}{o:X9}{Q:X9->Yd->Prop}(p:IsPart v o)(h:Q o s):wpAny (model prog w) A (Builtin.Slice.slicePartIndex v) Q E s:=by cases p with|none=>exact slicePart_none h|int i t=>exact slicePart_int h
def jD{j:Addr}{U g:Yc}{lo hi:X9}{n:Nat}{Q:Int×Int×Nat->Yd->Prop}(hs:s.heap.IsSliceOf j U g .none)(l:IsPart U lo)(o:IsPart g hi)
 (h:Q (((sIx n 0 lo:Nat):Int),1,sIx n n hi-sIx n 0 lo) s):wpAny (model prog w) A (Builtin.Slice.sliceApplied (.ref j)<|pure (n:Int)) Q E s:=by
 obtain⟨os,I,p,J⟩:=id hs;unfold Builtin.Slice.sliceApplied Builtin.Slice.sliceFields;refine Aa<|Aa<|Bf I J (x:=U) rfl<|Aa<|Bf I J (x:=g) rfl<|Aa<|Bf I J (x:=.none) rfl<|Aj ?_;refine Aa<|slicePart_none ?_;show wpAny _ _ (if ((1:Int)==0)=true then _ else _) _ _ s;rw[AA (by decide)];refine Aa<|oH l<|Aa<|oH o<|Aa<|Aj ?_;show wpAny _ _ (match Builtin.Slice.sliceAdjust lo hi 1 (n:Int) with|(lo,hi)=>pure (lo,(1:Int),Builtin.Slice.slicePlaces lo hi 1)) _ _ s;rw[y7 lo hi n];show wpAny _ _ (pure (((sIx n 0 lo:Nat):Int),(1:Int),Builtin.Slice.slicePlaces ((sIx n 0 lo:Nat):Int) (sIx n n hi:Int) 1)) _ _ s;rw[yF];exact Aj h
def Pq(xs:X0)(i k:Nat):((List.range k).filterMap λ(m:Nat)=>xs[((i:Int)+(m:Int)*1).toNat]?).toArray=((xs.toList.drop i).take k).toArray:=by
 have e:(λ(m:Nat)=>xs[((i:Int)+(m:Int)*1).toNat]?)=λm=>xs[i+m]?:=by
  funext m;have:((i:Int)+(m:Int)*1).toNat=i+m:=by lia
  rw[this]
 rw[e];have:=pick_run xs i k;rw[List.filterMap_map] at this;have I:((λx=>xs[x]?)∘λx=>i+x)=λm=>xs[i+m]?:=rfl;rw[I] at this;rw[this]
def getItem_tuple_cut{t U:Addr}{items:X0}{p r:Yc}{lo hi:X9}(J:IsTup s.heap t items)(hs:s.heap.IsSliceOf U p r .none)(C:IsPart p lo)(T:IsPart r hi)
 (hw:¬(sIx items.size 0 lo=0/\sIx items.size items.size hi=items.size))
 (h:Q (.ref s.heap.objs.size) {s with heap:=s.heap.push {cls:=.type "tuple",data:=.seq ((items.toList.drop<|sIx items.size 0 lo).take<|sIx items.size items.size hi-sIx items.size 0 lo).toArray}})
 (hsz:items.size<=sizeLine):wpAny (model prog w) A (getItem (.ref t)<|.ref U) Q E s:=by
 have I:sizeOk (.seq ((items.toList.drop<|sIx items.size 0 lo).take<|sIx items.size items.size hi-sIx items.size 0 lo).toArray):=by show((items.toList.drop<|sIx items.size 0 lo).take<|sIx items.size items.size hi-sIx items.size 0 lo).toArray.size<=sizeLine;rw[As,AJ,BD,A5];lia
 have hj:sIx items.size items.size hi<=items.size:=sIx_le _ _ (Ak _) hi;obtain⟨os,g,j,a0⟩:=id hs;have l:s.TypeIs (.ref U) "slice" := ⟨os,g,j⟩;unfold getItem
 try with_reducible refine Bi ?_
 first|refine Aa (Aj ?_)|skip
 refine Aa<|wpAny_sequenceKey J.typeIs (by decide) ?_;refine Aa (wpAny_callSpecial?_slot (name:=Str.ofString "__getitem__") J.typeIs Cp
  (wpAny_call_entry Cp J.typeIs entry_tuple_getitem ?_<|args_tuple_getitem _ _))
 show wpAny _ _ (Builtin.Tuple.tupleItemsOf (.ref t) >>= _) _ _ s;refine Aa<|tupleItemsOf_ J ?_;refine Aa<|wpAny_typeOf l ?_;rw[AF (by decide)];refine Aa<|jD hs C T ?_;have o:¬((((sIx items.size 0 lo:Nat):Int)==0&&(1:Int)==1&&(sIx items.size items.size hi-sIx items.size 0 lo)==items.size)=true):=by intro q;rw[Ba,Ba] at q;have q1:((sIx items.size 0 lo:Nat):Int)=0:=eq_of_beq q.1.1;have q2:sIx items.size items.size hi-sIx items.size 0 lo=items.size:=eq_of_beq q.2;exact hw ⟨by lia,by lia⟩
 show wpAny _ _ (if (((sIx items.size 0 lo:Nat):Int)==0&&(1:Int)==1&&(sIx items.size items.size hi-sIx items.size 0 lo)==items.size)=true then _ else _) _ _ s;rw[AA o,Pq]
 first
  |exact Aa (m:=Builtin.Tuple.tupleExact _)<|Bn (Aj ⟨_,rfl,Aj h⟩) I
  |exact Aa (m:=Builtin.Tuple.tupleExact _)<|Bn (Aa<|Aj<|Aj ⟨_,rfl,Aj h⟩) I
  |exact Aa<|Aa (m:=Builtin.Tuple.tupleExact _)<|Bn (Aj<|Aj ⟨_,rfl,Aj h⟩) I
  |exact Aa<|Aa (m:=Builtin.Tuple.tupleExact _)<|Bn (Aj ⟨_,rfl,Aj h⟩) I
end
end HT
namespace L2
open PySem PySem.Spec PyProof.Rows
abbrev TO:=St->Hp->(X9->Hp->Prop)->Prop
def PO(X:Cx)(e:Option Expr)(t:TO):Prop:=
 ∀(pins:List<|Addr×Obj) (s:Yd) (σ:St) (H:Hp) (Q:X9->Hp->Prop),z0 X pins σ H s->t σ H Q->
  wpAny (model X.prog X.w) X.A (evalPart e X.env) (λu s'=>∃o H',z0 X pins σ H' s'/\IsPart u o/\Q o H') X.xe s
def Pr:TO:=λ_ H Q=>Q none H
def Ps(t:TE):TO:=λσ H Q=>t σ H λx H1=>∃i,x=.int i/\Q (some i) H1
section
variable {te:TE}{lo hi:Option Expr}{tl th:TO}
def Pu:PO X none Pr:=by intro J s U H Q I h;rw[evalPart_none];exact Aj ⟨none,H,I,.none,h⟩
def Pw(h:PE X e te):PO X (some e) (Ps te):=by intro J s U H Q I hw;rw[evalPart_some];refine aW (h J s U H _ I hw) λu p x g j l o=>?_;obtain⟨i,rfl,q⟩:=o;obtain⟨t,rfl⟩:=l;exact⟨some i,g,j,.int i t,q⟩
def uP(X:Cx)(r:V->X9->X9->Hp->VK->Prop):Prop:=
 ∀(pins:List<|Addr×Obj) (s:Yd) (σ:St) (H:Hp) (x:V) (v I J:Yc) (lo hi:X9) (U:Addr) (Q:VK),z0 X pins σ H s->zm x v->s.heap.IsSliceOf U I J .none->IsPart I lo->IsPart J hi->r x lo hi H Q->
  ∃T id,typeLookup (.type T) "__getitem__" = pure (some<|.builtin id)/\s.TypeIs v T/\wpAny (model X.prog X.w) X.A (getItem v<|.ref U) (EP X pins σ Q) X.xe s
def uP.or{U:V->X9->X9->Hp->VK->Prop}(h:uP X r)(h':uP X U):uP X (λx lo hi H Q=>r x lo hi H Q\/U x lo hi H Q):=by
 intro J s g H x v j l lo hi o Q I p t C T q;rcases q with q|q
 ·exact h J s g H x v j l lo hi o Q I p t C T q
 ·exact h' J s g H x v j l lo hi o Q I p t C T q
def Px(r:V->X9->X9->Hp->VK->Prop)(te:TE)(tl th:TO):TE:=λσ H Q=>te σ H λx H1=>tl σ H1 λl H2=>th σ H2 λu I=>r x l u I Q
def Py(t:uP X r)(C:PE X e te)(hl:PO X lo tl)(hu:PO X hi th):PE X (.Subscript e (.Slice lo hi none p2) pos) (Px r te tl th):=by intro J s g H Q I h;refine Subscript_<|wq (C J s g H _ I h) λv s1 ⟨x,H1,I1,r1,q1⟩=>?_;refine wpAny_Slice<|wq (hl J s1 g H1 _ I1 q1) λj s2 ⟨l,H2,I2,pl,q2⟩=>wq (hu J s2 g H2 _ I2 q2) λo U ⟨u,p,I3,pu,q3⟩=>?_;rw[evalPart_none];refine Aj ?_;have I4:z0 X J g p {U with heap:=U.heap.push {cls:=.type "slice",data:=.fields #[j,o,.none]}}:=I3.kept (t':=U.toks) λb ob q=>vc _ q;obtain⟨T,id,hT,ht,hg⟩:=t J {U with heap:=U.heap.push {cls:=.type "slice",data:=.fields #[j,o,.none]}} g p x v j o l u U.heap.objs.size Q I4 r1 (Heap.IsSliceOf.new ..) pl pu q3;show wpAny (model X.prog X.w) X.A (subscriptTail e (.Slice lo hi none p2) v<|.ref U.heap.objs.size) (EP X J g Q) X.xe {U with heap:=U.heap.push {cls:=.type "slice",data:=.fields #[j,o,.none]}};exact tail_any (ops:=[.ref U.heap.objs.size,v]) ht hT hg (by with_unfolding_all rfl)
def xA(xs:Yj)(lo hi:X9):Yj:=(xs.drop<|HT.sIx xs.length 0 lo).take<|HT.sIx xs.length xs.length hi-HT.sIx xs.length 0 lo
def l9(xs:Yj)(lo hi:X9):(xA xs lo hi).length<=xs.length:=by unfold xA;rw[AJ,BD];lia
def Pz(K:Ah):V->X9->X9->Hp->VK->Prop:=λx lo hi H Q=>∃a xs,x=.ref a/\dS K H a xs/\
 ¬(HT.sIx xs.length 0 lo=0/\HT.sIx xs.length xs.length hi=xs.length)/\∀p,H p=none->Q (.ref p) (upd H p<|.tup<|xA xs lo hi)
def PB:uP X (Pz X.K):=by
 rintro l s σ H x v vl vu lo g sl Q I C T pl pu⟨a,U,rfl,hx,hw,q⟩;cases C;obtain⟨j,r,p,t⟩:=I.tuple hx;have J:j.toArray.size=U.length:=by rw[As];exact r.length.symm
 refine⟨"tuple",_,Cp.lookup,p.typeIs,?_⟩;refine HT.getItem_tuple_cut p T pl pu (by rw[J];exact hw) ?_ (by rw[J];exact t);rw[J];refine⟨.ref s.heap.objs.size,_,I.laid (t':=s.toks) (o:=.tup<|xA U lo g) (λb ob q=>vc _ q) (Ak _) ?_,rfl,q _<|I.hok.fresh<|Ak _⟩;exact⟨AE (l9 U lo g) t,_,(r.drop<|HT.sIx U.length 0 lo).take<|HT.sIx U.length U.length g-HT.sIx U.length 0 lo,IsTup.new _ _⟩
end
def s_(n:Nat)(i:Int):Option Nat:=if 0<=i then(if i<n then some i.toNat else none) else if -(n:Int)<=i then some (i+n).toNat else none
def jU(xs:List α)(i:Int):Option α:=(s_ xs.length i).bind λj=>xs[j]?
def Ih{n:Nat}{i:Int}(h:s_ n i=some j):seqIndex? i n=some j/\j<n /\ -(n:Int)<=i/\i<n:=by
 unfold s_ at h;by_cases J:0<=i
 ·rw[AF J] at h;by_cases I:i<n
  ·rw[AF I] at h;have e:i.toNat=j:=Bb h;exact⟨by rw[seqIndex_of J I,e],by lia,by lia,I⟩
  ·rw[AA I] at h;cases h
 ·rw[AA J] at h;by_cases I : -(n:Int)<=i
  ·rw[AF I] at h;have e:(i+n).toNat=j:=Bb h;exact⟨by rw[seqIndex_neg (by lia) I,e],by lia,I,by lia⟩
  ·rw[AA I] at h;cases h
def uE{xs:List α}{i:Int}{v:α}(h:jU xs i=some v):∃j,seqIndex? i xs.length=some j/\xs[j]?=some v/\j<xs.length /\ -(xs.length:Int)<=i/\i<xs.length:=by
 unfold jU at h;cases e:s_ xs.length i with
 |none=>rw[e] at h;cases h
 |some j=>
  rw[e] at h;obtain⟨I,J,U,g⟩:=Ih e;exact⟨j,I,h,J,U,g⟩
def vd{xs:List α}{v:α}(h:xs[j]?=some v):jU xs (j:Int)=some v:=by
 have I:j<xs.length:=(AM.mp h).1;have e:s_ xs.length (j:Int)=some j:=by unfold s_;rw[AF (by lia),AF (by lia)];simp
 unfold jU;rw[e];exact h
def tF(b:Expr):Prop:=∀o i,subscripted b false o i=operate [o,i] (getItem o i)
def IxR(X:Cx)(r:R2):Prop:=
 ∀(value slice:Expr) (pins:List<|Addr×Obj) (s:Yd) (σ:St) (H:Hp) (x y:V) (v u:Yc) (Q:VK),z0 X pins σ H s->zm x v->zm y u->r x y H Q->
  subscripted slice false v u=operate [v,u] (getItem v u)->wpAny (model X.prog X.w) X.A (subscriptTail value slice v u) (EP X pins σ Q) X.xe s
def Ii(X:Cx)(id:Yi)(r:V->Yj->Hp->VK->Prop):Prop:=
 ∀(pins:List<|Addr×Obj) (s:Yd) (σ:St) (H:Hp) (x:V) (xs:Yj) (v:Yc) (us:XZ) (Q:VK),z0 X pins σ H s->zm x v->zk xs us->r x xs H Q->
  wpAny (model X.prog X.w) X.A (call (.builtin id)<|v::us) (EP X pins σ Q) X.xe s
section
variable {a b:Expr}{ta tb:TE}
def PD{r:R2}(U:IxR X r)(g:PE X a ta)(j:PE X b tb)(hs:tF b):PE X (.Subscript a b pos) (Fm r ta tb):=by intro J s l H Q I h;exact Subscript_<|GC g j I h λv u o x y p t C T q=>U a b J o l p x y v u Q t C T q<|hs _ _
def PH(K:Ah):R2:=λx y H Q=>∃p xs i v,x=.ref p/\y=.int i/\aH K H p xs/\jU xs i=some v/\Q v H
def PK(K:Ah):R2:=λx y H Q=>∃p xs i v,x=.ref p/\y=.int i/\dS K H p xs/\jU xs i=some v/\Q v H
def PL:R2:=λx y H Q=>∃z i c,x=.str z/\y=.int i/\z.length<=sizeLine/\jU z.cps.toList i=some c/\Q (.str ⟨#[c]⟩) H
def PM:IxR X (PH X.K):=by
 intro value slice J s T H x y v u Q I rx ry h hs;obtain⟨p,xs,i,z,rfl,rfl,hq,he,q⟩:=h;cases rx;obtain⟨t,rfl⟩:=ry;obtain⟨g,r,l,hz⟩:=I.list hq;obtain⟨j,U,h2,h3,h4,h5⟩:=uE he;obtain⟨w,ew,o⟩:=r.get h2;have hl:=r.length;have hn:=jW;have jw:EP X J T Q w s:=⟨z,H,I,o,q⟩;by_cases h0:0<=i
 ·have C:i.toNat=j:=by rw[seqIndex_of h0 h5] at U;exact Bb U
  exact item_listR l.isList h0 (by lia) (by rw[C];simpa using ew) jw hs
 ·have C:(i+(g.toArray.size:Int)).toNat=j:=by rw[seqIndex_neg (by lia) h4] at U;rw[As,<-hl];exact Bb U
  exact subscriptTail_builtinR (x:=w) l.isList.typeIs slot_list_getitem.lookup
   (wpAny_getItem_list_neg (Q:=λr s'=>r=w/\EP X J T Q r s') l.isList (by lia) (by rw[As]<;>lia) (by lia) (by rw[C];simpa using ew) ⟨rfl,jw⟩) hs
def PN:IxR X (PK X.K):=by
 intro value slice J s g H x y v u Q I o C h T;obtain⟨p,xs,i,z,rfl,rfl,hq,he,q⟩:=h;cases o;obtain⟨t,rfl⟩:=C;obtain⟨a0,r,l,hz⟩:=I.tuple hq;obtain⟨j,h1,h2,h3,h4,h5⟩:=uE he;obtain⟨w,ew,U⟩:=r.get h2;have hl:=r.length;have hn:=jW;have jw:EP X J g Q w s:=⟨z,H,I,U,q⟩;exact subscriptTail_builtinR (x:=w) l.typeIs slot_tuple_getitem.lookup
  (getItem_tuple (j:=j) (Q:=λr s'=>r=w/\EP X J g Q r s') l (by lia) (by lia) (by rw[As,<-hl];exact h1) (by simpa using ew) ⟨rfl,jw⟩) T
def PP:IxR X PL:=by
 intro value slice J s σ H x y v u Q I g l h o;obtain⟨z,i,c,rfl,rfl,hz,p,q⟩:=h;obtain⟨t,rfl⟩:=g;obtain⟨t',rfl⟩:=l;obtain⟨j,U,r,h3,C,T⟩:=uE p;have hl:z.cps.toList.length=z.length:=by simp[Str.length]
 rw[hl] at U C T;have hn:=jW;exact tail_any (typeIs_str s z t) slot_str_getitem.lookup (getItem_str (c:=c) (by have e1:decide (i < -(2 ^ 63:Int))=false:=Ar (by lia);have e2:decide (i>=2 ^ 63)=false:=Ar (by lia);rw[e1,e2,Bool.or_false]) (by rw[U];simpa using r) ⟨.str ⟨#[c]⟩,H,I.tok _,⟨_,rfl⟩,q⟩) o
def yH(eH:XZ)(n j:Nat)(u:Yc):Obj.mapSeq (·.setIfInBounds j u) {cls:=.type "list",data:=.seq eH.toArray n}={cls:=.type "list",data:=.seq (eH.set j u).toArray n}:=by simp[Obj.mapSeq]
def z0.lst{p:Addr}(I:z0 X pins σ H s)(h:H p=some (.lst xs)):
 ∃(eH:XZ) (n:Nat),zk xs eH/\s.heap.get? p=some {cls:=.type "list",data:=.seq eH.toArray n}/\xs.length<=sizeLine:=by
 obtain⟨z,eH,n,r,e⟩:=I.hok p _ h;exact⟨eH,n,r,e,z⟩
def z0.lstUpd{p:Addr}{ys:Yj}{its':XZ}{n J:Nat}{f:Obj->Obj}(I:z0 X pins σ H s)(h:H p=some (.lst xs))
 (g:s.heap.get? p=some {cls:=.type "list",data:=.seq eH.toArray n}) (U:f {cls:=.type "list",data:=.seq eH.toArray n}={cls:=.type "list",data:=.seq its'.toArray J}) (r:zk ys its') (hz:ys.length<=sizeLine) (t:Nat) (l:0<t:=by walk_at "t"):
 z0 X pins σ (upd H p<|.lst ys) {s with heap:=s.heap.update p f,toks:=t}:=by
 have e:(s.heap.update p f).get? p=some {cls:=.type "list",data:=.seq its'.toArray J}:=by rw[Ev f g (by rw[U]<;>rfl),U]
 refine I.write (x:=p) (e:=p) (by rw[h];trivial) (.inl rfl) (λb u j q=>(Heap.get?_update_other _ _<|AN j).trans q) ⟨_,e⟩ ?_;exact⟨hz,its',J,r,e⟩
def PQ:V->V->V->Hp->(Hp->Prop)->Prop:=λo i v H Q=>∃p xs k j,o=.ref p/\i=.int k/\H p=some (.lst xs)/\s_ xs.length k=some j/\Q (upd H p<|.lst<|xs.set j v)
def PR:HL X PQ:=by
 rintro J s σ H o i v ov iv u Q I ro ri rv⟨p,xs,k,j,rfl,rfl,hp,hj,q⟩;cases ro;obtain⟨t,rfl⟩:=ri;obtain⟨U,n,r,l,hz⟩:=I.lst hp;obtain⟨g,h2,h3,h4⟩:=Ih hj;have C:=r.length;have hn:=jW;have I':z0 X J σ (upd H p<|.lst<|xs.set j v) {s with heap:=s.heap.update p (Obj.mapSeq (·.setIfInBounds j u))}:=
  I.lstUpd hp l (yH U n j u) (r.set rv j) (by rw[Cd];exact hz) s.toks
 by_cases h0:0<=k
 ·have T:k.toNat=j:=by rw[seqIndex_of h0 h4] at g;exact Bb g
  exact PySem.W.ki_setAt l h0 (by lia) (by rw[As,<-C];exact h4) (by rw[T];exact⟨_,I',q⟩)
 ·have T:(k+(U.toArray.size:Int)).toNat=j:=by rw[seqIndex_neg (by lia) h3] at g;rw[As,<-C];exact Bb g
  exact PySem.W.ki_setBack l (by lia) (by rw[As,<-C];exact h3) (by lia) (by rw[T];exact⟨_,I',q⟩)
def uL(lo hi:X9)(n:Nat):(sliceBounds lo hi none n).1=((HT.sIx n 0 lo:Nat):Int)/\(sliceBounds lo hi none n).2.1=((HT.sIx n n hi:Nat):Int)/\(sliceBounds lo hi none n).2.2=1:=by
 refine⟨?_,?_,rfl⟩
 ·cases lo with
  |none=>simp[sliceBounds,HT.sIx]
  |some i=>
   simp only[sliceBounds,HT.sIx,Option.getD_none,show(1:Int) > 0 by decide,if_true];by_cases h:i<0
   ·simp only[h,if_true]<;>lia
   ·simp only[h,if_false]<;>lia
 ·cases hi with
  |none=>simp[sliceBounds,HT.sIx]
  |some i=>
   simp only[sliceBounds,HT.sIx,Option.getD_none,show(1:Int) > 0 by decide,if_true];by_cases h:i<0
   ·simp only[h,if_true]<;>lia
   ·simp only[h,if_false]<;>lia
def qI(eH:XZ)(lo hi:X9):slicePick eH.toArray lo hi none=((eH.drop<|HT.sIx eH.length 0 lo).take<|HT.sIx eH.length eH.length hi-HT.sIx eH.length 0 lo).toArray:=by obtain⟨I,J,U⟩:=uL lo hi eH.toArray.size;unfold slicePick;rw[I,J,U];simp only[sliceRange_one,pick_run,As]<;>rfl
def PU(K:Ah):V->X9->X9->Hp->VK->Prop:=λx lo hi H Q=>∃a xs,x=.ref a/\aH K H a xs/\∀p,H p=none->Q (.ref p) (upd H p<|.lst<|xA xs lo hi)
def PV:uP X (PU X.K):=by rintro j s σ H x v vl vu lo g sl Q I p t C T⟨a,J,rfl,hx,q⟩;cases p;obtain⟨a0,r,l,hz⟩:=I.list hx;have U:=r.length;refine⟨"list",_,slot_list_getitem.lookup,l.isList.typeIs,?_⟩;refine wpAny_getItem_list_slice l.isList t C T .none (by simp) ?_ (by rw[As]<;>lia);rw[qI,<-U];refine⟨.ref s.heap.objs.size,_,I.laid (t':=s.toks) (o:=.lst<|xA J lo g) (λb ob q=>vc _ q) (Ak _) ?_,rfl,q _<|I.hok.fresh<|Ak _⟩;exact⟨AE (l9 J lo g) hz,_,0,(r.drop<|HT.sIx J.length 0 lo).take<|HT.sIx J.length J.length g-HT.sIx J.length 0 lo,wn _ rfl⟩
def ae:V->Bool
 |.non=>true
 |.bl _=>true
 |.int _=>true
 |.str _=>true
 |_=>false
def gH:V->V->Bool
 |.non,.non=>true
 |.bl a,.bl b=>a==b
 |.bl a,.int b=>(if a then 1 else 0)==b
 |.int a,.bl b=>a==(if b then 1 else 0)
 |.int a,.int b=>a==b
 |.str a,.str b=>a==b
 |_,_=>false
def oQ{y x:V}{v:Yc}(U:zm y u)(I:zm x v)(j:ae y=true)(g:ae x=true):SeqAt.EqAt A s u v (gH y x):=by
 cases y with
 |non=>
  cases U;cases x with
  |non=>cases I;exact SeqAt.EqAt.same _
  |bl b=>cases I;exact SeqAt.EqAt.none_bool b
  |int b=>obtain⟨t,rfl⟩:=I;exact SeqAt.EqAt.none_int b t
  |str b=>obtain⟨t,rfl⟩:=I;exact SeqAt.EqAt.none_str b t
  |_=>exact absurd (show false=true from g) AL
 |bl a=>
  cases U;cases x with
  |non=>cases I;exact SeqAt.EqAt.bool_none a
  |bl b=>cases I;exact SeqAt.EqAt.bool_bool a b
  |int b=>obtain⟨t,rfl⟩:=I;exact SeqAt.EqAt.bool_int a b t
  |str b=>obtain⟨t,rfl⟩:=I;exact SeqAt.EqAt.bool_str a b t
  |_=>exact absurd (show false=true from g) AL
 |int a=>
  obtain⟨J,rfl⟩:=U;cases x with
  |non=>cases I;exact SeqAt.EqAt.int_none a J
  |bl b=>cases I;exact SeqAt.EqAt.int_bool a J b
  |int b=>obtain⟨t,rfl⟩:=I;exact SeqAt.EqAt.int_int a J b t
  |str b=>obtain⟨t,rfl⟩:=I;exact SeqAt.EqAt.int_str a J b t
  |_=>exact absurd (show false=true from g) AL
 |str a=>
  obtain⟨J,rfl⟩:=U;cases x with
  |non=>cases I;exact SeqAt.EqAt.str_none a J
  |bl b=>cases I;exact SeqAt.EqAt.str_bool a J b
  |int b=>obtain⟨t,rfl⟩:=I;exact SeqAt.EqAt.str_int a J b t
  |str b=>obtain⟨t,rfl⟩:=I;exact SeqAt.EqAt.str_str a J b t
  |_=>exact absurd (show false=true from g) AL
 |_=>exact absurd (show false=true from j) AL
def xN(x:V)(u:Yc):Bool:=match u with
 |.none=>gH .non x
 |.bool b=>gH (.bl b) x
 |.int i _=>gH (.int i) x
 |.str z _=>gH (.str z) x
 |_=>false
def Ij{x y:V}(r:zm y u)(f:ae y=true):xN x u=gH y x:=by
 cases y with
 |non=>cases r;rfl
 |bl b=>cases r;rfl
 |int i=>obtain⟨t,rfl⟩:=r;rfl
 |str z=>obtain⟨t,rfl⟩:=r;rfl
 |_=>exact absurd (show false=true from f) AL
theorem iE{x:V}:∀{xs:Yj} {us:XZ},zk xs us->xs.all ae=true->us.any (xN x)=xs.any λy=>gH y x
 |_,_,.nil,_=>rfl
 |y::xs,u::us,.cons r t,f=>by rw[DQ,Ba] at f;rw[Cn,Cn,Ij r f.1,iE t f.2]
def iN{x:V}{v:Yc}(J:zm x v)(U:ae x=true):∀{xs:Yj} {us:XZ},zk xs us->xs.all ae=true->∀u∈us,SeqAt.EqAt A s u v (xN x u):=by
 intro xs us h
 induction h with
 |nil=>intro _ u I;cases I
 |cons r t g=>
  intro f j I;rw[DQ,Ba] at f;rcases Ap.mp I with rfl|I
  ·rw[Ij r f.1];exact oQ r J f.1 U
  ·exact g f.2 j I
def xG(x:V)(xs:Yj):Bool:=xs.any λy=>gH y x
def GL(K:Ah)(neg:Bool):R2:=λx y H Q=>∃p xs,y=.ref p/\(aH K H p xs\/dS K H p xs)/\ae x=true/\xs.all ae=true/\Q (.bl<|if neg then !xG x xs else xG x xs) H
def PX:k8 X (compareOp .In) (GL X.K false):=by
 rintro j s T H x y v u Q I l t⟨p,xs,rfl,U,o,fs,q⟩;cases t;rcases U with U|U
 ·obtain⟨J,r,g,C⟩:=I.list U;refine SeqAt.in_listAt (xN x) g.isList (λw hw=>iN l o r fs w (by simpa using hw)) ⟨.bl _,H,I,rfl,?_⟩;rw[show J.toArray.any (xN x)=J.any (xN x) by simp,iE r fs];exact q
 ·obtain⟨J,r,g,C⟩:=I.tuple U;refine SeqAt.in_tupleAt (xN x) g (λw hw=>iN l o r fs w (by simpa using hw)) ⟨.bl _,H,I,rfl,?_⟩;rw[show J.toArray.any (xN x)=J.any (xN x) by simp,iE r fs];exact q
def sN:k8 X (compareOp .NotIn) (GL X.K true):=by
 rintro j s T H x y v u Q I l t⟨p,xs,rfl,U,o,fs,q⟩;cases t;rcases U with U|U
 ·obtain⟨J,r,g,C⟩:=I.list U;refine SeqAt.notIn_listAt (xN x) g.isList (λw hw=>iN l o r fs w (by simpa using hw)) ⟨.bl _,H,I,rfl,?_⟩;rw[show J.toArray.any (xN x)=J.any (xN x) by simp,iE r fs];exact q
 ·obtain⟨J,r,g,C⟩:=I.tuple U;refine SeqAt.notIn_tupleAt (xN x) g (λw hw=>iN l o r fs w (by simpa using hw)) ⟨.bl _,H,I,rfl,?_⟩;rw[show J.toArray.any (xN x)=J.any (xN x) by simp,iE r fs];exact q
def sF:zq X (.builtin "len") (λxs H Q=>∃p ys,xs=[.ref p]/\(aH X.K H p ys\/dS X.K H p ys)/\Q (.int ys.length) H):=by
 rintro o s T H xs us Q I r⟨p,ys,rfl,U,q⟩;obtain⟨u,rfl,t⟩:=lG r;cases t;have hn:=jW;rcases U with U|U
 ·obtain⟨g,j,l,C⟩:=I.list U;have J:=j.length;exact Calls.call_len_list l.isList (by simp only[As]<;>lia) ⟨.int ys.length,H,I.tok _,⟨s.toks+1,by rw[As,J]⟩,q⟩
 ·obtain⟨g,j,l,C⟩:=I.tuple U;have J:=j.length;exact len_tuple l (by simp only[As]<;>lia) ⟨.int ys.length,H,I.tok _,⟨s.toks+1,by rw[As,J]⟩,q⟩
def tT:zq X (.builtin "len") (λxs H Q=>∃z,xs=[.str z]/\z.length<=sizeLine/\Q (.int z.length) H):=by rintro J s U H xs g Q I r⟨z,rfl,j,q⟩;obtain⟨u,rfl,t,rfl⟩:=lG r;have l:=jW;exact len_str (by lia) ⟨.int z.length,H,I.tok _,⟨_,rfl⟩,q⟩
def uM:zq X (.type "list") (λxs H Q=>∃p ys,xs=[.ref p]/\(aH X.K H p ys\/dS X.K H p ys)/\∀l,H l=none->Q (.ref l) (upd H l<|.lst ys)):=by
 rintro t s σ H xs us Q I r⟨p,ys,rfl,C,q⟩;obtain⟨u,rfl,rx⟩:=lG r;cases rx;have jw:∀(J:XZ),zk ys J->ys.length<=sizeLine->∀(U:Yh) (g:Nat),(∀b o',s.heap.get? b=some o'->U.get? b=some o')->
  U.get? s.heap.objs.size=some {cls:=.type "list",dict:=none,data:=.seq J.toArray g,slots:=#[]}->EP X t σ Q (.ref s.heap.objs.size) {s with heap:=U}:=λJ j T U g kp e=>
  ⟨.ref s.heap.objs.size,_,I.laid (t':=s.toks) kp (Ak _)<|show xn X.prog X.w _ U _ (.lst ys) from⟨T,J,g,j,e⟩,rfl,q _<|I.hok.fresh<|Ak _⟩
 rcases C with C|C
 ·obtain⟨J,j,pl,T⟩:=I.list C;have a0:=j.length;obtain⟨o,ho,hc,n,hd⟩:=pl.isList;exact call_list_seq p (.inl rfl) ho hc hd (λU g kp e=>jw J j T U g kp e) (by simp only[As]<;>lia)
 ·obtain⟨J,j,pl,T⟩:=I.tuple C;have a0:=j.length;obtain⟨o,ho,hc,n,hd⟩:=pl;exact call_list_seq p (.inr rfl) ho hc hd (λU g kp e=>jw J j T U g kp e) (by simp only[As]<;>lia)
def FP(K:Ah)(T:Yi)(x:V)(H:Hp):Prop:=match x with
 |.str _=>T = "str"
 |.int _=>T = "int"
 |.ref p=>(T = "list" /\ ∃xs,aH K H p xs)\/(T = "tuple" /\ ∃o,K.lookup p=some o/\o.cls=.type "tuple" /\ o.dict=none)\/
  (T = "dict" /\ ((∃kvs,H p=some (.dK kvs))\/∃kvs,H p=some (.dT kvs)))\/(T = "set" /\ ∃S n,H p=some (.set S n))
 |_=>False
def Ik{T:Yi}{x:V}{v:Yc}(I:z0 X pins σ H s)(r:zm x v)(ty:FP X.K T x H):
 s.TypeIs v T/\∀a,v=.ref a->∃ob,s.heap.get? a=some ob/\ob.dict=none:=by
 cases x with
 |str z=>
  obtain⟨t,rfl⟩:=r;cases (show T = "str" from ty);exact⟨typeIs_str s z t,λ_ e=>nomatch e⟩
 |int i=>
  obtain⟨t,rfl⟩:=r;cases (show T = "int" from ty);exact⟨typeIs_int s i t,λ_ e=>nomatch e⟩
 |ref p=>
  cases r;rcases ty with⟨rfl,xs,l⟩|⟨rfl,o,J,C,hd⟩|⟨rfl,J⟩|⟨rfl,S,n,J⟩
  ·obtain⟨a0,_,j,_⟩:=I.list l;refine⟨j.isList.typeIs,λa e=>?_⟩;cases e;obtain⟨o,n,e,c,hd,_⟩:=j;exact⟨o,e,hd⟩
  ·refine⟨⟨o,I.kIn p o J,C⟩,λa e=>?_⟩;cases e;exact⟨o,I.kIn _ o J,hd⟩
  ·have z:∃o,s.heap.get? p=some o/\o.ExactDict:=by
    rcases J with⟨U,J⟩|⟨U,J⟩
    ·obtain⟨_,_,_,_,o,_,_,e,ex,_⟩:=I.hok p _ J;exact⟨o,e,ex⟩
    ·obtain⟨_,_,_,_,o,_,_,e,ex,_⟩:=I.hok p _ J;exact⟨o,e,ex⟩
   obtain⟨o,e,ex⟩:=z;refine⟨⟨o,e,ex.1⟩,λa g=>?_⟩;cases g;exact⟨o,e,ex.2.1⟩
  ·obtain⟨o,_,_,_,e,ex,_⟩:=I.hok p _ J;refine⟨⟨o,e,ex.1⟩,λa g=>?_⟩;cases g;exact⟨o,e,ex.2.1⟩
 |_=>exact False.elim ty
def PY(K:Ah)(T:Yi)(r:V->Yj->Hp->VK->Prop)(to:TE):TE:=λσ H Q=>to σ H λx H1=>FP K T x H1/\r x [] H1 Q
def PZ(K:Ah)(T:Yi)(r:V->Yj->Hp->VK->Prop)(to:TE)(t:TA):TE:=λσ H Q=>to σ H λx H1=>FP K T x H1/\t σ H1 λxs H2=>r x xs H2 Q
variable {to:TE}{t:TA}{T id:Yi}{r:V->Yj->Hp->VK->Prop}
def P0(pa:PlainAttrs T)(slot:Slot T name id)(j:typeOf (.builtin id)=pure (.type "method_descriptor"))(C:Ii X id r)(ho:PE X o to)
 (U:attributeBase o name X.env (eval o X.env)=eval o X.env:=by rfl) (g:(apos.endLine==fm.line)=true:=by rfl):PE X (.Call (.Attribute o name apos) [] [] fm) (PY X.K T r to):=by
 intro J s l H Q I h;refine wpAny_Call_method0_late U g<|wq (ho J s l H _ I h) λv s1 ⟨x,H1,p,t,ty,q1⟩=>?_;obtain⟨h1,h2⟩:=Ik p t ty;exact⟨T,id,pa,slot,j,h1,h2,Calls.callWith_builtin rfl<|PySem.evalArgs_none<|C J s1 l H1 x [] v [] Q p t .nil q1⟩
def Il(pa:PlainAttrs T)(slot:Slot T name id)(p:typeOf (.builtin id)=pure (.type "method_descriptor"))(hm:Ii X id r)(ho:PE X o to)(ha:PA X (e::es) t)
 (g:attributeBase o name X.env (eval o X.env)=eval o X.env:=by rfl)
 (l:((backTo fm<|starEach (e::es) X.env).all (λx=>!x.1)&&(backToKw fm<|keywordEach [] X.env).all (λx=>x.1.isSome)
  && decide ((e::es).length+([]:List Keyword).length+(if ([]:List Keyword).isEmpty then 0 else 1)<30))=true:=by rfl)
 (j:(apos.endLine==fm.line)=true:=by rfl) (hs:Eu e es X:=by rfl) (U:Ew fm es X:=by rfl):
 PE X (.Call (.Attribute o name apos) (e::es) [] fm) (PZ X.K T r to t):=by
 intro J s C H Q I h;refine wpAny_Call_method_late g l j rfl<|wq (ho J s C H _ I h) λv s1 ⟨x,H1,I1,r1,ty,q1⟩=>?_;obtain⟨h1,h2⟩:=Ik I1 r1 ty;refine⟨T,id,pa,slot,p,h1,h2,?_⟩;have hA:=ha fm J s1 C H1 _ I1 q1;rw[hs] at hA ⊢;refine Calls.callWith_builtin (by show(false||(backTo fm<|starEach es X.env).any (·.1))=false;rw[U]<;>rfl)<|Calls.evalArgs_plain ?_;exact wq hA λus s2 ⟨vs,H2,I2,r2,q2⟩=>hm J s2 C H2 x vs v us Q I2 r1 r2 q2
end
def gG(X:Cx)(id:Yi)(r:V->Yj->Hp->VK->Prop):Prop:=
 ∀(pins:List<|Addr×Obj) (s:Yd) (σ:St) (H:Hp) (x:V) (xs:Yj) (v:Yc) (us:XZ) (Q:VK),z0 X pins σ H s->zm x v->zk xs us->r x xs H Q->
  wpAny (model X.prog X.w) X.A (call (.builtin id)<|v::us) (EP X pins σ Q) X.xe s
def zk.one{x:V}(h:zk [x] us):∃u,us=[u]/\zm x u:=by cases h with|cons r t=>cases t;exact⟨_,rfl,r⟩
def zk.two{x y:V}(h:zk [x,y] us):∃u v,us=[u,v]/\zm x u/\zm y v:=by cases h with|cons r t=>cases t with|cons q t=>cases t;exact⟨_,_,rfl,r,q⟩
theorem zk.zero:∀{us:XZ},zk [] us->us=[]
 |_,.nil=>rfl
def zk.dropLast(h:zk xs us):zk xs.dropLast us.dropLast:=by
 induction h with
 |nil=>exact .nil
 |cons r t I=>
  cases t with|nil=>exact .nil|cons q J=>exact .cons r I
theorem zk.eraseIdx:∀{xs:Yj} {us:XZ} (i:Nat),zk xs us->zk (xs.eraseIdx i) (us.eraseIdx i)
 |_,_,_,.nil=>.nil
 |_,_,0,.cons _ t=>t
 |_,_,i+1,.cons r t=>.cons r<|zk.eraseIdx i t
def zE(l:List α):l.eraseIdx (l.length-1)=l.dropLast:=by
 induction l with
 |nil=>rfl
 |cons a r I=>
  cases r with
  |nil=>rfl
  |cons b r=>
   have e:(a::b::r).length-1=((b::r).length-1)+1:=by have J:(a::b::r).length=r.length+2:=rfl;have U:(b::r).length=r.length+1:=rfl;lia
   rw[e,Cr,I]
   all_goals rfl
theorem rF{α:Type}:∀(l:List α) (i:Nat),(l.eraseIdx i).length<=l.length
 |[],_=>Ak _
 |_::_,0=>CI _
 |_::r,i+1=>Nat.succ_le_succ<|rF r i
section
variable {l b:Addr}{ys:Yj}
def z0.lset{its':XZ}{n:Nat}{f:X0->X0}(I:z0 X pins σ H s)(J:H l=some (.lst xs))
 (e:s.heap.get? l=some {cls:=.type "list",data:=.seq eH.toArray n}) (U:f eH.toArray=its'.toArray) (g:zk ys its') (hz:ys.length<=sizeLine) (p:0<t':=by walk_at "t"):
 z0 X pins σ (upd H l<|.lst ys) {s with heap:=s.heap.update l<|Obj.mapSeq f,toks:=t'}:=by
 have q:=PySem.IsL.update e f;rw[U] at q;refine I.write (x:=l) (e:=l) (by rw[J];exact trivial) (.inl rfl) (λr u j o=>(Heap.get?_update_other s.heap (Obj.mapSeq f)<|AN j).trans o) ⟨_,q⟩ ?_;exact⟨hz,its',_,g,q⟩
def z0.lnew(I:z0 X pins σ H s)(J:zk ys eH)(hz:ys.length<=sizeLine)(U:0<t':=by walk_at "t"):
 z0 X pins σ (upd H s.heap.objs.size<|.lst ys) {s with heap:=s.heap.push {cls:=.type "list",data:=.seq eH.toArray},toks:=t'}:=
 I.laid (λ_ _ q=>vc _ q) (Ak _) ⟨hz,eH,0,J,wn _ rfl⟩
theorem z0.fresh(I:z0 X pins σ H s):H s.heap.objs.size=none:=I.hok.fresh<|Ak _
def z0.lstM(I:z0 X pins σ H s)(J:H l=some (.lst xs)):xs.length<=sizeLine/\∃(eH:XZ) (n:Nat),zk xs eH/\xs.length=eH.length/\s.heap.get? l=some {cls:=.type "list",data:=.seq eH.toArray n}:=by obtain⟨z,eH,n,r,e⟩:=I.hok l _ J;exact⟨z,eH,n,r,r.length,e⟩
def P1{n:Nat}(h:n<=sizeLine):Builtin.List.listTooLong n=false:=by unfold Builtin.List.listTooLong;exact Ar (by lia)
end
def P2:V->Yj->Hp->VK->Prop:=λx vs H Q=>∃l xs y,x=.ref l/\vs=[y]/\H l=some (.lst xs)/\xs.length<sizeLine/\Q .non (upd H l<|.lst<|xs++[y])
def P4:gG X "list.append" P2:=by rintro U s t H x C v T Q I j o⟨l,xs,y,rfl,rfl,g,hz,q⟩;cases j;obtain⟨u,rfl,p⟩:=o.one;obtain⟨z,J,n,r,hl,e⟩:=I.lstM g;refine call_meets F.slot_list_append ⟨_,e,rfl⟩ F.entry_list_append (F.args_list_append_2 _ _) (PySem.list_append l J.toArray n u (by rw[As];lia)) ⟨e,?_⟩;refine⟨.non,_,I.lset (its':=J++[u]) g e (by simp) (r.append<|.cons p .nil) ?_,rfl,q⟩;rw[Ac,BU];lia
def P5:V->Yj->Hp->VK->Prop:=λx vs H Q=>∃l b xs zs,x=.ref l/\vs=[.ref b]/\H l=some (.lst xs)/\H b=some (.lst zs)/\xs.length+zs.length<=sizeLine/\Q .non (upd H l<|.lst<|xs++zs)
def P6:gG X "list.extend" P5:=by
 rintro o s σ H x vs v us Q I t C⟨l,b,xs,zs,rfl,rfl,p,T,hz,q⟩;cases t;obtain⟨u,rfl,ru⟩:=C.one;cases ru;obtain⟨z,U,n,r,hl,e⟩:=I.lstM p;obtain⟨z2,J,n2,r2,a0,e2⟩:=I.lstM T;have j:U.toArray.size+J.toArray.size<=sizeLine:=by rw[As,As];lia
 have g:¬(!U.toArray.isEmpty&&Builtin.List.listTooLong (U.toArray.size+J.toArray.size))=true:=by rw[P1 j,DA];exact AL
 refine call_meets F.slot_list_extend ⟨_,e,rfl⟩ F.entry_list_extend (F.args_list_extend_2 _ _)
  (AutoSeq1.list_extend_list_list_0 l U.toArray n b J.toArray n2 g (by rw[As];lia) (by lia)) ⟨e,e2,?_⟩
 refine⟨.non,_,I.lset (its':=U++J) p e (by simp) (r.append r2) ?_,rfl,q⟩;rw[Ac];lia
def P7:V->Yj->Hp->VK->Prop:=λx vs H Q=>∃l xs y,x=.ref l/\vs=[]/\H l=some (.lst xs)/\xs[xs.length-1]?=some y/\Q y (upd H l<|.lst xs.dropLast)
def P8:gG X "list.pop" P7:=by
 rintro j s σ H x vs v us Q I p t⟨l,xs,y,rfl,rfl,o,C,q⟩;cases p;have U:=t.zero;subst U;obtain⟨z,J,n,r,T,e⟩:=I.lstM o;obtain⟨u,hu,ru⟩:=r.get C;have g:J.toArray[J.toArray.size-1]?=some u:=by show J.toArray[J.length-1]?=some u;rw[<-A7,<-T];exact hu
 refine call_meets F.slot_list_pop ⟨_,e,rfl⟩ F.entry_list_pop (F.args_list_pop_1 _) (MeetsSeq.list_pop_last l J.toArray n u g (by rw[As];lia)) ⟨e,?_⟩;refine⟨y,_,I.lset (its':=J.dropLast) o e ?_ r.dropLast ?_,ru,q⟩
 ·show J.toArray.eraseIdxIfInBounds (J.toArray.size-1)=J.dropLast.toArray;rw[As,Dk,zE]
 ·rw[List.length_dropLast];lia
def P9:V->Yj->Hp->VK->Prop:=λx vs H Q=>∃l xs i k y,x=.ref l/\vs=[.int i]/\H l=some (.lst xs) /\ -(2 ^ 63)<=i/\i<2 ^ 63/\seqIndex? i xs.length=some k/\xs[k]?=some y/\Q y (upd H l<|.lst<|xs.eraseIdx k)
def P_:gG X "list.pop" P9:=by
 rintro g s σ H x vs v us Q I o p⟨l,C,i,k,y,rfl,rfl,j,T,h2,hk,hy,q⟩;cases o;obtain⟨u,rfl,ru⟩:=p.one;obtain⟨t,rfl⟩:=ru;obtain⟨z,J,n,r,hl,e⟩:=I.lstM j;obtain⟨w,hw,U⟩:=r.get hy;refine call_meets F.slot_list_pop ⟨_,e,rfl⟩ F.entry_list_pop (F.args_list_pop_2 _ _)
  (MeetsSeq.list_pop_at l J.toArray n i t k w (fitsIndex_both T h2) (by rw[As,<-hl];exact hk) (by rw[<-A7];exact hw) (by rw[As];lia)) ⟨e,?_⟩
 refine⟨y,_,I.lset (its':=J.eraseIdx k) j e ?_ (r.eraseIdx k) ?_,U,q⟩
 ·show J.toArray.eraseIdxIfInBounds k=(J.eraseIdx k).toArray;rw[Dk]
 ·have:=rF C k;lia
def P':R2:=λx y H Q=>∃l b xs zs,x=.ref l/\y=.ref b/\H l=some (.lst xs)/\H b=some (.lst zs)/\xs.length+zs.length<=sizeLine/\∀p,H p=none->Q (.ref p) (upd H p<|.lst<|xs++zs)
def Qa:k8 X (binaryOp .Add) P':=by
 rintro g s σ H x y v u Q I j o⟨l,b,xs,zs,rfl,rfl,p,t,hz,q⟩;cases j;cases o;obtain⟨z,U,n,r,hl,e⟩:=I.lstM p;obtain⟨z2,J,n2,C,T,e2⟩:=I.lstM t;refine PySem.P.add_list e e2 ?_ (by rw[As,As];lia);have ea:U.toArray++J.toArray=(U++J).toArray:=by simp
 rw[ea];exact⟨.ref _,_,I.lnew (t':=s.toks) (r.append C) (by rw[Ac];lia),rfl,q _ I.fresh⟩
section
variable {w:Yg}
set_option maxRecDepth 100000 in
end
end L2
namespace Att
open PySem PySem.W PySem.Calls PyProof.Rows
def mL{P:Params} :∀(ns:X7) (vs:XZ),WellAll P h vs (ns.map WData.int)->IntsAre vs ns:=by
 intro ns
 induction ns with
 |nil=>
  intro vs w;rw[CA] at w;cases w;exact .nil
 |cons n ns I=>
  intro vs w;rw[AD] at w;cases w with
  |cons a b=>
   cases a;exact .cons _ _<|I _ b
def Qb{l:OpenLaw}{n:Nat}(T:l.most=some n){P:Params}{args:List WData}{I:XZ}
 (J:l.row.toRowW.claim.pre args=true) (p:WellAll P h I args):
 ∃a vs ns,I=[Value.ref a]/\args=[WData.list<|ns.map WData.int]/\h.get? a=some {cls:=.type "list",data:=.seq vs.toArray}/\IntsAre vs ns/\ns.length<=n:=by
 have t:WShape.hasAll [] args [.list .int]=true:=(pre_splitW J).1;have C:l.pre.holds [] {args:=args}=true:=(pre_splitW J).2;obtain⟨d,r,rfl,h1,h2⟩:=hasAllW_cons t;obtain rfl:=hasAllW_nil h2;obtain⟨xs,rfl,h3⟩:=hasW_list h1;obtain⟨ns,rfl⟩:=items_int h3;have U:ns.length<=n:=by
  unfold OpenLaw.pre at C;have j:(WTm.not<|.lt (.lit<|.int (n:Int))<|.len<|.arg 0).holds [] {args:=[.list<|ns.map .int]}=true:=by have j:=(holds_andW C).1;rw[T] at j;exact j
  have o:=condW_of j<|w_not<|w_lt w_lit<|w_len_list<|w_arg rfl;rw[Ab] at o;refine Nat.le_of_not_lt λq=>?_;have q':(n:Int)<((ns.length:Nat):Int):=by lia
  first
   |(rw[Ax q'] at o;exact absurd o (by decide))
   |(simp at o;lia)
 cases p with
 |cons w1 w2=>
  cases w2;cases w1 with|list ho g=>exact⟨_,_,ns,rfl,rfl,ho,mL ns _ g,U⟩
def Qc(l:OpenLaw)(args:List WData):l.row.toRowW.claim.post args (.bool true) args=true:=
 postW_of (r:=l.row.toRowW) (X:=(true==true))
  (show WShape.has [] (.bool true) .bool=true by first|rfl|decide|simp[WShape.has,WShape.arms,WShape.armsAll])
  (show(WTm.eq .res<|.lit<|.bool true).value [] {args:=args,res:=some<|.bool true,after:=args}=some (.bool<|true==true) from w_eq_bool (w_res rfl) w_lit) rfl
theorem attach_callZ{l:OpenLaw}{n:Nat}{q:Ye}{loose:X4}{XP:(XW)->Yh->Prop}{as0:List Addr}{N t:Nat}{K:Params->Frag}{d:DefRec}
 (hn:l.most=some n) (p:d.params.defaults=[]) (ek:∀P,as0=(K P).map (·.1)) (C:0<t)
 (call:∀(w:Yg) (s₀ I:Yd) (mg T:XW) (fa:Addr) (o:Obj) (pm cd hQ:Yc) (a:Addr) (vs:XZ) (ns:X7),
  Ground q loose [] XP w s₀ mg T I.heap->(K w.params).In I.heap->0<I.toks->
  I.heap.get? fa=some o->o.data=.func (docDef d.name d.params d.body d.scope pm cd hQ)->I.heap.CodeRec cd d.name->mg d.name=some (.ref fa)->
  I.heap.get? a=some {cls:=.type "list",data:=.seq vs.toArray}->IntsAre vs ns->ns.length<=n->I.gens=#[]->
  codeAny (model l.prog w) callerA (.call (.ref fa) ⟨[.ref a],[]⟩) (λr s'=>r=.ok (.ret<|.bool true)/\OldK I.heap s'.heap/\s'.os=I.os/\AllBare s'.gens) I):
 WalkX q loose XP (PySem.W.X.obsZ as0) (PySem.W.X.valZ K N t) l.row.toRowW d [] (λf vs=>PySem.call f vs):=by
 intro w s₀ I mg T G Y fa o pm cd hQ dV kV ho hd a0 hD a1 hg args a4 as L U a5 ab a2 ac;obtain rfl:dV=.none:=Dflts.none hD p;obtain rfl:kV=.none:=Dflts.noKw hD;obtain⟨a,vs,ns,rfl,rfl,g,J,j⟩:=Qb hn U a2;obtain⟨_,zi,_,zt⟩:=X.z_facts ek Y;have eP:∀ns:X7,ofPy (PyData.list<|ns.map PyData.int)=WData.list (ns.map WData.int):=λns=>by
  simp only[ofPy];congr 1
  induction ns with|nil=>simp[ofPys]|cons n r ih=>simp only[AD,ofPys,ofPy,ih]
 rw[<-eP] at L;have KX:=InK.keeps w s₀.heap I.heap zi L.keeps;have a3:0<I.toks:=AQ C<|X.script_toks L zt;refine enter_call<|codeAny_mono (call w s₀ I mg T fa o pm cd hQ a vs ns G KX a3 ho (fd_plain hd) a0 a1 g J j hg) λr s' hq=>?_;obtain⟨rfl,h2,h3,h4⟩:=hq;exact⟨.inl ⟨.bool true,.bool true,[],rfl,λ_=>rfl,.bool true,Qc l _,λ_=>⟨List.Pairwise.nil,λ_ hm=>(nomatch hm)⟩⟩,h2,h3,h4⟩
section
variable {w:Yg}{K:Frag}
end
end Att
namespace L2
open PySem PySem.Spec PyProof.Rows
theorem rJ:∀{vs:XZ} {ns:X7},IntsAre vs ns->zk (ns.map V.int) vs
 |_,_,.nil=>.nil
 |_,_,.cons n t h=>.cons ⟨t,rfl⟩<|rJ h
def kh(s:Stmt):Arguments:=match s with
 |.FunctionDef _ a _ _ _ _ _ _ _ _=>a
 |_=>{posonlyargs:=[],args:=[],vararg:=none,kwonlyargs:=[],kw_defaults:=[],kwarg:=none,defaults:=[]}
def jy(s:Stmt):X6:=match s with
 |.FunctionDef _ _ b _ _ _ _ _ _ _=>b
 |_=>[]
def zb(s:Stmt):Scope:=match s with
 |.FunctionDef _ _ _ _ _ _ I _ _ _=>I
 |_=>{kind:=.function,names:=[],isGenerator:=false,isCoroutine:=false}
abbrev CX0:g_:=λ_ _ _ _ _ _=>False
abbrev E0:XK:=λ_ _ _=>False
def Qd :xI CX0 X E0:=λ_ _ _ _ _ _ _ h=>h.elim
structure Fun(K:Ah)(x eK:Str)(st:Stmt)(f:Addr)(fd:FuncData):Prop where
 ex:∃(oc:Yc) (od:Option Addr) (kV hQ pm:Yc) (an:Option Addr) (eW ct:Yc) (pR:Array<|X8),
  fd=PySem.W.fnOf x eK (kh st) (jy st) (zb st) .none kV hQ pm an eW ct/\K.lookup f=some ⟨oc,od,.func fd,pR⟩/\PySem.W.codeIn K eW eK=true
 kp:PySem.W.keepIn K (.ref f)=true
section
variable {P:Ye}{w:Yg}{K:Ah}
def Fun.ok{N:X4}{k:Nat}(F:Fun K x eK st f fd)(S:ak N ps<|zb st)(len:∀vs H Q E,sp vs H Q E->vs.length=ps.length)
 (I:∀(eW:Yc) (A:Around) (outer:List Env) (s:Yd) (H:Hp) (vs:Yj) (Q:VK) (E:XK),am k (A.deeper<|envOfC eK (zb st) s.heap.objs.size f eW)->sp vs H Q E->
  ∃t,mH (qO CX0 P w K mg base N eK (zb st) f eW A outer s H E).nox (jy st) t/\t {nx:=λ_ H'=>Q .non H',rt:=Q} (start N vs) H):bV P w K mg base CX0 (k+1) f fd ps sp:=by
 obtain⟨o,p,kV,g,pm,an,eW,r,j,rfl,lk,J⟩:=F.ex;refine H9 lk J S len λA outer s H vs Q E l U=>?_;obtain⟨t,h,q⟩:=I eW A outer s H vs Q E l U;exact⟨t,h.nox,q⟩
def Qe{kV ct:Yc}(l:K.lookup f=some ⟨oc,od,.func<|PySem.W.fnOf x eK (kh st) (jy st) (zb st) .none kV hQ pm an eW ct,pR⟩)
 (c:PySem.W.codeIn K eW eK=true) (k:PySem.W.keepIn K (.ref f)=true):Fun K x eK st f (PySem.W.fnOf x eK (kh st) (jy st) (zb st) .none kV hQ pm an eW ct):=⟨⟨oc,od,kV,hQ,pm,an,eW,ct,pR,rfl,l,c⟩,k⟩
end
def rY{n:Nat}(h:n<=1000):n<sizeLine:=AW h (by decide)
def pv(i:Nat)(hN:X.N[i]?=some x:=by rfl)(J:A' X.env.scope x:=by first|exact Or.inl rfl|exact Or.inr (Or.inl rfl)|exact Or.inr<|Or.inr rfl)(hd:Ex x:=by decide)
 (I:Ey x:=by decide):PE X (.Name x pos) (Gu i):=NJ hN J hd I
section
variable [DecidableEq κ]
end
end L2
set_option maxHeartbeats 8000000
def Fp{a b c:Nat}(h:a<b:=by assumption)(k:b<=c:=by assumption):a<c:=AQ h k
def qD{a b c:Nat}(h:a<=b:=by assumption)(k:b<c:=by assumption):a<c:=AW h k
def GN{a b c:Nat}(h:a<=b:=by assumption)(k:b<=c:=by assumption):a<=c:=AE h k
def tW{a b c:Nat}(h:a<b:=by assumption)(k:b<c:=by assumption):a<c:=Dc h k
def dP{a b c:Nat}(h:a<=b:=by assumption)(k:b<=c:=by decide):a<=c:=AE h k
def Qf{a b c:Nat}(h:a<=b:=by assumption)(k:b<c:=by decide):a<c:=AW h k
def vB{a b:Nat}(h:a<=b:=by assumption):a<b+1:=Nat.lt_succ_of_le h
def zF{a b:Nat}(h:a<=b:=by assumption):a<=b+1:=De h
def gc{a b:Nat}(h:a<b:=by assumption):a<=b:=Bp h
def Im{a b:Nat}(h:a<b:=by assumption):a≠b:=A9 h
def Io{a b:Nat}(h:b<a:=by assumption):a≠b:=CN h
def Fq{a:Nat}(h:a≠0:=by assumption):0<a:=Nat.pos_of_ne_zero h
def Ip{a b c:Nat}(h:a<b:=by assumption)(k:b<=c:=by assumption):a<=c:=AE (Bp h) k
def GO{a b c:Nat}(h:a<b:=by assumption):a<b+c:=AQ h<|Bd _ _
def vQ{a b:Nat}(h:a=b:=by assumption):a<=b:=Nat.le_of_eq h
def Fs{a b:Nat}(h:¬a<b:=by assumption):b<=a:=Nat.le_of_not_lt h
def asg{a b:Nat}(h:¬b<=a:=by assumption):a<b:=Nat.lt_of_not_le h
def Iq{a b:Nat}(h:a<b+1:=by assumption):a<=b:=Nat.le_of_lt_succ h
def Qg{a b c:Nat}(h:a<=b:=by assumption)(k:c<=d:=by assumption):a+c<=b+d:=Nat.add_le_add h k
def E6{a b:Nat}(h:0<a:=by assumption)(k:0<b:=by decide):a-b<a:=Nat.sub_lt h k
def Ir{a b c:Nat}(h:a<=c:=by assumption):a-b<=c:=AE (Nat.sub_le _ _) h
def se{a b c:Nat}(h:a<c:=by assumption):a-b<c:=AW (Nat.sub_le _ _) h
def E7{a b:Nat}(h:a<=b:=by assumption)(k:a≠b:=by assumption):a<b:=Nat.lt_of_le_of_ne h k
namespace L2
open PySem PySem.Spec PyProof.Rows
def Qh:R2:=λx y H Q=>match x,y with
 |.int i,.int j=>Q (.int<|i+j) H
 |.str a,.str b=>a.length+b.length<=sizeLine/\Q (.str<|a++b) H
 |.ref l,.ref b=>∃xs zs,H l=some (.lst xs)/\H b=some (.lst zs)/\xs.length+zs.length<=sizeLine/\∀p,H p=none->Q (.ref p) (upd H p<|.lst<|xs++zs)
 |_,_=>False
def Qi:k8 X (binaryOp .Add) Qh:=by
 intro J s U H x y v u Q I g j h;cases x<;>cases y<;>first
  |exact False.elim h
  |exact OM J s U H _ _ v u Q I g j ⟨_,_,rfl,rfl,h⟩
  |exact yq J s U H _ _ v u Q I g j ⟨_,_,rfl,rfl,h.1,h.2⟩
  |(obtain⟨l,o,p,r,t,C⟩:=h;exact Qa J s U H _ _ v u Q I g j ⟨_,_,l,o,rfl,rfl,p,r,t,C⟩)
def KD(K:Ah)(P:Ye)(w:Yg)(a:Addr)(kvs:List<|ja×V):Prop:=
 (a==sysModules)=false/\kvs.length<=sizeLine/\∀h:Yh,K.In h->∃vs,KV kvs vs/\h.DictOf (xx P w) a vs
def Iu(K:Ah)(P:Ye)(w:Yg):R2:=λx y H Q=>match x,y with
 |.str z,.int i=>z.length<=sizeLine/\∃c,jU z.cps.toList i=some c/\Q (.str ⟨#[c]⟩) H
 |.ref p,.int i=>∃xs v,(aH K H p xs\/dS K H p xs)/\jU xs i=some v/\Q v H
 |.ref p,.str k=>∃kvs v,(Rd H p (.dK kvs)\/KD K P w p kvs)/\cZ kvs (Sum.inr k)=some v/\Q v H
 |_,_=>False
def Iv{slice:Expr}{a:Addr}{vs:List<|ja×Yc}{k:ja}{J:Yc}{Q:VK}(I:z0 X pins σ H s)(U:s.heap.DictOf (xx X.prog X.w) a vs)(g:o4 k u=true)
 (hw:valueAt vs k=some J) (r:zm v J) (q:Q v H) (hs:subscripted slice false (.ref a) u=operate [.ref a,u] (getItem (.ref a) u)):wpAny (model X.prog X.w) X.A (subscriptTail value slice (.ref a) u) (EP X pins σ Q) X.xe s:=
 tail_any U.typeIs DH.lookup (wpAny_getItem_of g U.mapOf hw ⟨v,H,I.tok _,r,q⟩) hs
def Qj:IxR X (Iu X.K X.prog X.w):=by
 intro value slice U s σ H x y v u Q I rx ry q r;cases x with
 |str z=>
  cases y with
  |int i=>
   obtain⟨J,c,g,j⟩:=q;exact PP value slice U s σ H _ _ v u Q I rx ry ⟨z,i,c,rfl,rfl,J,g,j⟩ r
  |_=>exact q.elim
 |ref p=>
  cases y with
  |int i=>
   obtain⟨xs,t,J,g,j⟩:=q;rcases J with J|J
   ·exact PM value slice U s σ H _ _ v u Q I rx ry ⟨p,xs,i,t,rfl,rfl,J,g,j⟩ r
   ·exact PN value slice U s σ H _ _ v u Q I rx ry ⟨p,xs,i,t,rfl,rfl,J,g,j⟩ r
  |str k=>
   obtain⟨a0,t,J,g,j⟩:=q;have C:zm (kV<|Sum.inr k) u:=ry;cases (show v=Value.ref p from rx);rcases J with J|J
   ·obtain⟨z,hd,vs,rel,T⟩:=FO I.hok J;obtain⟨w2,hw,l⟩:=ET (v:=t) (o:=valueAt vs<|Sum.inr k) (by rw[<-g];exact rel.val _);exact Iv I T (lZ (P:=X.prog) (w:=X.w) C) hw l j r
   ·obtain⟨hd,z,T⟩:=J;obtain⟨vs,rel,T⟩:=T s.heap I.kIn;obtain⟨w2,hw,l⟩:=ET (v:=t) (o:=valueAt vs<|Sum.inr k) (by rw[<-g];exact rel.val _);exact Iv I T (lZ (P:=X.prog) (w:=X.w) C) hw l j r
  |_=>exact q.elim
 |_=>cases y<;>exact q.elim
def Qk(K:Ah):Yj->Hp->VK->Prop:=λxs H Q=>match xs with
 |[.str z]=>z.length<=sizeLine/\Q (.int z.length) H
 |[.ref p]=>∃ys,(aH K H p ys\/dS K H p ys)/\Q (.int ys.length) H
 |_=>False
def Ql:zq X (.builtin "len") (Qk X.K):=by
 intro J s U H j g Q I r h;obtain _|⟨x,_|⟨y,t⟩⟩:=j
 ·exact h.elim
 ·cases x with
  |str z=>exact tT J s U H _ g Q I r ⟨z,rfl,h.1,h.2⟩
  |ref p=>
   obtain⟨l,o,C⟩:=h;exact sF J s U H _ g Q I r ⟨p,l,rfl,o,C⟩
  |_=>exact h.elim
 ·cases x<;>exact h.elim
inductive Da where
 |s (v:V)
 |tup (xs:List Da)
 |lst (xs:List Da)
mutual
def Da.eq:Da->Da->Bool
 |.s v,.s w=>gH v w
 |.tup xs,.tup ys=>Da.eqs xs ys
 |.lst xs,.lst ys=>Da.eqs xs ys
 |_,_=>false
def Da.eqs:List Da->List Da->Bool
 |[],[]=>true
 |x::xs,y::ys=>Da.eq x y&&Da.eqs xs ys
 |_,_=>false
end
def aK(K:Ah)(H:Hp):Nat->V->Da->Prop
 |0,v,d=>d=.s v/\ae v=true
 |n+1,v,d=>(d=.s v/\ae v=true)\/(∃a xs ds,v=.ref a/\d=.tup ds/\dS K H a xs/\Paired (aK K H n) xs ds)\/(∃a xs ds,v=.ref a/\d=.lst ds/\aH K H a xs/\Paired (aK K H n) xs ds)
theorem Da.eqs_range:∀(ds es:List Da),((List.range<|min ds.length es.length).all (λj=>Da.eq (ds.getD j<|.s .non)<|es.getD j<|.s .non)&&ds.length==es.length)=Da.eqs ds es
 |[],[]=>by simp[Da.eqs]
 |[],e::es=>by simp[Da.eqs]
 |d::ds,[]=>by simp[Da.eqs]
 |d::ds,e::es=>by
  have I:=Da.eqs_range ds es;rw[Da.eqs,<-I];have:min (d::ds).length (e::es).length=min ds.length es.length+1:=by simp only[Au];lia
  rw[this,List.range_succ_eq_map,DQ,List.all_map];have J:((d::ds).length==(e::es).length)=(ds.length==es.length):=by simp
  rw[J,Bool.and_assoc];rfl
theorem Paired.at{F:α->β->Prop}:∀{xs:List α} {ys:List β} {j:Nat} {x:α} {y:β},Paired F xs ys->xs[j]?=some x->ys[j]?=some y->F x y:=by
 intro xs ys j x y h
 induction h generalizing j with
 |nil=>intro h _;simp at h
 |cons r t U=>
  intro I J;cases j with|zero=>simp at I J;subst I J;exact r|succ j=>exact U (j:=j) (by simpa using I) (by simpa using J)
abbrev EK:=@Paired.at
theorem i3:∀{v:V},ae v=true->gH v v=true
 |.non,_=>rfl
 |.bl _,_=>by simp[gH]
 |.int _,_=>by simp[gH]
 |.str _,_=>by simp[gH]
def jm{a:Addr}(h:ae (.ref a)=true):False:=by simp[ae] at h
def z0.notBoth(I:z0 X pins σ H s){a:Addr}{ys:Yj}(h:dS X.K H a xs)(h':aH X.K H a ys):False:=by
 obtain⟨j,_,⟨o,e,c,_⟩,_⟩:=I.tuple h;obtain⟨U,_,⟨l,p,g,J,_⟩,_⟩:=I.list h';rw[e] at g;cases g;rw[c] at J;injection J with J
 exact absurd J (by decide)
theorem uG(I:z0 X pins σ H s):∀(n:Nat) {m:Nat} {x:V} {d e:Da},aK X.K H n x d->aK X.K H m x e->Da.eq d e=true
 |0,m,x,d,e,h1,g=>by
  obtain⟨rfl,f⟩:=h1;cases m with
  |zero=>obtain⟨rfl,_⟩:=g;exact i3 f
  |succ m=>
   rcases g with⟨rfl,_⟩|⟨a,j,l,rfl,_⟩|⟨a,j,l,rfl,_⟩
   ·exact i3 f
   ·exact(jm f).elim
   ·exact(jm f).elim
 |n+1,m,x,d,e,h1,g=>by
  have both:∀{j:Yj} {l o:List Da} {m:Nat},Paired (aK X.K H n) j l->Paired (aK X.K H m) j o->Da.eqs l o=true:=by
   intro j l o m p
   induction p generalizing o with
   |nil=>intro q;cases q;rfl
   |cons r t ih=>
    intro q;cases q with|cons r' t'=>rw[Da.eqs,uG I n r r',ih t'];rfl
  rcases h1 with⟨rfl,f⟩|⟨a,j,l,rfl,rfl,T,hp⟩|⟨a,j,l,rfl,rfl,T,hp⟩
  ·cases m with
   |zero=>obtain⟨rfl,_⟩:=g;exact i3 f
   |succ m=>
    rcases g with⟨rfl,_⟩|⟨a,j,l,rfl,_⟩|⟨a,j,l,rfl,_⟩
    ·exact i3 f
    ·exact(jm f).elim
    ·exact(jm f).elim
  ·cases m with
   |zero=>exact(jm g.2).elim
   |succ m=>
    rcases g with⟨_,f⟩|⟨a',ys,o,C,rfl,J,U⟩|⟨a',ys,o,C,rfl,J,U⟩
    ·exact(jm f).elim
    ·cases C;cases I.tuple_inj T J;exact both hp U
    ·cases C;exact(I.notBoth T J).elim
  ·cases m with
   |zero=>exact(jm g.2).elim
   |succ m=>
    rcases g with⟨_,f⟩|⟨a',ys,o,C,rfl,J,U⟩|⟨a',ys,o,C,rfl,J,U⟩
    ·exact(jm f).elim
    ·cases C;exact(I.notBoth J T).elim
    ·cases C;cases I.list_inj T J;exact both hp U
def jt{a:Addr}{eH:X0}(p:PlainL h a eH):h.IsList a eH:=let ⟨o,n,e,c,_,d⟩:=p;⟨o,e,c,n,d⟩
def wG{n:Nat}{ys:Yj}{ds es:List Da}(px:Paired (aK X.K H n) xs ds)(py:Paired (aK X.K H m) ys es)(I:zk xs us)(J:zk ys vs)
 (p:∀{x y:V} {d e:Da} {u v:Yc},aK X.K H n x d->aK X.K H m y e->zm x u->zm y v->SeqAt.EqAt A.in1 s u v (Da.eq d e)):
 ∀j (h1:j<us.toArray.size) (h2:j<vs.toArray.size),SeqAt.EqAt A.in1 s us.toArray[j] vs.toArray[j] (Da.eq (ds.getD j<|.s .non)<|es.getD j<|.s .non):=by
 intro j h1 h2;have C:=px.length;have T:=py.length;have l3:=I.length;have l4:=J.length;rw[As] at h1 h2;have U:xs[j]?=some xs[j]:=Ag (by lia);have g:ys[j]?=some ys[j]:=Ag (by lia);have l:ds[j]?=some ds[j]:=Ag (by lia);have o:es[j]?=some es[j]:=Ag (by lia);have r:us[j]?=some us[j]:=Ag (by lia);have t:vs[j]?=some vs[j]:=Ag (by lia);rw[Bm,Bm,l,o];exact p (EK px U l) (EK py g o) (EK I U r)<|EK J g t
def GP(ne:Bool)(A:Around)(s:Yd)(u v:Yc)(k:Bool):Prop:=match ne with
 |true=>SeqAt.RcNeAt A s u v<|!k
 |false=>SeqAt.RcAt A s u v k
def qX(ne:Bool){n:Nat}{a b:Addr}{ys:Yj}{ds es:List Da}(I:z0 X pins σ H s)(J:A.units<cLine)(l:dS X.K H a xs)(o:dS X.K H b ys)(px:Paired (aK X.K H n) xs ds)(py:Paired (aK X.K H m) ys es)
 (p:∀{x y:V} {d e:Da} {u v:Yc},aK X.K H n x d->aK X.K H m y e->zm x u->zm y v->SeqAt.EqAt A.in1 s u v (Da.eq d e)):GP ne A s (.ref a) (.ref b) (Da.eqs ds es):=by
 obtain⟨r,U,g,_⟩:=I.tuple l;obtain⟨t,j,ty,_⟩:=I.tuple o;have i:=wG px py U j p;cases ne
 case' false=>have q:=SeqAt.RcAt.tuples g ty J i
 case' true=>have q:=SeqAt.RcNeAt.tuples g ty J i
 all_goals
  rw[As,As,<-U.length,<-j.length,px.length,py.length,Da.eqs_range] at q;exact q
def vZ(ne:Bool){n:Nat}{a b:Addr}{ys:Yj}{ds es:List Da}(I:z0 X pins σ H s)(g:A.units<cLine)(C:aH X.K H a xs)(T:aH X.K H b ys)(px:Paired (aK X.K H n) xs ds)(py:Paired (aK X.K H m) ys es)
 (ih:∀{x y:V} {d e:Da} {u v:Yc},aK X.K H n x d->aK X.K H m y e->zm x u->zm y v->SeqAt.EqAt A.in1 s u v (Da.eq d e)):GP ne A s (.ref a) (.ref b) (Da.eqs ds es):=by
 obtain⟨l,o,J,_⟩:=I.list C;obtain⟨p,r,ty,_⟩:=I.list T;have J:=jt J;have ty:=jt ty;have e:=Da.eqs_range ds es;have j:ds.length=l.toArray.size:=by rw[<-px.length,o.length,As]
 have t:es.length=p.toArray.size:=by rw[<-py.length,r.length,As]
 by_cases U:l.toArray.size=p.toArray.size
 ·have i:=wG px py o r ih;rw[t,<-U,<-j,Nat.min_self,beq_self_eq_true,Bool.and_true] at e;cases ne
  case' false=>have q:=SeqAt.RcAt.lists J ty U g i
  case' true=>have q:=SeqAt.RcNeAt.lists J ty U g i
  all_goals
   rw[<-j,e] at q;exact q
 ·rw[show(ds.length==es.length)=false by rw[j,t];simpa using U,DA] at e;rw[<-e];cases ne
  ·exact SeqAt.RcAt.lists_lengths J ty (by simpa using U) g
  ·exact SeqAt.RcNeAt.lists_lengths J ty (by simpa using U) g
def xV(I:z0 X pins σ H s):∀(n:Nat) {m:Nat} {A:Around} {x y:V} {d e:Da} {u v:Yc},A.units+n<cLine->aK X.K H n x d->aK X.K H m y e->zm x u->zm y v->SeqAt.EqAt A s u v (Da.eq d e):=by
 have J:∀{A:Around} {x:V} {u:Yc} {b:Addr} {C:Yj},A.units<cLine->ae x=true->zm x u->(dS X.K H b C\/aH X.K H b C)->SeqAt.EqAt A s u (.ref b) false/\SeqAt.EqAt A s (.ref b) u false:=by
  intro A x u b C g f r h;have h':(∃T,s.heap.IsTuple b T)\/∃T,s.heap.IsList b T:=by
   rcases h with h|h
   ·obtain⟨T,_,t,_⟩:=I.tuple h;exact .inl ⟨_,t⟩
   ·obtain⟨T,_,t,_⟩:=I.list h;exact .inr ⟨_,jt t⟩
  cases x with
  |non=>cases r;rcases h' with⟨_,t⟩|⟨_,t⟩;exact⟨.none_tuple t g,.tuple_none t g⟩;exact⟨.none_list t g,.list_none t g⟩
  |bl k=>cases r;rcases h' with⟨_,t⟩|⟨_,t⟩;exact⟨.bool_tuple k t g,.tuple_bool k t g⟩;exact⟨.bool_list k t g,.list_bool k t g⟩
  |int k=>obtain⟨tk,rfl⟩:=r;rcases h' with⟨_,t⟩|⟨_,t⟩;exact⟨.int_tuple k tk t g,.tuple_int k tk t g⟩;exact⟨.int_list k tk t g,.list_int k tk t g⟩
  |str k=>obtain⟨tk,rfl⟩:=r;rcases h' with⟨_,t⟩|⟨_,t⟩;exact⟨.str_tuple k tk t g,.tuple_str k tk t g⟩;exact⟨.str_list k tk t g,.list_str k tk t g⟩
  |_=>simp[ae] at f
 intro n
 induction n with
 |zero=>
  intro m A x y d e u v g h1 o rx j;obtain⟨rfl,f⟩:=h1;cases m with
  |zero=>obtain⟨rfl,l⟩:=o;exact oQ rx j f l
  |succ m=>
   rcases o with⟨rfl,l⟩|⟨b,C,es,rfl,rfl,U,py⟩|⟨b,C,es,rfl,rfl,U,py⟩
   ·exact oQ rx j f l
   ·cases j;exact(J (by lia) f rx<|.inl U).1
   ·cases j;exact(J (by lia) f rx<|.inr U).1
 |succ n ih=>
  intro m A x y d e u v g h1 o rx j;have a1:A.in1.units+n<cLine:=by show A.units+1+n<cLine;lia
  rcases h1 with⟨rfl,f⟩|⟨a,xs,ds,rfl,rfl,p,px⟩|⟨a,xs,ds,rfl,rfl,p,px⟩
  ·cases m with
   |zero=>obtain⟨rfl,l⟩:=o;exact oQ rx j f l
   |succ m=>
    rcases o with⟨rfl,l⟩|⟨b,C,es,rfl,rfl,U,py⟩|⟨b,C,es,rfl,rfl,U,py⟩
    ·exact oQ rx j f l
    ·cases j;exact(J (by lia) f rx<|.inl U).1
    ·cases j;exact(J (by lia) f rx<|.inr U).1
  ·cases rx;cases m with
   |zero=>obtain⟨rfl,l⟩:=o;exact(J (by lia) l j<|.inl p).2
   |succ m=>
    rcases o with⟨rfl,l⟩|⟨b,C,es,rfl,rfl,U,py⟩|⟨b,C,es,rfl,rfl,U,py⟩
    ·exact(J (by lia) l j<|.inl p).2
    ·cases j;by_cases a0:a=b
     ·subst a0;cases I.tuple_inj p U;have e:Da.eq (.tup ds) (.tup es)=true:=uG I (n+1) (m:=m+1) (x:=.ref a) (.inr<|.inl ⟨a,xs,ds,rfl,rfl,p,px⟩)<|.inr<|.inl ⟨a,xs,es,rfl,rfl,U,py⟩;rw[e];exact .same _
     ·exact .of_refs a0<|qX false I (by lia) p U px py λh1 o r1 r2=>ih a1 h1 o r1 r2
    ·cases j;obtain⟨us,vx,tx,_⟩:=I.tuple p;obtain⟨vs,vy,ty,_⟩:=I.list U;exact .tuple_list tx (jt ty) (by lia)
  ·cases rx;cases m with
   |zero=>obtain⟨rfl,l⟩:=o;exact(J (by lia) l j<|.inr p).2
   |succ m=>
    rcases o with⟨rfl,l⟩|⟨b,C,es,rfl,rfl,U,py⟩|⟨b,C,es,rfl,rfl,U,py⟩
    ·exact(J (by lia) l j<|.inr p).2
    ·cases j;obtain⟨us,vx,tx,_⟩:=I.list p;obtain⟨vs,vy,ty,_⟩:=I.tuple U;exact .list_tuple (jt tx) ty (by lia)
    ·cases j;by_cases a0:a=b
     ·subst a0;cases I.list_inj p U;have e:Da.eq (.lst ds) (.lst es)=true:=uG I (n+1) (m:=m+1) (x:=.ref a) (.inr<|.inr ⟨a,xs,ds,rfl,rfl,p,px⟩)<|.inr<|.inr ⟨a,xs,es,rfl,rfl,U,py⟩;rw[e];exact .same _
     ·exact .of_refs a0<|vZ false I (by lia) p U px py λh1 o r1 r2=>ih a1 h1 o r1 r2
def Qm(K:Ah)(k:Nat)(ne:Bool):R2:=λx y H Q=>match x,y with
 |.ref a,.ref b=>∃n m d e,n<=k/\aK K H n (.ref a) d/\aK K H m (.ref b) e/\Q (.bl<|Fn ne<|Da.eq d e) H
 |x,y=>HV x y=true/\Q (.bl<|Fn ne<|decide<|x=y) H
def Qn(ne:Bool){k:Nat}(U:X.A.units+k<cLine):k8 X (compareOp<|FK ne) (Qm X.K k ne):=by
 intro J s T H x y v u Q I rx ry h;cases x with
 |ref a=>
  cases y with
  |ref b=>
   obtain⟨n,m,d,e,hn,o,g,q⟩:=h;cases rx;cases ry;have jw:GP ne X.A s (.ref a) (.ref b) (Da.eq d e)->wpAny (model X.prog X.w) X.A (compareOp (FK ne) (.ref a)<|.ref b) (EP X J T Q) X.xe s:=λr=>by cases ne<;>exact r X.prog X.w X.xe (EP X J T Q) ⟨.bl _,H,I,rfl,q⟩
   cases n with
   |zero=>exact(jm o.2).elim
   |succ n=>
    cases m with
    |zero=>exact(jm g.2).elim
    |succ m=>
     have p:X.A.in1.units+n<cLine:=by show X.A.units+1+n<cLine;lia
     have U:X.A.units<cLine:=by lia
     rcases o with⟨_,f⟩|⟨a',xs,ds,e1,rfl,t,px⟩|⟨a',xs,ds,e1,rfl,t,px⟩
     ·exact(jm f).elim
     ·cases e1;rcases g with⟨_,f⟩|⟨b',ys,es,j,rfl,l,py⟩|⟨b',ys,es,j,rfl,l,py⟩
      ·exact(jm f).elim
      ·cases j;exact jw<|qX ne I U t l px py λo g r1 r2=>xV I n p o g r1 r2
      ·cases j;obtain⟨us,vx,C,_⟩:=I.tuple t;obtain⟨vs,vy,ty,_⟩:=I.list l;exact jw (by cases ne;exact SeqAt.RcAt.tuple_list C (jt ty) U;exact SeqAt.RcNeAt.tuple_list C (jt ty) U)
     ·cases e1;rcases g with⟨_,f⟩|⟨b',ys,es,j,rfl,l,py⟩|⟨b',ys,es,j,rfl,l,py⟩
      ·exact(jm f).elim
      ·cases j;obtain⟨us,vx,C,_⟩:=I.list t;obtain⟨vs,vy,ty,_⟩:=I.tuple l;exact jw (by cases ne;exact SeqAt.RcAt.list_tuple (jt C) ty U;exact SeqAt.RcNeAt.list_tuple (jt C) ty U)
      ·cases j;exact jw<|vZ ne I U t l px py λo g r1 r2=>xV I n p o g r1 r2
  |_=>exact HX ne J s T H _ _ v u Q I rx ry h
 |_=>cases y<;>exact HX ne J s T H _ _ v u Q I rx ry h
def Qo{c:Addr}(I:Gl X x)(J:X.mg x=some (.ref c))(hd:Ex x:=by decide):PE X (.Name x pos) (tC<|.ref c):=zX I J (v:=.ref c) rfl hd
def GQ{T:Yi}(I:Gl X x)(J:X.mg x=none)(U:bootBuiltins x=some (.type T))(g:x ≠ "__name__" := by decide)(hd:Ex x:=by decide):PE X (.Name x pos) (tC<|.ty T):=NN I J U (v:=.ty T) rfl g hd
structure Cal(P:Ye)(w:Yg)(K:Ah)(mg:XW)(base:Yh)(k:Nat)(x:Str)(ps:X4)(sp:Sp):Prop where
 ex:∃f fd,bV P w K mg base CX0 k f fd ps sp/\iO K fd ps []/\PySem.W.keepIn K (.ref f)=true/\mg x=some (.ref f)
def Qp{k:Nat}{t:TA}(c:Cal X.prog X.w X.K X.mg X.base k x ps sp)(U:am k X.A)(g:Gl X x)(j:PA X (e::es) t)(I:Ex x:=by decide)
 (l:Eu e es X:=by rfl) (J:Ew pos es X:=by rfl):PE X (.Call (.Name x p) (e::es) [] pos) (H0 sp [] E0 t):=by
 obtain⟨f,fd,F,b,o,m⟩:=c.ex;exact O' F U g m o b .nil Qd j I l J
theorem Cal.mono{P:Ye}{w:Yg}{K:Ah}{k:Nat}(c:Cal P w K mg base j x ps sp)(h:j<=k):Cal P w K mg base k x ps sp:=by obtain⟨f,fd,F,b,I,m⟩:=c.ex;exact⟨f,fd,F.mono h,b,I,m⟩
end L2
variable {ds:List L2.Da}
namespace L2
open PySem PySem.Spec PyProof.Rows
def nQ(env:Env):List (Str×NameKind)->List (Str×Addr)->List (Str×Addr)
 |[],cs=>cs
 |(n,k)::r,cs=>nQ env r<|if k==.free then(n,(env.cells.lookup n).getD 0)::cs else cs
def fM(scope:Scope)(env:Env):List (Str×Addr):=nQ env scope.names []
theorem wP{env:Env}:∀{names:List<|Str×NameKind} {cs:List<|Str×Addr} {p:Str×Addr},p∈nQ env names cs->p∈cs\/((p.1,NameKind.free)∈names/\p.2=(env.cells.lookup p.1).getD 0)
 |[],_,_,h=>.inl h
 |(n,k)::r,cs,p,h=>by
  rcases wP (names:=r) h with q|⟨q,e⟩
  ·by_cases I:(k==NameKind.free)=true
   ·rw[AF I] at q;rcases Ap.mp q with rfl|q
    ·have:k=.free:=by simpa using I
     exact .inr ⟨by rw[this];exact Ao,rfl⟩
    ·exact .inl q
   ·rw[AA I] at q;exact .inl q
  ·exact .inr ⟨Af _ q,e⟩
theorem wC{env:Env}{x:Str}:∀{names:List<|Str×NameKind} {cs:List<|Str×Addr},((∃c,(x,c)∈cs)\/(x,NameKind.free)∈names)->∃c,(x,c)∈nQ env names cs
 |[],_,.inl h=>h
 |[],_,.inr h=>by simp at h
 |(n,k)::r,cs,h=>by
  refine wC (names:=r) ?_;rcases h with⟨c,h⟩|h
  ·left;by_cases I:(k==NameKind.free)=true
   ·rw[AF I];exact⟨c,Af _ h⟩
   ·rw[AA I];exact⟨c,h⟩
  ·rcases Ap.mp h with e|h
   ·left;injection e with J U
    subst J;subst U;exact⟨_,Ao⟩
   ·exact .inr h
theorem ff{x:Str}:∀{l:List<|Str×Addr} {c:Addr},(x,c)∈l->∃c',l.lookup x=some c'
 |(n,d)::r,c,h=>by
  rw[Bu];cases I:x==n with
  |true=>exact⟨d,rfl⟩
  |false=>
   rcases Ap.mp h with e|h
   ·injection e with J _;subst J;simp at I
   ·exact ff h
def mI(h:∀n,(n,NameKind.free)∈scope.names->∃c,env.cells.lookup n=some c):closureFor scope env=pure (fM scope env):=by
 unfold closureFor fM;have key:∀(names:List<|Str×NameKind) (I:List<|Str×Addr),(∀n,(n,NameKind.free)∈names->∃c,env.cells.lookup n=some c)->
  (forIn names I λx (r:List<|Str×Addr)=>(match x with|(name,kind)=>if kind==NameKind.free then do let a <-cellOf env name;pure (ForInStep.yield<|(name,a)::r) else pure (ForInStep.yield r):Sem<|ForInStep<|List<|Str×Addr))=pure (nQ env names I):=by
  intro names
  induction names with
  |nil=>intro I _;rfl
  |cons p r o=>
   intro I J;obtain⟨n,k⟩:=p;rw[Ce];cases U:k==NameKind.free with
   |true=>
    have g:k=.free:=by simpa using U
    subst g;obtain⟨c,t⟩:=J n Ao;have e:cellOf env n=pure c:=by unfold cellOf;rw[t]
    simp only[beq_self_eq_true,if_true,e];have j:nQ env ((n,NameKind.free)::r) I=nQ env r ((n,c)::I):=by show nQ env r _=_;rw[t];rfl
    rw[j];exact o ((n,c)::I) λm l=>J m<|Af _ l
   |false=>
    simp only[U,B8,if_false];have j:nQ env ((n,k)::r) I=nQ env r I:=by show nQ env r (if (k==NameKind.free)=true then _ else _)=_;rw[U];rfl
    rw[j];exact o I λm l=>J m<|Af _ l
 exact(Bs (· >>= pure)<|key scope.names [] h)
theorem aG{env:Env}{x:Str}:∀{names:List<|Str×NameKind},
 (names.map λ(n,k)=>if (k==NameKind.free&&env.scope.kind==.function&&env.kindOf n==some .cell) then(n,NameKind.cell) else(n,k)).lookup x
  = (names.lookup x).map λk=>if (k==NameKind.free&&env.scope.kind==.function&&env.kindOf x==some .cell) then NameKind.cell else k
 |[]=>rfl
 |(n,k)::r=>by
  have g:=@aG env x r;show List.lookup x ((if (k==NameKind.free&&env.scope.kind==.function&&env.kindOf n==some .cell)=true then(n,NameKind.cell) else(n,k))::_)=_;cases J:x==n with
  |true=>
   have U:x=n:=by simpa using J
   subst U;by_cases I:(k==NameKind.free&&env.scope.kind==.function&&env.kindOf x==some .cell)=true
   ·rw[AF I];simp only[Bu,beq_self_eq_true,Option.map_some];rw[AF I]
   ·rw[AA I];simp only[Bu,beq_self_eq_true,Option.map_some];rw[AA I]
  |false=>
   by_cases I:(k==NameKind.free&&env.scope.kind==.function&&env.kindOf n==some .cell)=true
   ·rw[AF I];simp only[Bu,J];exact g
   ·rw[AA I];simp only[Bu,J];exact g
def Cx.comp(X:Cx)(scope:Scope)(T:X4)(C:Addr)(fp:List Addr)(s₀:Yd)(H₀:Hp):Cx:=
 {X with N:=X.N++T,s₀:=s₀,H₀:=H₀,env:=compEnvC scope (fM scope X.env) C X.env,outer:=X.stack,ex:=fp,fn:=λ_=>false,xe:=λ_ _=>False}
structure jb(X:Cx)(scope:Scope):Prop where
 kind:scope.kind=.function
 nocell:∀y∈scope.names,y.2≠.cell
 names:∀y∈scope.names,y.2=.local->scope.names.lookup y.1=some .local
 free:∀n,scope.names.lookup n=some .free->X.env.kindOf n=some .cell\/X.env.kindOf n=some .free
 freeM:∀n,(n,NameKind.free)∈scope.names->X.env.kindOf n=some .cell\/X.env.kindOf n=some .free
 apart:∀x∈X.N,scope.names.lookup x≠some .local
def jb.clo(S:jb X scope)(I:z0 X pins σ H s):closureFor scope X.env=pure (fM scope X.env):=
 mI λn h=>I.ok.has n<|S.freeM n h
def jb.cl_old(S:jb X scope)(I:z0 X pins σ H s){c:Addr}(h:(fM scope X.env).lookup x=some c):X.env.cells.lookup x=some c:=by
 rcases wP (BF h) with q|⟨q,e⟩
 ·simp at q
 ·obtain⟨d,hd⟩:=I.ok.has x<|S.freeM x q;have J:c=(X.env.cells.lookup x).getD 0:=e;rw[hd] at J ⊢;rw[J];rfl
def jb.cl_has(_:jb X scope)(h:scope.names.lookup x=some .free):∃c,(fM scope X.env).lookup x=some c:=by obtain⟨c,I⟩:=wC (env:=X.env) (names:=scope.names) (cs:=[]) (x:=x)<|.inr<|BF h;exact ff I
theorem jb.kindOf(S:jb X scope)(h:(compEnvC scope (fM scope X.env) C X.env).kindOf x=some .cell\/(compEnvC scope (fM scope X.env) C X.env).kindOf x=some .free):scope.names.lookup x=some .free:=by
 have e:(compEnvC scope (fM scope X.env) C X.env).kindOf x=(scope.names.lookup x).map λk=>if (k==NameKind.free&&X.env.scope.kind==.function&&X.env.kindOf x==some .cell) then NameKind.cell else k:=aG
 rw[e] at h;cases I:scope.names.lookup x with
 |none=>rw[I] at h;rcases h with h|h<;>cases h
 |some k=>
  rw[I] at h;cases k with|free=>rfl|cell=>exact absurd rfl (S.nocell _<|BF I)|_=>rcases h with h|h<;>cases h
def jb.vis(S:jb X scope)(U:x∈X.N)(h:A' (compEnvC scope (fM scope X.env) C X.env).scope x):scope.names.lookup x=some .free:=by
 rcases h with h|h|h
 ·exfalso;have e:(compEnvC scope (fM scope X.env) C X.env).kindOf x=(scope.names.lookup x).map λk=>if (k==NameKind.free&&X.env.scope.kind==.function&&X.env.kindOf x==some .cell) then NameKind.cell else k:=aG
  have I:(compEnvC scope (fM scope X.env) C X.env).kindOf x=some .local:=h;rw[e] at I;cases J:scope.names.lookup x with
  |none=>rw[J] at I;cases I
  |some k=>
   rw[J] at I;have I:(if (k==NameKind.free&&X.env.scope.kind==.function&&X.env.kindOf x==some .cell)=true then NameKind.cell else k)=.local:=Bb I;split at I
   ·cases I
   ·subst I;exact S.apart x U J
 ·exact S.kindOf (C:=C)<|.inl h
 ·exact S.kindOf (C:=C)<|.inr h
def jb.back(S:jb X scope)(h:scope.names.lookup x=some .free):(compEnvC scope (fM scope X.env) C X.env).kindOf x=some .cell\/(compEnvC scope (fM scope X.env) C X.env).kindOf x=some .free:=by
 have e:(compEnvC scope (fM scope X.env) C X.env).kindOf x=(scope.names.lookup x).map λk=>if (k==NameKind.free&&X.env.scope.kind==.function&&X.env.kindOf x==some .cell) then NameKind.cell else k:=aG
 rw[e,h];show some (if _ then _ else _)=_\/some (if _ then _ else _)=_;split
 ·exact .inl rfl
 ·exact .inr rfl
def PF(X:Cx)(mv:X5)(t:TT):Prop:=
 ∀(pins:List<|Addr×Obj) (s:Yd) (σ:St) (H:Hp) (Q:Bool->Hp->Prop),z0 X pins σ H s->t σ H Q->
  wpAny (model X.prog X.w) X.A (forIn mv true λc r=>if r=true then do let ok <-isTrue c X.env (eval c X.env);pure (ForInStep.yield ok) else pure (ForInStep.yield r)) (TP X pins σ Q) X.xe s
def Qq:TT:=λ_ H Q=>Q true H
def Qr :PF X [] Qq:=λ_ _ _ H _ I h=>Aj ⟨H,I,h⟩
def Qs{t:TT}(hc:PT X c t):PF X [c] t:=by intro J s U H Q I h;rw[Ce];simp only[if_true];refine Aa<|Aa<|wq (hc J s U H Q I h) λb g q=>Aj ?_;exact Aj q
def fQ{w:Yg}{R:Result->Yd->Prop}{iter:Expr}{it C:Yc}(I:Nat->Yd->Prop)
 (turn:∀n s,I n s->wpAny (model prog w) A (pyNext it) (λr J=>match r with
  |none=>R (.ok .next) J
  |some v=>wpAny (model prog w) A (letOwnedTupleGo target it v) (λ_ J=>wpAny (model prog w) A (assign target env v) (λ_ l=>
   wpAny (model prog w) A (forIn mv true λc r=>if r=true then do let ok <-isTrue c env (eval c env);pure (ForInStep.yield ok) else pure (ForInStep.yield r)) (λok g=>
    if ok=true then wpAny (model prog w) A (eval nC env) (λx o=>
     wpAny (model prog w) A (call (.builtin "list.append") [C,x]) (λ_ p=>∃m,m<n/\I m p) (λ_ _=>False) o) (λ_ _=>False) g
    else ∃m,m<n/\I m g) (λ_ _=>False) l) (λ_ _=>False) J) (λ_ _=>False) J) (λ_ _=>False) s)
 (n:Nat) (h:I n s):
 codeAny (model prog w) A (.compLoop (.ListComp nC [⟨target,iter,mv,0⟩] scope pos) 0 it C env) R s:=by
 refine codeAny_loop rfl I (λn s hI=>?_) n h;show wpAny _ A ((compTurn (.ListComp nC [⟨target,iter,mv,0⟩] scope pos) 0 it C env).onRaise (λx=>do noteFrame x env;theTreesLotGoes x)) _ _ s;refine wpAny_noted ?_;rw[compTurn_list];refine Aa<|wpAny_standAt<|Aa<|A4 (turn n s hI) (λr J U=>?_) λ_ _ j=>j.elim;cases r with
 |none=>exact Aj U
 |some v=>
  refine Aa<|A4 U (λ_ J U=>?_) λ_ _ j=>j.elim;refine Aa<|A4 U (λ_ l T=>Aa<|A4 T (λok g t=>?_) λ_ _ j=>j.elim) λ_ _ j=>j.elim;cases ok with
  |false=>exact Aj ⟨rfl,t⟩
  |true=>
   exact Aa<|Aa<|A4 t (λx o a0=>Aa<|A4 a0 (λ_ p a1=>Aj<|Aj ⟨rfl,a1⟩) λ_ _ j=>j.elim) λ_ _ j=>j.elim
def GS(n:Nat)(wi:TI)(g:TG)(tc:TT)(te:TE):TE:=λσ H Q=>wi σ H λJ H1=>∃W:Nat->Nat->Yj->Hp->Prop,(∃m,W 0 m [] H1)/\∀i m ys H,W i m ys H->
 (J.stop i H/\ys.length<=sizeLine/\∀D,H D=none->Q (.ref D) (upd H D<|.lst ys))\/
 (J.go i H/\ys.length<sizeLine/\∀x H',J.yld i H x H'->g x (σ++List.replicate n none) H' λI H2=>tc I H2 λb j=>
  if b=true then te I j λy l=>∃U,U<m/\W (i+1) U (ys++[y]) l else ∃U,U<m/\W (i+1) U ys j)
def qS(g:TG)(n k:Nat):Prop:=∀(σ:St),σ.length=n->∀x H Q,g x (σ++List.replicate k none) H Q->
 g x (σ++List.replicate k none) H λI H2=>((I.length=n+k/\∀(i:Nat) v,(σ++List.replicate k none)[i]?=some (some v)->I[i]?=some (some v))/\Q I H2)
section
variable {T:X4}{iter:Expr}{g:TG}{tc:TT}{te:TE}
def ltN{b:Addr}{o:Obj}(e:h.get? b=some o):@LT.lt Nat instLTNat b h.objs.size:=wh e
def xH{a b:Addr}(h:@Ne Nat a b):a≠b:=h
def C'{a b:Addr}(h:@LE.le Nat instLENat a b):a<=b:=h
def Qt(eH:XZ)(n:Nat)(u:Yc):∃I,Obj.mapSeq (·.push u) {cls:=.type "list",data:=.seq eH.toArray n}=({cls:=.type "list",data:=.seq (eH++[u]).toArray I}:Obj):=
 ⟨_,by simp[Obj.mapSeq];rfl⟩
def yz{w:Yg}{D:Addr}{n:Nat}(I:s.heap.get? D=some {cls:=.type "list",data:=.seq eH.toArray n})
 (hz:eH.length<=sizeLine) (h:∀h' J,Heap.SameBut D s.heap h'->h'.get? D=some {cls:=.type "list",data:=.seq (eH++[u]).toArray J}->Q .none {s with heap:=h'}):
 wpAny (model prog w) A (call (.builtin "list.append") [.ref D,u]) Q E s:=by
 have g:s.heap.IsList D eH.toArray:=⟨_,I,rfl,n,rfl⟩;refine wpAny_call_entry slot_list_append g.typeIs entry_list_append ?_<|args_list_append _ _;show wpAny _ _ (updateSeq D (·.push u) >>= λ_=>ret .none) _ _ s;refine Aa ?_;obtain⟨J,U⟩:=Qt eH n u;refine wpAny_updateSeq (f:=(·.push u)) I rfl (Aj ⟨.none,rfl,h _ J (ya ..) ?_⟩) (by rw[As];exact hz) (by rw[Bl,As];exact Nat.succ_le_succ hz);rw[<-U];exact Ev _ I (by rw[U];rfl)
theorem oV{Q:VK}{c5:Yc}{I:Yd}{RR:Yc->Addr->Result->Yd->Prop}
 (S:jb X scope) (hc:X.calm=true)
 (hg:∀C fp s₀ H₀,PG (X.comp scope T C fp s₀ H₀) target g) (d0:qS g X.N.length T.length) (hf:∀C fp s₀ H₀,PF (X.comp scope T C fp s₀ H₀) mv tc) (he:∀C fp s₀ H₀,PE (X.comp scope T C fp s₀ H₀) nC te)
 (h:Gz X pins σ target (λJ H1=>∃W:Nat->Nat->Yj->Hp->Prop,(∃m,W 0 m [] H1)/\∀i m ys H,W i m ys H->
  (J.stop i H/\ys.length<=sizeLine/\∀D,H D=none->Q (.ref D) (upd H D<|.lst ys))\/
  (J.go i H/\ys.length<sizeLine/\∀x H',J.yld i H x H'->g x (σ++List.replicate T.length none) H' λc6 H2=>tc c6 H2 λb H3=>
   if b=true then te c6 H3 λy H4=>∃m',m'<m/\W (i+1) m' (ys++[y]) H4 else ∃m',m'<m/\W (i+1) m' ys H3)) c5 I)
 (dc:∀D C s' H' m',z0 X pins σ H' s'->qJ X pins H' C->s'.heap.Ns C m'->Q (.ref D) H'->RR (.ref D) C (.ok .next) s'):
 wpAny (model X.prog X.w) X.A (newList []) (λc7 al=>wpAny (model X.prog X.w) X.A (newFunctionEnv scope X.env.globals (fM scope X.env) [] X.env.qual none .none<|some X.env) (λbg c8=>
  codeAny (model X.prog X.w) X.A (.compStart (.ListComp nC [⟨target,iter,mv,0⟩] scope pos) 0 c5 c7 {bg with scope:=relabel scope X.env}) (RR c7 bg.locals) c8) E al) E I:=by
 obtain⟨it,fp,tn,J,H2,rfl,U,Tn,bi,f2,W,⟨m0,w0⟩,turn⟩:=h;refine Bn (wpAny_newFunctionEnv S.nocell (by intro y hy;simp at hy) (λbb ab t=>?_) S.kind);dsimp only at ab t ⊢;generalize bj:I.heap.push {cls:=.type "list",dict:=none,data:=.seq ([]:XZ).toArray}=G at ab t ⊢;have hC:G.objs.size=I.heap.objs.size+1:=by rw[<-bj,En]
 obtain⟨D,eD⟩:∃D,I.heap.objs.size=D:=⟨_,rfl⟩;obtain⟨C,eC⟩:∃C,G.objs.size=C:=⟨_,rfl⟩;rw[eD] at hC ⊢;rw[eC] at hC ab t ⊢;have bm:D≠C:=by lia
 have old:∀b o,I.heap.get? b=some o->bb.get? b=some o:=λb o e=>by have j:=ltN e;exact t.extBut b o (xH (by lia))<|vc _<|bj▸vc _ e
 have c9:bb.get? D=some {cls:=.type "list",data:=.seq ([]:XZ).toArray 0}:=by refine t.extBut _ _ bm<|vc _ ?_;rw[<-bj,<-eD];exact wn _ rfl
 have bn:∀b∈fp,@LT.lt Nat instLTNat b I.heap.objs.size:=λb j=>by obtain⟨o,e,_⟩:=Tn.obj _ _ bi b j;exact ltN e
 have ca:@LT.lt Nat instLTNat X.env.locals I.heap.objs.size:=U.lt;have ee:X.s₀.heap.objs.size<=I.heap.objs.size:=U.sz;have HD:H2 D=none:=U.hok.fresh<|C' (by exact vQ);have HC:H2 C=none:=U.hok.fresh<|C' (by lia);have dd:∀b:Addr,@LE.le Nat instLENat I.heap.objs.size b->b∉frs X.stack:=λb j z=>by
  have q:=U.stkSub b z;rcases Ap.mp q with q|q
  ·rw[<-q] at ca;exact absurd ca<|Ef.mpr j
  ·exact U.nofs j q
 have bc:∀x c,X.env.cells.lookup x=some c->@LT.lt Nat instLTNat c I.heap.objs.size:=λx c e=>by obtain⟨v,q⟩:=U.cell x c e;exact q.lt
 let X':Cx:=X.comp scope T C fp I H2
 have c0:X'.Ok:={
  mod:=U.ok.mod,kind:=S.kind,glob:=U.ok.glob,blt:=U.ok.blt
  above:=C' (by show @LE.le Nat instLENat I.heap.objs.size C;lia)
  inj:=λx y c h1 h2=>U.ok.inj x y c (S.cl_old U h1) (S.cl_old U h2)
  has:=λx hx=>S.cl_has (S.kindOf hx)
  cab:=λx c hx=>absurd (show false=true from hx) (by simp)
  hd:=U.ok.hd,frames:=U.ok.frames,stk:=.inl rfl
  exf:=λb j=>⟨xH (by have:=bn b j;show @Ne Nat b C;lia),λx c e=>(f2 b j).2.2.2.2.1 x c<|S.cl_old U e⟩
  bs:=U.bs,bsz:=AE U.ok.bsz U.sz
  noex:=λb o e j=>by
   obtain⟨e0,n0⟩:=U.ok.bs b o e;rcases (f2 b j).2.2.2.1 with q|q
   ·exact U.ok.noex b o e q
   ·have q':@LE.le Nat instLENat X.s₀.heap.objs.size b:=q;have:=ltN e0;lia
  exfs:=λb j z=>by
   rcases Ap.mp (U.stkSub b z) with q|q
   ·exact(f2 b j).2.1 q
   ·exact(f2 b j).2.2.1 q
  funs:=U.stack,frf:=U.stkFree}
 have I4:∀tk,0<tk->z0 X' pins (σ++List.replicate T.length none) H2 {I with heap:=bb,toks:=tk}:=λtk de=>{
  tk:=de,ok:=c0,os:=rfl,bare:=U.bare,base:=Un.kept old
  loc:=⟨_,ab,λi x v e1 e2 e3=>by
   have hi:i<σ.length:=by
    by_cases hi:i<σ.length
    ·exact hi
    ·rw[AI (by exact Fs),Cq] at e2;split at e2<;>cases e2
   rw[AC hi] at e2;have di:i<X.N.length:=by rw[<-U.len];exact hi
   have cc:X.N[i]?=some x:=by have:(X.N++T)[i]?=some x:=e1;rw[AC di] at this;exact this
   have c1:=S.vis (AB cc) e3;obtain⟨m,hn,hl⟩:=U.loc;have hk:=S.free x c1;obtain⟨u,r,l⟩:=hl i x v cc e2<|.inr hk;refine⟨u,r,.inr ⟨S.back c1,?_⟩⟩;rcases l with⟨l,_⟩|⟨_,c,e,z⟩
   ·rw[l] at hk;rcases hk with q|q<;>cases q
   ·obtain⟨c',e'⟩:=S.cl_has c1;have ck:=S.cl_old U e';rw[e] at ck;cases ck;exact⟨c,e',z.keeps old⟩⟩
  cell:=λx c e=>by obtain⟨v,z⟩:=U.cell x c<|S.cl_old U e;exact⟨v,z.keeps old⟩
  free:=HC,freeC:=λx c e=>U.freeC x c (S.cl_old U e)
  pin:=λp hp=>by
   obtain⟨a,b,c,d,e⟩:=U.pin p hp;have dj:=ltN a;refine⟨old _ _ a,b,xH (by show @Ne Nat p.1 C;lia),λz=>?_,e⟩;rcases Ap.mp (U.stkSub _ z) with q|q
   ·exact c q
   ·exact d q
  hok:=U.hok.kept old
  len:=by show(σ++_).length=(X.N++T).length;rw[Ac,Ac,AS,U.len]}
 have c2:∀(aL:List<|Addr×Obj) (H':Hp),(∀p∈aL,p∈pins\/p.1=D)->(∀b∈fp,H' b=none)->∀b∈fp,qJ X' aL H' b:=λaL H' hp hn b j=>by
  obtain⟨_,q1,q2,q3,q4,q5⟩:=f2 b j;have dj:=bn b j;refine⟨hn b j,xH (by show @Ne Nat b C;lia),c0.exfs b j,.inl j,(c0.exf b j).2,λp dp=>?_⟩;rcases An.mp dp with z|z
  ·exact q5 p<|Ay _ z
  ·rcases hp p z with z|z
   ·exact q5 p<|Al _ z
   ·rw[z];exact xH (by lia)
 have stay:Tn.keep=Tn.keep:=rfl;have bh:∀al:Yd,al={I with heap:=bb,toks:=I.toks+([]:List<|Str×Yc).length}->
  codeAny (model X.prog X.w) X.A (.compLoop (.ListComp nC [⟨target,iter,mv,0⟩] scope pos) 0 (.ref it) (.ref D) X'.env) (RR (.ref D) C) al:=by
  rintro al rfl;refine fQ (λn s'=>∃i c3 H' ys ac k,z0 X' pins c3 H' s'/\(c3.length=X.N.length+T.length/\∀(i:Nat) v,(σ++List.replicate T.length none)[i]?=some (some v)->c3[i]?=some (some v))/\
   s'.heap.get? D=some {cls:=.type "list",data:=.seq (ac:XZ).toArray k}/\zk ys ac/\H' D=none/\tn i s'.heap/\(∀b∈fp,H' b=none)/\W i n ys H') ?_ m0
   ⟨0,_,H2,[],[],0,I4 _ U.tk,⟨by rw[Ac,AS,U.len],λ_ _ e=>e⟩,c9,.nil,HD,Tn.keep _ _ _ bi λb _ o e=>old b o e,λb j=>(f2 b j).1,w0⟩
  rintro n s3 ⟨i,eg,H3,ys,ac,k,I3,⟨dt,dv⟩,dV,be,bf,cl,cm,w3⟩;have ed:ac.length=ys.length:=be.length.symm;have cn:D∉X'.fs:=dd D (by exact vQ);have cv:D≠X'.env.locals:=bm;have cy:z0 X' (pins++[(D,{cls:=.type "list",data:=.seq ac.toArray k})]) (σ++List.replicate T.length none) H3 s3:=
   (I3.weak (by rw[dt,Ac,AS,U.len]) dv).pins_of λp hp=>by
    rcases An.mp hp with z|z
    ·exact I3.pin p<|Al _ z
    ·have e:=Av.mp z;subst e;exact⟨dV,bf,cv,cn,λv z=>by cases z⟩
  have ba:∀p∈pins++[(D,({cls:=.type "list",data:=.seq ac.toArray k}:Obj))],p∈pins\/p.1=D:=λp hp=>by
   rcases An.mp hp with z|z
   ·exact .inl z
   ·exact .inr (by rw[Av.mp z])
  rcases turn i n ys H3 w3 with⟨stop,hz,qn⟩|⟨go,hz,step⟩
  ·refine wq (Tn.done X' rfl rfl rfl hc i _ s3 _ H3 _ cy (c2 _ H3 ba cm) cl stop) λr s4 ⟨hr,a0⟩=>?_;subst hr;obtain⟨e4,ej,_⟩:=a0.pin (D,_)<|Al _<|Al _ Ao;obtain⟨m',e5,_⟩:=a0.loc;have un:Un (frs X.stack) fp H2 (upd H3 D<|.lst ys) I.heap s4.heap:={
    keep:=a0.base.keep,slot:=a0.base.slot
    free:=λb o e n hx=>by have:=ltN e;rw[qu<|xH (by lia)];exact a0.base.free b o e n hx
    there:=a0.base.there
    tups:=λb xs e=>by rw[qu (λz=>by rw[z,HD] at e;cases e)];exact a0.base.tups b xs e
    frzs:=λb o u e=>by rw[qu (λz=>by rw[z,HD] at e;cases e)];exact a0.base.frzs b o u e
    tbls:=λb ps e=>by rw[qu (λz=>by rw[z,HD] at e;cases e)];exact a0.base.tbls b ps e}
   have e6:fh X.prog X.w (upd H3 D<|.lst ys) s4.heap:=λb u e=>by
    by_cases j:b=D
    ·subst j;rw[j6] at e;cases e;exact⟨hz,ac,k,be,e4⟩
    ·rw[qu j] at e;refine(a0.hok b u e).stay (λ_ _ _ q=>q) (λc q=>?_) λc xs q=>?_
     ·rw[qu<|zw q bf];exact q
     ·rw[qu<|zw q bf];exact q
   have I5:z0 X pins σ (upd H3 D<|.lst ys) s4:=U.call' (ch:=fp) a0.os un e6 a0.bare λb j=>⟨(f2 b j).2.2.2.1,(f2 b j).2.1,(f2 b j).2.2.2.2.1,(f2 b j).2.2.2.2.2⟩;refine dc D C s4 _ m' I5 ?_ e5<|qn D bf;refine⟨by rw[qu<|AN bm];exact a0.free,?_,?_,.inr ?_,λx c e=>?_,λp hp=>?_⟩
   ·exact xH (by lia)
   ·exact U.nofs<|C' (by lia)
   ·exact C' (by lia)
   ·exact xH (by have:=bc x c e;lia)
   ·exact xH (by have:=ltN (U.pin p hp).1;lia)
  ·refine wq (Tn.item X' rfl rfl rfl hc i _ s3 _ H3 _ cy (c2 _ H3 ba cm) cl go) λr s4 ⟨u,hr,h4⟩=>?_;subst hr;refine wq h4 λ_ s5 ⟨x,H5,I5,r5,y5,c4,e7⟩=>?_;have e8:=I5.pinned (c2 _ H5 ba e7)<|Tn.obj _ _ c4;refine A4 ((hg C fp I H2) _ s5 _ H5 x u _ e8 r5<|d0 σ U.len x H5 _<|step x H5 y5) (λ_ s6 ⟨bd,H6,I6,⟨cA,cI⟩,q6⟩=>?_) λ_ _ z=>z;refine A4 ((hf C fp I H2) _ s6 bd H6 _ I6 q6) (λb s7 ⟨H7,I7,q7⟩=>?_) λ_ _ z=>z;have jw:∀{s8:Yd} {H8:Hp} (I8:z0 X' ((pins++[(D,{cls:=.type "list",data:=.seq ac.toArray k})])++oA fp s5.heap) bd H8 s8),tn (i+1) s8.heap/\(∀b∈fp,H8 b=none)/\s8.heap.get? D=some {cls:=.type "list",data:=.seq ac.toArray k}/\H8 D=none/\z0 X' pins bd H8 s8:=λ{s8 H8} I8=>by
    refine⟨Tn.keep _ _ _ c4 λb j o e=>(I8.pin (b,o)<|Al _<|Al _<|cY j e).1,λb j=>?_,?_,?_,I8.unpinned.unpinned⟩
    ·obtain⟨o,e,d⟩:=Tn.obj _ _ c4 b j;exact(I8.pin (b,o)<|Al _<|Al _<|cY j e).2.1
    ·exact(I8.pin (D,_)<|Al _<|Ay _<|Al _ Ao).1
    ·exact(I8.pin (D,_)<|Al _<|Ay _<|Al _ Ao).2.1
   cases b with
   |false=>
    rw[AA AL] at q7 ⊢;obtain⟨m',hm,w7⟩:=q7;obtain⟨a1,a2,a3,a4,a5⟩:=jw I7;exact⟨m',hm,i+1,bd,H7,ys,ac,k,a5,⟨cA,cI⟩,a3,be,a4,a1,a2,w7⟩
   |true=>
    rw[AF rfl] at q7 ⊢;refine A4 ((he C fp I H2) _ s7 bd H7 _ I7 q7) (λv s8 ⟨y,H8,I8,r8,m',hm,w8⟩=>?_) λ_ _ z=>z;obtain⟨a1,a2,a3,a4,a5⟩:=jw I8;refine yz a3 (by lia) λh9 k9 cP ec=>?_;have nD:∀b∈fp,b≠D:=λb j=>xH (by have:=bn b j;lia);refine⟨m',hm,i+1,bd,H8,ys++[y],ac++[v],k9,?_,⟨cA,cI⟩,ec,be.append<|.cons r8 .nil,a4,Tn.keep _ _ _ a1 λb j o e=>(cP.2 b<|nD b j).trans e,a2,w8⟩;exact a5.turned (t':=s8.toks) (it:=D) (λb o j e=>(cP.2 b j).trans e) a4 cv (.inr (C' (by show @LE.le Nat instLENat I.heap.objs.size D;exact vQ))) (λx c e=>xH (by have:=bc x c<|S.cl_old U e;lia)) λp hp=>xH (by have:=ltN (U.pin p hp).1;lia)
 exact codeAny_compStart_list (bh _ rfl)<|Tn.self _ _ _ _ _ (Tn.keep _ _ _ bi λb _ o e=>old b o e)<|bh _ rfl
end
section
variable {T:X4}{iter:Expr}{g:TG}{tc:TT}{te:TE}
def Qu(T:X4)(S:jb X scope)(hc:X.calm=true)(hi:PI X target iter wi)(t:∀C fp s₀ H₀,PG (X.comp scope T C fp s₀ H₀) target g)(j:qS g X.N.length T.length)
 (hf:∀C fp s₀ H₀,PF (X.comp scope T C fp s₀ H₀) mv tc) (he:∀C fp s₀ H₀,PE (X.comp scope T C fp s₀ H₀) nC te)
 (hs:∀x,foldedSetIterable iter X.env x=pure x:=by intro _;rfl):PE X (.ListComp nC [⟨target,iter,mv,0⟩] scope pos) (GS T.length wi g tc te):=by
 intro J s r H Q I h;rw[eval_ListComp];refine wpAny_comprehension_free (use:=none) rfl hs (S.clo I) S.kind S.names<|wq (hi J s r H _ I h) λv s1 h1=>wq h1 λa0 s2 h2=>?_;refine oV (RR:=λl C=>compPost (model X.prog X.w) X.A X.xe none (EP X J r Q) l C) S hc t j hf he h2 ?_;intro D C s' H' m' I' U hn q;exact⟨m',hn,λh' p=>⟨.ref D,H',I'.turned (t':=s'.toks) (it:=C) (λb o hb e=>(p.2 b hb).trans e) U.1 (AN<|AN U.2.1) U.2.2.2.1 U.2.2.2.2.1 U.2.2.2.2.2,rfl,q⟩⟩
theorem Qv(T:X4){px j:Pos}(hN:X.N.Nodup)(l:X.N[i]?=some x)(hx:Loc X.env.scope x)(S:jb X scope)(hc:X.calm=true)(hi:PI X target iter wi)
 (hg:∀C fp s₀ H₀,PG (X.comp scope T C fp s₀ H₀) target g) (p:qS g X.N.length T.length)
 (hf:∀C fp s₀ H₀,PF (X.comp scope T C fp s₀ H₀) mv tc) (he:∀C fp s₀ H₀,PE (X.comp scope T C fp s₀ H₀) nC te)
 (r:swapsWith (.ListComp nC [⟨target,iter,mv,0⟩] scope j) (some<|.Name x px) pos.line X.env=pure true:=by rfl)
 (t:X.fn x=true\/X.env.scope.names.lookup x=some .local:=by first|exact .inl rfl|exact .inr rfl|assumption)
 (hs:∀x,foldedSetIterable iter X.env x=pure x:=by intro _;rfl):PS X (.Assign [.Name x px] (.ListComp nC [⟨target,iter,mv,0⟩] scope j) pos) (Gy (GS T.length wi g tc te)<|du i):=by
 intro pins s σ H D I h;rw[exec_Assign_Name_used _ _ _ _ r];refine Aa<|wpAny_standAt<|Aa ?_;show wpAny _ X.A (do let _ <-comprehension (.ListComp nC [⟨target,iter,mv,0⟩] scope j) scope X.env _ (newList []) false (eval iter X.env) (some<|assign (.Name x px) X.env)) _ _ s;refine Aa (A4 (wpAny_comprehension_free (use:=some<|assign (.Name x px) X.env) (Q:=λ_ U=>SP X pins D .next U) rfl hs (S.clo I) S.kind S.names
  (wq (hi pins s σ H _ I h) λv s1 h1=>wq h1 λa5 s2 h2=>?_)) (λ_ U hq=>Aj<|Aj hq) λ_ _ e=>e)
 refine oV (RR:=λa0 C=>compPost (model X.prog X.w) X.A X.xe (some<|assign (.Name x px) X.env) (λ_ U=>SP X pins D .next U) a0 C) (pins:=pins) (σ:=σ) (Q:=λx H1=>du i x σ H1 D.nx) S hc hg p hf he h2 ?_;intro A C U H' m' I' J hn q;show wpAny _ X.A (assign (.Name x px) X.env<|.ref A) _ _ U;refine wpAny_assign_Name<|rq I' hN l hx (v:=.ref A) rfl (λa1 a2 ⟨a,hs,ha⟩ _=>?_) t;have a3:C≠a:=by
  rcases ha with z|z
  ·rw[z];exact J.2.1
  ·exactλe=>J.2.2.2.2.1 x a z e.symm
 exact⟨m',hn.sameBut hs a3,λh' a4=>⟨_,H',a2.turned (t':=a1.toks) (it:=C) (λb o hb e=>(a4.2 b hb).trans e) J.1 J.2.1 J.2.2.2.1 J.2.2.2.2.1 J.2.2.2.2.2,q⟩⟩
end
def jj(outer:Scope)(N:X4)(I:Scope):Bool:=
 decide (I.kind=.function)&&I.names.all (λp=>decide (p.2≠.cell)&&(decide (p.2≠.local)||decide (I.names.lookup p.1=some .local))&&(decide (p.2≠.free)||(decide (outer.names.lookup p.1=some .cell)||decide (outer.names.lookup p.1=some .free))))
  && N.all (λx=>decide<|I.names.lookup x≠some .local)
def jj.mk{I:Scope}(h:jj X.env.scope X.N I=true):jb X I:=by
 unfold jj at h;rw[Ba,Ba,BV,BV] at h;obtain⟨⟨l,J⟩,o⟩:=h;have j:∀n,(n,NameKind.free)∈I.names->X.env.kindOf n=some .cell\/X.env.kindOf n=some .free:=λn U=>by
  have q:=J _ U;simp only[Ba,Ek,decide_eq_true_eq] at q;rcases q.2 with z|z
  ·exact absurd rfl z
  ·exact z
 refine⟨of_decide_eq_true l,λy g=>?_,λy g e=>?_,λn U=>j n<|BF U,j,λx p=>of_decide_eq_true<|o x p⟩
 ·have q:=J _ g;simp only[Ba,Ek,decide_eq_true_eq] at q;exact q.1.1
 ·have q:=J _ g;simp only[Ba,Ek,decide_eq_true_eq] at q;rcases q.1.2 with z|z
  ·exact absurd e z
  ·exact z
abbrev EI:=@jj.mk
def yn(n:Nat):qS (du n) n 1:=by
 intro U I x H Q h;refine⟨⟨by simp[I],λi v e=>?_⟩,h⟩;by_cases J:i=n
 ·subst J;rw[AI (by exact vQ)] at e;simp[I] at e
 ·rw[Bq<|AN J];exact e
def fe:bootBuiltins "isinstance"=some (.builtin "isinstance"):=by decide +kernel
def hG:bootBuiltins "tuple"=some (.type "tuple"):=by decide +kernel
def cq:bootBuiltins "str"=some (.type "str"):=by decide +kernel
def uJ:bootBuiltins "int"=some (.type "int"):=by decide +kernel
def cU:bootBuiltins "list"=some (.type "list"):=by decide +kernel
def Iw:bootBuiltins "len"=some (.builtin "len"):=by decide +kernel
def Ix{k:Nat}(I:am k A):A.units+128<cLine:=by have:=I.un;lia
def dY{n:Nat}(h:n<=1000):n<=sizeLine:=Bp<|rY h
def Cal.of{P:Ye}{w:Yg}{K:Ah}{k:Nat}(F:bV P w K mg base CX0 k f fd ps sp)(b:iO K fd ps [])(I:PySem.W.keepIn K (.ref f)=true)(m:mg x=some (.ref f)):
 Cal P w K mg base k x ps sp:=⟨f,fd,F,b,I,m⟩
def bV.never{P:Ye}{w:Yg}{K:Ah}{k:Nat}(no:∀vs H Q E,¬sp vs H Q E):bV P w K mg base CX0 k f fd ps sp:=
 ⟨λvs H Q E h=>absurd h<|no vs H Q E,λA I s H args J vs Q E _ _ _ _ h=>absurd h<|no vs H Q E⟩
section
variable (K:Ah)(P:Ye)(w:Yg)
end
structure zj(K:Ah)(x:Str)(st:Stmt):Prop where
 ex:∃(f:Addr) (kV hQ pm:Yc) (an:Option Addr) (eW ct:Yc),PySem.W.nsIn K mainGlobals x=some (some<|.ref f)/\Fun K x x st f (PySem.W.fnOf x x (kh st) (jy st) (zb st) .none kV hQ pm an eW ct)
def def_in{K:Ah}{kV ct:Yc}(a:PySem.W.nsIn K mainGlobals x=some (some<|.ref f))
 (l:K.lookup f=some ⟨oc,od,.func<|PySem.W.fnOf x x (kh st) (jy st) (zb st) .none kV hQ pm an eW ct,pR⟩) (c:PySem.W.codeIn K eW x=true) (k:PySem.W.keepIn K (.ref f)=true):zj K x st:=
 ⟨f,kV,hQ,pm,an,eW,ct,a,Qe (st:=st) l c k⟩
def zj.use{K:Ah}(D:zj K x st)(X:K.In h)(G:h.Ns mainGlobals mg)
 (I:∀(kV hQ pm:Yc) (an:Option Addr) (eW ct:Yc) (us:XZ),us.length=ps.length->bindArgs (PySem.W.fnOf x x (kh st) (jy st) (zb st) .none kV hQ pm an eW ct) ⟨us,[]⟩=pure (ps.zip us)):
 ∃f fd,Fun K x x st f fd/\iO K fd ps []/\mg x=some (.ref f):=by
 obtain⟨f,kV,hQ,pm,an,eW,ct,a,F⟩:=D.ex;exact⟨f,_,F,iO.all<|I kV hQ pm an eW ct,BP X G a⟩
def qZ(w:Yg)(r:Str×Tok×Str×Tok):DictEntry:=⟨hashStr w r.1,.str r.1 r.2.1,.str r.2.2.1 r.2.2.2⟩
def GU{K:Ah}{P:Ye}{w:Yg}{c:Addr}{U:Nat}(rows:List<|Str×Tok×Str×Tok)(l:K.lookup c=some ⟨.type "dict",none,.dict (rows.map<|qZ w).toArray U,#[]⟩)(hs:(c==sysModules)=false)(hz:rows.length<=1000)(nd:(rows.map λr=>(Sum.inr r.1:ja)).Nodup):
 KD K P w c (rows.map λr=>(Sum.inr r.1,.str r.2.2.1)):=by
 refine⟨hs,by rw[Ab];exact dY hz,λh X=>⟨rows.map λr=>(Sum.inr r.1,.str r.2.2.1 r.2.2.2),?_,_,_,U,X c _ l,⟨rfl,rfl,rfl⟩,rfl,?_,?_,?_⟩⟩
 ·unfold KV;clear l hz nd
  induction rows with|nil=>exact .nil|cons r t I=>exact .cons ⟨rfl,_,rfl⟩ I
 ·intro e g;have J:e∈rows.map (qZ w):=by simpa using g
  obtain⟨r,_,rfl⟩:=Bj.mp J;exact⟨Sum.inr r.1,kB r.1 r.2.1,rfl⟩
 ·show Pairs _ (rows.map<|qZ w).toArray.toList _;rw[List.toList_toArray];clear l hz nd
  induction rows with|nil=>exact .nil|cons r t I=>exact .cons (kB r.1 r.2.1) rfl I
 ·rw[BH];exact nd
end L2
namespace Words
open PySem L2
inductive Wd where
 |leaf (t:Bool) (n:Str)
 |node (e:Bool) (l r:Wd)
def kL:Bool->Str
 |false => "plain"
 |true => "turned"
def kN:Bool->Str
 |false => "both"
 |true => "either"
def Wd.turn:Wd->Wd
 |.leaf t n=>.leaf (!t) n
 |.node e l r=>.node (!e) l.turn r.turn
def Wd.depth:Wd->Nat
 |.leaf _ _=>1
 |.node _ l r=>max l.depth r.depth+1
def Wd.leaves:Wd->Nat
 |.leaf _ _=>1
 |.node _ l r=>l.leaves+r.leaves
theorem Wd.leaves_pos:∀w:Wd,1<=w.leaves
 |.leaf _ _=>Ak _
 |.node _ l r=>by have:=Wd.leaves_pos l;show 1<=l.leaves+r.leaves;exact GO
abbrev EO:=@Wd.leaves_pos
theorem Wd.depth_le:∀w:Wd,w.depth<=w.leaves
 |.leaf _ _=>Ak _
 |.node _ l r=>by have:=Wd.depth_le l;have:=Wd.depth_le r;have:=EO l;have:=EO r;show max l.depth r.depth+1<=l.leaves+r.leaves;lia
def o5:Wd->Da
 |.leaf t n=>.tup [.s<|.str<|kL t,.s<|.str n]
 |.node e l r=>.tup [.s<|.str<|kN e,o5 l,o5 r]
theorem hX:∀w:Wd,Da.eq (o5 w) (o5 w)=true
 |.leaf t n=>by simp[o5,Da.eq,Da.eqs,gH]
 |.node e l r=>by simp[o5,Da.eq,Da.eqs,gH,hX l,hX r]
def aF(x:Str):Prop:=1<=x.length/\x.length<=8/\∀c∈x.cps.toList,97<=c/\c<=122
def Wd.ok:Wd->Prop
 |.leaf _ n=>aF n
 |.node _ l r=>l.ok/\r.ok
theorem Paired.dropP{α β:Type}{F:α->β->Prop}:∀{xs:List α} {ys:List β} (n:Nat),Paired F xs ys->Paired F (xs.drop n) (ys.drop n)
 |_,_,0,p=>p
 |_,_,_+1,.nil=>.nil
 |_,_,n+1,.cons _ t=>Paired.dropP n t
def Paired.getP{F:α->β->Prop}:∀{xs:List α} {ys:List β} {i:Nat} {x:α},Paired F xs ys->xs[i]?=some x->∃y,ys[i]?=some y/\F x y:=by
 intro xs ys i x h
 induction h generalizing i with
 |nil=>intro h;simp at h
 |cons r t I=>
  intro h;cases i with
  |zero=>simp at h;subst h;exact⟨_,rfl,r⟩
  |succ i=>
   obtain⟨y,e,q⟩:=I (i:=i) (by simpa using h);exact⟨y,by simpa using e,q⟩
abbrev EL:=@Paired.getP
end Words
namespace L2
open PySem PySem.Spec PyProof.Rows
def t9:bootBuiltins "max"=some (.builtin "max"):=by decide +kernel
def mh:bootBuiltins "bool"=some (.type "bool"):=by decide +kernel
end L2
namespace Words
open PySem L2
def Wd.size:Wd->Nat
 |.leaf _ _=>1
 |.node _ l r=>1+l.size+r.size
theorem Wd.size_eq:∀w:Wd,w.size+1=2*w.leaves
 |.leaf _ _=>rfl
 |.node _ l r=>by have:=Wd.size_eq l;have:=Wd.size_eq r;show 1+l.size+r.size+1=2*(l.leaves+r.leaves);lia
end Words
namespace L2
open PySem PySem.Spec PyProof.Rows
section
variable {a:Addr}{tr:Option Addr}
end
section
variable {a b T:Addr}{tr:Option Addr}{E1:X1}
end
section
variable {k:Nat}{E1:X1}{t:TA}
end
section
variable {a T:Addr}{tr:Option Addr}
end
section
variable {a T:Addr}
end
open PySem PySem.Spec PyProof.Rows PySem.W
open Builtin.ObjectAttr in
section
variable {w:Yg}{K:Frag}{a:Addr}
open Builtin Builtin.ObjectAttr Builtin.Getset_descriptor in
end
def Qw(K:Ah)(H:Hp)(a C:Addr):Prop:=∃I,H a=some (.frz I<|.own 0)/\I.cls=.ref C
def uC(H:Hp)(P:Addr)(q:Str):Prop:=∃ps,H P=some (.tbl ps)/\TriplesOk ps.toList/\∀pos I,codeAmong pos ps.toList=some I->∃c' oc vs t,I=.ref c'/\H c'=some (.frz oc<|.own 0)/\oc.data=.fields vs/\vs[1]?=some (.str q t)
def uC.keep{P:Addr}(h:uC H P q)(e:H' P=H P)(t:∀b o u,H b=some (.frz o u)->H' b=some (.frz o u)):uC H' P q:=by obtain⟨I,J,U,g⟩:=h;refine⟨I,e.trans J,U,λpos j z=>?_⟩;obtain⟨l,p,r,C,T,e2,e3⟩:=g pos j z;exact⟨l,p,r,C,T,t _ _ _ e2,e3⟩
end L2
namespace L3
open PySem L2
inductive Y where
 |non|bl (b:Bool)|int (i:Int)|str (x:Str)|ref (a:Addr)|ty (n:Yi)|cd (kvs:List<|Str×Str)|tup (ys:List Y)|sq (ys:List Y)
inductive LO where
 |lst (ys:List Y)|dct (kvs:List<|ja×Y)|ins (C:Addr) (fs:List<|Str×Y)|exc (C:Addr)|tb (q:Str)
abbrev qi:=Addr->Option LO
def qg(L:qi)(a:Addr)(o:LO):qi:=λb=>if b=a then some o else L b
def q9{L:qi}{a:Addr}{o:LO}:qg L a o a=some o:=by unfold qg;rw[AF rfl]
def qd{L:qi}{a b:Addr}{o:LO}(h:b≠a):qg L a o b=L b:=by unfold qg;rw[AA h]
def vi{L:qi}{a:Addr}{o u:LO}:qg (qg L a o) a u=qg L a u:=by funext b;unfold qg;split<;>rfl
def vt{L:qi}{a b:Addr}{o:LO}(h:L a=some o)(h':L b=none):a≠b:=by intro e;subst e;rw[h] at h';cases h'
structure G3 where
 K:Ah
 P:Ye
 w:Yg
abbrev _root_.L2.Cx.g3(X:Cx):G3:=⟨X.K,X.prog,X.w⟩
def SqF(K:Ah)(H:Hp)(a:Addr)(xs:Yj):Prop:=(∃o,H a=some (.frz o<|.lst xs))\/
 ∃(o:Obj) (eH:X0) (n:Nat),K.lookup a=some o/\o.cls=.type "list" /\ o.dict=none/\o.data=.seq eH n/\eH.size<=sizeLine/\zk xs eH.toList
def SqF.sq{K:Ah}{a:Addr}(h:SqF K H a xs):aH K H a xs:=by
 rcases h with⟨o,h⟩|h
 ·exact .inl<|.inr ⟨o,h⟩
 ·exact .inr h
mutual
def RV(G:G3)(H:Hp):Y->V->Prop
 |.non,v=>v=.non
 |.bl b,v=>v=.bl b
 |.int i,v=>v=.int i
 |.str x,v=>v=.str x
 |.ref a,v=>v=.ref a
 |.ty n,v=>v=.ty n
 |.cd kvs,v=>∃a,v=.ref a/\KD G.K G.P G.w a (kvs.map λp=>(Sum.inr p.1,V.str p.2))
 |.tup ys,v=>∃a xs,v=.ref a/\dS G.K H a xs/\x8 G H ys xs
 |.sq ys,v=>∃a xs,v=.ref a/\SqF G.K H a xs/\x8 G H ys xs
def x8(G:G3)(H:Hp):List Y->Yj->Prop
 |[],xs=>xs=[]
 |y::ys,xs=>∃x I,xs=x::I/\RV G H y x/\x8 G H ys I
end
def Qx:HO->Bool
 |.tup _=>true
 |.frz _ _=>true
 |_=>false
def j5(H H':Hp):Prop:=∀a u,Qx u=true->H a=some u->H' a=some u
def j5.refl(H:Hp):j5 H H:=λ_ _ _ h=>h
abbrev ED:=@j5.refl
def j5.trans{H1 H2:Hp}(a:j5 H H1)(b:j5 H1 H2):j5 H H2:=λc u i h=>b c u i<|a c u i h
def j5.new{p:Addr}{o:HO}(h:H p=none):j5 H (upd H p o):=λ_ _ _ q=>by rw[qu<|zw q h];exact q
abbrev EF:=@j5.new
def j5.lst{p:Addr}{o:HO}(h:H p=some (.lst zs)):j5 H (upd H p o):=λa u i q=>by rw[qu ?_];exact q;rintro rfl;rw[h] at q;cases q;cases i
abbrev ER:=@j5.lst
def dS.ts{K:Ah}{a:Addr}(h:dS K H a xs)(t:j5 H H'):dS K H' a xs:=by
 rcases h with(h|⟨o,h⟩)|h
 ·exact .inl<|.inl<|t _ _ rfl h
 ·exact .inl<|.inr ⟨o,t _ _ rfl h⟩
 ·exact .inr h
def SqF.ts{K:Ah}{a:Addr}(h:SqF K H a xs)(t:j5 H H'):SqF K H' a xs:=by
 rcases h with⟨o,h⟩|h
 ·exact .inl ⟨o,t _ _ rfl h⟩
 ·exact .inr h
mutual
theorem RV.ts{G:G3}{H H':Hp}(t:j5 H H'):∀{y:Y} {v:V},RV G H y v->RV G H' y v
 |.non,_,h=>h
 |.bl _,_,h=>h
 |.int _,_,h=>h
 |.str _,_,h=>h
 |.ref _,_,h=>h
 |.ty _,_,h=>h
 |.cd _,_,h=>h
 |.tup _,_,⟨a,I,e,s,r⟩=>⟨a,I,e,dS.ts s t,x8.ts t r⟩
 |.sq _,_,⟨a,I,e,s,r⟩=>⟨a,I,e,s.ts t,x8.ts t r⟩
theorem x8.ts{G:G3}{H H':Hp}(t:j5 H H'):∀{ys:List Y} {xs:Yj},x8 G H ys xs->x8 G H' ys xs
 |[],_,h=>h
 |_::_,_,⟨x,I,e,r,s⟩=>⟨x,I,e,RV.ts t r,x8.ts t s⟩
end
theorem x8.length{G:G3}{H:Hp}:∀{ys:List Y} {xs:Yj},x8 G H ys xs->ys.length=xs.length
 |[],_,h=>by cases h;rfl
 |_::_,_,⟨x,I,e,_,s⟩=>by subst e;simp[x8.length s]
theorem x8.get{G:G3}{H:Hp}:∀{ys:List Y} {xs:Yj} {i:Nat} {y:Y},x8 G H ys xs->ys[i]?=some y->∃x,xs[i]?=some x/\RV G H y x
 |[],_,_,_,_,h=>by simp at h
 |_::_,_,0,_,⟨x,I,e,r,_⟩,h=>by subst e;simp at h;subst h;exact⟨x,rfl,r⟩
 |_::_,_,i+1,_,⟨x,I,e,_,s⟩,h=>by subst e;obtain⟨J,q,r⟩:=x8.get (i:=i) s (by simpa using h);exact⟨J,by simpa using q,r⟩
theorem x8.app{G:G3}{H:Hp}:∀{ys zs:List Y} {xs us:Yj},x8 G H ys xs->x8 G H zs us->x8 G H (ys++zs) (xs++us)
 |[],_,_,_,h,q=>by cases h;exact q
 |_::_,_,_,_,⟨x,I,e,r,s⟩,q=>by subst e;exact⟨x,I++_,rfl,r,x8.app s q⟩
def x8.one{G:G3}{y:Y}{x:V}(r:RV G H y x):x8 G H [y] [x]:=⟨x,[],rfl,r,rfl⟩
theorem x8.take{G:G3}{H:Hp}:∀{ys:List Y} {xs:Yj} (n:Nat),x8 G H ys xs->x8 G H (ys.take n) (xs.take n)
 |[],_,n,h=>by cases h;simp[x8]
 |_::_,_,0,_=>by simp[x8]
 |_::_,_,n+1,⟨x,I,e,r,s⟩=>by subst e;exact⟨x,I.take n,rfl,r,x8.take n s⟩
theorem x8.drop{G:G3}{H:Hp}:∀{ys:List Y} {xs:Yj} (n:Nat),x8 G H ys xs->x8 G H (ys.drop n) (xs.drop n)
 |[],_,n,h=>by cases h;simp[x8]
 |_::_,_,0,h=>h
 |_::_,_,n+1,⟨x,I,e,r,s⟩=>by subst e;exact x8.drop n s
theorem x8.setY{G:G3}{H:Hp}{y:Y}{x:V}(r:RV G H y x):∀{ys:List Y} {xs:Yj} (i:Nat),x8 G H ys xs->x8 G H (ys.set i y) (xs.set i x)
 |[],_,_,h=>by cases h;simp[x8]
 |_::_,_,0,⟨J,I,e,_,s⟩=>by subst e;exact⟨x,I,rfl,r,s⟩
 |_::_,_,i+1,⟨J,I,e,q,s⟩=>by subst e;exact⟨J,I.set i x,rfl,q,x8.setY r i s⟩
def x8.dropLast{G:G3}{ys:List Y}(h:x8 G H ys xs):x8 G H ys.dropLast xs.dropLast:=by rw[List.dropLast_eq_take,List.dropLast_eq_take,h.length];exact h.take _
theorem x8.eraseIdx{G:G3}{H:Hp}:∀{ys:List Y} {xs:Yj} (n:Nat),x8 G H ys xs->x8 G H (ys.eraseIdx n) (xs.eraseIdx n)
 |[],_,n,h=>by cases h;simp[x8]
 |_::_,_,0,⟨x,I,e,r,s⟩=>by subst e;exact s
 |_::_,_,n+1,⟨x,I,e,r,s⟩=>by subst e;exact⟨x,I.eraseIdx n,rfl,r,x8.eraseIdx n s⟩
def RO(G:G3)(H:Hp)(a:Addr):LO->Prop
 |.lst ys=>∃xs,H a=some (.lst xs)/\x8 G H ys xs
 |.dct kvs=>∃xs,H a=some (.dK xs)/\Paired (λ(p:ja×Y) (q:ja×V)=>p.1=q.1/\RV G H p.2 q.2) kvs xs
 |.ins C fs=>∃dx xs,H a=some (.ins C dx xs)/\Paired (λ(p:Str×Y) (q:Str×V)=>p.1=q.1/\RV G H p.2 q.2) fs xs
 |.exc C=>Qw G.K H a C
 |.tb q=>uC H a q
def zu(G:G3)(H:Hp)(L:qi):Prop:=∀a o,L a=some o->RO G H a o
theorem RO.ex{G:G3}{a:Addr}:∀{o:LO},RO G H a o->∃u,H a=some u
 |.lst _,⟨_,h,_⟩=>⟨_,h⟩
 |.dct _,⟨_,h,_⟩=>⟨_,h⟩
 |.ins _ _,⟨_,_,h,_⟩=>⟨_,h⟩
 |.exc _,⟨_,h,_⟩=>⟨_,h⟩
 |.tb _,⟨_,h,_⟩=>⟨_,h⟩
theorem zu.none{G:G3}{L:qi}(h:zu G H L){p:Addr}(I:H p=none):L p=none:=by cases e:L p with|none=>rfl|some o=>obtain⟨u,q⟩:=(h p o e).ex;rw[I] at q;cases q
theorem RO.keep{G:G3}(t:j5 H H'){a:Addr}(e:H' a=H a):∀{o:LO},RO G H a o->RO G H' a o
 |.lst _,⟨I,h,r⟩=>⟨I,e.trans h,r.ts t⟩
 |.dct _,⟨I,h,r⟩=>⟨I,e.trans h,EE r λ_ _ ⟨a,b⟩=>⟨a,b.ts t⟩⟩
 |.ins _ _,⟨J,I,h,r⟩=>⟨J,I,e.trans h,EE r λ_ _ ⟨a,b⟩=>⟨a,b.ts t⟩⟩
 |.exc _,⟨o,h,c⟩=>⟨o,e.trans h,c⟩
 |.tb _,h=>uC.keep h e λb o u z=>t b _ rfl z
def zu.skip{G:G3}{L:qi}(h:zu G H L){p:Addr}{o:HO}(I:H p=.none):zu G (upd H p o) L:=λa u e=>by obtain⟨x,q⟩:=(h a u e).ex;exact(h a u e).keep (EF I) (qu<|zw q I)
def zu.newL{G:G3}{L:qi}(h:zu G H L){p:Addr}{ys:List Y}(I:H p=.none)(r:x8 G H ys xs):zu G (upd H p<|.lst xs) (qg L p<|.lst ys):=λa u e=>by
 by_cases c:a=p
 ·subst c;rw[q9] at e;cases e;exact⟨xs,j6,r.ts<|EF I⟩
 ·rw[qd c] at e;exact(h a u e).keep (EF I) (qu c)
def zu.setL{G:G3}{L:qi}(h:zu G H L){p:Addr}{ys:List Y}(I:H p=some (.lst zs))(r:x8 G H ys xs):zu G (upd H p<|.lst xs) (qg L p<|.lst ys):=λa u e=>by
 by_cases c:a=p
 ·subst c;rw[q9] at e;cases e;exact⟨xs,j6,r.ts<|ER I⟩
 ·rw[qd c] at e;exact(h a u e).keep (ER I) (qu c)
def qf(L L':qi):Prop:=∀a o,L a=some o->L' a=some o
def qf.refl(L:qi):qf L L:=λ_ _ h=>h
abbrev EC:=@qf.refl
def qf.trans{L L1 L2:qi}(a:qf L L1)(b:qf L1 L2):qf L L2:=λc o h=>b c o<|a c o h
def qf.new{L:qi}{p:Addr}{o:LO}(h:L p=none):qf L (qg L p o):=λa u e=>by rw[qd<|vt e h];exact e
abbrev By:=@qf.new
@[elab_as_elim] theorem fN {L:qi} {p:Addr} {o:LO} {motive:qi->Prop} (h:L p=none) (k:∀L',qf L L'->L' p=some o->motive L'):motive (qg L p o):=k _ (By h) q9
def zu.sub{G:G3}{L L':qi}(h:zu G H L')(s:qf L L'):zu G H L:=λa o e=>h a o<|s a o e
abbrev jc:=List<|Option Y
structure xo(G:G3)(H:Hp)(σ:St)(τ:jc):Prop where
 len:σ.length=τ.length
 get:∀(i:Nat) y,τ[i]?=some (some y)->∃v,σ[i]?=some (some v)/\RV G H y v
theorem xo.ts{G:G3}{τ:jc}(h:xo G H σ τ)(t:j5 H H'):xo G H' σ τ:=
 ⟨h.len,λi y e=>let ⟨v,a,b⟩:=h.get i y e;⟨v,a,b.ts t⟩⟩
def xo.set{G:G3}{τ:jc}(h:xo G H σ τ){y:Y}(r:RV G H y v):xo G H (σ.set i<|some v) (τ.set i<|some y):=by
 refine⟨by simp[h.len],λj z e=>?_⟩;by_cases c:i=j
 ·subst c;have I:i<τ.length:=by
   by_cases q:i<τ.length
   ·exact q
   ·rw[Cb (by simp;omega)] at e;cases e
  rw[B4 I] at e;cases e;exact⟨v,B4 (by rw[h.len];exact I),r⟩
 ·rw[Bq c] at e ⊢;exact h.get j z e
def xo.more{G:G3}{τ:jc}(h:xo G H σ τ)(n:Nat):xo G H (σ++List.replicate n none) (τ++List.replicate n none):=by
 refine⟨by simp[h.len],λj z e=>?_⟩;by_cases c:j<τ.length
 ·rw[AC c] at e;rw[AC (by rw[h.len];exact c)];exact h.get j z e
 ·rw[AI (by omega),Cq] at e;split at e<;>cases e
def uw:jc->Nat->Option Y
 |[],_=>none
 |o::_,0=>o
 |_::r,i+1=>uw r i
theorem mY:∀(τ:jc) (i:Nat) {y:Y},uw τ i=some y->τ[i]?=some (some y)
 |[],_,_,h=>by cases h
 |o::_,0,_,h=>by simp[uw] at h;simp[h]
 |_::r,i+1,_,h=>by simp only[C6];exact mY r i h
abbrev YK:=Y->qi->Prop
abbrev jp:=jc->qi->YK->Prop
abbrev iT:=jc->qi->(Bool->qi->Prop)->Prop
abbrev ef:=jc->qi->(List Y->qi->Prop)->Prop
structure xu where
 nx:jc->qi->Prop
 rt:YK
 bk:jc->qi->Prop:=λ_ _=>False
 ct:jc->qi->Prop:=λ_ _=>False
abbrev dR:=xu->jc->qi->Prop
abbrev kC:=Y->jc->qi->(jc->qi->Prop)->Prop
abbrev wN:=List Y->jc->qi->(jc->qi->Prop)->Prop
abbrev x_:=jc->qi->(List Y->(qi->Prop)->qi->Prop)->Prop
abbrev mQ:=Y->Y->qi->YK->Prop
def u7(G:G3)(H:Hp)(I:YK)(Q:VK):Prop:=∀v H' y L',j5 H H'->zu G H' L'->RV G H' y v->I y L'->Q v H'
def ae9(G:G3)(H:Hp)(I:Bool->qi->Prop)(Q:Bool->Hp->Prop):Prop:=∀b H' L',j5 H H'->zu G H' L'->I b L'->Q b H'
def Iy(G:G3)(H:Hp)(I:List Y->qi->Prop)(Q:Yj->Hp->Prop):Prop:=∀vs H' ys L',j5 H H'->zu G H' L'->x8 G H' ys vs->I ys L'->Q vs H'
def pV(G:G3)(H:Hp)(I:jc->qi->Prop)(Q:St->Hp->Prop):Prop:=∀σ H' τ L',j5 H H'->xo G H' σ τ->zu G H' L'->I τ L'->Q σ H'
def u7.ts{G:G3}{I:YK}{Q:VK}(h:u7 G H I Q)(t:j5 H H'):u7 G H' I Q:=λv J y U g=>h v J y U<|t.trans g
def ae9.ts{G:G3}{I:Bool->qi->Prop}{Q:Bool->Hp->Prop}(h:ae9 G H I Q)(t:j5 H H'):ae9 G H' I Q:=λv J U g=>h v J U<|t.trans g
def pV.ts{G:G3}{I:jc->qi->Prop}{Q:St->Hp->Prop}(h:pV G H I Q)(t:j5 H H'):pV G H' I Q:=λv J y U g=>h v J y U<|t.trans g
structure ae6(G:G3)(H:Hp)(D3:xu)(D:yL):Prop where
 nx:pV G H D3.nx D.nx
 rt:u7 G H D3.rt D.rt
 bk:pV G H D3.bk D.bk
 ct:pV G H D3.ct D.ct
theorem ae6.ts{G:G3}{I:xu}{D:yL}(h:ae6 G H I D)(t:j5 H H'):ae6 G H' I D:=⟨h.nx.ts t,h.rt.ts t,h.bk.ts t,h.ct.ts t⟩
def pM(G:G3)(t:jp):TE:=λσ H Q=>∃τ L I,xo G H σ τ/\zu G H L/\t τ L I/\u7 G H I Q
def p_(G:G3)(t:iT):TT:=λσ H Q=>∃τ L I,xo G H σ τ/\zu G H L/\t τ L I/\ae9 G H I Q
def Iz(G:G3)(t:ef):TA:=λσ H Q=>∃τ L I,xo G H σ τ/\zu G H L/\t τ L I/\Iy G H I Q
def FQ(G:G3)(t:dR):L2.TS:=λD σ H=>∃τ L I,xo G H σ τ/\zu G H L/\t I τ L/\ae6 G H I D
def Ft(G:G3)(g:kC):TG:=λv σ H Q=>∃y τ L I,RV G H y v/\xo G H σ τ/\zu G H L/\g y τ L I/\pV G H I Q
def Qy(G:G3)(g:wN):k_:=λvs σ H Q=>∃ys τ L I,x8 G H ys vs/\xo G H σ τ/\zu G H L/\g ys τ L I/\pV G H I Q
structure dU(G:G3)(H₀:Hp)(J:It)(ys:List Y)(keep:qi->Prop):Prop where
 go:∀i H L,j5 H₀ H->zu G H L->keep L->i<ys.length->J.go i H
 yld:∀i H L x H' y,j5 H₀ H->zu G H L->keep L->ys[i]?=some y->J.yld i H x H'->j5 H H'/\zu G H' L/\RV G H' y x
 stop:∀H L,j5 H₀ H->zu G H L->keep L->J.stop ys.length H
def GV(G:G3)(wi:x_):TI:=λσ H R=>∃τ L I,xo G H σ τ/\zu G H L/\wi τ L I/\∀J H' ys keep L',j5 H H'->zu G H' L'->dU G H' J ys keep->I ys keep L'->R J H'
def dQ(G:G3)(U:mQ):R2:=λx y H Q=>∃x3 I L J,RV G H x3 x/\RV G H I y/\zu G H L/\U x3 I L J/\u7 G H J Q
def b_(G:G3)(J:List Y->qi->YK->Prop):Yj->Hp->VK->Prop:=λxs H Q=>∃ys L I,x8 G H ys xs/\zu G H L/\J ys L I/\u7 G H I Q
def PE.imp{t u:TE}(h:PE X e t)(q:∀σ H Q,u σ H Q->t σ H Q):PE X e u:=λJ s σ H Q I z=>h J s σ H Q I<|q σ H Q z
abbrev ES:=@PE.imp
def PE.imq{G:G3}{t:TE}{u:jp}(h:PE X e t)(q:∀σ H Q τ L I,xo G H σ τ->zu G H L->u τ L I->u7 G H I Q->t σ H Q):PE X e (pM G u):=ES h λσ H Q ⟨τ,L,I,a,b,c,d⟩=>q σ H Q τ L I a b c d
abbrev EH:=@PE.imq
def PT.imp{t u:TT}(h:PT X e t)(q:∀σ H Q,u σ H Q->t σ H Q):PT X e u:=λJ s σ H Q I z=>h J s σ H Q I<|q σ H Q z
def PT.imq{G:G3}{t:TT}{u:iT}(h:PT X e t)(q:∀σ H Q τ L I,xo G H σ τ->zu G H L->u τ L I->ae9 G H I Q->t σ H Q):PT X e (p_ G u):=PT.imp h λσ H Q ⟨τ,L,I,a,b,c,d⟩=>q σ H Q τ L I a b c d
def PW.imp{t u:TT}(h:PW X e t)(q:∀σ H Q,u σ H Q->t σ H Q):PW X e u:=λU J s σ H Q I z=>h U J s σ H Q I<|q σ H Q z
def PW.imq{G:G3}{t:TT}{u:iT}(h:PW X e t)(q:∀σ H Q τ L I,xo G H σ τ->zu G H L->u τ L I->ae9 G H I Q->t σ H Q):PW X e (p_ G u):=PW.imp h λσ H Q ⟨τ,L,I,a,b,c,d⟩=>q σ H Q τ L I a b c d
def PA.imp{e:X5}{t u:TA}(h:PA X e t)(q:∀σ H Q,u σ H Q->t σ H Q):PA X e u:=λpos J s σ H Q I z=>h pos J s σ H Q I<|q σ H Q z
def PA.imq{G:G3}{e:X5}{t:TA}{u:ef}(h:PA X e t)(q:∀σ H Q τ L I,xo G H σ τ->zu G H L->u τ L I->Iy G H I Q->t σ H Q):PA X e (Iz G u):=PA.imp h λσ H Q ⟨τ,L,I,a,b,c,d⟩=>q σ H Q τ L I a b c d
def PS.imp{e:Stmt}{t u:L2.TS}(h:PS X e t)(q:∀D σ H,u D σ H->t D σ H):PS X e u:=λJ s σ H Q I z=>h J s σ H Q I<|q _ σ H z
def PS.imq{G:G3}{e:Stmt}{t:L2.TS}{u:dR}(h:PS X e t)(q:∀D σ H τ L I,xo G H σ τ->zu G H L->u I τ L->ae6 G H I D->t D σ H):PS X e (FQ G u):=PS.imp h λD σ H ⟨τ,L,I,a,b,c,d⟩=>q D σ H τ L I a b c d
abbrev EJ:=@PS.imq
def mH.imp{e:X6}{t u:L2.TS}(h:mH X e t)(q:∀D σ H,u D σ H->t D σ H):mH X e u:=λJ s σ H Q I z=>h J s σ H Q I<|q _ σ H z
def mH.imq{G:G3}{e:X6}{t:L2.TS}{u:dR}(h:mH X e t)(q:∀D σ H τ L I,xo G H σ τ->zu G H L->u I τ L->ae6 G H I D->t D σ H):mH X e (FQ G u):=mH.imp h λD σ H ⟨τ,L,I,a,b,c,d⟩=>q D σ H τ L I a b c d
def PF.imp{e:X5}{t u:TT}(h:PF X e t)(q:∀σ H Q,u σ H Q->t σ H Q):PF X e u:=λJ s σ H Q I z=>h J s σ H Q I<|q σ H Q z
end L3
variable {g:L3.kC}{G:L3.G3}{y:L3.Y}{D:L3.xu}{tA tc:L3.iT}{ta tb te to:L3.jp}{ys:List L3.Y}{L L' L0 L1:L3.qi}{τ:L3.jc}{gs:L3.wN}{tr:L3.ef}
namespace L3
open PySem L2
def qC:Y:=(.tup [(.str "plain"),(.str "turned")])
def mJ:Y:=(.cd [("plain","turned"),("turned","plain"),("both","either"),("either","both")])
def aeb:Y:=.int 8
def aec:Y:=.int 4
def pY:Y:=.cd [("plain","+"),("turned","-")]
def qG:Y:=.cd [("+","plain"),("-","turned")]
def pZ:Y:=.tup [.str "both",.str "either"]
def wb(b:Bool)(A B:Prop):Prop:=match b with
 |true=>A
 |false=>B
def sJ{b:Bool}{A B:Prop}(h:b=true->A)(k:b=false->B):wb b A B:=by cases b with|true=>exact h rfl|false=>exact k rfl
def vg{b:Bool}{A B:Prop}(e:b=true)(h:A):wb b A B:=by rw[e];exact h
def jz{b:Bool}{A B:Prop}(e:b=false)(h:B):wb b A B:=by rw[e];exact h
def zo{p:Prop} [Decidable p]{A B:Prop}(h:p->A)(k:¬p->B):wb (decide p) A B:=by
 by_cases c:p
 ·rw[Ax c];exact h c
 ·rw[Ar c];exact k c
def wD{p:Prop} [Decidable p]{A B:Prop}(c:p)(h:A):wb (decide p) A B:=by rw[Ax c];exact h
def nb(neg b:Bool):Bool:=match neg with
 |true=>!b
 |false=>b
def ql(i:Nat)(τ:jc)(L:qi)(Q:YK):Prop:=match uw τ i with
 |some y=>Q y L
 |none=>False
def yC(y:Y)(_:jc)(L:qi)(Q:YK):Prop:=Q y L
def a9(r:mQ)(ta tb:jp)(τ:jc)(L:qi)(Q:YK):Prop:=ta τ L λx L1=>tb τ L1 λy L2=>r x y L2 Q
def yI(C:Int->Int->Prop)(g:Int->Int->Y)(x y:Y)(L:qi)(Q:YK):Prop:=match x,y with
 |.int i,.int j=>C i j/\Q (g i j) L
 |_,_=>False
def t_(g:Int->Int->Y)(x y:Y)(L:qi)(Q:YK):Prop:=match x,y with
 |.int i,.int j=>Q (g i j) L
 |_,_=>False
def br(L:qi):Y->Option (List Y)
 |.tup ys=>some ys
 |.sq ys=>some ys
 |.ref a=>match L a with
  |some (.lst ys)=>some ys
  |_=>none
 |_=>none
@[irreducible] def cb (L:qi) (a:Addr) (k:List Y->Prop):Prop:=match L a with
 |some (.lst ys)=>k ys
 |_=>False
def xb{a:Addr}{k:List Y->Prop}(h:cb L a k):∃ys,L a=some (.lst ys)/\k ys:=by
 unfold cb at h;split at h
 ·rename_i ys e;exact⟨ys,e,h⟩
 ·exact h.elim
def qh{a:Addr}{k:List Y->Prop}(e:L a=some (.lst ys))(h:k ys):cb L a k:=by unfold cb;rw[e];exact h
def iA(L:qi)(x:Y)(k:List Y->Prop):Prop:=match x with
 |.tup ys=>k ys
 |.sq ys=>k ys
 |.ref a=>cb L a k
 |_=>False
def wx{a:Addr}(h:L a=some (.lst ys)):br L (.ref a)=some ys:=by show(match L a with|some (.lst ys)=>some ys|_=>none)=some ys;rw[h]
def wo{x:Y}{k:List Y->Prop}(h:iA L x k):∃ys,br L x=some ys/\k ys:=by
 cases x with
 |tup ys=>exact⟨ys,rfl,h⟩
 |sq ys=>exact⟨ys,rfl,h⟩
 |ref a=>obtain⟨ys,e,q⟩:=xb h;exact⟨ys,wx e,q⟩
 |_=>exact h.elim
def jV{a:Addr}(h:br L (.ref a)=some ys):L a=some (.lst ys):=by
 have I:(match L a with|some (.lst ys)=>some ys|_=>none)=some ys:=h;split at I
 ·rename_i e;cases I;exact e
 ·cases I
def Qz{x:Y}{k:List Y->Prop}(e:br L x=some ys)(h:k ys):iA L x k:=by cases x with|tup I=>cases e;exact h|sq I=>cases e;exact h|ref a=>exact qh (jV e) h|_=>cases e
def qb{a:Addr}{k:List Y->Prop}(e:L a=some (.lst ys))(h:k ys):iA L (.ref a) k:=Qz (wx e) h
def vJ(x y:Y)(L:qi)(Q:YK):Prop:=match x,y with
 |.int i,.int j=>Q (.int<|i+j) L
 |.str a,.str b=>a.length+b.length<=sizeLine/\Q (.str<|a++b) L
 |.ref a,.ref b=>∃ys zs,L a=some (.lst ys)/\L b=some (.lst zs)/\ys.length+zs.length<=sizeLine/\∀p,L p=none->Q (.ref p) (qg L p<|.lst<|ys++zs)
 |_,_=>False
def c_(L:qi)(Q:α->qi->Prop):Option α->Prop
 |some v=>Q v L
 |none=>False
def aX(kvs:List<|ja×Y)(k:ja):Option Y:=(kvs.find? λp=>decide<|p.1=k).map (·.2)
@[irreducible] def xX (L:qi) (a:Addr) (k:List (ja×Y)->Prop):Prop:=match L a with
 |some (.dct kvs)=>k kvs
 |_=>False
def pO{a:Addr}{k:List (ja×Y)->Prop}(h:xX L a k):∃kvs,L a=some (.dct kvs)/\k kvs:=by
 unfold xX at h;split at h
 ·rename_i I e;exact⟨I,e,h⟩
 ·exact h.elim
def wz{a:Addr}{k:List (ja×Y)->Prop}{kvs:List<|ja×Y}(e:L a=some (.dct kvs))(h:k kvs):xX L a k:=by unfold xX;rw[e];exact h
def h_(x y:Y)(L:qi)(Q:YK):Prop:=match x,y with
 |.str z,.int i=>z.length<=sizeLine/\c_ L (λc L=>Q (.str ⟨#[c]⟩) L) (jU z.cps.toList i)
 |.cd kvs,.str k=>c_ L (λs L=>Q (.str s) L)<|kvs.lookup k
 |.ref a,.str k=>xX L a λkvs=>c_ L Q<|aX kvs<|.inr k
 |x,.int i=>iA L x λys=>c_ L Q<|jU ys i
 |_,_=>False
def E8(xs:List Y)(L:qi)(Q:YK):Prop:=match xs with
 |[.str z]=>z.length<=sizeLine/\Q (.int z.length) L
 |[x]=>iA L x λys=>Q (.int ys.length) L
 |_=>False
def E9(xs:List Y)(L:qi)(Q:YK):Prop:=match xs with
 |[.int i,.int j]=>Q (.int<|max i j) L
 |_=>False
def Fu(xs:List Y)(L:qi)(Q:YK):Prop:=match xs with
 |[.int i,.int j]=>Q (.int<|min i j) L
 |_=>False
inductive lv where
 |non|bool|int|str|tuple|list|dict
def lv.nm:lv->Yi
 |.non => "NoneType"
 |.bool => "bool"
 |.int => "int"
 |.str => "str"
 |.tuple => "tuple"
 |.list => "list"
 |.dict => "dict"
def y_(L:qi):Y->Option lv
 |.non=>some .non
 |.bl _=>some .bool
 |.int _=>some .int
 |.str _=>some .str
 |.tup _=>some .tuple
 |.sq _=>some .list
 |.ref a=>match L a with
  |some (.lst _)=>some .list
  |some (.dct _)=>some .dict
  |_=>none
 |_=>none
def QB{a:Addr}(h:L a=some (.lst ys)):y_ L (.ref a)=some .list:=by show(match L a with|some (.lst _)=>some lv.list|some (.dct _)=>some .dict|_=>none)=some .list;rw[h]
def bS:lv->lv->Bool
 |.bool,.int=>true
 |.bool,.bool=>true
 |.int,.int=>true
 |.str,.str=>true
 |.tuple,.tuple=>true
 |.list,.list=>true
 |.dict,.dict=>true
 |.non,.non=>true
 |_,_=>false
@[irreducible] def Fv (L:qi) (a:Addr) (k:lv->Prop):Prop:=match y_ L (.ref a) with
 |some T=>k T
 |none=>False
def QC{a:Addr}{k:lv->Prop}(h:Fv L a k):∃T,y_ L (.ref a)=some T/\k T:=by
 unfold Fv at h;split at h
 ·rename_i T e;exact⟨T,e,h⟩
 ·exact h.elim
def cG{a:Addr}{k:lv->Prop}(e:L a=some (.lst ys))(h:k .list):Fv L a k:=by unfold Fv;rw[QB e];exact h
def GX(L:qi)(x:Y)(k:lv->Prop):Prop:=match x with
 |.non=>k .non
 |.bl _=>k .bool
 |.int _=>k .int
 |.str _=>k .str
 |.tup _=>k .tuple
 |.sq _=>k .list
 |.ref a=>Fv L a k
 |_=>False
def ur{x:Y}{k:lv->Prop}(h:GX L x k):∃T,y_ L x=some T/\k T:=by cases x with|ref a=>exact QC h|ty n=>exact h.elim|cd k=>exact h.elim|_=>exact⟨_,rfl,h⟩
def IA(S:lv)(te:jp)(τ:jc)(L:qi)(Q:YK):Prop:=te τ L λx L1=>GX L1 x λT=>Q (.bl<|bS T S) L1
def QD(S I:lv)(te:jp)(τ:jc)(L:qi)(Q:YK):Prop:=te τ L λx L1=>GX L1 x λT=>Q (.bl<|bS T S||bS T I) L1
def fY:Y->Bool
 |.non=>true
 |.bl _=>true
 |.int _=>true
 |.str _=>true
 |_=>false
def fS:Y->V
 |.non=>.non
 |.bl b=>.bl b
 |.int i=>.int i
 |.str x=>.str x
 |_=>.ty "?"
def RV.flat :∀{y:Y} {v:V},fY y=true->RV G H y v->v=fS y:=by intro y v e h;cases y<;>first|exact h|cases e
theorem iZ:∀{y:Y},fY y=true->ae (fS y)=true
 |.non,_=>rfl
 |.bl _,_=>rfl
 |.int _,_=>rfl
 |.str _,_=>rfl
theorem x8.flat :∀{ys:List Y} {xs:Yj},ys.all fY=true->x8 G H ys xs->xs=ys.map fS
 |[],_,_,h=>h
 |y::ys,_,f,⟨x,I,e,r,s⟩=>by rw[DQ,Ba] at f;rw[e,r.flat f.1,s.flat f.2];rfl
def zT:Y->Bool
 |.ref _=>true
 |.sq _=>true
 |_=>false
def jd(L:qi):Nat->Y->Da->Prop
 |0,y,d=>fY y=true/\d=.s (fS y)
 |n+1,y,d=>(fY y=true/\d=.s (fS y))\/(∃ys ds,y=.tup ys/\d=.tup ds/\Paired (jd L n) ys ds)\/(∃ys ds,zT y=true/\d=.lst ds/\br L y=some ys/\Paired (jd L n) ys ds)
def Fa:Y->Bool
 |.ref _=>true
 |.tup _=>true
 |.sq _=>true
 |_=>false
def l_(neg:Bool)(x y:Y)(L:qi)(Q:YK):Prop:=match x,y with
 |.int i,.int j=>Q (.bl<|nb neg<|decide<|i=j) L
 |.str i,.str j=>Q (.bl<|nb neg<|decide<|i=j) L
 |.bl i,.bl j=>Q (.bl<|nb neg<|decide<|i=j) L
 |x,y=>Fa x=true/\Fa y=true/\∃n m d e,n<=128/\jd L n x d/\jd L m y e/\Q (.bl<|nb neg<|Da.eq d e) L
def oz(neg:Bool)(ta:jp)(τ:jc)(L:qi)(Q:YK):Prop:=ta τ L λx L1=>match x with
 |.non=>Q (.bl<|!neg) L1
 |_=>Q (.bl neg) L1
def yB(t:jp)(τ:jc)(L:qi)(Q:Bool->qi->Prop):Prop:=t τ L λx L1=>match x with
 |.bl c=>Q c L1
 |_=>False
def qB(t u:iT)(τ:jc)(L:qi)(Q:Bool->qi->Prop):Prop:=t τ L λc L1=>wb c (u τ L1 Q)<|Q false L1
def GY(t u:iT)(τ:jc)(L:qi)(Q:Bool->qi->Prop):Prop:=t τ L λc L1=>wb c (Q true L1)<|u τ L1 Q
def FR(t:iT)(τ:jc)(L:qi)(Q:Bool->qi->Prop):Prop:=t τ L λc L1=>Q (!c) L1
def QH(ta tb:jp)(τ:jc)(L:qi)(Q:YK):Prop:=ta τ L λx L1=>match x with
 |.bl c=>wb c (tb τ L1 Q)<|Q (.bl false) L1
 |_=>False
def QJ(ta tb:jp)(τ:jc)(L:qi)(Q:YK):Prop:=ta τ L λx L1=>match x with
 |.bl c=>wb c (Q (.bl true) L1)<|tb τ L1 Q
 |_=>False
def FT(t:iT)(ta tb:jp)(τ:jc)(L:qi)(Q:YK):Prop:=t τ L λc L1=>wb c (ta τ L1 Q)<|tb τ L1 Q
def jn(_:jc)(L:qi)(Q:List Y->qi->Prop):Prop:=Q [] L
def qr(ta:jp)(tr:ef)(τ:jc)(L:qi)(Q:List Y->qi->Prop):Prop:=ta τ L λx L1=>tr τ L1 λxs L2=>Q (x::xs) L2
def cX(t:ef)(τ:jc)(L:qi)(Q:YK):Prop:=t τ L λys L1=>match Nat.ble ys.length 1000 with
 |true=>Q (.tup ys) L1
 |false=>False
def gd(t:ef)(τ:jc)(L:qi)(Q:YK):Prop:=t τ L λys L1=>match Nat.ble ys.length 1000 with
 |true=>∀p,L1 p=none->Q (.ref p) (qg L1 p<|.lst ys)
 |false=>False
def rD(r:List Y->qi->YK->Prop)(t:ef)(τ:jc)(L:qi)(Q:YK):Prop:=t τ L λvs L1=>r vs L1 Q
abbrev Fw:=jc->qi->(X9->qi->Prop)->Prop
def QK(_:jc)(L:qi)(Q:X9->qi->Prop):Prop:=Q none L
def arm(t:jp)(τ:jc)(L:qi)(Q:X9->qi->Prop):Prop:=t τ L λx L1=>match x with
 |.int i=>Q (some i) L1
 |_=>False
def fw(xs:List Y)(lo hi:X9):List Y:=(xs.drop<|HT.sIx xs.length 0 lo).take<|HT.sIx xs.length xs.length hi-HT.sIx xs.length 0 lo
def IB(x:Y)(lo hi:X9)(L:qi)(Q:YK):Prop:=match x with
 |.ref a=>cb L a λys=>∀p,L p=none->Q (.ref p) (qg L p<|.lst<|fw ys lo hi)
 |.sq ys=>∀p,L p=none->Q (.ref p) (qg L p<|.lst<|fw ys lo hi)
 |_=>False
def QL(r:Y->X9->X9->qi->YK->Prop)(te:jp)(tl th:Fw)(τ:jc)(L:qi)(Q:YK):Prop:=te τ L λx L1=>tl τ L1 λl L2=>th τ L2 λu L3=>r x l u L3 Q
def xa(t u:dR)(D:xu)(τ:jc)(L:qi):Prop:=t {D with nx:=u D} τ L
def fT(D:xu)(τ:jc)(L:qi):Prop:=D.nx τ L
def QM(D:xu)(τ:jc)(L:qi):Prop:=D.ct τ L
def aA(te:jp)(D:xu)(τ:jc)(L:qi):Prop:=te τ L λ_ L1=>D.nx τ L1
def oG(te:jp)(D:xu)(τ:jc)(L:qi):Prop:=te τ L D.rt
def IC(D:xu)(_:jc)(L:qi):Prop:=D.rt .non L
def fO(c:iT)(t u:dR)(D:xu)(τ:jc)(L:qi):Prop:=c τ L λb L1=>wb b (t D τ L1)<|u D τ L1
def vo(te:jp)(g:kC)(D:xu)(τ:jc)(L:qi):Prop:=te τ L λx L1=>g x τ L1 D.nx
def ai:jc->Nat->Y->jc
 |[],_,_=>[]
 |_::r,0,y=>some y::r
 |o::r,i+1,y=>o::ai r i y
theorem w9:∀(τ:jc) (i:Nat) (y:Y),ai τ i y=τ.set i (some y)
 |[],_,_=>rfl
 |_::_,0,_=>rfl
 |o::r,i+1,y=>by rw[ai,w9 r i y];rfl
def qp(i:Nat)(y:Y)(τ:jc)(L:qi)(Q:jc->qi->Prop):Prop:=Q (ai τ i y) L
def dF(ys:List Y)(τ:jc)(L:qi)(Q:jc->qi->Prop):Prop:=match ys with
 |[]=>Q τ L
 |_=>False
def jx(t:kC)(u:wN)(ys:List Y)(τ:jc)(L:qi)(Q:jc->qi->Prop):Prop:=match ys with
 |[]=>False
 |y::r=>t y τ L λI L'=>u r I L' Q
def f8(n:Nat)(t:wN)(y:Y)(τ:jc)(L:qi)(Q:jc->qi->Prop):Prop:=match y with
 |.tup ys=>match ys.length==n with
  |true=>t ys τ L Q
  |false=>False
 |_=>False
def ID(i j:Nat)(ta:ef)(D:xu)(τ:jc)(L:qi):Prop:=ta τ L λvs L1=>match vs with
 |[v,w]=>D.nx (ai (ai τ i v) j w) L1
 |_=>False
def IE(f:Int->Int->Int)(x y:Y)(L:qi)(Q:YK):Prop:=match x,y with
 |.int i,.int j=>Q (.int<|f i j) L
 |_,_=>False
def IF(i:Nat)(te:jp)(ti:mQ)(D:xu)(τ:jc)(L:qi):Prop:=match uw τ i with
 |some x=>te τ L λy L1=>ti x y L1 λz L2=>D.nx (ai τ i z) L2
 |none=>False
inductive iP{α:Type}(W:α->qi->Prop)(x:α)(L:qi):Prop
 |mk:∀L',qf L' L->W x L'->iP W x L
def IG{W:α->qi->Prop}{x:α}(h:W x L):iP W x L:=⟨L,EC L,h⟩
inductive IH(c:iT)(tb:dR)(D:xu)(τ:jc)(L:qi):Prop
 |mk:∀W:Nat->jc->qi->Prop,(∃m,W m τ L)->(∀m τ L,W m τ L->
 c τ L λb L1=>wb b (∃N:jc->qi->Prop,(∀τ' L',N τ' L'->∃m',m'<m/\W m' τ' L')/\tb {D with nx:=iP N,ct:=iP N,bk:=D.nx} τ L1)<|D.nx τ L1)->IH c tb D τ L
inductive tM(ys:List Y)(keep:qi->Prop)(g:kC)(tb:dR)(D:xu)(τ:jc)(L1:qi):Prop
 |mk:∀W:Nat->jc->qi->Prop,W 0 τ L1->(∀i τ L,W i τ L->keep L)->
 (∀i y τ L,ys[i]?=some y->W i τ L->g y τ L λτ2 L2=>tb {D with nx:=iP<|W<|i+1,ct:=iP<|W<|i+1,bk:=D.nx} τ2 L2)->(∀τ L,W ys.length τ L->D.nx τ L)->tM ys keep g tb D τ L1
def ve{keep:qi->Prop}{tb:dR}(h:tM ys keep g tb D τ L1):tM ys keep g tb D τ L1:=h
def QN{keep:qi->Prop}{tb:dR}(h:tM ys keep g tb D τ L1):tM ys keep g tb D τ L1:=h
def zD(wi:x_)(g:kC)(tb:dR)(D:xu)(τ:jc)(L:qi):Prop:=wi τ L λys keep L1=>tM ys keep g tb D τ L1
@[irreducible] def vP (L:qi) (a:Addr) (R:List Y->(qi->Prop)->qi->Prop):Prop:=match L a with
 |some (.lst ys)=>R ys (λL=>L a=some (.lst ys)) L
 |_=>False
def zp{a:Addr}{R:List Y->(qi->Prop)->qi->Prop}(h:L a=some (.lst ys))(q:∀keep:qi->Prop,(∀L',L' a=L a->keep L')->R ys keep L):vP L a R:=by unfold vP;rw[h];exact q _ λL' I=>I.trans h
def vA{a:Addr}{R:List Y->(qi->Prop)->qi->Prop}(h:vP L a R):∃ys keep,br L (.ref a)=some ys/\keep L/\(∀L',keep L'->br L' (.ref a)=some ys)/\R ys keep L:=by
 unfold vP at h;split at h
 ·rename_i ys e;exact⟨ys,_,wx e,e,λL' I=>wx I,h⟩
 ·exact h.elim
def cz(tl:jp)(τ:jc)(L:qi)(R:List Y->(qi->Prop)->qi->Prop):Prop:=tl τ L λx L1=>match x with
 |.ref a=>vP L1 a R
 |.sq ys=>R ys (λ_=>True) L1
 |_=>False
def QP(tl:jp)(τ:jc)(L:qi)(R:List Y->(qi->Prop)->qi->Prop):Prop:=tl τ L λx L1=>match x with
 |.tup ys=>R ys (λ_=>True) L1
 |_=>False
def af(lo:Int)(n:Nat):List Y:=(List.range n).map λk=>.int<|lo+(k:Nat)
def zJ(ta:ef)(τ:jc)(L:qi)(R:List Y->(qi->Prop)->qi->Prop):Prop:=ta τ L λvs L1=>match vs with
 |[.int j]=>(-(2 ^ 62)<=j/\j<2 ^ 62)/\R (af 0 j.toNat) (λ_=>True) L1
 |_=>False
def FU(_:jc)(L:qi)(Q:Bool->qi->Prop):Prop:=Q true L
inductive yb(ys:List Y)(keep:qi->Prop)(n:Nat)(g:kC)(tc:iT)(te:jp)(τ:jc)(L1:qi)(Q:YK):Prop
 |mk:ys.length<sizeLine->∀W:Nat->List Y->qi->Prop,W 0 [] L1->(∀i zs L,W i zs L->keep L)->
 (∀i y zs L,ys[i]?=some y->W i zs L->g y (τ++List.replicate n none) L λτ2 L2=>tc τ2 L2 λb L3=>wb b (te τ2 L3 λz L4=>iP (W<|i+1) (zs++[z]) L4)<|iP (W<|i+1) zs L3)->
 (∀zs L,W ys.length zs L->∀p,L p=none->Q (.ref p) (qg L p<|.lst zs))->yb ys keep n g tc te τ L1 Q
def xW{keep:qi->Prop}{n:Nat}{Q:YK}(h:yb ys keep n g tc te τ L1 Q):yb ys keep n g tc te τ L1 Q:=h
def QQ{keep:qi->Prop}{n:Nat}{Q:YK}(h:yb ys keep n g tc te τ L1 Q):yb ys keep n g tc te τ L1 Q:=h
def u_(n:Nat)(wi:x_)(g:kC)(tc:iT)(te:jp)(τ:jc)(L:qi)(Q:YK):Prop:=wi τ L λys keep L1=>yb ys keep n g tc te τ L1 Q
abbrev x5:=List Y->qi->YK->Prop
def xw(sp:x5)(t:ef)(τ:jc)(L:qi)(Q:YK):Prop:=t τ L λys L1=>sp ys L1 Q
def jq(x:Y)(vs:List Y)(L:qi)(Q:YK):Prop:=match x,vs with
 |.ref a,[v]=>cb L a λys=>ys.length<sizeLine/\Q .non (qg L a<|.lst<|ys++[v])
 |_,_=>False
def m5(x:Y)(vs:List Y)(L:qi)(Q:YK):Prop:=match x,vs with
 |.ref a,[.ref b]=>cb L a λys=>cb L b λzs=>ys.length+zs.length<=sizeLine/\Q .non (qg L a<|.lst<|ys++zs)
 |_,_=>False
def FV(x:Y)(vs:List Y)(L:qi)(Q:YK):Prop:=match x,vs with
 |.ref a,[]=>cb L a λys=>c_ L (λv L=>Q v<|qg L a<|.lst ys.dropLast)<|ys[ys.length-1]?
 |_,_=>False
def k8.imp{f:Yc->Yc->Sem Yc}{r U:R2}(h:k8 X f r)(q:∀x y H Q,U x y H Q->r x y H Q):k8 X f U:=λJ s g H x y v u Q I j l z=>h J s g H x y v u Q I j l<|q x y H Q z
def k8.imq{f:Yc->Yc->Sem Yc}{r:R2}{u:mQ}(h:k8 X f r)(q:∀x y H Q x3 I L J,RV G H x3 x->RV G H I y->zu G H L->u x3 I L J->u7 G H J Q->r x y H Q):k8 X f (dQ G u):=k8.imp h λx y H Q ⟨x3,I,L,J,a,b,c,d,e⟩=>q x y H Q x3 I L J a b c d e
abbrev EW:=@k8.imq
def zq.imp{f:Yc}{r U:Yj->Hp->VK->Prop}(h:zq X f r)(q:∀x H Q,U x H Q->r x H Q):zq X f U:=λJ s g H x v Q I j z=>h J s g H x v Q I j<|q x H Q z
def zq.imq{f:Yc}{r:Yj->Hp->VK->Prop}{u:List Y->qi->YK->Prop}(h:zq X f r)(q:∀xs H Q ys L I,x8 G H ys xs->zu G H L->u ys L I->u7 G H I Q->r xs H Q):zq X f (b_ G u):=zq.imp h λxs H Q ⟨ys,L,I,a,b,c,d⟩=>q xs H Q ys L I a b c d
abbrev EM:=@zq.imq
def IxR.imp{r U:R2}(h:IxR X r)(q:∀x y H Q,U x y H Q->r x y H Q):IxR X U:=λvalue slice J s g H x y v u Q I j l z=>h value slice J s g H x y v u Q I j l<|q x y H Q z
def gG.imp{id:Yi}{r U:V->Yj->Hp->VK->Prop}(h:gG X id r)(q:∀x xs H Q,U x xs H Q->r x xs H Q):gG X id U:=λJ s g H x xs v j Q I l o z=>h J s g H x xs v j Q I l o<|q x xs H Q z
def tw(U:zu G H L)(r:RV G H y v)(h:br L y=some ys):∃p xs,v=.ref p/\(aH G.K H p xs\/dS G.K H p xs)/\x8 G H ys xs:=by
 cases y with
 |tup J=>
  obtain⟨a,xs,e,s,q⟩:=r;cases h;exact⟨a,xs,e,.inr s,q⟩
 |sq J=>
  obtain⟨a,xs,e,s,q⟩:=r;cases h;exact⟨a,xs,e,.inl s.sq,q⟩
 |ref a=>
  cases (show v=.ref a from r);have I:(match L a with|some (.lst ys)=>some ys|_=>none)=some ys:=h;split at I
  ·rename_i J e;cases I;obtain⟨xs,g,q⟩:=U a _ e;exact⟨a,xs,rfl,.inl<|EV g,q⟩
  ·cases I
 |_=>cases h
def QR{i:Int}(s:x8 G H ys xs)(h:jU ys i=some y):∃x,jU xs i=some x/\RV G H y x:=by
 unfold jU at h ⊢;rw[<-s.length];cases e:s_ ys.length i with
 |none=>rw[e] at h;cases h
 |some j=>
  rw[e] at h;exact s.get (i:=j) h
section
variable {a b:Expr}{tc:jp}
abbrev QE(X:Cx)(e:Expr)(t:jp):Prop:=PE X e<|pM X.g3 t
abbrev QT(X:Cx)(e:Expr)(t:iT):Prop:=PT X e<|p_ X.g3 t
abbrev QW(X:Cx)(e:Expr)(t:iT):Prop:=PW X e<|p_ X.g3 t
abbrev QA(X:Cx)(es:X5)(t:ef):Prop:=PA X es<|Iz X.g3 t
abbrev QS(X:Cx)(st:Stmt)(t:dR):Prop:=PS X st<|FQ X.g3 t
abbrev d_(X:Cx)(st:X6)(t:dR):Prop:=mH X st<|FQ X.g3 t
abbrev QG(X:Cx)(e:Expr)(g:kC):Prop:=PG X e<|Ft X.g3 g
abbrev Fx(X:Cx)(es:X5)(g:wN):Prop:=PGs X es<|Qy X.g3 g
abbrev QI(X:Cx)(tg it:Expr)(w:x_):Prop:=PI X tg it<|GV X.g3 w
abbrev QF(X:Cx)(es:X5)(t:iT):Prop:=PF X es<|p_ X.g3 t
def QE.of_var(h:PE X e<|Gu i):QE X e (ql i):=EH h λj H Q l L o I J z k=>by
 unfold ql at z;split at z
 ·rename_i y U;obtain⟨v,ev,g⟩:=I.get i y<|mY _ _ U;exact⟨v,ev,k v H y L (ED _) J g z⟩
 ·exact z.elim
def QE.of_c(h:PE X e<|tC v)(q:∀H,RV X.g3 H y v):QE X e (yC y):=EH h λJ H Q U L g j I z k=>k v H y L (ED _) I (q H) z
abbrev EX:=@QE.of_c
def qv(i:Nat)(hN:X.N[i]?=some x:=by rfl)(J:A' X.env.scope x:=by first|exact Or.inl rfl|exact Or.inr (Or.inl rfl)|exact Or.inr<|Or.inr rfl)(hd:Ex x:=by decide)
 (I:Ey x:=by decide):QE X (.Name x pos) (ql i):=QE.of_var<|pv i hN J hd I
def jO :QE X (.Constant .none j pos) (yC .non):=EX NM λ_=>rfl
def fW{b:Bool} :QE X (.Constant (.bool b) j pos) (yC<|.bl b):=EX NL λ_=>rfl
def qe{i:Int} :QE X (.Constant (.int i) j pos) (yC<|.int i):=EX NK λ_=>rfl
def qo :QE X (.Constant (.str x) j pos) (yC<|.str x):=EX cH λ_=>rfl
def QU{c:Addr}(I:Gl X x)(J:X.mg x=some (.ref c))(q:∀H,RV X.g3 H y<|.ref c)(hd:Ex x:=by decide):QE X (.Name x pos) (yC y):=EX (Qo I J hd) q
def FW{r:mQ}(σ:St)(H:Hp)(Q:VK):pM G (a9 r ta tb) σ H Q->Fm (dQ G r) (pM G ta) (pM G tb) σ H Q:=λ⟨j,L,t,l,C,z,k⟩=>
 ⟨j,L,_,l,C,z,λv H1 y T o I J z1=>⟨j,T,_,l.ts o,I,z1,λv2 H2 y2 L2 p U g z2=>⟨y,y2,L2,t,J.ts p,g,U,z2,k.ts<|o.trans p⟩⟩⟩
def qk{op:Operator}{r:mQ}(h:k8 X (binaryOp op)<|dQ X.g3 r)(I:QE X a ta)(J:QE X b tb):QE X (.BinOp a op b pos) (a9 r ta tb):=ES (OL h I J) FW
def QV{r:mQ}(h:IxR X<|dQ X.g3 r)(I:QE X a ta)(J:QE X b tb)(U:tF b):QE X (.Subscript a b pos) (a9 r ta tb):=ES (PD h I J U) FW
def kj{op:CmpOp}{r:mQ}(h:k8 X (compareOp op)<|dQ X.g3 r)(I:QE X a ta)(J:QE X b tb)(U:behindInMarks op b=false):QE X (.Compare a [op] [b] pos) (a9 r ta tb):=ES (OV h I J U) FW
def GZ{t:jp}(σ:St)(H:Hp)(Q:Bool->Hp->Prop):p_ G (yB t) σ H Q->GH (pM G t) σ H Q:=λ⟨g,L,C,j,l,z,k⟩=>
 ⟨g,L,_,j,l,z,λv o y p r I J U=>by cases y with|bl b=>exact⟨b,J,k b o p r I U⟩|_=>exact U.elim⟩
def II{t:jp}(σ:St)(H:Hp)(Q:Bool->Hp->Prop):p_ G (yB t) σ H Q->L2.tB (pM G t) σ H Q:=GZ σ H Q
def jl{op:CmpOp}{r:mQ}(h:k8 X (compareOp op)<|dQ X.g3 r)(J:QE X a ta)(U:QE X b tb)(g:behindInMarks op b=false):QT X (.Compare a [op] [b] pos) (yB<|a9 r ta tb):=
 PT.imp (OW h J U g) λI H Q q=>by have j:=GZ I H Q q;obtain⟨l,L,o,p,t,z,k⟩:=j;exact FW I H _ ⟨l,L,o,p,t,z,k⟩
def xh(h:QE X e te)(I:∀whole,isTrue e X.env whole=(do let v <-whole;standAt e.pos;holding [v] (truthy v)):=by intro _;rfl):QT X e (yB te):=PT.imp (NO h I) II
def FX{f:Yc->Yc->Sem Yc}{C:Int->Int->Prop}{g:Int->Int->V}{g3:Int->Int->Y}(h:k8 X f<|rI C g)(e:∀i j H,RV X.g3 H (g3 i j)<|g i j):k8 X f (dQ X.g3<|yI C g3):=EW h λx y H Q J I L p U l o z k=>by
 cases J with
 |int i=>
  cases I with|int j=>exact⟨i,j,U,l,z.1,k _ H _ L (ED _) o (e i j H) z.2⟩|_=>exact z.elim
 |_=>cases I<;>exact z.elim
def FY{f:Yc->Yc->Sem Yc}{g:Int->Int->V}{g3:Int->Int->Y}(h:k8 X f<|w_ g)(e:∀i j H,RV X.g3 H (g3 i j)<|g i j):k8 X f (dQ X.g3<|t_ g3):=EW h λx y H Q J I L p U l o z k=>by
 cases J with
 |int i=>
  cases I with|int j=>exact⟨i,j,U,l,k _ H _ L (ED _) o (e i j H) z⟩|_=>exact z.elim
 |_=>cases I<;>exact z.elim
def aw:k8 X (binaryOp .Sub) (dQ X.g3<|t_ λi j=>.int<|i-j):=FY ON λ_ _ _=>rfl
def wV:k8 X (binaryOp .Mult) (dQ X.g3<|yI aig λi j=>.int<|i*j):=FX OO λ_ _ _=>rfl
def v4:k8 X (binaryOp .FloorDiv) (dQ X.g3<|yI GF λi j=>.int<|i / j):=FX OP λ_ _ _=>rfl
def jh:k8 X (binaryOp .Mod) (dQ X.g3<|yI (λ_ j=>0<j) λi j=>.int<|i % j):=FX OQ λ_ _ _=>rfl
def QX:k8 X (binaryOp .Pow) (dQ X.g3<|yI GG λi j=>.int<|i ^ j.toNat):=FX OR λ_ _ _=>rfl
def iJ:k8 X (compareOp .Lt) (dQ X.g3<|t_ λi j=>.bl<|decide<|i<j):=FY OT λ_ _ _=>rfl
def zC:k8 X (compareOp .LtE) (dQ X.g3<|t_ λi j=>.bl<|decide<|i<=j):=FY OU λ_ _ _=>rfl
def FZ:k8 X (compareOp .Gt) (dQ X.g3<|t_ λi j=>.bl<|decide<|j<i):=FY ast λ_ _ _=>rfl
def j7:k8 X (binaryOp .Add) (dQ X.g3 vJ):=EW Qi λx y H Q t J L Q3 U g I z k=>by
 cases t with
 |int i=>
  cases J with|int j=>cases U;cases g;exact k _ H _ L (ED _) I (by rfl) z|_=>exact z.elim
 |str i=>
  cases J with|str j=>cases U;cases g;exact⟨z.1,k _ H _ L (ED _) I (by rfl) z.2⟩|_=>exact z.elim
 |ref a=>
  cases J with
  |ref b=>
   cases U;cases g;obtain⟨ys,zs,C,T,hz,q⟩:=z;obtain⟨xs,h1,o⟩:=I a _ C;obtain⟨us,h2,r⟩:=I b _ T;refine⟨xs,us,h1,h2,by rw[<-o.length,<-r.length];exact hz,λp l=>?_⟩;exact k _ _ _ _ (EF l) (I.newL l<|o.app r) (by rfl)<|q p<|I.none l
  |_=>exact z.elim
 |_=>cases J<;>exact z.elim
def kU{kvs:List<|Str×Str}{k:Str}(h:kvs.lookup k=some x):cZ (kvs.map λp=>((Sum.inr p.1:ja),V.str p.2)) (Sum.inr k)=some (V.str x):=by
 induction kvs with
 |nil=>simp at h
 |cons p r I=>
  obtain⟨a,b⟩:=p;unfold cZ;rw[AD,BK];rw[Bu] at h;by_cases c:k=a
  ·subst c;simp at h;simp[h]
  ·have J:(k==a)=false:=by simpa using c
   rw[J] at h;have U:decide ((Sum.inr a:ja)=Sum.inr k)=false:=Ar λz=>c (E5 z).symm;simp only[U];exact I h
def rj{kvs:List<|ja×Y}{xs:List<|ja×V}{k:ja}(p:Paired (λ(p:ja×Y) (q:ja×V)=>p.1=q.1/\RV G H p.2 q.2) kvs xs)(h:aX kvs k=some y):∃x,cZ xs k=some x/\RV G H y x:=by
 induction p with
 |nil=>cases h
 |@cons a b _ _ r t U=>
  obtain⟨I,l⟩:=a;obtain⟨g,j⟩:=b;obtain⟨e,r⟩:=r;cases (show I=g from e);unfold aX at h;unfold cZ;rw[BK] at h ⊢;by_cases c:I=k
  ·have J:decide (I=k)=true:=Ax c;simp only[J] at h ⊢;cases h;exact⟨j,rfl,r⟩
  ·have J:decide (I=k)=false:=Ar c;simp only[J] at h ⊢;exact U h
def QY(K:Ah)(P:Ye)(w:Yg)(hK:X.K=K:=by rfl)(hP:X.prog=P:=by rfl)(hw:X.w=w:=by rfl):IxR X (dQ ⟨K,P,w⟩ h_):=by
 subst hK hP hw;refine IxR.imp Qj λx y H Q ⟨x3,j,L,Q3,I,l,o,z,k⟩=>?_;have seq:∀{i:Int} {x3:Y},RV X.g3 H x3 x->y=.int i->(iA L x3 λg=>c_ L Q3<|jU g i)->Iu X.K X.prog X.w x y H Q:=by
  intro i x3 I ey z;subst ey;obtain⟨g,es,z⟩:=wo z;obtain⟨p,C,e,sq,rv⟩:=tw o I es;subst e;cases ea:jU g i with
  |none=>rw[ea] at z;exact z.elim
  |some y=>
   rw[ea] at z;obtain⟨x,ex,T⟩:=QR rv ea;exact⟨C,x,sq,ex,k _ H _ L (ED _) o T z⟩
 cases x3 with
 |str s=>
  cases j with
  |int i=>
   cases I;cases l;obtain⟨z1,r⟩:=z;cases ea:jU s.cps.toList i with
   |none=>rw[ea] at r;exact r.elim
   |some c=>rw[ea] at r;exact⟨z1,c,ea,k _ H _ L (ED _) o (by rfl) r⟩
  |_=>exact z.elim
 |cd J=>
  cases j with
  |str s=>
   obtain⟨a,ea,kd⟩:=I;cases ea;cases l;have U:c_ L (λs L=>Q3 (.str s) L) (J.lookup s):=z;cases el:J.lookup s with
   |none=>rw[el] at U;exact U.elim
   |some t=>rw[el] at U;exact⟨_,_,.inr kd,kU el,k _ H _ L (ED _) o (by rfl) U⟩
  |int i=>exact z.elim
  |_=>exact z.elim
 |ref a=>
  cases j with
  |int i=>exact seq (x3:=.ref a) I l z
  |str s=>
   cases I;cases l;obtain⟨J,e,U⟩:=pO z;obtain⟨C,e2,pr⟩:=o a _ e;cases ev:aX J (Sum.inr s) with
   |none=>rw[ev] at U;exact U.elim
   |some y=>
    rw[ev] at U;obtain⟨x,ex,I⟩:=rj pr ev;exact⟨C,x,.inl<|.inl e2,ex,k _ H _ L (ED _) o I U⟩
  |_=>exact z.elim
 |tup g=>
  cases j with|int i=>exact seq (x3:=.tup g) I l z|_=>exact z.elim
 |sq g=>
  cases j with|int i=>exact seq (x3:=.sq g) I l z|_=>exact z.elim
 |_=>cases j<;>exact z.elim
def x8.inv1(h:x8 G H [y] xs):∃x,xs=[x]/\RV G H y x:=by obtain⟨x,I,e,r,s⟩:=h;cases (show I=[] from s);exact⟨x,e,r⟩
def x8.inv2{J:Y}(h:x8 G H [y,J] xs):∃x I,xs=[x,I]/\RV G H y x/\RV G H J I:=by obtain⟨x,U,e,r,s⟩:=h;obtain⟨I,g,j⟩:=s.inv1;exact⟨x,I,by rw[e,g],r,j⟩
def QZ(K:Ah)(P:Ye)(w:Yg)(g:X.K=K:=by rfl)(j:X.prog=P:=by rfl)(hw:X.w=w:=by rfl):zq X (.builtin "len") (b_ ⟨K,P,w⟩ E8):=by
 subst g j hw;refine EM Ql λC H Q l L T U I z k=>?_;unfold E8 at z;split at z
 ·obtain⟨x,rfl,r⟩:=U.inv1;cases r;exact⟨z.1,k _ H _ L (ED _) I (by rfl) z.2⟩
 ·rename_i y _;obtain⟨x,rfl,r⟩:=U.inv1;obtain⟨l,o,z⟩:=wo z;obtain⟨p,t,e,sq,J⟩:=tw I r o;subst e;refine⟨t,sq,?_⟩;rw[<-J.length];exact k _ H _ L (ED _) I (by rfl) z
 ·exact z.elim
def Q0(i j:Int):(if j > i then j else i)=max i j:=by split<;>lia
def Q1(i j:Int):(if j<i then j else i)=min i j:=by split<;>lia
def F1(hc:X.calm=true:=by rfl):zq X (.builtin "max") (b_ X.g3 E9):=EM (OX hc) λl H Q o L p I J z k=>by
 unfold E9 at z;split at z
 ·rename_i i j;obtain⟨x,r,rfl,U,g⟩:=I.inv2;cases U;cases g;refine⟨i,j,rfl,?_⟩;rw[Q0];exact k _ H _ L (ED _) J (by rfl) z
 ·exact z.elim
def zO(hc:X.calm=true:=by rfl):zq X (.builtin "min") (b_ X.g3 Fu):=EM (OY hc) λl H Q o L p I J z k=>by
 unfold Fu at z;split at z
 ·rename_i i j;obtain⟨x,r,rfl,U,g⟩:=I.inv2;cases U;cases g;refine⟨i,j,rfl,?_⟩;rw[Q1];exact k _ H _ L (ED _) J (by rfl) z
 ·exact z.elim
end
section
variable {a b:Expr}{tc:jp}
def eG{a:Addr}(J:zu G H L)(h:br L (.ref a)=some ys):∃xs,aH G.K H a xs/\x8 G H ys xs:=by
 have I:(match L a with|some (.lst ys)=>some ys|_=>none)=some ys:=h;split at I
 ·rename_i e;cases I;obtain⟨xs,U,q⟩:=J a _ e;exact⟨xs,EV U,q⟩
 ·cases I
def jP(I:zu G H L)(r:RV G H y v)(J:zT y=true)(h:br L y=some ys):∃a xs,v=.ref a/\aH G.K H a xs/\x8 G H ys xs:=by
 cases y with
 |ref a=>obtain⟨xs,s,q⟩:=eG I h;exact⟨a,xs,r,s,q⟩
 |sq U=>obtain⟨a,xs,e,s,q⟩:=r;cases h;exact⟨a,xs,e,s.sq,q⟩
 |_=>cases J
def Q2{G:G3}{T:lv}{σ:L2.St}(I:z0 X pins σ H s)(rl:zu X.g3 H L)(r:RV X.g3 H y v)(J:zm v u)(h:y_ L y=some T)
 {c:Yc} {b:Bool} (e:PySem.W.kitOne X.K (.type T.nm) c=some b) (U:∀tk,Q (.bool b) {s with toks:=tk}):
 wpAny (model X.prog X.w) A (call (.builtin "isinstance") [u,c]) Q E s:=by
 cases y with
 |non=>cases h;cases r;exact au I J .non e U
 |bl b=>cases h;cases r;exact au I J (.bl _) e U
 |int i=>cases h;cases r;exact au I J (.int _) e U
 |str x=>cases h;cases r;exact au I J (.str _) e U
 |tup ys=>
  cases h;obtain⟨a,j,rfl,sq,_⟩:=r;cases (show u=Value.ref a from J);obtain⟨l,_,⟨o,p,t,_⟩,_⟩:=I.tuple sq;exact Br Dz I.kIn ⟨o,p,t⟩ e (λz=>nomatch z) U
 |sq ys=>
  cases h;obtain⟨a,j,rfl,sq,_⟩:=r;cases (show u=Value.ref a from J);obtain⟨l,_,⟨o,n,p,t,_⟩,_⟩:=I.list sq.sq;exact Br CG I.kIn ⟨o,p,t⟩ e (λz=>nomatch z) U
 |ref a=>
  cases (show v=.ref a from r);have g:(match L a with|some (.lst _)=>some lv.list|some (.dct _)=>some .dict|_=>none)=some T:=h;split at g
  ·rename_i ys C;cases g;obtain⟨j,e2,_⟩:=rl a _ C;exact au I J (.lst e2) e U
  ·rename_i a0 C;cases g;obtain⟨j,e2,_⟩:=rl a _ C;exact au I J (.dK e2) e U
  ·cases g
 |_=>cases h
def ss(K:Ah):∀T S:lv,PySem.W.kitOne K (.type T.nm) (.type S.nm)=some (bS T S):=by intro T S;cases T<;>cases S<;>rfl
def Q4(G:G3)(S:lv):Yj->Hp->VK->Prop:=λxs H Q=>∃y v L I T,xs=[v,.ty S.nm]/\RV G H y v/\zu G H L/\y_ L y=some T/\I (.bl<|bS T S) L/\u7 G H I Q
def Q5(S:lv):zq X (.builtin "isinstance") (Q4 X.g3 S):=by rintro J s o H p t Q I r⟨y,v,L,C,T,rfl,g,U,ty,q,k⟩;obtain⟨u,c,rfl,j,l⟩:=zk.two r;cases (show c=Value.type S.nm from l);exact j4 I.tk<|Q2 (G:=X.g3) I U g j ty (ss _ T S) λtk ht=>⟨.bl _,H,I.tok _,rfl,k _ H _ L (ED _) U (by rfl) q⟩
def w6{I:Str}(S:lv)(t:Gl X "isinstance")(C:X.mg "isinstance"=none)(J:Gl X I)(U:X.mg I=none)(g:bootBuiltins I=some (.type S.nm))(ha:QE X a ta)
 (hn:I ≠ "__name__" := by decide) (hd:(I==("__debug__" : Str))=false:=by decide)
 (hs:starEach [a,.Name I p1] X.env=(false,eval a X.env)::starEach [.Name I p1] X.env:=by rfl) (j:starEach [.Name I p1] X.env=(false,eval (.Name I p1) X.env)::starEach [] X.env:=by rfl)
 (hp:(backTo pos<|starEach [.Name I p1] X.env).any (·.1)=false:=by rfl):
 QE X (.Call (.Name "isinstance" p) [a,.Name I p1] [] pos) (IA S ta):=by
 refine ES (ny (Q5 S) t C fe (aR ha (aR (GQ J U g hn hd) fq j) hs) (by decide) (by decide) hs hp) ?_;rintro σ H Q ⟨τ,L,Q3,rs,rl,z,k⟩;refine⟨τ,L,_,rs,rl,z,λv H1 y L1 t1 l o r=>?_⟩;obtain⟨T,et,r⟩:=ur r;exact⟨y,v,L1,Q3,T,rfl,o,l,et,r,k.ts t1⟩
def xR(neg:Bool)(x y:Y)(L:qi)(Q:YK):Prop:=iA L y λys=>fY x=true/\ys.all fY=true/\Q (.bl<|nb neg<|xG (fS x)<|ys.map fS) L
def IJ(neg:Bool){op:CmpOp}(h:k8 X (compareOp op)<|GL X.K neg):k8 X (compareOp op) (dQ X.g3<|xR neg):=EW h λx y H Q I t L C g j U z k=>by
 obtain⟨J,l,f1,f2,q⟩:=wo z;obtain⟨p,T,e,sq,o⟩:=tw U j l;rw[g.flat f1];rw[o.flat f2] at sq;refine⟨p,_,e,sq,iZ f1,?_,?_⟩
 ·rw[List.all_map,BV];intro y r;exact iZ<|BV.mp f2 y r
 ·have:(if neg=true then !xG (fS I) (J.map fS) else xG (fS I) (J.map fS))=(nb neg<|xG (fS I)<|J.map fS):=by cases neg<;>simp[nb]
  rw[this];exact k _ H _ L (ED _) U (by rfl) q
def IK(K:Ah)(P:Ye)(w:Yg)(I:X.K=K:=by rfl)(J:X.prog=P:=by rfl)(hw:X.w=w:=by rfl):k8 X (compareOp .In) (dQ ⟨K,P,w⟩<|xR false):=by subst I J hw;exact IJ false PX
def oZ(K:Ah)(P:Ye)(w:Yg)(I:X.K=K:=by rfl)(J:X.prog=P:=by rfl)(hw:X.w=w:=by rfl):k8 X (compareOp .NotIn) (dQ ⟨K,P,w⟩<|xR true):=by subst I J hw;exact IJ true sN
theorem jd.rep{G:G3}{H:Hp}{L:qi}(j:zu G H L):∀{n:Nat} {y:Y} {d:Da} {v:V},jd L n y d->RV G H y v->aK G.K H n v d
 |0,y,d,v,⟨f,e⟩,r=>by rw[r.flat f];exact⟨e,iZ f⟩
 |n+1,y,d,v,h,r=>by
  have both:∀{U:List Y} {J:List Da} {I:Yj},Paired (jd L n) U J->x8 G H U I->Paired (aK G.K H n) I J:=by
   intro U J I p
   induction p generalizing I with
   |nil=>intro r;cases (show I=[] from r);exact .nil
   |cons q t l=>
    rintro⟨x,o,rfl,C,T⟩;exact .cons (jd.rep j q C)<|l T
  rcases h with⟨f,e⟩|⟨U,J,rfl,rfl,p⟩|⟨U,J,hy,rfl,es,p⟩
  ·rw[r.flat f];exact .inl ⟨e,iZ f⟩
  ·obtain⟨a,I,rfl,sq,g⟩:=r;exact .inr<|.inl ⟨a,I,J,rfl,rfl,sq,both p g⟩
  ·obtain⟨a,I,rfl,sq,g⟩:=jP j r hy es;exact .inr<|.inr ⟨a,I,J,rfl,rfl,sq,both p g⟩
def IL(h:Fa y=true)(r:RV G H y v):∃a,v=.ref a:=by
 cases y with
 |ref a=>exact⟨a,r⟩
 |tup I=>obtain⟨a,J,e,_⟩:=r;exact⟨a,e⟩
 |sq I=>obtain⟨a,J,e,_⟩:=r;exact⟨a,e⟩
 |_=>cases h
def IM(neg:Bool)(K:Ah)(P:Ye)(w:Yg)(g:X.A.units+128<cLine)(l:X.K=K)(o:X.prog=P)(hw:X.w=w):k8 X (compareOp<|FK neg) (dQ ⟨K,P,w⟩<|l_ neg):=by
 subst l o hw;refine EW (Qn neg g) λx y H Q x3 y3 L r J U I z k=>?_;have t:∀{p q:Prop} [Decidable p] [Decidable q],(p↔q)->Fn neg (decide p)=nb neg (decide q):=λh=>by rw[decide_eq_decide.mpr h];cases neg<;>rfl
 unfold l_ at z;split at z
 any_goals
  rename_i i j;cases J;cases U;refine⟨rfl,?_⟩;rw[t (q:=i=j) (by simp)];exact k _ H _ L (ED _) I (by rfl) z
 obtain⟨f1,f2,n,m,d,e,C,T,h2,q⟩:=z;obtain⟨a,rfl⟩:=IL f1 J;obtain⟨b,rfl⟩:=IL f2 U;have q:r (.bl<|Fn neg<|Da.eq d e) L:=by cases neg<;>exact q
 exact⟨n,m,d,e,C,T.rep I J,h2.rep I U,k _ H _ L (ED _) I (by rfl) q⟩
def dH(K:Ah)(P:Ye)(w:Yg)(I:X.A.units+128<cLine)(J:X.K=K:=by rfl)(U:X.prog=P:=by rfl)(hw:X.w=w:=by rfl):k8 X (compareOp .Eq) (dQ ⟨K,P,w⟩<|l_ false):=IM false K P w I J U hw
def IP(K:Ah)(P:Ye)(w:Yg)(I:X.A.units+128<cLine)(J:X.K=K:=by rfl)(U:X.prog=P:=by rfl)(hw:X.w=w:=by rfl):k8 X (compareOp .NotEq) (dQ ⟨K,P,w⟩<|l_ true):=IM true K P w I J U hw
def RV.non_iff(r:RV G H y v):decide (v=.non)=(match y with|.non=>true|_=>false):=by
 cases y with
 |non=>cases r;rfl
 |cd I=>obtain⟨a,rfl,_⟩:=r;rfl
 |tup J=>obtain⟨a,U,rfl,_⟩:=r;rfl
 |sq J=>obtain⟨a,U,rfl,_⟩:=r;rfl
 |_=>cases r;rfl
def IQ(σ:L2.St)(H:Hp)(Q:VK):pM G (oz false ta) σ H Q->HF (pM G ta) σ H Q:=λ⟨U,L,t,g,j,z,k⟩=>
 ⟨U,L,_,g,j,z,λv l y o p I J r=>by dsimp only;rw[J.non_iff];cases y<;>exact k _ l _ o p I (by rfl) r⟩
def zZ(σ:L2.St)(H:Hp)(Q:VK):pM G (oz true ta) σ H Q->HG (pM G ta) σ H Q:=λ⟨U,L,t,g,j,z,k⟩=>
 ⟨U,L,_,g,j,z,λv l y o p I J r=>by dsimp only;rw[J.non_iff];cases y<;>exact k _ l _ o p I (by rfl) r⟩
def Q6(h:QE X a ta):QE X (.Compare a [.Is] [.Constant .none j fy] pos) (oz false ta):=ES (HJ<|HH h) IQ
def mV(h:QE X a ta):QE X (.Compare a [.IsNot] [.Constant .none j fy] pos) (oz true ta):=ES (HJ<|HI h) zZ
def IR{t:TE}(h:∀σ H Q,pM G te σ H Q->t σ H Q)(σ:L2.St)(H:Hp)(Q:Bool->Hp->Prop):p_ G (yB te) σ H Q->L2.tB t σ H Q:=λq=>h σ H _<|II σ H Q q
def nS(h:QE X a ta):QT X (.Compare a [.Is] [.Constant .none j fy] pos) (yB<|oz false ta):=PT.imp (HK<|HH h)<|IR IQ
def m9(h:QE X a ta):QT X (.Compare a [.IsNot] [.Constant .none j fy] pos) (yB<|oz true ta):=PT.imp (HK<|HI h)<|IR zZ
end
section
variable {a b:Expr}{rest:X5}{tc:jp}{tB:iT}
def va(h:QT X a tA):QW X (.BoolOp .And [a] pos) tA:=NS h
def cg(h:QT X a tA):QW X (.BoolOp .Or [a] pos) tA:=NT h
def wc(h:QT X a tA)(k:QW X (.BoolOp .And (b::rest) pos) tB):QW X (.BoolOp .And (a::b::rest) pos) (qB tA tB):=PW.imq (NU h k) λt H Q U L o g p z k=>
 ⟨U,L,_,g,p,z,λc r j J I l=>by cases c with|true=>rw[AF rfl];exact⟨U,j,o,g.ts J,I,l,k.ts J⟩|false=>rw[AA AL];exact k _ r j J I l⟩
def im(h:QT X a tA)(k:QW X (.BoolOp .Or (b::rest) pos) tB):QW X (.BoolOp .Or (a::b::rest) pos) (GY tA tB):=PW.imq (NV h k) λt H Q U L o g p z k=>
 ⟨U,L,_,g,p,z,λc r j J I l=>by cases c with|true=>rw[AF rfl];exact k _ r j J I l|false=>rw[AA AL];exact⟨U,j,o,g.ts J,I,l,k.ts J⟩⟩
def vn(h:QW X a tA):QT X a tA:=PW.pt h
def bQ(h:QT X a tA):QT X (.UnaryOp .Not a pos) (FR tA):=PT.imq (NW h) λr H Q J L t U g z k=>
 ⟨J,L,_,U,g,z,λc j l o I p=>k _ j l o I p⟩
def aP{op:BoolOp}(h:QE X a ta):QE X (.BoolOp op [a] pos) ta:=NZ h
def we(h:QE X a ta)(k:QE X (.BoolOp .And (b::rest) pos) tb):QE X (.BoolOp .And (a::b::rest) pos) (QH ta tb):=EH (N0 h k) λT H Q U L g o t z k=>
 ⟨U,L,_,o,t,z,λv C y J j I l p=>by
  cases y with
  |bl c=>
   refine⟨c,l,?_⟩;have r:wb c (tb U J g) (g (.bl false) J):=p;cases c with|true=>rw[AF rfl];exact⟨U,J,g,o.ts j,I,r,k.ts j⟩|false=>rw[AA AL];exact k _ C _ J j I (by rfl) r
  |_=>exact p.elim⟩
def Q7(h:QE X a ta)(k:QE X (.BoolOp .Or (b::rest) pos) tb):QE X (.BoolOp .Or (a::b::rest) pos) (QJ ta tb):=EH (N5 h k) λT H Q U L g o t z k=>
 ⟨U,L,_,o,t,z,λv C y J j I l p=>by
  cases y with
  |bl c=>
   refine⟨c,l,?_⟩;have r:wb c (g (.bl true) J) (tb U J g):=p;cases c with|true=>rw[AF rfl];exact k _ C _ J j I (by rfl) r|false=>rw[AA AL];exact⟨U,J,g,o.ts j,I,r,k.ts j⟩
  |_=>exact p.elim⟩
def dX(h:QT X c tA)(p:QE X a ta)(r:QE X b tb):QE X (.IfExp c a b pos) (FT tA ta tb):=EH (N7 h p r) λC H Q U L j g t z k=>
 ⟨U,L,_,g,t,z,λc T l J I o=>by cases c with|true=>rw[AF rfl];exact⟨U,l,j,g.ts J,I,o,k.ts J⟩|false=>rw[AA AL];exact⟨U,l,j,g.ts J,I,o,k.ts J⟩⟩
def x9:QA X [] jn:=PA.imq fq λJ H Q U L g j I z k=>k _ H _ L (ED _) I (by rfl) z
def xl(h:QE X e te)(t:QA X es tr)(hs:Eu e es X:=by rfl):QA X (e::es) (qr te tr):=PA.imq (aR h t hs) λσ H Q j L Q3 l C z k=>
 ⟨j,L,_,l,C,z,λv H1 y T o I J z1=>⟨j,T,_,l.ts o,I,z1,λp H2 ys L2 r U g z2=>k (v::p) H2 (y::ys) L2 (o.trans r) U ⟨v,p,rfl,J.ts r,g⟩ z2⟩⟩
def zf(h:QA X es tr):QE X (.Tuple es x1 pos) (cX tr):=EH (HZ h) λσ H Q l L Q3 o r z k=>
 ⟨l,L,_,o,r,z,λt H1 j C T U I J=>by
  cases e:Nat.ble j.length 1000 with
  |false=>rw[e] at J;exact J.elim
  |true=>
   rw[e] at J;have:=Dl e;refine⟨dY (by rw[<-I.length];exact this),λp g=>?_⟩;exact k _ _ (.tup j) C (T.trans<|EF g) (U.skip g) ⟨p,t,rfl,dS.of j6,I.ts<|EF g⟩ J⟩
def zc(h:QA X es tr):QE X (.List es pos) (gd tr):=EH (O9 h) λC H Q j L T l o z k=>
 ⟨j,L,_,l,o,z,λvs H1 r L1 t I J U=>by
  cases e:Nat.ble r.length 1000 with
  |false=>rw[e] at U;exact U.elim
  |true=>
   rw[e] at U;have:=Dl e;refine⟨dY (by rw[<-J.length];exact this),λp g=>?_⟩;exact k _ _ _ _ (t.trans<|EF g) (I.newL g J) (by rfl)<|U p<|I.none g⟩
def zy{id:Yi}{r:List Y->qi->YK->Prop}(hc:zq X (.builtin id)<|b_ X.g3 r)(U:Gl X x)(g:X.mg x=none)(j:bootBuiltins x=some (.builtin id))(h:QA X (e::es) tr)
 (l:x ≠ "__name__" := by decide) (hd:Ex x:=by decide) (hs:Eu e es X:=by rfl) (o:Ew pos es X:=by rfl):
 QE X (.Call (.Name x p) (e::es) [] pos) (rD r tr):=EH (ny hc U g j h l hd hs o) λσ H Q t L C T rl z k=>
 ⟨t,L,_,T,rl,z,λvs H1 ys L1 t1 I J z1=>⟨ys,L1,C,J,I,z1,k.ts t1⟩⟩
def IS(G:G3)(t:Fw):TO:=λσ H Q=>∃τ L I,xo G H σ τ/\zu G H L/\t τ L I/\∀(o:X9) H' L',j5 H H'->zu G H' L'->I o L'->Q o H'
abbrev QO(X:Cx)(e:Option Expr)(t:Fw):Prop:=PO X e<|IS X.g3 t
def PO.imp{e:Option Expr}{t u:TO}(h:PO X e t)(q:∀σ H Q,u σ H Q->t σ H Q):PO X e u:=λJ s σ H Q I z=>h J s σ H Q I<|q σ H Q z
def PO.imq{e:Option Expr}{t:TO}{u:Fw}(h:PO X e t)(q:∀σ H Q τ L I,xo G H σ τ->zu G H L->u τ L I->(∀(o:X9) H' L',j5 H H'->zu G H' L'->I o L'->Q o H')->t σ H Q):PO X e (IS G u):=PO.imp h λσ H Q ⟨τ,L,I,a,b,c,d⟩=>q σ H Q τ L I a b c d
def uP.imp{U:V->X9->X9->Hp->VK->Prop}(h:uP X r)(q:∀x lo hi H Q,U x lo hi H Q->r x lo hi H Q):uP X U:=by intro J s g H x v j l lo hi o Q I p t C T z;exact h J s g H x v j l lo hi o Q I p t C T<|q _ _ _ _ _ z
def aE:QO X none QK:=PO.imq Pu λJ H Q U L g j I z k=>k _ H L (ED _) I z
def w5(h:QE X e te):QO X (some e) (arm te):=PO.imq (Pw h) λt H Q g L C j l z k=>
 ⟨g,L,_,j,l,z,λv o y p r I J U=>by cases y with|int i=>exact⟨i,J,k _ o p r I U⟩|_=>exact U.elim⟩
def F2(G:G3)(r:Y->X9->X9->qi->YK->Prop):V->X9->X9->Hp->VK->Prop:=λx lo hi H Q=>∃y L I,RV G H y x/\zu G H L/\r y lo hi L I/\u7 G H I Q
def vq{lo hi:Option Expr}{tl th:Fw}{r:Y->X9->X9->qi->YK->Prop}(h:uP X<|F2 X.g3 r)(T:QE X a ta)(hl:QO X lo tl)(hh:QO X hi th):QE X (.Subscript a (.Slice lo hi none p2) pos) (QL r ta tl th):=
 EH (Py h T hl hh) λσ H Q I L Q3 J rl z k=>
 ⟨I,L,_,J,rl,z,λv H1 y L1 U g j z1=>⟨I,L1,_,J.ts U,g,z1,λo H2 L2 l p z2=>⟨I,L2,_,J.ts<|U.trans l,p,z2,λo' H3 L3 C t z3=>⟨y,L3,Q3,j.ts<|l.trans C,t,z3,k.ts<|U.trans<|l.trans C⟩⟩⟩⟩
def sv(r:x8 G H ys xs)(lo hi:X9):x8 G H (fw ys lo hi) (xA xs lo hi):=by unfold fw xA;rw[r.length];exact(r.drop _).take _
def Q8(K:Ah)(P:Ye)(w:Yg)(l:X.K=K:=by rfl)(o:X.prog=P:=by rfl)(hw:X.w=w:=by rfl):uP X (F2 ⟨K,P,w⟩ IB):=by
 subst l o hw;refine uP.imp PV λx lo g H Q ⟨y,L,Q3,j,J,z,k⟩=>?_;cases y with
 |ref a=>
  obtain⟨t,C,T⟩:=xb z;obtain⟨U,sq,r⟩:=eG J<|wx C;exact⟨a,U,j,sq,λp I=>k _ _ _ _ (EF I) (J.newL I<|sv r lo g) (by rfl)<|T p<|J.none I⟩
 |sq t=>
  obtain⟨a,U,e,sf,r⟩:=j;exact⟨a,U,e,sf.sq,λp I=>k _ _ _ _ (EF I) (J.newL I<|sv r lo g) (by rfl)<|z p<|J.none I⟩
 |_=>exact z.elim
end
section
variable {a b iter:Expr}{tc:jp}{tB:iT}{rest pj:X6}{t u:dR}
def qt:d_ X [] fT:=mH.imq Oa λD U H g L j I J z k=>k.nx _ H _ L (ED _) I J z
def qc(h:QS X st t):d_ X [st] t:=Oc h
def qa(h:QS X st t)(k:d_ X rest u):d_ X (st::rest) (xa t u):=mH.imq (uT h k) λD σ H j L I l o z k=>
 ⟨j,L,{I with nx:=u I},l,o,z,λp H1 J r C U g T=>⟨J,r,I,U,g,T,k.ts C⟩,k.rt,k.bk,k.ct⟩
def vE:QS X (.Continue pos) QM:=EJ vF λD U H g L j I J z k=>k.ct _ H _ L (ED _) I J z
def qw(h:QE X e te)(hs:swapsWith e none pos.line X.env=pure false:=by rfl):QS X (.Expr e pos) (aA te):=EJ (Of h hs) λD t H g L C J j z k=>
 ⟨g,L,_,J,j,z,λv l y o U I p r=>k.nx _ l _ o U (J.ts U) I r⟩
def qm(h:QE X e te):QS X (.Return (some e) pos) (oG te):=EJ (Oh h) λD g H I L j J U z k=>⟨I,L,_,J,U,z,k.rt⟩
def IT:QS X (.Return none pos) IC:=EJ Oj λD J H U L g j I z k=>k.rt _ H _ L (ED _) I (by rfl) z
def ze(h:QT X c tA)(p:d_ X body t)(r:d_ X pj u):QS X (.If c body pj pos) (fO tA t u):=EJ (Om h p r) λD T H U L j g C z k=>
 ⟨U,L,_,g,C,z,λc H1 l J I o=>by cases c with|true=>rw[AF rfl];exact⟨U,l,j,g.ts J,I,o,k.ts J⟩|false=>rw[AA AL];exact⟨U,l,j,g.ts J,I,o,k.ts J⟩⟩
def aa(hN:X.N.Nodup)(I:X.N[i]?=some x)(r:Loc X.env.scope x)(h:QE X e te)(J:swapsWith e (some<|.Name x fy) pos.line X.env=pure false:=by rfl)
 (U:X.fn x=true\/X.env.scope.names.lookup x=some .local:=by first|exact .inl rfl|exact .inr rfl|assumption):QS X (.Assign [.Name x fy] e pos) (vo te<|qp i):=EJ (Oq hN I r h J U) λD σ H l L D3 o t z k=>
 ⟨l,L,_,o,t,z,λv C y T p g j z1=>k.nx _ C _ T p (show xo _ _ _ (ai l i y) by rw[w9];exact(o.ts p).set j) g z1⟩
def fj(h:QE X e te)(o:QG X tg g)(h1:swapsWithSole [tg] e pos.line X.env=pure false:=by rfl)(h2:swappedStores [tg] e X.env=pure none:=by rfl)
 (p:(assignEach [tg] X.env).map (·.2)=[assign tg X.env]:=by rfl):QS X (.Assign [tg] e pos) (vo te g):=EJ (HQ h o h1 h2 p) λD T H U L D3 j r z k=>
 ⟨U,L,_,j,r,z,λv H1 y t l I J C=>⟨y,U,t,_,J,j.ts l,I,C,k.nx.ts l⟩⟩
def PG.imp{t u:TG}(h:PG X e t)(q:∀v σ H Q,u v σ H Q->t v σ H Q):PG X e u:=λJ s σ H x v Q I r z=>h J s σ H x v Q I r<|q _ _ _ _ z
def PGs.imp{e:X5}{t u:k_}(h:PGs X e t)(q:∀v σ H Q,u v σ H Q->t v σ H Q):PGs X e u:=λJ s σ H x v Q I r z=>h J s σ H x v Q I r<|q _ _ _ _ z
def mo(hN:X.N.Nodup)(I:X.N[i]?=some x)(U:Loc X.env.scope x)(J:X.fn x=true\/X.env.scope.names.lookup x=some .local:=by first|exact .inl rfl|exact .inr rfl|assumption):QG X (.Name x pos) (qp i):=
 PG.imp (mS hN I U J) λv p H Q ⟨y,g,L,r,j,l,o,z,k⟩=>k _ H _ L (ED _) (show xo _ _ _ (ai g i y) by rw[w9];exact l.set j) o z
def x4:Fx X [] dF:=PGs.imp HM λj l H Q ⟨I,o,L,p,J,U,g,z,k⟩=>by cases I with|nil=>exact⟨J,k _ H _ L (ED _) U g z⟩|cons y r=>exact z.elim
def qz(h:QG X e g)(hs:Fx X es gs)(l:(assignEach (e::es) X.env).map (·.2)=assign e X.env::(assignEach es X.env).map (·.2):=by rfl):Fx X (e::es) (jx g gs):=
 PGs.imp (og h hs l) λvs σ H Q ⟨o,p,L,t,C,T,rl,z,k⟩=>by
 cases o with
 |nil=>exact z.elim
 |cons y r=>
  obtain⟨x,xs,rfl,r1,r2⟩:=C;exact⟨x,xs,rfl,y,p,L,_,r1,T,rl,z,λa0 H1 I L1 j J U z1=>⟨r,I,L1,t,r2.ts j,J,U,z1,k.ts j⟩⟩
def vz{j n:Nat}(hc:X.calm=true)(h:Fx X es gs)(h1:(assignEach es X.env).length=n:=by rfl)(h2:(assignEach es X.env).findIdx? (·.1)=none:=by rfl):QG X (.Tuple es j pos) (f8 n gs):=
 PG.imp (HN hc h h1 h2) λv C H Q ⟨y,U,L,g,l,o,p,z,k⟩=>by
 cases y with
 |tup I=>
  obtain⟨a,t,rfl,sq,r⟩:=l;have J:(match I.length==n with|true=>gs I U L g|false=>False):=z;split at J
  ·rename_i e;exact⟨a,t,rfl,sq,by rw[<-r.length];exact beq_iff_eq.mp e,I,U,L,g,r,o,p,J,k⟩
  ·exact J.elim
 |_=>exact z.elim
def IU{y:Str}{px pt:Pos}{J:Nat}{I:Pos}(hc:X.calm=true)(hN:X.N.Nodup)(hi:X.N[i]?=some x)(C:X.N[j]?=some y)(U:i≠j)(T:X.env.scope.names.lookup x=some .local)(ly:X.env.scope.names.lookup y=some .local)
 (h:QA X [a,b] tr) (h1:swappedStores [.Tuple [.Name x px,.Name y py] kt pt] (.Tuple [a,b] J I) X.env=pure (some [x,y])) (h2:swapsWithSole [.Tuple [.Name x px,.Name y py] kt pt] (.Tuple [a,b] J I) pos.line X.env=pure false:=by rfl):
 QS X (.Assign [.Tuple [.Name x px,.Name y py] kt pt] (.Tuple [a,b] J I) pos) (ID i j tr):=EJ (Ou hc hN hi C U T ly h h1 h2) λD σ H p L D3 r rl z k=>
 ⟨p,L,_,r,rl,z,λvs H1 ys L1 t g l o=>by
  split at o
  ·rename_i v w;obtain⟨x',y',rfl,r1,r2⟩:=l.inv2;exact⟨x',y',rfl,k.nx _ H1 _ L1 t (show xo _ _ _ (ai (ai p i v) j w) by rw[w9,w9];exact((r.ts t).set r1).set r2) g o⟩
  ·exact o.elim⟩
def Q9{op:Operator}{f:Int->Int->Int}(h:E4 X op<|HR f):E4 X op (dQ X.g3<|IE f):=λJ s g H x y v u Q I l o ⟨p,U,L,T,r,t,C,z,k⟩=>by
 refine h J s g H x y v u Q I l o ?_;cases p with
 |int i=>
  cases U with|int j=>exact⟨i,j,r,t,k _ H _ L (ED _) C (by rfl) z⟩|_=>exact z.elim
 |_=>cases U<;>exact z.elim
def Ra{op:Operator}{r:mQ}(hN:X.N.Nodup)(I:X.N[i]?=some x)(T:Loc X.env.scope x)(h:QE X e te)(hp:E4 X op<|dQ X.g3 r)
 (J:X.fn x=true\/X.env.scope.names.lookup x=some .local:=by first|exact .inl rfl|exact .inr rfl|assumption):QS X (.AugAssign (.Name x fy) op e pos) (IF i te r):=EJ (Ow hN I T h hp J) λD σ H t L D3 U rl z k=>by
 unfold IF at z;split at z
 ·rename_i y ey;obtain⟨v,ev,rv⟩:=U.get i y<|mY _ _ ey;exact⟨v,ev,t,L,_,U,rl,z,λv1 H1 y1 L1 g j l z1=>⟨y,y1,L1,_,rv.ts g,l,j,z1,λv2 H2 y2 L2 C o p z2=>
   k.nx _ H2 _ L2 (g.trans C) (show xo _ _ _ (ai t i y2) by rw[w9];exact(U.ts<|g.trans C).set p) o z2⟩⟩
 ·exact z.elim
def iM(hp:PassesOwn (model X.prog X.w) X.A X.env X.xe)(h:QT X c tA)(hb:d_ X body t):QS X (.While c body [] pos) (IH tA t):=PS.imp (Oz hp h hb) λD σ H ⟨τ,L,D3,rs,rl,⟨W,⟨m0,w0⟩,turn⟩,k⟩=>by
 refine⟨λm r H1=>∃J C,j5 H H1/\xo X.g3 H1 r J/\zu X.g3 H1 C/\W m J C,⟨m0,τ,L,ED _,rs,rl,w0⟩,?_⟩;rintro m r H1 ⟨J,C,t1,l,a1,w1⟩;refine⟨J,C,_,l,a1,turn m J C w1,λb H2 L2 T a0 z2=>?_⟩;cases b with
 |false=>rw[AA AL];exact k.nx _ H2 _ L2 (t1.trans T) (l.ts T) a0 z2
 |true=>
  rw[AF rfl];obtain⟨N,hN,z2⟩:=z2;refine⟨λU g=>∃I j,j5 H g/\xo X.g3 g U I/\zu X.g3 g j/\N I j,?_,?_⟩
  ·rintro U g ⟨I,j,t',o,p,n'⟩;obtain⟨m',hm,w'⟩:=hN I j n';exact⟨m',hm,I,j,t',o,p,w'⟩
  ·have nx:pV X.g3 H2 (iP N) (λU g=>∃I j,j5 H g/\xo X.g3 g U I/\zu X.g3 g j/\N I j):=λU g I j t' o p ⟨L5,s5,n'⟩=>⟨I,L5,(t1.trans T).trans t',o,p.sub s5,n'⟩;have k2:=k.ts<|t1.trans T;exact⟨J,L2,_,l.ts T,a0,z2,nx,k2.rt,k2.nx,nx⟩
def vv{wi:x_}(hp:PassesOwn (model X.prog X.w) X.A X.env X.xe)(hc:X.calm=true)(hi:QI X tg iter wi)(hg:QG X tg g)(hb:d_ X body t)(hs:∀x,foldedSetIterable iter X.env x=pure x:=by intro _;rfl):
 QS X (.For tg iter body [] pos) (zD wi g t):=EJ (OK hp hc hi hg hb hs) λD σ H τ L D3 rs rl z k=>by
 refine⟨τ,L,_,rs,rl,z,λJ H1 r keep L1 t1 a2 yl zz=>?_⟩;obtain⟨W,w0,wk,turn,jw⟩:=QN zz;refine⟨λi m U j=>∃I o,i+m=r.length/\j5 H1 j/\xo X.g3 j U I/\zu X.g3 j o/\W i I o,⟨r.length,τ,L1,by omega,ED _,rs.ts t1,a2,w0⟩,?_⟩;rintro i m al H2 ⟨l,L2,aL,t2,a0,p,w2⟩;by_cases a1:i<r.length
 ·refine .inr ⟨yl.go i H2 L2 t2 p (wk i l L2 w2) a1,λU j=>∃I o,j5 H1 j/\xo X.g3 j U I/\zu X.g3 j o/\W (i+1) I o,?_,?_⟩
  ·rintro U j ⟨I,o,t',C,T,w'⟩;exact⟨m-1,by omega,I,o,by omega,t',C,T,w'⟩
  ·intro x H3 y3;have ey:r[i]?=some r[i]:=Ag a1;obtain⟨t3,a3,a4⟩:=yl.yld i H2 L2 x H3 _ t2 p (wk i l L2 w2) ey y3;refine⟨r[i],l,L2,_,a4,a0.ts t3,a3,turn i _ l L2 ey w2,λba H4 a5 L4 t4 ab ac z4=>?_⟩;have nx:pV X.g3 H4 (iP<|W<|i+1) (λU j=>∃I o,j5 H1 j/\xo X.g3 j U I/\zu X.g3 j o/\W (i+1) I o):=λU j I o t' C T ⟨L5,s5,n'⟩=>⟨I,L5,((t2.trans t3).trans t4).trans t',C,T.sub s5,n'⟩;have k2:=k.ts<|t1.trans<|(t2.trans t3).trans t4;exact⟨a5,L4,_,ab,ac,z4,nx,k2.rt,k2.nx,nx⟩
 ·have e:i=r.length:=by omega
  subst e;exact .inl ⟨yl.stop H2 L2 t2 p<|wk _ l L2 w2,k.nx _ H2 _ L2 (t1.trans t2) a0 p<|jw l L2 w2⟩
def PI.imp{t u:TI}(h:PI X tg e t)(q:∀σ H Q,u σ H Q->t σ H Q):PI X tg e u:=λJ s σ H Q I z=>h J s σ H Q I<|q σ H Q z
def PI.imq{t:TI}{u:x_}(h:PI X tg e t)(q:∀σ H R τ L I,xo G H σ τ->zu G H L->u τ L I->(∀J H' ys keep L',j5 H H'->zu G H' L'->dU G H' J ys keep->I ys keep L'->R J H')->t σ H R):PI X tg e (GV G u):=PI.imp h λσ H R ⟨τ,L,I,a,b,c,d⟩=>q σ H R τ L I a b c d
def kR{a:Addr}{keep:qi->Prop}(h:∀H L,j5 H₀ H->zu G H L->keep L->∃xs,aH G.K H a xs/\x8 G H ys xs):dU G H₀ (GA G.K a) ys keep where
 go:=λi H L t I J U=>by
  obtain⟨xs,sq,r⟩:=h H L t I J;have:i<xs.length:=by rw[<-r.length];exact U
  exact⟨xs,xs[i],sq,Ag this⟩
 yld:=λi H L x o y t I J g ⟨e,f⟩=>by subst e;obtain⟨xs,sq,r⟩:=h _ L t I J;obtain⟨p,j,l⟩:=r.get g;have:=f xs sq;rw[j] at this;cases this;exact⟨ED _,I,l⟩
 stop:=λH L t I J=>by obtain⟨xs,sq,r⟩:=h H L t I J;exact⟨xs,sq,by rw[r.length];exact Ak _⟩
def j9(h:QE X e te):QI X tg e (cz te):=PI.imq (OD h) λσ H R τ L R3 rs l z k=>by
 refine⟨τ,L,_,rs,l,z,λv g y o C I U p=>?_⟩;cases y with
 |ref a=>
  obtain⟨j,keep,es,kp,hk,z2⟩:=vA p;have T:∀H L,j5 g H->zu X.g3 H L->keep L->∃J,aH X.K H a J/\x8 X.g3 H j J:=λH L _ l e=>eG l<|hk L e;obtain⟨J,sq,_⟩:=T g o (ED _) I kp;exact⟨a,U,⟨J,sq⟩,k _ g j _ o C I (kR T) z2⟩
 |sq j=>
  obtain⟨a,J,e,sf,r⟩:=U;exact⟨a,e,⟨J,sf.sq⟩,k _ g j (λ_=>True) o C I (kR λH L t _ _=>⟨J,(sf.ts t).sq,r.ts t⟩) p⟩
 |_=>exact p.elim
def wE(lo:Int)(n:Nat):dU G H₀ (Fl lo n) (af lo n) (λ_=>True) where
 go:=λi H L t J g j=>show i<n by simpa[af] using j
 yld:=λi H L x l y t J g U ⟨e,f⟩=>by
  subst e f;refine⟨ED _,J,?_⟩;unfold af at U;rw[Ai] at U;obtain⟨z,I,e⟩:=Am.mp U;have:=List.getElem?_range (i:=i) (n:=n) (by
   by_cases c:i<n
   ·exact c
   ·rw[Cb (by simp;omega)] at I;cases I)
  rw[this] at I;cases I;subst e;rfl
 stop:=λH L t J g=>by simp[af,Fl]
def bY(g:Gl X "range")(l:X.mg "range"=none)(h:QA X [a] tr)(hs:starEach [a] X.env=[(false,eval a X.env)]:=by rfl):QI X tg (.Call (.Name "range" p) [a] [] pos) (zJ tr):=
 PI.imq (OH g l h hs) λσ H R o L R3 t C z k=>by
 refine⟨o,L,_,t,C,z,λvs T ys L1 t1 J U I=>?_⟩;split at I
 ·rename_i j;obtain⟨x,rfl,r⟩:=U.inv1;cases r;exact⟨j,rfl,I.1.1,I.1.2,k _ T _ _ L1 t1 J (wE 0 _) I.2⟩
 ·exact I.elim
end
section
variable {T:X4}{iter:Expr}{wi:x_}
def wm:QF X [] FU:=PF.imp Qr λJ H Q ⟨U,L,g,j,I,z,k⟩=>k _ H L (ED _) I z
def cV(h:QT X c tA):QF X [c] tA:=Qs h
def IV{n:Nat}{g2:TG}(a0:∀v σ H Q,Ft G g v σ H Q->g2 v σ H Q)(σ:L2.St)(H:Hp)(Q:VK):pM G (u_ n wi g tA te) σ H Q->GS n (GV G wi) g2 (p_ G tA) (pM G te) σ H Q:=λ⟨τ,L,Q3,rs,rl,z,k⟩=>by
 refine⟨τ,L,_,rs,rl,z,λJ H1 l keep L1 t1 a1 yl zz=>?_⟩;obtain⟨hz,W,w0,wk,turn,jw⟩:=QQ zz;refine⟨λi m vs H'=>∃I L',i+m=l.length/\I.length<=i/\j5 H1 H'/\x8 G H' I vs/\zu G H' L'/\W i I L',⟨l.length,[],L1,by exact CO _ _,Ak _,ED _,rfl,a1,w0⟩,?_⟩;rintro i m vs H2 ⟨I,L2,ac,al,o,U,j,p⟩;by_cases r:i<l.length
 ·refine .inr ⟨yl.go i H2 L2 o j (wk i I L2 p) r,by rw[<-U.length];lia,?_⟩;intro x H3 y3;have ey:l[i]?=some l[i]:=Ag r;obtain⟨t3,a2,a3⟩:=yl.yld i H2 L2 x H3 _ o j (wk i I L2 p) ey y3;refine a0 _ _ _ _ ⟨l[i],_,L2,_,a3,(rs.ts<|(t1.trans o).trans t3).more n,a2,turn i _ I L2 ey p,λaL H4 t L4 t4 C a4 z4=>?_⟩;refine⟨t,L4,_,C,a4,z4,λb H5 L5 t5 T z5=>?_⟩;cases b with
  |true=>
   rw[AF rfl];refine⟨t,L5,_,C.ts t5,T,z5,λv6 H6 y6 L6 t6 a5 ab ⟨L7,s7,z6⟩=>?_⟩;have tt:=((t3.trans t4).trans t5).trans t6;exact⟨m-1,by omega,I++[y6],L7,by lia,by rw[Ac,BU];exact vB,o.trans tt,(U.ts tt).app<|x8.one ab,a5.sub s7,z6⟩
  |false=>
   rw[AA AL];have tt:=(t3.trans t4).trans t5;obtain⟨L7,s7,z6⟩:=z5;exact⟨m-1,by lia,I,L7,by lia,by exact zF,o.trans tt,U.ts tt,T.sub s7,z6⟩
 ·have ei:i=l.length:=by lia
  subst ei;refine .inl ⟨yl.stop H2 L2 o j<|wk _ I L2 p,by rw[<-U.length];lia,λD hD=>?_⟩;exact k _ _ _ _ ((t1.trans o).trans<|EF hD) (j.newL hD U) (by rfl)<|jw I L2 p D<|j.none hD
structure Fb(X:Cx)(scope:Scope)(T:X4)(target:Expr)(g:kC):Prop where
 ex:∃g2:TG,(∀C fp s₀ H₀,PG (X.comp scope T C fp s₀ H₀) target g2)/\qS g2 X.N.length T.length/\∀v σ H Q,Ft X.g3 g v σ H Q->g2 v σ H Q
def Rb(i:Nat)(v:V)(σ:L2.St)(H:Hp)(Q:L2.St->Hp->Prop):Ft G (qp i) v σ H Q->du i v σ H Q:=λ⟨y,I,L,j,J,U,g,z,k⟩=>
 k _ H _ L (ED _) (show xo _ _ _ (ai I i y) by rw[w9];exact U.set J) g z
def i8(hN:(X.N++[x]).Nodup)(J:∀C fp s₀ H₀,Loc (X.comp scope [x] C fp s₀ H₀).env.scope x)(I:∀C fp s₀ H₀,(X.comp scope [x] C fp s₀ H₀).env.scope.names.lookup x=some .local):Fb X scope [x] (.Name x p) (qp X.N.length):=
 ⟨du X.N.length,λC fp s₀ H₀=>mS (X:=X.comp scope [x] C fp s₀ H₀) hN (by show(X.N++[x])[X.N.length]?=some x;simp) (J C fp s₀ H₀)<|.inr<|I C fp s₀ H₀,yn _,Rb _⟩
def Rc{K:Ah}(n:Nat):qS (Gx K 2<|vX (du n)<|vX (du<|n+1) Gw) n 2:=by
 rintro o I x H Q ⟨a,J,e,sq,len,v,r,U,w,g,j,l,q⟩;refine⟨a,J,e,sq,len,v,r,U,w,g,j,l,⟨by simp[I],λi u ei=>?_⟩,q⟩;have p:i<n:=by
  by_cases c:i<n
  ·exact c
  ·rw[AI (by lia),Cq] at ei;split at ei<;>cases ei
 rw[Bq (by lia),Bq (by exact Io)];exact ei
def Rf(i j:Nat)(v:V)(σ:L2.St)(H:Hp)(Q:L2.St->Hp->Prop):Ft G (f8 2<|jx (qp i)<|jx (qp j) dF) v σ H Q->Gx G.K 2 (vX (du i)<|vX (du j) Gw) v σ H Q:=λ⟨y,U,L,g,o,p,t,z,k⟩=>by
 cases y with
 |tup I=>
  obtain⟨a,xs,rfl,sq,r⟩:=o;have J:(match I.length==2 with|true=>jx (qp i) (jx (qp j) dF) I U L g|false=>False):=z;split at J
  ·rename_i e;have C:I.length=2:=beq_iff_eq.mp e
   match I,C with
   |[T,y2],_=>
    obtain⟨x1,l,rfl,r1,r2⟩:=r.inv2;have z2:g (ai (ai U i T) j y2) L:=J;exact⟨a,_,rfl,sq,rfl,x1,[l],rfl,l,[],rfl,rfl,k _ H _ L (ED _) (by rw[w9,w9];exact(p.set r1).set r2) t z2⟩
  ·exact J.elim
 |_=>exact z.elim
def sP{y:Str}{I pt:Pos}(hc:X.calm=true)(hN:(X.N++[x,y]).Nodup)(U:∀C fp s₀ H₀,(X.comp scope [x,y] C fp s₀ H₀).env.scope.names.lookup x=some .local)(J:∀C fp s₀ H₀,(X.comp scope [x,y] C fp s₀ H₀).env.scope.names.lookup y=some .local)
 (h1:∀env,(assignEach [.Name x p,.Name y I] env).length=2:=by intro _;rfl) (h2:∀env,(assignEach [.Name x p,.Name y I] env).findIdx? (·.1)=none:=by intro _;rfl)
 (g:∀env,(assignEach [.Name x p,.Name y I] env).map (·.2)=assign (.Name x p) env::(assignEach [.Name y I] env).map (·.2):=by intro _;rfl) (j:∀env,(assignEach [.Name y I] env).map (·.2)=assign (.Name y I) env::(assignEach [] env).map (·.2):=by intro _;rfl):
 Fb X scope [x,y] (.Tuple [.Name x p,.Name y I] kt pt) (f8 2<|jx (qp X.N.length)<|jx (qp<|X.N.length+1) dF):=
 ⟨_,λC fp s₀ H₀=>HN (X:=X.comp scope [x,y] C fp s₀ H₀) hc (og (mS hN (by show(X.N++[x,y])[X.N.length]?=some x;simp) (.inl<|U C fp s₀ H₀)<|.inr<|U C fp s₀ H₀) (og (mS hN (by show(X.N++[x,y])[X.N.length+1]?=some y;simp) (.inl<|J C fp s₀ H₀)<|.inr<|J C fp s₀ H₀) HM<|j _)<|g _) (h1 _)<|h2 _,Rc _,Rf _ _⟩
def aV(T:X4)(S:jb X scope)(hc:X.calm=true)(hi:QI X target iter wi)(I:Fb X scope T target g)
 (J:∀C fp s₀ H₀,QF (X.comp scope T C fp s₀ H₀) mv tA) (U:∀C fp s₀ H₀,QE (X.comp scope T C fp s₀ H₀) nC te)
 (hs:∀x,foldedSetIterable iter X.env x=pure x:=by intro _;rfl):QE X (.ListComp nC [⟨target,iter,mv,0⟩] scope pos) (u_ T.length wi g tA te):=by
 obtain⟨g2,j,l,o⟩:=I.ex;exact ES (Qu T S hc hi j l J U hs)<|IV o
def a7(T:X4){px o:Pos}(hN:X.N.Nodup)(I:X.N[i]?=some x)(hx:Loc X.env.scope x)(S:jb X scope)(hc:X.calm=true)(hi:QI X target iter wi)
 (hg:Fb X scope T target g) (hf:∀C fp s₀ H₀,QF (X.comp scope T C fp s₀ H₀) mv tA) (he:∀C fp s₀ H₀,QE (X.comp scope T C fp s₀ H₀) nC te)
 (J:swapsWith (.ListComp nC [⟨target,iter,mv,0⟩] scope o) (some<|.Name x px) pos.line X.env=pure true:=by rfl)
 (U:X.fn x=true\/X.env.scope.names.lookup x=some .local:=by first|exact .inl rfl|exact .inr rfl|assumption)
 (hs:∀x,foldedSetIterable iter X.env x=pure x:=by intro _;rfl):QS X (.Assign [.Name x px] (.ListComp nC [⟨target,iter,mv,0⟩] scope o) pos) (vo (u_ T.length wi g tA te)<|qp i):=by
 obtain⟨g2,h1,h2,h3⟩:=hg.ex;refine PS.imp (Qv (tc:=p_ X.g3 tA) (te:=pM X.g3 te) T hN I hx S hc hi h1 h2 hf he J U hs) λD σ H ⟨p,L,D3,r,rl,z,k⟩=>?_;refine IV h3 σ H _ ⟨p,L,_,r,rl,z,λv H1 y L1 t j l z1=>?_⟩;exact k.nx _ H1 _ L1 t (show xo _ _ _ (ai p i y) by rw[w9];exact(r.ts t).set l) j z1
def dn(G:G3)(sp:x5):Sp:=λvs H Q _=>∃ys L I,x8 G H ys vs/\zu G H L/\sp ys L I/\u7 G H I Q
abbrev G2(P:Ye)(w:Yg)(K:Ah)(mg:XW)(base:Yh)(k:Nat)(x:Str)(ps:X4)(sp:x5):Prop:=Cal P w K mg base k x ps<|dn ⟨K,P,w⟩ sp
abbrev Fn3(P:Ye)(w:Yg)(K:Ah)(mg:XW)(base:Yh)(k:Nat)(f:Addr)(fd:FuncData)(ps:X4)(sp:x5):Prop:=bV P w K mg base CX0 k f fd ps<|dn ⟨K,P,w⟩ sp
def Rg{k:Nat}{sp:x5}(c:G2 X.prog X.w X.K X.mg X.base k x ps sp)(j:am k X.A)(l:Gl X x)(o:QA X (e::es) tr)(I:Ex x:=by decide)
 (r:Eu e es X:=by rfl) (J:Ew pos es X:=by rfl):QE X (.Call (.Name x p) (e::es) [] pos) (xw sp tr):=
 EH (Qp c j l o I r J) λσ H Q t L C T rl z k=>
 ⟨t,L,_,T,rl,z,λvs H1 ys L1 t1 U g z1=>⟨ys,L1,C,by rw[AG];exact g,U,z1,k.ts t1⟩⟩
def bM(Q:YK):YK:=λy L=>∃L2,qf L2 L/\Q y L2
def jG(N:X4)(ys:List Y):jc:=ys.map some++List.replicate (N.length-ys.length) none
def rN{N:X4}{vs:Yj}(r:x8 G H ys vs):xo G H (L2.start N vs) (jG N ys):=by unfold L2.start jG;rw[<-r.length];refine xo.more ⟨by simp[r.length],λi y e=>?_⟩ _;rw[Ai] at e;obtain⟨g,I,J⟩:=Am.mp e;cases J;obtain⟨x,ex,U⟩:=r.get I;exact⟨x,by rw[Ai,ex];rfl,U⟩
def Rh{P:Ye}{w:Yg}{K:Ah}{N:X4}{k:Nat}{sp:x5}(F:Fun K x eK st f fd)(S:ak N ps<|zb st)(len:∀ys L Q,sp ys L Q->ys.length=ps.length)
 (I:∀(eW:Yc) (A:Around) (outer:List Env) (s:Yd) (H:Hp) (E:XK),am k (A.deeper<|PyProof.Rows.envOfC eK (zb st) s.heap.objs.size f eW)->
  ∃t,d_ (qO CX0 P w K mg base N eK (zb st) f eW A outer s H E).nox (jy st) t/\∀ys L Q,sp ys L Q->t {nx:=λ_ L'=>bM Q .non L',rt:=bM Q} (jG N ys) L):Fn3 P w K mg base (k+1) f fd ps sp:=by
 refine F.ok S (λT H Q E ⟨ys,L,U,g,C,z,_⟩=>by rw[<-g.length];exact len ys L U z) λeW A outer s H T Q E hr ⟨ys,L,U,g,C,z,k⟩=>?_;obtain⟨t,ht,q⟩:=I eW A outer s H E hr;refine⟨_,ht,jG N ys,L,_,rN g,C,q ys L U z,?_⟩;refine⟨λσ j τ L' l a0 J ⟨L2,o,p⟩=>k .non j .non L2 l (J.sub o) (by rfl) p,λv j y L' l J r ⟨L2,o,p⟩=>k v j y L2 l (J.sub o) r p,λ_ _ _ _ _ _ _ z=>z.elim,λ_ _ _ _ _ _ _ z=>z.elim⟩
def m_(G:G3)(r:Y->List Y->qi->YK->Prop):V->Yj->Hp->VK->Prop:=λx xs H Q=>∃y ys L I,RV G H y x/\x8 G H ys xs/\zu G H L/\r y ys L I/\u7 G H I Q
def gG.imq{id:Yi}{r:V->Yj->Hp->VK->Prop}{u:Y->List Y->qi->YK->Prop}(h:gG X id r)(q:∀x xs H Q y ys L I,RV G H y x->x8 G H ys xs->zu G H L->u y ys L I->u7 G H I Q->r x xs H Q):gG X id (m_ G u):=gG.imp h λx xs H Q ⟨y,ys,L,I,a,b,c,d,e⟩=>q x xs H Q y ys L I a b c d e
def Ri:gG X "list.append" (m_ X.g3 jq):=gG.imq P4 λx p H Q y t L C U g J z k=>by
 unfold jq at z;split at z
 ·rename_i a v;obtain⟨T,e,z⟩:=xb z;obtain⟨j,I,r⟩:=J a _ e;obtain⟨l,rfl,o⟩:=g.inv1;exact⟨a,j,l,U,rfl,I,by rw[<-r.length];exact z.1,k _ _ _ _ (ER I) (J.setL I<|r.app<|x8.one o) (by rfl) z.2⟩
 ·exact z.elim
def Rj:gG X "list.extend" (m_ X.g3 m5):=gG.imq P6 λx C H Q y T L Q3 g j I z k=>by
 unfold m5 at z;split at z
 ·rename_i a b;obtain⟨zs,e,z⟩:=xb z;obtain⟨us,l,z⟩:=xb z;obtain⟨o,J,r⟩:=I a _ e;obtain⟨ws,p,U⟩:=I b _ l;obtain⟨v',rfl,t⟩:=j.inv1;cases t;exact⟨a,b,o,ws,g,rfl,J,p,by rw[<-r.length,<-U.length];exact z.1,k _ _ _ _ (ER J) (I.setL J<|r.app U) (by rfl) z.2⟩
 ·exact z.elim
def Rk:gG X "list.pop" (m_ X.g3 FV):=gG.imq P8 λx l H Q y T L Q3 o p U z k=>by
 unfold FV at z;split at z
 ·rename_i a;obtain⟨g,e,z⟩:=xb z;obtain⟨t,I,r⟩:=U a _ e;cases (show l=[] from p);cases J:g[g.length-1]? with
  |none=>rw[J] at z;exact z.elim
  |some v=>
   rw[J] at z;obtain⟨u,j,C⟩:=r.get J;rw[r.length] at j;exact⟨a,t,u,o,rfl,I,j,k _ _ _ _ (ER I) (U.setL I r.dropLast) (C.ts<|ER I) z⟩
 ·exact z.elim
def zY{a:Addr}(I:zu G H L)(h:br L (.ref a)=some ys):FP G.K "list" (.ref a) H:=by obtain⟨J,sq,_⟩:=eG I h;exact .inl ⟨rfl,J,sq⟩
def lO(r:Y->List Y->qi->YK->Prop)(to:jp)(t:ef)(τ:jc)(L:qi)(Q:YK):Prop:=to τ L λx L1=>match x with
 |.ref a=>iA L1 (.ref a) λ_=>t τ L1 λxs L2=>r (.ref a) xs L2 Q
 |_=>False
structure z_(X:Cx)(o e:Expr)(es:X5)(name:Str)(apos fm:Pos):Prop where
 h4:attributeBase o name X.env (eval o X.env)=eval o X.env
 h5:((backTo fm<|starEach (e::es) X.env).all (λx=>!x.1)&&(backToKw fm<|keywordEach [] X.env).all (λx=>x.1.isSome)&&decide ((e::es).length+([]:List Keyword).length+(if ([]:List Keyword).isEmpty=true then 0 else 1)<30))=true
 h6:(apos.endLine==fm.line)=true
 h7:Eu e es X
 h8:Ew fm es X
def sM{id:Yi}{r:Y->List Y->qi->YK->Prop}(h2:Slot "list" name id)(h3:typeOf (.builtin id)=pure (.type "method_descriptor"))(hm:gG X id<|m_ X.g3 r)(ho:QE X o to)(ha:QA X (e::es) tr)
 (I:z_ X o e es name apos fm:=by exact⟨rfl,rfl,rfl,rfl,rfl⟩):
 QE X (.Call (.Attribute o name apos) (e::es) [] fm) (lO r to tr):=EH (Il DW h2 h3 hm ho ha I.h4 I.h5 I.h6 I.h7 I.h8) λσ H Q p L Q3 t rl z k=>
 ⟨p,L,_,t,rl,z,λv H1 y L1 C J U g=>by
  split at g
  ·rename_i a;obtain⟨T,es,g⟩:=wo g;exact⟨by cases U;exact zY J es,p,L1,_,t.ts C,J,g,λvs H2 T L2 t2 j l z2=>⟨.ref a,T,L2,Q3,U.ts t2,l,j,z2,k.ts<|C.trans t2⟩⟩
  ·exact g.elim⟩
def Rl{id:Yi}{r:Y->List Y->qi->YK->Prop}(h2:Slot "list" name id)(g:typeOf (.builtin id)=pure (.type "method_descriptor"))(j:gG X id<|m_ X.g3 r)(l:QE X o to)
 (p:attributeBase o name X.env (eval o X.env)=eval o X.env:=by rfl) (t:(apos.endLine==fm.line)=true:=by rfl):
 QE X (.Call (.Attribute o name apos) [] [] fm) (lO r to jn):=EH (P0 DW h2 g j l p t) λσ H Q C L T rs rl z k=>
 ⟨C,L,_,rs,rl,z,λv H1 y L1 t1 I J U=>by
  split at U
  ·rename_i a;obtain⟨ys,es,U⟩:=wo U;exact⟨by cases J;exact zY I es,.ref a,[],L1,T,J,rfl,I,U,k.ts t1⟩
  ·exact U.elim⟩
def qx(I:QE X o to)(J:QA X (e::es) tr)(U:z_ X o e es "append" apos fm:=by exact⟨rfl,rfl,rfl,rfl,rfl⟩):
 QE X (.Call (.Attribute o "append" apos) (e::es) [] fm) (lO jq to tr):=sM PySem.F.slot_list_append PySem.F.type_list_append Ri I J U
def bR(I:QE X o to)(J:QA X (e::es) tr)(U:z_ X o e es "extend" apos fm:=by exact⟨rfl,rfl,rfl,rfl,rfl⟩):
 QE X (.Call (.Attribute o "extend" apos) (e::es) [] fm) (lO m5 to tr):=sM PySem.F.slot_list_extend PySem.F.type_list_extend Rj I J U
def IW(I:QE X o to)(J:attributeBase o "pop" X.env (eval o X.env)=eval o X.env:=by rfl)(U:(apos.endLine==fm.line)=true:=by rfl):
 QE X (.Call (.Attribute o "pop" apos) [] [] fm) (lO FV to jn):=Rl PySem.F.slot_list_pop PySem.F.type_list_pop Rk I J U
end
abbrev yU:mQ:=t_ λi j=>.int<|i-j
abbrev a34:mQ:=yI aig λi j=>.int<|i*j
abbrev IX:mQ:=yI GF λi j=>.int<|i / j
abbrev sw:mQ:=yI (λ_ j=>0<j) λi j=>.int<|i % j
abbrev Rm:mQ:=yI GG λi j=>.int<|i ^ j.toNat
abbrev G4:mQ:=t_ λi j=>.bl<|decide<|i<j
abbrev yLe:mQ:=t_ λi j=>.bl<|decide<|i<=j
abbrev Rn:mQ:=t_ λi j=>.bl<|decide<|j<i
abbrev Ro:mQ:=IE λi j=>i+j
def Rp :E4 X .Add (dQ X.g3 Ro):=Q9 Ox
structure Fc(G:G3)(mg:XW)(x:Str)(y:Y):Prop where
 ex:∃c,mg x=some (.ref c)/\∀H,RV G H y<|.ref c
def kA(t:Fc X.g3 X.mg x y)(I:Gl X x)(hd:Ex x:=by decide):QE X (.Name x pos) (yC y):=by obtain⟨c,J,q⟩:=t.ex;exact QU I J q hd
def IY(kvs:List<|Str×Str):LO:=.dct<|kvs.map λp=>(Sum.inr p.1,Y.str p.2)
def Rq(kvs:List<|Str×Str)(_:jc)(L:qi)(Q:YK):Prop:=∀p,L p=none->Q (.ref p) (qg L p<|IY kvs)
def D_(kvs:List<|Str×Str):List (ja×V):=kvs.map λp=>(Sum.inr p.1,V.str p.2)
theorem vC{σ:L2.St}{H:Hp}{Q:List (V×V)->Hp->Prop}:∀{kvs:List<|Str×Str},Q (kvs.map λp=>(V.str p.1,V.str p.2)) H->tL (kvs.map λp=>(tC<|.str p.1,tC<|.str p.2)) σ H Q
 |[],h=>h
 |_::r,h=>vC (kvs:=r) h
theorem IZ{G:G3}{H:Hp}:∀kvs:List (Str×Str),Paired (λ(p:ja×Y) (q:ja×V)=>p.1=q.1/\RV G H p.2 q.2) (kvs.map λp=>(Sum.inr p.1,Y.str p.2))<|D_ kvs
 |[]=>.nil
 |_::r=>.cons ⟨rfl,rfl⟩<|IZ r
def Rr{keys:List<|Option Expr}{values:X5}(kvs:List<|Str×Str)(h:Fo X pos keys values<|kvs.map λp=>(tC<|.str p.1,tC<|.str p.2))(h1:(keys.all λx=>x.isSome)=true)(h2:keys.length=values.length)(U:keys≠[])(g:keys.length<=15)
 (j:kvs.length<=15:=by decide) (nd:iz [] (D_ kvs)=D_ kvs:=by decide +kernel):QE X (.Dict keys values pos) (Rq kvs):=EH (Pp h h1 h2 U g) λl H Q o L r t J z k=>by
 intro p I;refine vC ⟨j6,D_ kvs,by simp[D_,kV],by simpa[D_] using j,?_⟩;rw[nd,ND];refine k _ _ _ (qg L p<|IY kvs) (EF I) ?_ (by rfl)<|z p<|J.none I;intro a u e;by_cases c:a=p
 ·subst c;rw[q9] at e;cases e;exact⟨D_ kvs,j6,IZ kvs⟩
 ·rw[qd c] at e;exact(J a u e).keep (EF I) (qu c)
def mm{Q:α->qi->Prop}{o:Option α}(h:c_ L Q o):∃v,o=some v/\Q v L:=by cases o with|none=>exact h.elim|some v=>exact⟨v,rfl,h⟩
def kM{kvs:List<|Str×Str}{k:Str}(h:kvs.lookup k=some x):aX (kvs.map λp=>((Sum.inr p.1:ja),Y.str p.2)) (Sum.inr k)=some (Y.str x):=by
 induction kvs with
 |nil=>simp at h
 |cons p r I=>
  obtain⟨a,b⟩:=p;unfold aX;rw[AD,BK];rw[Bu] at h;by_cases c:k=a
  ·subst c;simp at h;simp[h]
  ·have J:(k==a)=false:=by simpa using c
   rw[J] at h;have U:decide ((Sum.inr a:ja)=Sum.inr k)=false:=Ar λz=>c (E5 z).symm;simp only[U];exact I h
def I0{n:Nat}(h:(af lo n)[i]?=some y):i<n/\y=.int (lo+i):=by
 unfold af at h;rw[Ai] at h;obtain⟨z,I,e⟩:=Am.mp h;have J:i<n:=by
  by_cases c:i<n
  ·exact c
  ·rw[Cb (by simp;exact Fs)] at I;cases I
 rw[List.getElem?_range J] at I;cases I;exact⟨J,e.symm⟩
def oF(lo:Int)(n:Nat):(af lo n).length=n:=by simp[af]
def I9{n:Nat}{tb:dR}(W:Nat->jc->qi->Prop)(J:W 0 τ L)
 (hs:∀i τ L,i<n->W i τ L->g (.int<|lo+i) τ L λI L2=>tb {D with nx:=iP<|W<|i+1,ct:=iP<|W<|i+1,bk:=D.nx} I L2) (hd:∀τ L,W n τ L->D.nx τ L):tM (af lo n) (λ_=>True) g tb D τ L:=by
 refine ve ⟨W,J,λ_ _ _ _=>trivial,λi y τ L e w=>?_,λτ L w=>hd τ L (by rw[oF] at w;exact w)⟩;obtain⟨U,rfl⟩:=I0 e;exact hs i τ L U w
def Ja{a:Addr}{v:Y}{Q:YK}(e:L a=some (.lst<|ys++[v]))(q:Q v<|qg L a<|.lst ys):iA L (.ref a) (λ_=>jn τ L λxs L2=>FV (.ref a) xs L2 Q):=by
 refine qb e<|qh e ?_;have:(ys++[v])[(ys++[v]).length-1]?=some v:=by simp
 rw[this,List.dropLast_concat];exact q
def zL{tb:dR}{a:Addr}(h:br L (.ref a)=some ys)(W:Nat->jc->qi->Prop)(J:W 0 τ L)(U:∀i τ L',W i τ L'->L' a=L a)
 (hs:∀i y τ L,ys[i]?=some y->W i τ L->g y τ L λI L2=>tb {D with nx:=iP<|W<|i+1,ct:=iP<|W<|i+1,bk:=D.nx} I L2) (hd:∀τ L,W ys.length τ L->D.nx τ L):
 vP L a λys keep L1=>tM ys keep g tb D τ L1:=zp (jV h) λkeep j=>ve ⟨W,J,λi τ L' w=>j L'<|U i τ L' w,hs,hd⟩
def wf{keep:qi->Prop}{n:Nat}{Q:YK}(I:Nat->List Y->Prop)(hz:ys.length<sizeLine)(j:keep L)(l:I 0 [])
 (turn:∀(i:Nat) y zs,ys[i]?=some y->I i zs->g y (τ++List.replicate n none) L λJ L2=>tc J L2 λb L3=>wb b (te J L3 λz o=>iP (λzs L'=>L'=L/\I (i+1) zs) (zs++[z]) o)<|iP (λzs L'=>L'=L/\I (i+1) zs) zs L3)
 (r:∀zs,I ys.length zs->∀p,L p=none->Q (.ref p) (qg L p<|.lst zs)):yb ys keep n g tc te τ L Q:=by
 refine xW ⟨hz,λi zs L'=>L'=L/\I i zs,⟨rfl,l⟩,?_,?_,?_⟩
 ·rintro i zs L' ⟨rfl,_⟩;exact j
 ·rintro i y zs L' t ⟨rfl,U⟩;exact turn i y zs t U
 ·rintro zs L' ⟨rfl,U⟩ p C;exact r zs U p C
def yu{n:Nat}{Q:YK}(I:Nat->List Y->Prop)(hz:m<sizeLine)(j:I 0 [])
 (turn:∀(i:Nat) zs,i<m->I i zs->g (.int<|lo+i) (τ++List.replicate n none) L λJ L2=>tc J L2 λb L3=>wb b (te J L3 λz l=>iP (λzs L'=>L'=L/\I (i+1) zs) (zs++[z]) l)<|iP (λzs L'=>L'=L/\I (i+1) zs) zs L3)
 (o:∀zs,I m zs->∀p,L p=none->Q (.ref p) (qg L p<|.lst zs)):yb (af lo m) (λ_=>True) n g tc te τ L Q:=by
 refine wf (keep:=λ_=>True) I (by rw[oF];exact hz) trivial j (λi y zs e U=>?_) λzs U=>o zs (by rw[oF] at U;exact U);obtain⟨r,rfl⟩:=I0 e;exact turn i zs r U
def fF(ys:List Y)(n:Nat):fw ys (some ((n:Nat):Int)) none=ys.drop n:=by
 unfold fw;rw[HT.sIx_nat,HT.sIx_none];by_cases h:n<=ys.length
 ·rw[BC h,AY (by rw[BD];simp +arith only)]
 ·rw[Cs (by lia),Eg<|Ak _,Eg (by lia),List.take_nil]
def Jb(ys:List Y)(n:Nat):fw ys none (some ((n:Nat):Int))=ys.take n:=by
 unfold fw;rw[HT.sIx_nat,HT.sIx_none,Df,Eh];by_cases h:n<=ys.length
 ·rw[BC h]
 ·rw[Cs (by lia),AY<|Ak _,AY (by lia)]
def xm{ws:List α}{f:α->Y}{w:α}(h:ws[i]?=some w):jU (ws.map f) (i:Int)=some (f w):=vd (by rw[Ai,h];rfl)
def sQ{keep:qi->Prop}{n:Nat}{Q:YK}(f:Y->Option Y)(hz:ys.length<sizeLine)(j:keep L)
 (turn:∀(i:Nat) y (W:List Y->qi->Prop) zs,ys[i]?=some y->W (zs++(f y).toList) L->g y (τ++List.replicate n none) L λI L2=>tc I L2 λb L3=>wb b (te I L3 λz l=>iP W (zs++[z]) l)<|iP W zs L3)
 (o:∀p,L p=none->Q (.ref p) (qg L p<|.lst<|ys.filterMap f)):yb ys keep n g tc te τ L Q:=by
 refine xW ⟨hz,λi zs J=>J=L/\zs=(ys.take i).filterMap f,⟨rfl,by simp⟩,?_,?_,?_⟩
 ·rintro i zs J ⟨rfl,_⟩;exact j
 ·rintro i y zs J U ⟨rfl,rfl⟩;refine turn i y _ _ U ⟨rfl,?_⟩;rw[AZ,U,List.filterMap_append];congr 1
 ·rintro zs J ⟨rfl,rfl⟩ p r;rw[AX];exact o p r
def jf(t:dR)(n:Nat)(ys:List Y)(L:qi)(Q:YK):Prop:=t {nx:=λ_ L'=>bM Q .non L',rt:=bM Q} (ys.map some++List.replicate (n-ys.length) none) L
def jw{Q:YK}(h:Q y L):bM Q y L:=⟨L,EC L,h⟩
def bC{Q:YK}(s:qf L L')(h:Q y L):bM Q y L':=⟨L,s,h⟩
theorem Fn3.never{P:Ye}{w:Yg}{K:Ah}{k:Nat}{sp:x5}(no:∀ys L Q,¬sp ys L Q):Fn3 P w K mg base k f fd ps sp:=
 bV.never λJ H Q E ⟨ys,L,I,_,_,z,_⟩=>no ys L I z
def qf.upd{a:Addr}{o:LO}(s:qf L L')(h:L a=none):qf L (qg L' a o):=λb u e=>by rw[qd<|vt e h];exact s b u e
def qf.put{a:Addr}{o:LO}(s:qf L L')(h:L' a=some o):qf (qg L a o) L':=λb u e=>by
 by_cases c:b=a
 ·subst c;rw[q9] at e;cases e;exact h
 ·rw[qd c] at e;exact s b u e
theorem vK{G:G3}{H:Hp}:∀ns:X7,x8 G H (ns.map Y.int)<|ns.map V.int
 |[]=>rfl
 |_::r=>⟨_,_,rfl,rfl,vK r⟩
end L3
namespace L2
open PySem PySem.Spec PyProof.Rows
section
variable {σ:L2.St}
def nu(I:z0 X pins σ H s)(U:∀b∈fp,H b=none)(k:∀b o,b∉fp->s.heap.get? b=some o->h'.get? b=some o):fh X.prog X.w H h':=λb u e=>by
 refine(I.hok b u e).stay (λc v g q=>k c v (λz=>?_) q) (λ_ q=>q) λ_ _ q=>q;have J:=U c z;rcases g with w|w
 ·rw[w,e] at J;cases J
 ·rw[w] at J;cases J
def Rs{fs:List Addr}(k:∀b o,b∉fp->h.get? b=some o->h'.get? b=some o):Un fs fp H H h h':=
 ⟨λb o q _ _ x=>k b o x q,λb o q _ _ x=>⟨o.slots,k b o x q⟩,λ_ _ _ n _=>n,λb o q x=>⟨o,k b o x q⟩,λ_ _ q=>q,λ_ _ _ q=>q,λb I q=>⟨#[],by rw[q];simp⟩⟩
def z0.turnedL(I:z0 X pins σ H s)(k:∀b o,b∉fp->s.heap.get? b=some o->h'.get? b=some o)(U:∀b∈fp,qJ X pins H b)(g:0<t':=by walk_at "t"):z0 X pins σ H {s with heap:=h',toks:=t'}:=
 I.call' (s':={s with heap:=h',toks:=t'}) (ch:=fp) rfl (Rs k) (nu I (λb J=>(U b J).1) k) I.bare λb J=>⟨(U b J).2.2.2.1,(U b J).2.1,(U b J).2.2.2.2.1,(U b J).2.2.2.2.2⟩
def z0.turnedN{a:Addr}{o:HO}(I:z0 X pins σ H s)(k:∀b o,b∉fp->s.heap.get? b=some o->h'.get? b=some o)(U:∀b∈fp,qJ X pins H b)(j:s.heap.objs.size<=a)
 (new:xn X.prog X.w (upd H a o) h' a o) (p:0<t':=by walk_at "t"):z0 X pins σ (upd H a o) {s with heap:=h',toks:=t'}:=by
 have g:H a=none:=I.hok.fresh j;have lt:∀b ob,s.heap.get? b=some ob->b≠a:=λb ob q=>A9<|AQ (wh q) j;refine I.call' (s':={s with heap:=h',toks:=t'}) (ch:=fp) rfl ?_ ?_ I.bare λb J=>⟨(U b J).2.2.2.1,(U b J).2.1,(U b J).2.2.2.2.1,(U b J).2.2.2.2.2⟩
 ·exact⟨λb ob q _ _ x=>k b ob x q,λb ob q _ _ x=>⟨ob.slots,k b ob x q⟩,λb ob q n _=>by rw[qu<|lt b ob q];exact n,λb ob q x=>⟨ob,k b ob x q⟩,
   λb l q=>by rw[qu<|zw q g];exact q,λb ob u q=>by rw[qu<|zw q g];exact q,λb r q=>⟨#[],by rw[qu<|zw q g,q];simp⟩⟩
 ·intro b u e;by_cases J:b=a
  ·subst J;rw[j6] at e;cases e;exact new
  ·rw[qu J] at e;have ok:=nu I (h':=h') (λb J=>(U b J).1) k b u e;exact ok.stay (λ_ _ _ q=>q) (λc q=>by rw[qu<|zw q g];exact q) λc l q=>by rw[qu<|zw q g];exact q
end
def G5(K:Ah)(a:Addr):It:=
 ⟨λi H=>∃xs x,aH K H a xs/\xs[i]?=some x,λi H v H'=>∃p x,H p=none/\v=.ref p/\H'=upd H p (.tup [.int i,x])/\∀xs,aH K H a xs->xs[i]?=some x,λi H=>∃xs,aH K H a xs/\xs.length<=i⟩
def Rt{P:Ye}{w:Yg}{K:Ah}(a e it:Addr)(l:e≠it):yD P w K (.Tuple ml x1 tp) (G5 K a) [e,it] e (λi h=>(∃old,IsEnum h e it i old)/\h.IsListIter it a i) where
 mem:=by simp
 obj:=λi h ⟨⟨old,J⟩,U⟩ b g=>by
  rcases Ap.mp g with rfl|g
  ·exact⟨_,J,λv z=>by cases z⟩
  ·cases Av.mp g;obtain⟨o,T,hc,hd⟩:=U;exact⟨o,T,λv z=>by rw[hd] at z;cases z⟩
 keep:=λi h h' ⟨⟨old,J⟩,U⟩ k=>⟨⟨old,k e (by simp) _ J⟩,U.at λo q=>k it (by simp) o q⟩
 item:=by
  intro X hP hw hK hc i r s σ H E I t ⟨⟨old,J⟩,U⟩ hg;subst hP hw hK;obtain⟨xs,x,C,hx⟩:=hg;obtain⟨a0,rv,p,hz⟩:=I.list C;obtain⟨u,hu,ru⟩:=rv.get hx;refine wpAny_pyNext_enum_item J U p.isList (x:=u) (by simpa using hu) l λh1 a1 a2 ht a5 hk=>⟨.ref s.heap.objs.size,rfl,wpAny_letOwnedTupleGo_enum a1 λh2 a3 j=>?_⟩;have el:e<s.heap.objs.size:=wh J;have il:it<s.heap.objs.size:=by obtain⟨o,T,_⟩:=U;exact wh T
  have kk:∀b o,b∉[e,it]->s.heap.get? b=some o->h2.get? b=some o:=λb o nb q=>by have n1:b≠e:=λz=>nb (by simp[z]);have n2:b≠it:=λz=>nb (by simp[z]);exact j.extBut b o n1<|hk b o n1 n2 q
  have tg:h2.get? s.heap.objs.size=some {cls:=.type "tuple",data:=.seq #[.int i s.toks,u]}:=j.extBut _ _ (CN el) ht;refine⟨.ref s.heap.objs.size,upd H s.heap.objs.size<|.tup [.int i,x],?_,rfl,⟨_,x,I.hok.fresh<|Ak _,rfl,rfl,λys hy=>by rw[I.list_inj hy C];exact hx⟩,⟨⟨_,a3⟩,a2.at λo q=>j.extBut _ _ (AN l) q⟩,λb g=>?_⟩
  ·exact I.turnedN (t':=s.toks+1) kk t (Ak _) ⟨by show 2<=sizeLine;decide,[.int i s.toks,u],.cons ⟨_,rfl⟩<|.cons ru .nil,⟨_,tg,rfl,_,rfl⟩⟩
  ·have a4:b<s.heap.objs.size:=by rcases Ap.mp g with rfl|g;exact el;cases Av.mp g;exact il
   rw[qu<|A9 a4];exact(t b g).1
 done:=by intro X hP hw hK hc i r s σ H E I t ⟨⟨old,J⟩,U⟩ hg;subst hP hw hK;obtain⟨xs,C,hx⟩:=hg;obtain⟨a0,rv,p,hz⟩:=I.list C;have hl:=rv.length;exact wpAny_pyNext_enum_end (I.ok.hd hc) J U p.isList (by simp;omega) λh1 eb=>⟨rfl,I.turnedL (t':=s.toks) (fp:=[e,it]) (λb o nb q=>eb b o (λz=>nb (by simp[z])) q) t⟩
 self:=λ_ _ _ _ _ ⟨⟨_,J⟩,_⟩ h=>wpAny_pyIter_enum J h
def Rv(K:Ah)(ta:TA):TI:=λσ H R=>ta σ H λvs H1=>∃a,vs=[.ref a]/\(∃xs,aH K H1 a xs)/\R (G5 K a) H1
def tZ:bootBuiltins "enumerate"=some (.type "enumerate"):=by decide +kernel
def Rw{a:Expr}{ta:TA}(hg:Gl X "enumerate")(hm:X.mg "enumerate"=none)(ha:PA X [a] ta)(hs:starEach [a] X.env=[(false,eval a X.env)]:=by rfl):
 PI X (.Tuple ml x1 tp) (.Call (.Name "enumerate" p) [a] [] pos) (Rv X.K ta):=by
 intro J s r H R I h;refine Call_<|dD I hg hm tZ<|B5 (wq (ha pos J s r H _ I h) λus U ⟨vs,t,j,r1,q1⟩=>?_) hs rfl;obtain⟨l,e,⟨xs,hq⟩,q⟩:=q1;subst e;obtain⟨u,rfl,ru⟩:=lG r1;cases ru;obtain⟨a0,rv,pl,hz⟩:=j.list hq;refine call_enumerate_list pl.isList λC T hi a1 hk=>?_;have I2:z0 X J r t {U with heap:=C}:=j.kept (t':=U.toks) hk;refine wpAny_pyIter_enum (s:={U with heap:=C}) T ?_;refine⟨U.heap.objs.size+1,[U.heap.objs.size+1,U.heap.objs.size],_,_,t,rfl,I2,Rt l _ _<|Nat.succ_ne_self _,⟨⟨_,T⟩,hi⟩,λb o=>?_,q⟩;have g:U.heap.objs.size<=b:=by rcases Ap.mp o with rfl|o;exact CI _;cases Av.mp o;exact Ak _
 exact j.fpOk g<|j.hok.fresh g
end L2
namespace L3
open PySem L2
theorem li{a:Addr}{keep:qi->Prop}(h:∀H L,j5 H₀ H->zu G H L->keep L->∃xs,aH G.K H a xs/\x8 G H ys xs):dU G H₀ (G5 G.K a) (ys.zipIdx.map λp=>Y.tup [.int (p.2:Nat),p.1]) keep where
 go:=λi H L t I J o=>by
  obtain⟨xs,sq,r⟩:=h H L t I J;have:i<xs.length:=by rw[<-r.length];simpa using o
  exact⟨xs,xs[i],sq,Ag this⟩
 yld:=λi H L x H' y t I J l ⟨p,z,U,C,T,f⟩=>by subst C T;obtain⟨xs,sq,r⟩:=h H L t I J;rw[Ai,List.getElem?_zipIdx] at l;obtain⟨⟨y',j⟩,ey,e3⟩:=Am.mp l;obtain⟨a0,g,e4⟩:=Am.mp ey;cases e4;subst e3;obtain⟨x',e',rv⟩:=r.get g;have:=f xs sq;rw[e'] at this;cases this;refine⟨EF U,I.skip U,p,_,rfl,dS.of j6,⟨_,_,rfl,?_,_,_,rfl,rv.ts<|EF U,rfl⟩⟩;show V.int _=V.int _;congr 1;simp
 stop:=λH L t I J=>by obtain⟨xs,sq,r⟩:=h H L t I J;exact⟨xs,sq,by rw[Ab,List.length_zipIdx,r.length];exact Ak _⟩
def om(ys:List Y):List Y:=ys.zipIdx.map λp=>Y.tup [.int (p.2:Nat),p.1]
def aT(h:(om ys)[i]?=some y):∃z,ys[i]?=some z/\y=.tup [.int i,z]:=by unfold om at h;rw[Ai,List.getElem?_zipIdx] at h;obtain⟨⟨J,j⟩,U,g⟩:=Am.mp h;obtain⟨l,I,o⟩:=Am.mp U;cases o;exact⟨J,I,by rw[<-g];simp⟩
def ky(ys:List Y):(om ys).length=ys.length:=by simp[om]
def xK(tl:jp)(τ:jc)(L:qi)(R:List Y->(qi->Prop)->qi->Prop):Prop:=tl τ L λx L1=>match x with
 |.ref a=>vP L1 a λys keep L=>R (om ys) keep L
 |.sq ys=>R (om ys) (λ_=>True) L1
 |_=>False
def bK{a:Expr}(hg:Gl X "enumerate")(hm:X.mg "enumerate"=none)(ha:QE X a te)(hs:starEach [a] X.env=[(false,eval a X.env)]:=by rfl)
 (j:starEach [a] X.env=(false,eval a X.env)::starEach [] X.env:=by rfl):QI X (.Tuple ml x1 tp) (.Call (.Name "enumerate" p) [a] [] pos) (xK te):=PI.imq (Rw hg hm (aR ha fq j) hs) λσ H R τ L R3 rs l z k=>by
 refine⟨τ,L,_,rs,l,z,λv g y o T I U C=>?_⟩;cases y with
 |ref a=>
  obtain⟨ys,keep,es,kp,hk,z2⟩:=vA C;have hy:∀H L,j5 g H->zu X.g3 H L->keep L->∃J,aH X.K H a J/\x8 X.g3 H ys J:=λH L _ l e=>eG l<|hk L e;obtain⟨J,sq,_⟩:=hy g o (ED _) I kp;cases U;exact⟨a,rfl,⟨J,sq⟩,k _ g _ _ o T I (li hy) z2⟩
 |sq ys=>
  obtain⟨a,J,e,sf,r⟩:=U;subst e;exact⟨a,rfl,⟨J,sf.sq⟩,k _ g _ (λ_=>True) o T I (li λH L t _ _=>⟨J,(sf.ts t).sq,r.ts t⟩) C⟩
 |_=>exact C.elim
end L3
namespace L2
open PySem PySem.Spec PyProof.Rows
def io(t:Bool)(h:Yh)(it l:Addr)(k:Nat):Prop:=match t with
 |false=>h.IsListIter it l k
 |true=>h.IsTupleIter it l k
def qV(t:Bool)(h:Yh)(l:Addr)(xs:X0):Prop:=match t with
 |false=>h.IsList l xs
 |true=>h.IsTuple l xs
def io.on{l:Addr}{k:Nat}(x:io t h it l k)(e:∀o,h.get? it=some o->h'.get? it=some o):io t h' it l k:=by cases t with|false=>exact Heap.IsListIter.at x e|true=>exact Heap.IsTupleIter.at x e
def qV.on{l:Addr}{xs:X0}(x:qV t h l xs)(e:∀o,h.get? l=some o->h'.get? l=some o):qV t h' l xs:=by cases t with|false=>exact Heap.IsList.at x e|true=>exact Heap.IsTuple.at x e
def io.ob{l:Addr}{k:Nat}(x:io t h it l k):∃o,h.get? it=some o/\∀v,o.data≠.cell v:=by
 cases t with
 |false=>obtain⟨o,e,c,d⟩:=x;exact⟨o,e,λv z=>by rw[d] at z;cases z⟩
 |true=>obtain⟨o,e,c,d⟩:=x;exact⟨o,e,λv z=>by rw[d] at z;cases z⟩
def Jc(l:Addr):¬((Value.ref l==Value.none)=true):=AL
section
variable {w:Yg}
def yN{l:Addr}{xs:X0}{x:Yc}(hi:s.heap.IsTupleIter it l i)(U:s.heap.IsTuple l xs)(g:xs[i]?=some x)
 (q:∀h',h'.IsTupleIter it l (i+1)->Heap.SameBut it s.heap h'->Q x {s with heap:=h'}):wpAny (model prog w) A (Builtin.SmallTypes.nextOf<|.ref it) Q E s:=by
 obtain⟨o,J,ci,I⟩:=id hi;obtain⟨u,ul,_,n,dl⟩:=U;unfold Builtin.SmallTypes.nextOf;refine Aa<|wpAny_callSpecial?_slot (name:="__next__") hi.typeIs At<|wpAny_call_entry At hi.typeIs F.entry_tuple_iterator_next ?_<|F.args_tuple_iterator_next_1 _;refine Aa (m:=field (.ref it) 0)<|Bf J I (x:=.ref l) rfl ?_;rw[AA<|Jc l];refine Aa (m:=field (.ref it) 1)<|Bf J I (x:=.int i 0) rfl<|Aa (m:=seqItems?<|.ref l)<|BI ul dl ?_;simp only[Cg,g];refine Aa<|wpAny_setField J I (by simp)<|Aj ⟨x,rfl,Aj<|q _ ⟨_,Ev _ J<|Obj.isFreed_of_fields<|Obj.data_mapFields I _,(Obj.cls_mapFields ..).trans ci,?_⟩<|ya ..⟩;rw[Obj.data_mapFields I];simp[rawInt]
def Rx{l:Addr}{xs:X0}(U:A.handled=none)(hi:s.heap.IsTupleIter it l i)(g:s.heap.IsTuple l xs)(j:xs[i]?=none)
 (q:∀h' e,Heap.ExtBut it s.heap h'->(∃o,h'.get? e=some o/\o.cls=.type "StopIteration")->E (.ref e) {s with heap:=h'}):wpAny (model prog w) A (Builtin.SmallTypes.nextOf<|.ref it) Q E s:=by
 obtain⟨o,I,ci,J⟩:=id hi;obtain⟨u,ul,_,n,dl⟩:=g;unfold Builtin.SmallTypes.nextOf;refine Aa<|wpAny_callSpecial?_slot (name:="__next__") hi.typeIs At<|wpAny_call_entry At hi.typeIs F.entry_tuple_iterator_next ?_<|F.args_tuple_iterator_next_1 _;refine Aa (m:=field (.ref it) 0)<|Bf I J (x:=.ref l) rfl ?_;rw[AA<|Jc l];refine Aa (m:=field (.ref it) 1)<|Bf I J (x:=.int i 0) rfl<|Aa (m:=seqItems?<|.ref l)<|BI ul dl ?_;simp only[Cg,j];refine Aa<|Bt<|Aa<|wpAny_setField I J (by simp) ?_;refine Aa (m:=newExc (.type "StopIteration") []) ?_;simp only[newExc,newTuple];refine Aa (Bn (Aa (m:=firstArgMember _ _) (wpAny_of_eq (a:=Value.none) (by first|rfl|(simp only[firstArgMember];rfl))<|Bn ?_ (by size_fits))) (by size_fits));simp only[raiseNew];refine Aa<|wpAny_handled ?_
 first|rw[show A.in1.handled=none from U]|rw[U]
 exact Aa<|Aj<|wpAny_throw<|q _ _ (((ya ..).extBut.push _).push _) ⟨_,wn _ rfl,rfl⟩
def io.next{l:Addr}{xs:X0}{x:Yc}(hi:io t s.heap it l i)(I:qV t s.heap l xs)(J:xs[i]?=some x)
 (q:∀h',io t h' it l (i+1)->Heap.SameBut it s.heap h'->Q x {s with heap:=h'}):wpAny (model prog w) A (Builtin.SmallTypes.nextOf<|.ref it) Q E s:=by
 cases t with|false=>exact wpAny_nextOf_list_item hi I J q|true=>exact yN hi I J q
def io.stop{l:Addr}{xs:X0}(I:A.handled=none)(hi:io t s.heap it l i)(J:qV t s.heap l xs)(U:xs[i]?=none)
 (q:∀h' e,Heap.ExtBut it s.heap h'->(∃o,h'.get? e=some o/\o.cls=.type "StopIteration")->E (.ref e) {s with heap:=h'}):wpAny (model prog w) A (Builtin.SmallTypes.nextOf<|.ref it) Q E s:=by
 cases t with|false=>exact wpAny_nextOf_list_end I hi J U q|true=>exact Rx I hi J U q
structure G6(z TI TO i1 i2 l1 l2:Addr):Prop where
 n1:TI≠z
 n2:TO≠z
 n3:i1≠z
 n4:i2≠z
 n5:TO≠i1
 n6:TO≠i2
 n7:i1≠i2
 n8:l1≠z
 n9:l1≠TO
 n10:l1≠i1
 n11:l1≠i2
 n12:l2≠z
 n13:l2≠TO
 n14:l2≠i1
 n15:l2≠i2
def Ry{z TI TO J U:Addr}{k:Nat}{xs ys:X0}{x y a b:Yc}(D:G6 z TI TO J U l1 l2)(hz:IsZip s.heap z TI TO .none)(hI:IsPair s.heap TI (.ref J)<|.ref U)(hO:IsPair s.heap TO a b)
 (h1:io t1 s.heap J l1 k) (h2:io t2 s.heap U l2 k) (q1:qV t1 s.heap l1 xs) (q2:qV t2 s.heap l2 ys) (hx:xs[k]?=some x) (hy:ys[k]?=some y)
 (q:∀h',IsZip h' z TI TO (rawInt s.heap.objs.size)->IsPair h' TO x y->io t1 h' J l1 (k+1)->io t2 h' U l2 (k+1)->IsPair h' s.heap.objs.size x y->
  (∀c o,c≠z->c≠TO->c≠J->c≠U->s.heap.get? c=some o->h'.get? c=some o)->Q (.ref s.heap.objs.size) {s with heap:=h'}):
 wpAny (model prog w) A (Builtin.«zip.__next__» ⟨[.ref z],[]⟩) (λjw s'=>∃v,jw=.done (.ret v)/\Q v s') E s:=by
 refine Aa (m:=field (.ref z) 2)<|Bf hz rfl (x:=.bool false) rfl<|Aa (m:=field (.ref z) 3)<|Bf hz rfl (x:=.ref TI) rfl<|Aa<|BI hI rfl ?_;refine Aa (m:=Builtin.SmallTypes.ownedTupleIsFree<|.ref z) ?_;unfold Builtin.SmallTypes.ownedTupleIsFree;refine Aa<|Bf hz rfl (x:=.none) rfl<|Aj ?_;simp only[if_true];refine Aa<|Bt<|Aa<|Bf hz rfl (x:=.ref TO) rfl<|Aa<|wpAny_setField_rec hz (by simp) λg1 z1 g=>?_;have a5:IsZip g1 z TI TO .ellipsis:=z1;refine Aa ?_;simp only[DX,List.zipIdx_nil,Ce,Ep];refine Aa<|Aa<|wpAny_onRaise<|Aa (m:=Builtin.SmallTypes.nextOf<|.ref J)<|(h1.on λo e=>g.extBut _ _ D.n3 e).next (q1.on λo e=>g.extBut _ _ D.n8 e) hx λg2 ab p=>Aj ?_;have O2:IsPair g2 TO a b:=p.extBut _ _ D.n5<|g.extBut _ _ D.n2 hO;refine Aa<|BI O2 rfl<|Aa<|wpAny_updateSeq_pair O2 λg3 O3 r=>Aa<|wpAny_letGo<|Aj ?_;have ac:IsPair g3 TO x b:=O3;refine Aa (Aa (wpAny_onRaise (Aa (m:=Builtin.SmallTypes.nextOf<|.ref U) (io.next (l:=l2) (i:=k) (xs:=ys) (x:=y) (t:=t2) (h2.on λo e=>r.extBut _ _ (AN D.n6)<|p.extBut _ _ (AN D.n7)<|g.extBut _ _ D.n4 e)
  (q2.on λo e=>r.extBut _ _ D.n13<|p.extBut _ _ D.n14<|g.extBut _ _ D.n12 e) hy λg4 al C=>Aj ?_))))
 have O4:IsPair g4 TO x b:=C.extBut _ _ D.n6 ac;refine Aa<|BI O4 rfl<|Aa<|wpAny_updateSeq_pair O4 λI O5 T=>Aa<|wpAny_letGo<|Aj<|Aj ?_;have a0:IsPair I TO x y:=O5;refine Aa<|BI a0 rfl<|Aa<|wpAny_newTuple ?_;have sz:I.objs.size=s.heap.objs.size:=by rw[T.1,C.1,r.1,p.1,g.1]
 have z5:IsZip I z TI TO .ellipsis:=T.extBut _ _ (AN D.n2)<|C.extBut _ _ (AN D.n4)<|r.extBut _ _ (AN D.n2)<|p.extBut _ _ (AN D.n3) a5;have k5:∀c o,c≠z->c≠TO->c≠J->c≠U->s.heap.get? c=some o->I.get? c=some o:=λc o j a2 a3 a4 e=>T.extBut _ _ a2<|C.extBut _ _ a4<|r.extBut _ _ a2<|p.extBut _ _ a3<|g.extBut _ _ j e;have zl:z<I.objs.size:=wh z5;refine Aa (m:=Builtin.SmallTypes.ownedTupleHandOut (.ref z)<|.ref I.objs.size) ?_;unfold Builtin.SmallTypes.ownedTupleHandOut;refine Aa<|wpAny_setField_rec (show IsZip (I.push {cls:=.type "tuple",data:=.seq #[x,y]}) z TI TO .ellipsis from vc _ z5) (by simp) λg7 z7 e7=>?_;have aL:IsZip g7 z TI TO (rawInt I.objs.size):=z7;refine wpAny_setField_rec aL (by simp) λg8 z8 e8=>Aj ⟨_,rfl,?_⟩;have ba:IsZip g8 z TI TO (rawInt I.objs.size):=z8;have up:∀c o,c≠z->I.get? c=some o->g8.get? c=some o:=λc o j e=>e8.extBut _ _ j<|e7.extBut _ _ j<|vc _ e;have T8:IsPair g8 I.objs.size x y:=e8.extBut _ _ (CN zl)<|e7.extBut _ _ (CN zl)<|wn _ rfl;have jw:=q g8 (by rw[<-sz];exact ba) (up _ _ D.n2 a0) (ab.on λo e=>up _ o D.n3<|T.extBut _ _ (AN D.n5)<|C.extBut _ _ D.n7<|r.extBut _ _ (AN D.n5) e) (al.on λo e=>up _ o D.n4<|T.extBut _ _ (AN D.n6) e)
  (by rw[<-sz];exact T8) λc o j a2 a3 a4 e=>up c o j<|k5 c o j a2 a3 a4 e
 show Q (.ref I.objs.size) _;rw[sz];exact jw
def Rz{z TI TO J U:Addr}{k:Nat}{xs ys:X0}{a b:Yc}{Q:Fin->Yd->Prop}(hh:A.handled=none)(D:G6 z TI TO J U l1 l2)(hz:IsZip s.heap z TI TO .none)(hI:IsPair s.heap TI (.ref J)<|.ref U)(hO:IsPair s.heap TO a b)
 (h1:io t1 s.heap J l1 k) (h2:io t2 s.heap U l2 k) (q1:qV t1 s.heap l1 xs) (q2:qV t2 s.heap l2 ys) (g:xs[k]?=none\/ys[k]?=none)
 (q:∀h' e,(∀c o,c≠z->c≠TO->c≠J->c≠U->s.heap.get? c=some o->h'.get? c=some o)->(∃o,h'.get? e=some o/\o.cls=.type "StopIteration")->E (.ref e) {s with heap:=h'}):
 wpAny (model prog w) A (Builtin.«zip.__next__» ⟨[.ref z],[]⟩) Q E s:=by
 refine Aa (m:=field (.ref z) 2)<|Bf hz rfl (x:=.bool false) rfl<|Aa (m:=field (.ref z) 3)<|Bf hz rfl (x:=.ref TI) rfl<|Aa<|BI hI rfl ?_;refine Aa (m:=Builtin.SmallTypes.ownedTupleIsFree<|.ref z) ?_;unfold Builtin.SmallTypes.ownedTupleIsFree;refine Aa<|Bf hz rfl (x:=.none) rfl<|Aj ?_;simp only[if_true];refine Aa<|Bt<|Aa<|Bf hz rfl (x:=.ref TO) rfl<|Aa<|wpAny_setField_rec hz (by simp) λg1 z1 I=>?_;have j:IsZip g1 z TI TO .ellipsis:=z1;refine Aa ?_;simp only[DX,List.zipIdx_nil,Ce,Ep];refine Aa<|Aa<|wpAny_onRaise<|Aa (m:=Builtin.SmallTypes.nextOf<|.ref J) ?_;have p:=h1.on λo e=>I.extBut _ _ D.n3 e;have r:=q1.on λo e=>I.extBut _ _ D.n8 e;cases hx:xs[k]? with
 |none=>
  refine io.stop hh p r hx λg2 e s2 he=>?_;obtain⟨oe,ge,ce⟩:=he;have z2:IsZip g2 z TI TO .ellipsis:=s2 _ _ (AN D.n3) j;have nz:e≠z:=λw=>by subst w;rw[z2] at ge;cases ge;simp at ce
  exact wpAny_setField_rec z2 (by simp) λg3 _ s3=>q g3 e (λc o C _ a3 _ w=>s3.extBut _ _ C<|s2 _ _ a3<|I.extBut _ _ C w) ⟨oe,s3.extBut _ _ nz ge,ce⟩
 |some x=>
  have hy:ys[k]?=none:=by rcases g with h|h;rw[hx] at h;cases h;exact h
  refine io.next p r hx λg2 a0 T=>Aj ?_;have O2:IsPair g2 TO a b:=T.extBut _ _ D.n5<|I.extBut _ _ D.n2 hO;refine Aa<|BI O2 rfl<|Aa<|wpAny_updateSeq_pair O2 λg3 O3 e3=>Aa<|wpAny_letGo<|Aj ?_;refine Aa (Aa (wpAny_onRaise (Aa (m:=Builtin.SmallTypes.nextOf<|.ref U) (io.stop (t:=t2) (l:=l2) (i:=k) (xs:=ys) hh (h2.on λo e=>e3.extBut _ _ (AN D.n6)<|T.extBut _ _ (AN D.n7)<|I.extBut _ _ D.n4 e)
   (q2.on λo e=>e3.extBut _ _ D.n13<|T.extBut _ _ D.n14<|I.extBut _ _ D.n12 e) hy λg4 e s4 he=>?_))))
  obtain⟨oe,ge,ce⟩:=he;have z4:IsZip g4 z TI TO .ellipsis:=s4 _ _ (AN D.n4)<|e3.extBut _ _ (AN D.n2)<|T.extBut _ _ (AN D.n3) j;have nz:e≠z:=λw=>by subst w;rw[z4] at ge;cases ge;simp at ce
  exact wpAny_setField_rec z4 (by simp) λg5 _ s5=>q g5 e (λc o C a2 a3 a4 w=>s5.extBut _ _ C<|s4 _ _ a4<|e3.extBut _ _ a2<|T.extBut _ _ a3<|I.extBut _ _ C w) ⟨oe,s5.extBut _ _ nz ge,ce⟩
end
def Fy(t:Bool):Yi:=if t then "tuple_iterator" else "list_iterator"
section
variable {w:Yg}
def qV.iter{l:Addr}{xs:X0}(I:qV t s.heap l xs)(q:Q (.ref s.heap.objs.size) {s with heap:=s.heap.push {cls:=.type<|Fy t,data:=.fields #[.ref l,.int 0 0]}}):wpAny (model prog w) A (pyIter<|.ref l) Q E s:=by cases t with|false=>exact wpAny_pyIter_list I q|true=>exact wpAny_pyIter_tuple I q
end
def io.new{l:Addr}(e:h.get? it=some {cls:=.type<|Fy t,data:=.fields #[.ref l,.int 0 0]}):io t h it l 0:=by cases t with|false=>exact⟨_,e,rfl,rfl⟩|true=>exact⟨_,e,rfl,rfl⟩
abbrev F4(t1:Bool)(h:Yh)(l1:Addr):Yh:=h.push {cls:=.type<|Fy t1,data:=.fields #[.ref l1,.int 0 0]}
abbrev F5(t1 t2:Bool)(h:Yh)(l1 l2:Addr):Yh:=(F4 t1 h l1).push {cls:=.type<|Fy t2,data:=.fields #[.ref l2,.int 0 0]}
abbrev F6(t1 t2:Bool)(h:Yh)(l1 l2:Addr):Yh:=(F5 t1 t2 h l1 l2).push {cls:=.type "tuple",data:=.seq #[.ref h.objs.size,.ref (F4 t1 h l1).objs.size]}
abbrev F7(t1 t2:Bool)(h:Yh)(l1 l2:Addr):Yh:=(F6 t1 t2 h l1 l2).push {cls:=.type "tuple",data:=.seq #[.none,.none]}
abbrev Fe(t1 t2:Bool)(h:Yh)(l1 l2:Addr):Yh:=(F7 t1 t2 h l1 l2).push {cls:=.type "zip",data:=.fields #[.none,.bool false,.bool false,.ref (F5 t1 t2 h l1 l2).objs.size,.ref (F6 t1 t2 h l1 l2).objs.size]}
def ye(t1 t2:Bool)(l1 l2:Addr)(xs ys:X0):Meets (Builtin.«zip.__new__» ⟨[.type "zip",.ref l1,.ref l2],[]⟩) (λ_ R s=>qV t1 s.heap l1 xs/\qV t2 s.heap l2 ys/\R (.ok<|.ret<|.ref (F7 t1 t2 s.heap l1 l2).objs.size) {s with heap:=Fe t1 t2 s.heap l1 l2}):=
 .of_wp λI w A R s h=>by
  obtain⟨J,g,d,U,os⟩:=s;obtain⟨l,p,h⟩:=h;have j:=sub_zip;have r:qV t1 (Shared.heap ⟨J,g,d,U,os⟩) l1 xs:=l;have t:qV t2 (Shared.heap ⟨J.push {cls:=.type<|Fy t1,data:=.fields #[.ref l1,.int 0 0]},g,d,U,os⟩) l2 ys:=p.on λo e=>vc _ e
  wp_walk using qV.iter r,qV.iter t
  exact⟨_,rfl,h⟩
def RA{w:Yg}{xs ys:X0}(p:qV t1 s.heap l1 xs)(r:qV t2 s.heap l2 ys)
 (q:∀h',IsZip h' (s.heap.objs.size+4) (s.heap.objs.size+2) (s.heap.objs.size+3) .none->IsPair h' (s.heap.objs.size+2) (.ref s.heap.objs.size) (.ref<|s.heap.objs.size+1)->IsPair h' (s.heap.objs.size+3) .none .none->
  io t1 h' s.heap.objs.size l1 0->io t2 h' (s.heap.objs.size+1) l2 0->(∀c o,s.heap.get? c=some o->h'.get? c=some o)->Q (.ref<|s.heap.objs.size+4) {s with heap:=h'}):
 wpAny (model prog w) A (call (.type "zip") [.ref l1,.ref l2]) Q E s:=by
 refine callType_new F.called_zip (by decide) (F.typeCall_zip_2 _ _) (F.newCall_zip_2 _ _) (λobj=>F.args_object_init_3 obj _ _) F.entry_zip_new (ye t1 t2 l1 l2 xs ys) ⟨p,r,?_⟩;have I:(F4 t1 s.heap l1).objs.size=s.heap.objs.size+1:=En ..;have J:(F5 t1 t2 s.heap l1 l2).objs.size=s.heap.objs.size+2:=by rw[En,I]
 have U:(F6 t1 t2 s.heap l1 l2).objs.size=s.heap.objs.size+3:=by rw[En,J]
 have j:(F7 t1 t2 s.heap l1 l2).objs.size=s.heap.objs.size+4:=by rw[En,U]
 have g:(Fe t1 t2 s.heap l1 l2).get? (F7 t1 t2 s.heap l1 l2).objs.size=some _:=wn _ rfl;have l:(Fe t1 t2 s.heap l1 l2).get? (F6 t1 t2 s.heap l1 l2).objs.size=some _:=vc _<|wn _ rfl;have g3:(Fe t1 t2 s.heap l1 l2).get? (F5 t1 t2 s.heap l1 l2).objs.size=some _:=vc _<|vc _<|wn _ rfl;have g2:(Fe t1 t2 s.heap l1 l2).get? (F4 t1 s.heap l1).objs.size=some _:=vc _<|vc _<|vc _<|wn _ rfl;have g1:(Fe t1 t2 s.heap l1 l2).get? s.heap.objs.size=some _:=vc _<|vc _<|vc _<|vc _<|wn _ rfl;show _/\_;rw[J,U,j] at g;rw[I,J] at g3;rw[U] at l;rw[I] at g2;rw[j];exact⟨⟨_,g,rfl⟩,q _ g g3 l (io.new g1) (io.new g2) λc o e=>vc _<|vc _<|vc _<|vc _<|vc _ e⟩
def Sq(t:Bool)(K:Ah)(H:Hp)(a:Addr)(xs:Yj):Prop:=match t with
 |false=>aH K H a xs
 |true=>dS K H a xs
section
variable {σ:L2.St}
def z0.seq{a:Addr}(I:z0 X pins σ H s)(h:Sq t X.K H a xs):∃eH:XZ,zk xs eH/\qV t s.heap a eH.toArray/\xs.length<=sizeLine:=by
 cases t with
 |false=>obtain⟨eH,v,p,z⟩:=I.list h;exact⟨eH,v,p.isList,z⟩
 |true=>obtain⟨eH,v,p,z⟩:=I.tuple h;exact⟨eH,v,p,z⟩
def z0.seq_inj{a:Addr}{ys:Yj}(I:z0 X pins σ H s)(h:Sq t X.K H a xs)(h':Sq t X.K H a ys):xs=ys:=by cases t with|false=>exact I.list_inj h h'|true=>exact I.tuple_inj h h'
end
def G7(t1 t2:Bool)(K:Ah)(a b:Addr):It:=
 ⟨λi H=>∃xs ys x y,Sq t1 K H a xs/\Sq t2 K H b ys/\xs[i]?=some x/\ys[i]?=some y,
  λi H v H'=>∃p x y,H p=none/\v=.ref p/\H'=upd H p (.tup [x,y])/\(∀xs,Sq t1 K H a xs->xs[i]?=some x)/\∀ys,Sq t2 K H b ys->ys[i]?=some y,
  λi H=>∃xs ys,Sq t1 K H a xs/\Sq t2 K H b ys/\(xs.length<=i\/ys.length<=i)⟩
def RB{P:Ye}{w:Yg}{K:Ah}(a b z TI TO l p:Addr)(D:G6 z TI TO l p a b)(d1:TI≠TO)(d2:TI≠l)(d3:TI≠p):
 yD P w K (.Tuple ml x1 tp) (G7 t1 t2 K a b) [z,TI,TO,l,p] z (λi h=>IsZip h z TI TO .none/\IsPair h TI (.ref l) (.ref p)/\(∃u v,IsPair h TO u v)/\io t1 h l a i/\io t2 h p b i) where
 mem:=by simp
 obj:=λi h ⟨U,r,⟨u,v,t⟩,C,h2⟩ c j=>by
  simp only[Ap,Bh,or_false] at j;rcases j with rfl|rfl|rfl|rfl|rfl
  ·exact⟨_,U,λv z=>by cases z⟩
  ·exact⟨_,r,λv z=>by cases z⟩
  ·exact⟨_,t,λv z=>by cases z⟩
  ·exact C.ob
  ·exact h2.ob
 keep:=λi h h' ⟨U,r,⟨u,v,t⟩,C,h2⟩ k=>⟨k z (by simp) _ U,k TI (by simp) _ r,⟨u,v,k TO (by simp) _ t⟩,C.on λo q=>k l (by simp) o q,h2.on λo q=>k p (by simp) o q⟩
 item:=by
  intro X hP hw hK j i a2 s σ H E I hf ⟨U,r,⟨u,v,t⟩,C,h2⟩ hg;subst hP hw hK;obtain⟨xs,ys,x,y,q1,q2,hx,hy⟩:=hg;obtain⟨a3,a0,p1,_⟩:=I.seq q1;obtain⟨a4,a1,p2,_⟩:=I.seq q2;obtain⟨ux,a5,ab⟩:=a0.get hx;obtain⟨uy,ac,al⟩:=a1.get hy;have hT:s.TypeIs (.ref z) "zip" := ⟨_,U,rfl⟩;unfold pyNext;refine Aa (wpAny_attempt (wpAny_callSpecial?_slot (name:="__next__") hT EQ (wpAny_call_entry EQ hT F.entry_zip_next
   (Ry D U r t C h2 p1 p2 (x:=ux) (y:=uy) (by simpa using a5) (by simpa using ac) λg1 gz gO aL ba gT gk=>Aj ⟨.ref s.heap.objs.size,rfl,wpAny_letOwnedTupleGo_zip gz λg2 bb J=>?_⟩) (F.args_zip_next_1 _))))
  have lz:z<s.heap.objs.size:=wh U;have bc:∀c∈[z,TI,TO,l,p],c<s.heap.objs.size:=λc j=>by
   simp only[Ap,Bh,or_false] at j;rcases j with rfl|rfl|rfl|rfl|rfl
   ·exact lz
   ·exact wh r
   ·exact wh t
   ·obtain⟨o,e,_⟩:=C.ob;exact wh e
   ·obtain⟨o,e,_⟩:=h2.ob;exact wh e
  have kk:∀c o,c∉[z,TI,TO,l,p]->s.heap.get? c=some o->g2.get? c=some o:=λc o g q=>by simp only[Ap,Bh,or_false,not_or] at g;exact J.extBut c o g.1<|gk c o g.1 g.2.2.1 g.2.2.2.1 g.2.2.2.2 q
  have tg:g2.get? s.heap.objs.size=some {cls:=.type "tuple",data:=.seq #[ux,uy]}:=J.extBut _ _ (CN lz) gT;refine⟨.ref s.heap.objs.size,upd H s.heap.objs.size<|.tup [x,y],?_,rfl,⟨_,x,y,I.hok.fresh<|Ak _,rfl,rfl,λzs hq=>by rw[I.seq_inj hq q1];exact hx,λzs hq=>by rw[I.seq_inj hq q2];exact hy⟩,?_,λc j=>?_⟩
  ·exact I.turnedN (t':=s.toks) kk hf (Ak _) ⟨by show 2<=sizeLine;decide,[ux,uy],.cons ab<|.cons al .nil,⟨_,tg,rfl,_,rfl⟩⟩
  ·exact⟨bb,J.extBut _ _ D.n1<|gk _ _ D.n1 d1 d2 d3 r,⟨_,_,J.extBut _ _ D.n2 gO⟩,aL.on λo q=>J.extBut _ _ D.n3 q,ba.on λo q=>J.extBut _ _ D.n4 q⟩
  ·rw[qu<|A9<|bc c j];exact(hf c j).1
 done:=by
  intro X hP hw hK j i a2 s σ H E I hf ⟨U,r,⟨u,v,t⟩,C,h2⟩ hg;subst hP hw hK;obtain⟨xs,ys,q1,q2,hl⟩:=hg;obtain⟨a3,a0,p1,_⟩:=I.seq q1;obtain⟨a4,a1,p2,_⟩:=I.seq q2;have l1:=a0.length;have l2:=a1.length;have hT:s.TypeIs (.ref z) "zip" := ⟨_,U,rfl⟩;unfold pyNext;refine Aa (wpAny_attempt (wpAny_callSpecial?_slot (name:="__next__") hT EQ (wpAny_call_entry EQ hT F.entry_zip_next
   (Rz (I.ok.hd j) D U r t C h2 p1 p2 (by rcases hl with h|h;exact .inl (by simp;lia);exact .inr (by simp;lia)) λg1 e gk he=>?_) (F.args_zip_next_1 _))))
  obtain⟨o,ho,bd⟩:=he;refine Aa<|wpAny_isInstance (T:="StopIteration") (b:=true) ⟨o,ho,bd⟩ isSubtype_stop<|Aj ⟨rfl,?_⟩;exact I.turnedL (t':=s.toks) (fp:=[z,TI,TO,l,p]) (λc o g q=>by simp only[Ap,Bh,or_false,not_or] at g;exact gk c o g.1 g.2.2.1 g.2.2.2.1 g.2.2.2.2 q) hf
 self:=λ_ _ _ _ _ ⟨U,_⟩ h=>wpAny_pyIter_zip U h
def RC(K:Ah)(ta:TA):TI:=λσ H R=>ta σ H λvs H1=>∃t1 t2 a b,vs=[.ref a,.ref b]/\(∃xs,Sq t1 K H1 a xs)/\(∃xs,Sq t2 K H1 b xs)/\R (G7 t1 t2 K a b) H1
def RE:bootBuiltins "zip"=some (.type "zip"):=by decide +kernel
def RF{a b:Expr}{ta:TA}(hg:Gl X "zip")(hm:X.mg "zip"=none)(ha:PA X [a,b] ta)(hs:starEach [a,b] X.env=[(false,eval a X.env),(false,eval b X.env)]:=by rfl)
 (g:starEach [b] X.env=[(false,eval b X.env)]:=by rfl):PI X (.Tuple ml x1 tp) (.Call (.Name "zip" p) [a,b] [] pos) (RC X.K ta):=by
 intro U s σ H R I h;refine Call_ (dD I hg hm RE (B5 (wq (ha pos U s σ H _ I h) λus J ⟨vs,H1,j,r1,q1⟩=>?_) (by rw[hs,g]) (by rw[g];rfl)));obtain⟨t1,t2,r,t,e,⟨xs,hx⟩,⟨ys,hy⟩,q⟩:=q1;subst e;obtain⟨u1,u2,rfl,C,T⟩:=zk.two r1;cases C;cases T;obtain⟨a5,_,p1,_⟩:=j.seq hx;obtain⟨ab,_,p2,_⟩:=j.seq hy;have n_:r<J.heap.objs.size:=by
  cases t1 with
  |false=>obtain⟨o,e,_⟩:=p1;exact wh e
  |true=>obtain⟨o,e,_⟩:=p1;exact wh e
 have a0:t<J.heap.objs.size:=by
  cases t2 with
  |false=>obtain⟨o,e,_⟩:=p2;exact wh e
  |true=>obtain⟨o,e,_⟩:=p2;exact wh e
 refine RA p1 p2 λg1 gz gI gO a1 a2 gk=>?_;have I2:z0 X U σ H1 {J with heap:=g1}:=j.kept (t':=J.toks) gk;refine wpAny_pyIter_zip (s:={J with heap:=g1}) gz ?_;refine⟨_,[_,J.heap.objs.size+2,J.heap.objs.size+3,J.heap.objs.size,J.heap.objs.size+1],_,_,H1,rfl,I2,RB r t _ _ _ _ _ ?_ (xH (by lia)) (xH (by lia))<|xH (by lia),⟨gz,gI,⟨_,_,gO⟩,a1,a2⟩,λc hc=>?_,q⟩
 ·have a3:@LT.lt Nat instLTNat r J.heap.objs.size:=n_;have a4:@LT.lt Nat instLTNat t J.heap.objs.size:=a0;constructor<;>exact xH (by lia)
 ·have l:J.heap.objs.size<=c:=by simp only[Ap,Bh,or_false] at hc;rcases hc with rfl|rfl|rfl|rfl|rfl<;>exact C' (by simp +arith only)
  exact j.fpOk l<|j.hok.fresh l
end L2
namespace L3
open PySem L2
def uO(I:qi):Y->qi->Prop
 |.ref a,L=>L a=I a
 |_,_=>True
theorem kH(L:qi):∀y:Y,uO L y L
 |.ref _=>rfl
 |.non=>trivial
 |.bl _=>trivial
 |.int _=>trivial
 |.str _=>trivial
 |.ty _=>trivial
 |.cd _=>trivial
 |.tup _=>trivial
 |.sq _=>trivial
def Jd{H1:Hp}(r:RV G H1 y v)(h:br L1 y=some ys):∃t p,v=.ref p/\∀H L,j5 H1 H->zu G H L->uO L1 y L->∃xs,Sq t G.K H p xs/\x8 G H ys xs:=by
 cases y with
 |tup I=>
  obtain⟨a,xs,e,s,q⟩:=r;cases h;exact⟨true,a,e,λH L t _ _=>⟨xs,dS.ts s t,q.ts t⟩⟩
 |sq I=>
  obtain⟨a,xs,e,s,q⟩:=r;cases h;exact⟨false,a,e,λH L t _ _=>⟨xs,(s.ts t).sq,q.ts t⟩⟩
 |ref a=>
  have e:=jV h;exact⟨false,a,r,λH L _ J U=>let ⟨xs,g,q⟩:=J a _<|U.trans e;⟨xs,EV g,q⟩⟩
 |_=>cases h
def yc(xs ys:List Y):List Y:=List.zipWith (λa b=>Y.tup [a,b]) xs ys
def zN{xs:List Y}(h:(yc xs ys)[i]?=some y):∃a b,xs[i]?=some a/\ys[i]?=some b/\y=.tup [a,b]:=by
 unfold yc at h;rw[List.getElem?_zipWith] at h;cases I:xs[i]? with
 |none=>rw[I] at h;simp at h
 |some a=>
  cases J:ys[i]? with|none=>rw[I,J] at h;simp at h|some b=>rw[I,J] at h;simp at h;exact⟨a,b,rfl,rfl,h.symm⟩
def oR(xs ys:List Y):(yc xs ys).length=min xs.length ys.length:=by simp[yc]
def yk{a b:Addr}{xs:List Y}{keep:qi->Prop}(h1:∀H L,j5 H₀ H->zu G H L->keep L->∃us,Sq t1 G.K H a us/\x8 G H xs us)(h2:∀H L,j5 H₀ H->zu G H L->keep L->∃us,Sq t2 G.K H b us/\x8 G H ys us):
 dU G H₀ (G7 t1 t2 G.K a b) (yc xs ys) keep where
 go:=λi H L t I J hi=>by obtain⟨us,g,j⟩:=h1 H L t I J;obtain⟨U,l,o⟩:=h2 H L t I J;rw[oR] at hi;have l1:=j.length;have l2:=o.length;exact⟨us,U,us[i]'(by lia),U[i]'(by lia),g,l,Ag _,Ag _⟩
 yld:=λi H L x H' y t I J hy ⟨p,u,v,r,e1,e2,f1,f2⟩=>by subst e1 e2;obtain⟨us,g,j⟩:=h1 H L t I J;obtain⟨U,l,o⟩:=h2 H L t I J;obtain⟨c,d,ec,ed,rfl⟩:=zN hy;obtain⟨u',eu,ru⟩:=j.get ec;obtain⟨v',ev,rv⟩:=o.get ed;have C:=f1 us g;rw[eu] at C;cases C;have T:=f2 U l;rw[ev] at T;cases T;exact⟨EF r,I.skip r,p,_,rfl,dS.of j6,⟨_,_,rfl,ru.ts<|EF r,_,_,rfl,rv.ts<|EF r,rfl⟩⟩
 stop:=λH L t I J=>by obtain⟨us,g,j⟩:=h1 H L t I J;obtain⟨U,l,o⟩:=h2 H L t I J;have l1:=j.length;have l2:=o.length;exact⟨us,U,g,l,by rw[oR];lia⟩
def RG(ta:ef)(τ:jc)(L:qi)(R:List Y->(qi->Prop)->qi->Prop):Prop:=ta τ L λvs L1=>match vs with
 |[x,y]=>iA L1 x λxs=>iA L1 y λys=>R (yc xs ys) (λL=>uO L1 x L/\uO L1 y L) L1
 |_=>False
def RH{a b:Expr}(hg:Gl X "zip")(hm:X.mg "zip"=none)(ha:QA X [a,b] tr)(hs:starEach [a,b] X.env=[(false,eval a X.env),(false,eval b X.env)]:=by rfl)
 (g:starEach [b] X.env=[(false,eval b X.env)]:=by rfl):QI X (.Tuple ml x1 tp) (.Call (.Name "zip" p) [a,b] [] pos) (RG tr):=PI.imq (RF hg hm ha hs g) λσ H R τ L R3 rs U z k=>by
 refine⟨τ,L,_,rs,U,z,λvs j ys l t1 I o J=>?_⟩;split at J
 ·rename_i x y;obtain⟨u,v,rfl,ru,rv⟩:=o.inv2;obtain⟨xs,ex,J⟩:=wo J;obtain⟨zs,ez,J⟩:=wo J;obtain⟨r,p1,rfl,k1⟩:=Jd ru ex;obtain⟨C,p2,rfl,k2⟩:=Jd rv ez;obtain⟨us,s1,_⟩:=k1 j l (ED _) I<|kH _ _;obtain⟨ws,s2,_⟩:=k2 j l (ED _) I<|kH _ _;exact⟨r,C,p1,p2,rfl,⟨us,s1⟩,⟨ws,s2⟩,k _ j _ _ l t1 I (yk (λH L t U T=>k1 H L t U T.1) λH L t U T=>k2 H L t U T.2) J⟩
 ·exact J.elim
def Je(xs:List Y)(L:qi)(Q:YK):Prop:=match xs with
 |[x]=>iA L x λys=>∀p,L p=none->Q (.ref p) (qg L p<|.lst ys)
 |_=>False
def nX :zq X (.type "list") (b_ X.g3 Je):=EM uM λt H Q C L T U I z k=>by
 unfold Je at z;split at z
 ·rename_i x;obtain⟨u,rfl,g⟩:=U.inv1;obtain⟨zs,j,z⟩:=wo z;obtain⟨p,o,e,sq,r⟩:=tw I g j;subst e;exact⟨p,o,rfl,sq,λl J=>k _ _ _ _ (EF J) (I.newL J r) (by rfl)<|z l<|I.none J⟩
 ·exact z.elim
def vm{T:Yi}{r:List Y->qi->YK->Prop}(hc:zq X (.type T)<|b_ X.g3 r)(U:Gl X x)(g:X.mg x=none)(j:bootBuiltins x=some (.type T))(h:QA X (e::es) tr)
 (l:x ≠ "__name__" := by decide) (hd:Ex x:=by decide) (hs:Eu e es X:=by rfl) (o:Ew pos es X:=by rfl):
 QE X (.Call (.Name x p) (e::es) [] pos) (rD r tr):=EH (iy hc U g j h l hd hs o) λσ H Q t L C rs rl z k=>
 ⟨t,L,_,rs,rl,z,λvs H1 ys L1 t1 I J z1=>⟨ys,L1,C,J,I,z1,k.ts t1⟩⟩
def tN(x:Y)(vs:List Y)(L:qi)(Q:YK):Prop:=match x,vs with
 |.ref a,[.int i]=>cb L a λys=>0<=i/\i<ys.length/\c_ L (λv L=>Q v<|qg L a<|.lst<|ys.eraseIdx i.toNat) (ys[i.toNat]?)
 |_,_=>False
def RI :gG X "list.pop" (m_ X.g3 tN):=λJ s l H x xs v o Q I p t ⟨y,ys,L,Q3,C,T,j,z,k⟩=>by
 unfold tN at z;split at z
 ·rename_i a i;obtain⟨zs,e,h0,h1,z⟩:=xb z;obtain⟨ws,U,r⟩:=j a _ e;obtain⟨i',rfl,ri⟩:=T.inv1;cases ri;cases g:zs[i.toNat]? with
  |none=>rw[g] at z;exact z.elim
  |some w=>
   rw[g] at z;obtain⟨u,eu,ru⟩:=r.get g;obtain⟨_,_,_,hz⟩:=I.list<|EV U;have hl:=r.length;have hs:sizeLine<2 ^ 62:=by decide
   refine P_ J s l H x _ v o Q I p t ⟨a,ws,i,i.toNat,u,C,rfl,U,by lia,by lia,?_,eu,k _ _ _ _ (ER U) (j.setL U<|r.eraseIdx _) (ru.ts<|ER U) z⟩;unfold seqIndex?;rw[AA (show ¬i<0 by lia),AF (by simp;lia)]
 ·exact z.elim
def bp(I:QE X o to)(J:QA X (e::es) tr)(U:z_ X o e es "pop" apos fm:=by exact⟨rfl,rfl,rfl,rfl,rfl⟩):
 QE X (.Call (.Attribute o "pop" apos) (e::es) [] fm) (lO tN to tr):=sM PySem.F.slot_list_pop PySem.F.type_list_pop RI I J U
end L3
namespace L2
open PySem PySem.Spec PyProof.Rows
def F8(i:Int)(n d:Nat):max 0 (min (if i<0 then i+(n:Int) else i) n)=((HT.sIx n d (some i):Nat):Int):=by
 simp only[HT.sIx];by_cases h:i<0
 ·simp only[h,if_true]<;>lia
 ·simp only[h,if_false]<;>lia
def RJ(l u:X9)(n:Nat):Builtin.Str.strSliceIndices l u 1 n=(List.range<|HT.sIx n n u-HT.sIx n 0 l).map (HT.sIx n 0 l+·):=by
 have z:(0:Int)=((HT.sIx n 0 none:Nat):Int):=rfl;have y:(n:Int)=((HT.sIx n n none:Nat):Int):=rfl;unfold Builtin.Str.strSliceIndices;cases l with
 |none=>
  cases u with
  |none=>exact sliceRange_one 0 n
  |some j=>
   show sliceRange 0 (max 0<|min (if j<0 then j+(n:Int) else j) n) 1=_;rw[F8 j n n];exact sliceRange_one 0 _
 |some i=>
  cases u with
  |none=>
   show sliceRange (max 0<|min (if i<0 then i+(n:Int) else i) n) n 1=_;rw[F8 i n 0];exact sliceRange_one _ n
  |some j=>
   show sliceRange (max 0<|min (if i<0 then i+(n:Int) else i) n) (max 0<|min (if j<0 then j+(n:Int) else j) n) 1=_;rw[F8 i n 0,F8 j n n];exact sliceRange_one _ _
def eY(x:Str)(l u:X9):(Txt.slice x l u).cps.toList=(x.cps.toList.drop<|HT.sIx x.length 0 l).take (HT.sIx x.length x.length u-HT.sIx x.length 0 l):=by
 have U:x.length=x.cps.toList.length:=by simp[Str.length]
 have I:=pick_run x.cps (HT.sIx x.length 0 l)<|HT.sIx x.length x.length u-HT.sIx x.length 0 l;unfold Txt.slice;rw[RJ];split
 ·rename_i h;simp only[beq_self_eq_true,Bool.true_and,Ab,Ci,beq_iff_eq] at h;have g:=HT.sIx_le x.length 0 (A3 _) l;have j:=HT.sIx_le x.length x.length (Ak _) u;have J:HT.sIx x.length 0 l=0:=by lia
  rw[h,J,Df,AY (by exact vQ)]
 ·show(List.filterMap (λi=>x.cps[i]?) _).toArray.toList=_;rw[List.toList_toArray];exact I
def RK:V->X9->X9->Hp->VK->Prop:=λx lo hi H Q=>∃z,x=.str z/\z.length<=sizeLine/\Q (.str<|Txt.slice z lo hi) H
def ane:uP X RK:=by
 rintro J s σ H x v U g lo j sl Q I o p r C⟨z,rfl,T,q⟩;obtain⟨t,rfl⟩:=o;obtain⟨l,rfl,hl⟩:∃l:Option (Int×Tok),U=partValue l/\l.map (·.1)=lo:=by cases r with|none=>exact⟨none,rfl,rfl⟩|int i t=>exact⟨some (i,t),rfl,rfl⟩
 obtain⟨u,rfl,hu⟩:∃u:Option (Int×Tok),g=partValue u/\u.map (·.1)=j:=by cases C with|none=>exact⟨none,rfl,rfl⟩|int i t=>exact⟨some (i,t),rfl,rfl⟩
 subst hl hu;refine⟨"str",_,F.slot_str_getitem.lookup,typeIs_str _ _ _,j4 I.tk<|wpAny_getItem_str_slice (l:=l) (u:=u) (st:=none) p rfl ?_⟩;exact post_val_or_str ⟨AE (Txt.slice_le z _ _) T,λt' k ht=>⟨.str _,H,I.tok _,⟨t',rfl⟩,q⟩⟩
def xJ{zs:X4}:∀{us:XZ},zk (zs.map V.str) us->StrsAre us zs:=by
 induction zs with
 |nil=>intro us r;rw[CA] at r;cases r;exact .nil
 |cons z zs I=>
  intro us r;rw[AD] at r;cases r with
  |cons J U=>
   obtain⟨t,e⟩:=J;subst e;exact .cons z t<|I U
def RL(K:Ah):V->Yj->Hp->VK->Prop:=λx vs H Q=>∃z a zs,x=.str z/\vs=[.ref a]/\aH K H a ((zs:X4).map V.str)/\(zs.map (·.length)).sum+zs.length*z.length<=16777216/\Q (.str<|Txt.join z zs) H
def RM:gG X "str.join" (RL X.K):=by rintro J s σ H x vs v us Q I U g⟨z,a,zs,rfl,rfl,j,l,q⟩;obtain⟨t,rfl⟩:=U;obtain⟨u,rfl,o⟩:=g.one;cases o;obtain⟨C,r,p,_⟩:=I.list j;exact j4 I.tk<|PyProof.Rows.join_list p.isList (by simpa using xJ r) l λT k ht=>⟨.str _,H,I.tok _,⟨T,rfl⟩,q⟩
end L2
namespace L3
open PySem L2
def RN(x:Y)(lo hi:X9)(L:qi)(Q:YK):Prop:=match x with
 |.str z=>z.length<=sizeLine/\Q (.str<|Txt.slice z lo hi) L
 |x=>IB x lo hi L Q
def eE(K:Ah)(P:Ye)(w:Yg)(U:X.K=K:=by rfl)(g:X.prog=P:=by rfl)(hw:X.w=w:=by rfl):uP X (F2 ⟨K,P,w⟩ RN):=by refine uP.imp (ane.or<|Q8 K P w U g hw) λx lo l H Q ⟨y,L,j,I,J,z,k⟩=>?_;cases y with|str s=>exact .inl ⟨s,I,z.1,k _ H _ L (ED _) J (by rfl) z.2⟩|_=>exact .inr ⟨_,L,j,I,J,z,k⟩
def G8(r:Y->List Y->qi->YK->Prop)(to:jp)(t:ef)(τ:jc)(L:qi)(Q:YK):Prop:=to τ L λx L1=>match x with
 |.str z=>t τ L1 λxs L2=>r (.str z) xs L2 Q
 |_=>False
def Jf{id:Yi}{r:Y->List Y->qi->YK->Prop}(h2:Slot "str" name id)(T:typeOf (.builtin id)=pure (.type "method_descriptor"))(hm:gG X id<|m_ X.g3 r)(ho:QE X o to)(ha:QA X (e::es) tr)
 (I:z_ X o e es name apos fm:=by exact⟨rfl,rfl,rfl,rfl,rfl⟩):
 QE X (.Call (.Attribute o name apos) (e::es) [] fm) (G8 r to tr):=EH (Il PySem.F.plainAttrs_str h2 T hm ho ha I.h4 I.h5 I.h6 I.h7 I.h8) λσ H Q p L Q3 t rl z k=>
 ⟨p,L,_,t,rl,z,λv H1 y L1 C J U g=>by
  split at g
  ·rename_i s;cases U;exact⟨rfl,p,L1,_,t.ts C,J,g,λvs H2 ys L2 t2 j l z2=>⟨.str s,ys,L2,Q3,rfl,l,j,z2,k.ts<|C.trans t2⟩⟩
  ·exact g.elim⟩
theorem uU{G:G3}{H:Hp}:∀{zs:X4} {xs:Yj},x8 G H (zs.map Y.str) xs->xs=zs.map V.str
 |[],_,h=>h
 |z::r,_,⟨x,I,e,q,s⟩=>by rw[e,show x=V.str z from q,uU s];rfl
def G9(x:Y)(vs:List Y)(L:qi)(Q:YK):Prop:=match x,vs with
 |.str z,[.ref a]=>cb L a λys=>∃zs,ys=zs.map Y.str/\(zs.map (·.length)).sum+zs.length*z.length<=16777216/\Q (.str<|Txt.join z zs) L
 |_,_=>False
def RP :gG X "str.join" (m_ X.g3 G9):=gG.imq RM λx p H Q y t L C U g I z k=>by
 unfold G9 at z;split at z
 ·rename_i s a;obtain⟨T,e,j,rfl,l,z⟩:=xb z;obtain⟨ws,J,r⟩:=I a _ e;obtain⟨u,rfl,o⟩:=g.inv1;cases o;rw[uU r] at J;exact⟨s,a,j,U,rfl,EV J,l,k _ H _ L (ED _) I (by rfl) z⟩
 ·exact z.elim
def cO(I:QE X o to)(J:QA X (e::es) tr)(U:z_ X o e es "join" apos fm:=by exact⟨rfl,rfl,rfl,rfl,rfl⟩):
 QE X (.Call (.Attribute o "join" apos) (e::es) [] fm) (G8 G9 to tr):=Jf PySem.F.slot_str_join PySem.F.type_str_join RP I J U
def iB(zs:X4):(Txt.join "" zs).cps.toList=zs.flatMap λz=>z.cps.toList:=by
 have e:∀zs:X4,(Str.join "" zs).cps.toList=zs.flatMap λz=>z.cps.toList:=by
  intro zs
  induction zs with
  |nil=>rfl
  |cons z r I=>
   cases r with
   |nil=>simp[Str.join]
   |cons y r=>
    show(z ++ "" ++ Str.join "" (y::r)).cps.toList=_;have:(z ++ "" ++ Str.join "" (y::r)).cps=z.cps++#[]++(Str.join ""<|y::r).cps:=rfl;rw[this];simp only[A8,I,Bg,Array.append_empty]
 exact(Bs (λx:Str=>x.cps.toList)<|StrLaws.glued_eq_join "" zs).trans (e zs)
def RQ(K:Ah)(T S I:lv):PySem.W.kitAny K (.type T.nm) [.type S.nm,.type I.nm]=some (bS T S||bS T I):=by show(match PySem.W.kitOne K (.type T.nm) (.type S.nm) with|some true=>some true|some false=>(match PySem.W.kitOne K (.type T.nm) (.type I.nm) with|some true=>some true|some false=>some false|none=>none)|none=>none)=_;rw[ss,ss];cases bS T S<;>cases bS T I<;>rfl
def RS{T S j:lv}{a:Addr}{σ:L2.St}(I:z0 X pins σ H s)(rl:zu X.g3 H L)(r:RV X.g3 H y v)(g:zm v u)(h:y_ L y=some T)(ha:H a=some (.tup [.ty S.nm,.ty j.nm]))
 (J:∀tk,Q (.bool<|bS T S||bS T j) {s with toks:=tk}):wpAny (model X.prog X.w) A (call (.builtin "isinstance") [u,.ref a]) Q E s:=by
 obtain⟨_,a0,vs,⟨⟨oc,od,dt,sl⟩,U,h2,n,h3⟩⟩:=(show xn X.prog X.w H s.heap a (.tup [.ty S.nm,.ty j.nm]) from I.hok a _ ha);obtain⟨u1,u2,rfl,r1,r2⟩:=zk.two vs;cases (show u1=Value.type S.nm from r1);cases (show u2=Value.type j.nm from r2);cases (show oc=_ from h2);cases (show dt=_ from h3);have e:=RQ X.K T S j;cases y with
 |non=>cases h;cases r;cases (show u=Value.none from g);exact BY PySem.W.kitx_none I.kIn True.intro U e (λz=>nomatch z) J
 |bl b=>cases h;cases r;cases (show u=Value.bool b from g);exact BY PySem.W.kitx_bool I.kIn True.intro U e (λz=>nomatch z) J
 |int i=>cases h;cases r;obtain⟨t,q⟩:=(show ∃t,u=Value.int i t from g);cases q;exact BY PySem.W.kitx_int I.kIn True.intro U e (λz=>nomatch z) J
 |str x=>cases h;cases r;obtain⟨t,q⟩:=(show ∃t,u=Value.str x t from g);cases q;exact BY PySem.W.kitx_str I.kIn True.intro U e (λz=>nomatch z) J
 |tup ys=>
  cases h;obtain⟨b,l,rfl,sq,_⟩:=r;cases (show u=Value.ref b from g);obtain⟨_,_,⟨o,g1,g2,_⟩,_⟩:=I.tuple sq;exact BY Dz I.kIn ⟨o,g1,g2⟩ U e (λz=>nomatch z) J
 |sq ys=>
  cases h;obtain⟨b,l,rfl,sq,_⟩:=r;cases (show u=Value.ref b from g);obtain⟨_,_,⟨o,_,g1,g2,_⟩,_⟩:=I.list sq.sq;exact BY CG I.kIn ⟨o,g1,g2⟩ U e (λz=>nomatch z) J
 |ref b=>
  cases (show v=.ref b from r);cases (show u=Value.ref b from g);have C:(match L b with|some (.lst _)=>some lv.list|some (.dct _)=>some .dict|_=>none)=some T:=h;split at C
  ·rename_i ys el;cases C;obtain⟨l,e2,_⟩:=rl b _ el;obtain⟨_,_,⟨o,_,g1,g2,_⟩,_⟩:=I.list<|EV e2;exact BY CG I.kIn ⟨o,g1,g2⟩ U e (λz=>nomatch z) J
  ·rename_i a1 el;cases C;obtain⟨l,e2,_⟩:=rl b _ el;obtain⟨_,_,ws,_,p⟩:=(show xn X.prog X.w H s.heap b (.dK l) from I.hok b _ e2);obtain⟨o,es,ep,g1,g2,_⟩:=p;exact BY DI I.kIn ⟨o,g1,g2.1⟩ U e (λz=>nomatch z) J
  ·cases C
 |_=>cases h
def RT(G:G3)(S I:lv):Yj->Hp->VK->Prop:=λxs H Q=>∃y v L J T a,xs=[v,.ref a]/\H a=some (.tup [.ty S.nm,.ty I.nm])/\RV G H y v/\zu G H L/\y_ L y=some T/\J (.bl<|bS T S||bS T I) L/\u7 G H J Q
def RU(S g:lv):zq X (.builtin "isinstance") (RT X.g3 S g):=by rintro J s t H C us Q I r⟨y,v,L,Q3,T,a,rfl,j,l,U,ty,q,k⟩;obtain⟨u,c,rfl,o,p⟩:=zk.two r;cases (show c=Value.ref a from p);exact j4 I.tk<|RS I U l o ty j λtk ht=>⟨.bl _,H,I.tok _,rfl,k _ H _ L (ED _) U (by rfl) q⟩
def zB{a:Expr}{pt:Pos}{J I:Str}(S l:lv)(hg:Gl X "isinstance")(hm:X.mg "isinstance"=none)(o:Gl X J)(r:X.mg J=none)(t:bootBuiltins J=some (.type S.nm))(U:Gl X I)(g:X.mg I=none)(j:bootBuiltins I=some (.type l.nm))(ha:QE X a ta)
 (hn:J ≠ "__name__" := by decide) (hd:(J==("__debug__" : Str))=false:=by decide) (C:I ≠ "__name__" := by decide) (a0:(I==("__debug__" : Str))=false:=by decide)
 (hs:starEach [a,.Tuple [.Name J p1,.Name I p2] kt pt] X.env=(false,eval a X.env)::starEach [.Tuple [.Name J p1,.Name I p2] kt pt] X.env:=by rfl)
 (a1:starEach [.Tuple [.Name J p1,.Name I p2] kt pt] X.env=(false,eval (.Tuple [.Name J p1,.Name I p2] kt pt) X.env)::starEach [] X.env:=by rfl)
 (a2:starEach [.Name J p1,.Name I p2] X.env=(false,eval (.Name J p1) X.env)::starEach [.Name I p2] X.env:=by rfl) (a3:starEach [.Name I p2] X.env=(false,eval (.Name I p2) X.env)::starEach [] X.env:=by rfl)
 (hp:(backTo pos<|starEach [.Tuple [.Name J p1,.Name I p2] kt pt] X.env).any (·.1)=false:=by rfl):
 QE X (.Call (.Name "isinstance" p) [a,.Tuple [.Name J p1,.Name I p2] kt pt] [] pos) (QD S l ta):=by
 refine ES (ny (RU S l) hg hm fe (aR ha (aR (HZ<|aR (GQ o r t hn hd) (aR (GQ U g j C a0) fq a3) a2) fq a1) hs) (by decide) (by decide) hs hp) ?_;rintro σ H Q ⟨τ,L,Q3,rs,rl,z,k⟩;refine⟨τ,L,_,rs,rl,z,λv H1 y L1 t1 a4 a5 z1=>?_⟩;obtain⟨T,et,z1⟩:=ur z1;refine⟨by show 2<=sizeLine;decide,λq hq=>?_⟩;exact⟨y,v,L1,Q3,T,q,rfl,j6,a5.ts<|EF hq,a4.skip hq,et,z1,k.ts<|t1.trans<|EF hq⟩
inductive rh(t u:dR)(D:xu)(τ:jc)(L:qi):Prop
 |mk:∀J:jc->qi->Prop,t {D with nx:=J} τ L->(∀τ' L',J τ' L'->u D τ' L')->rh t u D τ L
def x6{rest:X6}{t u:dR}(h:QS X st t)(k:d_ X rest u):d_ X (st::rest) (rh t u):=mH.imp (uT h k) λD σ H ⟨o,L,j,p,r,⟨J,z,q⟩,k⟩=>
 ⟨o,L,{j with nx:=J},p,r,z,λC H1 I l T U g z1=>⟨I,l,j,U,g,q I l z1,k.ts T⟩,k.rt,k.bk,k.ct⟩
section
variable {E3:X3}
end
section
variable {cp:Pos}
end
section
variable {a:Expr}{pt:Pos}{vs:Yj}
end
def RW(_:xu)(_:jc)(_:qi):Prop:=False
def av :QS X st RW:=λ_ _ _ _ _ _ ⟨_,_,_,_,_,z,_⟩=>z.elim
open PySem L2 PySem.W
section
variable {K:Frag}{D:Addr}{t c:Yc}{b:Bool}
end
end L3
namespace L2
open PySem PySem.Spec PyProof.Rows
def PCh(X:Cx)(ops:List CmpOp)(es:X5)(t:V->TE):Prop:=∀(pos:Pos) (pins:List<|Addr×Obj) (s:Yd) (σ:St) (H:Hp) (x:V) (v:Yc) (Q:VK),z0 X pins σ H s->zm x v->t x σ H Q->wpAny (model X.prog X.w) X.A (compareChain pos v ops<|evalEach es X.env) (EP X pins σ Q) X.xe s
def jN(X:Cx)(ops:List CmpOp)(es:X5)(t:V->TE):Prop:=∀(pos:Pos) (pins:List<|Addr×Obj) (s:Yd) (σ:St) (H:Hp) (x:V) (v:Yc) (Q:Bool->Hp->Prop),z0 X pins σ H s->zm x v->(t x σ H λz H'=>∃k,z=.bl k/\Q k H')->wpAny (model X.prog X.w) X.A (testChain pos v ops<|evalEach es X.env) (TP X pins σ Q) X.xe s
def G'(r:R2)(tb:TE):V->TE:=λx σ H Q=>tb σ H λy H1=>r x y H1 Q
def Ha(r:R2)(tb:TE)(u:V->TE):V->TE:=λx σ H Q=>tb σ H λy H1=>r x y H1 λz H2=>∃k,z=.bl k/\(if k=true then u y σ H2 Q else Q (.bl false) H2)
section
variable {a b:Expr}{ta tb:TE}{op lw:CmpOp}{ops:List CmpOp}{r:R2}{u:V->TE}
def RX(g:k8 X (compareOp op) r)(j:PE X b tb):PCh X [op] [b] (G' r tb):=by intro pos J s U H x v Q I l h;exact chain_last<|wq (j J s U H _ I h) λo p ⟨y,t,C,T,q1⟩=>g J p U t x y v o Q C l T q1
def RY(t:k8 X (compareOp op) r)(C:PE X b tb)(T:PCh X (lw::ops) (c::es) u):PCh X (op::lw::ops) (b::c::es) (Ha r tb u):=by intro pos J s U H x v Q I rx h;refine chain_link<|wq (C J s U H _ I h) λg s1 ⟨y,H1,I1,j,q1⟩=>wq (t J s1 U H1 x y v g _ I1 rx j q1) λd s2 ⟨z,l,o,r2,k,e,p⟩=>?_;subst e;cases r2;refine wpAny_truthy_bool ?_;cases k with|false=>exact ite_ff ⟨.bl false,l,o,rfl,p⟩|true=>exact ite_tt<|T pos J s2 U l y g Q o j p
def RZ(U:PE X a ta)(h:PCh X (op::lw::ops) (b::c::es) u)(g:lastMarks (op::lw::ops) (b::c::es)=false):PE X (.Compare a (op::lw::ops) (b::c::es) pos) (λσ H Q=>ta σ H λx H1=>u x σ H1 Q):=by intro J s σ H Q I j;exact Compare_chain (wq (U J s σ H _ I j) λv l ⟨x,H1,o,p,r⟩=>h pos J l σ H1 x v Q o p r) g
def R4(g:k8 X (compareOp op) r)(j:PE X b tb):jN X [op] [b] (G' r tb):=by intro pos J s U H x v Q I l h;refine test_last<|wq (j J s U H _ I h) λo p ⟨y,t,C,T,q1⟩=>wq (g J p U t x y v o _ C l T q1) λd s2 ⟨z,H2,I2,r2,k,e,q2⟩=>?_;subst e;cases r2;exact wpAny_truthy_bool ⟨H2,I2,q2⟩
def R5(t:k8 X (compareOp op) r)(C:PE X b tb)(T:jN X (lw::ops) (c::es) u):jN X (op::lw::ops) (b::c::es) (Ha r tb u):=by
 intro pos J s U H x v Q I rx h;refine test_link<|wq (C J s U H _ I h) λg s1 ⟨y,H1,I1,j,q1⟩=>wq (t J s1 U H1 x y v g _ I1 rx j q1) λd s2 ⟨z,l,o,r2,k,e,p⟩=>?_;subst e;cases r2;refine wpAny_truthy_bool ?_;cases k with
 |false=>
  obtain⟨k',e',q'⟩:=p;cases e';exact ite_ff ⟨l,o,q'⟩
 |true=>exact ite_tt<|T pos J s2 U l y g Q o j p
def R6(U:PE X a ta)(h:jN X (op::lw::ops) (b::c::es) u)(g:lastMarks (op::lw::ops) (b::c::es)=false):PT X (.Compare a (op::lw::ops) (b::c::es) pos) (GH λσ H Q=>ta σ H λx H1=>u x σ H1 Q):=by intro J s σ H Q I j;exact isTrue_chain (wq (U J s σ H _ I j) λv l ⟨x,H1,o,p,r⟩=>h pos J l σ H1 x v Q o p r) g
end
end L2
namespace L3
open PySem L2
def yw(ta:jp)(u:Y->jp)(τ:jc)(L:qi)(Q:YK):Prop:=ta τ L λx L1=>u x τ L1 Q
def Hb(r:mQ)(tb:jp)(x:Y)(τ:jc)(L:qi)(Q:YK):Prop:=tb τ L λy L1=>r x y L1 Q
def Hc(r:mQ)(tb:jp)(u:Y->jp)(x:Y)(τ:jc)(L:qi)(Q:YK):Prop:=tb τ L λy L1=>r x y L1 λz L2=>match z with
 |.bl k=>wb k (u y τ L2 Q)<|Q (.bl false) L2
 |_=>False
def i_(G:G3)(u:Y->jp):V->TE:=λx σ H Q=>∃y τ L I,RV G H y x/\xo G H σ τ/\zu G H L/\u y τ L I/\u7 G H I Q
def PCh.imp{ops:List CmpOp}{t u:V->TE}(h:PCh X ops es t)(q:∀x σ H Q,u x σ H Q->t x σ H Q):PCh X ops es u:=λpos J s σ H x v Q I r z=>h pos J s σ H x v Q I r<|q _ _ _ _ z
def jN.imp{ops:List CmpOp}{t u:V->TE}(h:jN X ops es t)(q:∀x σ H Q,u x σ H Q->t x σ H Q):jN X ops es u:=λpos J s σ H x v Q I r z=>h pos J s σ H x v Q I r<|q _ _ _ _ z
def Jg{r:mQ}(x:V)(σ:L2.St)(H:Hp)(Q:VK):i_ G (Hb r tb) x σ H Q->G' (dQ G r) (pM G tb) x σ H Q:=λ⟨y,g,L,j,l,o,p,z,k⟩=>
 ⟨g,L,_,o,p,z,λv H1 t C U I J T=>⟨y,t,C,j,l.ts U,J,I,T,k.ts U⟩⟩
def Jh{r:mQ}{u:Y->jp}(x:V)(σ:L2.St)(H:Hp)(Q:VK):i_ G (Hc r tb u) x σ H Q->Ha (dQ G r) (pM G tb) (i_ G u) x σ H Q:=λ⟨y,j,L,l,rv,T,rl,z,k⟩=>
 ⟨j,L,_,T,rl,z,λv H1 o L1 U p I z1=>⟨y,o,L1,_,rv.ts U,I,p,z1,λv2 H2 y2 L2 g J t z2=>by
  cases y2 with
  |bl C=>
   refine⟨C,t,?_⟩;have z3:wb C (u o j L2 l) (l (.bl false) L2):=z2;cases C with|true=>rw[AF rfl];exact⟨o,j,L2,l,I.ts g,T.ts<|U.trans g,J,z3,k.ts<|U.trans g⟩|false=>rw[AA AL];exact k _ H2 _ L2 (U.trans g) J (by rfl) z3
  |_=>exact z2.elim⟩⟩
section
variable {a b:Expr}{op lw:CmpOp}{ops:List CmpOp}{r:mQ}{u:Y->jp}
def dh(I:k8 X (compareOp op)<|dQ X.g3 r)(J:QE X b tb):PCh X [op] [b] (i_ X.g3<|Hb r tb):=PCh.imp (RX I J) Jg
def dz(I:k8 X (compareOp op)<|dQ X.g3 r)(J:QE X b tb)(U:PCh X (lw::ops) (c::es)<|i_ X.g3 u):PCh X (op::lw::ops) (b::c::es) (i_ X.g3<|Hc r tb u):=PCh.imp (RY I J U) Jh
def rB(I:k8 X (compareOp op)<|dQ X.g3 r)(J:QE X b tb):jN X [op] [b] (i_ X.g3<|Hb r tb):=jN.imp (R4 I J) Jg
def jL(I:k8 X (compareOp op)<|dQ X.g3 r)(J:QE X b tb)(U:jN X (lw::ops) (c::es)<|i_ X.g3 u):jN X (op::lw::ops) (b::c::es) (i_ X.g3<|Hc r tb u):=jN.imp (R5 I J U) Jh
def uk(σ:L2.St)(H:Hp)(Q:VK):pM G (yw ta u) σ H Q->(λσ H Q=>pM G ta σ H λx H1=>i_ G u x σ H1 Q) σ H Q:=λ⟨U,L,l,g,o,z,k⟩=>
 ⟨U,L,_,g,o,z,λv H1 y p j I J r=>⟨y,U,p,l,J,g.ts j,I,r,k.ts j⟩⟩
def dq(I:QE X a ta)(h:PCh X (op::lw::ops) (b::c::es)<|i_ X.g3 u)(J:lastMarks (op::lw::ops) (b::c::es)=false:=by with_unfolding_all rfl):QE X (.Compare a (op::lw::ops) (b::c::es) pos) (yw ta u):=ES (RZ I h J) uk
def wL(J:QE X a ta)(h:jN X (op::lw::ops) (b::c::es)<|i_ X.g3 u)(U:lastMarks (op::lw::ops) (b::c::es)=false:=by with_unfolding_all rfl):QT X (.Compare a (op::lw::ops) (b::c::es) pos) (yB<|yw ta u):=
 PT.imp (R6 J h U) λI H Q q=>uk I H _<|GZ I H Q q
end
end L3
namespace L2
open PySem PySem.Spec PyProof.Rows
theorem tR:∀{bs:List Bool} {us:XZ},zk (bs.map V.bl) us->us=bs.map Value.bool
 |[],_,.nil=>rfl
 |b::bs,_,.cons r t=>by cases (show _=Value.bool b from r);rw[tR t];rfl
def R7(hc:X.calm=true:=by rfl):zq X (.builtin "all") (λxs H Q=>∃(a:Addr) (bs:List Bool),xs=[.ref a]/\aH X.K H a (bs.map V.bl)/\Q (.bl<|bs.all id) H):=by
 rintro l s σ H xs us Q I r⟨a,bs,rfl,sq,q⟩;obtain⟨u,rfl,o⟩:=lG r;cases o;obtain⟨p,t,C,_⟩:=I.list sq;cases tR t;have g:=jt C;have j:a<s.heap.objs.size:=by obtain⟨_,e,_⟩:=g;exact wh e
 refine j4 I.tk<|call_all_walk<|wpAny_pyIter_list g ?_;refine⟨s.heap.objs.size,[s.heap.objs.size,a],[s.heap.objs.size],(bs.map Value.bool).toArray.size,_,_,λi=>(bs[i]?).getD true,rfl,Walks.list (A:=X.A.in1) (I.ok.hd hc) _ a (A9 j) (bs.map Value.bool).toArray,
  ⟨⟨_,wn _ rfl,rfl,rfl⟩,g.push _⟩,λi v T Q' E' J U=>?_,λh' tk hk ht=>?_⟩
 ·have J:(bs.map Value.bool).toArray[i]?=some v:=J;rw[List.getElem?_toArray,Ai] at J;obtain⟨b,e,rfl⟩:=Am.mp J;have U:Q' ((bs[i]?).getD true) T:=U;rw[e] at U;exact wpAny_truthy_bool U
 ·have e:((List.range (bs.map Value.bool).toArray.size).all λi=>(bs[i]?).getD true)=bs.all id:=by rw[As,Ab];exact PyProof.Rows.LSm.range_all bs
  rw[e];exact⟨.bl _,H,I.kept (h':=h') (t':=tk)<|DB hk,rfl,q⟩
def R8(hc:X.calm=true:=by rfl):zq X (.builtin "any") (λxs H Q=>∃(a:Addr) (bs:List Bool),xs=[.ref a]/\aH X.K H a (bs.map V.bl)/\Q (.bl<|bs.any id) H):=by
 rintro l s σ H xs us Q I r⟨a,bs,rfl,sq,q⟩;obtain⟨u,rfl,o⟩:=lG r;cases o;obtain⟨p,t,C,_⟩:=I.list sq;cases tR t;have g:=jt C;have j:a<s.heap.objs.size:=by obtain⟨_,e,_⟩:=g;exact wh e
 refine j4 I.tk<|call_any_walk<|wpAny_pyIter_list g ?_;refine⟨s.heap.objs.size,[s.heap.objs.size,a],[s.heap.objs.size],(bs.map Value.bool).toArray.size,_,_,λi=>(bs[i]?).getD false,rfl,Walks.list (A:=X.A.in1) (I.ok.hd hc) _ a (A9 j) (bs.map Value.bool).toArray,
  ⟨⟨_,wn _ rfl,rfl,rfl⟩,g.push _⟩,λi v T Q' E' J U=>?_,λh' tk hk ht=>?_⟩
 ·have J:(bs.map Value.bool).toArray[i]?=some v:=J;rw[List.getElem?_toArray,Ai] at J;obtain⟨b,e,rfl⟩:=Am.mp J;have U:Q' ((bs[i]?).getD false) T:=U;rw[e] at U;exact wpAny_truthy_bool U
 ·have e:((List.range (bs.map Value.bool).toArray.size).any λi=>(bs[i]?).getD false)=bs.any id:=by rw[As,Ab];exact PyProof.Rows.LSm.range_any bs
  rw[e];exact⟨.bl _,H,I.kept (h':=h') (t':=tk)<|DB hk,rfl,q⟩
end L2
namespace L3
open PySem L2
def xS:List Y->Option (List Bool)
 |[]=>some []
 |.bl b::r=>(xS r).map (b::·)
 |_::_=>none
def bA(bs:List Bool):xS (bs.map Y.bl)=some bs:=by induction bs with|nil=>rfl|cons b r I=>show(xS<|r.map Y.bl).map (b::·)=_;rw[I];rfl
theorem pJ{G:G3}{H:Hp}:∀{ys:List Y} {xs:Yj} {bs:List Bool},xS ys=some bs->x8 G H ys xs->xs=bs.map V.bl
 |[],_,_,h,r=>by cases h;exact r
 |y::ys,_,bs,h,⟨x,I,e,J,U⟩=>by
  cases y with
  |bl b=>
   have g:(xS ys).map (b::·)=some bs:=h;obtain⟨l,j,rfl⟩:=Am.mp g;cases (show x=V.bl b from J);rw[e,pJ j U];rfl
  |_=>cases h
def Ji(xs:List Y)(L:qi)(Q:YK):Prop:=match xs with
 |[y]=>zT y=true/\iA L y λys=>c_ L (λbs L=>Q (.bl<|List.all bs id) L)<|xS ys
 |_=>False
def Jj(xs:List Y)(L:qi)(Q:YK):Prop:=match xs with
 |[y]=>zT y=true/\iA L y λys=>c_ L (λbs L=>Q (.bl<|List.any bs id) L)<|xS ys
 |_=>False
def rR(hc:X.calm=true:=by rfl):zq X (.builtin "all") (b_ X.g3 Ji):=EM (R7 hc) λj H Q l L o J I z k=>by
 unfold Ji at z;split at z
 ·rename_i y;obtain⟨x,rfl,r⟩:=J.inv1;obtain⟨U,z⟩:=z;obtain⟨p,g,z⟩:=wo z;obtain⟨bs,eb,z⟩:=mm z;obtain⟨a,t,rfl,sq,rr⟩:=jP I r U g;cases pJ eb rr;exact⟨a,bs,rfl,sq,k _ H _ L (ED _) I (by rfl) z⟩
 ·exact z.elim
def R9(hc:X.calm=true:=by rfl):zq X (.builtin "any") (b_ X.g3 Jj):=EM (R8 hc) λj H Q l L o J I z k=>by
 unfold Jj at z;split at z
 ·rename_i y;obtain⟨x,rfl,r⟩:=J.inv1;obtain⟨U,z⟩:=z;obtain⟨p,g,z⟩:=wo z;obtain⟨bs,eb,z⟩:=mm z;obtain⟨a,t,rfl,sq,rr⟩:=jP I r U g;cases pJ eb rr;exact⟨a,bs,rfl,sq,k _ H _ L (ED _) I (by rfl) z⟩
 ·exact z.elim
def jR:bootBuiltins "all"=some (.builtin "all"):=by decide +kernel
def Sa:bootBuiltins "any"=some (.builtin "any"):=by decide +kernel
def Hd:Y->Option ja
 |.int i=>some<|.inl i
 |.str x=>some<|.inr x
 |_=>none
def wK{k:ja}(h:Hd y=some k)(r:RV G H y v):v=kV k:=by cases y with|int i=>cases h;exact r|str x=>cases h;exact r|_=>cases h
def qL(kvs:List<|ja×Y)(k:ja)(y:Y):List (ja×Y):=
 if (kvs.any λI=>decide<|I.1=k)=true then kvs.map (λI=>if I.1=k then(I.1,y) else I) else kvs++[(k,y)]
def j5.dct{p:Addr}{zs:List<|ja×V}{o:HO}(h:H p=some (.dK zs)):j5 H (upd H p o):=λa u i q=>by rw[qu ?_];exact q;rintro rfl;rw[h] at q;cases q;cases i
def Sb{kvs:List<|ja×Y}{xs:List<|ja×V}(p:Paired (λ(p:ja×Y) (q:ja×V)=>p.1=q.1/\RV G H p.2 q.2) kvs xs)(k:ja):(kvs.any λI=>decide<|I.1=k)=xs.any λI=>decide (I.1=k):=by induction p with|nil=>rfl|cons r t J=>rw[Cn,Cn,J,r.1]
def Sc{kvs:List<|ja×Y}{xs:List<|ja×V}(p:Paired (λ(p:ja×Y) (q:ja×V)=>p.1=q.1/\RV G H p.2 q.2) kvs xs)(k:ja)(r:RV G H y v):
 Paired (λ(p:ja×Y) (q:ja×V)=>p.1=q.1/\RV G H p.2 q.2) (kvs.map λI=>if I.1=k then(I.1,y) else I) (xs.map λI=>if I.1=k then(I.1,v) else I):=by
 induction p with
 |nil=>exact .nil
 |@cons a b _ _ J t U=>
  refine .cons ?_ U;obtain⟨e,q⟩:=J;dsimp only;by_cases c:a.1=k
  ·rw[AF c,AF<|e▸c];exact⟨e,r⟩
  ·rw[AA c,AA λz=>c<|e.trans z];exact⟨e,q⟩
def Sd{kvs:List<|ja×Y}{xs:List<|ja×V}(p:Paired (λ(p:ja×Y) (q:ja×V)=>p.1=q.1/\RV G H p.2 q.2) kvs xs)(k:ja)(r:RV G H y v):
 Paired (λ(p:ja×Y) (q:ja×V)=>p.1=q.1/\RV G H p.2 q.2) (kvs++[(k,y)]) (xs++[(k,v)]):=by
 induction p with|nil=>exact .cons ⟨rfl,r⟩ .nil|cons I t J=>exact .cons I J
def Se{kvs:List<|ja×Y}{xs:List<|ja×V}(p:Paired (λ(p:ja×Y) (q:ja×V)=>p.1=q.1/\RV G H p.2 q.2) kvs xs)(k:ja)(r:RV G H y v):
 Paired (λ(p:ja×Y) (q:ja×V)=>p.1=q.1/\RV G H p.2 q.2) (qL kvs k y) (dZ xs k v):=by
 unfold qL dZ;rw[Sb p k];by_cases c:(xs.any λI=>decide<|I.1=k)=true
 ·rw[AF c,AF c];exact Sc p k r
 ·rw[AA c,AA c];exact Sd p k r
def Sf{R:α->β->Prop}{l:List α}{m:List β}(p:Paired R l m):l.length=m.length:=by induction p with|nil=>rfl|cons _ _ I=>rw[Au,Au,I]
def Jk(_:jc)(L:qi)(Q:YK):Prop:=∀p,L p=none->Q (.ref p) (qg L p<|.dct [])
def gn(td ti:jp)(τ:jc)(L:qi)(Q:YK):Prop:=td τ L λx L1=>ti τ L1 λy L2=>match x,Hd y with
 |.ref a,some k=>xX L2 a λkvs=>c_ L2 Q<|aX kvs k
 |_,_=>False
def Jl(td ti tv:jp)(D:xu)(τ:jc)(L:qi):Prop:=tv τ L λv L1=>td τ L1 λx L2=>ti τ L2 λy L3=>match x,Hd y with
 |.ref a,some k=>xX L3 a λkvs=>kvs.length<sizeLine/\D.nx τ (qg L3 a<|.dct<|qL kvs k v)
 |_,_=>False
section
variable {i:Expr}{td ti tv:jp}
def Sg:QE X (.Dict [] [] pos) Jk:=EH Pm λU H Q g L j l J z k=>λp I=>by
 refine k _ _ _ (qg L p<|.dct []) (EF I) (λa u e=>?_) (by rfl)<|z p<|J.none I;by_cases c:a=p
 ·subst c;rw[q9] at e;cases e;exact⟨[],j6,.nil⟩
 ·rw[qd c] at e;exact(J a u e).keep (EF I) (qu c)
def bH(hu:X.A.units+128<cLine)(t:QE X o td)(hi:QE X i ti)(hs:GK i):QE X (.Subscript o i pos) (gn td ti):=EH (Pj (by omega) t hi hs) λσ H Q l L Q3 p C z k=>
 ⟨l,L,_,p,C,z,λv H1 x T r J U z1=>⟨l,T,_,p.ts r,J,z1,λw H2 y L2 t2 I g j=>by
  split at j
  ·rename_i a kk ek;obtain⟨a0,e,z3⟩:=pO j;obtain⟨yv,ev,q⟩:=mm z3;obtain⟨xs,e2,pr⟩:=I a _ e;obtain⟨xv,ex,rx⟩:=rj pr ev;exact⟨a,xv,U,.inl ⟨xs,kk,.inl e2,wK ek g,ex.symm⟩,k _ H2 _ L2 (r.trans t2) I rx q⟩
  ·exact j.elim⟩⟩
theorem Sh(hu:X.A.units+128<cLine)(ho:QE X o td)(hi:QE X i ti)(hv:QE X value tv)(hs:swapsWith value (some<|.Subscript o i fy) pos.line X.env=pure false:=by rfl):QS X (.Assign [.Subscript o i fy] value pos) (Jl td ti tv):=
 EJ (Pk (by omega) ho hi hv hs) λD σ H l L D3 J rl z k=>
 ⟨l,L,_,J,rl,z,λv H1 vy L1 U p r z1=>⟨l,L1,_,J.ts U,p,z1,λx H2 xy L2 g t C z2=>⟨l,L2,_,J.ts<|U.trans g,t,z2,λw H3 y L3 T I a0 z3=>by
  split at z3
  ·rename_i a kk ek;obtain⟨a1,e,hl,q⟩:=pO z3;obtain⟨xs,e2,pr⟩:=I a _ e;have j:j5 H3 (upd H3 a<|.dK<|dZ xs kk v):=j5.dct e2;cases (show x=V.ref a from C);refine⟨a,_,rfl,.inl ⟨xs,kk,e2,wK ek a0,by rw[<-Sf pr];exact hl,rfl⟩,?_⟩;refine k.nx _ _ _ _ (((U.trans g).trans T).trans j) (J.ts<|((U.trans g).trans T).trans j) (λb u eb=>?_) q;by_cases c:b=a
   ·subst c;rw[q9] at eb;cases eb;exact⟨_,j6,EE (Se pr kk<|r.ts<|g.trans T) λ_ _ ⟨h1,h2⟩=>⟨h1,h2.ts j⟩⟩
   ·rw[qd c] at eb;exact(I b u eb).keep j (qu c)
  ·exact z3.elim⟩⟩⟩
end
def Si(to ti tv:jp)(D:xu)(τ:jc)(L:qi):Prop:=tv τ L λv L1=>to τ L1 λx L2=>ti τ L2 λy L3=>match x,y with
 |.ref a,.int i=>cb L3 a λys=>c_ L3 (λj L=>D.nx τ<|qg L a<|.lst<|ys.set j v)<|s_ ys.length i
 |_,_=>False
section
variable {i:Expr}{ti tv:jp}
theorem Sj(ho:QE X o to)(hi:QE X i ti)(hv:QE X value tv)
 (ha:∀v,assign (.Subscript o i fy) X.env v=(do
  let J <-holding [v] (eval o X.env)
  let p <-holding [v,J] (eval i X.env)
  standAt fy
  holding [v,J,p] (setItem J p v)
  release [v,J,p] []):=by intro _;rfl)
 (h1:swapsWithSole [.Subscript o i fy] value pos.line X.env=pure false:=by rfl) (h2:swappedStores [.Subscript o i fy] value X.env=pure none:=by rfl)
 (h3:(assignEach [.Subscript o i fy] X.env).map (·.2)=[assign (.Subscript o i fy) X.env]:=by rfl):QS X (.Assign [.Subscript o i fy] value pos) (Si to ti tv):=
 EJ (HQ hv (Op ho hi PR ha) h1 h2 h3) λD σ H t L D3 U rl z k=>
 ⟨t,L,_,U,rl,z,λv H1 vy L1 g C T z1=>⟨t,L1,_,U.ts g,C,z1,λx H2 xy L2 l a0 a1 z2=>⟨t,L2,_,U.ts<|g.trans l,a0,z2,λw H3 y L3 t3 I a2 z3=>by
  split at z3
  ·rename_i a ii;obtain⟨ys,e,z4⟩:=xb z3;obtain⟨j,ej,q⟩:=mm z4;obtain⟨xs,e2,r⟩:=I a _ e;cases (show x=V.ref a from a1);cases (show w=V.int ii from a2);have tt:j5 H3 (upd H3 a<|.lst<|xs.set j v):=ER e2;exact⟨a,xs,ii,j,rfl,rfl,e2,by rw[<-r.length];exact ej,k.nx _ _ _ _ (((g.trans l).trans t3).trans tt) (U.ts<|((g.trans l).trans t3).trans tt) (I.setL e2<|x8.setY (T.ts<|l.trans t3) j r) q⟩
  ·exact z3.elim⟩⟩⟩
end
end L3
namespace L2
open PySem PySem.Spec PyProof.Rows
def Sk(te:TE):TE:=λσ H Q=>te σ H λx H1=>∃y,x=.str y/\y.length<=sizeLine/\Q (.str y) H1
def PJ(X:Cx)(es:X5)(t:Str->TE):Prop:=∀(pins:List<|Addr×Obj) (s:Yd) (σ:St) (H:Hp) (eA:Str) (Q:VK),z0 X pins σ H s->t eA σ H Q->wpAny (model X.prog X.w) X.A (joinParts eA<|evalEach es X.env) (EP X pins σ Q) X.xe s
def Sl:Str->TE:=λeA _ H Q=>eA.length<=sizeLine/\Q (.str eA) H
def Sm(te:TE)(u:Str->TE):Str->TE:=λeA σ H Q=>te σ H λx H1=>∃y,x=.str y/\(eA++y).length<=sizeLine/\u (eA++y) σ H1 Q
section
variable {sy r4:Expr}{te:TE}{u:Str->TE}
def Sn(h:PE X e te):PE X (.FormattedValue e (-1) none pos) (Sk te):=by intro J s g H Q I j;refine FormattedValue_plain<|wq (h J s g H _ I j) λv T ⟨x,l,U,o,y,p,r,q⟩=>?_;subst p;obtain⟨t,rfl⟩:=(show ∃t,v=Value.str y t from o);exact j4 U.tk<|formatField_str (λC tk ht=>⟨.str y,l,U.tok _,⟨C,rfl⟩,q⟩) r
def So:PJ X [] Sl:=λU s j H J Q I ⟨g,q⟩=>joinParts_nil ⟨.str J,H,I.tok _,⟨_,rfl⟩,q⟩ g
def Sr(h:PE X e te)(t:PJ X es u):PJ X (e::es) (Sm te u):=by intro J s U H g Q I j;refine joinParts_cons<|wq (h J s U H _ I j) λv l ⟨x,o,p,r,y,C,T,q⟩=>?_;subst C;obtain⟨tk,rfl⟩:=(show ∃t,v=Value.str y t from r);exact⟨T,t J l U o _ Q p q⟩
def Ss(h:PJ X (sy::r4::es) u):PE X (.JoinedStr (sy::r4::es) pos) (u Str.empty):=λJ s U H Q I g=>JoinedStr_many<|h J s U H _ Q I g
end
end L2
namespace L3
open PySem L2
def Su(te:jp)(τ:jc)(L:qi)(Q:YK):Prop:=te τ L λx L1=>match x with
 |.str y=>y.length<=sizeLine/\Q (.str y) L1
 |_=>False
def Sv(eA:Str)(_:jc)(L:qi)(Q:YK):Prop:=eA.length<=sizeLine/\Q (.str eA) L
def Sw(te:jp)(u:Str->jp)(eA:Str)(τ:jc)(L:qi)(Q:YK):Prop:=te τ L λx L1=>match x with
 |.str y=>(eA++y).length<=sizeLine/\u (eA++y) τ L1 Q
 |_=>False
def Sx(u:Str->jp)(τ:jc)(L:qi)(Q:YK):Prop:=u Str.empty τ L Q
def PJ.imp{t u:Str->TE}(h:PJ X es t)(q:∀eA σ H Q,u eA σ H Q->t eA σ H Q):PJ X es u:=λJ s σ H eA Q I z=>h J s σ H eA Q I<|q _ _ _ _ z
section
variable {sy r4:Expr}{u:Str->jp}
def yE(h:QE X e te):QE X (.FormattedValue e (-1) none pos) (Su te):=EH (Sn h) λt H Q g L C j l z k=>
 ⟨g,L,_,j,l,z,λv o y p r I J U=>by cases y with|str s=>exact⟨s,J,U.1,k _ o _ p r I (by rfl) U.2⟩|_=>exact U.elim⟩
def y9:PJ X [] (λeA=>pM X.g3<|Sv eA):=PJ.imp So λeA J H Q ⟨U,L,g,j,I,z,k⟩=>⟨z.1,k _ H _ L (ED _) I (by rfl) z.2⟩
def vf(h:QE X e te)(t:PJ X es λeA=>pM X.g3<|u eA):PJ X (e::es) (λeA=>pM X.g3<|Sw te u eA):=PJ.imp (Sr h t) λeA C H Q ⟨g,L,o,j,p,z,k⟩=>
 ⟨g,L,_,j,p,z,λv T y r l I J U=>by cases y with|str s=>exact⟨s,J,U.1,g,r,o,j.ts l,I,U.2,k.ts l⟩|_=>exact U.elim⟩
def tf(h:PJ X (sy::r4::es) λeA=>pM X.g3<|u eA):QE X (.JoinedStr (sy::r4::es) pos) (Sx u):=Ss h
end
section
variable {tv:jp}{f m:Str}{g:Addr}
end
structure He(mg:XW)(x:Str)(y:Y):Prop where
 ex:∃u,mg x=some u/\zm (fS y) u/\∀G H,RV G H y<|fS y
def Jm(t:He X.mg x y)(I:Gl X x)(hd:Ex x:=by decide):QE X (.Name x pos) (yC y):=by obtain⟨u,J,r,q⟩:=t.ex;exact EX (zX I J r hd) λH=>q X.g3 H
open PySem L2 Words
def top(i:Nat):Stmt:=PySem.Challenge.pw_oncewise_k15_written_and_read.main.body.getD i<|.Pass ⟨0,0,0,0⟩
abbrev r9:Stmt:=top 8
abbrev qQ:Stmt:=top 9
abbrev vG:Stmt:=top 10
abbrev rC:Stmt:=top 12
abbrev gx:Stmt:=top 13
abbrev nL:Stmt:=top 14
abbrev nJ:Stmt:=top 15
abbrev kQ:Stmt:=top 16
abbrev lU:Stmt:=top 17
abbrev mB:Stmt:=top 18
abbrev kZ:Stmt:=top 19
abbrev rG:Stmt:=top 20
abbrev lI:Stmt:=top 21
abbrev iX:Stmt:=top 22
abbrev wH:Stmt:=top 23
abbrev oI:Stmt:=top 24
abbrev xD:Stmt:=top 25
abbrev fb:Stmt:=top 26
abbrev iR:Stmt:=top 32
abbrev dM:Stmt:=top 33
abbrev dI:Stmt:=top 34
abbrev fi:Stmt:=top 35
abbrev pI:Stmt:=top 36
abbrev rO:Stmt:=top 37
abbrev i7:Stmt:=top 38
abbrev lM:Stmt:=top 39
abbrev f7:Stmt:=top 40
abbrev lF:Stmt:=top 41
abbrev lK:Stmt:=top 42
abbrev iD:Stmt:=top 43
abbrev lE:Stmt:=top 44
abbrev oU:Stmt:=top 45
abbrev dW:Stmt:=top 47
abbrev kK:Stmt:=top 48
abbrev nM:Stmt:=top 49
abbrev mD:Stmt:=top 50
abbrev mE:Stmt:=top 51
abbrev lB:Stmt:=top 52
abbrev fZ:Stmt:=top 53
abbrev qM:Stmt:=top 54
abbrev l6:Stmt:=top 55
abbrev lh:Stmt:=top 56
abbrev yO:Stmt:=top 57
abbrev kO:Stmt:=top 58
abbrev mF:Stmt:=top 59
abbrev da:Stmt:=top 60
abbrev dm:Stmt:=top 61
abbrev qA:Stmt:=top 62
abbrev s__law_order:Stmt:=top 63
abbrev qE:Stmt:=top 64
abbrev oW:Stmt:=top 65
abbrev kF:Stmt:=top 66
abbrev gh:Stmt:=top 67
abbrev kI:Stmt:=top 68
abbrev iI:Stmt:=top 69
abbrev vN:Stmt:=top 70
structure V_ where
 (P:Ye) (w:Yg) (K:Ah) (mg:XW) (base:Yh) (Pt:Addr)
structure B0_(V:V_):Prop where
 b_all:V.mg "all"=none
 ba:V.mg "len"=none
 b_set:V.mg "set"=none
 bg:V.mg "range"=none
 b_any:V.mg "any"=none
 be:V.mg "enumerate"=none
 bb:V.mg "sorted"=none
 bi:V.mg "int"=none
 b_isinstance:V.mg "isinstance"=none
 b_bool:V.mg "bool"=none
 bf:V.mg "list"=none
 b_tuple:V.mg "tuple"=none
 b_zip:V.mg "zip"=none
 b_str:V.mg "str"=none
 bj:V.mg "max"=none
 bh:V.mg "min"=none
 v_MOST_LETTERS:He V.mg "MOST_LETTERS" (Y.int 8)
 k_LEAF_KINDS:Fc ⟨V.K,V.P,V.w⟩ V.mg "LEAF_KINDS" qC
 k_TURNED_KINDS:Fc ⟨V.K,V.P,V.w⟩ V.mg "TURNED_KINDS" mJ
 k_LEAF_SIGNS:Fc ⟨V.K,V.P,V.w⟩ V.mg "LEAF_SIGNS" pY
 v_MOST_FIGURES:He V.mg "MOST_FIGURES" (Y.int 4)
 k_SIGN_KINDS:Fc ⟨V.K,V.P,V.w⟩ V.mg "SIGN_KINDS" qG
 k_KNOT_KINDS:Fc ⟨V.K,V.P,V.w⟩ V.mg "KNOT_KINDS" pZ
abbrev Q_(V:V_)(k:Nat)(x:Str)(ps:X4)(sp:x5):Prop:=G2 V.P V.w V.K V.mg V.base k x ps sp
def I_{a b:Expr}(I:QE X a ta)(J:QE X b tb)(U:tF b:=by exactλ_ _=>rfl):QE X (.Subscript a b pos) (a9 h_ ta tb):=QV (QY X.K X.prog X.w) I J U
def zx{t:jp}(h:QE X e t)(s:starEach [e] X.env=[(false,eval e X.env)]:=by rfl):QA X [e] (qr t jn):=xl h x9 s
def v5{f:Expr}{t u:jp}(h:QE X e t)(g:QE X f u)(s:starEach [e,f] X.env=[(false,eval e X.env),(false,eval f X.env)]:=by rfl)(r:starEach [f] X.env=[(false,eval f X.env)]:=by rfl):QA X [e,f] (qr t<|qr u jn):=xl h (zx g r) (by show _=_;rw[s,r])
def ag{f d:Expr}{t u v:jp}(h:QE X e t)(g:QE X f u)(i:QE X d v)(s:starEach [e,f,d] X.env=[(false,eval e X.env),(false,eval f X.env),(false,eval d X.env)]:=by rfl)(r:starEach [f,d] X.env=[(false,eval f X.env),(false,eval d X.env)]:=by rfl)(q:starEach [d] X.env=[(false,eval d X.env)]:=by rfl):QA X [e,f,d] (qr t<|qr u<|qr v jn):=xl h (v5 g i r q) (by show _=_;rw[s,r])
def E_{a b:Expr}(I:X.A.units+128<cLine)(J:QE X a ta)(U:QE X b tb):QT X (.Compare a [.Eq] [b] pos) (yB<|a9 (l_ false) ta tb):=jl (dH X.K X.prog X.w I) J U<|jk _
def N_{a b:Expr}(I:X.A.units+128<cLine)(J:QE X a ta)(U:QE X b tb):QT X (.Compare a [.NotEq] [b] pos) (yB<|a9 (l_ true) ta tb):=jl (IP X.K X.prog X.w I) J U<|jk _
def S_(i:Nat)(hN:X.N.Nodup)(h:QE X e te)(I:X.N[i]?=some x:=by rfl)(g:Loc X.env.scope x:=by exact Or.inl rfl)(J:swapsWith e (some<|.Name x fy) pos.line X.env=pure false:=by rfl)(U:X.fn x=true\/X.env.scope.names.lookup x=some .local:=by first|exact .inl rfl|exact .inr rfl|assumption):QS X (.Assign [.Name x fy] e pos) (vo te<|qp i):=aa (i:=i) hN I g h J U
def G_(i:Nat)(hN:X.N.Nodup)(I:X.N[i]?=some x:=by rfl)(U:Loc X.env.scope x:=by exact Or.inl rfl)(J:X.fn x=true\/X.env.scope.names.lookup x=some .local:=by first|exact .inl rfl|exact .inr rfl|assumption):QG X (.Name x pos) (qp i):=mo (i:=i) hN I U J
def C_{k:Nat}{sp:x5}(c:G2 X.prog X.w X.K X.mg X.base j x ps sp)(U:am k X.A)(g:QA X (e::es) tr)(l:j<=k:=by first|decide|exact Ak _|exact AE (by decide)<|C0 _ _)(o:Gl X x:=by rfl)(I:Ex x:=by decide)(r:Eu e es X:=by rfl)(J:Ew pos es X:=by rfl):QE X (.Call (.Name x p) (e::es) [] pos) (xw sp tr):=Rg (Cal.mono c l) U o g I r J
def J_{n:Int}{k:Nat}{q:Pos}(i:Nat)(hN:X.N[i]?=some x:=by rfl)(I:A' X.env.scope x:=by first|exact Or.inl rfl|exact Or.inr (Or.inl rfl)|exact Or.inr<|Or.inr rfl)(hd:Ex x:=by decide)(hc:Ey x:=by decide):QE X (.Subscript (.Name x p) (.Constant (.int n) k q) pos) (a9 h_ (ql i)<|yC<|.int n):=I_ (qv i hN I hd hc) qe λ_ _=>rfl
def L_{t:jp}(I:X.mg "len"=none)(h:QE X e t)(s:starEach [e] X.env=[(false,eval e X.env)]:=by rfl)(J:Gl X "len" := by rfl):QE X (.Call (.Name "len" p) [e] [] pos) (rD E8<|qr t jn):=zy (QZ X.K X.prog X.w) J I Iw (zx h s) (hs:=s)
def q_{l:X4}(h:decide l.Nodup=true:=by kernel_rfl):l.Nodup:=of_decide_eq_true h
abbrev Jn(V:V_):=Q_ V 1 "is_name" ["text"]
abbrev Ff(V:V_):=Q_ V 1 "is_leaf" ["word"]
abbrev Hf(V:V_):=Q_ V 122 "turned" ["word"]
abbrev Jo(V:V_):=Q_ V 122 "word_at" ["knots","place"]
abbrev Hg(V:V_):=Q_ V 2 "holds_leaf" ["knot"]
abbrev Hh(V:V_):=Q_ V 2 "parts_of" ["knot"]
abbrev Hi(V:V_):=Q_ V 3 "parts_in" ["knots"]
abbrev Hj(V:V_):=Q_ V 1 "places_in" ["pairs"]
abbrev F9(V:V_):=Q_ V 1 "each_once" ["places"]
abbrev Jp(V:V_):=Q_ V 3 "parts_fit" ["knots","place"]
abbrev Jq(V:V_):=Q_ V 4 "are_knots" ["knots"]
abbrev Jr(V:V_):=Q_ V 123 "is_link" ["knots","p","q"]
abbrev Js(V:V_):=Q_ V 124 "are_links" ["knots","links"]
abbrev Jt(V:V_):=Q_ V 4 "can_be_cut" ["knots","place"]
abbrev Ju(V:V_):=Q_ V 123 "is_cut" ["knots","p","q"]
abbrev Jv(V:V_):=Q_ V 124 "are_cuts" ["knots","cuts"]
abbrev Jw(V:V_):=Q_ V 1 "demand" ["holds","words"]
abbrev Jx(V:V_):=Q_ V 125 "checked_web" ["web"]
abbrev Jy(V:V_):=Q_ V 2 "shown_knot" ["knot"]
abbrev Jz(V:V_):=Q_ V 3 "written_knots" ["knots"]
abbrev JA(V:V_):=Q_ V 1 "written_pairs" ["word","pairs"]
abbrev Sy(V:V_):=Q_ V 4 "written_web" ["web"]
abbrev JB(V:V_):=Q_ V 1 "words_in" ["line"]
abbrev JC(V:V_):=Q_ V 2 "rows_in" ["text"]
abbrev JD(V:V_):=Q_ V 1 "rows_ahead" ["rows","word"]
abbrev JE(V:V_):=Q_ V 1 "is_number" ["word"]
abbrev F_(V:V_):=Q_ V 2 "number_from" ["word"]
abbrev JF(V:V_):=Q_ V 2 "leaf_from" ["word"]
abbrev JG(V:V_):=Q_ V 3 "knot_from" ["words"]
abbrev JH(V:V_):=Q_ V 4 "knots_from" ["rows"]
abbrev JI(V:V_):=Q_ V 3 "pair_from" ["row"]
abbrev Sz(V:V_):=Q_ V 126 "read_web" ["text"]
abbrev SA(V:V_):=Q_ V 1 "_law_cell_at" ["_law_script","_law_k"]
abbrev SD(V:V_):=Q_ V 125 "_law_same" ["_law_found","_law_due"]
abbrev Ga(V:V_):=Q_ V 1 "_law_mix" ["_law_cell","_law_k","_law_factor"]
abbrev JJ(V:V_):=Q_ V 1 "_law_name" ["_law_seed","_law_which"]
abbrev SE(V:V_):=Q_ V 121 "_law_word" ["_law_knots","_law_p"]
abbrev SF(V:V_):=Q_ V 121 "_law_flip" ["_law_word_here"]
abbrev SG(V:V_):=Q_ V 121 "_law_weight" ["_law_word_here"]
abbrev SH(V:V_):=Q_ V 127 "_law_mirror" ["_law_knots","_law_word_here"]
abbrev JK(V:V_):=Q_ V 1 "_law_join" ["_law_knots","_law_forest","_law_one","_law_two"]
abbrev JL(V:V_):=Q_ V 1 "_law_fold" ["_law_knots","_law_tree_here","_law_one","_law_two"]
abbrev JM(V:V_):=Q_ V 128 "_law_cut" ["_law_knots","_law_forest","_law_one","_law_two"]
abbrev JN(V:V_):=Q_ V 129 "_law_tree" ["_law_cells","_law_seed","_law_room"]
abbrev JO(V:V_):=Q_ V 1 "_law_told" ["_law_rule"]
abbrev JP(V:V_):=Q_ V 1 "_law_crossed" ["_law_knots","_law_links","_law_one","_law_two"]
abbrev SI(V:V_):=Q_ V 1 "_law_beneath" ["_law_knots","_law_cuts"]
abbrev JQ(V:V_):=Q_ V 2 "_law_recast" ["_law_knots","_law_cuts","_law_seed","_law_most"]
abbrev SJ(V:V_):=Q_ V 2 "_law_order" ["_law_knots","_law_seed"]
abbrev JR(V:V_):=Q_ V 3 "_law_gapped" ["_law_knots","_law_links","_law_cuts","_law_seed","_law_gaps"]
abbrev SK(V:V_):=Q_ V 130 "_law_web" ["_law_script","_law_seed","_law_room","_law_most"]
abbrev SM(V:V_):=Q_ V 1 "_law_copy" ["_law_web_here"]
abbrev SN(V:V_):=Q_ V 1 "_law_lines" ["_law_web_here"]
abbrev SO(V:V_):=Q_ V 1 "_law_text" ["_law_lines_here"]
abbrev SQ(V:V_):=Q_ V 2 "_law_loose" ["_law_lines_here","_law_seed"]
abbrev Fz(V:V_)(k:Nat)(N:X4)(x:Str)(st:Stmt)(f:Addr)(t:dR):Prop:=∀(eW:Yc) (A:Around) (outer:List Env) (s:Yd) (H:Hp) (E:XK),am k (A.deeper<|PyProof.Rows.envOfC x (zb st) s.heap.objs.size f eW)->N.Nodup->(A.deeper<|PyProof.Rows.envOfC x (zb st) s.heap.objs.size f eW).units+128<cLine->d_ (qO CX0 V.P V.w V.K V.mg V.base N x (zb st) f eW A outer s H E).nox (jy st) t
abbrev Hk(x:Str)(st:Stmt)(ps:X4):Prop:=∀(kV hQ pm:Yc) (an:Option Addr) (eW ct:Yc) (us:XZ),us.length=ps.length->bindArgs (PySem.W.fnOf x x (kh st) (jy st) (zb st) .none kV hQ pm an eW ct) ⟨us,[]⟩=pure (ps.zip us)
abbrev RD(x:Str)(st:Stmt)(k:Nat)(N:X4)(h:V_->Prop):=PSigma λt:dR=>∀V:V_,B0_ V->h V->∀f:Addr,Fz V k N x st f t
abbrev RR(x:Str)(st:Stmt)(k:Nat)(ps N:X4)(p:x5)(h:V_->Prop):=PSigma λt:dR=>∀V:V_,B0_ V->h V->∀(n:Nat) (f:Addr),Q_ V (n+k) x ps p->Fz V (n+k) N x st f t
def fK(i:Nat)(hi:X.N.length=i:=by rfl)(hN:(X.N++[x]).Nodup:=by exact q_)(J:∀C fp s₀ H₀,Loc (X.comp scope [x] C fp s₀ H₀).env.scope x:=by exactλ_ _ _ _=>Or.inl rfl)(I:∀C fp s₀ H₀,(X.comp scope [x] C fp s₀ H₀).env.scope.names.lookup x=some .local:=by exactλ_ _ _ _=>rfl):Fb X scope [x] (.Name x p) (qp i):=hi▸i8 hN J I
def Gb{y:Str}{I pt:Pos}(i:Nat)(hi:X.N.length=i:=by rfl)(hc:X.calm=true:=by rfl)(hN:(X.N++[x,y]).Nodup:=by exact q_)(U:∀C fp s₀ H₀,(X.comp scope [x,y] C fp s₀ H₀).env.scope.names.lookup x=some .local:=by exactλ_ _ _ _=>rfl)(J:∀C fp s₀ H₀,(X.comp scope [x,y] C fp s₀ H₀).env.scope.names.lookup y=some .local:=by exactλ_ _ _ _=>rfl)(h1:∀env,(assignEach [.Name x p,.Name y I] env).length=2:=by intro _;rfl)(h2:∀env,(assignEach [.Name x p,.Name y I] env).findIdx? (·.1)=none:=by intro _;rfl)(g:∀env,(assignEach [.Name x p,.Name y I] env).map (·.2)=assign (.Name x p) env::(assignEach [.Name y I] env).map (·.2):=by intro _;rfl)(j:∀env,(assignEach [.Name y I] env).map (·.2)=assign (.Name y I) env::(assignEach [] env).map (·.2):=by intro _;rfl):Fb X scope [x,y] (.Tuple [.Name x p,.Name y I] kt pt) (f8 2<|jx (qp i)<|jx (qp<|i+1) dF):=hi▸sP hc hN U J h1 h2 g j
open PySem.AutoSeq1 (wpAny_loadPart')
open MeetsSeq MeetsSeq2 MeetsSeq3 SeqRoads2
end L3
namespace L2
open PySem PySem.Spec PyProof.Rows
def Hl(x:Str):It:=⟨λi _=>i<x.cps.size,λi H v H'=>H'=H/\∃c,x.cps[i]?=some c/\v=.str ⟨#[c]⟩,λi _=>x.cps.size<=i⟩
def SS{P:Ye}{w:Yg}{K:Ah}(x:Str)(t:Tok)(it:Addr):yD P w K tg (Hl x) [it] it (λi h=>h.IsStrIter it "str_ascii_iterator" x t i) where
 mem:=by simp
 obj:=λi h st b U=>by
  have e:b=it:=by simpa using U
  subst e;obtain⟨o,e,c,d⟩:=st;exact⟨o,e,λv z=>by rw[d] at z;cases z⟩
 keep:=λi h l st k=>let ⟨o,e,r⟩:=st;⟨o,k it (by simp) o e,r⟩
 item:=by intro X C hw T hc i J s σ H E I p st g;subst C hw T;have g:i<x.cps.size:=g;obtain⟨f0,f1,f2,f3,f4,f5⟩:=p it (by simp);refine wpAny_pyNext_ascii_item st (c:=x.cps[i]) (by simp[g]) λl j sb=>?_;have I1:z0 X J σ H {s with heap:=l,toks:=s.toks+1}:=I.turned (λb o U e=>(sb.2 b U).trans e) f0 f1 f3 f4 f5;obtain⟨o,e,c,d⟩:=id j;exact⟨_,rfl,FI (s:={s with heap:=l,toks:=s.toks+1}) e c d (by decide) ⟨.str ⟨#[x.cps[i]]⟩,H,I1,⟨_,rfl⟩,⟨rfl,_,by simp[g],rfl⟩,j,λb U=>(p b U).1⟩⟩
 done:=by intro X C hw T hc i J s σ H E I p st g;subst C hw T;have g:x.cps.size<=i:=g;obtain⟨f0,f1,f2,f3,f4,f5⟩:=p it (by simp);exact wpAny_pyNext_ascii_end (I.ok.hd hc) st (by simp;omega) λl eb=>⟨rfl,I.turned (t':=s.toks) (λb o U e=>eb b o U e) f0 f1 f3 f4 f5⟩
 self:=λ_ _ _ _ _ st h=>wpAny_pyIter_striter_ascii st h
def SU(te:TE):TI:=λσ H R=>te σ H λv H1=>∃x,v=.str x/\x.cps.all (· < 128)=true/\R (Hl x) H1
def SV{te:TE}(j:PE X e te):PI X tg e (SU te):=by
 intro J s l H R I h;refine wq (j J s l H _ I h) λv U ⟨y,p,g,r,x,C,T,q⟩=>?_;subst C;obtain⟨t,rfl⟩:=(show ∃t,v=Value.str x t from r);refine wpAny_pyIter_ascii T ?_;refine⟨U.heap.objs.size,[U.heap.objs.size],_,_,p,rfl,g.kept (t':=U.toks) λb o e=>vc _ e,SS x t _,⟨_,wn _ rfl,rfl,rfl⟩,λb hb=>?_,q⟩;have e:b=U.heap.objs.size:=by simpa using hb
 subst e;exact g.fpOk (Ak _)<|g.hok.fresh<|Ak _
def SW{w:Yg}{y:Str}{t u:Tok}(j:(y.length==0)=false)
 (g:∀l k,l.map (·.1)=Txt.split x y->Q (.ref s.heap.objs.size) {s with heap:=s.heap.push {cls:=.type "list",data:=.seq (strValues l).toArray},toks:=k})
 (hsz:x.length<=sizeLine) (J:(Builtin.Str.partsBetween x (Builtin.Str.occurrences x y 0 x.length<|x.length+1) y.length).length<=sizeLine):
 wpAny (model prog w) A (call (.builtin "str.split") [.str x t,.str y u]) Q E s:=by
 cases I:(decide (x.length<y.length)||decide (Builtin.Str.strKind x<Builtin.Str.strKind y))
 ·cases U:(Builtin.Str.occurrences x y 0 x.length<|x.length+1).isEmpty
  ·refine call_meets F.slot_str_split (typeIs_str _ _ _) F.entry_str_split (EZ _ _) (meets_str_split_sep x y t u I j U hsz J) ?_;show wants Q E _ {s with toks:=_,heap:=s.heap.push {cls:=.type "list",data:=.seq (strsFrom s.toks<|Builtin.Str.partsBetween x (Builtin.Str.occurrences x y 0 x.length<|x.length+1) y.length).toArray}};rw[strsFrom_eq];exact g (numbered s.toks _) _<|(numbered_texts _ _).trans ((AA<|ne_true_of_eq_false I).trans<|AA<|ne_true_of_eq_false U).symm
  ·exact call_meets F.slot_str_split (typeIs_str _ _ _) F.entry_str_split (EZ _ _) (meets_str_split_not_found x y t u I j U)
    (g [(x,t)] s.toks ((AA<|ne_true_of_eq_false I).trans<|AF U).symm)
 ·exact call_meets F.slot_str_split (typeIs_str _ _ _) F.entry_str_split (EZ _ _) (meets_str_split_cannot_occur x y t u I)
   (g [(x,t)] s.toks (AF I).symm)
def SX:V->Yj->Hp->VK->Prop:=λv vs H Q=>∃x y,v=.str x/\vs=[.str y]/\(y.length==0)=false/\x.length<=100000/\∀p,H p=none->Q (.ref p) (upd H p<|.lst<|(Txt.split x y).map V.str)
theorem re:∀l:List (Str×Tok),zk ((l.map (·.1)).map V.str)<|strValues l
 |[]=>.nil
 |(x,t)::r=>.cons ⟨t,rfl⟩<|re r
def fD(x:Str)(cuts:X2)(w:Nat):(Builtin.Str.partsBetween x cuts w).length=cuts.length+1:=by unfold Builtin.Str.partsBetween;simp
theorem SY :gG X "str.split" SX:=by
 intro g s T H v vs u us Q I o p ⟨x,y,ev,U,r,hz,q⟩;subst ev U;obtain⟨t,rfl⟩:=(show ∃t,u=Value.str x t from o);obtain⟨u',rfl,t',rfl⟩:=p.one;have j:=StrLaws.occ_length_le x y 0 x.length<|x.length+1;have J:∀n,n<=200000->n<=sizeLine:=λn h=>AE h (by decide);refine j4 I.tk (SW r (λl k e ht=>?_) (J _ (by exact dP)) (J _ (by rw[fD];lia)));have C:((Txt.split x y).map V.str).length<=sizeLine:=by
  refine J _ ?_;rw[Ab];unfold Txt.split;split
  ·show 1<=200000;decide
  ·split
   ·show 1<=200000;decide
   ·rw[fD];lia
 refine⟨.ref s.heap.objs.size,_,I.lnew (t':=k) ?_ C,rfl,q _ I.fresh⟩;rw[<-e];exact re l
end L2
namespace Txs
open PySem PySem.Builtin.Str
def spl(c:Nat):X2->List (X2)
 |[]=>[[]]
 |d::r=>if d=c then []::spl c r else match spl c r with
  |[]=>[[d]]
  |h::t=>(d::h)::t
theorem spl_ex(c:Nat):∀l,∃h t,spl c l=h::t
 |[]=>⟨_,_,rfl⟩
 |d::r=>by
  unfold spl;by_cases e:d=c
  ·rw[AF e];exact⟨_,_,rfl⟩
  ·rw[AA e];obtain⟨h,t,q⟩:=spl_ex c r;rw[q];exact⟨_,_,rfl⟩
def spl_yes{c:Nat}{r:X2}(e:d=c):spl c (d::r)=[]::spl c r:=by rw[spl,AF e]
def spl_no{c:Nat}{r h:X2}{t:List<|X2}(e:¬d=c)(q:spl c r=h::t):spl c (d::r)=(d::h)::t:=by rw[spl,AA e,q]
theorem spl_app(c:Nat):∀a b,spl c (a++c::b)=spl c a++spl c b
 |[],b=>by rw[BZ,spl_yes rfl];rfl
 |d::a,b=>by
  rw[List.cons_append];have I:=spl_app c a b;by_cases e:d=c
  ·rw[spl_yes e,spl_yes e,I];rfl
  ·obtain⟨h,t,q⟩:=spl_ex c a;rw[q] at I;rw[spl_no e q,spl_no e (h:=h) (t:=t++spl c b) I];rfl
theorem spl_one{c:Nat}:∀{l:X2},c∉l->spl c l=[l]
 |[],_=>rfl
 |d::r,h=>by have q:=spl_one (c:=c) (l:=r) λz=>h<|Af _ z;exact spl_no (λe=>h (by rw[e];exact Ao ..)) q
def idx(c:Nat):Nat->X2->X2
 |_,[]=>[]
 |a,d::r=>if d=c then a::idx c (a+1) r else idx c (a+1) r
def mX(c:Nat):(⟨#[c]⟩:Str).length=1:=rfl
def S4(x:Str)(c a:Nat):subAt x ⟨#[c]⟩ a=((x.cps.toList.drop a).take 1==[c]):=by rw[StrLaws.subAt_eq];rfl
theorem yA(x:Str)(c:Nat):∀(r:X2) (a:Nat) (st:Array Nat×Nat),x.cps.toList.drop a=r->a+r.length=x.length->st.snd<=a->st.fst.size<=a->
 (forIn (List.range' a<|r.length+1) st<|StrLaws.occBody x ⟨#[c]⟩ x.length<|x.length+1).run.fst.toList=st.fst.toList++idx c a r
 |[],a,st,g,I,l,p=>by
  have I:a=x.length:=by simpa using I
  rw[BR,CP,Ce];unfold StrLaws.occBody;rw[AA (by rw[mX];omega)];simp[idx]
 |d::r,a,st,g,I,l,p=>by
  have J:x.cps.toList.drop (a+1)=r:=by rw[<-List.tail_drop,g];rfl
  have U:a+1+r.length=x.length:=by rw[<-I,Au];simp +arith only
  rw[Au,CP,Ce];have o:subAt x ⟨#[c]⟩ a=(d==c):=by rw[S4,g];simp
  unfold idx;by_cases e:d=c
  ·rw[AF e];have go:=yA x c r (a+1) (st.fst.push a,a+1) J U (Ak _) (by rw[Bl];exact vB);have j:StrLaws.occBody x ⟨#[c]⟩ x.length (x.length+1) a st=pure (ForInStep.yield (st.fst.push a,a+1)):=by unfold StrLaws.occBody;rw[AF ⟨⟨⟨by rw[Au] at I;lia,l⟩,by rw[mX];rw[Au] at I;lia⟩,by rw[o];simpa using e⟩];rfl
   rw[j];refine Eq.trans go ?_;rw[CH,Aq];rfl
  ·rw[AA e];have go:=yA x c r (a+1) st J U (by exact zF) (by exact zF);have j:StrLaws.occBody x ⟨#[c]⟩ x.length (x.length+1) a st=pure (ForInStep.yield (st.fst,st.snd)):=by unfold StrLaws.occBody;rw[AA (by rintro⟨_,z⟩;rw[o] at z;exact e (by simpa using z))]
   rw[j];exact go
def len_list(x:Str):x.cps.toList.length=x.length:=by simp[Str.length]
def JS(x:Str)(c:Nat):occurrences x ⟨#[c]⟩ 0 x.length (x.length+1)=idx c 0 x.cps.toList:=by rw[StrLaws.occ_eq];have:=yA x c x.cps.toList 0 (#[],0) (by simp) (by rw[len_list];exact CO _ _) (Ak _)<|Ak _;rw[len_list] at this;rw[Eh,this];simp
def JT(p:X2):List (X2)->List (X2)
 |[]=>[]
 |h::t=>(p++h)::t
theorem nO(x:Str)(c:Nat):∀(r:X2) (a b:Nat),x.cps.toList.drop b=r->b+r.length=x.length->a<=b->
 (StrLaws.partsFrom x 1 a<|idx c b r).map (λs=>s.cps.toList)=JT ((x.cps.toList.drop a).take<|b-a) (spl c r)
 |[],a,b,g,I,j=>by
  have I:b=x.length:=by simpa using I
  show [(strSub x a x.length).cps.toList]=[(x.cps.toList.drop a).take (b-a)++[]];rw[StrLaws.strSub_toList,I,AG]
 |d::r,a,b,g,I,j=>by
  have J:x.cps.toList.drop (b+1)=r:=by rw[<-List.tail_drop,g];rfl
  have U:b+1+r.length=x.length:=by rw[<-I,Au];simp +arith only
  unfold idx;by_cases e:d=c
  ·rw[AF e,spl_yes e];have go:=nO x c r (b+1) (b+1) J U<|Ak _;show(strSub x a b).cps.toList::(StrLaws.partsFrom x 1 (b+1)<|idx c (b+1) r).map (λs=>s.cps.toList)=((x.cps.toList.drop a).take (b-a)++[])::spl c r;rw[go,StrLaws.strSub_toList,AG,CB,DC];obtain⟨h,t,q⟩:=spl_ex c r;rw[q];rfl
  ·rw[AA e];have go:=nO x c r a (b+1) J U (by exact zF);obtain⟨h,t,q⟩:=spl_ex c r;rw[go,q,spl_no e q];have l:(x.cps.toList.drop a).take (b+1-a)=(x.cps.toList.drop a).take (b-a)++[d]:=by
    have o:(x.cps.toList.drop a)[b-a]?=some d:=by
     rw[C3];have:(x.cps.toList.drop b)[0]?=some d:=by rw[g];rfl
     rw[C3] at this;have p:a+(b-a)=b+0:=by lia
     rw[p];exact this
    have C:b+1-a=(b-a)+1:=by lia
    rw[C,AZ,o];rfl
   rw[l];show((x.cps.toList.drop a).take (b-a)++[d]++h)::t=((x.cps.toList.drop a).take (b-a)++d::h)::t;rw[Aq];rfl
def S5(x:Str)(c:Nat):(partsBetween x (occurrences x ⟨#[c]⟩ 0 x.length<|x.length+1) 1).map (λs=>s.cps.toList)=spl c x.cps.toList:=by rw[StrLaws.partsBetween_eq,JS];have:=nO x c x.cps.toList 0 0 (by simp) (by rw[len_list];lia)<|Ak _;rw[this];obtain⟨h,t,q⟩:=spl_ex c x.cps.toList;rw[q];simp[JT]
theorem JU{c:Nat}:∀{l:X2} {a:Nat},idx c a l=[]->c∉l
 |[],_,_=>by simp
 |d::r,a,h=>by
  unfold idx at h;by_cases e:d=c
  ·rw[AF e] at h;cases h
  ·rw[AA e] at h;intro z;rcases Ap.mp z with z|z
   ·exact e z.symm
   ·exact JU h z
def S6(x:Str)(c:Nat)(hc:c<256):¬Builtin.Str.strKind x<Builtin.Str.strKind ⟨#[c]⟩:=by
 have I:Builtin.Str.strKind ⟨#[c]⟩=1:=by unfold Builtin.Str.strKind;simp[hc]
 have J:1<=Builtin.Str.strKind x:=by unfold Builtin.Str.strKind;split<;>(try split)<;>decide
 lia
def split_one(x:Str)(c:Nat)(hc:c<256):(Txt.split x ⟨#[c]⟩).map (λs=>s.cps.toList)=spl c x.cps.toList:=by
 unfold Txt.split;have U:=S6 x c hc;by_cases J:x.length<1
 ·have e:x.cps.toList=[]:=DY.mp (by rw[len_list];lia);rw[AF (by rw[mX];simp[J])];simp[e,spl]
 ·rw[AA (by rw[mX];simp[J,U])];by_cases I:(occurrences x ⟨#[c]⟩ 0 x.length<|x.length+1).isEmpty=true
  ·rw[AF I];rw[JS] at I;rw[spl_one<|JU<|List.isEmpty_iff.mp I];rfl
  ·rw[AA I];exact S5 x c
def gl(z:X2):List (X2)->X2
 |[]=>[]
 |p::r=>p++r.flatMap λq=>z++q
theorem u0(z:Str):∀(r:X4) (I:Array Nat),(r.foldl (λI p=>I++z.cps++p.cps) I).toList=I.toList++(r.map λs=>s.cps.toList).flatMap λq=>z.cps.toList++q
 |[],I=>by simp
 |p::r,I=>by rw[El,u0 z r];simp[Aq]
def glued_list(z:Str)(ps:X4):(glued z ps).cps.toList=gl z.cps.toList (ps.map λs=>s.cps.toList):=by
 cases ps with
 |nil=>rfl
 |cons p r=>
  show((r.foldl (λI p=>I++z.cps++p.cps) p.cps)).toList=_;rw[u0];rfl
def wds(l:X2):List (X2):=(spl 32 l).filter λw=>!w.isEmpty
def wds_app(a b:X2):wds (a++32::b)=wds a++wds b:=by unfold wds;rw[spl_app,BB]
def wds_one{l:X2}(h:32∉l)(I:l≠[]):wds l=[l]:=by unfold wds;rw[spl_one h];cases l with|nil=>exact absurd rfl I|cons d r=>rfl
end Txs
namespace L2
open PySem PySem.Spec PyProof.Rows
section
variable {isp imk c j1 j2:Nat}{sp mk:Str}{u:Tok}{m:XW}{p6 p7 p8 p9 p10:Pos}{Q:Flow->Yd->Prop}
end
end L2
namespace L3
open PySem L2
def j_(x:Str):List Y:=x.cps.toList.map λc=>Y.str ⟨#[c]⟩
def y4(x:Str):dU G H₀ (Hl x) (j_ x) (λ_=>True) where
 go:=λi H L t I U j=>show i<x.cps.size by simpa[j_] using j
 yld:=λi H L v o y t I U J ⟨e,c,l,ev⟩=>by subst e ev;refine⟨ED _,I,?_⟩;unfold j_ at J;rw[Ai] at J;obtain⟨z,g,e⟩:=Am.mp J;rw[A7,l] at g;cases g;subst e;rfl
 stop:=λH L t I U=>by show x.cps.size<=(j_ x).length;simp[j_]
def S7(te:jp)(τ:jc)(L:qi)(R:List Y->(qi->Prop)->qi->Prop):Prop:=te τ L λx L1=>match x with
 |.str z=>z.cps.all (· < 128)=true/\R (j_ z) (λ_=>True) L1
 |_=>False
def JV(h:QE X e te):QI X tg e (S7 te):=PI.imq (SV h) λt H R g L C j l z k=>by refine⟨g,L,_,j,l,z,λv o y p r I J U=>?_⟩;cases y with|str x=>exact⟨x,J,U.1,k _ o _ _ p r I (y4 x) U.2⟩|_=>exact U.elim
def yh(x:Y)(vs:List Y)(L:qi)(Q:YK):Prop:=match x,vs with
 |.str z,[.str y]=>(y.length==0)=false/\z.length<=100000/\∀p,L p=none->Q (.ref p) (qg L p<|.lst<|(Txt.split z y).map Y.str)
 |_,_=>False
theorem uq{G:G3}{H:Hp}:∀zs:X4,x8 G H (zs.map Y.str)<|zs.map V.str
 |[]=>rfl
 |_::r=>⟨_,_,rfl,rfl,uq r⟩
def S8 :gG X "str.split" (m_ X.g3 yh):=gG.imq SY λx l H Q y o L r U g J z k=>by
 unfold yh at z;split at z
 ·rename_i a b;obtain⟨t,rfl,j⟩:=g.inv1;cases j;cases U;exact⟨a,b,rfl,rfl,z.1,z.2.1,λp I=>k _ _ _ _ (EF I) (J.newL I<|uq _) (by rfl)<|z.2.2 p<|J.none I⟩
 ·exact z.elim
def vR(I:QE X o to)(J:QA X (e::es) tr)(U:z_ X o e es "split" apos fm:=by exact⟨rfl,rfl,rfl,rfl,rfl⟩):
 QE X (.Call (.Attribute o "split" apos) (e::es) [] fm) (G8 yh to tr):=Jf PySem.F.slot_str_split PySem.F.type_str_split S8 I J U
end L3
namespace L2
open PySem PySem.Spec PyProof.Rows
def S9:k8 X (compareOp .LtE) (λx y H Q=>∃i j,x=.str i/\y=.str j/\Q (.bl<|!decide (j.cps.toList<i.cps.toList)) H):=by rintro J s l H x y v u Q I U g⟨i,j,rfl,rfl,q⟩;obtain⟨t,rfl⟩:=U;obtain⟨o,rfl⟩:=g;exact PySem.P.le_str<|fk I q rfl
def S'(neg:Bool):k8 X (compareOp<|if neg then .NotIn else .In) (λx y H Q=>∃k a kvs,x=.str k/\y=.ref a/\KD X.K X.prog X.w a kvs/\Q (.bl<|if neg then !(cZ kvs<|Sum.inr k).isSome else(cZ kvs<|Sum.inr k).isSome) H):=by
 intro g s r H x y v u Q I j l ⟨k,a,kvs,ex,o,p,q⟩;subst ex o;cases (show u=Value.ref a from l);have J:zm (kV<|Sum.inr k) v:=j;obtain⟨hd,z,U⟩:=p;obtain⟨t,rel,U⟩:=U s.heap I.kIn;have e:=(rel.val<|Sum.inr k).isSome_eq;cases neg with
 |false=>
  refine wpAny_in_of (lZ (P:=X.prog) (w:=X.w) J) hd U.mapOf ?_;rw[<-e];exact⟨.bl _,H,I.tok _,rfl,q⟩
 |true=>
  refine wpAny_notIn_of (lZ (P:=X.prog) (w:=X.w) J) hd U.mapOf ?_;rw[<-e];exact⟨.bl _,H,I.tok _,rfl,q⟩
end L2
namespace L3
open PySem L2
abbrev pS(i j:Str):Bool:=!decide (j.cps.toList<i.cps.toList)
def JW(x y:Y)(L:qi)(Q:YK):Prop:=match x,y with
 |.str i,.str j=>Q (.bl<|pS i j) L
 |_,_=>False
def Gc :k8 X (compareOp .LtE) (dQ X.g3 JW):=EW S9 λx y H Q g j L l I J U z k=>by
 unfold JW at z;split at z
 ·cases I;cases J;exact⟨_,_,rfl,rfl,k _ H _ L (ED _) U (by rfl) z⟩
 ·exact z.elim
def uX(kvs:List<|Str×Str)(k:Str):(cZ (kvs.map λp=>((Sum.inr p.1:ja),V.str p.2))<|Sum.inr k).isSome=(kvs.lookup k).isSome:=by
 cases h:kvs.lookup k with
 |some x=>rw[kU h];rfl
 |none=>
  induction kvs with
  |nil=>rfl
  |cons p r I=>
   obtain⟨a,b⟩:=p;rw[Bu] at h;unfold cZ;rw[AD,BK];by_cases c:k=a
   ·subst c;simp at h
   ·have J:(k==a)=false:=by simpa using c
    rw[J] at h;have U:decide ((Sum.inr a:ja)=Sum.inr k)=false:=Ar λz=>c (E5 z).symm;simp only[U];exact I h
def JX(neg:Bool)(x y:Y)(L:qi)(Q:YK):Prop:=match x,y with
 |.str k,.cd kvs=>Q (.bl<|nb neg (kvs.lookup k).isSome) L
 |_,_=>False
def Ta(K:Ah)(P:Ye)(w:Yg)(I:X.K=K:=by rfl)(J:X.prog=P:=by rfl)(hw:X.w=w:=by rfl):k8 X (compareOp .NotIn) (dQ ⟨K,P,w⟩<|JX true):=by
 subst I J hw;refine EW (S' true) λx y H Q r t L C U g j z k=>?_;unfold JX at z;split at z
 ·rename_i l o;cases U;obtain⟨a,rfl,p⟩:=g;refine⟨l,a,_,rfl,rfl,p,?_⟩;rw[AF rfl,uX];exact k _ H _ L (ED _) j (by rfl) z
 ·exact z.elim
section
variable {m:Str}{k:Nat}{sp:x5}
end
end L3
namespace L2
open PySem PySem.Spec PyProof.Rows
def qH(z:Str)(n:Nat):X2:=(List.replicate n z.cps.toList).flatten
def sh(z:Str)(n:Nat):Str:=⟨(qH z n).toArray⟩
def yM(xs:List<|Array Nat):∀I:Array Nat,(xs.foldl (· ++ ·) I).toList=I.toList++(xs.map Array.toList).flatten:=by induction xs with|nil=>intro I;simp|cons a r J=>intro I;rw[El,J];simp[Aq]
def Tb(z:Str)(n:Nat):(⟨(List.replicate n z.cps).foldl (· ++ ·) #[]⟩:Str)=sh z n:=by apply Str.ext';apply CQ.mp;show((List.replicate n z.cps).foldl (· ++ ·) #[]).toList=(qH z n).toArray.toList;rw[yM];simp[qH]
def Tc(z:Str)(n:Nat):(qH z n).length=n*z.length:=by
 unfold qH
 induction n with|zero=>simp|succ n I=>rw[List.replicate_succ,List.flatten_cons,Ac,I,Txs.len_list,Nat.succ_mul,CO]
def y0 :k8 X (binaryOp .Mult) (λx y H Q=>∃z,∃n:Nat,x=.str z/\y=.int n/\n<=1000/\z.length<=100/\Q (.str<|sh z n) H):=by
 intro U s p H x y v u Q I r C ⟨z,n,ex,T,hn,hz,q⟩;subst ex T;obtain⟨t,rfl⟩:=(show ∃t,v=Value.str z t from r);obtain⟨t',rfl⟩:=(show ∃t,u=Value.int n t from C);have J:z.length*n<=100000:=Nat.mul_le_mul (by omega:z.length<=100) hn;refine PySem.P.mul_str ?_ ?_ ?_ ?_
 ·rw[Ar (by lia),Ar (by lia)];rfl
 ·intro h1 _ o;have:(1000:Int)<=(2 ^ 63-1) / ((n:Int)):=Int.le_ediv_of_mul_le (by omega) (by lia);lia
 ·intro _ _;unfold Builtin.Str.tooLong;exact Ar (by have e:(n:Int).toNat=n:=rfl;rw[e];exact Ef.mpr<|AE J (by decide))
 ·split
  ·rename_i h;have:n=0:=by lia
   subst this;have e:Str.empty=sh z 0:=rfl;rw[e];exact⟨by show 0<=_;exact A3 _,⟨.str<|sh z 0,H,I.tok _,⟨_,rfl⟩,q⟩⟩
  ·split
   ·rename_i h1 o;have e:z=sh z n:=by
     rcases Bool.or_eq_true_iff.mp o with h|h
     ·have j:n=1:=by have e:=(show(n:Int)=1 by simpa using h);lia
      subst j;apply Str.ext';show z.cps=(qH z 1).toArray;simp[qH]
     ·have g:z.cps.toList=[]:=DY.mp (by rw[Txs.len_list];simpa using h);apply Str.ext';apply CQ.mp;show z.cps.toList=(qH z n).toArray.toList;rw[g];simp only[qH,g];simp
    have l:EP X U p Q (.str z t) s:=⟨.str<|sh z n,H,I,⟨t,by rw[<-e]⟩,q⟩;exact l
   ·have en:(n:Int).toNat=n:=rfl;rw[en,Tb];refine⟨?_,⟨.str<|sh z n,H,I.tok _,⟨_,rfl⟩,q⟩⟩;show(qH z n).toArray.size<=sizeLine;rw[As,Tc,Nat.mul_comm];exact AE J (by decide)
end L2
namespace L3
open PySem L2
def amp(x y:Y)(L:qi)(Q:YK):Prop:=match x,y with
 |.str z,.int n=>(0<=n/\n<=1000/\z.length<=100)/\Q (.str<|sh z n.toNat) L
 |_,_=>False
def uH :k8 X (binaryOp .Mult) (dQ X.g3 amp):=EW y0 λx y H Q l o L p I J U z k=>by
 unfold amp at z;split at z
 ·rename_i s n;cases I;cases J;obtain⟨⟨r,t,g⟩,q⟩:=z;have j:n=((n.toNat:Nat):Int):=by lia
  exact⟨s,n.toNat,rfl,by rw[<-j],by lia,g,k _ H _ L (ED _) U (by rfl) q⟩
 ·exact z.elim
end L3
namespace L2
open PySem PySem.Spec PyProof.Rows
def Td(te:TE):TE:=λσ H Q=>te σ H λx H1=>∃i:Int,x=.int i/\i.natAbs.log2<1920/\Q (.str<|toString i) H1
section
variable {te:TE}
def Te(h:PE X e te):PE X (.FormattedValue e (-1) none pos) (Td te):=by intro J s U H Q I g;refine FormattedValue_plain<|wq (h J s U H _ I g) λv C ⟨x,j,l,o,i,p,r,q⟩=>?_;subst p;obtain⟨t,rfl⟩:=(show ∃t,v=Value.int i t from o);exact formatField_int_small r ⟨.str _,j,l.tok _,⟨_,rfl⟩,q⟩
end
end L2
namespace L3
open PySem L2
def Tf(te:jp)(τ:jc)(L:qi)(Q:YK):Prop:=te τ L λx L1=>match x with
 |.int i=>i.natAbs.log2<1920/\Q (.str<|toString i) L1
 |_=>False
def iK(h:QE X e te):QE X (.FormattedValue e (-1) none pos) (Tf te):=EH (Te h) λt H Q g L C j l z k=>
 ⟨g,L,_,j,l,z,λv o y p r I J U=>by cases y with|int i=>exact⟨i,J,U.1,k _ o _ p r I (by rfl) U.2⟩|_=>exact U.elim⟩
end L3
namespace L2
open PySem PySem.Spec PyProof.Rows
section
variable {a T:Addr}{tr:Option Addr}
end
section
variable {T:X4}{iter:Expr}{g:TG}{tc:TT}{te:TE}
end
section
variable {a b T:Addr}{tr:Option Addr}{E1:X1}
end
section
variable {k:Nat}{E1:X1}{t:TA}
end
end L2
namespace L3
open PySem L2
section
variable {T:X4}{iter:Expr}{wi:x_}{E3:X3}{Ea:Addr->qi->Prop}
end
end L3
namespace L2
open PySem PySem.Spec PyProof.Rows
end L2
namespace L2
open PySem PySem.Spec PyProof.Rows
section
variable {w:Yg}
theorem ug{it t:Addr}{eH:X0}(I:t≠it):∀(n i:Nat) (s:Yd) (Q:XZ->Yd->Prop),s.heap.IsListIter it t i->s.heap.IsList t eH->i+n<=eH.size->
 (∀h',h'.IsListIter it t (i+n)->Heap.SameBut it s.heap h'->Q ((eH.toList.drop i).take n) {s with heap:=h'})->wpAny (model prog w) A (draw (.ref it) n) Q E s
 |0,i,s,Q,hit,_,_,g=>by unfold draw;exact Aj (by simpa using g s.heap hit (Heap.SameBut.refl ..))
 |n+1,i,s,Q,hit,p,r,g=>by
  have J:i<eH.size:=by omega
  unfold draw;refine Aa<|wpAny_pyNext_list_item hit p (x:=eH[i]) (by simp[J]) λg1 j U=>?_;refine Aa<|Bi<|ug I n (i+1) _ _ j (p.extBut U.extBut I) (by lia) λg2 l o=>Aj ?_;have e:eH.toList.drop i=eH[i]::eH.toList.drop (i+1):=by simp[BS,J]
  have q:=g g2 (by rw[show i+(n+1)=i+1+n by simp +arith only];exact l)
   (U.trans o)
  rw[e,List.take_succ_cons] at q;exact q
def Tg{t:Addr}{eH:X0}{Q:XU}(T:A.handled=none)(I:s.heap.IsList t eH)(hn:(assignEach ml env).length=eH.size)(j:(assignEach ml env).findIdx? (·.1)=none)
 (h:∀g,Heap.ExtBut s.heap.objs.size s.heap g->wpAny (model prog w) A (assignInOrder ((assignEach ml env).map (·.2)) eH.toList) Q E {s with heap:=g}):wpAny (model prog w) A (assign (.Tuple ml x1 pos) env<|.ref t) Q E s:=by
 have J:t≠s.heap.objs.size:=by obtain⟨o,ho,_⟩:=I;exact A9<|wh ho
 rw[arm_assign_Tuple];refine Aa<|wpAny_standAt ?_;unfold unpack;rw[hn,j];refine Aa<|Bi ?_;unfold unpackItems notIterableAtAll;refine Aa<|Aa<|wpAny_specialOf I.typeIs slot_list_iter.lookup ?_;refine Aj ?_;rw[AA (by simp)];refine Aa<|Bi<|wpAny_pyIter_list I ?_;refine Aa<|Bi<|ug J eH.size 0 _ _ ⟨_,wn _ rfl,rfl,rfl⟩ (I.push _) (by simp +arith only) λg1 l U=>?_;have all:List.take eH.size (List.drop 0 eH.toList)=eH.toList:=by rw[Df];exact AY (by simp)
 rw[all,AA (by simp)];have p:g1.IsList t eH:=(I.push _).extBut U.extBut J;refine Aa<|Bi<|wpAny_pyNext_list_end T l p (by simp) λg2 r=>?_;rw[AA (by simp)];exact Aj<|h g2 λb o C e=>r b o C<|U.extBut b o C<|vc _ e
end
def Th(K:Ah)(n:Nat)(t:k_):TG:=λv σ H Q=>∃a xs,v=.ref a/\aH K H a xs/\xs.length=n/\t xs σ H Q
def Ti{k:Nat}{t:k_}{n:Nat}(hc:X.calm=true)(h:PGs X es t)
 (l:(assignEach es X.env).length=n:=by rfl) (U:(assignEach es X.env).findIdx? (·.1)=none:=by rfl):PG X (.Tuple es k pos) (Th X.K n t):=by
 rintro J s g H v u Q I r⟨a,p,C,T,hl,hw⟩;subst C;cases r;obtain⟨a0,j,pl,hz⟩:=I.list T;have ht:=jt pl;refine Tg (I.ok.hd hc) ht (by simp[l,<-hl,j.length]) U λh' hx=>?_;have I1:z0 X J g H {s with heap:=h'}:=I.kept (t':=s.toks) λb o e=>hx b o (A9<|wh e) e;exact h J _ g H p _ Q I1 (by simpa using j) hw
def Tj(l:Addr)(eH:X0)(n:Nat)(x:Yc)(b:Nat->Bool)(j:Nat)(C:j<eH.size)(hit:b j=true)(hz:eH.size<=sizeLine):∀(k i:Nat),j-i=k->i<=j->(∀m,i<=m->m<j->b m=false)->
 Meets (Builtin.«list.remove.loop» ⟨[.ref l,x,rawInt i],[]⟩) (λA R s=>s.heap.get? l=some {cls:=.type "list",dict:=none,data:=.seq eH n,slots:=#[]}/\(∀m (hm:m<eH.size),SeqAt.EqAt A.in1 s eH[m] x<|b m)/\R (.ok<|.ret .none) {s with heap:=s.heap.update l (Obj.mapSeq λxs=>xs.eraseIdxIfInBounds j)}):=by
 intro k
 induction k with
 |zero=>
  intro i T p J I w A R s h;obtain⟨hp,g,d,tk,os⟩:=s;obtain⟨U,eq,h⟩:=h;have e:i=j:=by lia
  subst e
  (wp_walk using wpAny_loadPart' U)
  have r:eH[((i:Nat):Int).toNat]?=some eH[i]:=by simp[C]
  rw[r];refine Aa<|eq i C I w _ _ ?_;rw[hit];have t:(eH.eraseIdxIfInBounds i).size<=sizeLine+1:=AE (MeetsSeq.size_erased eH _)<|De hz
  (wp_walk using (wpAny_updateSeq U rfl (hz:=hz) (_hz':=t)),wpAny_loadPart' U)
  simpa using h
 |succ k ih=>
  intro i T p J I w A R s h;obtain⟨hp,g,d,tk,os⟩:=s;obtain⟨U,eq,h⟩:=h;have o:i<eH.size:=by exact qD
  (wp_walk using wpAny_loadPart' U)
  have r:eH[((i:Nat):Int).toNat]?=some eH[i]:=by simp[o]
  have hc:((i:Int)+1)=((i+1:Nat):Int):=by rfl
  rw[r];refine Aa<|eq i o I w _ _ ?_;rw[J i (Ak _) (by omega)]
  wp_walk
  rw[hc];refine⟨plainId_quiet Db _,codeAny_builtin MeetsSeq.entry_remove_loop ?_⟩;rw[Around.under_plainId Db _];exact ih (i+1) (by omega) (by omega) (λm h1 h2=>J m (by exact gc) h2) I w A R _ ⟨U,eq,h⟩
def Tk(l:Addr)(eH:X0)(n:Nat)(x:Yc)(b:Nat->Bool)(j:Nat)(o:j<eH.size)(hit:b j=true)(hz:eH.size<=sizeLine)(J:∀m,m<j->b m=false):
 Meets (Builtin.«list.remove» ⟨[.ref l,x],[]⟩) (λA R s=>s.heap.get? l=some {cls:=.type "list",dict:=none,data:=.seq eH n,slots:=#[]}/\(∀m (r:m<eH.size),SeqAt.EqAt A.in1 s eH[m] x<|b m)/\R (.ok<|.ret .none) {s with heap:=s.heap.update l (Obj.mapSeq λxs=>xs.eraseIdxIfInBounds j)}):=by
 intro I w A R s h;obtain⟨t,g,d,C,os⟩:=s;obtain⟨U,eq,h⟩:=h
 (wp_walk using wpAny_loadPart' U)
 refine⟨plainId_quiet Db _,codeAny_builtin MeetsSeq.entry_remove_loop ?_⟩;rw[Around.under_plainId Db _];exact Tj l eH n x b j o hit hz _ 0 rfl (A3 _) (λm _ p=>J m p) I w A R _ ⟨U,eq,h⟩
theorem zk.eraseN:∀{xs:Yj} {us:XZ} (n:Nat),zk xs us->zk (xs.eraseIdx n) (us.eraseIdx n)
 |[],_,n,.nil=>by simp;exact .nil
 |_::_,_,0,.cons _ t=>t
 |_::_,_,n+1,.cons r t=>.cons r<|zk.eraseN n t
def To(X:Cx):V->Yj->Hp->VK->Prop:=λx vs H Q=>∃l xs y ds e,∃n m j:Nat,x=.ref l/\vs=[y]/\H l=some (.lst xs)/\n<=126/\Paired (aK X.K H n) xs ds/\aK X.K H m y e/\j<ds.length/\(∃d,ds[j]?=some d/\Da.eq d e=true)/\
 (∀(k:Nat) d,k<j->ds[k]?=some d->Da.eq d e=false)/\Q .non (upd H l<|.lst<|xs.eraseIdx j)
def Tp(hu:X.A.units+128<cLine):gG X "list.remove" (To X):=by
 rintro a4 s σ H x vs v us Q I rx rv⟨l,o,y,g,e,n,m,j,rfl,rfl,hH,hn,pd,ry,hj,⟨dj,t,C⟩,T,q⟩;cases rx;obtain⟨u,rfl,ru⟩:=rv.one;obtain⟨z,J,nn,r,hl,eo⟩:=I.lstM hH;have l1:o.length=g.length:=pd.length;have l2:J.length=o.length:=r.length.symm;obtain⟨arr,U⟩:∃arr:X0,arr=J.toArray:=⟨_,rfl⟩;have a0:arr.size=J.length:=by rw[U,As]
 have b:Nat->Bool:=λ_=>true;have a1:arr.size<=sizeLine:=by rw[a0];lia
 have M:=Tk l arr nn u (λk=>((g[k]?).map λd=>Da.eq d e).getD false) j (by lia) (by show((g[j]?).map λd=>Da.eq d e).getD false=true;rw[t];exact C) a1 (λk p=>by show((g[k]?).map λd=>Da.eq d e).getD false=false;cases ek:g[k]? with|none=>rfl|some d=>exact T k d p ek)
 rw[U] at M;refine call_meets F.slot_list_remove ⟨_,eo,rfl⟩ F.entry_list_remove (F.args_list_remove_2 _ _) M ⟨eo,λk p=>?_,?_⟩
 ·have a5:k<J.length:=by rw[As] at p;exact p
  obtain⟨d,ed,rd⟩:=Words.Paired.getP pd<|Ag (by lia:k<o.length);show SeqAt.EqAt _ s _ u (((g[k]?).map λd=>Da.eq d e).getD false);rw[ed];obtain⟨u',a2,a3⟩:=Words.Paired.getP r<|Ag (by lia:k<o.length);have eg:J.toArray[k]=u':=by have:=(AM.mp a2).2;simpa using this
  rw[eg];exact xV I n (by show X.A.units+1+n<cLine;lia) rd ry a3 ru
 ·refine⟨.non,_,I.lset (its':=J.eraseIdx j) hH eo ?_ (r.eraseN j) ?_,rfl,q⟩
  ·have:j<J.length:=by lia
   simp[Array.eraseIdxIfInBounds,this]
  ·have:=C7 o j;exact GN
end L2
namespace L3
open PySem L2
def JY(n:Nat)(t:wN)(y:Y)(τ:jc)(L:qi)(Q:jc->qi->Prop):Prop:=match y with
 |.ref a=>cb L a λys=>match ys.length==n with
  |true=>t ys τ L Q
  |false=>False
 |_=>False
def Tq{U n:Nat}(hc:X.calm=true)(h:Fx X es gs)(h1:(assignEach es X.env).length=n:=by rfl)(h2:(assignEach es X.env).findIdx? (·.1)=none:=by rfl):QG X (.Tuple es U pos) (JY n gs):=
 PG.imp (Ti hc h h1 h2) λv σ H Q ⟨y,g,L,j,l,o,J,z,k⟩=>by
 cases y with
 |ref a=>
  cases (show v=.ref a from l);obtain⟨p,e,I⟩:=xb z;obtain⟨t,C,r⟩:=J a _ e;split at I
  ·rename_i T;exact⟨a,t,rfl,EV C,by rw[<-r.length];exact beq_iff_eq.mp T,p,g,L,j,r,o,J,I,k⟩
  ·exact I.elim
 |_=>exact z.elim
def me(x:Y)(vs:List Y)(L:qi)(Q:YK):Prop:=match x,vs with
 |.ref a,[v]=>cb L a λys=>∃ds e,∃n m j:Nat,n<=126/\Paired (jd L n) ys ds/\jd L m v e/\j<ds.length/\(∃d,ds[j]?=some d/\Da.eq d e=true)/\(∀(k:Nat) d,k<j->ds[k]?=some d->Da.eq d e=false)/\Q .non (qg L a<|.lst<|ys.eraseIdx j)
 |_,_=>False
def Ts(C:X.A.units+128<cLine):gG X "list.remove" (m_ X.g3 me):=gG.imq (Tp C) λx I H Q y U L Q3 T r2 g z k=>by
 unfold me at z;split at z
 ·rename_i a v;obtain⟨zs,e,J,de,n,m,j,hn,pd,dv,hj,hit,l,z⟩:=xb z;obtain⟨us,o,r⟩:=g a _ e;obtain⟨v',rfl,rv⟩:=r2.inv1;have both:∀{U:List Y} {J:List Da} {I:Yj},Paired (jd L n) U J->x8 X.g3 H U I->Paired (aK X.K H n) I J:=by
   intro U J I p
   induction p generalizing I with
   |nil=>intro q;cases (show I=[] from q);exact .nil
   |cons h t ih=>
    rintro⟨x,a0,rfl,q1,q2⟩;exact .cons (jd.rep g h q1)<|ih q2
  exact⟨a,us,v',J,de,n,m,j,T,rfl,o,hn,both pd r,jd.rep g dv rv,hj,hit,l,k _ _ _ _ (ER o) (g.setL o<|r.eraseIdx j) (by rfl) z⟩
 ·exact z.elim
def Tt(I:X.A.units+128<cLine)(J:QE X o to)(U:QA X (e::es) tr)(g:z_ X o e es "remove" apos fm:=by exact⟨rfl,rfl,rfl,rfl,rfl⟩):
 QE X (.Call (.Attribute o "remove" apos) (e::es) [] fm) (lO me to tr):=sM PySem.F.slot_list_remove PySem.F.type_list_remove (Ts I) J U g
end L3
namespace L2
open PySem PySem.Spec PyProof.Rows
end L2
namespace L2
open PySem PySem.Spec PyProof.Rows
def Tu:Yj->Hp->VK->Prop:=λxs H Q=>∃n:Int,xs=[.int n]/\∀p,H p=none->Q (.ref p) (upd H p<|.rng 0 n)
def Tv:zq X (.type "range") Tu:=by rintro J s g H j l Q I r⟨n,rfl,q⟩;obtain⟨u,rfl,U⟩:=r.one;obtain⟨t,rfl⟩:=(show ∃t,u=Value.int n t from U);refine call_range_1 ?_;refine⟨.ref s.heap.objs.size,_,I.laid (t':=s.toks+1+1) (o:=.rng 0 n) (λb ob q=>vc _ q) (Ak _) ?_,rfl,q _<|I.hok.fresh<|Ak _⟩;exact⟨s.toks,t,s.toks+1,wn _ rfl⟩
def xU{n:Nat}{I:X0}(h:ItemsOf (λi v=>∃t,v=.int (0+(i:Int)*1) t) I n):zk ((List.range n).map λi:Nat=>V.int<|0+(i:Int)) I.toList:=by
 have len:I.toList.length=n:=by rw[A5];exact h.1
 have key:∀(l:XZ) (k:Nat),(∀(j:Nat) v,l[j]?=some v->∃t,v=Value.int (0+((k+j:Nat):Int)*1) t)->zk ((List.range' k l.length).map λi:Nat=>V.int<|0+(i:Int)) l:=by
  intro l
  induction l with
  |nil=>intro k _;exact .nil
  |cons v r g=>
   intro k U;rw[Au,CP,AD];obtain⟨t,e⟩:=U 0 v rfl;refine .cons ?_<|g (k+1) λj o J=>?_
   ·exact⟨t,by rw[e];simp⟩
   ·have:=U (j+1) o J;rw[show k+1+j=k+(j+1) by simp +arith only];exact this
 have:=key I.toList 0 λj v J=>by rw[CC];exact h.2 j v (by simpa using J)
 rw[len,<-List.range_eq_range'] at this;exact this
def Tw:Yj->Hp->VK->Prop:=λxs H Q=>∃a,∃n:Nat,xs=[.ref a]/\H a=some (.rng 0 n)/\n<=100000/\∀p,H p=none->Q (.ref p) (upd H p<|.lst ((List.range n).map λi:Nat=>V.int<|0+(i:Int)))
theorem Tx(hc:X.calm=true):zq X (.type "list") Tw:=by
 rintro g s σ H xs us Q I r⟨a,n,rfl,j,l,q⟩;obtain⟨u,rfl,p⟩:=r.one;cases (show u=Value.ref a from p);obtain⟨t,u,v,e⟩:=I.hok a _ j;have hb:(100000:Nat)<=sizeLine:=by decide
 have C:Builtin.Range.rangeSize 0 (n:Int) 1=((n:Nat):Int):=by rw[rangeSize_one];split<;>lia
 refine j4 I.tk<|call_list_range (I.ok.hd hc) (show IsRange s.heap a 0 (n:Int) 1 t u v from e) (small_one (by decide) (by decide) (by exact A6 _) (by omega)) C (AE l (by decide)) λh' T U c hk hS J ht=>?_;refine⟨.ref s.heap.objs.size,_,I.laid (t':=T) (o:=.lst ((List.range n).map λi:Nat=>V.int<|0+(i:Int))) hk (Ak _) ?_,rfl,q _<|I.hok.fresh<|Ak _⟩;refine⟨by rw[Ab,Ci];exact GN,U.toList,c,xU J,?_⟩;rw[hS]
def Tz:Yj->Hp->VK->Prop:=λxs H Q=>∃b:Bool,xs=[.bl b]/\Q (.int<|if b=true then 1 else 0) H
def TB:zq X (.type "int") Tz:=by rintro J s g H j l Q I r⟨b,rfl,q⟩;obtain⟨u,rfl,U⟩:=r.one;cases (show u=Value.bool b from U);exact call_int_bool ⟨.int _,_,I.tok<|s.toks+1,⟨_,rfl⟩,q⟩
end L2
namespace L3
open PySem L2
def TC:bootBuiltins "range"=some (.type "range"):=by decide +kernel
def uh(te:jp)(τ:jc)(L:qi)(Q:YK):Prop:=te τ L λy L1=>match y with
 |.int n=>(0<=n/\n<=100000)/\∀p,L1 p=none->Q (.ref p) (qg L1 p<|.lst<|af 0 n.toNat)
 |_=>False
def TD(n:Nat):x8 G H (af 0 n) ((List.range n).map λi:Nat=>V.int<|0+(i:Int)):=by
 unfold af;generalize List.range n=l
 induction l with|nil=>rfl|cons k r I=>exact⟨_,_,rfl,rfl,I⟩
theorem yG{I:Pos}(hc:X.calm=true)(T:Gl X "list")(hm:X.mg "list"=none)(j:Gl X "range")(l:X.mg "range"=none)(h:QE X e te)
 (h1:starEach [.Call (.Name "range" p2) [e] [] I] X.env=(false,eval (.Call (.Name "range" p2) [e] [] I) X.env)::starEach [] X.env:=by rfl) (h2:(backTo pos<|starEach [] X.env).any (·.1)=false:=by rfl)
 (C:starEach [e] X.env=(false,eval e X.env)::starEach [] X.env:=by rfl) (h4:(backTo I<|starEach [] X.env).any (·.1)=false:=by rfl):
 QE X (.Call (.Name "list" p) [.Call (.Name "range" p2) [e] [] I] [] pos) (uh te):=
 EH (iy (Tx hc) T hm cU (aR (iy Tv j l TC (aR h fq C) (by decide) (by decide) C h4) fq h1) (by decide) (by decide) h1 h2) λσ H Q τ L Q3 rs rl z k=>
 ⟨τ,L,_,rs,rl,z,λv H1 y L1 t1 J o U=>by
  cases y with
  |int n=>
   obtain⟨⟨h0,h5⟩,U⟩:=U;cases (show v=V.int n from o);obtain⟨m,rfl⟩:∃m:Nat,n=(m:Int):=⟨n.toNat,by lia⟩;refine⟨_,rfl,λq r=>⟨q,m,rfl,j6,by lia,λp g=>?_⟩⟩;have t:H1 p=none:=by
    by_cases c:p=q
    ·subst c;exact r
    ·rw[qu c] at g;exact g
   exact k _ _ _ _ (t1.trans<|(EF r).trans<|EF g) ((J.skip r).newL g<|TD m) (by rfl) (U p<|J.none t)
  |_=>exact U.elim⟩
def Hm(xs:List Y)(L:qi)(Q:YK):Prop:=match xs with
 |[.bl b]=>Q (.int<|if b=true then 1 else 0) L
 |_=>False
theorem TF :zq X (.type "int") (b_ X.g3 Hm):=EM TB λg H Q j L l I J z k=>by
 unfold Hm at z;split at z
 ·rename_i b;obtain⟨u,rfl,U⟩:=I.inv1;cases (show u=V.bl b from U);exact⟨b,rfl,k _ _ _ _ (ED _) J (by rfl) z⟩
 ·exact z.elim
section
variable {m:Str}{g:Addr}
end
end L3
namespace TS
open PySem PyProof.Rows
abbrev Yt:=Keyed->Int
abbrev Ys:=Array Keyed
abbrev Yr:=List Keyed
def TH:Bool->Keyed->Ys->Nat->Nat->Nat->StateT SortSt Sem (Option Nat):=sortPriv% PySem.Builtin.gallop
section
variable {w:Yg}
structure Ord(prog:Ye)(w:Yg)(A:Around)(s:Yd)(κ:SortKind)(Ok:Keyed->Prop)(f:Yt):Prop where
 lt:∀x y,Ok x->Ok y->∀{E:XT} {Q:Bool->Yd->Prop},Q (decide<|f x<f y) s->wpAny (model prog w) A (keyLt' κ x.1 y.1) Q E s
variable {κ:SortKind}{Ok:Keyed->Prop}{f:Yt}
def w_lt(O:Ord prog w A s κ Ok f){st:SortSt}{x y:Keyed}{Q:Option Bool->SortSt->Prop}(I:kindOf st=κ)(J:Ok x)(U:Ok y)(h:Q (some<|decide<|f x<f y) st):wpS (model prog w) A E s (lt' x y) Q st:=by rw[lt'_eq];refine Ad<|wpS_get ?_;rw[I];refine Ad<|wpS_lift<|wpAny_attempt<|O.lt x y J U ⟨rfl,?_⟩;exact Ae h
def xc{arr:Ys}{x:Keyed}{st:SortSt}{Q:Keyed->SortSt->Prop}(h:arr[i]?=some x)(q:Q x st):wpS (model prog w) A E s (elem' arr i) Q st:=by rw[elem'_eq,h];exact Ae q
def JZ(left:Bool)(key:Keyed)(arr:Ys)(i:Nat):StateT SortSt Sem (Option Bool):=elem' arr i >>= λx=>if left=true then lt' x key else lt' key x >>= λr=>pure<|r.map λb=>!b
def TJ(O:Ord prog w A s κ Ok f){left:Bool}{key x:Keyed}{arr:Ys}{st:SortSt}{Q:Option Bool->SortSt->Prop}(J:kindOf st=κ)(I:Ok key)(U:Ok x)(hi:arr[i]?=some x)
 (q:Q (some<|if left=true then decide (f x<f key) else !decide (f key<f x)) st):wpS (model prog w) A E s (JZ left key arr i) Q st:=by
 refine Ad<|xc hi ?_;cases left with|true=>exact w_lt O J U I q|false=>exact Ad<|w_lt O J I U<|Ae q
def bZ(O:Ord prog w A s κ Ok f){left:Bool}{key:Keyed}{arr:Ys}{base n hint:Nat}{st:SortSt}{Q:Option Nat->SortSt->Prop}(hk:kindOf st=κ)(a2:Ok key)(hh:hint<n)
 (it:Nat->Keyed) (hit:∀i,i<n->arr[base+i]?=some (it i)/\Ok (it i)) (o:Nat->Bool) (a3:∀i,i<n->o i=if left=true then decide (f (it i)<f key) else !decide (f key<f (it i)))
 (mono:∀i j,i<=j->j<n->o j=true->o i=true)
 (q:∀k,k<=n->(∀i,i<k->o i=true)->(∀i,k<=i->i<n->o i=false)->Q (some k) st):wpS (model prog w) A E s (TH left key arr base n hint) Q st:=by
 have go:∀i,i<n->∀Q':Option Bool->SortSt->Prop,Q' (some<|o i) st->wpS (model prog w) A E s (JZ left key arr<|base+i) Q' st:=λi U Q' h=>TJ O hk a2 (hit i U).2 (hit i U).1 (by rw[<-a3 i U];exact h);refine Ad<|go hint hh _ ?_;dsimp only;cases hb:o hint with
 |true=>
  rw[AF rfl];refine Ad (AV (AK (I:=λx c g=>g=st/\∃l J,c=(none,l,J)/\l<J/\l<n-hint/\o (hint+l)=true/\x+1<=J)
   (Q:=λc g=>g=st/\∃l J,c=(none,l,J)/\l<J/\l<n-hint/\o (hint+l)=true/\(n-hint<=J\/o (hint+J)=false)) ?_ ?_ ⟨rfl,0,1,rfl,by exact BE _,by omega,hb,by exact BE _⟩) ?_)
  ·rintro x c g _ hx ⟨rfl,l,J,rfl,h1,h2,r,t⟩;dsimp only;by_cases c:J>=n-hint
   ·rw[AF c];exact Ae ⟨rfl,l,J,rfl,h1,h2,r,.inl c⟩
   ·rw[AA c];refine Ad<|go (hint+J) (by lia) _ ?_;dsimp only;cases C:o (hint+J) with
    |true=>
     rw[AA (by simp)];exact Ae ⟨rfl,J,2*J+1,rfl,by simp +arith only,by exact asg,C,by lia⟩
    |false=>
     rw[AF (by simp)];exact Ae ⟨rfl,l,J,rfl,h1,h2,r,.inr C⟩
  ·rintro c g ⟨rfl,l,J,rfl,h1,h2,r,t⟩;exact⟨rfl,l,J,rfl,h1,h2,r,.inl (by lia)⟩
  ·rintro c g ⟨rfl,l,J,rfl,h1,h2,r,t⟩;dsimp only;obtain⟨lo,a0⟩:∃lo,lo=hint+l+1:=⟨_,rfl⟩;obtain⟨U,a1⟩:∃U,U=hint+min J (n-hint):=⟨_,rfl⟩;rw[<-a0,<-a1];have g1:lo<=U:=by omega
   have g2:U<=n:=by lia
   have g3:∀i,i<lo->o i=true:=λi U=>mono i (hint+l) (by lia) (by lia) r;have g4:∀i,U<=i->i<n->o i=false:=λi h5 h6=>by
    rcases t with t|t
    ·omega
    ·cases e:o i with
     |false=>rfl
     |true=>
      by_cases c:J<n-hint
      ·rw[mono (hint+J) i (by omega) h6 e] at t;cases t
      ·omega
   refine Ad (AV (AK (I:=λx c sx=>sx=g/\∃lo U,c=(none,lo,U)/\lo<=U/\U<=n/\(∀i,i<lo->o i=true)/\(∀i,U<=i->i<n->o i=false)/\U-lo+x<=n)
    (Q:=λc sx=>sx=g/\∃U,c=(none,U,U)/\U<=n/\(∀i,i<U->o i=true)/\(∀i,U<=i->i<n->o i=false)) ?_ ?_ ⟨rfl,lo,U,rfl,g1,g2,g3,g4,by exact Ir⟩) ?_)
   ·rintro x c p _ hx ⟨rfl,lo,U,rfl,k1,T,k3,k4,k5⟩;dsimp only;by_cases c:lo>=U
    ·rw[AF c];have:lo=U:=by lia
     subst this;exact Ae ⟨rfl,lo,rfl,T,k3,k4⟩
    ·rw[AA c];refine Ad<|go (lo+(U-lo) / 2) (by lia) _ ?_;dsimp only;cases C:o (lo+(U-lo) / 2) with
     |true=>
      rw[AF rfl];exact Ae ⟨rfl,lo+(U-lo) / 2+1,U,rfl,by lia,T,λi h5=>mono i _ (by exact Iq) (by lia) C,k4,by lia⟩
     |false=>
      rw[AA (by simp)];refine Ae ⟨rfl,lo,lo+(U-lo) / 2,rfl,by exact Bd _ _,by lia,k3,λi h5 h6=>?_,by omega⟩;cases e:o i with|false=>rfl|true=>rw[mono _ i h5 h6 e] at C;cases C
   ·rintro c p ⟨rfl,lo,U,rfl,k1,T,k3,k4,k5⟩;have:lo=U:=by lia
    subst this;exact⟨rfl,lo,rfl,T,k3,k4⟩
   ·rintro c p ⟨rfl,U,rfl,T,k3,k4⟩;exact Ae<|q U T k3 k4
 |false=>
  rw[AA (by simp)];refine Ad (AV (AK (I:=λx c g=>g=st/\∃l J,c=(none,l,J)/\l<J/\l<hint+1/\o (hint-l)=false/\x+1<=J)
   (Q:=λc g=>g=st/\∃l J,c=(none,l,J)/\l<J/\l<hint+1/\o (hint-l)=false/\(hint+1<=J\/o (hint-J)=true)) ?_ ?_ ⟨rfl,0,1,rfl,by lia,by exact B3 _,hb,by lia⟩) ?_)
  ·rintro x c g _ hx ⟨rfl,l,J,rfl,h1,h2,r,t⟩;dsimp only;by_cases c:J>=hint+1
   ·rw[AF c];exact Ae ⟨rfl,l,J,rfl,h1,h2,r,.inl c⟩
   ·rw[AA c];refine Ad<|go (hint-J) (by exact se) _ ?_;dsimp only;cases C:o (hint-J) with
    |true=>
     rw[AF rfl];exact Ae ⟨rfl,l,J,rfl,h1,h2,r,.inr C⟩
    |false=>
     rw[AA (by simp)];exact Ae ⟨rfl,J,2*J+1,rfl,by lia,by exact asg,C,by lia⟩
  ·rintro c g ⟨rfl,l,J,rfl,h1,h2,r,t⟩;exact⟨rfl,l,J,rfl,h1,h2,r,.inl (by exact tW)⟩
  ·rintro c g ⟨rfl,l,J,rfl,h1,h2,r,t⟩;dsimp only;obtain⟨lo,a0⟩:∃lo,lo=hint+1-min J (hint+1):=⟨_,rfl⟩;obtain⟨U,a1⟩:∃U,U=hint-l:=⟨_,rfl⟩;rw[<-a0,<-a1];have g1:lo<=U:=by omega
   have g2:U<=n:=by omega
   have g3:∀i,i<lo->o i=true:=λi h5=>by
    rcases t with t|t
    ·omega
    ·exact mono i (hint-J) (by omega) (by exact se) t
   have g4:∀i,U<=i->i<n->o i=false:=λi h5 h6=>by cases e:o i with|false=>rfl|true=>rw[mono (hint-l) i (by lia) h6 e] at r;cases r
   refine Ad (AV (AK (I:=λx c sx=>sx=g/\∃lo U,c=(none,lo,U)/\lo<=U/\U<=n/\(∀i,i<lo->o i=true)/\(∀i,U<=i->i<n->o i=false)/\U-lo+x<=n)
    (Q:=λc sx=>sx=g/\∃U,c=(none,U,U)/\U<=n/\(∀i,i<U->o i=true)/\(∀i,U<=i->i<n->o i=false)) ?_ ?_ ⟨rfl,lo,U,rfl,g1,g2,g3,g4,by exact Ir⟩) ?_)
   ·rintro x c p _ hx ⟨rfl,lo,U,rfl,k1,T,k3,k4,k5⟩;dsimp only;by_cases c:lo>=U
    ·rw[AF c];have:lo=U:=by lia
     subst this;exact Ae ⟨rfl,lo,rfl,T,k3,k4⟩
    ·rw[AA c];refine Ad<|go (lo+(U-lo) / 2) (by lia) _ ?_;dsimp only;cases C:o (lo+(U-lo) / 2) with
     |true=>
      rw[AF rfl];exact Ae ⟨rfl,lo+(U-lo) / 2+1,U,rfl,by lia,T,λi h5=>mono i _ (by lia) (by lia) C,k4,by lia⟩
     |false=>
      rw[AA (by simp)];refine Ae ⟨rfl,lo,lo+(U-lo) / 2,rfl,by lia,by lia,k3,λi h5 h6=>?_,by lia⟩;cases e:o i with|false=>rfl|true=>rw[mono _ i h5 h6 e] at C;cases C
   ·rintro c p ⟨rfl,lo,U,rfl,k1,T,k3,k4,k5⟩;have:lo=U:=by lia
    subst this;exact⟨rfl,lo,rfl,T,k3,k4⟩
   ·rintro c p ⟨rfl,U,rfl,T,k3,k4⟩;exact Ae<|q U T k3 k4
end
def TK:Ys->Ys->StateT SortSt Sem (Ys):=sortPriv% PySem.Builtin.mergeLo
def TL:Ys->Ys->StateT SortSt Sem (Ys):=sortPriv% PySem.Builtin.mergeHi
structure MI(f:Yt)(la lb eA ra rb:Yr):Prop where
 perm:(eA++(ra++rb)).Perm (la++lb)
 so:eA.Pairwise λx y=>f x<=f y
 sa:ra.Pairwise λx y=>f x<=f y
 sb:rb.Pairwise λx y=>f x<=f y
 oa:∀x∈eA,∀y∈ra,f x<=f y
 ob:∀x∈eA,∀y∈rb,f x<=f y
def MI.a{f:Yt}{j l eA seg o U:Yr}(h:MI f j l eA (seg++o) U)(hs:∀x∈seg,∀y∈U,f x<=f y):MI f j l (eA++seg) o U:=by
 have g:=AU.mp h.sa;refine⟨?_,AU.mpr ⟨h.so,g.1,λx I y J=>h.oa x I y<|Ay _ J⟩,g.2.1,h.sb,λx I y J=>?_,λx I y J=>?_⟩
 ·have:=h.perm;rw[Aq] at this ⊢;exact this
 ·rcases An.mp I with I|I
  ·exact h.oa x I y<|Al _ J
  ·exact g.2.2 x I y J
 ·rcases An.mp I with I|I
  ·exact h.ob x I y J
  ·exact hs x I y J
def MI.b{f:Yt}{l o eA seg U g:Yr}(h:MI f l o eA U<|seg++g)(hs:∀x∈seg,∀y∈U,f x<=f y):MI f l o (eA++seg) U g:=by
 have j:=AU.mp h.sb;refine⟨?_,AU.mpr ⟨h.so,j.1,λx I y J=>h.ob x I y<|Ay _ J⟩,h.sa,j.2.1,λx I y J=>?_,λx I y J=>?_⟩
 ·refine List.Perm.trans ?_ h.perm;rw[Aq];exact(BA eA).mpr (by rw[<-Aq,<-Aq];exact(Bv g).mpr Bk)
 ·rcases An.mp I with I|I
  ·exact h.oa x I y J
  ·exact hs x I y J
 ·rcases An.mp I with I|I
  ·exact h.ob x I y<|Al _ J
  ·exact j.2.2 x I y J
def ku(f:Yt)(I J r:Yr):Prop:=r.Perm (I++J)/\r.Pairwise λx y=>f x<=f y
def MI.ea{f:Yt}{I J eA U:Yr}(h:MI f I J eA U []):ku f I J (eA++U):=⟨by have:=h.perm;rwa[AG] at this,AU.mpr ⟨h.so,h.sa,h.oa⟩⟩
def MI.eb{f:Yt}{g j eA J U:Yr}(h:MI f g j eA J U)(hs:∀x∈U,∀y∈J,f x<=f y):ku f g j (eA++U++J):=by
 refine⟨List.Perm.trans ?_ h.perm,?_⟩
 ·rw[Aq];exact(BA eA).mpr Bk
 ·rw[Aq];refine AU.mpr ⟨h.so,AU.mpr ⟨h.sb,h.sa,hs⟩,λx l y I=>?_⟩;rcases An.mp I with I|I
  ·exact h.ob x l y I
  ·exact h.oa x l y I
structure MP(f:Yt)(a b eA:Ys)(ia ib:Nat):Prop where
 mi:MI f a.toList b.toList eA.toList (a.toList.drop ia) (b.toList.drop ib)
 sz:eA.size=ia+ib
 la:ia<=a.size
 lb:ib<=b.size
def J0(a:Ys)(h:i<a.size):a.toList.drop i=a[i]::a.toList.drop (i+1):=by rw[BS (by simpa using h)];simp
def iQ(a:Ys)(i j:Nat):(a.extract i j).toList=(a.toList.drop i).take (j-i):=by rw[Array.toList_extract,List.extract_eq_drop_take]
def J1(l:Yr)(i k:Nat):(l.drop i).take k++l.drop (i+k)=l.drop i:=by rw[<-List.drop_drop,A1]
def tV{a:Ys}{k:Nat}{x:Keyed}(h:x∈(a.toList.drop i).take k):∃j,∃I:i+j<a.size,j<k/\a[i+j]=x:=by
 obtain⟨j,I,e⟩:=BG h;rw[AJ,BD] at I;have J:i+j<a.size:=by have:a.toList.length=a.size:=A5;omega
 refine⟨j,J,by omega,?_⟩;rw[<-e];simp
def ie{a:Ys}{x:Keyed}(h:x∈a.toList.drop i):∃j,∃I:j<a.size,i<=j/\a[j]=x:=by
 obtain⟨j,I,e⟩:=BG h;rw[BD] at I;have J:i+j<a.size:=by have:a.toList.length=a.size:=A5;omega
 refine⟨i+j,J,by exact Bd _ _,?_⟩;rw[<-e];simp
def v_{f:Yt}{a:Ys}(s:a.toList.Pairwise λx y=>f x<=f y)(I:i<=j)(J:j<a.size):f (a[i]'(by exact qD))<=f a[j]:=by
 rcases DE I with h|h
 ·have:=CS.mp s i j (by simpa using (by exact qD:i<a.size)) (by simpa using J) h;simpa using this
 ·subst h;exact C8 _
section
variable {f:Yt}{a b eA:Ys}{ia ib:Nat}
def MP.segA(M:MP f a b eA ia ib){k:Nat}(J:ia+k<=a.size)(h:∀i (hi:ia+i<a.size),i<k->∀j (I:j<b.size),ib<=j->f a[ia+i]<=f b[j]):MP f a b (eA++a.extract ia (ia+k)) (ia+k) ib:=by
 refine⟨?_,?_,J,M.lb⟩
 ·rw[A8,iQ,show ia+k-ia=k by omega];refine MI.a (by rw[J1];exact M.mi) λx U y g=>?_;obtain⟨i,hi,l,rfl⟩:=tV U;obtain⟨j,I,o,rfl⟩:=ie g;exact h i hi l j I o
 ·rw[BQ,C4,M.sz];lia
def MP.segB(M:MP f a b eA ia ib){k:Nat}(J:ib+k<=b.size)(h:∀i (hi:ib+i<b.size),i<k->∀j (I:j<a.size),ia<=j->f b[ib+i]<=f a[j]):MP f a b (eA++b.extract ib (ib+k)) ia (ib+k):=by
 refine⟨?_,?_,M.la,J⟩
 ·rw[A8,iQ,show ib+k-ib=k by lia];refine MI.b (by rw[J1];exact M.mi) λx U y g=>?_;obtain⟨i,hi,l,rfl⟩:=tV U;obtain⟨j,I,o,rfl⟩:=ie g;exact h i hi l j I o
 ·rw[BQ,C4,M.sz];lia
def MP.oneA(M:MP f a b eA ia ib)(hi:ia<a.size)(h:∀j (I:j<b.size),ib<=j->f a[ia]<=f b[j]):MP f a b (eA.push a[ia]) (ia+1) ib:=by refine⟨?_,by rw[Bl,M.sz];simp +arith only,hi,M.lb⟩;rw[CH];refine MI.a (seg:=[a[ia]]) (by rw[Dm,<-J0 a hi];exact M.mi) λx J y U=>?_;obtain⟨j,I,g,rfl⟩:=ie U;rw[Av.mp J];exact h j I g
def MP.oneB(M:MP f a b eA ia ib)(hi:ib<b.size)(h:∀j (I:j<a.size),ia<=j->f b[ib]<=f a[j]):MP f a b (eA.push b[ib]) ia (ib+1):=by refine⟨?_,by rw[Bl,M.sz];exact Dq _ _ _,M.la,hi⟩;rw[CH];refine MI.b (seg:=[b[ib]]) (by rw[Dm,<-J0 b hi];exact M.mi) λx J y U=>?_;obtain⟨j,I,g,rfl⟩:=ie U;rw[Av.mp J];exact h j I g
def MP.done(M:MP f a b eA ia ib)(h:ib=b.size):ku f a.toList b.toList (eA++a.extract ia++b.extract ib).toList:=by have e:b.toList.drop ib=[]:=Ei (by rw[A5];lia);have m:=M.mi;rw[e] at m;have:=m.ea;rw[A8,A8,iQ,iQ,e,List.take_nil,AG,AY (by simp)];exact this
def MP.last(M:MP f a b eA ia ib)(h:ia+1=a.size)(I:∀x∈b.toList,f x<f (a[a.size-1]'(by omega))):ku f a.toList b.toList (eA++b.extract ib++a.extract ia).toList:=by
 have:=M.mi.eb λx J y U=>by
  obtain⟨j,g,l,rfl⟩:=ie U;have e:j=a.size-1:=by omega
  subst e;exact BL<|I x<|Cj J
 rw[A8,A8,iQ,iQ,AY (by simp),AY (by simp)];exact this
end
section
variable {w:Yg}{κ:SortKind}{Ok:Keyed->Prop}{f:Yt}
abbrev ig(st:SortSt)(g:Nat):SortSt:=SortSt.mk' (kindOf st) (arrOf st) (pendingOf st) g<|failedOf st
def wT{c:Prop}{_:Decidable c}{K:β->StateT SortSt Sem α}{y:β}{Q:α->SortSt->Prop}{st:SortSt}(key:∀z,wpS (model prog w) A E s (K z) Q st):∀x,wpS (model prog w) A E s (if c then K x else K y) Q st:=λx=>by
 by_cases h:c
 ·rw[AF h];exact key x
 ·rw[AA h];exact key y
def m8{I:Type}{c:Prop}{_:Decidable c}{K T:β->I->StateT SortSt Sem α}{P:β->I->Prop}{x:β}{i:I}{Q:α->SortSt->Prop}{st:SortSt}(key:∀o j,P o j->wpS (model prog w) A E s (K o j) Q st)(J:¬c->P x i)
 (U:c->(∀o j,P o j->wpS (model prog w) A E s (K o j) Q st)->wpS (model prog w) A E s (T x i) Q st):∀o,x=o->∀j,i=j->wpS (model prog w) A E s (if c then T o j else K o j) Q st:=by
 rintro _ rfl _ rfl;by_cases h:c
 ·rw[AF h];exact U h key
 ·rw[AA h];exact key x i<|J h
def xi{c:Prop} [Decidable c]{x y:StateT SortSt Sem α}{Q:α->SortSt->Prop}{st:SortSt}(h:c)(k:wpS M A E s x Q st):wpS M A E s (if c then x else y) Q st:=by rw[AF h];exact k
def jr{c:Prop} [Decidable c]{x y:StateT SortSt Sem α}{Q:α->SortSt->Prop}{st:SortSt}(h:¬c)(k:wpS M A E s y Q st):wpS M A E s (if c then x else y) Q st:=by rw[AA h];exact k
def fC{c:Prop} [Decidable c]{x y:StateT SortSt Sem α}{Q:α->SortSt->Prop}{st:SortSt}(h:c->wpS M A E s x Q st)(k:¬c->wpS M A E s y Q st):wpS M A E s (if c then x else y) Q st:=by
 by_cases d:c
 ·rw[AF d];exact h d
 ·rw[AA d];exact k d
def Gd{a:Ys}(ok:∀x∈a.toList,Ok x)(U:a.toList.Pairwise λx y=>f x<=f y)(d:Keyed):∃t:Nat->Keyed,(∀i (hi:i<a.size),t i=a[i])/\(∀i,i<a.size->a[i]?=some (t i))/\(∀i,i<a.size->Ok (t i))/\∀{i j},i<=j->j<a.size->f (t i)<=f (t j):=by
 have e:∀i (hi:i<a.size),(a[i]?).getD d=a[i]:=λi hi=>by simp[hi]
 exact⟨λi=>(a[i]?).getD d,e,λi hi=>by simp[hi],λi hi=>by show Ok ((a[i]?).getD d);rw[e i hi];exact ok _ (by simp),λ{i j} I J=>by show f ((a[i]?).getD d)<=f ((a[j]?).getD d);rw[e i (by exact qD),e j J];exact v_ U I J⟩
theorem TM(O:Ord prog w A s κ Ok f){a b:Ys}{st:SortSt}{Q:Ys->SortSt->Prop}(hk:kindOf st=κ)(bm:∀x∈a.toList,Ok x)(bn:∀x∈b.toList,Ok x)
 (sa:a.toList.Pairwise λx y=>f x<=f y) (sb:b.toList.Pairwise λx y=>f x<=f y) (ha:0<a.size) (hb:0<b.size) (h0:∀x∈a.toList,f b[0]<f x) (hl:∀x∈b.toList,f x<f a[a.size-1])
 (q:∀r g,ku f a.toList b.toList r.toList->Q r (ig st g)):wpS (model prog w) A E s (TK a b) Q st:=by
 refine Ad<|wpS_lift<|Bt ⟨rfl,?_⟩;refine Ad<|xc (x:=b[0]) (by simp[hb]) ?_;dsimp only;have M0:MP f a b #[b[0]] 0 1:=by have M:MP f a b #[] 0 0:=⟨⟨by simp,by simp,by simpa using sa,by simpa using sb,by simp,by simp⟩,rfl,A3 _,A3 _⟩;have:=M.oneB hb λj hj _=>BL<|h0 a[j] (by simp);simpa using this
 by_cases c1:(1==b.size)=true
 ·refine xi c1 ?_;exact Ae<|q _ (gallopOf st)<|M0.done (by simpa using c1)
 refine jr c1 ?_;by_cases c2:(0+1==a.size)=true
 ·refine xi c2 ?_;exact Ae<|q _ (gallopOf st)<|M0.last (by simpa using c2) hl
 refine jr c2 ?_;have c1:¬1=b.size:=by simpa using c1
 have c2:¬1=a.size:=by simpa using c2
 refine Ad<|wpS_get ?_;have c0:∀i (hi:i<a.size),Ok a[i]:=λi hi=>bm _ (by simp);have c3:∀i (hi:i<b.size),Ok b[i]:=λi hi=>bn _ (by simp);have ab:∀i (hi:i<a.size),a[i]?=some a[i]:=λi hi=>by simp[hi]
 have al:∀i (hi:i<b.size),b[i]?=some b[i]:=λi hi=>by simp[hi]
 obtain⟨tA,bg,c8,c9,ca⟩:=Gd (f:=f) bm sa b[0];obtain⟨tB,c4,cc,cl,cm⟩:=Gd (f:=f) bn sb b[0];refine Ad (AV (AK (I:=λx c p=>(∃g,p=ig st g)/\∃a2 l U mg,c=(none,a2,l,U,mg)/\MP f a b a2 l U/\l+1<a.size/\U<b.size/\x+1<=a2.size)
  (Q:=λc p=>(∃g,p=ig st g)/\∃r,c.1=some r/\ku f a.toList b.toList r.toList) ?_ ?_ ⟨⟨gallopOf st,rfl⟩,_,_,_,_,rfl,M0,by exact E7,by exact E7,by simp⟩) ?_)
 ·rintro x c p _ hx ⟨⟨g,rfl⟩,a2,l,U,mg,rfl,M,T,t,hs⟩;dsimp only;refine Ad (AV (AK (I:=λy c p=>p=ig st g/\∃J l U ac bc,c=(none,J,l,U,ac,bc)/\MP f a b J l U/\l+1<a.size/\U<b.size/\a2.size+y<=J.size)
   (Q:=λc p=>p=ig st g/\((∃r,c.1=some r/\ku f a.toList b.toList r.toList)\/∃J l U ac bc,c=(none,J,l,U,ac,bc)/\MP f a b J l U/\l+1<a.size/\U<b.size/\a2.size+1<=J.size)) ?_ ?_ ⟨rfl,_,_,_,_,_,rfl,M,T,t,Ak _⟩) ?_)
  ·rintro y c p _ hy ⟨rfl,J,l,U,ac,bc,rfl,M,T,t,c5⟩;have aL:l<a.size:=by exact gc
   dsimp only;refine Ad<|xc (al U t) ?_;refine Ad<|xc (ab l aL) ?_;refine Ad<|w_lt O hk (c3 U t) (c0 l aL) ?_;dsimp only;by_cases c:f b[U]<f a[l]
   ·refine xi (Ax c) ?_;refine Ad<|xc (al U t) ?_;have M':=M.oneB t λj hj a0=>BL<|Int.lt_of_lt_of_le c<|v_ sa a0 hj;have s2:(J.push b[U]).size=J.size+1:=Bl _;by_cases e1:(U+1==b.size)=true
    ·refine xi e1 ?_;exact Ae ⟨rfl,.inl ⟨_,rfl,M'.done (by simpa using e1)⟩⟩
    ·refine jr e1 ?_;have e1:¬U+1=b.size:=by simpa using e1
     refine fC (λ_=>?_) λ_=>?_
     ·exact Ae ⟨rfl,.inr ⟨_,_,_,_,_,rfl,M',T,by exact E7,by lia⟩⟩
     ·exact Ae ⟨rfl,_,_,_,_,_,rfl,M',T,by lia,by lia⟩
   ·refine jr (by rw[Ar c];decide) ?_;refine Ad<|xc (ab l aL) ?_;have M':=M.oneA (by lia) λj hj a0=>BO (by omega)<|v_ sb a0 hj;have s2:(J.push a[l]).size=J.size+1:=Bl _;by_cases e1:(l+1+1==a.size)=true
    ·refine xi e1 ?_;exact Ae ⟨rfl,.inl ⟨_,rfl,M'.last (by simpa using e1) hl⟩⟩
    ·refine jr e1 ?_;have e1:¬l+1+1=a.size:=by simpa using e1
     refine fC (λ_=>?_) λ_=>?_
     ·exact Ae ⟨rfl,.inr ⟨_,_,_,_,_,rfl,M',by exact E7,t,by lia⟩⟩
     ·exact Ae ⟨rfl,_,_,_,_,_,rfl,M',by lia,t,by lia⟩
  ·rintro c p ⟨rfl,J,l,U,ac,bc,rfl,M,T,t,c5⟩;have:=M.sz;omega
  ·rintro c p ⟨rfl,h⟩;rcases h with⟨r,er,hr⟩|⟨bd,l,U,ac,bc,rfl,M,T,t,c5⟩
   ·obtain⟨c1,c2⟩:=c;cases er;exact Ae ⟨⟨g,rfl⟩,r,rfl,hr⟩
   ·dsimp only;refine Ad<|wpS_lift<|Bt ⟨rfl,?_⟩;refine Ad (AV (AK (I:=λy c p=>(∃g,p=ig st g)/\∃J l U mg ac bc,c=(none,J,l,U,mg,ac,bc)/\MP f a b J l U/\l+1<a.size/\U<b.size/\bd.size+y<=J.size)
     (Q:=λc p=>(∃g,p=ig st g)/\((∃r,c.1=some r/\ku f a.toList b.toList r.toList)\/∃J l U mg ac bc,c=(none,J,l,U,mg,ac,bc)/\MP f a b J l U/\l+1<a.size/\U<b.size/\bd.size<=J.size)) ?_ ?_ ⟨⟨g,rfl⟩,_,_,_,_,_,_,rfl,M,T,t,Ak _⟩) ?_)
    ·rintro y c p _ hy ⟨⟨g',rfl⟩,J,l,U,bh,ac,bc,rfl,M,T,t,be⟩;have aL:l<a.size:=by exact gc
     dsimp only;generalize bh-1=cn;revert cn;refine wT (y:=bh) λcv=>?_
     all_goals
      refine Ad<|wpS_modify ?_;refine Ad<|xc (al U t) ?_;refine Ad<|bZ O hk (c3 U t) (by lia) (λi=>tA<|l+i) (λi hi=>⟨c8 _ (by lia),c9 _ (by lia)⟩) (λi=>!decide (f b[U]<f (tA<|l+i))) (λi hi=>by rw[AA (by simp)]) (λi j a0 hj h=>?_) λk cy a5 ba=>?_
      ·have:=ca (i:=l+i) (j:=l+j) (by lia) (by lia);simp at h ⊢;lia
      have a5:∀i,i<k->f (tA<|l+i)<=f b[U]:=λi hi=>by have:=a5 i hi;simpa using this
      have ba:∀i,k<=i->i<a.size-l->f b[U]<f (tA<|l+i):=λi hi hj=>by have:=ba i hi hj;simpa using this
      have kl:k<a.size-l:=by
       rcases DE cy with h|h
       ·exact h
       ·exfalso;have h1:=a5 (a.size-1-l) (by lia);have h2:=hl b[U] (by simp);rw[show l+(a.size-1-l)=a.size-1 by lia,bg _ (by exact E6)] at h1;omega
      have M1:MP f a b (J++a.extract l (l+k)) (l+k) U:=M.segA (by lia) λi hi bi j hj a0=>by have h1:=a5 i bi;rw[bg _ hi] at h1;exact BO h1<|v_ sb a0 hj
      have pB:∀j (hj:j<a.size),l+k<=j->f b[U]<=f a[j]:=λj hj a0=>by have h1:=ba (j-l) (by lia) (by lia);rw[show l+(j-l)=j by lia,bg _ hj] at h1;lia
      dsimp only;generalize cA:J=o0;generalize cI:l=j0;revert j0;revert o0;refine m8 (P:=λ(o:Ys) (j:Nat)=>MP f a b o j U/\J.size<=o.size/\j+1<a.size/\∀j' (hj:j'<a.size),j<=j'->f b[U]<=f a[j']) (x:=J) (i:=l) (λa1 C hP=>?tail) (λck=>?hN) λck key=>?hY
      case hN=>
       obtain rfl:k=0:=by lia
       exact⟨M,Ak _,T,λj hj a0=>pB j hj (by lia)⟩
      case hY=>
       by_cases e1:(l+k+1==a.size)=true
       ·refine xi e1 ?_;exact Ae ⟨⟨_,rfl⟩,.inl ⟨_,rfl,M1.last (by simpa using e1) hl⟩⟩
       ·refine jr e1 (jr (show ¬(l+k==a.size)=true by simp;lia) ?_);have e1:¬l+k+1=a.size:=by simpa using e1
        exact key _ _ ⟨M1,by rw[BQ];exact Bd _ _,by lia,pB⟩
      clear pB M1 a5 ba;obtain⟨M1,h3,l3,pB⟩:=hP;have bj:C<a.size:=by exact gc
      all_goals
       refine Ad<|xc (al U t) ?_;have M2:=M1.oneB t pB;have s2:(a1.push b[U]).size=a1.size+1:=Bl _;by_cases e2:(U+1==b.size)=true
       case' pos=>
        refine xi e2 ?_;exact Ae ⟨⟨_,rfl⟩,.inl ⟨_,rfl,M2.done (by simpa using e2)⟩⟩
       case' neg=>
        refine jr e2 ?_;have e2:¬U+1=b.size:=by simpa using e2
        refine Ad<|xc (ab C bj) ?_;refine Ad<|bZ O hk (c0 C bj) (by lia) (λi=>tB<|U+1+i) (λi hi=>⟨cc _ (by omega),cl _ (by lia)⟩) (λi=>decide<|f (tB<|U+1+i)<f a[C]) (λi hi=>by rw[AF rfl]) (λi j a0 hj h=>?_) λk2 cP a3 a4=>?_
        ·have:=cm (i:=U+1+i) (j:=U+1+j) (by lia) (by omega);simp at h ⊢;lia
        have a3:∀i,i<k2->f (tB<|U+1+i)<f a[C]:=λi hi=>by have:=a3 i hi;simpa using this
        have a4:∀i,k2<=i->i<b.size-(U+1)->f a[C]<=f (tB<|U+1+i):=λi hi hj=>by have:=a4 i hi hj;simpa using this
        have M3:MP f a b (a1.push b[U]++b.extract (U+1) (U+1+k2)) C (U+1+k2):=M2.segB (by omega) λi hi bi j hj a0=>by have h1:=a3 i bi;rw[c4 _ hi] at h1;exact BO (BL h1)<|v_ sa a0 hj
        have pA:∀j (hj:j<b.size),U+1+k2<=j->f a[C]<=f b[j]:=λj hj a0=>by have h1:=a4 (j-(U+1)) (by lia) (by omega);rw[show U+1+(j-(U+1))=j by lia,c4 _ hj] at h1;exact h1
        dsimp only;obtain⟨o3,c6⟩:∃o,o=a1.push b[U]:=⟨_,rfl⟩;obtain⟨bb,c7⟩:∃i,i=U+1:=⟨_,rfl⟩;rw[<-c6] at s2;rw[<-c6,<-c7] at M2 M3 ⊢;rw[<-c7] at pA cP;generalize cA:o3=o0;generalize cI:bb=j0;revert j0;revert o0;refine m8 (P:=λ(o:Ys) (j:Nat)=>MP f a b o C j/\a1.size+1<=o.size/\j<b.size/\∀j' (hj:j'<b.size),j<=j'->f a[C]<=f b[j']) (x:=o3) (i:=bb) (λbf dc hP=>?tail2) (λck=>?hN) λck key=>?hY
        case hN=>
         obtain rfl:k2=0:=by lia
         exact⟨M2,by lia,by lia,λj hj a0=>pA j hj (by lia)⟩
        case hY=>
         by_cases e3:(bb+k2==b.size)=true
         ·refine xi e3 ?_;exact Ae ⟨⟨_,rfl⟩,.inl ⟨_,rfl,M3.done (by simpa using e3)⟩⟩
         ·refine jr e3 ?_;have e3:¬bb+k2=b.size:=by simpa using e3
          exact key _ _ ⟨M3,by rw[BQ];lia,by lia,pA⟩
        clear pA M3 a3 a4;obtain⟨M3,h4,l4,pA⟩:=hP
        all_goals
         refine Ad<|xc (ab C bj) ?_;have M4:=M3.oneA (by lia) pA;have s4:(bf.push a[C]).size=bf.size+1:=Bl _;by_cases e4:(C+1+1==a.size)=true
         ·refine xi e4 ?_;exact Ae ⟨⟨_,rfl⟩,.inl ⟨_,rfl,M4.last (by simpa using e4) hl⟩⟩
         ·refine jr e4 ?_;have e4:¬C+1+1=a.size:=by simpa using e4
          refine fC (λ_=>?_) λ_=>?_
          ·exact Ae ⟨⟨_,rfl⟩,.inr ⟨_,_,_,_,_,_,rfl,M4,by exact E7,l4,by lia⟩⟩
          ·exact Ae ⟨⟨_,rfl⟩,_,_,_,_,_,_,rfl,M4,by lia,l4,by lia⟩
    ·rintro c p ⟨⟨g',rfl⟩,J,l,U,bh,ac,bc,rfl,M,T,t,be⟩;have:=M.sz;omega
    ·rintro c p ⟨⟨g',rfl⟩,h⟩;rcases h with⟨r,er,hr⟩|⟨d0,l,U,cv,ac,bc,rfl,M,T,t,be⟩
     ·obtain⟨c1,c2⟩:=c;cases er;exact Ae ⟨⟨g',rfl⟩,r,rfl,hr⟩
     ·dsimp only;refine Ad<|wpS_modify ?_;exact Ae ⟨⟨_,rfl⟩,_,_,_,_,rfl,M,T,t,by lia⟩
 ·rintro c p ⟨⟨g,rfl⟩,a2,l,U,mg,rfl,M,T,t,hs⟩;have:=M.sz;lia
 ·rintro c p ⟨⟨g,rfl⟩,r,er,hr⟩;obtain⟨c1,c2⟩:=c;cases er;exact Ae<|q r g hr
end
structure MH(f:Yt)(la lb ra rb o:Yr):Prop where
 perm:(ra++rb++o).Perm (la++lb)
 so:o.Pairwise λx y=>f x<=f y
 sa:ra.Pairwise λx y=>f x<=f y
 sb:rb.Pairwise λx y=>f x<=f y
 oa:∀x∈ra,∀y∈o,f x<=f y
 ob:∀x∈rb,∀y∈o,f x<=f y
def MH.a{f:Yt}{l p o seg U g:Yr}(h:MH f l p (U++seg) g o)(hs:∀x∈g,∀y∈seg,f x<=f y):MH f l p U g (seg++o):=by
 have j:=AU.mp h.sa;refine⟨List.Perm.trans ?_ h.perm,AU.mpr ⟨j.2.1,h.so,λx J y I=>h.oa x (Al _ J) y I⟩,j.1,h.sb,λx J y I=>?_,λx J y I=>?_⟩
 ·rw[<-Aq];refine(Bv o).mpr ?_;rw[Aq,Aq];exact(BA U).mpr Bk
 ·rcases An.mp I with I|I
  ·exact j.2.2 x J y I
  ·exact h.oa x (Ay _ J) y I
 ·rcases An.mp I with I|I
  ·exact hs x J y I
  ·exact h.ob x J y I
def MH.b{f:Yt}{l p o seg U g:Yr}(h:MH f l p U (g++seg) o)(hs:∀x∈U,∀y∈seg,f x<=f y):MH f l p U g (seg++o):=by
 have j:=AU.mp h.sb;refine⟨?_,AU.mpr ⟨j.2.1,h.so,λx J y I=>h.ob x (Al _ J) y I⟩,h.sa,j.1,λx J y I=>?_,λx J y I=>?_⟩
 ·have:=h.perm;rw[<-Aq,Aq U g seg];exact this
 ·rcases An.mp I with I|I
  ·exact hs x J y I
  ·exact h.oa x J y I
 ·rcases An.mp I with I|I
  ·exact j.2.2 x J y I
  ·exact h.ob x (Ay _ J) y I
def MH.ea{f:Yt}{I J o U:Yr}(h:MH f I J [] U o):ku f I J (U++o):=⟨by have:=h.perm;rwa[BZ] at this,AU.mpr ⟨h.sb,h.so,h.ob⟩⟩
def MH.eb{f:Yt}{g j o J U:Yr}(h:MH f g j J U o)(hs:∀x∈U,∀y∈J,f x<=f y):ku f g j (U++J++o):=by
 refine⟨List.Perm.trans ?_ h.perm,?_⟩
 ·exact(Bv o).mpr Bk
 ·refine AU.mpr ⟨AU.mpr ⟨h.sb,h.sa,hs⟩,h.so,λx I y l=>?_⟩;rcases An.mp I with I|I
  ·exact h.ob x I y l
  ·exact h.oa x I y l
structure HP(f:Yt)(a b eA:Ys)(na nb:Nat):Prop where
 mi:MH f a.toList b.toList (a.toList.take na) (b.toList.take nb) eA.toList.reverse
 sz:eA.size+na+nb=a.size+b.size
 la:na<=a.size
 lb:nb<=b.size
def J2(a:Ys)(h:i<a.size):a.toList.take (i+1)=a.toList.take i++[a[i]]:=by rw[AZ];simp[h]
def gf{a:Ys}{x:Keyed}(h:x∈a.toList.take i):∃j,∃I:j<a.size,j<i/\a[j]=x:=by
 obtain⟨j,I,e⟩:=BG h;rw[AJ] at I;have J:j<a.size:=by have:a.toList.length=a.size:=A5;omega
 refine⟨j,J,by omega,?_⟩;rw[<-e];simp
def Ge(l:Yr){k:Nat}(h:i<=k):l.take i++(l.drop i).take (k-i)=l.take k:=by have:=List.take_add (l:=l) (i:=i) (j:=k-i);rw[show i+(k-i)=k by omega] at this;exact this.symm
section
variable {f:Yt}{a b eA:Ys}{nb:Nat}
def HP.segA(M:HP f a b eA na nb){k:Nat}(J:k<=na)(h:∀i (hi:i<a.size),k<=i->i<na->∀j (I:j<b.size),j<nb->f b[j]<=f a[i]):HP f a b (eA++(a.extract k na).reverse) k nb:=by
 have o:=M.la;refine⟨?_,?_,by exact GN,M.lb⟩
 ·rw[A8,CU,CK,List.reverse_reverse,iQ];refine MH.a (by rw[Ge _ J];exact M.mi) λx U y g=>?_;obtain⟨j,I,l,rfl⟩:=gf U;obtain⟨i,hi,p,rfl⟩:=tV g;exact h (k+i) hi (by exact Bd _ _) (by lia) j I l
 ·have:=M.sz;rw[BQ,Array.size_reverse,C4];lia
def HP.segB(M:HP f a b eA na nb){k:Nat}(J:k<=nb)(h:∀i (hi:i<b.size),k<=i->i<nb->∀j (I:j<a.size),j<na->f a[j]<=f b[i]):HP f a b (eA++(b.extract k nb).reverse) na k:=by
 have o:=M.lb;refine⟨?_,?_,M.la,by lia⟩
 ·rw[A8,CU,CK,List.reverse_reverse,iQ];refine MH.b (by rw[Ge _ J];exact M.mi) λx U y g=>?_;obtain⟨j,I,l,rfl⟩:=gf U;obtain⟨i,hi,p,rfl⟩:=tV g;exact h (k+i) hi (by lia) (by lia) j I l
 ·have:=M.sz;rw[BQ,Array.size_reverse,C4];lia
def HP.oneA(M:HP f a b eA (na+1) nb)(hi:na<a.size)(h:∀j (I:j<b.size),j<nb->f b[j]<=f a[na]):HP f a b (eA.push a[na]) na nb:=by refine⟨?_,by have:=M.sz;rw[Bl];lia,by exact gc,M.lb⟩;rw[CH,CU];refine MH.a (seg:=[a[na]]) (by rw[<-J2 a hi];exact M.mi) λx J y U=>?_;obtain⟨j,I,g,rfl⟩:=gf J;rw[Av.mp U];exact h j I g
def HP.oneB(M:HP f a b eA na<|nb+1)(hi:nb<b.size)(h:∀j (I:j<a.size),j<na->f a[j]<=f b[nb]):HP f a b (eA.push b[nb]) na nb:=by refine⟨?_,by have:=M.sz;rw[Bl];lia,M.la,by lia⟩;rw[CH,CU];refine MH.b (seg:=[b[nb]]) (by rw[<-J2 b hi];exact M.mi) λx J y U=>?_;obtain⟨j,I,g,rfl⟩:=gf J;rw[Av.mp U];exact h j I g
def HP.done(M:HP f a b eA na nb)(h:na=0):ku f a.toList b.toList (a.extract 0 na++b.extract 0 nb++eA.reverse).toList:=by subst h;have:=M.mi;rw[DC] at this;have:=this.ea;rw[A8,A8,iQ,iQ,CK];simpa using this
def HP.last(M:HP f a b eA na nb)(h:nb=1)(g:0<b.size)(I:∀x∈a.toList,f b[0]<f x):ku f a.toList b.toList (b.extract 0 nb++a.extract 0 na++eA.reverse).toList:=by
 have:=M.mi.eb λx J y U=>by
  obtain⟨j,l,o,rfl⟩:=gf J;have e:j=0:=by lia
  subst e;exact BL<|I y<|Bz U
 rw[A8,A8,iQ,iQ,CK];simpa using this
end
def HP.preA{f:Yt}{a b eA:Ys}{nb:Nat}(M:HP f a b eA na nb)(I:0<na)(h:∀j (J:j<b.size),j<nb->f b[j]<=f (a[na-1]'(by have:=M.la;omega))):HP f a b (eA.push (a[na-1]'(by have:=M.la;omega))) (na-1) nb:=by obtain⟨n,rfl⟩:∃n,na=n+1:=⟨na-1,by lia⟩;have U:=M.la;exact HP.oneA M (by assumption) h
def HP.preB{f:Yt}{a b eA:Ys}{nb:Nat}(M:HP f a b eA na nb)(I:0<nb)(h:∀j (J:j<a.size),j<na->f a[j]<=f (b[nb-1]'(by have:=M.lb;omega))):HP f a b (eA.push (b[nb-1]'(by have:=M.lb;lia))) na (nb-1):=by obtain⟨n,rfl⟩:∃n,nb=n+1:=⟨nb-1,by lia⟩;have U:=M.lb;exact HP.oneB M (by lia) h
section
variable {w:Yg}{κ:SortKind}{Ok:Keyed->Prop}{f:Yt}
theorem TN(O:Ord prog w A s κ Ok f){a b:Ys}{st:SortSt}{Q:Ys->SortSt->Prop}(hk:kindOf st=κ)(c0:∀x∈a.toList,Ok x)(c3:∀x∈b.toList,Ok x)
 (sa:a.toList.Pairwise λx y=>f x<=f y) (sb:b.toList.Pairwise λx y=>f x<=f y) (ha:0<a.size) (hb:0<b.size) (h0:∀x∈a.toList,f b[0]<f x) (hl:∀x∈b.toList,f x<f a[a.size-1])
 (q:∀r g,ku f a.toList b.toList r.toList->Q r (ig st g)):wpS (model prog w) A E s (TL a b) Q st:=by
 have c4:∀i (t:i<a.size),Ok a[i]:=λi t=>c0 _ (by simp);have c5:∀i (t:i<b.size),Ok b[i]:=λi t=>c3 _ (by simp);have ab:∀i (t:i<a.size),a[i]?=some a[i]:=λi t=>by simp[t]
 have aL:∀i (t:i<b.size),b[i]?=some b[i]:=λi t=>by simp[t]
 obtain⟨tA,c6,bi,ca,cc⟩:=Gd (f:=f) c0 sa b[0];obtain⟨tB,bj,bm,cl,cm⟩:=Gd (f:=f) c3 sb b[0];have bi:∀i,i<a.size->a[0+i]?=some (tA i):=λi t=>by rw[CC];exact bi i t
 have bm:∀i,i<b.size->b[0+i]?=some (tB i):=λi t=>by rw[CC];exact bm i t
 refine Ad<|wpS_lift<|Bt ⟨rfl,?_⟩;refine Ad<|xc (x:=a[a.size-1]) (ab _ (by exact E6)) ?_;dsimp only;obtain⟨n0,dp⟩:∃n,a.size=n+1:=⟨a.size-1,by lia⟩;have M0:HP f a b #[a[a.size-1]] (a.size-1) b.size:=by
  have M:HP f a b #[] (a.size-1+1) b.size:=by
   refine⟨⟨?_,by simp,?_,?_,by simp,by simp⟩,by simp;lia,by exact E6,Ak _⟩
   ·rw[AY (by simp;lia),AY (by simp)];simp
   ·rw[AY (by simp;lia)];exact sa
   ·rw[AY (by simp)];exact sb
  have:=M.oneA (by lia) λj hj _=>BL<|hl b[j] (by simp);simpa using this
 by_cases c1:(a.size-1==0)=true
 ·refine xi c1 ?_;exact Ae<|q _ (gallopOf st)<|M0.done (by simpa using c1)
 refine jr c1 ?_;by_cases c2:(b.size==1)=true
 ·refine xi c2 ?_;exact Ae<|q _ (gallopOf st)<|M0.last (by simpa using c2) hb h0
 refine jr c2 ?_;have c1:¬a.size-1=0:=by simpa using c1
 have c2:¬b.size=1:=by simpa using c2
 refine Ad<|wpS_get ?_;refine Ad (AV (AK (I:=λx c l=>(∃g,l=ig st g)/\∃U nb a4 mg,c=(none,U,nb,a4,mg)/\HP f a b a4 U nb/\0<U/\1<nb/\x+1<=a4.size)
  (Q:=λc l=>(∃g,l=ig st g)/\∃r,c.1=some r/\ku f a.toList b.toList r.toList) ?_ ?_ ⟨⟨gallopOf st,rfl⟩,_,_,_,_,rfl,M0,by exact Fq,by lia,by simp⟩) ?_)
 ·rintro x c l _ hx ⟨⟨g,rfl⟩,U,nb,a4,mg,rfl,M,C,a0,hs⟩;dsimp only;refine Ad (AV (AK (I:=λy c l=>l=ig st g/\∃U nb J ac bc,c=(none,U,nb,J,ac,bc)/\HP f a b J U nb/\0<U/\1<nb/\a4.size+y<=J.size)
   (Q:=λc l=>l=ig st g/\((∃r,c.1=some r/\ku f a.toList b.toList r.toList)\/∃U nb J ac bc,c=(none,U,nb,J,ac,bc)/\HP f a b J U nb/\0<U/\1<nb/\a4.size+1<=J.size)) ?_ ?_ ⟨rfl,_,_,_,_,_,rfl,M,C,a0,Ak _⟩) ?_)
  ·rintro y c l _ hy ⟨rfl,U,nb,J,ac,bc,rfl,M,C,a0,c7⟩;have cv:=M.la;have cy:=M.lb;have a1:nb-1<b.size:=by omega
   have al:U-1<a.size:=by lia
   dsimp only;refine Ad<|xc (aL (nb-1) a1) ?_;refine Ad<|xc (ab (U-1) al) ?_;refine Ad<|w_lt O hk (c5 (nb-1) a1) (c4 (U-1) al) ?_;dsimp only;by_cases c:f b[nb-1]<f a[U-1]
   ·refine xi (Ax c) ?_;refine Ad<|xc (ab (U-1) al) ?_;have M':=M.preA C λj hj T=>BL<|Int.lt_of_le_of_lt (v_ sb (i:=j) (j:=nb-1) (CL T) a1) c;have s2:(J.push a[U-1]).size=J.size+1:=Bl _;by_cases e1:(U-1==0)=true
    ·refine xi e1 ?_;exact Ae ⟨rfl,.inl ⟨_,rfl,M'.done (by simpa using e1)⟩⟩
    ·refine jr e1 ?_;have e1:¬U-1=0:=by simpa using e1
     refine fC (λ_=>?_) λ_=>?_
     ·exact Ae ⟨rfl,.inr ⟨_,_,_,_,_,rfl,M',by exact Fq,a0,by lia⟩⟩
     ·exact Ae ⟨rfl,_,_,_,_,_,rfl,M',by lia,a0,by lia⟩
   ·refine jr (by rw[Ar c];decide) ?_;refine Ad<|xc (aL (nb-1) a1) ?_;have M':=M.preB (by exact gc) λj hj T=>BO (v_ sa (i:=j) (j:=U-1) (CL T) al) (by omega);have s2:(J.push b[nb-1]).size=J.size+1:=Bl _;by_cases e1:(nb-1==1)=true
    ·refine xi e1 ?_;exact Ae ⟨rfl,.inl ⟨_,rfl,M'.last (by simpa using e1) hb h0⟩⟩
    ·refine jr e1 ?_;have e1:¬nb-1=1:=by simpa using e1
     refine fC (λ_=>?_) λ_=>?_
     ·exact Ae ⟨rfl,.inr ⟨_,_,_,_,_,rfl,M',C,by lia,by lia⟩⟩
     ·exact Ae ⟨rfl,_,_,_,_,_,rfl,M',C,by lia,by lia⟩
  ·rintro c l ⟨rfl,U,nb,J,ac,bc,rfl,M,C,a0,c7⟩;have:=M.sz;omega
  ·rintro c l ⟨rfl,h⟩;rcases h with⟨r,er,hr⟩|⟨U,nb,bf,ac,bc,rfl,M,C,a0,c7⟩
   ·obtain⟨c1,c2⟩:=c;cases er;exact Ae ⟨⟨g,rfl⟩,r,rfl,hr⟩
   ·dsimp only;refine Ad<|wpS_lift<|Bt ⟨rfl,?_⟩;refine Ad (AV (AK (I:=λy c l=>(∃g,l=ig st g)/\∃U nb J mg ac bc,c=(none,U,nb,J,mg,ac,bc)/\HP f a b J U nb/\0<U/\1<nb/\bf.size+y<=J.size)
     (Q:=λc l=>(∃g,l=ig st g)/\((∃r,c.1=some r/\ku f a.toList b.toList r.toList)\/∃U nb J mg ac bc,c=(none,U,nb,J,mg,ac,bc)/\HP f a b J U nb/\0<U/\1<nb/\bf.size<=J.size)) ?_ ?_ ⟨⟨g,rfl⟩,_,_,_,_,_,_,rfl,M,C,a0,Ak _⟩) ?_)
    ·rintro y c l _ hy ⟨⟨g',rfl⟩,U,nb,J,bn,ac,bc,rfl,M,C,a0,bg⟩;have cv:=M.la;have cy:=M.lb;have a1:nb-1<b.size:=by omega
     have al:U-1<a.size:=by lia
     dsimp only;generalize bn-1=cA;revert cA;refine wT (y:=bn) λcI=>?_
     all_goals
      refine Ad<|wpS_modify ?_;refine Ad<|xc (aL (nb-1) a1) ?_;refine Ad<|bZ O hk (c5 (nb-1) a1) (by exact E6) tA (λi t=>⟨bi _ (by exact Fp),ca _ (by lia)⟩) (λi=>!decide (f b[nb-1]<f (tA i))) (λi t=>by rw[AA (by simp)]) (λi j T hj h=>?_) λk cP ba bb=>?_
      ·have:=cc (i:=i) (j:=j) (by lia) (by exact Fp);simp at h ⊢;lia
      have ba:∀i,i<k->f (tA i)<=f b[nb-1]:=λi t=>by have:=ba i t;simpa using this
      have bb:∀i,k<=i->i<U->f b[nb-1]<f (tA i):=λi t hj=>by have:=bb i t hj;simpa using this
      have M1:HP f a b (J++(a.extract k U).reverse) k nb:=M.segA cP λi t h1 h2 j hj T=>by have h3:=bb i h1 h2;rw[c6 _ t] at h3;exact BO (v_ sb (i:=j) (j:=nb-1) (CL T) a1)<|BL h3
      have pB:∀j (hj:j<a.size),j<k->f a[j]<=f b[nb-1]:=λj hj T=>by have h1:=ba j T;rw[c6 _ hj] at h1;exact h1
      dsimp only;generalize dt:U-k=cn;generalize d0:J=o0;generalize dc:U=j0;revert j0;revert o0;refine m8 (P:=λ(o:Ys) (j:Nat)=>HP f a b o j nb/\J.size<=o.size/\0<j/\∀j' (hj:j'<a.size),j'<j->f a[j']<=f b[nb-1]) (x:=J) (i:=U) (λa2 p hP=>?tail) (λck=>?hN) λck key=>?hY
      case hN=>
       obtain rfl:k=U:=by lia
       exact⟨M,Ak _,by lia,pB⟩
      case hY=>
       by_cases e1:(k==0)=true
       ·refine xi e1 ?_;exact Ae ⟨⟨_,rfl⟩,.inl ⟨_,rfl,M1.done (by simpa using e1)⟩⟩
       ·refine jr e1 ?_;have e1:¬k=0:=by simpa using e1
        exact key _ _ ⟨M1,by rw[BQ];exact Bd _ _,by exact Fq,pB⟩
      clear pB M1 ba bb;obtain⟨M1,h3,l3,pB⟩:=hP
      all_goals
       have di:=M1.la;have bd:p-1<a.size:=by lia
       refine Ad<|xc (aL (nb-1) a1) ?_;have M2:=M1.preB (by exact gc) pB;have s2:(a2.push b[nb-1]).size=a2.size+1:=Bl _;by_cases e2:(nb-1==1)=true
       case' pos=>
        refine xi e2 ?_;exact Ae ⟨⟨_,rfl⟩,.inl ⟨_,rfl,M2.last (by simpa using e2) hb h0⟩⟩
       case' neg=>
        refine jr e2 ?_;have e2:¬nb-1=1:=by simpa using e2
        refine Ad<|xc (ab (p-1) bd) ?_;refine Ad<|bZ O hk (c4 (p-1) bd) (by lia) tB (λi t=>⟨bm _ (by exact tW),cl _ (by lia)⟩) (λi=>decide<|f (tB i)<f a[p-1]) (λi t=>by rw[AF rfl]) (λi j T hj h=>?_) λk2 c8 a5 a3=>?_
        ·have:=cm (i:=i) (j:=j) (by lia) (by exact tW);simp at h ⊢;lia
        have a5:∀i,i<k2->f (tB i)<f a[p-1]:=λi t=>by have:=a5 i t;simpa using this
        have a3:∀i,k2<=i->i<nb-1->f a[p-1]<=f (tB i):=λi t hj=>by have:=a3 i t hj;simpa using this
        have k1:0<k2:=by
         rcases Nat.eq_zero_or_pos k2 with h|h
         ·exfalso;have h5:=a3 0 (by exact vQ) (by lia);rw[bj _ hb] at h5;have h6:=h0 a[p-1] (by simp);lia
         ·exact h
        have M3:HP f a b (a2.push b[nb-1]++(b.extract k2<|nb-1).reverse) p k2:=M2.segB c8 λi t h1 h2 j hj T=>by have h5:=a3 i h1 h2;rw[bj _ t] at h5;exact BO (v_ sa (i:=j) (j:=p-1) (CL T) bd) h5
        have pA:∀j (hj:j<b.size),j<k2->f b[j]<=f a[p-1]:=λj hj T=>by have h5:=a5 j T;rw[bj _ hj] at h5;exact BL h5
        dsimp only;generalize dd:nb-1-k2=dv;obtain⟨o3,de⟩:∃o,o=a2.push b[nb-1]:=⟨_,rfl⟩;obtain⟨be,c9⟩:∃i,i=nb-1:=⟨_,rfl⟩;have eb:b[nb-1]=b[be]'(by lia):=by subst c9;rfl
        rw[<-de] at s2 M2 M3 ⊢;rw[<-c9] at M2 M3 dd c8 ⊢;generalize d0:o3=o0;generalize dc:be=j0;revert j0;revert o0;refine m8 (P:=λ(o:Ys) (j:Nat)=>HP f a b o p j/\a2.size+1<=o.size/\1<j/\∀j' (hj:j'<b.size),j'<j->f b[j']<=f a[p-1]) (x:=o3) (i:=be) (λbh dV hP=>?tail2) (λck=>?hN) λck key=>?hY
        case hN=>
         obtain rfl:k2=be:=by lia
         exact⟨M2,by lia,by lia,pA⟩
        case hY=>
         by_cases e3:(k2==1)=true
         ·refine xi e3 ?_;exact Ae ⟨⟨_,rfl⟩,.inl ⟨_,rfl,M3.last (by simpa using e3) hb h0⟩⟩
         ·refine jr e3 (jr (show ¬(k2==0)=true by simp;exact Io) ?_);have e3:¬k2=1:=by simpa using e3
          exact key _ _ ⟨M3,by rw[BQ];lia,by lia,pA⟩
        clear pA M3 a5 a3;obtain⟨M3,h4,l4,pA⟩:=hP
        all_goals
         refine Ad<|xc (ab (p-1) bd) ?_;have M4:=M3.preA l3 pA;have s4:(bh.push a[p-1]).size=bh.size+1:=Bl _;by_cases e4:(p-1==0)=true
         ·refine xi e4 ?_;exact Ae ⟨⟨_,rfl⟩,.inl ⟨_,rfl,M4.done (by simpa using e4)⟩⟩
         ·refine jr e4 ?_;have e4:¬p-1=0:=by simpa using e4
          refine fC (λ_=>?_) λ_=>?_
          ·exact Ae ⟨⟨_,rfl⟩,.inr ⟨_,_,_,_,_,_,rfl,M4,by exact Fq,l4,by lia⟩⟩
          ·exact Ae ⟨⟨_,rfl⟩,_,_,_,_,_,_,rfl,M4,by lia,l4,by lia⟩
    ·rintro c l ⟨⟨g',rfl⟩,U,nb,J,bn,ac,bc,rfl,M,C,a0,bg⟩;have:=M.sz;omega
    ·rintro c l ⟨⟨g',rfl⟩,h⟩;rcases h with⟨r,er,hr⟩|⟨U,nb,dj,cI,ac,bc,rfl,M,C,a0,bg⟩
     ·obtain⟨c1,c2⟩:=c;cases er;exact Ae ⟨⟨g',rfl⟩,r,rfl,hr⟩
     ·dsimp only;refine Ad<|wpS_modify ?_;exact Ae ⟨⟨_,rfl⟩,_,_,_,_,rfl,M,C,a0,by lia⟩
 ·rintro c l ⟨⟨g,rfl⟩,U,nb,a4,mg,rfl,M,C,a0,hs⟩;have:=M.sz;lia
 ·rintro c l ⟨⟨g,rfl⟩,r,er,hr⟩;obtain⟨c1,c2⟩:=c;cases er;exact Ae<|q r g hr
end
def TQ{σ:Type}{st I:σ}{Q:PUnit->σ->Prop}(h:Q ⟨⟩ I):wpS M A E s (set I:StateT σ Sem PUnit) Q st:=by unfold wpS;rw[StateT.run_set];exact Aj ⟨rfl,h⟩
theorem oq{α:Type}:∀(m:List α) (arr:Array α) (i k:Nat),i+k+m.length<=arr.size->((m.zipIdx k).foldl (λ(a:Array α) (I:α×Nat)=>a.setIfInBounds (i+I.2) I.1) arr).toList=arr.toList.take (i+k)++(m++arr.toList.drop (i+k+m.length))
 |[],arr,i,k,h=>by simp
 |x::m,arr,i,k,h=>by
  rw[DX,El];simp only[Au] at h;rw[oq m _ i (k+1) (by simp;lia)];have e:(arr.setIfInBounds (i+k) x).toList=arr.toList.set (i+k) x:=by simp
  have l:arr.toList.length=arr.size:=A5;rw[e,List.drop_set,AF (by exact Bd _ _),<-Dq,AZ,B4 (by lia),List.take_set_of_le (by simp +arith only),Au];simp;congr 1;simp +arith only
section
variable {w:Yg}{κ:SortKind}{Ok:Keyed->Prop}{f:Yt}
def u4{l:Yr}(s:l.Pairwise λx y=>f x<=f y)(I:i<=j)(J:j<l.length):f (l[i]'(by exact qD))<=f l[j]:=by
 rcases DE I with h|h
 ·exact CS.mp s i j (by exact qD) J h
 ·subst h;exact C8 _
def Ho{l:Yr}{x:Keyed}(h:x∈l):∃i,∃hi:i<l.length,l[i]=x:=BG h
def Hq{l:Yr}{x:Keyed}(h:x∈l.take m):∃i,∃hi:i<l.length,i<m/\l[i]=x:=by obtain⟨i,hi,rfl⟩:=BG h;rw[AJ] at hi;exact⟨i,by lia,by lia,Bx.symm⟩
def Gf{l:Yr}{x:Keyed}{k:Nat}(h:x∈l.drop k):∃i,∃hi:i<l.length,k<=i/\l[i]=x:=by obtain⟨i,hi,rfl⟩:=BG h;rw[BD] at hi;exact⟨k+i,by lia,Bd _ _,DK.symm⟩
theorem TR(O:Ord prog w A s κ Ok f){st:SortSt}{X Y:Yr}{w1 w2:Nat}{Q:Bool->SortSt->Prop}(hk:kindOf st=κ)(hf:failedOf st=none)(hp:pendingOf st=#[(0,X.length,w1),(X.length,Y.length,w2)])(ea:(arrOf st).toList=X++Y)(ok:∀x∈X++Y,Ok x)
 (lX:0<X.length) (lY:0<Y.length) (sX:X.Pairwise λx y=>f x<=f y) (sY:Y.Pairwise λx y=>f x<=f y) (q:∀T,failedOf T=none->(pendingOf T).size=1->(arrOf T).toList.Perm (X++Y)->((arrOf T).toList.Pairwise λx y=>f x<=f y)->Q true T):wpS (model prog w) A E s (mergeAt' 0) Q st:=by
 have a1:(pendingOf st)[0]?=some (0,X.length,w1):=by rw[hp];rfl
 have a2:(pendingOf st)[0+1]?=some (X.length,Y.length,w2):=by rw[hp];rfl
 have a3:(((pendingOf st).setIfInBounds 0 (0,X.length+Y.length,w1)).eraseIdxIfInBounds<|0+1).size=1:=by simp[hp]
 refine Ad<|wpS_get ?_;rw[show(sortPriv% PySem.Builtin.SortState.pending) st=pendingOf st from rfl,a1,a2];dsimp only;refine Ad<|TQ ?_;generalize ((pendingOf st).setIfInBounds 0 (0,X.length+Y.length,w1)).eraseIdxIfInBounds (0+1)=pn at a3 ⊢;have aL:∀i (I:i<X.length),(arrOf st)[i]?=some X[i]:=λi I=>by rw[<-A7,ea,AC I];simp
 have ba:∀i (I:i<Y.length),(arrOf st)[X.length+i]?=some Y[i]:=λi I=>by rw[<-A7,ea,AI<|Bd _ _,Bo];simp
 have ab:∀x∈X,Ok x:=λx l=>ok x<|Ay _ l;have ac:∀x∈Y,Ok x:=λx l=>ok x<|Al _ l;obtain⟨tX,bb⟩:∃t:Nat->Keyed,t=λi=>(X[i]?).getD X[0]:=⟨_,rfl⟩;have p:∀i (I:i<X.length),tX i=X[i]:=λi I=>by rw[bb];simp[I]
 obtain⟨tY,bc⟩:∃t:Nat->Keyed,t=λi=>(Y[i]?).getD X[0]:=⟨_,rfl⟩;have C:∀i (I:i<Y.length),tY i=Y[i]:=λi I=>by rw[bc];simp[I]
 refine Ad<|xc (x:=Y[0]) (ba 0 lY) ?_;refine Ad (bZ O hk (ac _<|Ct _) lX tX (λi I=>⟨by rw[p i I,CC];exact aL i I,by rw[p i I];exact ab _<|Ct _⟩) (λi=>!decide (f Y[0]<f (tX i))) (λi I=>by rw[AA (by simp)]) (λi j al J h=>?_) λk bd a4 a5=>?_)
 ·have:=u4 sX al J;rw[p j J] at h;rw[p i (by exact qD)];simp at h ⊢;omega
 have a4:∀i (I:i<k),f (X[i]'(by exact Fp))<=f Y[0]:=λi I=>by have:=a4 i I;rw[p i (by lia)] at this;simpa using this
 have a5:∀i (J:i<X.length),k<=i->f Y[0]<f X[i]:=λi J I=>by have:=a5 i I J;rw[p i J] at this;simpa using this
 dsimp only;rw[CC];by_cases c:(X.length-k==0)=true
 ·rw[AF c];have c:X.length-k=0:=by simpa using c
  refine Ae (q _ hf a3 (by show(arrOf st).toList.Perm _;rw[ea]) (by show(arrOf st).toList.Pairwise _;rw[ea];refine AU.mpr ⟨sX,sY,λx l y hy=>?_⟩;obtain⟨i,I,rfl⟩:=Ho l;obtain⟨j,J,rfl⟩:=Ho hy;exact BO (a4 i (by lia))<|u4 sY (A3 _) J))
 rw[AA c];have c:k<X.length:=by
  have:¬X.length-k=0:=by simpa using c
  lia
 refine Ad (xc (x:=X[X.length-1]) (by rw[show k+(X.length-k)-1=X.length-1 by lia];exact aL _ (by lia)) ?_);refine Ad (bZ O hk (ab _<|Ct _) (by lia) tY (λi I=>⟨by rw[C i I];exact ba i I,by rw[C i I];exact ac _<|Ct _⟩) (λi=>decide<|f (tY i)<f X[X.length-1]) (λi I=>by rw[AF rfl]) (λi j al J h=>?_) λm be a0 o=>?_)
 ·have:=u4 sY al J;rw[C j J] at h;rw[C i (by exact qD)];simp at h ⊢;omega
 have a0:∀i (I:i<m),f (Y[i]'(by exact Fp))<f X[X.length-1]:=λi I=>by have:=a0 i I;rw[C i (by lia)] at this;simpa using this
 have o:∀i (J:i<Y.length),m<=i->f X[X.length-1]<=f Y[i]:=λi J I=>by have:=o i I J;rw[C i J] at this;simpa using this
 have m0:0<m:=Nat.pos_of_ne_zero λh=>by have h5:=o 0 lY (by lia);have h6:=a5 (X.length-1) (by lia) (by lia);omega
 dsimp only;rw[AA (show ¬(m==0)=true by simp;lia)];have ex:((arrOf st).extract k X.length).toList=X.drop k:=by rw[iQ,ea,List.drop_append_of_le_length (by lia),Ds (by simp),AY (by simp)]
 have ey:((arrOf st).extract X.length<|X.length+m).toList=Y.take m:=by rw[iQ,ea,List.drop_left,Bo]
 have jw:∀(r:Ys) (g:Nat),ku f (X.drop k) (Y.take m) r.toList->Q (failedOf st).isNone (SortSt.mk' (kindOf st) (r.toList.zipIdx.foldl (λa x=>a.setIfInBounds (k+x.2) x.1)<|arrOf st) pn g<|failedOf st):=by
  rintro r g ⟨hm,hs⟩;have lr:r.toList.length=X.length-k+m:=by rw[hm.length_eq];simp;lia
  have pt:=oq r.toList (arrOf st) k 0 (by rw[lr,<-A5,ea,Ac];lia);rw[ea,lr,Nat.add_zero,show k+(X.length-k+m)=X.length+m by lia,Ds (by lia),List.drop_length_add_append] at pt;rw[hf];refine q _ rfl a3 ((Em pt).trans ?_)<|Eq.subst (motive:=List.Pairwise λx y=>f x<=f y) pt.symm ?_
  ·have h1:=(BA<|X.take k).mpr<|(Bv<|Y.drop m).mpr hm;rwa[Aq<|X.drop k,A1,<-Aq (X.take k) (X.drop k),A1] at h1
  ·refine AU.mpr ⟨sX.sublist<|DJ _ _,AU.mpr ⟨hs,sY.sublist<|List.drop_sublist _ _,λx l y hy=>?_⟩,λx l y hy=>?_⟩
   ·obtain⟨j,J,h2,rfl⟩:=Gf hy;rcases An.mp (hm.mem_iff.mp l) with h|h
    ·obtain⟨i,I,_,rfl⟩:=Gf h;exact BO (u4 sX (by lia) (by lia))<|o j J h2
    ·obtain⟨i,I,h1,rfl⟩:=Hq h;exact u4 sY (by lia) J
   ·obtain⟨i,I,h1,rfl⟩:=Hq l;have low:∀z∈Y,f X[i]<=f z:=λz hz=>by obtain⟨j,J,rfl⟩:=Ho hz;exact BO (a4 i h1) (u4 sY (A3 _) J)
    rcases An.mp hy with h|h
    ·rcases An.mp (hm.mem_iff.mp h) with h|h
     ·obtain⟨j,J,h2,rfl⟩:=Gf h;exact u4 sX (by lia) J
     ·exact low y<|Bz h
    ·exact low y<|Cj h
 generalize (arrOf st).extract k X.length=U at ex ⊢;generalize (arrOf st).extract X.length (X.length+m)=V at ey ⊢;have zU:U.size=X.length-k:=by rw[<-A5,ex];simp
 have zV:V.size=m:=by rw[<-A5,ey];simp;lia
 have q5:0<U.size:=by lia
 have q6:0<V.size:=by lia
 have v0:V[0]=Y[0]:=by
  have:V.toList[0]?=(Y.take m)[0]?:=by rw[ey]
  rw[A7,List.getElem?_take,AF m0] at this;simpa[q6,lY] using this
 have ul:U[U.size-1]=X[X.length-1]:=by
  have:U.toList[U.size-1]?=(X.drop k)[U.size-1]?:=by rw[ex]
  rw[A7,C3,show k+(U.size-1)=X.length-1 by lia] at this;rw[Array.getElem?_eq_getElem (by lia),Ag (by lia)] at this;exact Bb this
 have q1:∀x∈U.toList,Ok x:=λx l=>ab x (Cj (by rw[ex] at l;exact l));have q2:∀x∈V.toList,Ok x:=λx l=>ac x (Bz (by rw[ey] at l;exact l));have q3:U.toList.Pairwise λx y=>f x<=f y:=by rw[ex];exact sX.sublist<|List.drop_sublist _ _
 have q4:V.toList.Pairwise λx y=>f x<=f y:=by rw[ey];exact sY.sublist<|DJ _ _
 have q7:∀x∈U.toList,f V[0]<f x:=λx l=>by rw[v0];rw[ex] at l;obtain⟨i,I,h1,rfl⟩:=Gf l;exact a5 i I h1
 have q8:∀x∈V.toList,f x<f U[U.size-1]:=λx l=>by rw[ul];rw[ey] at l;obtain⟨i,I,h1,rfl⟩:=Hq l;exact a0 i h1
 rw[<-ex,<-ey] at jw;split
 ·exact Ad<|TM O hk q1 q2 q3 q4 q5 q6 q7 q8 λr g h=>Ad<|wpS_modify<|Ad<|wpS_get<|Ae<|jw r g h
 ·exact Ad<|TN O hk q1 q2 q3 q4 q5 q6 q7 q8 λr g h=>Ad<|wpS_modify<|Ad<|wpS_get<|Ae<|jw r g h
end
def kD{arr:Array α}{P R:List α}{n:Nat}(h:arr.toList=P++R)(J:n<=R.length):(mirror arr P.length (P.length+n)<|(P.length+n-P.length) / 2).toList=P++((R.take n).reverse++R.drop n):=by
 have U:P.length+n<=arr.size:=by rw[<-A5,h,Ac];exact Nat.add_le_add_left J _
 have ap:∀(B:List α) (t:Nat),(P++B)[P.length+t]?=B[t]?:=λB t=>by rw[AI<|Bd ..,Bo]
 have I:(R.take n).length=n:=B6 J;refine List.ext_getElem? λk=>?_;rw[A7,getElem?_mirror_all U,<-A7,<-A7,h];rcases Ck k P.length with c|c
 ·rw[AA λz=>Ef.mpr z.1 c,AC c,AC c]
 obtain⟨j,rfl⟩:=BX c;rw[ap ((R.take n).reverse++R.drop n) j];rcases Ck j n with d|d
 ·rw[AF ⟨c,Nat.add_lt_add_left d _⟩,show P.length+(P.length+n)-1-(P.length+j)=P.length+(n-1-j) by lia,ap,AC (by rw[Dx,I];exact d),List.getElem?_reverse (by rw[I];exact d),I,List.getElem?_take,AF (by lia)]
 ·obtain⟨t,rfl⟩:=BX d;rw[AA λz=>Ef.mpr (Bd n t)<|Nat.lt_of_add_lt_add_left z.2,ap,AI (by rw[Dx,I];exact d),Dx,I,Bo,C3]
def TU{arr:Array α}{A Y Z:List α}{r:α}(h:arr.toList=A++(Y++r::Z)):(bubble arr (A.length+Y.length) Y.length).toList=A++r::(Y++Z):=by
 have J:A.length+Y.length<arr.size:=by rw[<-A5,h,Ac,Ac];exact Nat.add_lt_add_left (C9<|B3 _) _
 refine List.ext_getElem? λi=>?_;rw[A7,getElem?_bubble J _<|C0 ..,Nat.add_sub_cancel,<-A7,<-A7,<-A7,h];rcases Ck i A.length with c|c
 ·rw[AA<|A9 c,AA λz=>Nat.lt_asymm z.1 c,AC c,AC c]
 obtain⟨j,rfl⟩:=BX c;have ap:∀(B:List α) (t:Nat),(A++B)[A.length+t]?=B[t]?:=λB t=>by rw[AI<|Bd ..,Bo]
 have I:∀(B:List α) (t:Nat),(Y++B)[Y.length+t]?=B[t]?:=λB t=>by rw[AI<|Bd ..,Bo]
 rw[ap (r::(Y++Z)) j];cases j with
 |zero=>rw[AF<|Nat.add_zero _,ap,List.getElem?_cons_zero];exact I _ 0
 |succ j=>
  rw[AA<|CN<|C9<|B3 _,C6,show A.length+(j+1)-1=A.length+j from rfl,ap _ j,ap _<|j+1];rcases Ck j Y.length with d|d
  ·rw[AF ⟨C9<|B3 _,Nat.add_le_add_left d _⟩,AC d,AC d]
  ·obtain⟨t,rfl⟩:=BX d;rw[AA λz=>Ef.mpr d<|Nat.le_of_add_le_add_left z.2,I,show Y.length+t+1=Y.length+(t+1) from rfl,I,C6]
def vV{arr:Array α}{P R:List α}{k l:Nat}(h:arr.toList=P++R)(I:k<R.length)(J:l<=k):(bubble arr (P.length+k)<|P.length+k-(P.length+l)).toList=P++(R.take l++R[k]::((R.drop l).take (k-l)++R.drop (k+1))):=by
 obtain⟨d,rfl⟩:=BX J;have U:R.take l++((R.drop l).take d++R[l+d]::R.drop (l+d+1))=R:=by rw[<-BS I,<-List.drop_drop,A1,A1]
 have g:(R.take l).length=l:=B6<|AE J<|Bp I;have j:((R.drop l).take d).length=d:=B6 (by rw[BD];lia);have b:=TU (arr:=arr) (A:=P++R.take l) (Y:=(R.drop l).take d) (Z:=R.drop<|l+d+1) (r:=R[l+d]) (by rw[Aq,U];exact h);rw[Ac,g,j,Aq] at b;rw[Bo,show P.length+(l+d)=P.length+l+d from(Dq _ _ _).symm,Bo];exact b
section
variable {w:Yg}{κ:SortKind}{Ok:Keyed->Prop}{f:Yt}
structure Tl(κ:SortKind)(Ok:Keyed->Prop)(st:SortSt)(P R:Yr):Prop where
 kind:kindOf st=κ
 arr:(arrOf st).toList=P++R
 ok:∀x∈R,Ok x
def jI(O:Ord prog w A s κ Ok f){st:SortSt}{P R:Yr}(T:Tl κ Ok st P R)(hi:i<R.length)(I:j<R.length){a b:Nat}(ea:a=P.length+i)(eb:b=P.length+j){Q:Option Bool->SortSt->Prop}(q:Q (some<|decide<|f R[i]<f R[j]) st):wpS (model prog w) A E s (ltAt' a b) Q st:=by
 have at_:∀i (hi:i<R.length),(arrOf st)[P.length+i]?=some R[i]:=λi hi=>by rw[<-A7,T.arr,AI (by exact Bd _ _),Bo];simp
 subst ea eb;rw[ltAt'_eq];refine Ad<|wpS_get ?_;refine Ad<|xc (at_ i hi)<|Ad<|xc (at_ j I) ?_;exact w_lt O T.kind (T.ok _<|Ct _) (T.ok _<|Ct _) q
def Up(f:Yt)(R:Yr)(n:Nat):Prop:=∀i j (_:i<=j) (_:j<R.length),j<n->f (R[i]'(by exact qD))<=f R[j]
def Up.snoc{R:Yr}{n:Nat}(h:Up f R n)(h1:1<=n)(l:n<R.length)(hs:f (R[n-1]'(by exact se))<=f R[n]):Up f R (n+1):=λi j I J U=>by
 rcases Ck j n with c|c
 ·exact h i j I J c
 ·have e:j=n:=by lia
  subst e;rcases Ck i j with g|g
  ·exact BO (h i (j-1) (by omega) (by exact se) (by exact E6)) hs
  ·have e:i=j:=by lia
   subst e;exact C8 _
def Up.pair{R:Yr}{n:Nat}(h:Up f R n)(g:n<=R.length):(R.take n).Pairwise λx y=>f x<=f y:=by rw[CS];intro i j I J U;rw[AJ] at I J;rw[Bx,Bx];exact h i j (by exact gc) (by lia) (by lia)
end
section
variable {w:Yg}{κ:SortKind}{Ok:Keyed->Prop}{f:Yt}
def Tl.same{st:SortSt}{P R R':Yr}(T:Tl κ Ok st P R)(p:R'.Perm R){arr:Ys}(h:arr.toList=P++R'):Tl κ Ok (setArr st arr) P R':=⟨T.kind,h,λx I=>T.ok x<|p.mem_iff.mp I⟩
def Up.one{R:Yr}:Up f R 1:=λi j I J h=>by
 have:i=j:=by lia
 subst this;exact C8 _
def jC{c:Prop}{_:Decidable c}{K T:StateT SortSt Sem α}{P:SortSt->Prop}{Q:α->SortSt->Prop}{st:SortSt}(J:¬c->P st)(key:∀I,P I->wpS (model prog w) A E s K Q I)
 (U:c->(∀I,P I->wpS (model prog w) A E s K Q I)->wpS (model prog w) A E s T Q st):wpS (model prog w) A E s (if c then T else K) Q st:=by
 by_cases h:c
 ·rw[AF h];exact U h key
 ·rw[AA h];exact key st<|J h
def gE(f:Yt)(R:Yr)(n:Nat):Prop:=∀i j (_:i<=j) (_:j<R.length),j<n->f R[j]<=f (R[i]'(by exact qD))
def J3{R R':Yr}(e:R'.map f=R.map f)(h1:i<R'.length)(h2:i<R.length):f R'[i]=f R[i]:=by
 have:(R'.map f)[i]?=(R.map f)[i]?:=by rw[e]
 rw[Ai,Ai,Ag h1,Ag h2] at this;exact Bb this
def gE.same{R R':Yr}{n:Nat}(D:gE f R n)(e:R'.map f=R.map f):gE f R' n:=λi j I U J=>by
 have l:R'.length=R.length:=by have:=Bs List.length e;rwa[Ab,Ab] at this
 rw[J3 e U (by lia),J3 e (by lia) (by lia)];exact D i j I (by lia) J
def gE.snoc{R:Yr}{n:Nat}(h:gE f R n)(h1:1<=n)(l:n<R.length)(hs:f R[n]<=f (R[n-1]'(by exact se))):gE f R (n+1):=λi j I J U=>by
 rcases Ck j n with c|c
 ·exact h i j I J c
 ·have e:j=n:=by lia
  subst e;rcases Ck i j with g|g
  ·exact BO hs<|h i (j-1) (by omega) (by exact se) (by exact E6)
  ·have e:i=j:=by lia
   subst e;exact C8 _
def pF{arr:Ys}{P R:Yr}{a b:Nat}{v:Int}(h:arr.toList=P++R)(U:a<=b)(o:b<=R.length)(g:∀i (_:i<R.length),a<=i->i<b->f R[i]=v):
 ∃R',(mirror arr (P.length+a) (P.length+b)<|(P.length+b-(P.length+a)) / 2).toList=P++R'/\R'.Perm R/\R'.map f=R.map f:=by
 have j:(P++R.take a).length=P.length+a:=by simp;lia
 have I:R=R.take a++((R.drop a).take (b-a)++(R.drop a).drop (b-a)):=by rw[A1,A1]
 have m:=kD (P:=P++R.take a) (R:=R.drop a) (n:=b-a) (by rw[h,Aq,A1]) (by simp;lia);rw[j,show P.length+a+(b-a)=P.length+b by lia,Aq] at m;refine⟨_,m,?_,?_⟩
 ·refine List.Perm.trans ?_<|Em I.symm;exact(BA _).mpr ((Bv _).mpr<|DL _)
 ·have r:((R.drop a).take<|b-a).map f=List.replicate (b-a) v:=by refine List.ext_getElem (by simp;lia) λi p l=>?_;rw[List.getElem_map,Bx,DK,List.getElem_replicate];rw[AS] at l;exact g _ _ (by lia) (by lia)
  have J:=Bs (List.map f) I;rw[Aw,Aw,r] at J;rw[Aw,Aw,List.map_reverse,r,List.reverse_replicate,J]
theorem TX(O:Ord prog w A s κ Ok f){st:SortSt}{P R:Yr}(T:Tl κ Ok st P R)(h1:1<=R.length){Q:Option Nat->SortSt->Prop}
 (q:∀n R' arr,1<=n->n<=R.length->R'.Perm R->arr.toList=P++R'->Up f R' n->Q (some n) (setArr st arr)):wpS (model prog w) A E s (countRun' P.length R.length) Q st:=by
 have bc:setArr st (arrOf st)=st:=rfl;refine Ad (AV (AK (I:=λx c g=>g=st/\c=(none,x)/\Up f R x)
  (Q:=λc g=>g=st/\∃n,c=(none,n)/\1<=n/\n<=R.length/\Up f R n/\(n=R.length\/∃h:n<R.length,f R[n]<f (R[n-1]'(by exact se)))) ?_ ?_ ⟨rfl,rfl,Up.one⟩) ?_)
 ·rintro x c g t hx ⟨rfl,rfl,U⟩;dsimp only;refine Ad<|jI O T (i:=x) (j:=x-1) hx (by exact se) rfl (by lia) ?_;dsimp only;by_cases c:f R[x]<f (R[x-1]'(by omega))
  ·rw[Ax c,AF rfl];exact Ae ⟨rfl,x,rfl,t,by exact gc,U,.inr ⟨hx,c⟩⟩
  ·rw[Ar c,AA (by simp)];exact Ae ⟨rfl,rfl,U.snoc t hx (by omega)⟩
 ·rintro c g ⟨rfl,rfl,U⟩;exact⟨rfl,_,rfl,by lia,by lia,by rw[Cu h1] at *;exact U,.inl (by lia)⟩
 ·rintro c g ⟨rfl,n,rfl,a0,a3,U,a5⟩;dsimp only;by_cases c1:(n==R.length)=true
  ·rw[AF c1];exact Ae<|q n R (arrOf g) a0 a3 (Cv _) T.arr U
  rw[AA c1];have c1:¬n=R.length:=by simpa using c1
  have ab:n<R.length:=by exact E7
  have hd:f R[n]<f (R[n-1]'(by omega)):=by
   rcases a5 with h|⟨h,h'⟩
   ·exact absurd h c1
   ·exact h'
  refine jC (P:=λo=>∃arr R',o=setArr g arr/\arr.toList=P++R'/\R'.Perm R/\gE f R' (n+1)) (λc2=>⟨arrOf g,R,rfl,T.arr,Cv _,?_⟩) ?_ λc2 key=>?_
  ·obtain rfl:n=1:=by lia
   exact gE.snoc (λi j ac hj a4=>by (have e:i=j:=by lia);(subst e;exact C8 _)) (Ak _) ab<|BL hd
  rotate_left
  ·refine Ad<|jI O T (i:=0) (j:=n-1) (by assumption) (by exact se) rfl (by omega) ?_;dsimp only;by_cases c3:f R[0]<f (R[n-1]'(by omega))
   ·rw[Ax c3,AF rfl];exact Ae<|q n R (arrOf g) a0 a3 (Cv _) T.arr U
   rw[Ar c3,AA (by simp)];have al:∀i (_:i<R.length),0<=i->i<n->f R[i]=f R[0]:=λi hi _ bb=>by have a1:=U 0 i (A3 _) hi bb;have a2:=U i (n-1) (by lia) (by lia) (by lia);lia
   obtain⟨R',m1,m2,m3⟩:=pF (f:=f) T.arr (A3 n) a3 al;refine Ad<|wpS_modify<|key _ ⟨_,R',rfl,m1,m2,gE.same (gE.snoc (λi j ac hj a4=>?_) a0 ab<|BL hd) m3⟩;rw[al j hj (A3 _) a4,al i (by lia) (A3 _) (by lia)];exact C8 _
  rintro _ ⟨arr,R0,rfl,r,aL,D0⟩;refine Ad<|wpS_lift<|Bt ⟨rfl,?_⟩;have l0:R0.length=R.length:=aL.length_eq;refine Ad (AV (AK (I:=λx c o=>∃J arr R',c=(none,x,J)/\o=setArr g arr/\arr.toList=P++R'/\R'.Perm R/\gE f R' x/\J+1<=x/\∃v,∀i (_:i<R'.length),x-(J+1)<=i->i<x->f R'[i]=v)
   (Q:=λc o=>∃n J arr R',c=(none,n,J)/\o=setArr g arr/\arr.toList=P++R'/\R'.Perm R/\gE f R' n/\J+1<=n/\n<=R.length/\∃v,∀i (_:i<R'.length),n-(J+1)<=i->i<n->f R'[i]=v) ?_ ?_ ⟨0,arr,R0,rfl,rfl,r,aL,D0,by lia,f<|R0[n]'(by lia),λi hi h2 h3=>by (have e:i=n:=by lia);(subst e;rfl)⟩) ?_)
  ·rintro x c o t hx ⟨J,arr,p,rfl,rfl,r,l,D,hq,v,C⟩;have l1:p.length=R.length:=l.length_eq;have T1:=T.same l r;dsimp only;refine Ad<|jI O T1 (i:=x) (j:=x-1) (by lia) (by lia) rfl (by lia) ?_;dsimp only;by_cases c:f (p[x]'(by lia))<f (p[x-1]'(by omega))
   ·rw[Ax c,AF rfl];refine jC (P:=λo=>∃arr R',o=setArr g arr/\arr.toList=P++R'/\R'.Perm R/\gE f R' (x+1)) (λ_=>⟨arr,p,rfl,r,l,D.snoc (by lia) (by lia)<|BL c⟩) ?_ λc2 key=>?_
    ·rintro _ ⟨arr,R',rfl,r,l,D⟩;exact Ae ⟨0,arr,R',rfl,rfl,r,l,D,by lia,f (R'[x]'(by have:=l.length_eq;lia)),λi hi h2 h3=>by (have e:i=x:=by lia);(subst e;rfl)⟩
    ·obtain⟨R',m1,m2,m3⟩:=pF (f:=f) (a:=x-(J+1)) (b:=x) r (by lia) (by lia) C;refine Ad<|wpS_modify<|key _ ⟨_,R',rfl,?_,m2.trans l,gE.same (D.snoc (by lia) (by lia)<|BL c) m3⟩;rw[<-m1];show(mirror arr (P.length+x-(J+1)) (P.length+x)<|(P.length+x-(P.length+x-(J+1))) / 2).toList=_;rw[show P.length+x-(J+1)=P.length+(x-(J+1)) by lia]
   ·rw[Ar c,AA (by simp)];refine Ad<|jI O T1 (i:=x-1) (j:=x) (by omega) (by lia) (by lia) rfl ?_;dsimp only;by_cases c3:f (p[x-1]'(by omega))<f (p[x]'(by lia))
    ·rw[Ax c3,AF rfl];exact Ae ⟨x,J,arr,p,rfl,rfl,r,l,D,hq,by lia,v,C⟩
    ·rw[Ar c3,AA (by simp)];refine Ae ⟨J+1,arr,p,rfl,rfl,r,l,D.snoc (by lia) (by lia) (by lia),by lia,v,λi hi h2 h3=>?_⟩;rcases Ck i x with h|h
     ·exact C i hi (by lia) h
     ·have:i=x:=by lia
      subst this;rw[<-C (i-1) (by lia) (by lia) (by lia)];lia
  ·rintro c o ⟨J,arr,p,rfl,rfl,r,l,D,hq,v,C⟩;exact⟨_,J,arr,p,rfl,rfl,r,l,D,hq,by lia,v,C⟩
  ·rintro c o ⟨n,J,arr,p,rfl,rfl,r,l,D,hq,g2,v,C⟩;have l1:p.length=R.length:=l.length_eq;dsimp only;refine jC (P:=λo=>∃arr R',o=setArr g arr/\arr.toList=P++R'/\R'.Perm R/\gE f R' n) (λ_=>⟨arr,p,rfl,r,l,D⟩) ?_ (λc2 key=>?_)
   rotate_left
   ·obtain⟨R',m1,m2,m3⟩:=pF (f:=f) (a:=n-(J+1)) (b:=n) r (by lia) (by lia) C;refine Ad<|wpS_modify<|key _ ⟨_,R',rfl,?_,m2.trans l,D.same m3⟩;rw[<-m1];show(mirror arr (P.length+n-(J+1)) (P.length+n)<|(P.length+n-(P.length+n-(J+1))) / 2).toList=_;rw[show P.length+n-(J+1)=P.length+(n-(J+1)) by lia]
   clear C D r l l1;rintro _ ⟨arr,p,rfl,r,l,D⟩;have l1:p.length=R.length:=l.length_eq;have T1:=T.same l r;have T':=T1.same (R':=(p.take n).reverse++p.drop n) (((Bv _).mpr<|DL _).trans (by rw[A1]))<|kD r (by lia);obtain⟨R',eR⟩:∃R',R'=(p.take n).reverse++p.drop n:=⟨_,rfl⟩;have ba:R'.Perm R:=by rw[eR];exact(((Bv _).mpr<|DL _).trans (by rw[A1])).trans l
   have lR:R'.length=R.length:=ba.length_eq;have U':Up f R' n:=λi j ac hj a4=>by
    subst eR;rw[DR (by simp;lia),DR (by simp;lia),List.getElem_reverse,List.getElem_reverse,Bx,Bx];refine D _ _ ?_ (by simp;omega) ?_
    ·simp;omega
    ·simp;omega
   rw[<-eR] at T';refine Ad<|wpS_modify ?_;refine Ad (AV (AK (I:=λx c o=>o=setArr g (mirror arr P.length (P.length+n)<|(P.length+n-P.length) / 2)/\c=(none,x)/\Up f R' x)
    (Q:=λc o=>o=setArr g (mirror arr P.length (P.length+n)<|(P.length+n-P.length) / 2)/\∃n,c=(none,n)/\1<=n/\n<=R.length/\Up f R' n) ?_ ?_ ⟨rfl,rfl,U'⟩) ?_)
   ·rintro x c o t hx ⟨rfl,rfl,U⟩;dsimp only;refine Ad<|jI O T' (i:=x) (j:=x-1) (by lia) (by omega) rfl (by lia) ?_;dsimp only;by_cases c:f (R'[x]'(by omega))<f (R'[x-1]'(by omega))
    ·rw[Ax c,AF rfl];exact Ae ⟨rfl,x,rfl,by lia,by exact gc,U⟩
    ·rw[Ar c,AA (by simp)];exact Ae ⟨rfl,rfl,U.snoc (by omega) (by lia) (by omega)⟩
   ·rintro c o ⟨rfl,rfl,U⟩;exact⟨rfl,_,rfl,by lia,by lia,U⟩
   ·rintro c o ⟨rfl,n,rfl,k1,k2,U⟩;exact Ae<|q n R' _ k1 k2 ba T'.arr U
end
section
variable {w:Yg}{κ:SortKind}{Ok:Keyed->Prop}{f:Yt}
def Up.of{R:Yr}{n:Nat}(h:(R.take n).Pairwise λx y=>f x<=f y):Up f R n:=λi j I U J=>by have:=u4 h (i:=i) (j:=j) I (by simp;lia);rw[Bx,Bx] at this;exact this
def TY{R:Yr}{k l:Nat}(I:k<R.length)(J:l<=k):(R.take l++R[k]::((R.drop l).take (k-l)++R.drop (k+1))).Perm R:=by
 have e:R=R.take l++((R.drop l).take (k-l)++(R[k]::R.drop (k+1))):=by rw[<-Aq,Ge _ J,<-BS I,A1]
 refine List.Perm.trans ?_<|Em e.symm;exact(BA _).mpr B7.symm
def TZ{R:Yr}{k l:Nat}(p:k<R.length)(r:l<=k)(U:Up f R k)(lo:∀i (_:i<l),f (R[i]'(by lia))<=f R[k])(hi:∀i (_:i<k),l<=i->f R[k]<=f (R[i]'(by exact tW))):
 Up f (R.take l++R[k]::((R.drop l).take (k-l)++R.drop (k+1))) (k+1):=by
 apply Up.of;have e:R.take l++R[k]::((R.drop l).take (k-l)++R.drop (k+1))=(R.take l++R[k]::(R.drop l).take (k-l))++R.drop (k+1):=by simp
 rw[e,List.take_left' (by simp;lia)];have I:=U.pair<|Bp p;rw[<-Ge R r] at I;have I:=AU.mp I;have t:∀y∈(R.drop l).take (k-l),f R[k]<=f y:=λy J=>by obtain⟨j,o,rfl⟩:=BG J;rw[AJ,BD] at o;rw[Bx,DK];exact hi (l+j) (by lia) (by exact Bd _ _)
 have C:∀x∈R.take l,f x<=f R[k]:=λx g=>by obtain⟨j,o,rfl⟩:=BG g;rw[AJ] at o;rw[Bx];exact lo j (by lia)
 refine AU.mpr ⟨I.1,List.pairwise_cons.mpr ⟨t,I.2.1⟩,λx g y J=>?_⟩;rcases Ap.mp J with rfl|J
 ·exact C x g
 ·exact I.2.2 x g y J
def T0(O:Ord prog w A s κ Ok f){st:SortSt}{P R:Yr}(T:Tl κ Ok st P R){n ok:Nat}(hn:n<=R.length)(h1:1<=ok)(ho:ok<=n)(U:Up f R ok){Q:Bool->SortSt->Prop}
 (q:∀R' arr,R'.Perm R->arr.toList=P++R'->Up f R' n->Q true (setArr st arr)):wpS (model prog w) A E s (binarySort' P.length n ok) Q st:=by
 have a0:setArr st (arrOf st)=st:=rfl;refine Ad (AV (AK (I:=λx c J=>c=(none,())/\∃R' arr,J=setArr st arr/\R'.Perm R/\arr.toList=P++R'/\Up f R' x)
  (Q:=λc J=>c=(none,())/\∃R' arr,J=setArr st arr/\R'.Perm R/\arr.toList=P++R'/\Up f R' n) ?_ ?_ ⟨rfl,R,arrOf st,rfl,Cv _,T.arr,by rw[CD h1];exact U⟩) ?_)
 ·rintro x c J a1 hx ⟨rfl,R',arr,rfl,p,t,o⟩;have T':=T.same p t;have lR:R'.length=R.length:=p.length_eq;have g:x<R'.length:=by lia
  dsimp only;refine Ad (AV (AK (I:=λy c J=>J=setArr st arr/\∃l r,c=(none,l,r)/\l<=r/\r<=x/\r-l+y<=x/\(∀i (_:i<l) (_:i<R'.length),f R'[i]<=f R'[x])/\(∀i (_:i<x),r<=i->f R'[x]<=f (R'[i]'(by exact tW))))
   (Q:=λc J=>J=setArr st arr/\∃l,c=(none,l,l)/\l<=x/\(∀i (_:i<l) (_:i<R'.length),f R'[i]<=f R'[x])/\(∀i (_:i<x),l<=i->f R'[x]<=f (R'[i]'(by lia)))) ?_ ?_ ⟨rfl,0,x,rfl,A3 _,Ak _,by exact Nat.sub_le _ _,λi h=>by lia,λi h h'=>by omega⟩) ?_)
  ·rintro y c J _ hy ⟨rfl,l,r,rfl,g1,g2,g3,C,g5⟩;dsimp only;by_cases c:l>=r
   ·rw[AF c];obtain rfl:l=r:=by lia
    exact Ae ⟨rfl,l,rfl,g2,C,g5⟩
   ·rw[AA c];refine Ad<|jI O T' (i:=x) (j:=(l+r) / 2) g (by lia) rfl rfl ?_;dsimp only;by_cases e:f R'[x]<f (R'[(l+r) / 2]'(by lia))
    ·rw[Ax e,AF rfl];refine Ae ⟨rfl,l,(l+r) / 2,rfl,by lia,by lia,by omega,C,λi h h'=>?_⟩;exact BO (BL e)<|o _ _ h' (by exact tW) h
    ·rw[Ar e,AA (by simp)];refine Ae ⟨rfl,(l+r) / 2+1,r,rfl,by lia,g2,by omega,λi h h'=>?_,g5⟩;exact BO (o i ((l+r) / 2) (by exact Iq) (by lia) (by lia)) (by omega)
  ·rintro c J ⟨rfl,l,r,rfl,g1,g2,g3,C,g5⟩;obtain rfl:l=r:=by lia
   exact⟨rfl,l,rfl,g2,C,g5⟩
  ·rintro c J ⟨rfl,l,rfl,g2,C,g5⟩;dsimp only;refine Ad<|wpS_modify ?_;exact Ae ⟨rfl,_,_,rfl,(TY g g2).trans p,vV t g g2,TZ g g2 o (λi h=>C i h (by lia)) g5⟩
 ·rintro c J ⟨rfl,R',arr,rfl,p,t,o⟩;exact⟨rfl,R',arr,rfl,p,t,by rw[CD h1,Cu ho] at o;exact o⟩
 ·rintro c J ⟨rfl,R',arr,rfl,p,t,o⟩;exact Ae<|q R' arr p t o
end
section
variable {w:Yg}{κ:SortKind}{Ok:Keyed->Prop}{f:Yt}
def T3{N:Nat}(h:N<128):N<=2*(sortPriv% PySem.Builtin.minRun) N N 0:=by
 show N<=2*minRun' N N 0;cases N with
 |zero=>exact A3 _
 |succ r=>
  rw[minRun'_succ];split
  ·lia
  ·cases r with|zero=>lia|succ r=>rw[minRun'_succ,AF (by lia)];lia
def Hr(f:Yt)(I:Nat)(pn:Array<|Nat×Nat×Nat)(X Y R:Yr):Prop:=
 (pn=#[]/\X=[]/\Y=[])\/(∃w,pn=#[(0,X.length,w)]/\Y=[]/\(I<=X.length\/R=[])/\X.Pairwise λx y=>f x<=f y)\/
  ∃w v,pn=#[(0,X.length,w),(X.length,Y.length,v)]/\0<X.length/\0<Y.length/\R=[]/\(X.Pairwise λx y=>f x<=f y)/\Y.Pairwise λx y=>f x<=f y
theorem J4(O:Ord prog w A s κ Ok f){st:SortSt}{Q:Unit->SortSt->Prop}(a2:(arrOf st).size<128)(hk:kindOf st=κ)(hp:pendingOf st=#[])(hf:failedOf st=none)(ok:∀x∈(arrOf st).toList,Ok x)
 (q:∀g,failedOf g=none->(arrOf g).toList.Perm (arrOf st).toList->((arrOf g).toList.Pairwise λx y=>f x<=f y)->Q () g):wpS (model prog w) A E s sortRuns' Q st:=by
 refine Ad<|wpS_get ?_;dsimp only;have lN:(arrOf st).toList.length=(arrOf st).size:=A5;obtain⟨N,eN⟩:∃N,N=(arrOf st).size:=⟨_,rfl⟩;rw[<-eN] at a2 lN ⊢;obtain⟨Z,eZ⟩:∃Z,Z=(arrOf st).toList:=⟨_,rfl⟩;rw[<-eZ] at lN ok q;have ac:=T3 a2;generalize (sortPriv% PySem.Builtin.minRun) N N 0=mr at ac ⊢;refine Ad (AV (AK (I:=λx c g=>∃X Y R lo,c=(none,lo)/\kindOf g=κ/\failedOf g=none/\(arrOf g).toList=X++Y++R/\(X++Y++R).Perm Z/\lo=(X++Y).length/\Hr f mr (pendingOf g) X Y R/\x<=lo)
  (Q:=λc g=>∃X Y lo,c=(none,lo)/\kindOf g=κ/\failedOf g=none/\(arrOf g).toList=X++Y/\(X++Y).Perm Z/\Hr f mr (pendingOf g) X Y []) ?_ ?_ ⟨[],[],Z,0,rfl,hk,hf,eZ.symm,.refl _,rfl,.inl ⟨hp,rfl,rfl⟩,Ak _⟩) ?_)
 ·rintro x c g _ hx ⟨X,Y,R,lo,rfl,k1,k2,t,r,rfl,k6,k7⟩;dsimp only;have lt:=r.length_eq;rw[Ac,lN] at lt;by_cases c:(X++Y).length>=N
  ·rw[AF c];cases BM (show R.length=0 by lia);rw[AG] at t r;exact Ae ⟨X,Y,_,rfl,k1,k2,t,r,k6⟩
  rw[AA c,show N-(X++Y).length=R.length by lia];have T:Tl κ Ok g (X++Y) R:=⟨k1,t,λx hx=>ok x<|r.mem_iff.mp<|Al _ hx⟩;refine Ad<|TX O T (by lia) λn R1 a3 g1 g2 a0 a5 U1=>?_;dsimp only;have l1:=a0.length_eq;have jw:∀{J:SortSt} {R2:Yr} {j:Nat} {pn:Array<|Nat×Nat×Nat},kindOf J=κ->failedOf J=none->(arrOf J).toList=X++Y++R2->pendingOf J=pn.push ((X++Y).length,j,0)->((pendingOf g=#[]/\pn=#[])\/∃v,pn=(pendingOf g).modify ((pendingOf g).size-1) λp=>(p.1,p.2.1,v))->R2.Perm R->1<=j->j<=R.length->(mr<=j\/j=R.length)->Up f R2 j->
   ∃X' Y' R' lo,((none,(X++Y).length+j):Option Unit×Nat)=(none,lo)/\kindOf J=κ/\failedOf J=none/\(arrOf J).toList=X'++Y'++R'/\(X'++Y'++R').Perm Z/\lo=(X'++Y').length/\Hr f mr (pendingOf J) X' Y' R'/\x+1<=lo:=λ{J R2 j pn} h1 h2 h3 h4 hn p2 h5 h6 h7 U=>by
   have l2:=p2.length_eq;have al:(R2.take j).length=j:=by rw[AJ];lia
   have U':=U.pair (by lia);have pz:(X++Y++R2).Perm Z:=((BA _).mpr p2).trans r;rcases k6 with⟨o,rfl,rfl⟩|⟨w,o,rfl,h8,h9⟩|⟨w,v',o,_,_,rfl,_⟩
   ·have e2:pn=#[]:=by
     rcases hn with⟨_,h⟩|⟨v,h⟩
     ·exact h
     ·rw[h,o];rfl
    refine⟨R2.take j,[],R2.drop j,_,rfl,h1,h2,by rw[h3];simp,by simpa using pz,by simp;lia,.inr (.inl ⟨0,by rw[h4,e2,al];rfl,rfl,?_,U'⟩),by lia⟩;rcases h7 with h|h
    ·exact .inl (by lia)
    ·exact .inr<|Ei (by lia)
   ·have e2:∃v,pn=#[(0,X.length,v)]:=by
     rcases hn with⟨h,_⟩|⟨v,h⟩
     ·rw[o] at h;cases h
     ·exact⟨v,by rw[h,o];rfl⟩
    obtain⟨v,e2⟩:=e2;have r0:R≠[]:=λe=>by rw[e] at h6;exact absurd h6 (by simp;lia)
    have h8:=h8.resolve_right r0;rw[AG] at h3 h4 pz lt c ⊢;have en:j=R2.length:=by rcases h7 with h'|h'<;>lia
    rw[AY (by lia)] at U';exact⟨X,R2,[],_,rfl,h1,h2,by rw[h3];simp,by simpa using pz,by rw[Ac,en],.inr (.inr ⟨v,0,by rw[h4,e2,en];rfl,by lia,by lia,rfl,h9,U'⟩),by lia⟩
   ·exact absurd h6 (by simp;lia)
  have sz:(pendingOf g).size<=1:=by
   rcases k6 with⟨o,_⟩|⟨w,o,_⟩|⟨w,v',o,_,_,rfl,_⟩
   ·rw[o];exact A3 _
   ·rw[o];exact Ak _
   ·exact absurd lt (by simp at c ⊢;lia)
  by_cases cm:n<mr
  case' pos=>
   rw[AF cm];refine Ad<|wpS_lift<|Bt ⟨rfl,?_⟩;refine Ad<|T0 O (T.same a0 a5) (by lia) g1 (by lia) U1 λR2 ab aL ba U2=>?_;rw[AA (by simp)];obtain⟨j,a1⟩:∃j,j=min R.length mr:=⟨_,rfl⟩;rw[<-a1] at U2 ⊢;have p2:R2.Perm R:=aL.trans a0;have h7:mr<=j\/j=R.length:=by lia
   obtain⟨l,C⟩:∃l,l=setArr (setArr g a3) ab:=⟨_,rfl⟩
  case' neg=>
   rw[AA cm];obtain⟨j,a1⟩:∃j,j=n:=⟨_,rfl⟩;obtain⟨R2,a4⟩:∃R2,R2=R1:=⟨_,rfl⟩;rw[<-a1,<-a4] at U1;rw[<-a1];have U2:=U1;have p2:R2.Perm R:=by rw[a4];exact a0
   have h7:mr<=j\/j=R.length:=by lia
   obtain⟨l,C⟩:∃l,l=setArr g a3:=⟨_,rfl⟩
  all_goals
   have n1:1<=j:=by lia
   have n3:j<=R.length:=by lia
   have o:kindOf l=κ:=by rw[C];exact k1
   have e2:failedOf l=none:=by rw[C];exact k2
   have e3:(arrOf l).toList=X++Y++R2:=by rw[C];first|exact ba|(rw[a4];exact a5)
   have e4:pendingOf l=pendingOf g:=by rw[C]
   rw[<-C];refine Ad<|wpS_get ?_;split
   ·refine Ad<|AV (AK (I:=λy c J=>c=(none,())/\J=l) (Q:=λc J=>c=(none,())/\J=l) ?_ ?_ ⟨rfl,rfl⟩) ?_
    ·rintro y c J _ hy ⟨rfl,rfl⟩;refine Ad<|wpS_get ?_;rw[AA (show ¬(pendingOf J).size > 1 by rw[e4];lia)];exact Ae ⟨rfl,rfl⟩
    ·exactλc J h=>h
    ·rintro c J ⟨rfl,rfl⟩;dsimp only;refine Ad<|wpS_modify<|Ad<|wpS_modify<|Ae ?_;exact jw o e2 e3 rfl (.inr ⟨_,by rw[<-e4]⟩) p2 n1 n3 h7 U2
   ·rename_i hb;have hb:(pendingOf l).back?=none:=Option.eq_none_iff_forall_ne_some.mpr λp=>hb p.1 p.2.1 p.2.2;rw[e4,Array.back?_eq_none_iff] at hb;exact Ad<|wpS_modify<|Ae<|jw o e2 e3 rfl (.inl ⟨hb,e4.trans hb⟩) p2 n1 n3 h7 U2
 ·rintro c g ⟨X,Y,R,lo,rfl,k1,k2,t,r,rfl,k6,k7⟩;have lt:=r.length_eq;rw[Ac,lN] at lt;cases BM (show R.length=0 by lia);rw[AG] at t r;exact⟨X,Y,_,rfl,k1,k2,t,r,k6⟩
 ·rintro c g ⟨X,Y,lo,rfl,k1,k2,t,r,k6⟩;dsimp only;have lt:=r.length_eq;rw[lN] at lt;refine Ad (AV (AK (I:=λy c J=>c=(none,())/\((y=0/\J=g)\/(failedOf J=none/\(pendingOf J).size<=1/\(arrOf J).toList.Perm Z/\(arrOf J).toList.Pairwise λx y=>f x<=f y)))
   (Q:=λc J=>c=(none,())/\failedOf J=none/\(arrOf J).toList.Perm Z/\(arrOf J).toList.Pairwise λx y=>f x<=f y) ?_ ?_ ⟨rfl,.inl ⟨rfl,rfl⟩⟩) ?_)
  ·rintro y c J _ hy ⟨rfl,h⟩;refine Ad<|wpS_get ?_;rcases h with⟨rfl,rfl⟩|⟨h1,h2,h3⟩
   ·rcases k6 with⟨o,rfl,rfl⟩|⟨w,o,rfl,_,h9⟩|⟨w,v,o,lX,lY,_,sX,sY⟩
    ·rw[AF (show(pendingOf J).size<=1 by rw[o];exact A3 _)];exact Ae ⟨rfl,k2,by rw[t];exact r,by rw[t];exact .nil⟩
    ·rw[AF (show(pendingOf J).size<=1 by rw[o];exact Ak _)];exact Ae ⟨rfl,k2,by rw[t];exact r,by rw[t,AG];exact h9⟩
    ·rw[AA (show ¬(pendingOf J).size<=1 by rw[o];exact Nat.not_succ_le_self 1)];have gen:∀b:Bool,(if b=true then(pendingOf J).size-2-1 else(pendingOf J).size-2)=0:=λb=>by cases b<;>rw[o]<;>rfl
     refine Ad ?_;show wpS _ _ _ _ (mergeAt'<|if _=true then(pendingOf J).size-2-1 else(pendingOf J).size-2) _ _;rw[gen];refine TR O k1 k2 o t (λx hx=>ok x<|r.mem_iff.mp hx) lX lY sX sY λbb b1 b2 b3 b4=>?_;rw[AA (by simp)];exact Ae ⟨rfl,.inr ⟨b1,by rw[b2];exact Ak _,b3.trans r,b4⟩⟩
   ·rw[AF h2];exact Ae ⟨rfl,h1,h3⟩
  ·rintro c J ⟨rfl,h⟩;rcases h with⟨h0,rfl⟩|⟨h1,_,h3⟩
   ·have e:X++Y=[]:=BM (by lia);rw[e] at t r;exact⟨rfl,k2,by rw[t];exact r,by rw[t];exact .nil⟩
   ·exact⟨rfl,h1,h3⟩
  ·rintro c J ⟨rfl,h1,h2,h3⟩;exact Ae<|q J h1 h2 h3
end
open PySem PyProof.Rows PySem.W
def J5(h:Yh)(B:Int)(x:Keyed):Prop:=∃a o n r p t u,x.1=.ref a/\h.get? a=some o/\o.data=.seq #[.int r t,.int p u] n/\0<=p/\p<B
noncomputable def num(h:Yh)(B:Int)(x:Keyed):Int:=match x.1 with
 |.ref a=>match h.get? a with
  |some o=>match o.data with
   |.seq xs _=>match xs.toList with
    |[.int r _,.int p _]=>r*B+p
    |_=>0
   |_=>0
  |none=>0
 |_=>0
def num_of{B:Int}{x:Keyed}{a:Addr}{o:Obj}{n:Nat}{r p:Int}{t u:Tok}(I:x.1=.ref a)(J:h.get? a=some o)(U:o.data=.seq #[.int r t,.int p u] n):num h B x=r*B+p:=by unfold num;simp[I,J,U]
def xF{w:Yg}{B:Int}:Ord prog w A s (tuples' true) (J5 s.heap B) (num s.heap B):=by
 constructor;rintro x y ⟨a1,o1,n1,I,J,r,t,l,g1,d1,b1,c1⟩ ⟨a2,o2,n2,U,g,C,T,o,g2,d2,b2,c2⟩ E Q h;rw[num_of l g1 d1,num_of o g2 d2] at h;rw[l,o];refine kat_lt g1 d1 g2 d2 ?_;show KatLex prog w A true _ Q [(.int I r,.int U C),(.int J t,.int g T)] 0 s;refine kat_cons<|wpAny_eqBool_int ?_;by_cases c:I=U
 ·subst c;rw[beq_self_eq_true];refine kat_yes<|kat_cons<|wpAny_eqBool_int ?_;by_cases p:J=g
  ·subst p;rw[beq_self_eq_true];refine kat_yes<|kat_nil ?_;have e:decide (I*B+J<I*B+J)=false:=Ar (by lia);rw[e] at h;exact h
  ·rw[Eo p];refine kat_no<|kat_one _ _<|PyProof.Rows.lt_int ?_;have e:decide (I*B+J<I*B+g)=decide (J<g):=by
    by_cases z:J<g
    ·rw[Ax z];exact Ax (by lia)
    ·rw[Ar z];exact Ar (by lia)
   rw[e] at h;exact h
 ·rw[Eo c];refine kat_no<|oneLt_int ?_;have e:decide (I*B+J<U*B+g)=decide (I<U):=by
   by_cases z:I<U
   ·rw[Ax z];have j:(I+1)*B<=U*B:=Cw (by assumption) (by lia);rw[Int.add_mul,Int.one_mul] at j;exact Ax (by omega)
   ·rw[Ar z];have j:(U+1)*B<=I*B:=Cw (by lia) (by lia);rw[Int.add_mul,Int.one_mul] at j;exact Ar (by lia)
  rw[e] at h;exact h
section
variable {w:Yg}
def pW(h:Yh)(B:Int)(v:Yc):Prop:=∃a o n r p t u,v=.ref a/\h.get? a=some o/\o.cls=.type "tuple" /\ o.data=.seq #[.int r t,.int p u] n/\0<=p/\p<B
def pW.pair{B:Int}{x:Keyed}(k:pW h B x.1):J5 h B x:=by obtain⟨a,o,n,r,p,t,u,I,J,_,U,g,j⟩:=k;exact⟨a,o,n,r,p,t,u,I,J,U,g,j⟩
theorem tups{h:Yh}{B:Int}:∀{ks:XZ},(∀v∈ks,pW h B v)->∃fs,KatTups h ks fs/\fs.length=ks.length/\∀v∈fs,∃r t,v=Value.int r t
 |[],_=>⟨[],trivial,rfl,λv I=>by simp at I⟩
 |k::ks,J=>by
  obtain⟨fs,U,g,j⟩:=tups (ks:=ks) λv I=>J v<|Af _ I;obtain⟨a,o,n,r,p,t,u,rfl,l,C,T,_,_⟩:=J k<|Ao ..;refine⟨.int r t::fs,KatTups.cons l C T rfl U,by simp[g],λv I=>?_⟩;rcases Ap.mp I with rfl|I
  ·exact⟨r,t,rfl⟩
  ·exact j v I
def J6{B:Int}{ks:XZ}{Q:SortKind->Yd->Prop}(I:∀v∈ks,pW s.heap B v)(j:0<ks.length)(q:Q (tuples' true) s):wpAny (model prog w) A (keyKind' ks.toArray) Q E s:=by
 obtain⟨fs,J,l,U⟩:=tups I;refine kat_kind (T:=.type "int") J (by lia) (λv g=>?_) (by decide) ?_
 ·obtain⟨r,t,rfl⟩:=U v g;exact .now
 ·exact q
theorem wJ{R:α->α->Prop}:∀{l:List α},l.length<2->l.Pairwise R
 |[],_=>List.Pairwise.nil
 |[_],_=>List.pairwise_singleton _ _
 |_::_::_,h=>absurd h (by simp)
def T4{a kS:Addr}{ks:XZ}{e l:Nat}{B:Int}{P:PySem.Fin->Yd->Prop}(r:s.heap.get? kS=some (seqObj "list" ks.toArray e))(ha:s.heap.get? a=some (seqObj "list" #[] l))(t:kS≠a)(hl:ks.length=vs.length)(g:vs.length<=127)
 (hk:∀v∈ks,pW s.heap B v)
 (h:∀h' tk (xs:Yr) c,(∀b,b≠kS->b≠a->h'.get? b=s.heap.get? b)->h'.get? a=some (seqObj "list" (List.toArray (xs.map (·.2))) c)->xs.Perm (ks.zip vs)->(xs.Pairwise λx y=>num s.heap B x<=num s.heap B y)->P (.done<|.ret .none) {s with heap:=h',toks:=tk}):
 wpAny (model prog w) A (ksk_end a false vs.toArray l (.ref kS) ks.toArray) P E s:=by
 have hz:vs.length<=sizeLine:=AE g (by decide);have o:(ks.toArray.zip vs.toArray).toList=ks.zip vs:=by simp
 have tail:∀st:SortSt,failedOf st=none->(arrOf st).toList.Perm (ks.zip vs)->((arrOf st).toList.Pairwise λx y=>num s.heap B x<=num s.heap B y)->wpAny (model prog w) A (ksk_tail a false l (.ref kS) st) P E s:=by
  intro st hf hp hs;have s1:=ya s.heap kS<|Obj.mapSeq λ_=>(#[]:X0);have J:(s.heap.update kS<|Obj.mapSeq λ_=>(#[]:X0)).get? a=some (seqObj "list" #[] l):=(s1.2 a t.symm).trans ha;have s2:=ya (s.heap.update kS<|Obj.mapSeq λ_=>(#[]:X0)) a (Obj.mapSeq λ_=>(arrOf st).map (·.2));have len:((arrOf st).map (·.2)).size<=sizeLine:=by have:=hp.length_eq;rw[Dv,A5] at this;rw[Array.size_map];lia
  unfold ksk_tail
  try dsimp only
  refine Aa (listUpdate_at r rfl ?_ (by rw[As];lia)<|A3 _);refine Aa<|wpAny_letGo ?_;refine Aa<|seqEpoch_at J rfl ?_;refine Aa (listUpdate_at J rfl ?_ (A3 _) (by simp only[B8,if_false];exact De len));rw[hf];simp only[bne_self_eq_false,B8,if_false];obtain⟨C,j⟩:∃C,((s.heap.update kS<|Obj.mapSeq λ_=>(#[]:X0)).update a (Obj.mapSeq λ_=>(arrOf st).map (·.2))).get? a=some (seqObj "list" ((arrOf st).map (·.2)) C):=⟨_,get?_update_seq J λ_=>(arrOf st).map (·.2)⟩;refine Aj<|h _ _ (arrOf st).toList C (λb T a0=>?_) ?_ hp hs
  ·exact(s2.2 b a0).trans (s1.2 b T)
  ·have em:(arrOf st).map (·.2)=List.toArray ((arrOf st).toList.map (·.2)):=by apply CQ.mp;rw[Array.toList_map]
   rw[em] at j ⊢;exact j
 unfold ksk_end;simp only[B8,if_false];by_cases U:vs.toArray.size<2
 ·rw[AF U,AF U];refine Aa<|Aj ?_;rw[StateT.run_pure];refine Aa<|Aj ?_;refine tail _ rfl (by show(ks.toArray.zip vs.toArray).toList.Perm _;rw[o]) ?_;show(ks.toArray.zip vs.toArray).toList.Pairwise _;rw[o];rw[As] at U;have:(ks.zip vs).length<2:=by rw[Dv];lia
  exact wJ this
 ·rw[AA U,AA U];rw[As] at U;refine Aa<|J6 hk (by omega) ?_;refine Aa (A4 (J4 (E:=E) (xF (B:=B)) (st:=SortSt.mk' (tuples' true) (ks.toArray.zip vs.toArray) #[] 7 none)
   (Q:=λ_ I=>failedOf I=none/\(arrOf I).toList.Perm (ks.zip vs)/\((arrOf I).toList.Pairwise λx y=>num s.heap B x<=num s.heap B y)) (by show(ks.toArray.zip vs.toArray).size<128;simp;lia) rfl rfl rfl (λx p=>?_) λI b1 b2 b3=>⟨b1,?_,b3⟩) ?_ λ_ _ e=>e)
  ·have p:x∈(ks.toArray.zip vs.toArray).toList:=p;rw[o] at p;exact pW.pair<|hk _ (Du (a:=x.1) (b:=x.2) p).1
  ·have b2:(arrOf I).toList.Perm (ks.toArray.zip vs.toArray).toList:=b2;rw[o] at b2;exact b2
  ·rintro⟨⟨⟩,I⟩ s' ⟨rfl,b1,b2,b3⟩;exact tail I b1 b2 b3
end
def permLift(f:α->β):∀{l m:List β},l.Perm m->∀{T:List α},T.map f=m->∃U:List α,U.Perm T/\U.map f=l:=by
 intro l m p
 induction p with
 |nil=>intro T e;exact⟨T,Cv _,e⟩
 |cons x _ o=>
  intro T e;cases T with
  |nil=>cases e
  |cons t r=>
   rw[AD] at e;obtain⟨I,J⟩:=Er e;obtain⟨U,C,e'⟩:=o J;exact⟨t::U,C.cons t,by rw[AD,e',I]⟩
 |swap x y l=>
  intro T e
  match T,e with
  |t::u::r,e=>
   rw[AD,AD] at e;obtain⟨I,J⟩:=Er e;obtain⟨e3,e4⟩:=Er J;exact⟨u::t::r,List.Perm.swap t u r,by rw[AD,AD,I,e3,e4]⟩
 |trans _ _ g j=>
  intro T e;obtain⟨T1,p1,I⟩:=j e;obtain⟨T2,p2,J⟩:=g I;exact⟨T2,p2.trans p1,J⟩
section
variable {w:Yg}
def mem_self_zip{x:Keyed}(h:x∈vs.zip vs):x.1∈vs/\x.1=x.2:=by
 induction vs with
 |nil=>simp at h
 |cons v r I=>
  rw[DF] at h;rcases Ap.mp h with rfl|h
  ·exact⟨Ao ..,rfl⟩
  ·exact⟨Af _ (I h).1,(I h).2⟩
def J7(prog:Ye)(w:Yg)(s:Yd)(keep:Yh->Prop)(κ:SortKind)(vs:XZ)(nm:Yt):Prop:=∀(A:Around) (E:XT) (g:Yh),keep g->
 Ord prog w A {s with heap:=g} κ (λx=>x∈vs.zip vs) nm/\(¬vs.length<2->∀Q:SortKind->Yd->Prop,Q κ {s with heap:=g}->wpAny (model prog w) A (keyKind' vs.toArray) Q E {s with heap:=g})
def T5{a:Addr}{n:Nat}{κ:SortKind}{nm:Yt}{P:PySem.Fin->Yd->Prop}(ho:s.heap.get? a=some (seqObj "list" vs.toArray n))(hz:vs.length<=127)(ok:J7 prog w s (λg=>∀b o,b≠a->s.heap.get? b=some o->g.get? b=some o) κ vs nm)
 (h:∀h' tk (xs:Yr) c,(∀b o,b≠a->s.heap.get? b=some o->h'.get? b=some o)->h'.get? a=some (seqObj "list" (List.toArray (xs.map (·.2))) c)->xs.Perm (vs.zip vs)->(xs.Pairwise λx y=>nm x<=nm y)->P (.done<|.ret .none) {s with heap:=h',toks:=tk}):
 wpAny (model prog w) A (Builtin.«list.sort» ⟨[.ref a],[]⟩) P E s:=by
 have big:(100000:Nat)+1<=sizeLine:=by rw[sizeLine_eq];exact C0 _ _
 have t:(vs.toArray.zip vs.toArray).toList=vs.zip vs:=by simp
 have s1:=ya s.heap a<|Obj.mapSeq λ_=>(#[]:X0);obtain⟨e1,p⟩:∃e1,(s.heap.update a<|Obj.mapSeq λ_=>(#[]:X0)).get? a=some (seqObj "list" #[] e1):=⟨_,get?_update_seq ho λ_=>#[]⟩;obtain⟨I,U⟩:∃g,g=((s.heap.update a<|Obj.mapSeq λ_=>(#[]:X0)).push<|seqObj "tuple" vs.toArray 0).push (seqObj "list" #[] 0):=⟨_,rfl⟩;have k3:∀b o,b≠a->s.heap.get? b=some o->I.get? b=some o:=λb o C e=>by rw[U];exact vc _<|vc _<|(s1.2 b C).trans e
 have j:I.get? a=some (seqObj "list" #[] e1):=by rw[U];exact vc _<|vc _ p
 have tail:∀st:SortSt,(arrOf st).toList.Perm (vs.zip vs)->((arrOf st).toList.Pairwise λx y=>nm x<=nm y)->
  ∀tk,P (.done<|.ret .none) {s with heap:=I.update a (Obj.mapSeq λ_=>(arrOf st).map (·.2)),toks:=tk}:=by
  intro st hp hs tk;have s2:=ya I a (Obj.mapSeq λ_=>(arrOf st).map (·.2));obtain⟨c2,r⟩:∃c2,(I.update a (Obj.mapSeq λ_=>(arrOf st).map (·.2))).get? a=some (seqObj "list" ((arrOf st).map (·.2)) c2):=⟨_,get?_update_seq j λ_=>(arrOf st).map (·.2)⟩;have em:(arrOf st).map (·.2)=List.toArray ((arrOf st).toList.map (·.2)):=by apply CQ.mp;rw[Array.toList_map]
  refine h _ tk (arrOf st).toList c2 (λb o C e=>(s2.2 b C).trans<|k3 b o C e) ?_ hp hs;rw[em] at r ⊢;exact r
 have len:∀st:SortSt,(arrOf st).toList.Perm (vs.zip vs)->((arrOf st).map (·.2)).size<=sizeLine+1:=λst hp=>by have:=hp.length_eq;rw[Dv,A5] at this;rw[Array.size_map];lia
 rw[list_sort_plain];refine Aa<|listItems_at ho rfl ?_;refine Aa (listUpdate_at ho rfl ?_ (by rw[As];exact dP)<|A3 _);refine Aa<|seqEpoch_at p rfl ?_;refine Aa (wpAny_newTuple ?_ (by show vs.length<=_;lia));refine Aa<|wpAny_newList ?_<|A3 _;refine Bi ?_;show wpAny (model prog w) A _ P E {s with heap:=((s.heap.update a<|Obj.mapSeq λ_=>(#[]:X0)).push<|seqObj "tuple" vs.toArray 0).push (seqObj "list" #[] 0)};rw[<-U];dsimp only;by_cases l:vs.toArray.size<2
 ·rw[AF l,AF l];refine Aa<|Aj ?_;rw[StateT.run_pure];refine Aa<|Aj ?_;dsimp only;refine Aa<|seqEpoch_at j rfl ?_;have pz:(arrOf<|SortSt.mk' κ (vs.toArray.zip vs.toArray) #[] 7 none).toList.Perm (vs.zip vs):=by show(vs.toArray.zip vs.toArray).toList.Perm _;rw[t]
  refine Aa<|listUpdate_at j rfl ?_ (A3 _)<|len _ pz;simp only[bne_self_eq_false,B8,if_false];refine Aj<|tail (SortSt.mk' κ (vs.toArray.zip vs.toArray) #[] 7 none) pz ?_ _;show(vs.toArray.zip vs.toArray).toList.Pairwise _;rw[t];rw[As] at l;have:(vs.zip vs).length<2:=by rw[Dv];lia
  exact wJ this
 ·rw[AA l,AA l];rw[As] at l;refine Aa<|(ok _ _ I k3).2 l _ ?_;refine Aa (A4 (J4 (E:=E) (ok _ E I k3).1 (st:=SortSt.mk' κ (vs.toArray.zip vs.toArray) #[] 7 none)
   (Q:=λ_ J=>failedOf J=none/\(arrOf J).toList.Perm (vs.zip vs)/\((arrOf J).toList.Pairwise λx y=>nm x<=nm y)) (by show(vs.toArray.zip vs.toArray).size<128;simp;lia) rfl rfl rfl (λx T=>?_) λJ b1 b2 b3=>⟨b1,?_,b3⟩) ?_ λ_ _ e=>e)
  ·have T:x∈(vs.toArray.zip vs.toArray).toList:=T;rw[t] at T;exact T
  ·have b2:(arrOf J).toList.Perm (vs.toArray.zip vs.toArray).toList:=b2;rw[t] at b2;exact b2
  ·rintro⟨⟨⟩,J⟩ s' ⟨rfl,b1,b2,b3⟩;dsimp only;refine Aa<|seqEpoch_at j rfl ?_;refine Aa<|listUpdate_at j rfl ?_ (A3 _)<|len _ b2;rw[b1];simp only[bne_self_eq_false,B8,if_false];exact Aj<|tail J b2 b3 _
def rU{l:Addr}{κ:SortKind}{nm:Yt}(r:s.heap.IsList l vs.toArray)(hz:vs.length<=127)(ok:J7 prog w s (λg=>∀b o,s.heap.get? b=some o->g.get? b=some o) κ vs nm)
 (h:∀h' tk (xs:Yr) D c,s.heap.objs.size<=D->(∀b o,s.heap.get? b=some o->h'.get? b=some o)->h'.get? D=some (seqObj "list" (List.toArray (xs.map (·.2))) c)->xs.Perm (vs.zip vs)->(xs.Pairwise λx y=>nm x<=nm y)->Q (.ref D) {s with heap:=h',toks:=tk}):
 wpAny (model prog w) A (call (.builtin "sorted") [.ref l]) Q E s:=by
 have big:(100000:Nat)+1<=sizeLine:=by rw[sizeLine_eq];lia
 refine Calls.call_function_entry kind_sorted plain_sorted entry_sorted (args_sorted1 _) ?_;unfold Builtin.«sorted»;refine Aa (m:=checkCount "sorted" 1 1 _)<|Aj ?_;refine Aa<|collect_list r ?_ (by lia);refine Aa<|wpAny_newList ?_ (by lia);obtain⟨g,j⟩:∃g,g=(s.heap.push<|seqObj "list" #[] 0).update s.heap.objs.size (Obj.mapSeq (· ++ vs.toArray)):=⟨_,rfl⟩;have p:g.objs.size=s.heap.objs.size+1:=by rw[j,Heap.size_update,size_push']
 have t:∀b o,s.heap.get? b=some o->g.get? b=some o:=λb o q=>by have I:b<s.heap.objs.size:=wh q;rw[j,Heap.get?_update_ne _ _ _ _<|A9 I];exact vc _ q
 show wpAny _ _ _ _ _ {s with heap:=((s.heap.push<|seqObj "list" #[] 0).update s.heap.objs.size (Obj.mapSeq (· ++ vs.toArray))).push (seqObj "list" vs.toArray 0)};rw[<-j];have U:(g.push<|seqObj "list" vs.toArray 0).get? g.objs.size=some (seqObj "list" vs.toArray 0):=wn _ rfl;have keep:∀J:Yh,(∀b o,b≠g.objs.size->(g.push<|seqObj "list" vs.toArray 0).get? b=some o->J.get? b=some o)->∀b o,s.heap.get? b=some o->J.get? b=some o:=λJ k b o q=>k b o (λz=>by have I:b<s.heap.objs.size:=wh q;rw[z,p] at I;exact Nat.not_succ_lt_self I)<|vc _<|t b o q
 refine Aa<|Bi<|wpAny_call_entry slot_list_sort ⟨_,U,rfl⟩ entry_list_sort ?body<|args_list_sort _
 case body=>
  refine T5 (s:={s with heap:=g.push (seqObj "list" vs.toArray 0)}) U hz (λA E J k=>ok A E J<|keep J k) λh' tk xs c C T pm pw=>?_;exact⟨_,rfl,Aj ⟨_,rfl,h h' tk xs g.objs.size c (by rw[p];exact CI _) (keep h' C) T pm pw⟩⟩
def w_sorted{l:Addr}{B:Int}(hl:s.heap.IsList l vs.toArray)(hz:vs.length<=127)(C:∀v∈vs,pW s.heap B v)
 (h:∀h' tk (xs:Yr) D c,s.heap.objs.size<=D->(∀b o,s.heap.get? b=some o->h'.get? b=some o)->h'.get? D=some (seqObj "list" (List.toArray (xs.map (·.2))) c)->xs.Perm (vs.zip vs)->(xs.Pairwise λx y=>num s.heap B x<=num s.heap B y)->Q (.ref D) {s with heap:=h',toks:=tk}):
 wpAny (model prog w) A (call (.builtin "sorted") [.ref l]) Q E s:=by
 refine rU (κ:=tuples' true) hl hz (λA E g k=>?_) h;have j:∀v∈vs,pW g B v:=λv hv=>by obtain⟨a,o,m,r,p,t,u,I,J,r'⟩:=C v hv;exact⟨a,o,m,r,p,t,u,I,k _ _ J,r'⟩
 have nk:∀x∈vs.zip vs,num g B x=num s.heap B x:=λx U=>by obtain⟨a,o,m,r,p,t,u,I,J,e3,T,_⟩:=C _ (mem_self_zip U).1;rw[num_of I J T,num_of I (k _ _ J) T]
 refine⟨⟨λx y U hy {E Q} q=>?_⟩,λh2 Q q=>J6 (s:={s with heap:=g}) j (by lia) q⟩;rw[<-nk x U,<-nk y hy] at q;exact(xF (s:={s with heap:=g})).lt x y (pW.pair<|j _ (mem_self_zip U).1) (pW.pair<|j _ (mem_self_zip hy).1) q
end
end TS
namespace L2
open PySem PySem.Spec PyProof.Rows
def rS(f:α->β){l m:List β}(p:l.Perm m){T:List α}(e:T.map f=m):∃I:List α,I.Perm T/\I.map f=l:=TS.permLift f p e
theorem fu{α β I:Type}{R:β->I->Prop}{g:α->β}{h:α->I}:∀{T:List α},(∀t∈T,R (g t)<|h t)->Paired R (T.map g) (T.map h)
 |[],_=>.nil
 |t::_,k=>.cons (k t<|Ao ..)<|fu λu J=>k u<|Af _ J
def uK{J:Type}{R:α->β->Prop}{S:α->J->Prop}:∀{xs:List α} {ys:List β} {zs:List J},Paired R xs ys->Paired S xs zs->∃T:List (α×β×J),T.map (·.1)=xs/\T.map (λt=>t.2.1)=ys/\T.map (λt=>t.2.2)=zs/\∀t∈T,R t.1 t.2.1/\S t.1 t.2.2
 := by
 intro xs ys zs p q
 induction p generalizing zs with
 |nil=>cases q;exact⟨[],rfl,rfl,rfl,λt I=>by cases I⟩
 |cons r p l=>
  cases q with
  |cons q o=>
   rename_i x y U g z j;obtain⟨T,C,e2,e3,k⟩:=l o;refine⟨(x,y,z)::T,by rw[AD,C],by rw[AD,e2],by rw[AD,e3],λt I=>?_⟩;rcases Ap.mp I with rfl|I
   ·exact⟨r,q⟩
   ·exact k t I
theorem bX{α β:Type}{f:α->β}:∀{l:List α},(∀x∈l,∀y∈l,f x=f y->x=y)->l.Nodup->(l.map f).Nodup
 |[],_,_=>BW
 |a::r,h,n=>by obtain⟨J,U⟩:=AH.mp n;rw[AD];refine AH.mpr ⟨λz=>?_,bX (λx g y I=>h x (Af _ g) y<|Af _ I) U⟩;obtain⟨y,I,e⟩:=Bj.mp z;have:=h y (Af _ I) a (Ao ..) e;exact J<|this▸I
def oB(p q:Int×Int):Prop:=p.1<q.1\/(p.1=q.1/\p.2<=q.2)
abbrev Gg(K:Ah)(H:Hp)(v:V)(p:Int×Int):Prop:=∃a,v=.ref a/\dS K H a [.int p.1,.int p.2]
def T6{B:Int}{p q:Int×Int}(J:0<=p.2/\p.2<B)(U:0<=q.2/\q.2<B)(h:p.1*B+p.2<=q.1*B+q.2):oB p q:=by
 unfold oB;by_cases c:p.1<q.1
 ·exact .inl c
 ·right;by_cases d:q.1<p.1
  ·have I:(q.1+1)*B<=p.1*B:=Cw (by assumption) (by lia);rw[Int.add_mul,Int.one_mul] at I;omega
  ·have e:p.1=q.1:=by lia
   rw[e] at h;exact⟨e,by lia⟩
def T7(X:Cx):Yj->Hp->VK->Prop:=λxs H Q=>∃l ys ps,xs=[.ref l]/\aH X.K H l ys/\Paired (Gg X.K H) ys ps/\(∀p∈ps,0<=p.2/\p.2<1000000)/\ps.Nodup/\ys.length<=127/\
 ∀D zs qs,H D=none->Paired (Gg X.K H) zs qs->qs.Perm ps->qs.Pairwise oB->Q (.ref D) (upd H D<|.lst zs)
def yV:zq X (.builtin "sorted") (T7 X):=by
 rintro a3 s σ H xs us Q I r⟨l,ys,ps,rfl,hl,pr,hb,a5,a0,q⟩;obtain⟨u,rfl,ru⟩:=r.one;cases (show u=Value.ref l from ru);obtain⟨p,rv,pl,hz⟩:=I.list hl;have l1:ys.length=p.length:=rv.length;obtain⟨T,e1,e2,e3,kT⟩:=uK rv pr;have U:∀t∈T,(∃a o n g j,t.2.1=Value.ref a/\s.heap.get? a=some o/\o.cls=.type "tuple" /\ o.data=.seq #[.int t.2.2.1 g,.int t.2.2.2 j] n)/\0<=t.2.2.2/\t.2.2.2<1000000:=λt J=>by obtain⟨r1,a,ea,hs⟩:=kT t J;obtain⟨a4,a1,⟨o,g1,g2,n,g3⟩,_⟩:=I.tuple hs;obtain⟨w1,w2,rfl,x1,x2⟩:=a1.two;obtain⟨g,rfl⟩:=(show ∃g,w1=Value.int t.2.2.1 g from x1);obtain⟨j,rfl⟩:=(show ∃j,w2=Value.int t.2.2.2 j from x2);rw[ea] at r1;refine⟨⟨a,o,n,g,j,r1,g1,g2,g3⟩,?_⟩;exact hb _ (by rw[<-e3];exact CV (f:=λt:V×Yc×(Int×Int)=>t.2.2) J)
 have nT:∀t∈T,TS.num s.heap 1000000 (t.2.1,t.2.1)=t.2.2.1*1000000+t.2.2.2:=λt J=>by obtain⟨⟨a,o,n,g,j,g0,g1,g2,g3⟩,_⟩:=U t J;exact TS.num_of g0 g1 g3
 have ez:p.zip p=T.map λt=>(t.2.1,t.2.1):=by rw[<-e2,List.zip_map']
 refine j4 I.tk (TS.w_sorted (B:=1000000) pl.isList (by rw[<-l1];exact a0) (λv hv=>?_) λh' tk ks D c hD hk hg pm pw J=>?_)
 ·rw[<-e2] at hv;obtain⟨t,J,rfl⟩:=Bj.mp hv;obtain⟨⟨a,o,n,g,j,g0,g1,g2,g3⟩,b1,b2⟩:=U t J;exact⟨a,o,n,_,_,g,j,g0,g1,g2,g3,b1,b2⟩
 ·rw[ez] at pm;obtain⟨T',pT,eT⟩:=rS _ pm rfl;subst eT;have C:∀t,t∈T'->t∈T:=λt=>pT.mem_iff.mp;have a2:=BN.mp pw;refine⟨.ref D,_,I.laid (t':=tk) (o:=.lst (T'.map (·.1))) hk hD ?_,rfl,q D (T'.map (·.1)) (T'.map λt=>t.2.2) (I.hok.fresh hD) (fu λt J=>(kT t<|C t J).2) ?_ ?_⟩
  ·refine⟨?_,T'.map λt=>t.2.1,c,fu λt J=>(kT t<|C t J).1,?_⟩
   ·rw[Ab,pT.length_eq];have:T.length=ys.length:=by rw[<-e1,Ab]
    rw[this];exact hz
   ·rw[hg,BH];rfl
  ·rw[<-e3];exact pT.map _
  ·refine BN.mpr<|DS (λ{x y} hx hy z=>?_) a2;rw[nT x<|C x hx,nT y<|C y hy] at z;exact T6 (U x<|C x hx).2 (U y<|C y hy).2 z
end L2
namespace L3
open PySem L2
def FA(p:Int×Int):Y:=.tup [.int p.1,.int p.2]
theorem u6{G:G3}{H:Hp}:∀{ps:List<|Int×Int} {xs:Yj},x8 G H (ps.map FA) xs->Paired (Gg G.K H) xs ps
 |[],_,h=>by cases (show _=[] from h);exact .nil
 |p::r,_,⟨x,U,e,⟨a,zs,ea,g,j,l,o,I,t,C,T,J,e3⟩,s⟩=>by subst e ea o T e3;cases (show j=V.int p.1 from I);cases (show t=V.int p.2 from J);exact .cons ⟨a,rfl,g⟩<|u6 s
def T9 :∀{ps:List<|Int×Int} {xs:Yj},Paired (Gg G.K H) xs ps->x8 G H (ps.map FA) xs:=by
 intro ps xs h
 induction h with
 |nil=>exact rfl
 |cons z t I=>
  obtain⟨a,ea,J⟩:=z;subst ea;exact⟨_,_,rfl,⟨a,_,rfl,J,_,_,rfl,rfl,_,_,rfl,rfl,rfl⟩,I⟩
def dk(xs:List Y)(L:qi)(Q:YK):Prop:=match xs with
 |[.ref a]=>cb L a λys=>∃ps:List (Int×Int),ys=ps.map FA/\(∀p∈ps,0<=p.2/\p.2<1000000)/\ps.Nodup/\ps.length<=127/\∀(D:Addr) (qs:List<|Int×Int),L D=none->qs.Perm ps->qs.Pairwise oB->Q (.ref D) (qg L D<|.lst<|qs.map FA)
 |_=>False
def ww:bootBuiltins "sorted"=some (.builtin "sorted"):=by decide +kernel
theorem dC :zq X (.builtin "sorted") (b_ X.g3 dk):=EM yV λxs H Q ys L Q3 j J z k=>by
 unfold dk at z;split at z
 ·rename_i a;obtain⟨l,e,o,rfl,p,U,I,z⟩:=xb z;obtain⟨t,C,r⟩:=J a _ e;obtain⟨u,rfl,T⟩:=j.inv1;cases (show u=V.ref a from T);have pr:=u6 r;exact⟨a,t,o,rfl,EV C,pr,p,U,by rw[<-r.length,Ab];exact I,λD l qs g pz pm pw=>k _ _ _ _ (EF g) (J.newL g<|T9 pz) (by rfl)<|z D qs (J.none g) pm pw⟩
 ·exact z.elim
open PySem L2 Words
def ay:Wd->Y
 |.leaf t n=>.tup [.str<|kL t,.str n]
 |.node e l r=>.tup [.str<|kN e,ay l,ay r]
def qj{Q:α->qi->Prop}{o:Option α}{v:α}(e:o=some v)(h:Q v L):c_ L Q o:=by rw[e];exact h
def qU:RD "is_leaf" qQ 0 ["word"] (λ_=>True):=⟨_,λV B c _ _ _ _ _ _ _ I hN J=>(qc<|qm<|kj (IK _ _ _) (J_ 0) (kA B.k_LEAF_KINDS rfl) (by with_unfolding_all rfl))⟩
def kX:Bool->Bool->Str
 |true,t=>kL t
 |false,e=>kN e
inductive kw(ys:List Y)(L:qi)(Q:YK):Prop
 |mk:∀lf b rest,(ys=[.tup<|.str (kX lf b)::rest])->(Q (.bl lf) L)->kw ys L Q
def Ua(t:Bool):xG (.str<|kL t) [.str "plain",.str "turned"]=true:=by cases t<;>decide +kernel
def Ub(t:Bool):xG (.str<|kN t) [.str "plain",.str "turned"]=false:=by cases t<;>decide +kernel
def yQ:∀ys L Q,kw ys L Q->jf qU.1 1 ys L Q:=by
 rintro ys L Q ⟨lf,b,rest,rfl,q⟩;have I:jU (Y.str (kX lf b)::rest) 0=some (Y.str<|kX lf b):=vd (xs:=Y.str (kX lf b)::rest) (j:=0) rfl;walk_at "w";rw[I];refine⟨rfl,rfl,jw ?_⟩;cases lf with
 |true=>
  rw[show nb false (xG (fS<|.str<|kX true b)<|[Y.str "plain",.str "turned"].map fS)=true from Ua b];exact q
 |false=>
  rw[show nb false (xG (fS<|.str<|kX false b)<|[Y.str "plain",.str "turned"].map fS)=false from Ub b];exact q
def u8(J U:x5):RR "turned" vG 2 ["word"] ["word","kind"] U (λV=>Ff V J):=⟨_,λV B c _ _ I _ _ _ _ _ _ g hN j=>(qa (S_ 1 hN<|I_ (kA B.k_TURNED_KINDS rfl)<|J_ 0)<|qa (ze (xh<|C_ c g<|zx<|qv 0) (qc<|qm<|zf<|v5 (qv 1)<|J_ 0) qt)<|qc<|qm<|zf<|ag (qv 1) (C_ I g<|zx<|J_ 0)<|C_ I g<|zx<|J_ 0)⟩
inductive aM(n:Nat)(ys:List Y)(L:qi)(Q:YK):Prop
 |mk:∀wd,(ys=[ay wd])->(wd.depth<=n)->(Q (ay wd.turn) L)->aM n ys L Q
def r6(t:Bool):List.lookup (kL t) [(("plain" : Str),("turned" : Str)),("turned","plain"),("both","either"),("either","both")]=some (kL<|!t):=by cases t<;>decide +kernel
def rW(t:Bool):List.lookup (kN t) [(("plain" : Str),("turned" : Str)),("turned","plain"),("both","either"),("either","both")]=some (kN<|!t):=by cases t<;>decide +kernel
def Uc(n:Nat):∀ys L Q,aM (n+1) ys L Q->jf (u8 kw<|aM n).1 2 ys L Q:=by
 rintro ys L Q ⟨I,rfl,hd,q⟩;cases I with
 |leaf t nm=>
  exact qj (r6 t) ⟨true,t,_,rfl,jw q⟩
 |node e l r=>
  have J:max l.depth r.depth+1<=n+1:=hd;refine qj (rW e) ⟨false,e,_,rfl,l,rfl,by lia,r,rfl,by lia,?_⟩;exact jw q
def Ud(s:qf L L'){p:Addr}(h:L' p=none):L p=none:=by cases e:L p with|none=>rfl|some o=>rw[s _ _ e] at h;cases h
def jd.str{n:Nat}(x:Str):jd L n (.str x) (.s<|.str x):=by cases n with|zero=>exact⟨rfl,rfl⟩|succ n=>exact .inl ⟨rfl,rfl⟩
abbrev EU:=@jd.str
def jd.int{n:Nat}(x:Int):jd L n (.int x) (.s<|.int x):=by cases n with|zero=>exact⟨rfl,rfl⟩|succ n=>exact .inl ⟨rfl,rfl⟩
abbrev EN:=@jd.int
theorem iG{L:qi}:∀{wd:Wd} {n:Nat},wd.depth<=n->jd L n (ay wd) (o5 wd)
 |.leaf t nm,n+1,_=>.inr<|.inl ⟨_,_,rfl,rfl,.cons (EU _)<|.cons (EU _) .nil⟩
 |.node e l r,n+1,h=>by have I:max l.depth r.depth+1<=n+1:=h;exact .inr<|.inl ⟨_,_,rfl,rfl,.cons (EU _)<|.cons (iG (by lia))<|.cons (iG (by lia)) .nil⟩
def w4{n:Nat}{a:Addr}(e:L a=some (.lst ys))(p:Paired (jd L n) ys ds):jd L (n+1) (.ref a) (.lst ds):=.inr<|.inr ⟨ys,ds,rfl,rfl,wx e,p⟩
def bu{n:Nat}(p:Paired (jd L n) ys ds):jd L (n+1) (.tup ys) (.tup ds):=.inr<|.inl ⟨ys,ds,rfl,rfl,p⟩
def oO{neg:Bool}{u v:Wd}{Q:YK}(J:u.depth<=128)(q:Q (.bl<|nb neg<|Da.eq (o5 u)<|o5 v) L):l_ neg (ay u) (ay v) L Q:=by
 have I:∀w:Wd,Fa (ay w)=true:=λw=>by cases w<;>rfl
 have:Fa (ay u)=true/\Fa (ay v)=true/\∃n m d e,n<=128/\jd L n (ay u) d/\jd L m (ay v) e/\Q (.bl<|nb neg<|Da.eq d e) L:=
  ⟨I u,I v,u.depth,v.depth,o5 u,o5 v,J,iG<|Ak _,iG<|Ak _,q⟩
 cases u<;>cases v<;>exact this
def aY{neg:Bool}{a b:Addr}{zs:List Y}{es:List Da}{n:Nat}{Q:YK}(I:n<128)(ea:L a=some (.lst ys))(eb:L b=some (.lst zs))(pa:Paired (jd L n) ys ds)(pb:Paired (jd L m) zs es)(q:Q (.bl<|nb neg<|Da.eqs ds es) L):
 l_ neg (.ref a) (.ref b) L Q:=⟨rfl,rfl,n+1,m+1,_,_,I,w4 ea pa,w4 eb pb,q⟩
def Ue:∀ys L Q,¬aM 0 ys L Q:=by rintro ys L Q ⟨I,_,hd,_⟩;cases I<;>simp[Wd.depth] at hd
def nY(hs:X2):List Y:=hs.map λn:Nat=>.int (n:Int)
def cM(hs:X2):(nY hs).length=hs.length:=by unfold nY;rw[Ab]
def xr{a p:Addr}{o:LO}(h:qg L a o p=none):L p=none:=by
 by_cases c:p=a
 ·subst c;rw[q9] at h;cases h
 ·rw[qd c] at h;exact h
def zd{l:List α}{x:α}(h:l[i]?=some x):i<l.length:=(AM.mp h).1
def eF:RD "_law_cell_at" dW 0 ["_law_script","_law_k"] (λ_=>True):=⟨_,λV B c _ _ _ _ _ _ _ I hN J=>(qa (ze (jl iJ (qv 1) (L_ B.ba<|qv 0)<|jk _) (qc<|qm<|I_ (qv 0)<|qv 1) qt)<|qc<|qm qe)⟩
def ox:RD "_law_mix" nM 0 ["_law_cell","_law_k","_law_factor"] (λ_=>True):=⟨_,λV B c _ _ _ _ _ _ _ I hN J=>(qc<|qm<|qk v4 (qk jh (qk wV (qk j7 (qk j7 (qk wV (qk jh (qv 0) qe) qe)<|qk wV (qv 1)<|qv 1) qe)<|qv 2) qe) qe)⟩
def f9(J:x5):RR "_law_weight" fZ 1 ["_law_word_here"] ["_law_word_here"] J (λ_=>True):=⟨_,λV B c _ _ I _ _ _ _ _ _ U hN g=>(qa (ze (E_ g (L_ B.ba<|qv 0) qe) (qc<|qm qe) qt)<|qc<|qm<|qk j7 (qk j7 qe<|C_ I U<|zx<|J_ 0)<|C_ I U<|zx<|J_ 0)⟩
def lH(I:x5):RR "_law_same" kK 1 ["_law_found","_law_due"] ["_law_found","_law_due","_law_one","_law_other"] I (λ_=>True):=⟨_,λV B c _ _ J _ _ _ _ _ _ g hN U=>(qa (ze (vn<|im (xh<|w6 .bool rfl B.b_isinstance rfl B.b_bool mh<|qv 0)<|cg<|xh<|w6 .bool rfl B.b_isinstance rfl B.b_bool mh<|qv 1) (qc<|qm<|we (w6 .bool rfl B.b_isinstance rfl B.b_bool mh<|qv 0)<|we (w6 .bool rfl B.b_isinstance rfl B.b_bool mh<|qv 1)<|aP<|kj (dH _ _ _ U) (qv 0) (qv 1)<|jk _) qt)<|qa (ze (xh<|zB .list .tuple rfl B.b_isinstance rfl B.bf cU rfl B.b_tuple hG<|qv 1) (qa (ze (vn<|im (N_ U (w6 .list rfl B.b_isinstance rfl B.bf cU<|qv 0)<|w6 .list rfl B.b_isinstance rfl B.bf cU<|qv 1)<|cg<|N_ U (w6 .tuple rfl B.b_isinstance rfl B.b_tuple hG<|qv 0)<|w6 .tuple rfl B.b_isinstance rfl B.b_tuple hG<|qv 1) (qc<|qm fW) qt)<|qa (ze (N_ U (L_ B.ba<|qv 0)<|L_ B.ba<|qv 1) (qc<|qm fW) qt)<|qa (vv xT rfl (RH rfl B.b_zip<|v5 (qv 0)<|qv 1) (vz (n:=2) rfl<|qz (G_ 2 hN)<|qz (G_ 3 hN) x4)<|qc<|ze (bQ<|xh<|C_ J g<|v5 (qv 2)<|qv 3) (qc<|qm fW) qt)<|qc<|qm fW) qt)<|qa (ze (xh<|w6 .int rfl B.b_isinstance rfl B.bi uJ<|qv 1) (qc<|qm<|we (w6 .int rfl B.b_isinstance rfl B.bi uJ<|qv 0)<|aP<|kj (dH _ _ _ U) (qv 0) (qv 1)<|jk _) qt)<|qa (ze (xh<|w6 .str rfl B.b_isinstance rfl B.b_str cq<|qv 1) (qc<|qm<|we (w6 .str rfl B.b_isinstance rfl B.b_str cq<|qv 0)<|aP<|kj (dH _ _ _ U) (qv 0) (qv 1)<|jk _) qt)<|qc<|qm<|Q6<|qv 0)⟩
def lu(J:x5):RR "_law_word" mE 1 ["_law_knots","_law_p"] ["_law_knots","_law_p","_law_knot"] J (λ_=>True):=⟨_,λV B c _ _ I _ _ _ _ _ _ U hN g=>(qa (S_ 2 hN<|I_ (qv 0)<|qv 1)<|qa (ze (E_ g (L_ B.ba<|qv 2) qe) (qc<|qm<|qv 2) qt)<|qc<|qm<|zf<|ag (J_ 2) (C_ I U<|v5 (qv 0)<|J_ 2)<|C_ I U<|v5 (qv 0)<|J_ 2)⟩
def rf(J U:x5):RR "word_at" rC 2 ["knots","place"] ["knots","place","knot"] U (λV=>Ff V J):=⟨_,λV B c _ _ I _ _ _ _ _ _ g hN j=>(qa (S_ 2 hN<|I_ (qv 0)<|qv 1)<|qa (ze (xh<|C_ c g<|zx<|qv 2) (qc<|qm<|qv 2) qt)<|qc<|qm<|zf<|ag (J_ 2) (C_ I g<|v5 (qv 0)<|J_ 2)<|C_ I g<|v5 (qv 0)<|J_ 2)⟩
inductive cj(ys:List Y)(L:qi)(Q:YK):Prop
 |mk:∀ns:X7,∀k:Int,(ys=[.sq<|ns.map Y.int,.int k])->(0<=k)->(∀v,Q (.int v) L)->cj ys L Q
def yx:∀ys L Q,cj ys L Q->jf eF.1 2 ys L Q:=by rintro ys L Q ⟨I,k,rfl,U,q⟩;refine zo (λc=>?_) λc=>jw<|q 0;have J:k<((I.map Y.int).length:Int):=c;rw[Ab] at J;obtain⟨j,rfl⟩:∃j:Nat,k=(j:Int):=⟨k.toNat,by lia⟩;have e:jU (I.map Y.int) (j:Int)=some (Y.int<|I[j]'(by omega)):=xm<|Ag _;walk_at "w";rw[e];exact jw<|q _
inductive bN(ys:List Y)(L:qi)(Q:YK):Prop
 |mk:∀c k f:Int,(ys=[.int c,.int k,.int f])->(0<=k)->(k<1000000)->(0<f)->(f<1000000)->(∀v,0<=v->v<134217728->Q (.int v) L)->bN ys L Q
def Uf:∀ys L Q,bN ys L Q->jf ox.1 3 ys L Q:=by
 rintro ys L Q ⟨c,k,f,rfl,I,J,U,g,q⟩;refine⟨(by decide:(0:Int)<1000003),.inr ⟨by decide,by decide⟩,.inl ⟨by lia,by lia⟩,.inr ⟨by lia,by lia⟩,(by decide:(0:Int)<2147483647),⟨by decide,by decide⟩,jw<|q _ ?_ ?_⟩
 all_goals
  generalize ((c % 1000003*7+k*k+1)*f)=z;lia
def Ug(cs:X2):(Txt.join ""<|cs.map λc=>(⟨#[c]⟩:Str)).cps.toList=cs:=by
 rw[iB]
 induction cs with|nil=>rfl|cons c r I=>rw[AD,Bg,I];rfl
inductive ar(n:Nat)(ys:List Y)(L:qi)(Q:YK):Prop
 |mk:∀wd,(ys=[ay wd])->(wd.depth<=n)->(Q (.int wd.size) L)->ar n ys L Q
def oD:∀ys L Q,¬ar 0 ys L Q:=by rintro ys L Q ⟨I,_,hd,_⟩;cases I<;>simp[Wd.depth] at hd
def Uh(n:Nat):∀ys L Q,ar (n+1) ys L Q->jf (f9<|ar n).1 1 ys L Q:=by
 rintro ys L Q ⟨I,rfl,hd,q⟩;cases I with
 |leaf t n=>exact jw q
 |node e l r=>
  have J:max l.depth r.depth+1<=n+1:=hd;refine⟨l,rfl,by lia,r,rfl,by lia,jw ?_⟩;have e:(1+(l.size:Int)+(r.size:Int))=(((Wd.node e l r).size:Nat):Int):=by show _=((1+l.size+r.size:Nat):Int);rfl
  rw[e];exact q
def dO(L:qi):Nat->Y->Y->Prop
 |0,_,_=>False
 |n+1,x,y=>(fY x=true/\y=x)\/(∃xs ys,x=.tup xs/\y=.tup ys/\Paired (dO L n) xs ys)\/(∃a b xs ys,x=.ref a/\y=.ref b/\L a=some (.lst xs)/\L b=some (.lst ys)/\Paired (dO L n) xs ys)
def dO.flat{n:Nat}{x:Y}(h:fY x=true):dO L (n+1) x x:=.inl ⟨h,rfl⟩
inductive eX(n:Nat)(ys:List Y)(L:qi)(Q:YK):Prop
 |mk:∀x y,(ys=[x,y])->(dO L n x y)->(Q (.bl true) L)->eX n ys L Q
def sR:∀ys L Q,¬eX 0 ys L Q:=λys L Q ⟨x,y,_,h,_⟩=>h
def J8{xs:List Y}{keep:qi->Prop}{tb:dR}(W:Nat->jc->qi->Prop)(J:W 0 τ L)(U:∀i τ L',W i τ L'->keep L')
 (hs:∀i x y τ L,xs[i]?=some x->ys[i]?=some y->W i τ L->g (.tup [x,y]) τ L λI L2=>tb {D with nx:=iP<|W<|i+1,ct:=iP<|W<|i+1,bk:=D.nx} I L2) (hd:∀τ L,W (min xs.length ys.length) τ L->D.nx τ L):
 tM (yc xs ys) keep g tb D τ L:=ve ⟨W,J,U,λi y τ L e w=>by obtain⟨a,b,ea,eb,rfl⟩:=zN e;exact hs i a b τ L ea eb w,λτ L w=>hd τ L (by rw[oR] at w;exact w)⟩
def Ui(n:Nat):∀ys L Q,eX (n+1) ys L Q->jf (lH<|eX n).1 4 ys L Q:=by
 rintro ys L Q ⟨x,y,rfl,h,q⟩;rcases h with⟨f,rfl⟩|⟨j,ys,rfl,rfl,p⟩|⟨a,b,j,ys,rfl,rfl,g,U,p⟩
 ·cases y with
  |non=>exact jw q
  |bl b=>
   refine jw ?_;show Q (.bl<|nb false<|decide<|b=b) L;rw[Ax rfl];exact q
  |int i=>
   refine jw ?_;show Q (.bl<|nb false<|decide<|i=i) L;rw[Ax rfl];exact q
  |str i=>
   refine jw ?_;show Q (.bl<|nb false<|decide<|i=i) L;rw[Ax rfl];exact q
  |_=>cases f
 ·have l:=p.length;walk_at "w";refine jz (b:=nb true<|decide<|(j.length:Int)=ys.length) (by rw[l,Ax rfl];rfl) ?_;refine J8 (λi I J=>J=L/\∃c d,I=[some<|.tup j,some<|.tup ys,c,d]) ⟨rfl,_,_,rfl⟩ (λi I J w=>⟨trivial,trivial⟩) ?_ ?_
  ·rintro i u v I J o ev ⟨rfl,c,d,rfl⟩;exact⟨u,v,rfl,EK p o ev,_,EC _,rfl,_,_,rfl⟩
  ·rintro I J ⟨rfl,c,d,rfl⟩;exact jw q
 ·have l:=p.length;refine cG g<|cG U ?_;walk_at "w";refine cG U ?_;walk_at "w";refine cG g<|cG U ?_;walk_at "w";refine cG g<|cG U ?_;walk_at "w";refine qb g (qb U (jz (by rw[l,Ax rfl];rfl) ?_));walk_at "w";refine qh g<|qh U ?_;refine J8 (λi I J=>J=L/\∃c d,I=[some<|.ref a,some<|.ref b,c,d]) ⟨rfl,_,_,rfl⟩ (λi I J ⟨e,_⟩=>by subst e;exact⟨rfl,rfl⟩) ?_ ?_
  ·rintro i u v I J o ev ⟨rfl,c,d,rfl⟩;exact⟨u,v,rfl,EK p o ev,_,EC _,rfl,_,_,rfl⟩
  ·rintro I J ⟨rfl,c,d,rfl⟩;exact jw q
def KW(ks:List Y):Nat->Wd->Prop
 |p,.leaf t n=>ks[p]?=some (.tup [.str<|kL t,.str n])
 |p,.node e l r=>∃i j:Nat,ks[p]?=some (.tup [.str<|kN e,.int i,.int j])/\KW ks i l/\KW ks j r
theorem KW.more{ks:List Y}(ms:List Y):∀{wd:Wd} {p:Nat},KW ks p wd->KW (ks++ms) p wd
 |.leaf _ _,p,h=>by have I:ks[p]?=some _:=h;show(ks++ms)[p]?=some _;rw[AC (AM.mp I).1];exact I
 |.node _ _ _,p,⟨i,j,h,a,b⟩=>⟨i,j,by rw[AC (AM.mp h).1];exact h,KW.more ms a,KW.more ms b⟩
inductive xg(n:Nat)(ys:List Y)(L:qi)(Q:YK):Prop
 |mk:∀k ks p wd,(ys=[.ref k,.int ((p:Nat):Int)])->(L k=some (.lst ks))->(KW ks p wd)->(wd.depth<=n)->(Q (ay wd) L)->xg n ys L Q
def ou:∀ys L Q,¬xg 0 ys L Q:=by rintro ys L Q ⟨k,J,p,I,_,_,_,hd,_⟩;cases I<;>simp[Wd.depth] at hd
def tE:∀ys L Q,¬xg 0 ys L Q:=ou
def yJ(n:Nat):∀ys L Q,xg (n+1) ys L Q->jf (rf kw<|xg n).1 3 ys L Q:=by
 rintro ys L Q ⟨k,J,p,U,rfl,I,h,hd,q⟩;cases U with
 |leaf t nm=>exact qb I<|qj (vd h) ⟨true,t,_,rfl,jw q⟩
 |node e l r=>
  obtain⟨i,j,h,g,o⟩:=h;have C:max l.depth r.depth+1<=n+1:=hd;exact qb I<|qj (vd h) ⟨false,e,_,rfl,k,J,i,l,rfl,I,g,by lia,k,J,j,r,rfl,I,o,by lia,jw q⟩
def uW(n:Nat):∀ys L Q,xg (n+1) ys L Q->jf (lu<|xg n).1 3 ys L Q:=by
 rintro ys L Q ⟨k,J,p,U,rfl,I,h,hd,q⟩;cases U with
 |leaf t nm=>exact qb I<|qj (vd h)<|jw q
 |node e l r=>
  obtain⟨i,j,h,g,o⟩:=h;have C:max l.depth r.depth+1<=n+1:=hd;exact qb I<|qj (vd h) ⟨k,J,i,l,rfl,I,g,by lia,k,J,j,r,rfl,I,o,by lia,jw q⟩
def qR:RD "is_name" r9 0 ["text"] (λ_=>True):=⟨_,λV B c _ _ _ _ _ _ _ I hN J=>(qc<|qm<|we (dq qe<|dz zC (L_ B.ba<|qv 0)<|dh zC<|Jm B.v_MOST_LETTERS rfl)<|aP<|zy rR rfl B.b_all jR<|zx<|aV ["sign"] (EI (by rfl)) rfl (JV<|qv 0) (fK 1) (λ_ _ _ _=>wm) λ_ _ _ _=>(dq qo<|dz Gc (qv 1)<|dh Gc qo))⟩
def Gh(c:Nat):Bool:=decide (97<=c)&&decide (c<=122)
def mC(z:Str):Bool:=(decide (1<=z.length)&&decide (z.length<=8))&&z.cps.toList.all Gh
def n_(a b:Nat):decide ([a]<[b])=decide (a<b):=by rw[StrLaws.lt_cons_cons,StrLaws.lt_nil_nil];simp
def Uj(c:Nat):pS "a" ⟨#[c]⟩=decide (97<=c):=by show(!decide ([c]<[97]))=decide (97<=c);rw[n_,Cc];simp
def Uk(c:Nat):pS ⟨#[c]⟩ "z" = decide (c<=122):=by show(!decide ([122]<[c]))=decide (c<=122);rw[n_,Cc];simp
inductive cN(ys:List Y)(L:qi)(Q:YK):Prop
 |mk:∀z:Str,(ys=[.str z])->(z.cps.all (· < 128)=true)->(z.length<=40000)->(Q (.bl<|mC z) L)->cN ys L Q
def yo:∀ys L Q,cN ys L Q->jf qR.1 1 ys L Q:=by
 rintro ys L Q ⟨z,rfl,ha,C,q⟩;refine⟨AE C (by decide),?_⟩;have zl:((z.length:Nat):Int)=(z.length:Int):=rfl;have I:mC z=false->bM Q (.bl false) L:=λe=>by rw[e] at q;exact jw q
 refine zo (λg=>?_) λg=>?_
 ·refine zo (λj=>?_) λj=>?_
  ·have l:(1:Int)<=z.length:=g;have o:(z.length:Int)<=8:=j;refine⟨ha,sQ (λy=>match y with|.str s=>some (.bl<|pS "a" s&&pS s "z")|_=>none) (AW (m:=40000) ?_ (by decide)) trivial ?_ λp hp=>?_⟩
   ·unfold j_;rw[Ab,Txs.len_list];exact C
   ·intro i y W T t J;unfold j_ at t;rw[Ai] at t;obtain⟨c,ec,rfl⟩:=Am.mp t;cases U:pS "a" ⟨#[c]⟩ with
    |true=>
     refine vg U ⟨L,EC _,?_⟩;have:W (T++[.bl<|pS ⟨#[c]⟩ "z"]) L:=by
      have e:(match (Y.str ⟨#[c]⟩:Y) with|.str s=>some (Y.bl<|pS "a" s&&pS s "z")|_=>none)=some (.bl<|pS ⟨#[c]⟩ "z"):=by show some (Y.bl<|pS "a" ⟨#[c]⟩&&pS ⟨#[c]⟩ "z")=_;rw[U];rfl
      rw[e] at J;exact J
     exact this
    |false=>
     refine jz U ⟨L,EC _,?_⟩;have:W (T++[.bl false]) L:=by
      have e:(match (Y.str ⟨#[c]⟩:Y) with|.str s=>some (Y.bl<|pS "a" s&&pS s "z")|_=>none)=some (.bl false):=by show some (Y.bl<|pS "a" ⟨#[c]⟩&&pS ⟨#[c]⟩ "z")=_;rw[U];rfl
      rw[e] at J;exact J
     exact this
   ·have el:(j_ z).filterMap (λy=>match y with|.str s=>some (.bl<|pS "a" s&&pS s "z")|_=>none)=(z.cps.toList.map Gh).map Y.bl:=by
     unfold j_
     induction z.cps.toList with
     |nil=>rfl
     |cons c r ih=>
      rw[AD,AD,AD,<-ih];show(Y.bl<|pS "a" ⟨#[c]⟩&&pS ⟨#[c]⟩ "z")::_=_;rw[Uj,Uk];rfl
    rw[el];refine⟨rfl,qb q9<|qj (bA _)<|bC (By hp) ?_⟩;have e:List.all (z.cps.toList.map Gh) id=mC z:=by unfold mC;rw[Ax (by lia:1<=z.length),Ax (by lia:z.length<=8),List.all_map];rfl
    rw[e];exact q
  ·refine I ?_;have o:¬(z.length:Int)<=8:=j;unfold mC;rw[Ar (by lia:¬z.length<=8)];simp
 ·refine I ?_;have l:¬(1:Int)<=z.length:=g;unfold mC;rw[Ar (by lia:¬1<=z.length)];simp
def jo(l:X2):Str:=⟨l.toArray⟩
def xj(x:Str):jo x.cps.toList=x:=by cases x;rfl
def xE(y:Str):Txt.split y " " = (Txs.spl 32 y.cps.toList).map jo:=by
 have h:=Txs.split_one y 32 (by decide);have e:(" " : Str)=⟨#[32]⟩:=by decide +kernel
 rw[e,<-h,BH]
 conv=>lhs;rw[<-List.map_id (Txt.split y ⟨#[32]⟩)]
 apply Dy;intro a _;exact(xj a).symm
def Ul(l:X2):decide (jo l=("" : Str))=l.isEmpty:=by
 cases l with
 |nil=>rfl
 |cons a r=>
  apply Ar;intro h;have:=Bs (λs:Str=>s.cps.size) h;have e:(jo<|a::r).cps.size=r.length+1:=by show(a::r).toArray.size=_;simp
  have I:(("" : Str)).cps.size=0:=rfl;simp only[e,I] at this;lia
def FC:Y->Option Y
 |.str s=>if s = "" then none else some (.str s)
 |_=>none
def Um(s:Str)(r:List Y):(Y.str s::r).filterMap FC=if s = "" then r.filterMap FC else .str s::r.filterMap FC:=by
 by_cases h:s = ""
 ·rw[List.filterMap_cons_none (by show(if s = "" then none else some (Y.str s))=none;rw[AF h]),AF h]
 ·rw[List.filterMap_cons_some (b:=.str s) (by show(if s = "" then none else some (Y.str s))=_;rw[AA h]),AA h]
def Uo(ls:List<|X2):((ls.map jo).map Y.str).filterMap FC=((ls.filter λw=>!w.isEmpty).map jo).map Y.str:=by
 induction ls with
 |nil=>rfl
 |cons l r J=>
  rw[AD,AD,Um,Cy,J];have I:=Ul l;cases l with
  |nil=>
   have h:jo [] = "" := by simpa using I
   rw[AF h];rfl
  |cons a U=>
   have h:¬jo (a::U) = "" := by simpa using I
   rw[AA h];rfl
def Uq{n:Str}(h:aF n):mC n=true:=by unfold mC;rw[Ax h.1,Ax h.2.1];simp only[Bool.and_self,Bool.true_and,BV];intro c I;obtain⟨J,U⟩:=h.2.2 c I;unfold Gh;rw[Ax J,Ax U];rfl
def yt{n:Str}(h:aF n):n.cps.all (· < 128)=true:=by rw[<-Array.all_toList,BV];intro c I;have:=(h.2.2 c I).2;exact Ax (by exact Qf)
theorem uB(c:Nat):∀(l w:X2),w∈Txs.spl c l->(∀x∈w,x∈l/\x≠c)/\w.length<=l.length
 |[],w,h=>by
  have:w=[]:=by simpa[Txs.spl] using h
  subst this;exact⟨λx I=>absurd I (by simp),Ak _⟩
 |d::r,w,h=>by
  by_cases e:d=c
  ·rw[Txs.spl_yes e] at h;rcases Ap.mp h with rfl|h
   ·exact⟨λx I=>absurd I (by simp),by simp⟩
   ·obtain⟨J,j⟩:=uB c r w h;exact⟨λx I=>⟨Af _ (J x I).1,(J x I).2⟩,by rw[Au];exact zF⟩
  ·obtain⟨g,t,q⟩:=Txs.spl_ex c r;rw[Txs.spl_no e q] at h;have U:=uB c r;rw[q] at U;rcases Ap.mp h with rfl|h
   ·obtain⟨J,j⟩:=U g<|Ao ..;refine⟨λx I=>?_,by rw[Au,Au];exact vB⟩;rcases Ap.mp I with rfl|I
    ·exact⟨Ao ..,e⟩
    ·exact⟨Af _ (J x I).1,(J x I).2⟩
   ·obtain⟨J,j⟩:=U w<|Af _ h;exact⟨λx I=>⟨Af _ (J x I).1,(J x I).2⟩,by rw[Au];exact zF⟩
def str_list{a b:Str}(h:a.cps.toList=b.cps.toList):a=b:=by apply Str.ext';exact CQ.mp h
def Ur(a b:Str):(a++b).cps.toList=a.cps.toList++b.cps.toList:=by rw[Str.cps_append,A8]
abbrev bl(n:Nat):X2:=List.replicate n 32
def aC(z p q:X2)(r:List<|X2):Txs.gl z (p::q::r)=p++(z++Txs.gl z (q::r)):=by show p++(q::r).flatMap (λq=>z++q)=p++(z++(q++r.flatMap λq=>z++q));rw[Bg,Aq]
def iq(z p:X2):Txs.gl z [p]=p:=by show p++([]:List<|X2).flatMap _=p;simp
theorem J9(z:X2)(M:Nat):∀ls:List (X2),(∀l∈ls,l.length<=M)->(Txs.gl z ls).length<=ls.length*(M+z.length)
 |[],_=>by simp[Txs.gl]
 |[p],h=>by have:=h p<|Ao ..;rw[iq];simp;lia
 |p::q::r,h=>by have J:=h p<|Ao ..;have U:=J9 z M (q::r) λl I=>h l<|Af _ I;rw[aC,Ac,Ac,Au,Nat.succ_mul];lia
theorem J'{z:X2}{c:Nat}:∀{ls:List<|X2},c∈Txs.gl z ls->c∈z\/∃l∈ls,c∈l
 |[],h=>by simp[Txs.gl] at h
 |[p],h=>by rw[iq] at h;exact .inr ⟨p,Ao ..,h⟩
 |p::q::r,h=>by
  rw[aC] at h;rcases An.mp h with h|h
  ·exact .inr ⟨p,Ao ..,h⟩
  ·rcases An.mp h with h|h
   ·exact .inl h
   ·rcases J' h with h|⟨l,I,h⟩
    ·exact .inl h
    ·exact .inr ⟨l,Af _ I,h⟩
def Ka(J:x5):RR "_law_flip" lB 1 ["_law_word_here"] ["_law_word_here","_law_sides"] J (λ_=>True):=⟨_,λV B c _ _ I _ _ _ _ _ _ U hN g=>(qa (S_ 1 hN<|Rr [ ("plain" ,"turned") ,("turned" ,"plain") ,("both" ,"either") ,("either" ,"both") ] (gN cH cH<|gN cH cH<|gN cH cH<|gN cH cH Pn) rfl rfl (List.cons_ne_nil _ _)<|Dl rfl)<|qa (ze (E_ g (L_ B.ba<|qv 0) qe) (qc<|qm<|zf<|v5 (I_ (qv 1)<|J_ 0)<|J_ 0) qt)<|qc<|qm<|zf<|ag (I_ (qv 1)<|J_ 0) (C_ I U<|zx<|J_ 0)<|C_ I U<|zx<|J_ 0)⟩
abbrev cD(i:Int):jp:=yC<|.int i
abbrev o_(x:Str):jp:=yC<|.str x
abbrev fg(i:Nat)(n:Int):jp:=a9 h_ (ql i)<|yC<|.int n
abbrev yP(i:Nat):jp:=rD E8<|qr (ql i) jn
abbrev e_(a b:jp):iT:=yB<|a9 (l_ false) a b
abbrev Kb(a b:jp):iT:=yB<|a9 (l_ true) a b
abbrev Hs(a b:jp):jp:=cX<|qr a<|qr b jn
abbrev ix(a:jp):ef:=qr a jn
abbrev gJ(a b:jp):ef:=qr a<|qr b jn
def Us(I:x5)(p1:x5):dR:=(xa (fO (e_ (yP 1)<|cD 2) (xa (aA<|lO jq (ql 0)<|qr (xw I<|ix<|ql 1) jn)
 (xa (aA<|lO jq (ql 0)<|ix<|ql 1)
 (oG<|gd<|qr (cX<|qr (o_ "link")<|qr (a9 yU (yP 0)<|cD 2)<|qr (a9 yU (yP 0)<|cD 1) jn)<|qr (a9 yU (yP 0)<|cD 2)<|qr (a9 yU (yP 0)<|cD 1) jn))) fT)
 (xa (vo (xw p1<|gJ (ql 0)<|fg 1 1)<|qp 2)
 (xa (vo (xw p1<|gJ (ql 0)<|fg 1 2)<|qp 3)
 (xa (aA<|lO jq (ql 0)<|qr (cX<|qr (a9 h_ (xw I<|ix<|ql 1)<|cD 0)<|gJ (fg 2 1)<|fg 3 1) jn)
 (xa (aA<|lO jq (ql 0)<|qr (cX<|qr (fg 1 0)<|gJ (fg 2 2)<|fg 3 2) jn)
 (xa (ID 4 5<|qr (a9 yU (yP 0)<|cD 2)<|qr (a9 yU (yP 0)<|cD 1) jn)
 (xa (vo (FT (e_ (fg 1 0)<|o_ "either") (ql 4)<|ql 5)<|qp 6)
 (xa (vo (FT (e_ (fg 1 0)<|o_ "either") (ql 5)<|ql 4)<|qp 7)
 (oG<|gd<|qr (cX<|qr (o_ "either")<|qr (ql 7)<|qr (cX<|qr (o_ "both")<|qr (ql 6)<|gJ (fg 2 0)<|fg 3 0) jn)<|gJ (ql 4)<|ql 5)))))))))
inductive Kn where
 |lf (t:Bool) (n:Str)|nd (e:Bool) (i j:Nat)
abbrev Yp:=Option Kn
abbrev Yo:=List Kn
def sC:Kn->Y
 |.lf t n=>.tup [.str<|kL t,.str n]
 |.nd e i j=>.tup [.str<|kN e,.int ((i:Nat):Int),.int ((j:Nat):Int)]
inductive Ru where
 |link (p q:Nat)|ei (r:Nat) (A:Ru)|bo (r:Nat) (A B:Ru)|cu (p q:Nat) (A B:Ru)
def je:Ru->Y
 |.link p q=>.tup [.str "link",.int ((p:Nat):Int),.int ((q:Nat):Int)]
 |.ei r A=>.tup [.str "either",.int ((r:Nat):Int),je A]
 |.bo r A B=>.tup [.str "both",.int ((r:Nat):Int),je A,je B]
 |.cu p q A B=>.tup [.str "cut",.int ((p:Nat):Int),.int ((q:Nat):Int),je A,je B]
def qy:Ru->X2
 |.link p q=>[p,q]
 |.ei r A=>r::qy A
 |.bo r A B=>r::(qy A++qy B)
 |.cu _ _ A B=>qy A++qy B
abbrev v9(ks:Yo):List Y:=ks.map sC
def cw(ks:Yo)(p:Nat)(w:Wd):Prop:=KW (v9 ks) p w
theorem cw.more{ks:Yo}{p:Nat}{w:Wd}(h:cw ks p w)(ms:Yo):cw (ks++ms) p w:=by unfold cw v9;rw[Aw];exact KW.more _ h
def aZ(ks:Yo):Prop:=∀(p:Nat) (k:Kn),ks[p]?=some k->match k with
 |.lf _ n=>aF n
 |.nd _ i j=>i<p/\j<p
def aZ.snoc{ks:Yo}{k:Kn}(h:aZ ks)(I:match k with|.lf _ n=>aF n|.nd _ i j=>i<ks.length/\j<ks.length):aZ (ks++[k]):=by
 intro p J e;by_cases c:p<ks.length
 ·rw[AC c] at e;exact h p J e
 ·rw[AI (by exact Fs)] at e;have U:p=ks.length:=by
   by_cases g:p-ks.length=0
   ·omega
   ·rw[Cb (by simp;exact Fq)] at e;cases e
  subst U;rw[CB] at e;cases e;exact I
def cf(l:List α)(x:α)(r:List α):(l++x::r)[l.length]?=some x:=by rw[AI<|Ak _,CB];rfl
def jY{l r:List α}{p:Nat}{x:α}(h:l[p]?=some x):(l++r)[p]?=some x:=by rw[AC (AM.mp h).1];exact h
inductive SR(ks:Yo):Ru->X2->Prop
 |link {p q:Nat} {t:Bool} {n:Str} {E:X2}:p<q->ks[p]?=some (.lf t n)->ks[q]?=some (.lf (!t) n)->(∀x,x∈E↔x=p\/x=q)->E.Nodup->SR ks (.link p q) E
 |ei {r i j:Nat} {A:Ru} {EA E:X2}:ks[r]?=some (.nd true i j)->SR ks A EA->i∈EA->j∈EA->i≠j->(∀x,x∈E↔(x∈EA/\x≠i/\x≠j)\/x=r)->E.Nodup->SR ks (.ei r A) E
 |bo {r i j:Nat} {A B:Ru} {EA EB E:X2}:ks[r]?=some (.nd false i j)->SR ks A EA->SR ks B EB->i∈EA->j∈EB->(∀x,x∈E↔(x∈EA/\x≠i)\/(x∈EB/\x≠j)\/x=r)->E.Nodup->SR ks (.bo r A B) E
 |cu {p q:Nat} {A B:Ru} {EA EB E:X2} {w:Wd}:SR ks A EA->SR ks B EB->p∈EA->q∈EB->cw ks p w->cw ks q w.turn->(∀x,x∈E↔(x∈EA/\x≠p)\/(x∈EB/\x≠q))->E.Nodup->SR ks (.cu p q A B) E
theorem SR.more{ks:Yo}{R:Ru}{E:X2}(h:SR ks R E)(ms:Yo):SR (ks++ms) R E:=by induction h with|link j r l I J=>exact .link j (jY r) (jY l) I J|ei j _ l I J o p t=>exact .ei (jY j) t l I J o p|bo j _ _ I J o p U g=>exact .bo (jY j) U g I J o p|cu _ _ l I J o p C U g=>exact .cu U g l I (J.more ms) (o.more ms) p C
def SR.sub{ks:Yo}{R:Ru}{E:X2}(h:SR ks R E):∀x∈E,x∈qy R:=by
 induction h with
 |link _ _ _ j _=>intro x I;rcases (j x).mp I with rfl|rfl<;>simp[qy]
 |ei _ _ _ _ _ g _ l=>intro x I;rcases (g x).mp I with⟨h,_⟩|rfl;exact Af _<|l x h;exact Ao ..
 |bo _ _ _ _ _ g _ J U=>
  intro x I;rcases (g x).mp I with⟨h,_⟩|⟨h,_⟩|rfl
  ·exact Af _<|Ay _<|J x h
  ·exact Af _<|Al _<|U x h
  ·exact Ao ..
 |cu _ _ _ _ _ _ o _ J U=>
  intro x I;rcases (o x).mp I with⟨h,_⟩|⟨h,_⟩
  ·exact Ay _<|J x h
  ·exact Al _<|U x h
inductive aB(n:Nat)(ys:List Y)(L:qi)(Q:YK):Prop
 |mk:∀wd,(ys=[ay wd])->(wd.depth<=n)->(Q (ay wd.turn) L)->aB n ys L Q
def Ut:∀ys L Q,¬aB 0 ys L Q:=by rintro ys L Q ⟨I,_,hd,_⟩;cases I<;>simp[Wd.depth] at hd
def xZ(t:Bool):aX ([(("plain" : Str),("turned" : Str)),("turned","plain"),("both","either"),("either","both")].map λp=>((Sum.inr p.1:ja),Y.str p.2)) (Sum.inr<|kL t)=some (.str<|kL<|!t):=kM<|r6 t
def yR(t:Bool):aX ([(("plain" : Str),("turned" : Str)),("turned","plain"),("both","either"),("either","both")].map λp=>((Sum.inr p.1:ja),Y.str p.2)) (Sum.inr<|kN t)=some (.str<|kN<|!t):=kM<|rW t
def Uu(n:Nat):∀ys L Q,aB (n+1) ys L Q->jf (Ka<|aB n).1 2 ys L Q:=by
 rintro ys L Q ⟨J,rfl,hd,q⟩;intro p I;cases J with
 |leaf t nm=>
  refine wz q9<|qj (xZ t) ?_;exact bC (By I) q
 |node e l r=>
  have U:max l.depth r.depth+1<=n+1:=hd;refine wz q9<|qj (yR e) ?_;refine⟨l,rfl,by lia,r,rfl,by lia,?_⟩;exact bC (By I) q
structure Fg(ks:Yo)(w:Wd)(ms:Yo)(R:Ru)(tp sp:Nat):Prop where
 len:ms.length=2*w.size
 sr:SR (ks++ms) R [tp,sp]
 wt:cw (ks++ms) tp w.turn
 ws:cw (ks++ms) sp w
 tm:∀x,x∈qy R↔ks.length<=x/\x<ks.length+ms.length
 nd:(qy R).Nodup
 ok:aZ (ks++ms)
def cw.leaf{ks:Yo}{p:Nat}{n:Str}(h:ks[p]?=some (.lf t n)):cw ks p (.leaf t n):=by show(v9 ks)[p]?=_;rw[Ai,h];rfl
def cw.node{ks:Yo}{p:Nat}{e:Bool}{l r:Wd}(h:ks[p]?=some (.nd e i j))(I:cw ks i l)(J:cw ks j r):cw ks p (.node e l r):=by refine⟨i,j,?_,I,J⟩;rw[Ai,h];rfl
abbrev EY:=@cw.node
def wW{ks:Yo}(g:aZ ks){n:Str}(I:aF n):Fg ks (.leaf t n) [.lf (!t) n,.lf t n] (.link ks.length<|ks.length+1) ks.length (ks.length+1):=by
 have J:(ks++[Kn.lf (!t) n,.lf t n])[ks.length]?=some (.lf (!t) n):=cf _ _ _;have U:(ks++[Kn.lf (!t) n,.lf t n])[ks.length+1]?=some (.lf t n):=by have:=cf (ks++[Kn.lf (!t) n]) (Kn.lf t n) [];rw[Ac,Aq] at this;exact this
 refine⟨rfl,.link (t:=!t) (n:=n) (by exact BE _) J (by rw[Bool.not_not];exact U) (by simp) (by simp),cw.leaf J,cw.leaf U,λx=>?_,by simp[qy],?_⟩
 ·show x∈[ks.length,ks.length+1]↔ks.length<=x/\x<ks.length+2;simp;lia
 ·have:=(g.snoc (k:=.lf (!t) n) I).snoc (k:=.lf t n) I;rw[Aq] at this;exact this
def SR.nod{ks:Yo}{R:Ru}{E:X2}(h:SR ks R E):E.Nodup:=by cases h<;>assumption
def Uv{x h lo a r N:Nat}(I:(h=N/\lo=N+1)\/(h=N+1/\lo=N))(hN:N=a+m+r):x=h\/x=lo\/(a<=x/\x<a+m)\/a+m<=x/\x<a+m+r↔a<=x/\x<N+2:=by subst hN;rcases I with⟨rfl,rfl⟩|⟨rfl,rfl⟩<;>lia
def Uw{x a b c N:Nat}(h:a≠b)(k:c≠d):x∈[b,d,N]↔(x∈[a,b]/\x≠a)\/(x∈[c,d]/\x≠c)\/x=N:=by simp only[Ap,Bh,or_false];lia
def Ux{x a b c N:Nat}(h:a≠b)(k:c≠d):x∈[a,c,N]↔(x∈[a,b]/\x≠b)\/(x∈[c,d]/\x≠d)\/x=N:=by simp only[Ap,Bh,or_false];lia
def Uy{x a b N M:Nat}(h:a<N)(k:b<N):x∈[N,M]↔(x∈[a,b,N]/\x≠a/\x≠b)\/x=M:=by simp only[Ap,Bh,or_false];lia
def Uz{x a b N M:Nat}(h:a<N)(k:b<N):x∈[M,N]↔(x∈[a,b,N]/\x≠a/\x≠b)\/x=M:=by simp only[Ap,Bh,or_false];lia
def Kc{a b N:Nat}(h:a<N)(k:b<N)(d:a≠b):[a,b,N].Nodup:=by rw[AH,AH];simp;lia
def UA{a r N t s u v:Nat}(I:a<=t/\t<a+m)(J:a<=s/\s<a+m)(b1:a+m<=u/\u<a+m+r)(b2:a+m<=v/\v<a+m+r)(hN:N=a+m+r):t<N/\s<N/\u<N/\v<N/\t≠u/\s≠v:=by lia
def Kd{h lo a r N:Nat}(I:(h=N/\lo=N+1)\/(h=N+1/\lo=N))(hN:N=a+m+r):¬(h=lo\/(a<=h/\h<a+m)\/a+m<=h/\h<a+m+r)/\¬((a<=lo/\lo<a+m)\/a+m<=lo/\lo<a+m+r):=by lia
def UB{x y a r:Nat}(h1:a<=x/\x<a+m)(h2:a+m<=y/\y<a+m+r)(e:x=y):False:=by lia
def UC{ks I g:Yo}{e:Bool}{l r:Wd}{A B:Ru}{tl J tr U:Nat}(p:Fg ks l I A tl J)(o:Fg (ks++I) r g B tr U){N:Nat}(hN:N=ks.length+(I++g).length):
 Fg ks (.node e l r) (I++g++[.nd (!e) tl tr,.nd e J U]) (.ei (if e=true then N+1 else N)<|.bo (if e=true then N else N+1) A B) N (N+1):=by
 have hA:∀x∈[tl,J],ks.length<=x/\x<ks.length+I.length:=λx T=>(p.tm x).mp<|p.sr.sub x T;have hB:∀x∈[tr,U],ks.length+I.length<=x/\x<ks.length+I.length+g.length:=λx T=>by have:=(o.tm x).mp<|o.sr.sub x T;rw[Ac] at this;exact this
 have a1:=hA tl (by simp);have a2:=hA J (by simp);have b1:=hB tr (by simp);have b2:=hB U (by simp);have nA:tl≠J:=by have:=p.sr.nod;simpa using this
 have nB:tr≠U:=by have:=o.sr.nod;simpa using this
 have t:N=ks.length+I.length+g.length:=by rw[hN,Ac];simp +arith only
 obtain⟨d1,d2,d3,d4,d5,d6⟩:=UA a1 a2 b1 b2 t;generalize j:ks++(I++g++[Kn.nd (!e) tl tr,.nd e J U])=K;have k1:K=(ks++I)++(g++[Kn.nd (!e) tl tr,.nd e J U]):=by rw[<-j];simp
 have k2:K=((ks++I)++g)++[Kn.nd (!e) tl tr,.nd e J U]:=by rw[<-j];simp
 have k3:K=(((ks++I)++g)++[Kn.nd (!e) tl tr])++[.nd e J U]:=by rw[<-j];simp
 have l2:((ks++I)++g).length=N:=by rw[Ac,Ac];lia
 have g1:K[N]?=some (.nd (!e) tl tr):=by rw[k2,<-l2];exact cf _ _ _
 have g2:K[N+1]?=some (.nd e J U):=by
  have l3:(((ks++I)++g)++[Kn.nd (!e) tl tr]).length=N+1:=by rw[Ac,l2];rfl
  rw[k3,<-l3];exact cf _ _ _
 have sA:SR K A [tl,J]:=by rw[k1];exact p.sr.more _
 have sB:SR K B [tr,U]:=by rw[k2];exact o.sr.more _
 have a0:aZ K:=by have o1:=o.ok.snoc (k:=.nd (!e) tl tr) (by show tl<((ks++I)++g).length/\tr<((ks++I)++g).length;rw[l2];exact⟨d1,d3⟩);have o2:=o1.snoc (k:=.nd e J U) (by show J<_/\U<_;rw[Ac,l2];exact⟨Cm d2,Cm d4⟩);rw[k3];exact o2
 have tA:=p.tm;have tB:=o.tm;rw[Ac] at tB;have wt:cw K N (Wd.node e l r).turn:=EY g1 (by rw[k1];exact p.wt.more _) (by rw[k2];exact o.wt.more _);have a3:cw K (N+1) (Wd.node e l r):=EY g2 (by rw[k1];exact p.ws.more _) (by rw[k2];exact o.ws.more _);have C:(I++g++[Kn.nd (!e) tl tr,.nd e J U]).length=2*(Wd.node e l r).size:=by have h1:=p.len;have h2:=o.len;show _=2*(1+l.size+r.size);rw[Ac,Ac];simp;lia
 have lt:ks.length+(I++g++[Kn.nd (!e) tl tr,.nd e J U]).length=N+2:=by rw[Ac];simp[hN];rfl
 have tt:∀h lo:Nat,(h=N/\lo=N+1)\/(h=N+1/\lo=N)->(∀x,x∈qy (.ei h<|.bo lo A B)↔ks.length<=x/\x<ks.length+(I++g++[Kn.nd (!e) tl tr,.nd e J U]).length)/\(qy<|.ei h<|.bo lo A B).Nodup:=by
  intro h lo hh;constructor
  ·intro x;rw[lt];show x∈h::lo::(qy A++qy B)↔_;rw[Ap,Ap,An,tA,tB];exact Uv hh t
  ·show(h::lo::(qy A++qy B)).Nodup;rw[AH,AH,Az];refine⟨?_,?_,p.nd,o.nd,λx T y hy e=>?_⟩
   ·rw[Ap,An,tA,tB];exact(Kd hh t).1
   ·rw[An,tA,tB];exact(Kd hh t).2
   ·exact UB ((tA x).mp T) ((tB y).mp hy) e
 cases e with
 |true=>
  have s1:SR K (.bo N A B) [J,U,N]:=by exact .bo g1 sA sB (by simp) (by simp) (λx=>Uw nA nB)<|Kc d2 d4 d6
  have s2:SR K (.ei (N+1)<|.bo N A B) [N,N+1]:=by exact .ei g2 s1 (by simp) (by simp) d6 (λx=>Uy d2 d4) (by simp)
  obtain⟨t1,t2⟩:=tt (N+1) N<|.inr ⟨rfl,rfl⟩;exact⟨C,by rw[j];exact s2,by rw[j];exact wt,by rw[j];exact a3,t1,t2,by rw[j];exact a0⟩
 |false=>
  have s1:SR K (.bo (N+1) A B) [tl,tr,N+1]:=by exact .bo g2 sA sB (by simp) (by simp) (λx=>Ux nA nB)<|Kc (Cm d1) (Cm d3) d5
  have s2:SR K (.ei N<|.bo (N+1) A B) [N,N+1]:=by exact .ei g1 s1 (by simp) (by simp) d5 (λx=>Uz (Cm d1)<|Cm d3) (by simp)
  obtain⟨t1,t2⟩:=tt N (N+1)<|.inl ⟨rfl,rfl⟩;exact⟨C,by rw[j];exact s2,by rw[j];exact wt,by rw[j];exact a3,t1,t2,by rw[j];exact a0⟩
inductive aO(n:Nat)(ys:List Y)(L:qi)(Q:YK):Prop
 |mk:∀a,∀ks:Yo,∀w:Wd,(ys=[.ref a,ay w])->(L a=some (.lst<|v9 ks))->(w.depth<=n)->(n<=120)->(w.ok)->(aZ ks)->(ks.length+2*w.size<=10000)->(∀ms R tp sp p,L p=none->Fg ks w ms R tp sp->Q (.ref p) (qg (qg L a<|.lst<|v9<|ks++ms) p<|.lst [je R,.int ((tp:Nat):Int),.int ((sp:Nat):Int)]))->aO n ys L Q
def UD:∀ys L Q,¬aO 0 ys L Q:=by rintro ys L Q ⟨a,J,I,_,_,hd,_⟩;cases I<;>simp[Wd.depth] at hd
def Ke{a p:Addr}{o x y:LO}(J:L a=some o)(I:L p=none):qg (qg L a x) p y a=some x/\qg (qg L a x) p y p=some y/\∀b u,b≠a->L b=some u->qg (qg L a x) p y b=some u:=
 ⟨(qd<|vt J I).trans q9,q9,λ_ _ n e=>(qd<|vt e I).trans<|(qd n).trans e⟩
def um{a p:Addr}{o x:LO}(J:L a=some o)(I:qg L a x p=none):L p=none:=by
 have:p≠a:=λe=>by rw[e,q9] at I;cases I
 rw[qd this] at I;exact I
def a_:∀m:Nat,m<=20000->m<sizeLine:=λm h=>AW h (by decide)
def UE{FS:x5}(hF:∀ys L Q,aB 120 ys L Q->FS ys L Q)(n:Nat):∀ys L Q,aO (n+1) ys L Q->jf (Us FS<|aO n) 8 ys L Q:=by
 rintro ys L Q ⟨a,I,w,rfl,ha,hd,hn,T,hk,hb,q⟩;have big:=a_;cases w with
 |leaf t nm=>
  have hb:I.length+2*1<=10000:=hb;refine qb ha (hF _ _ _ ⟨.leaf t nm,rfl,by exact B3 _,qh ha ⟨big _ (by rw[Ab];lia),?_⟩⟩);refine qb q9 (qh q9 ⟨big _ (by rw[Ac,Ab];simp;lia),?_⟩);rw[vi];obtain⟨W,j⟩:∃W,W=v9 (I++[Kn.lf (!t) nm,.lf t nm]):=⟨_,rfl⟩;have e1:(v9 I++[ay (Wd.leaf t nm).turn])++[ay<|.leaf t nm]=W:=by rw[j];unfold v9;rw[Aw,Aq];rfl
  have e2:W.length=I.length+2:=by rw[j,Ab,Ac];rfl
  have i1:((W.length:Nat):Int)-2=((I.length:Nat):Int):=by rw[e2];lia
  have i2:((W.length:Nat):Int)-1=((I.length+1:Nat):Int):=by rw[e2];lia
  have ac:(v9 I++[ay (Wd.leaf t nm).turn])++[.tup [.str<|kL t,.str nm]]=W:=e1
  first|rw[e1]|rw[ac]
  refine qb q9<|qb q9<|qb q9<|qb q9 λp J=>?_;have np:L p=none:=um ha J;have:=q _ _ _ _ p np<|wW hk T;rw[<-j] at this;show bM Q (.ref p) (qg _ p<|.lst [.tup [.str "link",.int<|((W.length:Nat):Int)-2,.int<|((W.length:Nat):Int)-1],.int<|((W.length:Nat):Int)-2,.int<|((W.length:Nat):Int)-1]);rw[i1,i2];exact jw this
 |node e l r=>
  have aL:max l.depth r.depth+1<=n+1:=hd;have hb:I.length+2*(1+l.size+r.size)<=10000:=hb;refine⟨a,I,l,rfl,ha,by lia,by exact gc,T.1,hk,by lia,λU A tl sl p1 a4 ML=>?_⟩;obtain⟨g,g1,o1⟩:=Ke (x:=.lst<|v9<|I++U) (y:=.lst [je A,.int ((tl:Nat):Int),.int ((sl:Nat):Int)]) ha a4;have a5:p1≠a:=AN<|vt ha a4;have ba:=ML.len;generalize qg (qg L a<|.lst<|v9<|I++U) p1 _=L1 at g g1 o1 ⊢;refine⟨a,I++U,r,rfl,g,by lia,by exact gc,T.2,ML.ok,by rw[Ac];lia,λC B tr sr p2 ab MR=>?_⟩;obtain⟨a0,h2,o2⟩:=Ke (x:=.lst<|v9<|(I++U)++C) (y:=.lst [je B,.int ((tr:Nat):Int),.int ((sr:Nat):Int)]) g ab;have al:p2≠a:=AN<|vt g ab;have h1:=o2 _ _ a5 g1;have bb:=MR.len;generalize qg (qg L1 a<|.lst<|v9<|(I++U)++C) p2 _=L2 at a0 h1 h2 o2 ⊢;have bc:(v9<|(I++U)++C).length=I.length+U.length+C.length:=by rw[Ab,Ac,Ac]
  refine qb a0 (hF _ _ _ ⟨.node e l r,rfl,by show max l.depth r.depth+1<=120;exact Fp,qb h1<|qb h2<|qh a0 ⟨big _ (by lia),?_⟩⟩);have a1:=λo=>(qd (L:=L2) (o:=o) a5).trans h1;have a2:=λo=>(qd (L:=L2) (o:=o) al).trans h2;refine qb q9 (qb (a1 _) (qb (a2 _) (qh q9 ⟨big _ (by rw[Ac];simp;lia),?_⟩)));rw[vi];obtain⟨N,hN⟩:∃N,N=I.length+(U++C).length:=⟨_,rfl⟩;have M:=UC (e:=e) ML MR hN;obtain⟨W,j⟩:∃W,W=v9 (I++(U++C++[.nd (!e) tl tr,.nd e sl sr])):=⟨_,rfl⟩;have e1:(v9 ((I++U)++C)++[.tup [.str<|kN<|!e,.int ((tl:Nat):Int),.int ((tr:Nat):Int)]])++[.tup [.str<|kN e,.int ((sl:Nat):Int),.int ((sr:Nat):Int)]]=W:=by rw[j];unfold v9;simp[sC]
  rw[e1];have lN:W.length=N+2:=by rw[j,Ab,Ac,Ac,hN];simp;rfl
  have i1:((W.length:Nat):Int)-2=((N:Nat):Int):=by rw[lN];lia
  have i2:((W.length:Nat):Int)-1=((N+1:Nat):Int):=by rw[lN];lia
  refine qb q9<|qb q9 ?_;have done:∀p,qg L2 a (.lst W) p=none->∀R,Fg I (.node e l r) (U++C++[Kn.nd (!e) tl tr,.nd e sl sr]) R N (N+1)->
   bM Q (.ref p) (qg (qg L2 a<|.lst W) p<|.lst [je R,.int ((N:Nat):Int),.int ((N+1:Nat):Int)]):=λp J R MM=>by
   have a3:p≠a:=λz=>by rw[z,q9] at J;cases J
   rw[qd a3] at J;have np:L p=none:=by cases z:L p with|none=>rfl|some o=>rw[o2 p o a3<|o1 p o a3 z] at J;cases J
   refine bC ?_<|q _ _ _ _ p np MM;rw[<-j];intro b o z;by_cases c1:b=p
   ·subst c1;rw[q9] at z ⊢;exact z
   ·rw[qd c1] at z ⊢;by_cases c2:b=a
    ·subst c2;rw[q9] at z ⊢;exact z
    ·rw[qd c2] at z ⊢;exact o2 b o c2<|o1 b o c2 z
  clear j e1;cases e with
  |true=>
   walk_at "w";refine qb (a1 _)<|qb (a2 _) λp J=>?_;show bM Q (.ref p) (qg _ p<|.lst [.tup [.str "either",.int<|((W.length:Nat):Int)-1,.tup [.str "both",.int<|((W.length:Nat):Int)-2,je A,je B]],.int<|((W.length:Nat):Int)-2,.int<|((W.length:Nat):Int)-1]);rw[i1,i2];exact done p J _ M
  |false=>
   walk_at "w";refine qb (a1 _)<|qb (a2 _) λp J=>?_;show bM Q (.ref p) (qg _ p<|.lst [.tup [.str "either",.int<|((W.length:Nat):Int)-2,.tup [.str "both",.int<|((W.length:Nat):Int)-1,je A,je B]],.int<|((W.length:Nat):Int)-2,.int<|((W.length:Nat):Int)-1]);rw[i1,i2];exact done p J _ M
end L3
variable {R:L3.Ru}{ks ms:List L3.Kn}{eA wd:List<|Option L3.Kn}
namespace L3
open PySem L2 Words
def o7(I:x5):RD "parts_of" nL 1 ["knot"] (λV=>Ff V I):=⟨_,λV B c _ _ _ _ _ _ _ J hN U=>(qa (ze (vn<|im (nS<|qv 0)<|cg<|xh<|C_ c J<|zx<|qv 0) (qc<|qm<|zc x9) qt)<|qc<|qm<|zc<|v5 (J_ 0)<|J_ 0)⟩
def lL:RD "places_in" kQ 0 ["pairs","places","p","q"] (λ_=>True):=⟨_,λV B c _ _ _ _ _ _ _ I hN J=>(qa (S_ 1 hN<|zc x9)<|qa (vv xT rfl (j9<|qv 0) (vz (n:=2) rfl<|qz (G_ 2 hN)<|qz (G_ 3 hN) x4)<|qa (qw<|qx (qv 1)<|zx<|qv 2)<|qc<|qw<|qx (qv 1)<|zx<|qv 3)<|qc<|qm<|qv 1)⟩
def fP:Yp->Y
 |none=>.non
 |some k=>sC k
abbrev xz(ks:List<|Yp):List Y:=ks.map fP
def jg:Yp->X2
 |some (.nd _ i j)=>[i,j]
 |_=>[]
inductive eQ(ys:List Y)(L:qi)(Q:YK):Prop
 |mk:∀k:Yp,(ys=[fP k])->(∀p,L p=none->Q (.ref p) (qg L p<|.lst<|nY<|jg k))->eQ ys L Q
def UF:∀ys L Q,eQ ys L Q->jf (o7 kw).1 1 ys L Q:=by
 rintro ys L Q ⟨k,rfl,q⟩;cases k with
 |none=>exactλp I=>jw<|q p I
 |some k=>
  cases k with|lf t n=>exact⟨true,t,_,rfl,λp I=>jw<|q p I⟩|nd e i j=>exact⟨false,e,_,rfl,λp I=>jw<|q p I⟩
def uj(f:Yp->Bool)(ks:List<|Yp)(i:Nat):X2:=(List.range i).filter λp=>match ks[p]? with
 |some k=>f k
 |none=>false
def wR{f:Yp->Bool}{ks:List<|Yp}{k:Yp}(h:ks[i]?=some k):uj f ks (i+1)=uj f ks i++if f k=true then [i] else []:=by unfold uj;rw[List.range_succ,BB];congr 1;rw[Cy];simp only[h,C1]
def UG{f:Yp->Bool}{ks:List<|Yp}{p:Nat}(h:p∈uj f ks i):p<i/\∃k,ks[p]?=some k/\f k=true:=by
 unfold uj at h;obtain⟨J,I⟩:=AR.mp h;refine⟨A2.mp J,?_⟩;split at I
 ·rename_i k e;exact⟨k,e,I⟩
 ·cases I
def fv:Yp->Bool
 |some _=>true
 |none=>false
def UH(e:Bool):Yp->Bool
 |some (.nd I _ _)=>decide<|I=e
 |_=>false
def dy(a b:X2):nY (a++b)=nY a++nY b:=by unfold nY;rw[Aw]
def Kf{hs:X2}(h:(nY hs)[i]?=some y):∃n,hs[i]?=some n/\y=.int (n:Int):=by unfold nY at h;rw[Ai] at h;obtain⟨n,I,J⟩:=Am.mp h;exact⟨n,I,J.symm⟩
def UI{f:Yp->Bool}{ks:List<|Yp}{keep:qi->Prop}{Q:YK}(hz:ks.length<=1000)(j:keep L)
 (turn:∀(i:Nat) (k:Yp) (R:List Y->qi->Prop) zs,ks[i]?=some k->(f k=true->R (zs++[.int (i:Int)]) L)->(f k=false->R zs L)->g (.tup [.int (i:Nat),fP k]) (τ++List.replicate 2 none) L λI L2=>tc I L2 λb L3=>wb b (te I L3 λz l=>R (zs++[z]) l)<|R zs L3)
 (o:∀p,L p=none->Q (.ref p) (qg L p<|.lst<|nY<|uj f ks ks.length)):yb (om<|xz ks) keep 2 g tc te τ L Q:=by
 refine wf (λi zs=>zs=nY (uj f ks i)) (by rw[ky,Ab];exact AW hz (by decide)) j rfl ?_ ?_
 ·rintro i y zs r rfl;obtain⟨z,U,rfl⟩:=aT r;rw[Ai] at U;obtain⟨k,J,rfl⟩:=Am.mp U;refine turn i k _ _ J (λh=>⟨L,EC _,rfl,?_⟩) λh=>⟨L,EC _,rfl,?_⟩
  ·rw[wR J,AF h,dy];rfl
  ·rw[wR J,AA (by rw[h];exact AL),AG]
 ·rintro zs rfl;rw[ky,Ab];exact o
abbrev fJ(a l c:Addr):Y:=.tup [.ref a,.ref l,.ref c]
def UJ(a b:Nat):min (a:Int) (b:Int)=((min a b:Nat):Int):=by omega
def UK(a b:Nat):max (a:Int) (b:Int)=((max a b:Nat):Int):=by omega
def qP(p:Yb):Y:=.tup [.int ((p.1:Nat):Int),.int ((p.2:Nat):Int)]
abbrev z9(l:XX):List Y:=l.map qP
def fD(k:Yp):(jg k).length<=2:=by unfold jg;split<;>simp
end L3
namespace TS
open PySem PyProof.Rows PySem.W PySem.Calls
section
variable {w:Yg}
abbrev keyBody(kx px:Str)(p1 p2 p3 p4 p5:Pos)(n:Nat):Expr:=.Tuple [.Subscript (.Name kx p1) (.Name px p2) p3,.Name px p4] n p5
structure oM(h:Yh)(f:Addr)(kx px:Str)(scope:Scope)(kvs:XZ):Prop where
 ex:∃(name eK:Str) (params:Arguments) (p1 p2 p3 p4 p5:Pos) (n:Nat) (pm ctv:Yc) (c' cell k:Addr),h.get? f=some (kla_obj name eK params (keyBody kx px p1 p2 p3 p4 p5 n) scope [(kx,cell)] pm c' ctv)/\h.CodeRec (.ref c') eK/\
  h.IsCell cell (some<|.ref k)/\h.IsList k kvs.toArray/\∀v:Yc,bindArgs (kla_fn name eK params (keyBody kx px p1 p2 p3 p4 p5 n) scope [(kx,cell)] pm (.ref c') ctv) ⟨[v],[]⟩=pure [(px,v)]
 lim:h.NoLimit
structure KeySc(scope:Scope)(kx px:Str):Prop where
 kind:scope.kind=.function
 co:scope.isCoroutine=false
 gen:scope.isGenerator=false
 nc:∀x∈scope.names,x.2≠.cell
 lp:scope.names.lookup px=some .local
 lk:scope.names.lookup kx=some .free
 d1:(kx==("__debug__" : Str))=false
 d2:(px==("__debug__" : Str))=false
 d3:(kx==("__classdict__" : Str))=false
theorem oM.keeps{kvs:XZ}(k:oM h f kx px scope kvs)(J:∀b o,h.get? b=some o->h'.get? b=some o):oM h' f kx px scope kvs:=by
 obtain⟨name,U,I,p,r,t,C,T,n,pm,l,c',cell,kk,g1,g2,g3,g4,g5⟩:=k.ex;refine⟨⟨name,U,I,p,r,t,C,T,n,pm,l,c',cell,kk,J _ _ g1,?_,?_,?_,g5⟩,k.lim.keeps J⟩
 ·obtain⟨c,oc,vs,tq,g,j,e3⟩:=g2;exact⟨c,oc,vs,tq,g,J _ _ j,e3⟩
 ·obtain⟨o,g,j⟩:=g3;exact⟨o,J _ _ g,j⟩
 ·obtain⟨o,g,j⟩:=g4;exact⟨o,J _ _ g,j⟩
def UL{kvs:XZ}{u t:Tok}{r:Int}(K:oM s.heap f kx px scope kvs)(S:KeySc scope kx px)(U:A.depth<recursionLimit)(hi:kvs[i]?=some (.int r t))(a0:i<2 ^ 40)
 (h:∀h' tk a,(∀b o,s.heap.get? b=some o->h'.get? b=some o)->h'.get? a=some {cls:=.type "tuple",data:=.seq #[.int r t,.int (i:Int) u]}->Q (.ref a) {s with heap:=h',toks:=tk}):
 wpAny (model prog w) A (call (.ref f) [.int (i:Int) u]) Q E s:=by
 obtain⟨name,I,l,p1,p2,p3,p4,p5,n,pm,a1,p,cell,kk,g1,g2,g3,g4,g5⟩:=K.ex;refine wpAny_call<|kla_callFunE U g1 rfl S.co S.gen rfl g2 ?_;rw[g5];refine Aj (wpAny_newFunctionEnv S.nc (λx hx=>by rw[Av.mp hx];exact S.lp) (λJ g j=>⟨K.lim.fresh _ j,?_⟩) S.kind);have C:∀b o,s.heap.get? b=some o->J.get? b=some o:=λb o e=>j.extBut b o (A9<|wh e)<|vc _ e;show codeAny _ _ (.expr _<|envX I scope s.heap.objs.size f (.ref p) [(kx,cell)]) _ _;refine kla_codeExpr ?_;have look:(([(px,Value.int (i:Int) u)]:List<|Str×Yc).reverse.lookup px)=some (.int (i:Int) u):=by simp
 have kf:(envX I scope s.heap.objs.size f (.ref p) [(kx,cell)]).kindOf kx=some .free:=S.lk;have kp:(envX I scope s.heap.objs.size f (.ref p) [(kx,cell)]).kindOf px=some .local:=S.lp;have cl:(envX I scope s.heap.objs.size f (.ref p) [(kx,cell)]).cells.lookup kx=some cell:=by show([(kx,cell)]:List<|Str×Addr).lookup kx=_;simp
 have ic:J.IsCell cell (some<|.ref kk):=by obtain⟨o,T,e2⟩:=g3;exact⟨o,C _ _ T,e2⟩
 have il:J.IsList kk kvs.toArray:=by obtain⟨o,T,e2⟩:=g4;exact⟨o,C _ _ T,e2⟩
 refine wpAny_Tuple_spliced<|yp<|Subscript_<|wpAny_Name (wpAny_loadName_free S.kind kf cl ic (wpAny_Name (wpAny_loadName_local S.kind kp g look ?_) S.d2) S.d3) S.d1;refine item_listL il (by exact A6 _) (by omega) (by rw[show((i:Nat):Int).toNat=i from rfl];exact hi) ?_;refine yp<|wpAny_Name (wpAny_loadName_local S.kind kp g look ?_) S.d2;refine DT ⟨by show 2<=sizeLine;decide,?_⟩;exact h _ _ _ (λb o e=>vc _<|C b o e)<|wn _ rfl
end
def itV(x:Nat×Tok):Yc:=.int (x.1:Int) x.2
def Ht(h:Yh)(kS:Addr)(rk:Nat->Int)(k:Yc)(x:Nat×Tok):Prop:=∃a t u,k=.ref a/\a≠kS/\h.get? a=some {cls:=.type "tuple",data:=.seq #[.int (rk x.1) t,.int (x.1:Int) u]}
def lJ(h:Yh)(kS:Addr)(rk:Nat->Int):XZ->List (Nat×Tok)->Prop
 |[],[]=>True
 |k::ks,x::xs=>Ht h kS rk k x/\lJ h kS rk ks xs
 |_,_=>False
theorem lJ.len{h:Yh}{kS:Addr}{rk:Nat->Int}:∀{ks:XZ} {xs:List<|Nat×Tok},lJ h kS rk ks xs->ks.length=xs.length
 |[],[],_=>rfl
 |_::_,_::_,⟨_,b⟩=>by rw[Au,Au,lJ.len b]
 |[],_::_,z=>z.elim
 |_::_,[],z=>z.elim
theorem lJ.mem{h:Yh}{kS:Addr}{rk:Nat->Int}:∀{ks:XZ} {xs:List<|Nat×Tok},lJ h kS rk ks xs->∀t∈ks.zip xs,Ht h kS rk t.1 t.2
 |[],[],_,t,I=>by cases I
 |_::_,_::_,⟨a,b⟩,t,I=>by
  rw[DF] at I;rcases Ap.mp I with rfl|I
  ·exact a
  ·exact lJ.mem b t I
 |[],_::_,z,_,_=>z.elim
 |_::_,[],z,_,_=>z.elim
section
variable {w:Yg}
theorem Kg{g:Yh}{f:Addr}{kx px:Str}{scope:Scope}{kvs:XZ}{kS:Addr}{rk:Nat->Int}{body:Yc->PUnit->Sem (ForInStep PUnit)}(K:oM g f kx px scope kvs)(S:KeySc scope kx px)(I:A.depth<recursionLimit)(hn:g.get? kS=none)
 (hb:∀(x:Yc) (s:Yd) (Q':ForInStep PUnit->Yd->Prop),wpAny (model prog w) A (call (.ref f) [x]) (λk s'=>wpAny (model prog w) A (Builtin.List.listUpdate (.ref kS) (·.push k)) (λ_ T=>Q' (.yield ⟨⟩) T) E s') (λ_ _=>False) s->wpAny (model prog w) A (body x ⟨⟩) Q' E s):
 ∀(ps:List<|Nat×Tok) (ks:XZ) (e:Nat) (s:Yd) (Q:PUnit->Yd->Prop),(∀b o,g.get? b=some o->s.heap.get? b=some o)->s.heap.get? kS=some (seqObj "list" ks.toArray e)->ks.length+ps.length<=100000->
  (∀x∈ps,x.1<2 ^ 40/\∃t,kvs[x.1]?=some (.int (rk x.1) t))->
  (∀h' tk j e',(∀b o,b≠kS->s.heap.get? b=some o->h'.get? b=some o)->h'.get? kS=some (seqObj "list" (ks++j).toArray e')->lJ h' kS rk j ps->Q ⟨⟩ {s with heap:=h',toks:=tk})->
  wpAny (model prog w) A (forIn (ps.map itV) PUnit.unit body) Q E s
 |[],ks,e,s,Q,hg,hk,hz,hp,q=>by rw[CA,Ep];exact Aj (q s.heap s.toks [] e (λ_ _ _ h=>h) (by rw[AG];exact hk) trivial)
 |x::r,ks,e,s,Q,hg,hk,hz,hp,q=>by
  rw[AD,Ce];rw[Au] at hz;obtain⟨a0,t,ht⟩:=hp x<|Ao ..;have big:(100000:Nat)+1<=sizeLine:=by rw[sizeLine_eq];exact C0 _ _
  refine Aa<|hb (itV x) s _<|UL (K.keeps hg) S I ht a0 λl p a k1 ha=>?_;have J:l.get? kS=some (seqObj "list" ks.toArray e):=k1 _ _ hk;have s1:=ya l kS (Obj.mapSeq (·.push (.ref a)));have ea:ks.toArray.push (.ref a)=List.toArray (ks++[.ref a]):=by simp
  obtain⟨c2,a1⟩:∃c2,(l.update kS (Obj.mapSeq (·.push (.ref a)))).get? kS=some (seqObj "list" (List.toArray<|ks++[.ref a]) c2):=⟨_,by rw[<-ea];exact get?_update_seq J (·.push (.ref a))⟩;have C:a≠kS:=λz=>by
   rw[z,J] at ha;have:=Bs (λo:Option Obj=>o.map (·.cls)) ha;have z2:some (Value.type "list")=some (Value.type "tuple"):=this;injection z2 with z3
   injection z3 with z4
   exact absurd z4 (by decide)
  refine listUpdate_at (s:={s with heap:=l,toks:=p}) J rfl ?_ (by rw[As];lia) (AE (Nat.le_of_eq<|Bl ..) (by rw[As];lia));refine Kg K S I hn hb r (ks++[.ref a]) c2 {s with heap:=l.update kS (Obj.mapSeq (·.push (.ref a))),toks:=p} Q (λb o e=>?_) a1 (by rw[Ac,BU];lia) (λy hy=>hp y<|Af _ hy) λh' tk j e' kk a2 vs=>?_
  ·have nb:b≠kS:=λz=>by rw[z,hn] at e;cases e
   exact(s1.2 b nb).trans (k1 b o<|hg b o e)
  ·have U:∀b o,b≠kS->l.get? b=some o->h'.get? b=some o:=λb o nb e=>kk b o nb<|(s1.2 b nb).trans e;refine q h' tk (.ref a::j) e' (λb o nb e=>U b o nb<|k1 b o e) (by rw[a2,Aq];rfl) ⟨⟨a,t,x.2,rfl,C,U a _ C ha⟩,vs⟩
end
section
variable {w:Yg}
def UM{g:Yh}{kvs:XZ}{kS a:Addr}{rk:Nat->Int}{ps:List<|Nat×Tok}{e1 e0:Nat}{B:Int}{P:PySem.Fin->Yd->Prop}(K:oM g f kx px scope kvs)(S:KeySc scope kx px)(I:A.depth<recursionLimit)(hn:g.get? kS=none)
 (hg:∀b o,g.get? b=some o->s.heap.get? b=some o) (hk:s.heap.get? kS=some (seqObj "list" #[] e0)) (ha:s.heap.get? a=some (seqObj "list" #[] e1)) (l:kS≠a) (hz:ps.length<=127)
 (hp:∀x∈ps,x.1<2 ^ 40/\∃t,kvs[x.1]?=some (.int (rk x.1) t)) (hB:∀x∈ps,((x.1:Nat):Int)<B) (nd:(ps.map (·.1)).Nodup)
 (h:∀h' tk (qs:List<|Nat×Tok) c,(∀b o,b≠kS->b≠a->s.heap.get? b=some o->h'.get? b=some o)->h'.get? a=some (seqObj "list" (qs.map itV).toArray c)->qs.Perm ps->(qs.Pairwise λx y=>rk x.1*B+(x.1:Int)<=rk y.1*B+(y.1:Int))->P (.done<|.ret .none) {s with heap:=h',toks:=tk}):
 wpAny (model prog w) A (ksk_rest a (.ref f) false (ps.map itV).toArray e1<|.ref kS) P E s:=by
 have big:(100000:Nat)+1<=sizeLine:=by rw[sizeLine_eq];exact C0 _ _
 unfold ksk_rest;refine Aa<|Bt ?_;rw[List.forIn_toArray];refine Aa (Kg (rk:=rk) K S I hn (λx s' Q' hx=>?_) ps [] e0 s _ hg hk (by simp;lia) hp λh' tk ks e' keep J kv=>?_)
 ·refine Aa (wpAny_attempt<|A4 hx (λk a4 hk=>?_) λ_ _ hF=>hF.elim)
  try dsimp only
  exact Aa<|A4 hk (λ_ s3 q=>Aj q) λ_ _ e=>e
 ·try dsimp only
  rw[BZ] at J;refine Aa<|listItems_at (s:={s with heap:=h',toks:=tk}) J rfl ?_;have a0:h'.get? a=some (seqObj "list" #[] e1):=keep _ _ (AN l) ha;have len:ks.length=ps.length:=kv.len;obtain⟨T,C⟩:∃T,T=ks.zip ps:=⟨_,rfl⟩;have kT:∀t∈T,Ht h' kS rk t.1 t.2:=λt p=>kv.mem t<|C▸p;have e2:T.map (·.2)=ps:=by rw[C];exact List.map_snd_zip (by lia)
  have ez:ks.zip (ps.map itV)=T.map λt=>(t.1,itV t.2):=by rw[C,List.zip_map_right];rfl
  have mp:∀t∈T,t.2∈ps:=λt p=>by rw[<-e2];exact CV p
  have nT:∀t∈T,num h' B (t.1,itV t.2)=rk t.2.1*B+(t.2.1:Int):=λt p=>by obtain⟨b,tt,u,r,x2,x3⟩:=kT t p;exact num_of r x3 rfl
  have a5:∀x∈ps,(0:Int)<=((x.1:Nat):Int):=λ_ _=>by exact A6 _
  refine T4 (s:={s with heap:=h',toks:=tk}) (vs:=ps.map itV) (ks:=ks) (B:=B) J a0 l (by rw[Ab];exact len) (by rw[Ab];exact hz) (λv hv=>?_) λh2 a1 xs c U hc pm pw=>?_
  ·obtain⟨j,hj⟩:=Dt hv;have a2:j<ps.length:=by rw[<-len];exact(AM.mp hj).1
   have hm:(v,ps[j])∈T:=by rw[C];refine List.mem_iff_getElem?.mpr ⟨j,?_⟩;rw[List.getElem?_zip_eq_some];exact⟨hj,Ag a2⟩
   obtain⟨b,tt,u,r,x2,x3⟩:=kT _ hm;have r:v=.ref b:=r;exact⟨b,_,_,_,_,tt,u,r,x3,rfl,rfl,by exact A6 _,hB _<|mp _ hm⟩
  ·rw[ez] at pm;obtain⟨T',pT,a3⟩:=permLift _ pm rfl;subst a3;have mT:∀t,t∈T'->t∈T:=λt=>pT.mem_iff.mp;refine h h2 a1 (T'.map (·.2)) c (λb o n1 n2 e=>?_) ?_ ?_ ?_
   ·rw[U b n1 n2];exact keep b o n1 e
   ·rw[hc,BH,BH];rfl
   ·rw[<-e2];exact pT.map _
   ·refine BN.mpr<|DS (λ{x y} hx hy z=>?_)<|BN.mp pw;rw[nT x<|mT x hx,nT y<|mT y hy] at z;exact z
def w_sortedK{l:Addr}{kvs:XZ}{rk:Nat->Int}{ps:List<|Nat×Tok}{B:Int}(K:oM s.heap f kx px scope kvs)(S:KeySc scope kx px)(j:A.in1.in1.depth<recursionLimit)
 (hl:s.heap.IsList l (ps.map itV).toArray) (hz:ps.length<=127)
 (hp:∀x∈ps,x.1<2 ^ 40/\∃t,kvs[x.1]?=some (.int (rk x.1) t)) (hB:∀x∈ps,((x.1:Nat):Int)<B) (nd:(ps.map (·.1)).Nodup)
 (h:∀h' tk (qs:List<|Nat×Tok) D c,s.heap.objs.size<=D->(∀b o,s.heap.get? b=some o->h'.get? b=some o)->h'.get? D=some (seqObj "list" (qs.map itV).toArray c)->qs.Perm ps->(qs.Pairwise λx y=>rk x.1*B+(x.1:Int)<=rk y.1*B+(y.1:Int))->Q (.ref D) {s with heap:=h',toks:=tk}):
 wpAny (model prog w) A (call (.builtin "sorted") [.ref l] [(Str.ofString "key",.ref f)]) Q E s:=by
 have big:(100000:Nat)+1<=sizeLine:=by rw[sizeLine_eq];lia
 have a1:(ps.map itV).length<=100000:=by rw[Ab];lia
 refine call_function_entry_kw kind_sorted plain_sorted entry_sorted (ksk_s1 _ _) ?_;unfold Builtin.«sorted»;refine Aa (m:=checkCount "sorted" 1 1 _)<|Aj ?_;refine Aa<|collect_list hl ?_ (by exact dP);refine Aa<|wpAny_newList ?_ (by lia);obtain⟨g1,C⟩:∃g1,g1=(s.heap.push<|seqObj "list" #[] 0).update s.heap.objs.size (Obj.mapSeq (· ++ (ps.map itV).toArray)):=⟨_,rfl⟩;have T:g1.objs.size=s.heap.objs.size+1:=by rw[C,Heap.size_update,size_push']
 have gk:∀b o,s.heap.get? b=some o->g1.get? b=some o:=λb o q=>by have J:b<s.heap.objs.size:=wh q;rw[C,Heap.get?_update_ne _ _ _ _<|A9 J];exact vc _ q
 show wpAny _ _ _ _ _ {s with heap:=((s.heap.push<|seqObj "list" #[] 0).update s.heap.objs.size (Obj.mapSeq (· ++ (ps.map itV).toArray))).push (seqObj "list" (ps.map itV).toArray 0)};rw[<-C];have I:(g1.push<|seqObj "list" (ps.map itV).toArray 0).get? g1.objs.size=some (seqObj "list" (ps.map itV).toArray 0):=wn _ rfl;have keep:∀b o,s.heap.get? b=some o->(g1.push<|seqObj "list" (ps.map itV).toArray 0).get? b=some o:=λb o q=>vc _<|gk b o q;refine Aa<|Bi<|wpAny_call_entry_kw slot_list_sort ⟨_,I,rfl⟩ entry_list_sort ?body<|ksk_l1 _ _
 case body=>
  obtain⟨D,eD⟩:∃D,D=g1.objs.size:=⟨_,rfl⟩;rw[<-eD] at I ⊢;show wpAny (model prog w) A.in1.in1 (Builtin.«list.sort» ⟨[.ref D],[(Str.ofString "key",.ref f)]⟩) _ _ _;rw[ksk_t1];obtain⟨g2,p⟩:∃g2,g2=g1.push (seqObj "list" (ps.map itV).toArray 0):=⟨_,rfl⟩;rw[<-p] at I keep ⊢;have s1:=ya g2 D<|Obj.mapSeq λ_=>(#[]:X0);obtain⟨e1,r⟩:∃e1,(g2.update D<|Obj.mapSeq λ_=>(#[]:X0)).get? D=some (seqObj "list" #[] e1):=⟨_,get?_update_seq I λ_=>#[]⟩;have nD:∀b o,s.heap.get? b=some o->b≠D:=λb o q z=>by have J:b<s.heap.objs.size:=wh q;rw[z,eD,T] at J;exact Nat.not_succ_lt_self J
  unfold ksk_tree;refine Aa<|listItems_at (s:={s with heap:=g2}) I rfl ?_;refine Aa (listUpdate_at (s:={s with heap:=g2}) I rfl ?_ (by rw[As];exact dP)<|A3 _);refine Aa<|seqEpoch_at r rfl ?_;refine Aa (wpAny_newTuple ?_ (by show(ps.map itV).length<=_;lia));refine Aa<|wpAny_newList ?_<|A3 _;refine Bi ?_;obtain⟨g3,U⟩:∃g3,g3=(g2.update D<|Obj.mapSeq λ_=>(#[]:X0)).push (seqObj "tuple" (ps.map itV).toArray 0):=⟨_,rfl⟩;have k3:∀b o,s.heap.get? b=some o->g3.get? b=some o:=λb o q=>by rw[U];exact vc _<|(s1.2 b<|nD b o q).trans<|keep b o q
  have d3:g3.get? D=some (seqObj "list" #[] e1):=by rw[U];exact vc _ r
  show wpAny (model prog w) A.in1.in1 (ksk_rest D (.ref f) false (ps.map itV).toArray _<|.ref ((g2.update D<|Obj.mapSeq λ_=>(#[]:X0)).push<|seqObj "tuple" (ps.map itV).toArray 0).objs.size) _ _ {s with heap:=((g2.update D<|Obj.mapSeq λ_=>(#[]:X0)).push<|seqObj "tuple" (ps.map itV).toArray 0).push (seqObj "list" #[] 0)};rw[<-U];have a0:(g3.push<|seqObj "list" #[] 0).get? g3.objs.size=some (seqObj "list" #[] 0):=wn _ rfl;refine UM (s:={s with heap:=g3.push (seqObj "list" #[] 0)}) (g:=s.heap) (kS:=g3.objs.size) (a:=D) (rk:=rk) (B:=B) K S j (Heap.get?_none_of_le ?_) (λb o q=>vc _<|k3 b o q) a0 (vc _ d3) ?_ hz hp hB nd λh' tk qs c kp hD pm pw=>?_
  ·have l1:g3.objs.size=g1.objs.size+2:=by rw[U,size_push',Heap.size_update,p,size_push']
   rw[l1,T];exact AE (CI _)<|Bd _ 2
  ·exact(A9<|wh d3).symm
  ·refine⟨_,rfl,Aj ⟨_,rfl,h h' tk qs D c (by rw[eD,T];exact CI _) (λb o q=>?_) hD pm pw⟩⟩;exact kp b o (A9<|wh<|k3 b o q) (nD b o q)<|vc _<|k3 b o q
end
end TS
namespace L2
open PySem PySem.Spec PyProof.Rows
def uF{i j:Int}{t u:Tok}{c:Yc}(l:XZ)(h:TriplesOk l):TriplesOk (l++[.int i t,.int j u,c]):=by
 fun_induction TriplesOk l with
 |case1=>trivial
 |case2 _ _ _ _ _ rest I=>exact I h
 |case3=>exact h.elim
def zG{i j:Int}{t u:Tok}{c I:Yc}(l:XZ)(h:TriplesOk l)(e:codeAmong pos (l++[.int i t,.int j u,c])=some I):codeAmong pos l=some I\/I=c:=by
 fun_induction TriplesOk l with
 |case1=>
  right;have e:(if i==pos.line&&j==pos.col then some c else none)=some I:=e;split at e
  ·cases e;rfl
  ·cases e
 |case2 a _ b _ d rest J=>
  have e:(if a==pos.line&&b==pos.col then some d else codeAmong pos (rest++[.int i t,.int j u,c]))=some I:=e;show(if a==pos.line&&b==pos.col then some d else codeAmong pos rest)=some I\/I=c;split at e
  ·rename_i z;rw[AF z];exact .inl e
  ·rename_i z;rw[AA z];exact J h e
 |case3=>exact h.elim
structure Fh(K:Ah)(eW:Yc)(P:Addr):Prop where
 ex:∃c oc,eW=.ref c/\K.lookup c=some oc/\∀h:Yh,h.get? c=some oc->PySem.W.CodeHd h c P
 bm:∃bm ob,PySem.W.nsIn K mainGlobals "__builtins__"=some (some<|.ref bm)/\bm≠builtinsNs/\bm≠mainGlobals/\K.lookup bm=some ob/\ob.cls=.type "module" /\ ob.dict=some builtinsNs/\ob.data=.plain
theorem u9:∀{l:X2} {us:XZ},zk (l.map λi:Nat=>V.int<|0+(i:Int)) us->∃ps:List (Nat×Tok),us=ps.map TS.itV/\ps.map (·.1)=l
 |[],_,.nil=>⟨[],rfl,rfl⟩
 |i::r,_,.cons (b:=u) h t=>by obtain⟨ps,J,U⟩:=u9 (l:=r) t;obtain⟨I,g⟩:=(show ∃I,u=Value.int (0+(i:Int)) I from h);refine⟨(i,I)::ps,?_,by rw[AD,U]⟩;rw[AD,J,g];show _=Value.int (i:Int) I::_;rw[Int.zero_add]
theorem xC:∀ps:List (Nat×Tok),zk (ps.map λx=>V.int ((x.1:Nat):Int))<|ps.map TS.itV
 |[]=>.nil
 |x::r=>.cons ⟨x.2,rfl⟩<|xC r
def UN(P:Addr)(q:Str)(J:Nat)(te:TE):TE:=λσ H Q=>te σ H λv H1=>∃l I,∃n:Nat,∃rks:X7,v=.ref l/\H1 l=some (.lst ((List.range n).map λi:Nat=>V.int<|0+(i:Int)))/\σ[J]?=some (some<|.ref I)/\H1 I=some (.lst<|rks.map V.int)/\rks.length=n/\n<=127/\uC H1 P q/\
 ∀H2 D (qs:X2),(∀b u,b≠P->H1 b=some u->H2 b=some u)->uC H2 P q->H1 D=none->D≠P->H2 D=some (.lst (qs.map λi:Nat=>V.int (i:Int)))->qs.Perm (List.range n)->(qs.Pairwise λi j=>rks.getD i 0*1000000+(i:Int)<=rks.getD j 0*1000000+(j:Int))->Q (.ref D) H2
def UO{l kk cell:Addr}{n:Nat}{J:Arguments}{p:Yc}{Q:VK}(I:z0 X pins σ H s)(S:TS.KeySc fx kx px)(hr:X.A.depth+3<recursionLimit)
 (hf:s.heap.get? f=some (PySem.W.kla_obj name eK J (TS.keyBody kx px p1 p2 p3 p4 p5 x1) fx [(kx,cell)] pm c' p)) (a0:s.heap.CodeRec (.ref c') eK) (r:s.heap.IsCell cell<|some<|.ref kk)
 (hb:∀v:Yc,bindArgs (PySem.W.kla_fn name eK J (TS.keyBody kx px p1 p2 p3 p4 p5 x1) fx [(kx,cell)] pm (.ref c') p) ⟨[v],[]⟩=pure [(px,v)])
 (hl:H l=some (.lst ((List.range n).map λi:Nat=>V.int<|0+(i:Int)))) (hk:H kk=some (.lst<|rks.map V.int)) (hn:rks.length=n) (hz:n<=127)
 (q:∀D (qs:X2),H D=none->qs.Perm (List.range n)->(qs.Pairwise λi j=>rks.getD i 0*1000000+(i:Int)<=rks.getD j 0*1000000+(j:Int))->Q (.ref D) (upd H D<|.lst (qs.map λi:Nat=>V.int (i:Int)))):
 wpAny (model X.prog X.w) X.A (call (.builtin "sorted") [.ref l] [(Str.ofString "key",.ref f)]) (EP X pins σ Q) X.xe s:=by
 obtain⟨a3,rv,pl,_⟩:=I.list<|EV hl;obtain⟨g,rk,pk,_⟩:=I.list<|EV hk;obtain⟨ps,rfl,U⟩:=u9 rv;have lk:g.length=n:=by rw[<-rk.length,Ab,hn]
 have lp:ps.length=n:=by have:=Bs List.length U;rwa[Ab,Ci] at this
 have big:(100000:Nat)<=sizeLine:=by decide
 refine j4 I.tk<|TS.w_sortedK (rk:=λi=>rks.getD i 0) (B:=1000000) (kvs:=g) ⟨⟨name,eK,J,p1,p2,p3,p4,p5,x1,pm,p,c',cell,kk,hf,a0,r,pk.isList,hb⟩,I.nolimit⟩ S ?_ pl.isList (by lia) (λx hx=>?_) (λx hx=>?_) ?_ λh' tk qs D c hD keep hg T pw ht=>?_
 ·show X.A.depth<recursionLimit;lia
 ·have C:x.1∈List.range n:=by rw[<-U];exact CV hx
  have a1:=A2.mp C;refine⟨by lia,?_⟩;have e1:(rks.map V.int)[x.1]?=some (V.int<|rks.getD x.1 0):=by rw[Ai,Ag (by lia),Bm,Ag (by lia)];rfl
  obtain⟨u,e2,r2⟩:=Words.Paired.getP rk e1;obtain⟨t,rfl⟩:=(show ∃t,u=Value.int (rks.getD x.1 0) t from r2);exact⟨t,e2⟩
 ·have C:x.1∈List.range n:=by rw[<-U];exact CV hx
  have a1:=A2.mp C;omega
 ·rw[U];exact Cz
 ·have a2:H D=none:=I.hok.fresh hD;refine⟨.ref D,_,I.laid (t':=tk) (o:=.lst ((qs.map (·.1)).map λi:Nat=>V.int (i:Int))) keep hD ?_,rfl,q D (qs.map (·.1)) a2 ?_ ?_⟩
  ·refine⟨?_,qs.map TS.itV,c,?_,hg⟩
   ·rw[Ab,Ab,T.length_eq];lia
   ·rw[BH];exact xC qs
  ·rw[<-U];exact T.map _
  ·exact BN.mpr pw
def z0.tabbed{P:Addr}{ps more:X0}{oc fo:Obj}{tk:Nat}(I:z0 X pins σ H s)(C:H P=some (.tbl ps))(hx:Heap.ExtBut P s.heap h')(U:h'.get? P=some (PySem.W.tabObj<|ps++more))
 (hc:s.heap.objs.size<=c') (g:h'.get? c'=some oc) (ht:0<tk):z0 X pins σ (upd (upd H P<|.tbl<|ps++more) c'<|.frz oc<|.own 0) {s with heap:=h'.push fo,toks:=tk}:=by
 have nc:H c'=none:=I.hok.fresh hc;have p:∀b,H b=none->b≠P:=λb e z=>by rw[z,C] at e;cases e
 have j:∀b u,H b=some u->b≠c':=λb u e z=>by rw[z,nc] at e;cases e
 have l:∀b o,s.heap.get? b=some o->b≠c':=λb o e=>A9<|AQ (wh e) hc;have t:∀b o,b≠P->s.heap.get? b=some o->(h'.push fo).get? b=some o:=λb o n e=>vc _<|hx b o n e;have J:∀b u,H b=some u->(∀ps,u≠.tbl ps)->b≠P:=λb u e d z=>by rw[z,C] at e;cases e;exact d _ rfl
 refine I.step (ch:=[]) (g':=s.gens) (d':=s.drawn) (t':=tk) (λ_ z=>nomatch z) (λb o _ _ _ e n=>t b o (p b n) e) (λb o _ _ _ e n=>⟨o.slots,t b o (p b n) e⟩) (λb o _ e n=>?_) (λb o _ e=>?_) (λb xs e=>?_) (λb o u e=>?_) (λb qs e=>?_) (λm hm=>?_) (λb u e=>?_) I.bare ht
 ·rw[qu<|l b o e,qu<|p b n];exact n
 ·by_cases c:b=P
  ·subst c;exact⟨_,vc _ U⟩
  ·exact⟨o,t b o c e⟩
 ·rw[qu<|j b _ e,qu (J b _ e λ_ z=>by cases z)];exact e
 ·rw[qu<|j b _ e,qu (J b _ e λ_ z=>by cases z)];exact e
 ·rw[qu<|j b _ e];by_cases c:b=P
  ·subst c;rw[C] at e;cases e;exact⟨more,j6⟩
  ·rw[qu c];exact⟨#[],by rw[e];simp⟩
 ·exact(hm.extBut hx<|p _ I.free).push _
 ·by_cases c:b=c'
  ·subst c;rw[j6] at e;cases e;exact⟨vc _ g,_,vc _ g⟩
  ·rw[qu c] at e;by_cases d:b=P
   ·subst d;rw[j6] at e;cases e;exact vc _ U
   ·rw[qu d] at e;refine(I.hok b u e).stay (λa v T r=>t a v ?_ r) (λa r=>?_) (λa xs r=>?_)
    ·rcases T with rfl|T
     ·exact d
     ·exact J a _ T λ_ z=>by cases z
    ·rw[qu<|j a _ r,qu (J a _ r λ_ z=>by cases z)];exact r
    ·rw[qu<|j a _ r,qu (J a _ r λ_ z=>by cases z)];exact r
def UP{te:TE}{J:Arguments}{U:Pos}{ik:Nat}{P:Addr}(hg:Gl X "sorted")(hm:X.mg "sorted"=none)(he:PE X e te)(S:TS.KeySc fx kx px)(C:Fh X.K X.env.code P)(hr:X.A.depth+3<recursionLimit)
 (hq:X.env.qual ++ "<lambda>" = q) (c0:X.N[ik]?=some kx) (aL:X.env.scope.names.lookup kx=some .cell) (ba:∃cell,X.env.cells.lookup kx=some cell/\closureFor fx X.env=pure [(kx,cell)])
 (bb:defaultsOf J X.env=([],[])) (hb:∀(name eK:Str) (cl:List<|Str×Addr) (pm cd ct v:Yc),bindArgs (PySem.W.kla_fn name eK J (TS.keyBody kx px p1 p2 p3 p4 p5 x1) fx cl pm cd ct) ⟨[v],[]⟩=pure [(px,v)])
 (h1:starEach [e] X.env=(false,eval e X.env)::starEach [] X.env:=by rfl) (h2:(backTo pos<|starEach [e] X.env).any (·.1)=false:=by rfl)
 (h3:backTo pos (starEach [e] X.env)=(false,eval e X.env)::backTo pos (starEach [] X.env):=by rfl):
 PE X (.Call (.Name "sorted" p) [e] [⟨some "key",.Lambda J (TS.keyBody kx px p1 p2 p3 p4 p5 x1) fx U,u3⟩] pos) (UN P q ik te):=by
 intro a0 s σ H Q I h;refine wpAny_Call_Name_kw<|dD I hg hm (by decide +kernel:bootBuiltins "sorted"=some (.builtin "sorted")) ?_ (by decide) (by decide);refine PyProof.Rows.callWith_kw ?_ h3 h2;rw[h3];refine yp<|wq (he a0 s σ H _ I h) λv s1 ⟨x,H1,g,rx,l,kk,n,rks,ev,hl,hs,hk,hn,hz,T,qq⟩=>?_;refine DT ?_;subst ev;cases (show v=Value.ref l from rx);show wpAny _ _ (evalAll ((do let v <-eval (.Lambda J (TS.keyBody kx px p1 p2 p3 p4 p5 x1) fx U) X.env;standAt pos;pure v)::[])) _ _ s1;refine wpAny_evalAll_cons<|Aa ?_;obtain⟨cell,a2,ac⟩:=ba;obtain⟨c,c1,bc,lc,hC⟩:=C.ex;obtain⟨bm,ob,b1,b2,b3,b4,b5,b6,b7⟩:=C.bm;obtain⟨a5,tP,tok,a3⟩:=T;have bd:s1.heap.Ns mainGlobals X.mg:=g.ok.mod.glob.keeps g.bk;have be:s1.heap.get? P=some (PySem.W.tabObj a5):=g.hok P _ tP;have bf:PySem.W.CodeHd s1.heap c P:=hC _<|g.kIn c c1 lc;have a1:∀b o,X.base.get? b=some o->b≠P:=λb o e z=>by have:=(g.bs b o e).2;rw[z,tP] at this;cases this
 have al:=g.ok.mod.kin bm ob b4;have hB:s1.heap.BuiltinsAt X.mg P:=⟨bm,ob,BP g.ok.mod.kin g.ok.mod.glob b1,b2,b3,a1 _ _ al,(g.bs _ _ al).1,b5,b6,b7⟩;have c3:mainGlobals≠P:=by obtain⟨o,es,ep,e,hd,_⟩:=g.ok.mod.glob;exact a1 _ _ e
 have a4:s1.heap.IsCell cell (some<|.ref kk):=by
  obtain⟨m,_,c4⟩:=g.loc;obtain⟨u,ru,lk⟩:=c4 ik kx _ c0 hs<|.inr<|.inl aL;cases (show u=Value.ref kk from ru);rcases lk with⟨k1,_⟩|⟨_,c2,e2,c5⟩
  ·have k1:X.env.scope.names.lookup kx=some .local:=k1;rw[aL] at k1;cases k1
  ·rw[a2] at e2;cases e2;exact c5
 refine PySem.W.kla_eval bb ?_;rw[hq];have jw:∀(s2:Yd) (H2:Hp) (f j:Addr) (r pm:Yc),z0 X a0 σ H2 s2->s2.heap.get? f=some (PySem.W.kla_obj "<lambda>" q J (TS.keyBody kx px p1 p2 p3 p4 p5 x1) fx [(kx,cell)] pm j r)->s2.heap.CodeRec (.ref j) q->s2.heap.IsCell cell (some<|.ref kk)->
  (∀b u,b≠P->H1 b=some u->H2 b=some u)->uC H2 P q->(∀b,H2 b=none->H1 b=none)->
  wpAny (model X.prog X.w) X.A (do standAt pos;pure (Value.ref f)) (λv s'=>wpAny (model X.prog X.w) X.A (evalAll []) (λvs c6=>wpAny (model X.prog X.w) X.A (call (.builtin "sorted") [.ref l]<|[Str.ofString "key"].zip<|v::vs) (EP X a0 σ Q) X.xe c6) X.xe s') X.xe s2:=by
  intro s2 H2 f j r pm I2 g1 g2 g3 g4 g5 g6;refine Aa<|wpAny_standAt<|Aj<|wpAny_evalAll_nil ?_;have lP:l≠P:=λz=>by rw[z,tP] at hl;cases hl
  have kP:kk≠P:=λz=>by rw[z,tP] at hk;cases hk
  refine UO (n:=n) (rks:=rks) I2 S hr g1 g2 g3 (λv=>hb _ _ _ _ _ _ v) (g4 _ _ lP hl) (g4 _ _ kP hk) hn hz λD qs hD c7 pw=>?_;have bg:D≠P:=λz=>by obtain⟨cc,e2,_⟩:=g5;rw[z,e2] at hD;cases hD
  refine qq _ D qs (λb u n e=>?_) ?_ (g6 D hD) bg j6 c7 pw
  ·rw[qu<|zw (g4 b u n e) hD];exact g4 b u n e
  ·exact g5.keep (qu<|AN bg) λb o u e=>by rw[qu<|zw e hD];exact e
 cases hf:codeAmong U a5.toList with
 |some cv=>
  obtain⟨j,oc,vs,t,c8,f1,f2,f3⟩:=a3 U cv hf;subst c8;refine j4 g.tk<|PySem.W.kla_makeFunctionHit (mg:=X.mg) ac g.ok.glob bd bc bf be tok hf hB λr h' tk bh ck ht=>?_;have I2:z0 X a0 σ H1 {s1 with heap:=h'.push {cls:=.type "function",data:=.func (PySem.W.kla_fn "<lambda>" q J (TS.keyBody kx px p1 p2 p3 p4 p5 x1) fx [(kx,cell)] ((X.mg "__name__").getD .none) (.ref j) r)},toks:=tk}:=g.kept (t':=tk) λb o e=>vc _<|bh b o e;obtain⟨ab,_⟩:=I2.hok j _ f1;refine jw _ H1 _ j r _ I2 (wn _ rfl) ⟨j,oc,vs,t,rfl,ab,f2,f3⟩ ?_ (λb u _ e=>e) ⟨a5,tP,tok,a3⟩ λb e=>e;obtain⟨o,e1,e2⟩:=a4;exact⟨o,vc _<|bh _ _ e1,e2⟩
 |none=>
  refine j4 g.tk<|PySem.W.kla_makeFunction (mg:=X.mg) ac g.ok.glob bd bc bf be tok hf c3 hB λj r h' tk hx bi cm bj c9 ht=>?_;obtain⟨c2,oc,vs,t,e2,ab,f2,f3⟩:=bj;cases e2;have I2:=g.tabbed (fo:=PySem.W.kla_obj "<lambda>" q J (TS.keyBody kx px p1 p2 p3 p4 p5 x1) fx [(kx,cell)] ((X.mg "__name__").getD .none) j r) tP hx c9 bi ab ht;have nc:H1 j=none:=g.hok.fresh bi;have cP:j≠P:=λz=>by rw[z,tP] at nc;cases nc
  refine jw _ _ _ j r _ I2 (wn _ rfl) ⟨j,oc,vs,t,rfl,vc _ ab,f2,f3⟩ ?_ (λb u n e=>?_) ?_ λb e=>?_
  ·obtain⟨o,e1,e2⟩:=a4;have nP:cell≠P:=λz=>by have:=g.freeC kx cell a2;rw[z,tP] at this;cases this
   exact⟨o,vc _<|hx _ _ nP e1,e2⟩
  ·rw[qu<|zw e nc,qu n];exact e
  ·refine⟨a5++#[rawInt U.line,rawInt U.col,.ref j],by rw[qu<|AN cP,j6],?_,λbn cv z=>?_⟩
   ·rw[A8];exact uF _ tok
   ·rw[A8] at z;rcases zG _ tok z with z|z
    ·obtain⟨d',od,ca,t',k1,k2,k3⟩:=a3 bn cv z;have nP:d'≠P:=λz=>by rw[z,tP] at k2;cases k2
     exact⟨d',od,ca,t',k1,by rw[qu<|zw k2 nc,qu nP];exact k2,k3⟩
    ·exact⟨j,oc,vs,t,z,j6,f2,f3⟩
  ·by_cases d:b=j
   ·subst d;exact nc
   ·rw[qu d] at e;by_cases d2:b=P
    ·subst d2;rw[j6] at e;cases e
    ·rw[qu d2] at e;exact e
end L2
namespace L3
open PySem L2
def Kh(Pt:Addr)(q:Str)(J:Nat)(te:jp)(τ:jc)(L:qi)(Q:YK):Prop:=te τ L λy L1=>match y with
 |.ref l=>cb L1 l λys=>∃(n:Nat) (rks:X7) (I:Addr),ys=af 0 n/\uw τ J=some (.ref I)/\L1 I=some (.lst<|rks.map Y.int)/\rks.length=n/\n<=127/\L1 Pt=some (.tb q)/\
  ∀(D:Addr) (qs:X2),L1 D=none->qs.Perm (List.range n)->(qs.Pairwise λi j=>rks.getD i 0*1000000+(i:Int)<=rks.getD j 0*1000000+(j:Int))->Q (.ref D) (qg L1 D<|.lst (qs.map λi:Nat=>Y.int (i:Int)))
 |_=>False
theorem rT{G:G3}{H:Hp}:∀{l:X2} {xs:Yj},x8 G H (l.map λi:Nat=>Y.int<|0+(i:Int)) xs->xs=l.map λi:Nat=>V.int<|0+(i:Int)
 |[],_,h=>h
 |_::_,_,⟨x,I,e,r,s⟩=>by subst e;cases r;rw[rT s];rfl
theorem i6{G:G3}{H:Hp}:∀{l:X7} {xs:Yj},x8 G H (l.map Y.int) xs->xs=l.map V.int
 |[],_,h=>h
 |_::_,_,⟨x,I,e,r,s⟩=>by subst e;cases r;rw[i6 s];rfl
theorem vW{G:G3}{H:Hp}:∀qs:X2,x8 G H (qs.map λi:Nat=>Y.int (i:Int)) (qs.map λi:Nat=>V.int (i:Int))
 |[]=>rfl
 |_::r=>⟨_,_,rfl,rfl,vW r⟩
def UQ{I:Arguments}{U:Pos}{r:Nat}(hg:Gl X "sorted")(hm:X.mg "sorted"=none)(he:QE X e te)(S:TS.KeySc fx kx px)(C:Fh X.K X.env.code Pt)(hr:X.A.depth+3<recursionLimit)
 (hq:X.env.qual ++ "<lambda>" = q) (t:X.N[r]?=some kx) (a0:X.env.scope.names.lookup kx=some .cell) (g:∃cell,X.env.cells.lookup kx=some cell/\closureFor fx X.env=pure [(kx,cell)])
 (j:defaultsOf I X.env=([],[])) (hb:∀(name eK:Str) (cl:List<|Str×Addr) (pm cd ct v:Yc),bindArgs (PySem.W.kla_fn name eK I (TS.keyBody kx px p1 p2 p3 p4 p5 x1) fx cl pm cd ct) ⟨[v],[]⟩=pure [(px,v)])
 (h1:starEach [e] X.env=(false,eval e X.env)::starEach [] X.env:=by rfl) (h2:(backTo pos<|starEach [e] X.env).any (·.1)=false:=by rfl)
 (h3:backTo pos (starEach [e] X.env)=(false,eval e X.env)::backTo pos (starEach [] X.env):=by rfl):
 QE X (.Call (.Name "sorted" p) [e] [⟨some "key",.Lambda I (TS.keyBody kx px p1 p2 p3 p4 p5 x1) fx U,u3⟩] pos) (Kh Pt q r te):=
 EH (UP hg hm he S C hr hq t a0 g j hb h1 h2 h3) λσ H Q τ L Q3 rs rl z k=>by
  refine⟨τ,L,_,rs,rl,z,λv H1 y L1 t1 J rv z=>?_⟩;cases y with
  |ref l=>
   obtain⟨ys,e1,n,a1,kk,rfl,e2,e3,hn,hz,eP,qq⟩:=xb z;cases rv;obtain⟨xs,h1,r1⟩:=J l _ e1;obtain⟨xk,h2,r2⟩:=J kk _ e3;have T:uC H1 Pt q:=J Pt _ eP;cases rT r1;cases i6 r2;obtain⟨v,hv,rv⟩:=rs.get r _<|mY _ _ e2;cases rv;refine⟨l,kk,n,a1,rfl,h1,hv,h2,hn,hz,T,λH2 D qs kp T2 hD a3 a2 pm pw=>?_⟩;have tb:∃o,H1 Pt=some (.tbl o):=let ⟨o,e,_⟩:=T;⟨o,e⟩;have t2:j5 H1 H2:=λa u i h=>kp a u (λc=>by obtain⟨o,e⟩:=tb;rw[c,e] at h;cases h;cases i) h
   refine k _ _ _ _ (t1.trans t2) (λa u e=>?_) (by rfl)<|qq D qs (J.none hD) pm pw;by_cases c:a=D
   ·subst c;rw[q9] at e;cases e;exact⟨_,a2,vW qs⟩
   ·rw[qd c] at e;by_cases d:a=Pt
    ·subst d;rw[eP] at e;cases e;exact T2
    ·obtain⟨x,hx⟩:=(J a u e).ex;exact(J a u e).keep t2 (by rw[hx];exact kp a x d hx)
  |_=>exact z.elim
structure Hu(K:Ah)(x eK:Str)(st:Stmt)(f:Addr)(fd:FuncData)(Pt:Addr):Prop where
 ex:∃(oc:Yc) (od:Option Addr) (kV hQ pm:Yc) (an:Option Addr) (eW ct:Yc) (pR:Array<|X8),
  fd=PySem.W.fnOf x eK (kh st) (jy st) (zb st) .none kV hQ pm an eW ct/\K.lookup f=some ⟨oc,od,.func fd,pR⟩/\PySem.W.codeIn K eW eK=true/\Fh K eW Pt
 kp:PySem.W.keepIn K (.ref f)=true
def UR{P:Ye}{w:Yg}{K:Ah}{N:X4}{k:Nat}{sp:x5}(F:Hu K x eK st f fd Pt)(S:ak N ps<|zb st)(len:∀ys L Q,sp ys L Q->ys.length=ps.length)
 (I:∀(eW:Yc) (A:Around) (outer:List Env) (s:Yd) (H:Hp) (E:XK),Fh K eW Pt->am k (A.deeper<|PyProof.Rows.envOfC eK (zb st) s.heap.objs.size f eW)->
  ∃t,d_ (qO CX0 P w K mg base N eK (zb st) f eW A outer s H E).nox (jy st) t/\∀ys L Q,sp ys L Q->t {nx:=λ_ L'=>bM Q .non L',rt:=bM Q} (jG N ys) L):Fn3 P w K mg base (k+1) f fd ps sp:=by
 obtain⟨oc,od,kV,g,pm,an,eW,ct,j,rfl,lk,U,C⟩:=F.ex;have F0:Fun K x eK st f _:=⟨⟨oc,od,kV,g,pm,an,eW,ct,j,rfl,lk,U⟩,F.kp⟩;refine H9 lk U S (λvs H Q E ⟨ys,L,l,o,rl,z,_⟩=>by rw[<-o.length];exact len ys L l z) λA outer s H vs Q E hr ⟨ys,L,l,o,rl,z,k⟩=>?_;obtain⟨t,ht,q⟩:=I eW A outer s H E C hr;refine⟨_,mH.nox ht,jG N ys,L,_,rN o,rl,q ys L l z,?_⟩;exact⟨λσ p τ L' r a1 J ⟨L2,T,q2⟩=>k .non p .non L2 r (J.sub T) (by rfl) q2,λv p y L' r J a0 ⟨L2,T,q2⟩=>k v p y L2 r (J.sub T) a0 q2,λ_ _ _ _ _ _ _ z=>z.elim,λ_ _ _ _ _ _ _ z=>z.elim⟩
inductive nH(Pt:Addr)(q:Str)(ys:List Y)(L:qi)(Q:YK):Prop
 |mk:∀ns:X7,(ys=[.sq<|ns.map Y.int])->(ns.length<=63)->(L=qg (λ_=>none) Pt (.tb q))->(∀L',Q (.bl true) L')->nH Pt q ys L Q
def spTopT(q:Str)(K:Ah)(Pt:Addr):Sp:=λvs H Q _=>∃(a:Addr) (ns:X7),vs=[.ref a]/\SqF K H a (ns.map V.int)/\ns.length<=63/\H Pt=some (.tbl #[])/\∀H',Q (.bl true) H'
def US{vs:Yj}{Q:VK}{E:XK}(h:spTopT q G.K Pt vs H Q E):dn G (nH Pt q) vs H Q E:=by
 obtain⟨a,I,rfl,J,U,g,z⟩:=h;refine⟨[.sq<|I.map Y.int],qg (λ_=>none) Pt<|.tb q,λy _=>y=.bl true,x8.one ⟨a,_,rfl,J,vK I⟩,(λb u e=>?_),⟨I,rfl,U,rfl,λ_=>rfl⟩,?_⟩
 ·by_cases c:b=Pt
  ·subst c;rw[q9] at e;cases e;exact⟨#[],g,trivial,λpos o z=>by cases z⟩
  ·rw[qd c] at e;cases e
 ·rintro v j y p _ _ l rfl;cases l;exact z j
end L3
namespace L2
open PySem PySem.Spec PyProof.Rows
def lessK(Pt:Addr):Ah->Ah
 |[]=>[]
 |(a,o)::r=>if a==Pt then lessK Pt r else(a,o)::lessK Pt r
theorem kn{Pt a:Addr}(h:a≠Pt):∀K:Ah,(lessK Pt K).lookup a=K.lookup a
 |[]=>rfl
 |(b,o)::r=>by
  unfold lessK;by_cases c:(b==Pt)=true
  ·rw[AF c,kn h r,Bu];have:(a==b)=false:=by have I:=eq_of_beq c;subst I;exact Eo h
   rw[this]
  ·rw[AA c,Bu,Bu,kn h r]
theorem aN{Pt:Addr}:∀K:Ah,(lessK Pt K).lookup Pt=none
 |[]=>rfl
 |(b,o)::r=>by
  unfold lessK;by_cases c:(b==Pt)=true
  ·rw[AF c];exact aN r
  ·rw[AA c,Bu];have:(Pt==b)=false:=by cases d:Pt==b with|false=>rfl|true=>exact absurd (beq_iff_eq.mpr (eq_of_beq d).symm) c
   rw[this];exact aN r
def nZ{a:Addr}{K:Ah}{o:Obj}(e:(lessK Pt K).lookup a=some o):a≠Pt/\K.lookup a=some o:=by
 by_cases c:a=Pt
 ·subst c;rw[aN] at e;cases e
 ·rw[kn c] at e;exact⟨c,e⟩
def lessK_in{K:Ah}(X:K.In h):(lessK Pt K).In h:=λa o e=>X a o (nZ e).2
structure Ki(K:Ah)(Pt:Addr):Prop where
 tab:K.lookup Pt=some (PySem.W.tabObj #[])
 hd:∃c,∀h:Yh,K.In h->PySem.W.CodeHd h c Pt
 st:Pt≠cStatics
section
variable {K:Ah}(T:K.lookup Pt=some (PySem.W.tabObj #[]))
include T
def ns_dn{a:Addr}{r:Option<|X8}(e:PySem.W.nsIn K a x=r):PySem.W.nsIn (lessK Pt K) a x=r:=by
 rw[<-e];unfold PySem.W.nsIn;by_cases c:a=Pt
 ·subst c;rw[aN,T]
 ·rw[kn c]
def lk_dn{a:Addr}{o:Obj}(e:K.lookup a=some o)(n:o.cls≠.none):(lessK Pt K).lookup a=some o:=by
 rw[kn ?_]
 ·exact e
 ·rintro rfl;rw[T] at e;cases e;exact n rfl
def code_dn{cd:Yc}(e:PySem.W.codeIn K cd q=true):PySem.W.codeIn (lessK Pt K) cd q=true:=by
 unfold PySem.W.codeIn at e ⊢;split at e
 ·rename_i c;by_cases d:c=Pt
  ·subst d;rw[T] at e;simp at e
  ·rw[kn d];exact e
 ·cases e
def UT{v:Yc}:PySem.W.ownIn (lessK Pt K) x v=PySem.W.ownIn K x v:=by
 unfold PySem.W.ownIn;split
 ·rfl
 ·rename_i a;by_cases d:a=Pt
  ·subst d;rw[aN,T]
  ·rw[kn d];split
   ·exact ns_dn T rfl
   ·rfl
 ·rfl
theorem wZ{x:Str}:∀l:XZ,PySem.W.alongIn (lessK Pt K) x l=PySem.W.alongIn K x l
 |[]=>rfl
 |c::r=>by unfold PySem.W.alongIn;rw[UT T,wZ r]
def UU{v:Yc}:PySem.W.findIn (lessK Pt K) v x=PySem.W.findIn K v x:=by
 unfold PySem.W.findIn;split
 ·rfl
 ·rename_i a;by_cases d:a=Pt
  ·subst d;rw[aN,T]
  ·rw[kn d];split
   ·exact wZ T _
   ·rfl
 ·rfl
def yy{a:Addr}(n:a≠Pt):PySem.W.specialIn (lessK Pt K) (.ref a) x=PySem.W.specialIn K (.ref a) x:=by unfold PySem.W.specialIn PySem.W.typeIn;dsimp only;rw[kn n];congr 1;funext t;exact UU T
def keep_dn{f:Yc}(e:PySem.W.keepIn K f=true):PySem.W.keepIn (lessK Pt K) f=true:=by
 unfold PySem.W.keepIn at e ⊢;split at e
 ·rename_i a;by_cases d:a=Pt
  ·subst d;rw[T] at e;simp at e
  ·rw[kn d,yy T d];exact e
 ·cases e
end
def UV{P:Ye}{w:Yg}{K:Ah}{mb:XW}{CX:g_}{k:Nat}{a:Addr}{I:Yd}{ns:X7}
 (KX:K.In I.heap) (TI:Ki K Pt) (T:I.heap.Ns mainGlobals mg) (hb:I.heap.Ns builtinsNs mb) (ab:∀x:Str,x ≠ "__name__" -> mb x=bootBuiltins x) (a0:I.heap.NoLimit) (hg:I.gens=#[]) (ac:0<I.toks)
 (p:I.heap.get? a=some {cls:=.type "list",data:=.seq vs.toArray}) (hi:IntsAre vs ns) (hl:ns.length<=sizeLine) (hr:am k callerA)
 (F:∀base:Yh,(lessK Pt K).In base->base.Ns mainGlobals mg->bV P w (lessK Pt K) mg base CX k fa fd [x] sp) (l:∀(s:Yd) (u:Yc),BindsTo s fd ⟨[u],[]⟩ [(x,u)])
 (al:∀H:Hp,H Pt=some (.tbl #[])->(H a=none\/∃o xs,H a=some (.frz o<|.lst xs))->aH (lessK Pt K) H a (ns.map V.int)->sp [.ref a] H (λv _=>v=.bl true) λ_ _ _=>False)
 (aL:∀H e s',CX [] H I (λ_ _ _=>False) e s'->False):
 codeAny (model P w) callerA (.call (.ref fa) ⟨[.ref a],[]⟩) (λr s'=>r=.ok (.ret<|.bool true)/\OldK I.heap s'.heap/\s'.os=I.os/\AllBare s'.gens) I:=by
 have rv:=rJ hi;have a1:=hi.length;have hP:I.heap.get? Pt=some (PySem.W.tabObj #[]):=KX Pt _ TI.tab;have U:a≠Pt:=λz=>by rw[z,hP] at p;cases p
 have core:∀H:Hp,H Pt=some (.tbl #[])->(∀b,b≠a->b≠Pt->H b=none)->(H a=none\/∃o xs,H a=some (.frz o<|.lst xs))->aH (lessK Pt K) H a (ns.map V.int)->(∀u,H a=some u->xn P w H I.heap a u)->(H a≠none->K.lookup a=none)->
  codeAny (model P w) callerA (.call (.ref fa) ⟨[.ref a],[]⟩) (λr s'=>r=.ok (.ret<|.bool true)/\OldK I.heap s'.heap/\s'.os=I.os/\AllBare s'.gens) I:=by
  intro H HP Hn HO HS a2 ba;have a3:fh P w H I.heap:=λb u e=>by
   by_cases c:b=a
   ·subst c;exact a2 u e
   ·by_cases d:b=Pt
    ·subst d;rw[HP] at e;cases e;exact hP
    ·rw[Hn b c d] at e;cases e
  have J:∀{b:Addr} {o:Obj},I.heap.get? b=some o->H b=none->(sI I.heap H).get? b=some o:=λe n=>NG e n;have bb:∀{b:Addr} {o:Obj} {t:Array DictEntry} {C:Nat},I.heap.get? b=some o->o.data=.dict t C->H b=none:=λ{b o t C} e d=>by
   refine Hn b (λz=>?_) λz=>?_
   ·subst z;rw[p] at e;cases e;have d':Data.seq vs.toArray _=Data.dict t C:=d;cases d'
   ·subst z;rw[hP] at e;cases e;have d':Data.fields _=Data.dict t C:=d;cases d'
  have g:∀{b:Addr} {m:XW},I.heap.Ns b m->(sI I.heap H).Ns b m:=λ{b m} ⟨o,t,C,e,d,r⟩=>⟨o,t,C,J e<|bb e d,d,r⟩;have a4:(lessK Pt K).In (sI I.heap H):=λb o e=>by
   obtain⟨n,e⟩:=nZ e;refine J (KX b o e) ?_;by_cases c:b=a
   ·subst c;cases q:H b with|none=>rfl|some u=>rw[ba (by rw[q];simp)] at e;cases e
   ·exact Hn b c n
  have hM:Mod (lessK Pt K) mg (sI I.heap H):=⟨a4,g T,⟨mb,g hb,ab⟩,let ⟨mc,h1,h2⟩:=a0;⟨mc,g h1,h2⟩⟩;have e0:FM P w (lessK Pt K) mg (sI I.heap H) callerA [] I H:=⟨rfl,hM,λb o e=>NH e,Nat.le_of_eq<|NF _ _,trivial,λb hb=>absurd (show b∈([]:List Addr) from hb) (by simp),a3,.of_eq hg,ac⟩;refine codeAny_mono ((F _ a4<|g T).run callerA [] I H ⟨[.ref a],[]⟩ [.ref a] [.ref a] _ _ hr e0 (l I<|.ref a) (.cons rfl .nil)<|al H HP HO HS) λr s' h=>?_;cases r with
  |error e=>exact(aL H e s' h).elim
  |ok fl=>
   cases fl with
   |next=>exact False.elim h
   |brk=>exact False.elim h
   |cont=>exact False.elim h
   |ret u=>
    obtain⟨v,H',os,bare,un,j,r',q,_⟩:=h;have q':v=.bl true:=q;subst q';obtain rfl:u=Value.bool true:=r';obtain⟨more,em⟩:=un.tbls Pt _ HP;have gP:s'.heap.get? Pt=some (PySem.W.tabObj<|#[]++more):=j Pt _ em;have kp:∀b o,b≠Pt->I.heap.get? b=some o->s'.heap.get? b=some o:=λb o n e=>by
     have a5:H b=none->s'.heap.get? b=some o:=λz=>un.keep b o e z (by intro z;exact absurd (show b∈([]:List Addr) from z) (by simp)) (by simp);by_cases c:b=a
     ·subst c;rcases HO with z|⟨ob,xs,z⟩
      ·exact a5 z
      ·have z2:=un.frzs _ _ _ z;obtain⟨e1,_⟩:=a3 _ _ z;obtain⟨e2,_⟩:=j _ _ z2;rw[e] at e1;cases e1;exact e2
     ·exact a5<|Hn b c n
    obtain⟨c,hc⟩:=TI.hd;refine⟨rfl,⟨λb o e=>?_,λb o e=>?_⟩,os,bare⟩
    ·by_cases n:b=Pt
     ·subst n;rw[hP] at e;cases e;exact .inr<|.inl ⟨((hc _ KX).tab hP).isCodeTable,rfl,#[],more,rfl,gP⟩
     ·exact .inl<|kp b o n e
    ·by_cases n:b=Pt
     ·subst n;exact⟨_,gP⟩
     ·exact⟨o,kp b o n e⟩
 cases hk:K.lookup a with
 |some o=>
  have e:=KX a o hk;rw[p] at e;cases e;refine core (λb=>if b=Pt then some (.tbl #[]) else none) (AF rfl) (λb _ n=>AA n) (.inl<|AA U) (.inr ⟨_,vs.toArray,_,(kn U K).trans hk,rfl,rfl,rfl,by rw[As,a1];exact hl,by simpa using rv⟩) (λu z=>by have z':=(AA U).symm.trans z;cases z') λz=>absurd (AA U) z
 |none=>
  refine core (λb=>if b=a then some (.frz {cls:=.type "list",data:=.seq vs.toArray}<|.lst<|ns.map V.int) else if b=Pt then some (.tbl #[]) else none) ((AA<|AN U).trans<|AF rfl) (λb n1 n2=>(AA n1).trans<|AA n2) (.inr ⟨_,_,AF rfl⟩) (.inl<|.inr ⟨_,AF rfl⟩) (λu z=>?_) λ_=>hk;have z':=(AF rfl).symm.trans z;cases z';exact⟨p,by rw[Ab];exact hl,vs,_,rv,p⟩
def walk_ofZT{l:PySem.W.OpenLaw}{n k:Nat}{q:Ye}{loose:X4}{XP:(XW)->Yh->Prop}{as0:List Addr}{N t:Nat}{d:DefRec}{K:Params->Ah}{CX:g_}{sp:Ah->Addr->Sp}
 (hn:l.most=some n) (p:n<=sizeLine) (r:d.params.defaults=[]) (hr:am k callerA) (ek:∀P,as0=(K P).map (·.1)) (C:0<t)
 (F:∀(w:Yg) (mg:XW) (fa:Addr) (h:Yh),(K w.params).In h->h.Ns mainGlobals mg->mg d.name=some (.ref fa)->
  ∃Pt:Addr,Ki (K w.params) Pt/\∃fd:FuncData,(∀(s:Yd) (u:Yc),BindsTo s fd ⟨[u],[]⟩ [(x,u)])/\
   ∀base:Yh,(lessK Pt<|K w.params).In base->base.Ns mainGlobals mg->bV l.prog w (lessK Pt<|K w.params) mg base CX k fa fd [x] (sp (lessK Pt<|K w.params) Pt))
 (a0:∀(K:Ah) (Pt:Addr) (H:Hp) (a:Addr) (ns:X7),ns.length<=n->H Pt=some (.tbl #[])->(H a=none\/∃o xs,H a=some (.frz o<|.lst xs))->aH K H a (ns.map V.int)->sp K Pt [.ref a] H (λv _=>v=.bl true) λ_ _ _=>False)
 (a1:∀(H:Hp) (s:Yd) (e:Yc) (s':Yd),CX [] H s (λ_ _ _=>False) e s'->False):
 PySem.W.WalkX q loose XP (PySem.W.X.obsZ as0) (PySem.W.X.valZ K N t) l.row.toRowW d [] (λf vs=>PySem.call f vs):=by
 refine Att.attach_callZ hn r ek C λw a3 U mg mb fa o pm cd a4 a vs ns G KX tk ho hd a5 a2 j J I hg=>?_;obtain⟨Pt,TI,fd,hb,hF⟩:=F w mg fa _ KX G.T.g a2;exact UV KX TI G.T.g G.T.b G.T.builtins G.T.nolimit hg tk j J (AE I p) hr hF hb (λH hP hO hS=>a0 _ Pt H a ns I hP hO hS) λH e s'=>a1 H U e s'
end L2
namespace L3
open PySem L2
def top_startT :∀(K:Ah) (Pt:Addr) (H:Hp) (a:Addr) (ns:X7),ns.length<=63->H Pt=some (.tbl #[])->(H a=none\/∃o xs,H a=some (.frz o<|.lst xs))->aH K H a (ns.map V.int)->spTopT q K Pt [.ref a] H (λv _=>v=.bl true) λ_ _ _=>False:=by
 intro K Pt H a ns I J U g;refine⟨a,ns,rfl,?_,I,J,λ_=>rfl⟩;rcases g with(h|⟨o,h⟩)|h
 ·rcases U with z|⟨o,xs,z⟩<;>rw[h] at z<;>cases z
 ·exact .inl ⟨o,h⟩
 ·exact .inr h
structure DefInT(K:Ah)(x:Str)(st:Stmt)(Pt:Addr):Prop where
 ex:∃(f:Addr) (kV hQ pm:Yc) (an:Option Addr) (eW ct:Yc),PySem.W.nsIn K mainGlobals x=some (some<|.ref f)/\Hu K x x st f (PySem.W.fnOf x x (kh st) (jy st) (zb st) .none kV hQ pm an eW ct) Pt
def DefInT.use{K:Ah}(D:DefInT K x st Pt)(X:K.In h)(G:h.Ns mainGlobals mg)
 (I:∀(kV hQ pm:Yc) (an:Option Addr) (eW ct:Yc) (us:XZ),us.length=ps.length->bindArgs (PySem.W.fnOf x x (kh st) (jy st) (zb st) .none kV hQ pm an eW ct) ⟨us,[]⟩=pure (ps.zip us)):
 ∃f fd,Hu K x x st f fd Pt/\iO K fd ps []/\mg x=some (.ref f):=by
 obtain⟨f,kV,hQ,pm,an,eW,ct,a,F⟩:=D.ex;exact⟨f,_,F,.all<|I kV hQ pm an eW ct,BP X G a⟩
end L3
namespace L2
open PySem PySem.Spec PyProof.Rows
section
variable {hE:St}
def z0.ren(M:X4)(I:z0 X pins σ H s)(J:M.length=X.N.length)(hs:hE.length=σ.length)(h:∀(j:Nat) v,hE[j]?=some (some v)->σ[j]?=some (some v)/\X.N[j]?=M[j]?):z0 {X with N:=M} pins hE H s:=by obtain⟨m,U,l⟩:=I.loc;have o:=I.ok;exact {ok:=⟨o.mod,o.kind,o.glob,o.blt,o.above,o.inj,o.has,o.cab,o.hd,o.frames,o.stk,o.exf,o.bs,o.bsz,o.noex,o.exfs,o.funs,o.frf⟩,os:=I.os,bare:=I.bare,base:=I.base,cell:=I.cell,free:=I.free,freeC:=I.freeC,pin:=I.pin,hok:=I.hok,tk:=I.tk,len:=(by rw[hs,I.len];exact J.symm),loc:=⟨m,U,λi x v g p r=>by obtain⟨a,b⟩:=h i v p;exact l i x v (b.trans g) a r⟩}
def uY(h:(σ.set i none)[j]?=some (some v)):j≠i/\σ[j]?=some (some v):=by
 by_cases c:i=j
 ·subst c;rw[DZ] at h;cases e:σ[i]? with|none=>rw[e] at h;cases h|some o=>rw[e] at h;cases h
 ·rw[Bq c] at h;exact⟨AN c,h⟩
def aug(i:Nat)(t:TS):TS:=λD σ H=>t {nx:=λhE H'=>D.nx (hE.set i none) H',rt:=D.rt,bk:=λhE H'=>D.bk (hE.set i none) H',ct:=λhE H'=>D.ct (hE.set i none) H'} (σ.set i none) H
def UW{t:TS}(h:PS {X with N:=X.N.set i x} st t):PS X st (aug i t):=by
 intro g s p H D I z;have C:z0 {X with N:=X.N.set i x} g (p.set i none) H s:=I.ren _ (by rw[Cd]) (by rw[Cd]) λj v e=>by obtain⟨a,b⟩:=uY e;exact⟨b,by rw[Bq<|AN a]⟩
 refine wq (h g s _ H _ C z) λf o q=>?_;have back:∀{U:St} {l:Hp},z0 {X with N:=X.N.set i x} g U l o->z0 X g (U.set i none) l o:=λ{U l} J=>
  z0.ren (X:={X with N:=X.N.set i x}) X.N J (by show X.N.length=(X.N.set i x).length;rw[Cd]) (by rw[Cd]) λj v e=>by obtain⟨a,b⟩:=uY e;exact⟨b,by show(X.N.set i x)[j]?=_;rw[Bq<|AN a]⟩
 cases f with
 |next=>obtain⟨U,l,J,q⟩:=q;exact⟨_,l,back J,q⟩
 |brk=>obtain⟨U,l,J,q⟩:=q;exact⟨_,l,back J,q⟩
 |cont=>obtain⟨U,l,J,q⟩:=q;exact⟨_,l,back J,q⟩
 |ret u=>obtain⟨v,U,l,J,r,q⟩:=q;exact⟨v,_,l,back J,r,q⟩
def UX(i j k:Nat)(ta:TA):TS:=λD σ H=>ta σ H λvs H1=>∃u v w,vs=[u,v,w]/\D.nx (((σ.set i<|some u).set j<|some v).set k<|some w) H1
def UY{k:Nat}{y z:Str}{a b:Expr}{ta:TA}{px C pt:Pos}{kt T U}(hc:X.calm=true)(hN:X.N.Nodup)(hi:X.N[i]?=some x)(hj:X.N[j]?=some y)(hk:X.N[k]?=some z)(a0:i≠j)(a1:i≠k)(a2:j≠k)
 (hx:X.env.scope.names.lookup x=some .local) (hy:X.env.scope.names.lookup y=some .local) (hz:X.env.scope.names.lookup z=some .local) (ha:PA X [a,b,c] ta)
 (hw:swappedStores [.Tuple [.Name x px,.Name y py,.Name z C] kt pt] (.Tuple [a,b,c] T U) X.env=pure (some [x,y,z]))
 (hs:swapsWithSole [.Tuple [.Name x px,.Name y py,.Name z C] kt pt] (.Tuple [a,b,c] T U) pos.line X.env=pure false:=by rfl):
 PS X (.Assign [.Tuple [.Name x px,.Name y py,.Name z C] kt pt] (.Tuple [a,b,c] T U) pos) (UX i j k ta):=by
 intro J s σ H D I h;rw[exec_Assign_arm];refine Aa<|wpAny_standAt ?_;rw[hs];refine Aa<|Aj ?_;rw[AA (by decide)];refine Aa<|Tuple_<|wq (ha _ J s σ H _ I h) λus g ⟨vs,H1,I1,r1,q1⟩=>?_;obtain⟨v,w,v3,e1,q1⟩:=q1;subst e1;obtain⟨l,r,t,rfl,rv,a3,r3⟩:∃l r t,us=[l,r,t]/\zm v l/\zm w r/\zm v3 t:=by
  cases r1 with
  |cons p q=>
   cases q with
   |cons p' q'=>
    cases q' with
    |cons a4 a5=>
     cases a5;exact⟨_,_,_,rfl,p,p',a4⟩
 refine Bn ?_ (by show 3<=sizeLine;decide);have I2:z0 X J σ H1 {g with heap:=g.heap.push {cls:=.type "tuple",data:=.seq [l,r,t].toArray}}:=I1.kept (t':=g.toks) λb o e=>vc _ e;rw[hw];refine Aa<|Aj ?_;show wpAny (model X.prog X.w) X.A (do rule "assign.swapped-stores";let items <-unpackItems (.ref g.heap.objs.size) 3 none;assignInOrder [λv=>bindName X.env z v,λv=>bindName X.env y v,λv=>bindName X.env x v] items.reverse;pure Flow.next) _ _ _;refine Aa<|Bt<|Aa<|unpackItems_tuple (items:=#[l,r,t]) (I.ok.hd hc) (IsTup.new g.heap _) λh' ab=>?_;have I3:=I2.kept (h':=h') (t':=g.toks) λb o e=>ab b o (A9<|wh e) e;show wpAny _ _ (assignInOrder [λv=>bindName X.env z v,λv=>bindName X.env y v,λv=>bindName X.env x v] [t,r,l] >>= λ_=>pure Flow.next) _ _ _;refine Aa<|assignInOrder_cons<|wpAny_bindName<|aU I3 hN hk (.inl hz) r3 (λs2 I4=>?_)<|.inr hz;refine assignInOrder_cons<|wpAny_bindName<|aU I4 hN hj (.inl hy) a3 (λs3 I5=>?_)<|.inr hy;refine assignInOrder_cons<|wpAny_bindName<|aU I5 hN hi (.inl hx) rv (λs4 I6=>assignInOrder_nil<|Aj ?_)<|.inr hx;rw[DO _ _<|AN a0,DO _ _<|AN a1,DO _ _<|AN a2] at I6;exact⟨_,H1,I6,q1⟩
end
end L2
namespace L3
open PySem L2
def iW:jc->Nat->jc
 |[],_=>[]
 |_::r,0=>none::r
 |o::r,i+1=>o::iW r i
theorem uz:∀(τ:jc) (i:Nat),iW τ i=τ.set i none
 |[],_=>rfl
 |_::_,0=>rfl
 |o::r,i+1=>by unfold iW;rw[uz r i];rfl
def Gi(i:Nat)(t:dR)(D:xu)(τ:jc)(L:qi):Prop:=t {nx:=λI L'=>D.nx (iW I i) L',rt:=D.rt,bk:=λI L'=>D.bk (iW I i) L',ct:=λI L'=>D.ct (iW I i) L'} (iW τ i) L
def xo.forget(h:xo G H σ τ)(i:Nat):xo G H (σ.set i none) (iW τ i):=by
 rw[uz];refine⟨by rw[Cd,Cd];exact h.len,λj y e=>?_⟩;by_cases c:i=j
 ·subst c;rw[DZ] at e;cases I:τ[i]? with|none=>rw[I] at e;cases e|some o=>rw[I] at e;cases e
 ·rw[Bq c] at e ⊢;exact h.get j y e
def sO(x:Str){t:dR}(h:QS {X with N:=X.N.set i x} st t):QS X st (Gi i t):=
 EJ (UW h) λD T H p L D3 r C z k=>⟨iW p i,L,_,r.forget i,C,z,
  ⟨λU g j l o I J q=>k.nx _ g _ l o (I.forget i) J q,k.rt,λU g j l o I J q=>k.bk _ g _ l o (I.forget i) J q,λU g j l o I J q=>k.ct _ g _ l o (I.forget i) J q⟩⟩
def UZ(i j k:Nat)(ta:ef)(D:xu)(τ:jc)(L:qi):Prop:=ta τ L λys L'=>match ys with
 |[u,v,w]=>D.nx (ai (ai (ai τ i u) j v) k w) L'
 |_=>False
def U3{k:Nat}{y z:Str}{a b:Expr}{px J pt:Pos}{U:Nat}{I:Pos}(hc:X.calm=true)(hN:X.N.Nodup)(hi:X.N[i]?=some x)(hj:X.N[j]?=some y)(hk:X.N[k]?=some z)(g:i≠j)(l:i≠k)(o:j≠k)
 (lx:X.env.scope.names.lookup x=some .local) (ly:X.env.scope.names.lookup y=some .local) (lz:X.env.scope.names.lookup z=some .local) (h:QA X [a,b,c] tr)
 (h1:swappedStores [.Tuple [.Name x px,.Name y py,.Name z J] kt pt] (.Tuple [a,b,c] U I) X.env=pure (some [x,y,z])) (h2:swapsWithSole [.Tuple [.Name x px,.Name y py,.Name z J] kt pt] (.Tuple [a,b,c] U I) pos.line X.env=pure false:=by rfl):
 QS X (.Assign [.Tuple [.Name x px,.Name y py,.Name z J] kt pt] (.Tuple [a,b,c] U I) pos) (UZ i j k tr):=EJ (UY hc hN hi hj hk g l o lx ly lz h h1 h2) λD σ H T L D3 rs rl z kk=>
 ⟨T,L,_,rs,rl,z,λvs H1 ys L1 t1 p r t=>by
  split at t
  ·rename_i u v w;obtain⟨x1,a0,rfl,r1,x2,a1,rfl,r2,x3,C,rfl,r3,e3⟩:=r;cases (show C=[] from e3);exact⟨x1,x2,x3,rfl,kk.nx _ H1 _ L1 t1 (show xo _ _ _ (ai (ai (ai T i u) j v) k w) by rw[w9,w9,w9];exact(((rs.ts t1).set r1).set r2).set r3) p t⟩
  ·exact t.elim⟩
def sW:bootBuiltins "min"=some (.builtin "min"):=by decide +kernel
def U4(x:Y)(lo hi:X9)(L:qi)(Q:YK):Prop:=match x with
 |.tup ys=>¬(HT.sIx ys.length 0 lo=0/\HT.sIx ys.length ys.length hi=ys.length)/\Q (.tup<|fw ys lo hi) L
 |_=>False
def U5(K:Ah)(P:Ye)(w:Yg)(U:X.K=K:=by rfl)(g:X.prog=P:=by rfl)(hw:X.w=w:=by rfl):uP X (F2 ⟨K,P,w⟩ U4):=by
 subst U g hw;refine uP.imp PB λx lo J H Q ⟨y,L,Q3,j,l,z,k⟩=>?_;cases y with
 |tup o=>
  obtain⟨a,t,e,sq,r⟩:=j;obtain⟨C,T⟩:=z;exact⟨a,t,e,sq,by rw[<-r.length];exact C,λp I=>k _ _ (.tup<|fw o lo J) L (EF I) (l.skip I) ⟨p,_,rfl,.inl<|.inl j6,(sv r lo J).ts<|EF I⟩ T⟩
 |_=>exact z.elim
def zK{a:Addr}{keep:qi->Prop}(h:∀H L,j5 H₀ H->zu G H L->keep L->∃xs,dS G.K H a xs/\x8 G H ys xs):dU G H₀ (GB G.K a) ys keep where
 go:=λi H L t I J U=>by
  obtain⟨xs,sq,r⟩:=h H L t I J;have:i<xs.length:=by rw[<-r.length];exact U
  exact⟨xs,xs[i],sq,Ag this⟩
 yld:=λi H L x o y t I J g ⟨e,f⟩=>by subst e;obtain⟨xs,sq,r⟩:=h _ L t I J;obtain⟨p,j,l⟩:=r.get g;have:=f xs sq;rw[j] at this;cases this;exact⟨ED _,I,l⟩
 stop:=λH L t I J=>by obtain⟨xs,sq,r⟩:=h H L t I J;exact⟨xs,sq,by rw[r.length];exact Ak _⟩
def U6(h:QE X e te):QI X tg e (QP te):=PI.imq (OE h) λσ H R j L R3 l o z k=>by
 refine⟨j,L,_,l,o,z,λv p y C T I J U=>?_⟩;cases y with
 |tup ys=>
  obtain⟨a,g,e,sq,r⟩:=J;exact⟨a,e,⟨g,sq⟩,k _ p ys (λ_=>True) C T I (zK λH L t _ _=>⟨g,dS.ts sq t,r.ts t⟩) U⟩
 |_=>exact U.elim
def U7{k:Nat}(I:am k A):A.depth+3<recursionLimit:=by have:=I.dp;omega
abbrev lamQ:Str:="_law_order.<locals>.<lambda>"
open PySem L2 Words
def sk(Pt:Addr)(I:x5):dR:=(xa (vo (gd jn)<|qp 2)
 (xa (zD (xK<|ql 0) (f8 2<|jx (qp 3)<|jx (qp 4) dF) (xa (vo (a9 sw (xw I<|qr (ql 1)<|gJ (ql 3)<|cD 39373)<|cD 40)<|qp 5)
 (rh (fO (qB (yB<|oz true<|ql 4)<|e_ (yP 4)<|cD 3) (vo (a9 vJ (a9 vJ (ql 5)<|cD 1)<|rD E9<|qr (a9 h_ (ql 2)<|fg 4 1)<|qr (a9 h_ (ql 2)<|fg 4 2) jn)<|qp 5) fT)
 (aA<|lO jq (ql 2)<|ix<|ql 5))))
 (oG<|Kh Pt lamQ 2<|uh<|yP 0)))
def qF(ks:List<|Yp):Prop:=∀(p:Nat) (e:Bool) (i j:Nat),ks[p]?=some (some<|.nd e i j)->i<p/\j<p
def abr(ks:List<|Yp)(rks:X7):Prop:=∀(p:Nat) (e:Bool) (i j:Nat),p<rks.length->ks[p]?=some (some<|.nd e i j)->rks.getD i 0<rks.getD p 0/\rks.getD j 0<rks.getD p 0
def oS{r:Int}(h:i<rks.length):(rks++[r]).getD i 0=rks.getD i 0:=by rw[Bm,Bm,AC h]
def U8{r:Int}:(rks++[r]).getD rks.length 0=r:=by rw[Bm,AI<|Ak _,CB];rfl
def abr.snoc{ks:List<|Yp}{r:Int}{k:Yp}(ok:qF ks)(h:abr ks rks)(U:ks[rks.length]?=some k)(g:∀e i j,k=some (.nd e i j)->rks.getD i 0<r/\rks.getD j 0<r):abr ks (rks++[r]):=by
 intro p e i j I J;obtain⟨l,o⟩:=ok p e i j J;rw[Ac] at I;have I:p<rks.length+1:=I;rw[oS (show i<rks.length by lia),oS (show j<rks.length by lia)];by_cases c:p<rks.length
 ·rw[oS c];exact h p e i j c J
 ·have:p=rks.length:=by lia
  subst this;rw[U8];exact g e i j<|Bb<|U.symm.trans J
def cL(ks:List<|Yp)(qs:X2):Prop:=qs.Pairwise λx y=>∀e i j,ks[x]?=some (some<|.nd e i j)->y≠i/\y≠j
def U9{ks:List<|Yp}(ok:qF ks)(h:abr ks rks)(I:rks.length=ks.length)(hw:qs.Pairwise λi j=>rks.getD i 0*1000000+(i:Int)<=rks.getD j 0*1000000+(j:Int)):cL ks qs:=by refine hw.imp λ{x y} z e i j ex=>?_;obtain⟨J,U⟩:=ok x e i j ex;obtain⟨g,l⟩:=h x e i j (by rw[I];exact zd ex) ex;exact⟨λc=>by subst c;lia,λc=>by subst c;lia⟩
inductive i4(Pt:Addr)(ys:List Y)(L:qi)(Q:YK):Prop
 |mk:∀a,∀ks:List (Yp),∀s:Int,(ys=[.ref a,.int s])->(L a=some (.lst<|xz ks))->(qF ks)->(ks.length<=127)->(L Pt=some (.tb lamQ))->(∀D qs,L D=none->qs.Perm (List.range ks.length)->cL ks qs->Q (.ref D) (qg L D<|.lst<|nY qs))->i4 Pt ys L Q
def vI(h:i<rks.length):(rks.map Y.int)[i]?=some (.int<|rks.getD i 0):=by rw[Ai,Bm,Ag h];rfl
def U_ :∀ys L Q,i4 Pt ys L Q->jf (sk Pt bN) 6 ys L Q:=by
 rintro ys L Q ⟨a,ks,s,rfl,ha,ok,hz,hP,q⟩;have big:=a_;intro J I;have s0:qf L (qg L J<|.lst []):=By I;have C:a≠J:=vt ha I;refine zp (s0 _ _ ha) λkeep kp=>ve ⟨λi τ U=>∃rks:X7,∃c3 c4 c5,τ=[some<|Y.ref a,some<|.int s,some<|Y.ref J,c3,c4,c5]/\U=qg L J (.lst<|rks.map Y.int)/\rks.length=i/\abr ks rks,⟨[],_,_,_,rfl,rfl,rfl,λp _ _ _ T=>by cases T⟩,?_,?_,?_⟩
 ·rintro i τ U ⟨rks,c3,c4,c5,rfl,rfl,_⟩;exact kp _ (by rw[qd C,qd C])
 ·rintro i y τ U hy ⟨rks,c3,c4,c5,rfl,rfl,g,l⟩;obtain⟨z,ez,rfl⟩:=aT hy;rw[Ai] at ez;obtain⟨k,ek,rfl⟩:=Am.mp ez;have hi:=zd ek;refine⟨s,i,39373,rfl,by exact A6 _,by omega,by decide,by decide,λv h0 h1=>?_⟩;have m0:(0:Int)<=v % 40:=C2 _ (by decide);have a0:(rks.map Y.int).length=i:=by rw[Ab];exact g
  refine⟨show(0:Int)<40 by decide,λa3 U=>∃r:Int,a3=[some<|Y.ref a,some<|.int s,some<|Y.ref J,some<|.int (i:Nat),some<|fP k,some<|.int r]/\U=qg L J (.lst<|rks.map Y.int)/\∀e i j,k=some (.nd e i j)->rks.getD i 0<r/\rks.getD j 0<r,?_,?_⟩
  ·cases k with
   |none=>exact⟨v % 40,rfl,rfl,λe i j z=>by cases z⟩
   |some k=>
    cases k with
    |lf t n=>exact⟨v % 40,rfl,rfl,λe i j z=>by cases z⟩
    |nd e p1 p2=>
     obtain⟨l1,l2⟩:=ok _ _ _ _ ek;have g1:=vd<|vI (rks:=rks) (i:=p1) (by lia);have g2:=vd<|vI (rks:=rks) (i:=p2) (by lia);refine qb q9<|qj g1 ?_;refine qb q9<|qj g2 ?_;refine⟨v % 40+1+max (rks.getD p1 0) (rks.getD p2 0),rfl,rfl,λe' i' j' z=>?_⟩;cases z;have a1:rks.getD p1 0<=max (rks.getD p1 0) (rks.getD p2 0):=Int.le_max_left ..;have a2:rks.getD p2 0<=max (rks.getD p1 0) (rks.getD p2 0):=Int.le_max_right ..;constructor<;>lia
  ·rintro a3 U ⟨r,rfl,rfl,hr⟩;refine qb q9 (qh q9 ⟨by rw[a0];exact big _ (by lia),?_⟩);refine⟨_,EC _,rks++[r],_,_,_,rfl,?_,by rw[Ac,g];rfl,abr.snoc ok l (by rw[g];exact ek) hr⟩;rw[vi,Aw];rfl
 ·rintro τ U ⟨rks,c3,c4,c5,rfl,rfl,g,l⟩;rw[ky,Ab] at g;have s1:qf L (qg L J<|.lst<|rks.map Y.int):=By I;refine qb (s1 _ _ ha) ?_;have lo:(xz ks).length=ks.length:=Ab ..;refine⟨⟨A6 _,by rw[lo];lia⟩,λp T=>qh q9 ?_⟩;have a4:J≠p:=vt q9 T;have a5:Pt≠p:=vt (s1 _ _ hP) T;have ab:Pt≠J:=vt hP I;refine⟨ks.length,rks,J,by rw[Cg,lo],rfl,(qd a4).trans q9,g,hz,(qd a5).trans<|(qd ab).trans hP,λD qs hD pm pw=>?_⟩;have ac:=xr hD;have al:=xr ac;refine⟨qg L D<|.lst<|nY qs,λb o e=>?_,q D qs al pm<|U9 ok l g pw⟩;by_cases c:b=D
  ·subst c;rw[q9] at e ⊢;exact e
  ·rw[qd c] at e ⊢;rw[qd (λz=>by subst z;rw[xr T] at e;cases e),qd (λz=>by subst z;rw[I] at e;cases e)];exact e
def uV:RD "_law_name" mD 0 ["_law_seed","_law_which","_law_letters","_law_size","_law_place","_law_base","_law_sign"] (λ_=>True):=⟨_,λV B c _ _ _ _ _ _ _ J hN I=>(qa (aa (i:=2) hN rfl (Or.inr rfl) qo)<|qa (S_ 3 hN<|qk j7 qe<|qk jh (qv 0) qe)<|qa (S_ 4 hN<|qk jh (qk v4 (qv 0) qe)<|qv 3)<|qa (S_ 5 hN<|cO qo<|zx<|aV ["_law_k"] (EI (by rfl)) rfl (bY rfl B.bg<|zx qe) (fK 7) (λ_ _ _ _=>wm) λ_ _ _ _=>(I_ (qv 2)<|qk jh (qk j7 (qk v4 (qv 0) qe)<|qk wV qe<|qv 7) qe))<|qa (ze (E_ I (qk jh (qk v4 (qv 0) qe) qe) qe) (qc<|qm<|vq (eE _ _ _) (qv 5) aE<|w5<|qk j7 qe<|qk jh (qk j7 (qv 1)<|qv 0) qe) qt)<|qa (S_ 6 hN<|I_ (qv 2)<|qk jh (qk j7 (qk j7 (qk v4 (qv 0) qe)<|qk wV qe<|qv 4)<|qv 1) qe)<|qc<|qm<|qk j7 (qk j7 (vq (eE _ _ _) (qv 5) aE<|w5<|qv 4)<|qv 6)<|vq (eE _ _ _) (qv 5) (w5<|qk j7 (qv 4) qe)<|w5<|qv 3)⟩
def eO(i:Int):Nat:=97+(i % 26).toNat
def zR(i:Int):jU ("abcdefghijklmnopqrstuvwxyz" : Str).cps.toList (i % 26)=some (eO i):=by
 obtain⟨n,I⟩:∃n:Nat,i % 26=n:=⟨(i % 26).toNat,by lia⟩;have h:n<26:=by lia
 unfold eO;rw[I];have key:∀n,n<26->("abcdefghijklmnopqrstuvwxyz" : Str).cps.toList[n]?=some (97+n):=by decide +kernel
 exact vd<|key n h
def zM(i:Int):97<=eO i/\eO i<=122:=by unfold eO;lia
def dJ(s:Int):X2:=(List.range 8).map λk:Nat=>eO<|s / 64+3*(k:Int)
def pN(s:Int):(dJ s).length=8:=by unfold dJ;simp
def pH(s:Int):∀c∈dJ s,97<=c/\c<=122:=λc I=>by obtain⟨k,_,rfl⟩:=Bj.mp I;exact zM _
def rZ(s:Int):Nat:=(s / 8 % (1+s % 8)).toNat
def szN(s:Int):Nat:=(1+s % 8).toNat
def Kj(s:Int):rZ s<szN s/\szN s<=8/\s / 8 % (1+s % 8)=(rZ s:Int)/\1+s % 8=(szN s:Int):=by
 have I:0<1+s % 8:=by lia
 have J:0<=s / 8 % (1+s % 8):=C2 _ (by lia);have U:s / 8 % (1+s % 8)<1+s % 8:=C5 _ I;unfold rZ szN;lia
def a8(s w:Int):X2:=
 if s / 64 % 3=1 then(dJ s).take (1+(w+s) % 3).toNat
 else((dJ s).take (rZ s)++[eO<|s / 64+3*(rZ s:Int)+w])++((dJ s).drop<|rZ s+1).take (szN s-(rZ s+1))
def ue(s w:Int):aF (jo<|a8 s w):=by
 have I:(jo<|a8 s w).length=(a8 s w).length:=by rw[<-Txs.len_list];show(a8 s w).toArray.toList.length=_;simp
 have J:(jo<|a8 s w).cps.toList=a8 s w:=by show(a8 s w).toArray.toList=_;simp
 have U:=pN s;obtain⟨g,j,_,_⟩:=Kj s;refine⟨?_,?_,?_⟩
 ·rw[I];unfold a8;split
  ·rw[AJ];omega
  ·rw[Ac,Ac];simp;simp +arith only
 ·rw[I];unfold a8;split
  ·rw[AJ];omega
  ·rw[Ac,Ac,AJ,AJ,BD];simp;lia
 ·rw[J];intro c h;unfold a8 at h;split at h
  ·exact pH s c<|Bz h
  ·rcases An.mp h with h|h
   ·rcases An.mp h with h|h
    ·exact pH s c<|Bz h
    ·rw[Av.mp h];exact zM _
   ·exact pH s c<|Cj<|Bz h
inductive gU(ys:List Y)(L:qi)(Q:YK):Prop
 |mk:∀s w:Int,(ys=[.int s,.int w])->(Q (.str<|jo<|a8 s w) L)->gU ys L Q
def Va{n:Nat}(h:m<=n)(h2:n<=x.length):(Txt.slice x (some (m:Int))<|some (n:Int)).cps.toList=(x.cps.toList.drop m).take (n-m):=by have e:=eY x (some (m:Int))<|some (n:Int);rw[HT.sIx_nat,HT.sIx_nat,BC h2,BC<|AE h h2] at e;exact e
def rM{n:Nat}(h:n<=x.length):(Txt.slice x none<|some (n:Int)).cps.toList=x.cps.toList.take n:=by have e:=eY x none<|some (n:Int);rw[HT.sIx_nat,HT.sIx_none,Df,Eh,BC h] at e;exact e
def Vb:∀ys L Q,gU ys L Q->jf uV.1 7 ys L Q:=by
 rintro ys L Q ⟨s,w,rfl,q⟩;have j:0<1+s % 8:=by lia
 refine⟨(by decide:(0:Int)<8),⟨by decide,by decide⟩,j,⟨by decide,by decide⟩,?_⟩;show yb (af 0 8) _ _ _ _ _ _ _ _;refine yu (m:=8) (λi zs=>zs=((List.range i).map λk:Nat=>Y.str ⟨#[eO<|s / 64+3*(k:Int)]⟩)) (by decide) rfl ?_ ?_
 ·rintro i _ hi rfl;have I:=zR<|s / 64+3*(0+(i:Int));refine⟨⟨by decide,by decide⟩,.inl ⟨by decide,by decide⟩,(by decide:(0:Int)<26),by decide +kernel,?_⟩;walk_at "w";rw[I];refine⟨_,EC _,rfl,?_⟩;rw[List.range_succ,Aw,show(0:Int)+(i:Int)=(i:Int) by simp +arith only];rfl
 ·rintro _ rfl p t;have e0:((List.range 8).map λk:Nat=>Y.str ⟨#[eO<|s / 64+3*(k:Int)]⟩)=((dJ s).map λc=>(⟨#[c]⟩:Str)).map Y.str:=by unfold dJ;rw[BH,BH];rfl
  rw[e0];refine qh q9 ⟨(dJ s).map λc=>(⟨#[c]⟩:Str),rfl,?_,?_⟩
  ·have J:∀U:X2,((U.map λc=>(⟨#[c]⟩:Str)).map (·.length)).sum=U.length:=λU=>by induction U with|nil=>rfl|cons c r ih=>rw[AD,AD,Dr,ih,Au];show 1+r.length=_;exact CO _ _
   rw[J,pN];show 8+_*0<=_;rw[Nat.mul_zero];decide
  ·have g:=Ug<|dJ s;have l:(Txt.join ""<|(dJ s).map λc=>(⟨#[c]⟩:Str)).length=8:=by rw[<-Txs.len_list,g,pN]
   generalize Txt.join "" ((dJ s).map λc=>(⟨#[c]⟩:Str))=base at l g;obtain⟨p1,p2,o,C⟩:=Kj s;refine⟨⟨by decide,by decide⟩,(by decide:(0:Int)<3),?_⟩;refine zo (λc=>?_) λc=>?_
   ·have e:1+(w+s) % 3=((1+(w+s) % 3).toNat:Int):=by lia
    refine⟨(by decide:(0:Int)<3),dY (by lia),bC (By t) ?_⟩;have es:=rM (x:=base) (n:=(1+(w+s) % 3).toNat) (by lia);have eq:Txt.slice base none (some<|1+(w+s) % 3)=jo (a8 s w):=by rw[e];refine(xj _).symm.trans ?_;rw[es,g];unfold a8;rw[AF c]
    rw[<-eq] at q;exact q
   ·have I:=zR<|s / 64+3*(s / 8 % (1+s % 8))+w;refine⟨⟨by decide,by decide⟩,.inl ⟨by decide,by decide⟩,(by decide:(0:Int)<26),by decide +kernel,?_⟩;walk_at "w";rw[I];have T:=rM (x:=base) (n:=rZ s) (by lia);have s2:=Va (x:=base) (m:=rZ s+1) (n:=szN s) (by assumption) (by lia);have l1:(Txt.slice base none<|some (rZ s:Int)).length=rZ s:=by rw[<-Txs.len_list,T,AJ,Txs.len_list];lia
    have l2:(Txt.slice base (some ((rZ s+1:Nat):Int))<|some (szN s:Int)).length<=8:=by rw[<-Txs.len_list,s2,AJ];lia
    refine⟨dY (by lia),?_⟩;refine⟨dY (by rw[o,l1];show rZ s+1<=1000;lia),?_⟩;refine⟨dY (by lia),?_⟩;have J:((rZ s:Int)+1)=((rZ s+1:Nat):Int):=by rfl
    have l3:(Txt.slice base none (some (rZ s:Int))++(⟨#[eO<|s / 64+3*(s / 8 % (1+s % 8))+w]⟩:Str)).length=rZ s+1:=by rw[PySem.Str.length_append,l1];rfl
    refine⟨dY ?_,bC (By t) ?_⟩
    ·rw[o] at l3 ⊢;rw[l3,J,C];lia
    ·have eq:(Txt.slice base none (some (rZ s:Int))++(⟨#[eO<|s / 64+3*(rZ s:Int)+w]⟩:Str))++Txt.slice base (some ((rZ s+1:Nat):Int)) (some (szN s:Int))=jo (a8 s w):=by
      refine(xj _).symm.trans ?_;have ca:∀a b:Str,(a++b).cps.toList=a.cps.toList++b.cps.toList:=λa b=>by show(a.cps++b.cps).toList=_;simp
      rw[ca,ca,T,s2,g];unfold a8;rw[AA c]
     rw[o,J,C,eq];exact q
def Vc(t t':Bool)(n I:Str):Da.eq (o5<|.leaf t n) (o5<|.leaf t' I)=(decide (t=t')&&decide (n=I)):=by
 by_cases h:n=I
 ·subst h;cases t<;>cases t'<;>simp[o5,Da.eq,Da.eqs,gH,kL]<;>decide +kernel
 ·cases t<;>cases t'<;>simp[o5,Da.eq,Da.eqs,gH,kL,h]<;>decide +kernel
theorem jB{α β:Type}(f:α->β):∀(l:List α) (n:Nat),(l.map f).eraseIdx n=(l.eraseIdx n).map f
 |[],n=>by simp
 |_::_,0=>rfl
 |x::r,n+1=>by rw[AD,Cr,Cr,AD,jB f r n]
def aJ(a:ja)(b:Y)(r:List<|ja×Y)(k:ja):aX ((a,b)::r) k=if a=k then some b else aX r k:=by
 unfold aX;rw[BK];by_cases h:a=k
 ·rw[AF h,show decide ((a,b).1=k)=true from Ax h];rfl
 ·rw[AA h,show decide ((a,b).1=k)=false from Ar h]
theorem u5(k J:ja)(y:Y):∀kvs:List (ja×Y),aX (kvs.map λU=>if U.1=k then(U.1,y) else U) J=if J=k then(aX kvs J).map (λ_=>y) else aX kvs J
 |[]=>by rw[CA];split<;>rfl
 |(a,b)::r=>by
  have g:=u5 k J y r;rw[AD,aJ];by_cases h:a=k
  ·rw[AF<|show(a,b).1=k from h,aJ,g];by_cases I:J=k
   ·rw[AF I,AF I,AF<|h.trans I.symm,AF<|h.trans I.symm];rfl
   ·rw[AA I,AA I,AA λz=>I<|z.symm.trans h,AA λz=>I<|z.symm.trans h]
  ·rw[AA<|show ¬(a,b).1=k from h,aJ,g];by_cases I:J=k
   ·rw[AF I,AF I,AA λz=>h<|z.trans I,AA λz=>h<|z.trans I]
   ·rw[AA I,AA I]
theorem wY(k I:ja)(y:Y):∀kvs:List (ja×Y),aX (kvs++[(k,y)]) I=(aX kvs I).or (if k=I then some y else none)
 |[]=>by rw[BZ,aJ];have:aX [] I=none:=rfl;rw[this];split<;>rfl
 |(a,b)::r=>by rw[List.cons_append,aJ,aJ,wY k I y r];split<;>rfl
theorem ud(k:ja):∀kvs:List (ja×Y),(kvs.any λI=>decide<|I.1=k)=(aX kvs k).isSome
 |[]=>rfl
 |(a,b)::r=>by
  rw[Cn,aJ,ud k r];by_cases h:a=k
  ·rw[AF h,show decide ((a,b).1=k)=true from Ax h];rfl
  ·rw[AA h,show decide ((a,b).1=k)=false from Ar h];rfl
def Vd(kvs:List<|ja×Y)(k I:ja)(y:Y):aX (qL kvs k y) I=if I=k then some y else aX kvs I:=by
 unfold qL;rw[ud];cases e:aX kvs k with
 |some v=>
  rw[AF<|show(some v).isSome=true from rfl,u5];by_cases h:I=k
  ·rw[AF h,AF h,h,e];rfl
  ·rw[AA h,AA h]
 |none=>
  rw[AA (by simp),wY];by_cases h:I=k
  ·rw[AF h,h,e,AF rfl];rfl
  ·rw[AA h,AA λz=>h z.symm];cases aX kvs I<;>rfl
def Ve(kvs:List<|ja×Y)(k:ja)(y:Y):(qL kvs k y).length<=kvs.length+1:=by
 unfold qL;split
 ·rw[Ab];omega
 ·rw[Ac];simp
def ph(I:x5)(p1:x5):dR:=(xa (vo Jk<|qp 5)
 (xa (vo (gd jn)<|qp 6)
 (xa (zD (cz<|xw I<|gJ (ql 0)<|ql 3) (qp 7) (rh (fO (qB (yB<|ql 4)<|e_ (a9 sw (xw p1<|qr (ql 3)<|gJ (ql 7)<|cD 40692)<|cD 3)<|cD 0) (aA<|lO jq (ql 6)<|ix<|yC .non) fT)
 (xa (Jl (ql 5) (ql 7)<|yP 6)
 (xa (vo (a9 h_ (ql 0)<|ql 7)<|qp 8)
 (rh (fO (qB (yB<|oz true<|ql 8)<|e_ (yP 8)<|cD 3) (vo (cX<|qr (fg 8 0)<|qr (gn (ql 5)<|fg 8 1)<|qr (gn (ql 5)<|fg 8 2) jn)<|qp 8) fT)
 (aA<|lO jq (ql 6)<|ix<|ql 8))))))
 (xa (Gi 7<|vo (rD dk<|qr (u_ 2 (cz<|ql 1) (f8 2<|jx (qp 9)<|jx (qp 10) dF) FU<|cX<|qr (rD Fu<|qr (gn (ql 5)<|ql 9)<|qr (gn (ql 5)<|ql 10) jn)<|qr (rD E9<|qr (gn (ql 5)<|ql 9)<|qr (gn (ql 5)<|ql 10) jn) jn) jn)<|qp 1)
 (xa (Gi 7<|vo (rD dk<|qr (u_ 2 (cz<|ql 2) (f8 2<|jx (qp 9)<|jx (qp 10) dF) FU<|cX<|qr (gn (ql 5)<|ql 9)<|qr (gn (ql 5)<|ql 10) jn) jn)<|qp 2)
 (oG<|cX<|qr (a9 vJ (ql 6)<|u_ 1 (zJ<|qr (rD Hm<|ix<|ql 4) jn) (qp 9) FU<|yC .non)<|gJ (ql 1)<|ql 2))))))
def jX(f:X_):Yp->Yp
 |some (.nd e i j)=>some<|.nd e (f i)<|f j
 |k=>k
theorem yi{f g:X_}:∀{k:Yp},(∀e i j,k=some (.nd e i j)->f i=g i/\f j=g j)->jX f k=jX g k
 |none,_=>rfl
 |some (.lf _ _),_=>rfl
 |some (.nd e i j),h=>by obtain⟨a,b⟩:=h e i j rfl;show some (Kn.nd e (f i)<|f j)=some (Kn.nd e (g i)<|g j);rw[a,b]
structure uR(ks:List<|Yp)(ps:X2)(f:X_)(wd:List<|Yp):Prop where
 at_:∀p∈ps,∀k,ks[p]?=some k->wd[f p]?=some (jX f k)
 inj:∀p∈ps,∀q∈ps,f p=f q->p=q
 only:∀x k,wd[x]?=some (some k)->∃p∈ps,x=f p
 ok:qF wd
def uR.nil(ks:List<|Yp)(f:X_):uR ks [] f []:=⟨λp I=>(Bh I).elim,λp I=>(Bh I).elim,λx k h=>(by simp at h),λp e i j h=>(by simp at h)⟩
def qF.gap(h:qF wd):qF (wd++[none]):=by
 intro p e i j I;by_cases c:p<wd.length
 ·rw[AC c] at I;exact h p e i j I
 ·rw[AI (by exact Fs)] at I;cases J:p-wd.length with|zero=>rw[J] at I;cases I|succ m=>rw[J] at I;cases I
theorem uR.gap{ks:List<|Yp}{ps:X2}{f:X_}(h:uR ks ps f wd):uR ks ps f (wd++[none]):=by
 refine⟨λp U k g=>jY<|h.at_ p U k g,h.inj,λx k I=>?_,h.ok.gap⟩;by_cases c:x<wd.length
 ·rw[AC c] at I;exact h.only x k I
 ·rw[AI (by lia)] at I;cases J:x-wd.length with|zero=>rw[J] at I;cases I|succ m=>rw[J] at I;cases I
def uR.lt{ks:List<|Yp}{ps:X2}{f:X_}(h:uR ks ps f wd){p:Nat}(I:p∈ps)(J:p<ks.length):f p<wd.length:=zd<|h.at_ p I _<|Ag J
def uR.step{ks:List<|Yp}{ps:X2}{f:X_}(h:uR ks ps f wd)(r:∀p∈ps,p<ks.length){p:Nat}{k:Yp}(C:p∉ps)(T:ks[p]?=some k)(o:∀x∈ps,∀e i j,ks[x]?=some (some<|.nd e i j)->i∈ps/\j∈ps)(J:∀e i j,k=some (.nd e i j)->i∈ps/\j∈ps):
 uR ks (ps++[p]) (λx=>if x=p then wd.length else f x) (wd++[jX f k]):=by
 have old:∀x∈ps,(if x=p then wd.length else f x)=f x:=λx I=>AA λ(c:x=p)=>C<|c▸I;have ren:∀l,(∀e i j,l=some (.nd e i j)->i∈ps/\j∈ps)->jX (λx=>if x=p then wd.length else f x) l=jX f l:=λl U=>yi λe i j z=>by obtain⟨a,b⟩:=U e i j z;exact⟨old i a,old j b⟩
 refine⟨λx I l U=>?_,λx I y g e=>?_,λx l I=>?_,λx e i j I=>?_⟩
 ·rcases An.mp I with I|I
  ·show(wd++[jX f k])[if x=p then wd.length else f x]?=_;rw[old x I,ren l λe i j z=>o x I e i j (by rw[U,z])];exact jY<|h.at_ x I l U
  ·have I:=Av.mp I;subst I;rw[T] at U;cases U;show(wd++[jX f k])[if x=x then wd.length else f x]?=_;rw[AF rfl,ren k J];exact cf wd _ []
 ·have e:(if x=p then wd.length else f x)=if y=p then wd.length else f y:=e
  rcases An.mp I with I|I<;>rcases An.mp g with g|g
  ·rw[old x I,old y g] at e;exact h.inj x I y g e
  ·cases Av.mp g;rw[old x I,AF rfl] at e;have:=h.lt I<|r x I;lia
  ·cases Av.mp I;rw[old y g,AF rfl] at e;have:=h.lt g<|r y g;lia
  ·rw[Av.mp I,Av.mp g]
 ·by_cases c:x<wd.length
  ·rw[AC c] at I;obtain⟨q,t,e⟩:=h.only x l I;exact⟨q,Ay _ t,by rw[e];exact(old q t).symm⟩
  ·refine⟨p,Al _<|Av.mpr rfl,?_⟩;have:=zd I;rw[Ac] at this;have:x<wd.length+1:=this;show x=if p=p then wd.length else f p
   rw[AF rfl];lia
 ·by_cases c:x<wd.length
  ·rw[AC c] at I;exact h.ok x e i j I
  ·have:=zd I;rw[Ac] at this;have:x<wd.length+1:=this;have:x=wd.length:=by lia
   subst this;rw[AI<|Ak _,CB] at I;have I:jX f k=some (.nd e i j):=Bb I;cases k with
   |none=>cases I
   |some k=>
    cases k with
    |lf=>cases I
    |nd e' i' j'=>
     obtain⟨a,b⟩:=J e' i' j' rfl;cases I;exact⟨h.lt a<|r _ a,h.lt b<|r _ b⟩
def nR{ks:List<|Yp}(ok:qF ks)(pm:qs.Perm<|List.range ks.length)(g:cL ks qs){n:Nat}{p:Nat}(J:qs[n]?=some p){e:Bool}(h:ks[p]?=some (some<|.nd e i j)):i∈qs.take n/\j∈qs.take n:=by
 obtain⟨T,l2⟩:=ok p e i j h;have hl:=zd h;have r:=zd J;have ind:∀x,x<ks.length->x≠p->(∀y∈qs.drop (n+1),y≠x)->x∈qs.take n:=λx C ne l=>by
  have I:x∈qs:=pm.mem_iff.mpr<|A2.mpr C;have o:qs=qs.take n++p::qs.drop (n+1):=by rw[Ag r] at J;rw[<-Bb J,Dg,A1]
  rw[o] at I;rcases An.mp I with I|I
  ·exact I
  ·rcases Ap.mp I with I|I
   ·exact absurd I ne
   ·exact absurd rfl<|l x I
 have t:∀y∈qs.drop (n+1),y≠i/\y≠j:=λy U=>by
  have o:qs=qs.take n++p::qs.drop (n+1):=by rw[Ag r] at J;rw[<-Bb J,Dg,A1]
  unfold cL at g;rw[o] at g;have:=(AU.mp g).2.1;exact(List.pairwise_cons.mp this).1 y U e i j h
 exact⟨ind i (by exact tW) (by exact Im) λy U=>(t y U).1,ind j (by exact tW) (by exact Im) λy U=>(t y U).2⟩
def Kk:RD "_law_join" l6 0 ["_law_knots","_law_forest","_law_one","_law_two","_law_first","_law_second","_law_left","_law_right","_law_ends"] (λ_=>True):=⟨_,λV B c _ _ _ _ _ _ _ I hN J=>(qa (S_ 4 hN<|bp (qv 1)<|zx<|qk jh (qv 3)<|L_ B.ba<|qv 1)<|qa (S_ 5 hN<|bp (qv 1)<|zx<|qk jh (qv 2)<|L_ B.ba<|qv 1)<|qa (aa (i:=6) hN rfl (Or.inr rfl)<|I_ (J_ 4)<|qk jh (qk v4 (qv 3) qe)<|L_ B.ba<|J_ 4)<|qa (aa (i:=7) hN rfl (Or.inr rfl)<|I_ (J_ 5)<|qk jh (qk v4 (qv 2) qe)<|L_ B.ba<|J_ 5)<|qa (qw<|qx (qv 0)<|zx<|zf<|ag qo (qv 6)<|qv 7)<|qa (a7 ["_law_p"] (i:=8) hN rfl (Or.inl rfl) (EI (by rfl)) rfl (j9<|qk j7 (J_ 4)<|J_ 5) (fK 9) (λ_ _ _ _=>cV<|jl (oZ _ _ _) (qv 9) (zf<|v5 (qv 6)<|qv 7) (by with_unfolding_all rfl)) λ_ _ _ _=>(qv 9))<|qc<|qw<|qx (qv 1)<|zx<|zc<|v5 (zf<|xl qo<|ag (qk aw (L_ B.ba<|qv 0) qe) (J_ 4)<|J_ 5)<|qk j7 (qv 8)<|zc<|zx<|qk aw (L_ B.ba<|qv 0) qe)⟩
def Kl:RD "_law_fold" lh 0 ["_law_knots","_law_tree_here","_law_one","_law_two","_law_left","_law_right"] (λ_=>True):=⟨_,λV B c _ _ _ _ _ _ _ I hN J=>(qa (ze (jl iJ (L_ B.ba<|J_ 1) qe<|jk _) (qc IT) qt)<|qa (S_ 4 hN<|bp (J_ 1)<|zx<|qk jh (qv 3)<|L_ B.ba<|J_ 1)<|qa (S_ 5 hN<|bp (J_ 1)<|zx<|qk jh (qv 2)<|L_ B.ba<|J_ 1)<|qa (qw<|qx (qv 0)<|zx<|zf<|ag qo (qv 4)<|qv 5)<|qa (Sj (qv 1) qe<|zf<|ag qo (qk aw (L_ B.ba<|qv 0) qe)<|J_ 1)<|qc<|qw<|qx (J_ 1)<|zx<|qk aw (L_ B.ba<|qv 0) qe)⟩
theorem bx{ks:Yo}:∀{w v:Wd} {p:Nat},cw ks p w->cw ks p v->w=v
 |.leaf t n,.leaf g C,p,h,k=>by
  have h:(v9 ks)[p]?=some (.tup [.str<|kL t,.str n]):=h;have k:(v9 ks)[p]?=some (.tup [.str<|kL g,.str C]):=k;rw[h] at k;injection k with k;injection k with k;injection k with J I;injection I with I _
  injection J with J;injection I with I
  have:t=g:=by cases t<;>cases g<;>first|rfl|(exfalso;revert J;decide +kernel)
  rw[this,I]
 |.leaf t n,.node e l r,p,h,k=>by obtain⟨i,j,k,_⟩:=k;have h:(v9 ks)[p]?=some (.tup [.str<|kL t,.str n]):=h;rw[h] at k;injection k with k;injection k with k;injection k with _ k;injection k with _ k;cases k
 |.node e l r,.leaf t n,p,h,k=>by obtain⟨i,j,h,_⟩:=h;have k:(v9 ks)[p]?=some (.tup [.str<|kL t,.str n]):=k;rw[h] at k;injection k with k;injection k with k;injection k with _ k;injection k with _ k;cases k
 |.node e l r,.node o l' r',p,⟨i,j,h,T,hr⟩,⟨i',j',k,kl,kr⟩=>by
  rw[h] at k;injection k with k;injection k with k;injection k with J I;injection I with I U;injection U with U _
  injection J with J;injection I with I;injection U with U
  have e1:i=i':=by lia
  have e2:j=j':=by lia
  subst e1 e2;have:e=o:=by cases e<;>cases o<;>first|rfl|(exfalso;revert J;decide +kernel)
  rw[this,bx (ks:=ks) T kl,bx (ks:=ks) hr kr]
theorem nI{ks:Yo}(I:aZ ks):∀(m p:Nat),p<m->p<ks.length->∃w,cw ks p w/\w.depth<=p+1/\w.ok
 |0,p,h,_=>absurd h (by lia)
 |m+1,p,h,g=>by
  obtain⟨k,J⟩:∃k,ks[p]?=some k:=⟨_,Ag g⟩;have U:=I p k J;cases k with
  |lf t n=>exact⟨.leaf t n,cw.leaf J,by show 1<=p+1;exact B3 _,U⟩
  |nd e i j=>
   have U:i<p/\j<p:=U;obtain⟨l,o,T,C⟩:=nI I m i (by lia) (by omega);obtain⟨r,b1,b2,b3⟩:=nI I m j (by lia) (by lia);exact⟨.node e l r,EY J o b1,by show max l.depth r.depth+1<=p+1;lia,C,b3⟩
def TV(v:Str->Bool):Wd->Bool
 |.leaf t n=>if t=true then !v n else v n
 |.node e l r=>if e=true then TV v l||TV v r else TV v l&&TV v r
theorem mz(v:Str->Bool):∀w:Wd,TV v w.turn=!TV v w
 |.leaf t n=>by cases t<;>simp[Wd.turn,TV]
 |.node e l r=>by cases e<;>simp[Wd.turn,TV,mz v l,mz v r]
theorem SR.lt{E:X2}(h:SR ks R E):∀x∈qy R,x<ks.length:=by
 have lt:∀{p:Nat} {k:Kn},ks[p]?=some k->p<ks.length:=λh=>(AM.mp h).1
 induction h with
 |link _ j l _ _=>intro x I;simp[qy] at I;rcases I with rfl|rfl;exact lt j;exact lt l
 |ei g _ _ _ _ _ _ o=>intro x I;rcases Ap.mp I with rfl|I;exact lt g;exact o x I
 |bo g _ _ _ _ _ _ J U=>
  intro x I;rcases Ap.mp I with rfl|I
  ·exact lt g
  ·rcases An.mp I with I|I
   ·exact J x I
   ·exact U x I
 |cu _ _ _ _ _ _ _ _ J U=>
  intro x I;rcases An.mp I with I|I
  ·exact J x I
  ·exact U x I
theorem SR.tv(hk:aZ ks)(v:Str->Bool){E:X2}(h:SR ks R E):∃x∈E,∃w,cw ks x w/\TV v w=true:=by
 have ex:∀{R':Ru} {E':X2},SR ks R' E'->∀x∈E',∃w,cw ks x w:=λs x U=>by obtain⟨w,hw,_⟩:=nI hk (x+1) x (by exact BE _)<|s.lt x<|s.sub x U;exact⟨w,hw⟩
 induction h with
 |@link p q t n E _ h2 h3 h4 _=>
  cases ht:TV v (.leaf t n) with
  |true=>exact⟨p,(h4 p).mpr<|.inl rfl,_,cw.leaf h2,ht⟩
  |false=>
   refine⟨q,(h4 q).mpr<|.inr rfl,_,cw.leaf h3,?_⟩;have:=mz v<|.leaf t n;rw[ht] at this;exact this
 |@ei r i j A EA E h1 hA hi hj _ g _ ih=>
  obtain⟨x,U,w,hw,tv⟩:=ih;obtain⟨wi,l⟩:=ex hA i hi;obtain⟨wj,o⟩:=ex hA j hj;by_cases I:x=i
  ·subst I;rw[bx hw l] at tv;exact⟨r,(g r).mpr<|.inr rfl,_,EY h1 l o,by simp[TV,tv]⟩
  ·by_cases J:x=j
   ·subst J;rw[bx hw o] at tv;exact⟨r,(g r).mpr<|.inr rfl,_,EY h1 l o,by simp[TV,tv]⟩
   ·exact⟨x,(g x).mpr<|.inl ⟨U,I,J⟩,w,hw,tv⟩
 |@bo r i j A B EA EB E h1 hA hB hi hj g _ C T=>
  obtain⟨x,U,w,hw,tv⟩:=C;obtain⟨y,hy,u,hu,tu⟩:=T;by_cases I:x=i
  ·by_cases J:y=j
   ·subst I J;exact⟨r,(g r).mpr<|.inr<|.inr rfl,_,EY h1 hw hu,by simp[TV,tv,tu]⟩
   ·exact⟨y,(g y).mpr<|.inr<|.inl ⟨hy,J⟩,u,hu,tu⟩
  ·exact⟨x,(g x).mpr<|.inl ⟨U,I⟩,w,hw,tv⟩
 |@cu p q A B EA EB E w0 hA hB hp hq a0 a1 h7 _ C T=>
  obtain⟨x,U,w,hw,tv⟩:=C;obtain⟨y,hy,u,hu,tu⟩:=T;by_cases I:x=p
  ·by_cases J:y=q
   ·subst I J;rw[bx hw a0] at tv;rw[bx hu a1,mz,tv] at tu;cases tu
   ·exact⟨y,(h7 y).mpr<|.inr ⟨hy,J⟩,u,hu,tu⟩
  ·exact⟨x,(h7 x).mpr<|.inl ⟨U,I⟩,w,hw,tv⟩
def SR.ends(I:aZ ks){E:X2}(h:SR ks R E):0<E.length:=by obtain⟨x,J,_⟩:=h.tv I λ_=>true;exact List.length_pos_of_mem J
structure Tr where
 a:Addr
 b:Addr
 R:Ru
 E:X2
abbrev Yq:=List Tr
abbrev zr(E:X2):List Y:=E.map λn:Nat=>Y.int (n:Int)
def Tr.ads(t:Tr):List Addr:=[t.a,t.b]
structure bD(L0 L:qi)(ka fa:Addr)(ks:Yo)(fo:Yq):Prop where
 hk:L ka=some (.lst<|v9 ks)
 ht:∀t∈fo,L t.a=some (.lst [je t.R,.ref t.b])/\L t.b=some (.lst<|zr t.E)
 sr:∀t∈fo,SR ks t.R t.E
 nd:(fo.flatMap λt=>qy t.R).Nodup
 tm:∀x,x∈(fo.flatMap λt=>qy t.R)↔x<ks.length
 ad:(ka::fa::fo.flatMap Tr.ads).Nodup
 ok:aZ ks
 sub:qf L0 L
 fr:∀x∈ka::fa::fo.flatMap Tr.ads,L0 x=none
def zn(fo:Yq):List Y:=fo.map λt=>Y.ref t.a
structure qN(L0 L:qi)(ka fa:Addr)(ks:Yo)(fo:Yq):Prop where
 b:bD L0 L ka fa ks fo
 hf:L fa=some (.lst<|zn fo)
def Fi:Ru->Prop
 |.link _ _=>True
 |.ei _ A=>Fi A
 |.bo _ A B=>Fi A/\Fi B
 |.cu _ _ _ _=>False
def Km(ks:Yo)(fo:Yq)(I:Yo)(fo':Yq):Prop:=(∃ms:Yo,I=ks++ms/\∀k∈ms,∃e i j,k=.nd e i j)/\((∀t∈fo,Fi t.R)->∀t∈fo',Fi t.R)
def bD.perm{fo fo':Yq}(h:bD L0 L ka fa ks fo)(p:fo.Perm fo'):bD L0 L ka fa ks fo':=by have J:(fo.flatMap λt=>qy t.R).Perm (fo'.flatMap λt=>qy t.R):=p.flatMap_right _;have U:(fo.flatMap Tr.ads).Perm (fo'.flatMap Tr.ads):=p.flatMap_right _;refine⟨h.hk,λt I=>h.ht t<|p.mem_iff.mpr I,λt I=>h.sr t<|p.mem_iff.mpr I,J.nodup_iff.mp h.nd,λx=>by rw[<-J.mem_iff];exact h.tm x,((U.cons _).cons _).nodup_iff.mp h.ad,h.ok,h.sub,λx g=>h.fr x<|((U.cons _).cons _).mem_iff.mpr g⟩
end L3
variable {fo rest:List L3.Tr}
namespace L3
open PySem L2 Words
theorem xf{α:Type}:∀{l:List α} {j:Nat} {x:α},l[j]?=some x->l.Perm (x::l.eraseIdx j)
 |[],_,_,h=>by simp at h
 |y::r,0,x,h=>by
  have:y=x:=by simpa using h
  subst this;exact .refl _
 |y::r,j+1,x,h=>by have I:=xf (l:=r) (j:=j) (x:=x) (by simpa using h);rw[Cr];exact(I.cons y).trans (.swap _ _ _)
def oT(fo:Yq)(j:Nat):(zn fo).eraseIdx j=zn (fo.eraseIdx j):=jB _ fo j
theorem qf.none(s:qf L L'){p:Addr}(h:L' p=none):L p=none:=by cases z:L p with|none=>rfl|some o=>rw[s _ _ z] at h;cases h
def bD.nkf(h:bD L0 L ka fa ks fo):ka≠fa:=by have ad:=h.ad;rw[AH] at ad;exactλe=>ad.1<|e▸Ao ..
def bD.nk(h:bD L0 L ka fa ks fo):∀t∈fo,t.a≠fa/\t.b≠fa/\t.a≠ka/\t.b≠ka:=λt I=>by have ad:=h.ad;rw[AH,AH] at ad;have J:t.a∈fo.flatMap Tr.ads:=Bw.mpr ⟨t,I,by simp[Tr.ads]⟩;have U:t.b∈fo.flatMap Tr.ads:=Bw.mpr ⟨t,I,by simp[Tr.ads]⟩;exact⟨λe=>ad.2.1<|e▸J,λe=>ad.2.1<|e▸U,λe=>ad.1<|Af _<|e▸J,λe=>ad.1<|Af _<|e▸U⟩
def bD.setF(h:bD L0 L ka fa ks fo)(o:LO):bD L0 (qg L fa o) ka fa ks fo:=by
 refine⟨by rw[qd h.nkf];exact h.hk,λt I=>?_,h.sr,h.nd,h.tm,h.ad,h.ok,λb u e=>?_,h.fr⟩
 ·obtain⟨J,U,_,_⟩:=h.nk t I;rw[qd J,qd U];exact h.ht t I
 ·have:b≠fa:=λz=>by rw[z,h.fr fa (by simp)] at e;cases e
  rw[qd this];exact h.sub _ _ e
def bD.mono(h:bD L0 L ka fa ks fo)(s:qf L L'):bD L0 L' ka fa ks fo:=
 ⟨s _ _ h.hk,λt I=>⟨s _ _ (h.ht t I).1,s _ _ (h.ht t I).2⟩,h.sr,h.nd,h.tm,h.ad,h.ok,h.sub.trans s,h.fr⟩
def bD.exs(h:bD L0 L ka fa ks fo):∀z∈fo.flatMap Tr.ads,∃o,L z=some o:=λz I=>by
 obtain⟨t,J,I⟩:=Bw.mp I;obtain⟨U,g⟩:=h.ht t J;have I:z=t.a\/z=t.b:=by simpa[Tr.ads] using I
 rcases I with rfl|rfl
 ·exact⟨_,U⟩
 ·exact⟨_,g⟩
def Vf{l:List Addr}(nd:l.Nodup)(ex:∀z∈l,∃o,L z=some o)(U:L pa=none)(g:L pb=none)(ne:pa≠pb):(l++[pa,pb]).Nodup:=by
 rw[Az];refine⟨nd,by simp[ne],λu j v J e=>?_⟩;subst e;obtain⟨o,I⟩:=ex u j;simp at J;rcases J with rfl|rfl
 ·rw[U] at I;cases I
 ·rw[g] at I;cases I
def bD.step{old:Yq}{t':Tr}(h:bD L0 L ka fa ks<|old++rest)(C:L' ka=some (.lst<|v9<|ks++ms))(T:L' t'.a=some (.lst [je t'.R,.ref t'.b])/\L' t'.b=some (.lst<|zr t'.E))
 (keep:∀t∈rest,L' t.a=L t.a/\L' t.b=L t.b) (sub:qf L0 L') (ad:(ka::fa::(rest++[t']).flatMap Tr.ads).Nodup) (fr:∀x∈t'.ads,L0 x=none) (ok:aZ<|ks++ms) (sr:SR (ks++ms) t'.R t'.E)
 (tp:(qy t'.R).Perm<|List.range' ks.length ms.length++old.flatMap λt=>qy t.R):bD L0 L' ka fa (ks++ms) (rest++[t']):=by
 have U:=h.nd;have g:=h.tm;rw[AO] at U;have r:((rest++[t']).flatMap λt=>qy t.R)=(rest.flatMap λt=>qy t.R)++qy t'.R:=by rw[AO];simp
 have mem:∀x,x∈qy t'.R↔(ks.length<=x/\x<ks.length+ms.length)\/x∈(old.flatMap λt=>qy t.R):=λx=>by rw[tp.mem_iff,An,Dh]
 refine⟨C,λt J=>?_,λt J=>?_,?_,λx=>?_,ad,ok,sub,λx I=>?_⟩
 ·rcases An.mp J with J|J
  ·obtain⟨k1,k2⟩:=keep t J;rw[k1,k2];exact h.ht t<|Al _ J
  ·rw[Av.mp J];exact T
 ·rcases An.mp J with J|J
  ·exact(h.sr t<|Al _ J).more _
  ·rw[Av.mp J];exact sr
 ·rw[r,Az];rw[Az] at U;refine⟨U.2.1,tp.nodup_iff.mpr ?_,λx I y j e=>?_⟩
  ·rw[Az];refine⟨DM,U.1,λx I y j e=>?_⟩;have I:=Dh.mp I;have j:=(g y).mp (by rw[AO];exact Ay _ j);lia
  ·subst e;rcases (mem x).mp j with j|j
   ·have:=(g x).mp (by rw[AO];exact Al _ I);lia
   ·exact U.2.2 x j x I rfl
 ·rw[r,An,mem,Ac];have o:=g x;rw[AO,An] at o;constructor
  ·rintro(l|l|l)
   ·have:=o.mp<|.inr l;exact GO
   ·lia
   ·have:=o.mp<|.inl l;lia
  ·intro l;by_cases c:x<ks.length
   ·rcases o.mpr c with p|p
    ·exact .inr<|.inr p
    ·exact .inl p
   ·exact .inr<|.inl (by lia)
 ·rcases Ap.mp I with rfl|I
  ·exact h.fr _<|Ao ..
  ·rcases Ap.mp I with rfl|I
   ·exact h.fr _<|Af _<|Ao ..
   ·rw[AO] at I;rcases An.mp I with I|I
    ·exact h.fr _ (Af _ (Af _ (by rw[AO];exact Al _ I)))
    ·exact fr x (by simpa using I)
def bD.put{M:qi}{old:Yq}{E:X2}{fs:LO}(h:bD L0 L ka fa ks<|old++rest)(U:∀z o,z≠ka->L z=some o->M z=some o)(g:M ka=some (.lst<|v9<|ks++ms))(r:M fa=some fs)(na:M pa=none)(nb:M pb=none)(ne:pa≠pb)(s:qf M L')(C:L' pa=some (.lst [je R,.ref pb]))(T:L' pb=some (.lst<|zr E))
 (ok:aZ<|ks++ms) (sr:SR (ks++ms) R E) (tp:(qy R).Perm<|List.range' ks.length ms.length++old.flatMap λt=>qy t.R):bD L0 L' ka fa (ks++ms) (rest++[⟨pa,pb,R,E⟩]):=by
 have J:∀z o,L0 z=some o->M z=some o:=λz o e=>U _ _ (λw=>by rw[w,h.fr ka (by simp)] at e;cases e)<|h.sub _ _ e;have two:∀z,z∈(⟨pa,pb,R,E⟩:Tr).ads->M z=none:=λz I=>by
  have I:z=pa\/z=pb:=by simpa[Tr.ads] using I
  rcases I with rfl|rfl<;>assumption
 refine bD.step (old:=old) (t':=⟨pa,pb,R,E⟩) h (s _ _ g) ⟨C,T⟩ (λt j=>?_) (λz o e=>s _ _<|J z o e) ?_ (λz I=>?_) ok sr tp
 ·obtain⟨_,_,n3,n4⟩:=h.nk t<|Al _ j;obtain⟨l,p⟩:=h.ht t<|Al _ j;rw[l,p];exact⟨s _ _<|U _ _ n3 l,s _ _<|U _ _ n4 p⟩
 ·have ad:=h.ad;rw[AO] at ad;have:=Vf (L:=M) ((((List.sublist_append_right ..).cons_cons _).cons_cons _).nodup ad) (λz I=>?_) na nb ne
  ·rw[AO];simpa[Tr.ads] using this
  ·rcases Ap.mp I with rfl|I
   ·exact⟨_,g⟩
   rcases Ap.mp I with rfl|I
   ·exact⟨_,r⟩
   obtain⟨o,e⟩:=h.exs z (by rw[AO];exact Al _ I);exact⟨o,U _ _ (λw=>(AH.mp ad).1 (by rw[<-w];exact Af _<|Al _ I)) e⟩
 ·cases e:L0 z with|none=>rfl|some o=>have w:=J z o e;rw[two z I] at w;cases w
inductive nF(ys:List Y)(L:qi)(Q:YK):Prop
 |mk:∀L0 ka fa ks fo,∀one two:Int,(ys=[.ref ka,.ref fa,.int one,.int two])->(qN L0 L ka fa ks fo)->(2<=fo.length)->(fo.length<=200)->(ks.length<=200)->(∀L' ks' fo',qN L0 L' ka fa ks' fo'->ks'.length=ks.length+1->fo'.length+1=fo.length->Km ks fo ks' fo'->Q .non L')->nF ys L Q
def jA{l:List α}(h:0<l.length)(k:Int):∃(j:Nat) (x:α),k % (l.length:Int)=(j:Int)/\j<l.length/\l[j]?=some x:=by have I:0<=k % (l.length:Int):=C2 _ (by lia);have J:k % (l.length:Int)<(l.length:Int):=C5 _ (by omega);refine⟨(k % (l.length:Int)).toNat,l[(k % (l.length:Int)).toNat]'(by lia),by lia,by lia,Ag (by lia)⟩
theorem bG:∀(n:Nat) (l:X2),l.Nodup->(∀x∈l,x<n)->l.length<=n
 |0,l,_,h=>by cases l with|nil=>exact Ak _|cons x r=>exact absurd (h x<|Ao ..) (by lia)
 |n+1,l,nd,h=>by
  by_cases c:n∈l
  ·have p:=List.perm_cons_erase c;have J:=bG n (l.erase n) (nd.erase n) λx I=>by have:=(List.Nodup.mem_erase_iff nd).mp I;have:=h x this.2;lia
   rw[p.length_eq,Au];exact vB
  ·exact De (bG n l nd λx I=>by have:=h x I;have:x≠n:=λe=>c<|e▸I;lia)
def ax(h:bD L0 L ka fa ks fo){t:Tr}(I:t∈fo):0<t.E.length/\t.E.length<=ks.length:=by have s:=h.sr t I;exact⟨s.ends h.ok,bG _ _ s.nod λx J=>s.lt x<|s.sub x J⟩
def Vg(x l r:Nat):xG (fS<|.int (x:Int)) (([.int (l:Int),.int (r:Int)]:List Y).map fS)=decide (x=l\/x=r):=by
 show(gH (.int (l:Int)) (.int (x:Int))||(gH (.int (r:Int)) (.int (x:Int))||false))=_;have e:∀a b:Nat,gH (.int (a:Int)) (.int (b:Int))=decide (b=a):=λa b=>by
  show decide ((a:Int)=(b:Int))=decide (b=a);by_cases c:b=a
  ·subst c;simp
  ·rw[Ar c];apply Ar;lia
 rw[e,e];by_cases I:x=l<;>by_cases J:x=r<;>simp[I,J]
def sn{E:X2}(h:0<E.length)(k:Int):∃x,x∈E/\jU (zr E) (k % ((zr E).length:Int))=some (.int ((x:Nat):Int)):=by obtain⟨j,x,I,J,ex⟩:=jA h k;refine⟨x,AB ex,?_⟩;rw[Ab,I];exact vd (by rw[Ai,ex];rfl)
def kg(E1 E2:X2)(l r:Nat):X2:=(E1++E2).filter λx=>!decide (x=l\/x=r)
def Ko{U:Addr}{E:X2}{l r k:Nat}{Q:YK}(C:L U=some (.lst<|zr E))(I:E.length<=1000)
 (T:∀y (g:Bool->qi->Prop),xR true y (.tup [.int (l:Int),.int (r:Int)]) L (λx L'=>match x with|.bl c=>g c L'|_=>False)->tc (ai (τ++List.replicate 1 none) k y) L g)
 (hv:∀y,uw (ai (τ++List.replicate 1 none) k y) k=some y)
 (hq:∀p,L p=none->Q (.ref p) (qg L p<|.lst<|zr<|E.filter λx=>!decide (x=l\/x=r))):
 vP L U λys keep L2=>yb ys keep 1 (qp k) tc (ql k) τ L2 Q:=by
 refine zp C λkeep kp=>wf (λj zs=>zs=zr ((E.take j).filter λx=>!decide (x=l\/x=r))) (by rw[Ab];exact rY I) (kp L rfl) rfl ?_ ?_
 ·rintro j y _ o rfl;obtain⟨x,ex,rfl⟩:∃x:Nat,E[j]?=some x/\y=Y.int (x:Int):=by rw[Ai] at o;obtain⟨x,e1,e2⟩:=Am.mp o;exact⟨x,e1,e2.symm⟩
  refine T _ _ ⟨rfl,rfl,?_⟩;rw[Vg];show wb (!decide (x=l\/x=r)) _ _;have t:(E.take<|j+1).filter (λx=>!decide (x=l\/x=r))=(E.take j).filter (λx=>!decide (x=l\/x=r))++[x].filter (λx=>!decide (x=l\/x=r)):=by rw[AZ,ex,BB];rfl
  by_cases c:x=l\/x=r
  ·refine jz (by rw[Ax c];rfl) ?_;refine IG ⟨rfl,?_⟩;rw[t,Eb (by simp[c]),C1,AG]
  ·refine vg (by rw[Ar c];rfl) ?_;unfold ql;rw[hv];refine IG ⟨rfl,?_⟩;rw[t,Ec (by simp[c]),C1];unfold zr;rw[Aw];rfl
 ·rintro _ rfl p J;rw[Ab,AX];exact hq p J
def xP{k:Int}(U:L fa=some (.lst<|zn fo))(h:0<fo.length):∃(j:Nat) (t:Tr),fo[j]?=some t/\0<=k % ((zn fo).length:Int)/\k % ((zn fo).length:Int)<((zn fo).length:Int)/\
 (zn fo)[(k % ((zn fo).length:Int)).toNat]?=some (.ref t.a)/\qg L fa (.lst<|(zn fo).eraseIdx (k % ((zn fo).length:Int)).toNat) fa=some (.lst<|zn<|fo.eraseIdx j):=by
 obtain⟨j,t,J,g,I⟩:=jA h k;have e:(zn fo).length=fo.length:=Ab ..;rw[e,J];refine⟨j,t,I,by exact A6 _,by lia,?_,?_⟩
 ·show(zn fo)[j]?=_;unfold zn;rw[Ai,I];rfl
 ·rw[q9];show some (LO.lst<|(zn fo).eraseIdx j)=_;rw[oT]
def bD.two{t1 t2:Tr}(h:bD L0 L ka fa ks<|t1::t2::rest):∀x,x∈qy t1.R->x∈qy t2.R->False:=by intro x I J;have nd:=h.nd;rw[Bg,Bg,Az] at nd;exact nd.2.2 x I x (Ay _ J) rfl
def zP{E1 E2:X2}{l r:Nat}(I:l∉E2)(J:r∉E1)(x:Nat):x∈kg E1 E2 l r↔(x∈E1/\x≠l)\/(x∈E2/\x≠r):=by
 unfold kg;rw[AR,An];constructor
 ·rintro⟨h,c⟩;have c:¬(x=l\/x=r):=by simpa using c
  rcases h with h|h
  ·exact .inl ⟨h,λe=>c<|.inl e⟩
  ·exact .inr ⟨h,λe=>c<|.inr e⟩
 ·rintro(⟨h,c⟩|⟨h,c⟩)
  ·refine⟨.inl h,?_⟩;have:x≠r:=λe=>J<|e▸h;simp[c,this]
  ·refine⟨.inr h,?_⟩;have:x≠l:=λe=>I<|e▸h;simp[c,this]
def Kp{E1 E2:X2}{l r:Nat}(h1:E1.Nodup)(h2:E2.Nodup)(d:∀x,x∈E1->x∈E2->False):(kg E1 E2 l r).Nodup:=by
 unfold kg;have h:(E1++E2).Nodup:=by rw[Az];exact⟨h1,h2,λx I y J e=>d x I<|e▸J⟩
 exact List.Pairwise.filter _ h
def jE(a b:X2):zr (a++b)=zr a++zr b:=Aw
def ft(a:Yq)(t:Tr):zn (a++[t])=zn a++[.ref t.a]:=Aw
theorem Vh:∀ys L Q,nF ys L Q->jf Kk.1 9 ys L Q:=by
 rintro ys L Q ⟨L0,ka,fa,j,fo,one,two,rfl,F,h2,c3,bi,q⟩;have big:=a_;have p:∀fo:Yq,(zn fo).length=fo.length:=λfo=>Ab ..;have U:∀E:X2,(zr E).length=E.length:=λE=>Ab ..;obtain⟨j1,I,bj,a1,a2,a3,g⟩:=xP (k:=two) F.hf (by exact gc);have p1:=xf bj;refine qb F.hf (qb F.hf ⟨(by show(0:Int)<((zn fo).length:Int);rw[p];lia),qh F.hf ⟨a1,a2,qj a3 ?_⟩⟩);have B:=(F.b.perm p1).setF<|.lst<|(zn fo).eraseIdx (two % ((zn fo).length:Int)).toNat;generalize qg L fa _=L1 at g B ⊢;have l1:=p1.length_eq;generalize fo.eraseIdx j1=T at l1 g B p1 ⊢;rw[Au] at l1;obtain⟨j2,J,bn,b1,b2,b3,ac⟩:=xP (k:=one) g (by lia);have p2:=xf bn;refine qb g (qb g ⟨(by show(0:Int)<((zn T).length:Int);rw[p];lia),qh g ⟨b1,b2,qj b3 ?_⟩⟩);replace B:=(B.perm<|p2.cons _).setF<|.lst<|(zn T).eraseIdx (one % ((zn T).length:Int)).toNat;generalize qg L1 fa _=L2 at ac B ⊢;have l2:=p2.length_eq;have bd:=p1.trans<|p2.cons _;generalize T.eraseIdx j2=rest at l2 ac B bd ⊢;rw[Au] at l2;clear g a1 a2 a3 b1 b2 b3 p1 p2;have m1:I∈I::J::rest:=by simp
 have m2:J∈I::J::rest:=by simp
 obtain⟨a0,al⟩:=B.ht I m1;obtain⟨a4,aL⟩:=B.ht J m2;obtain⟨_,_,n1,n2⟩:=B.nk I m1;obtain⟨_,_,n3,n4⟩:=B.nk J m2;have c0:=ax B m1;have c1:=ax B m2;obtain⟨x,hx,ex⟩:=sn c0.1<|two / 64;obtain⟨y,hy,ey⟩:=sn c1.1<|one / 64;refine qb a0 ⟨⟨by decide,by decide⟩,qb a0 (qb al ⟨(by show(0:Int)<((zr I.E).length:Int);rw[U];omega),qb al<|qj ex ?_⟩)⟩;refine qb a4 ⟨⟨by decide,by decide⟩,qb a4 (qb aL ⟨(by show(0:Int)<((zr J.E).length:Int);rw[U];omega),qb aL<|qj ey ?_⟩)⟩;refine qb B.hk (qh B.hk ⟨big _ (by rw[Ab];exact dP),?_⟩);have ek:v9 j++[.tup [.str "both",.int ((x:Nat):Int),.int ((y:Nat):Int)]]=v9 (j++[.nd false x y]):=by unfold v9;rw[Aw];rfl
 rw[ek];have k3:∀z o,z≠ka->L2 z=some o->qg L2 ka (.lst<|v9<|j++[.nd false x y]) z=some o:=λz o n e=>(qd n).trans e;have be:qg L2 ka (.lst<|v9<|j++[.nd false x y]) ka=some (.lst<|v9<|j++[.nd false x y]):=q9;generalize qg L2 ka _=L3 at be k3 ⊢;refine qb (k3 _ _ n1 a0) (qb (k3 _ _ n3 a4) ⟨_,_,k3 _ _ n2 al,k3 _ _ n4 aL,dY (by rw[U,U];lia),λpp bf=>?_⟩);rw[<-jE];refine Ko (E:=I.E++J.E) (l:=x) (r:=y) (k:=9) q9 (by rw[Ac];lia) (λy' Q' h=>h) (λ_=>rfl) λpe bg=>?_;generalize hL:qg (qg L3 pp _) pe _=L4;have s4:qf L3 L4:=by rw[<-hL];exact(By bf).trans (By bg)
 have c2:L4 pe=some (.lst<|zr<|kg I.E J.E x y):=by rw[<-hL];exact q9
 clear hL bf bg;have k4:∀z o,z≠ka->L2 z=some o->L4 z=some o:=λz o n e=>s4 _ _<|k3 z o n e;have ba:=s4 _ _ be;have bb:=k4 _ _ (AN B.nkf) ac;have nn:(((v9<|j++[.nd false x y]).length:Nat):Int)-1=((j.length:Nat):Int):=by rw[Ab,Ac];simp
 have lb:(kg I.E J.E x y).length<=(I.E++J.E).length:=Dn ..;rw[Ac] at lb;refine qb bb<|qb ba<|qb (k4 _ _ n1 a0)<|qb (k4 _ _ n3 a4)<|qb ba λpn C=>?_;refine⟨_,_,By C _ _ c2,q9,dY (by rw[U];show _+1<=1000;lia),λpb a5 pa ab=>?_⟩;have bh:pb≠pa:=vt q9 ab;have nb:=(By C).none a5;have na:=((By C).trans<|By a5).none ab;generalize hL:qg (qg (qg L4 pn _) pb _) pa _=L7;have s7:qf L4 L7:=by rw[<-hL];exact((By C).trans<|By a5).trans (By ab)
 have ea:L7 pa=some (.lst [je<|.bo j.length I.R J.R,.ref pb]):=by rw[<-hL,q9];dsimp only;rw[nn];rfl
 have eb:L7 pb=some (.lst<|zr<|kg I.E J.E x y++[j.length]):=by rw[<-hL,qd bh,q9];dsimp only;rw[nn,jE];rfl
 clear hL C a5 ab;refine qh (s7 _ _ bb) ⟨big _ (by rw[p];lia),?_⟩;have s1:=B.sr I m1;have s2:=B.sr J m2;have bc:∀z,z∈I.E->z∈J.E->False:=λz h1 h2=>B.two z (s1.sub z h1)<|s2.sub z h2;have bm:=zP (E1:=I.E) (E2:=J.E) (λh=>bc x hx h) λh=>bc y h hy;refine jw (q _ (j++[.nd false x y]) (rest++[⟨pa,pb,.bo j.length I.R J.R,kg I.E J.E x y++[j.length]⟩]) ⟨(bD.put (old:=[I,J]) B k4 ba bb na nb (AN bh) s7 ea eb (B.ok.snoc ⟨s1.lt x<|s1.sub x hx,s2.lt y<|s2.sub y hy⟩) (.bo (cf _ _ _) (s1.more _) (s2.more _) hx hy (λz=>?_) ?_) ?_).setF _,by rw[q9,ft]⟩ (by rw[Ac];rfl) (by rw[Ac];simp;lia) ⟨⟨_,rfl,λk hk=>⟨_,_,_,Av.mp hk⟩⟩,λh t ht=>?_⟩)
 ·rw[An,bm,Av,or_assoc]
 ·rw[Az];refine⟨Kp s1.nod s2.nod bc,by simp,λu hu v hv e=>?_⟩;rw[Av.mp hv] at e;rcases (bm u).mp hu with⟨h,_⟩|⟨h,_⟩
  ·have:=s1.lt u<|s1.sub u h;lia
  ·have:=s2.lt u<|s2.sub u h;lia
 ·show(j.length::(qy I.R++qy J.R)).Perm (List.range' j.length 1++([I,J].flatMap λt=>qy t.R));simp[CP]
 ·have h':∀u∈I::J::rest,Fi u.R:=λu hu=>h u<|bd.mem_iff.mpr hu;rcases An.mp ht with ht|ht
  ·exact h' t<|Af _<|Af _ ht
  ·rw[Av.mp ht];exact⟨h' I m1,h' J m2⟩
def uS{E:X2}{k:Int}(h:0<E.length):∃(j x:Nat),E[j]?=some x/\0<=k % ((zr E).length:Int)/\k % ((zr E).length:Int)<((zr E).length:Int)/\
 (zr E)[(k % ((zr E).length:Int)).toNat]?=some (.int ((x:Nat):Int))/\(zr E).eraseIdx (k % ((zr E).length:Int)).toNat=zr (E.eraseIdx j):=by
 obtain⟨j,x,J,U,I⟩:=jA h k;have e:(zr E).length=E.length:=Ab ..;rw[e,J];refine⟨j,x,I,by exact A6 _,by lia,?_,?_⟩
 ·show(zr E)[j]?=_;rw[Ai,I];rfl
 ·exact jB _ E j
def Hv{a:Addr}{o:LO}:∀z u,z≠a->L z=some u->qg L a o z=some u:=λz u n e=>(qd n).trans e
inductive iF(ys:List Y)(L:qi)(Q:YK):Prop
 |mk:∀L0 ka fa ks,∀pre post:Yq,∀t:Tr,∀one two:Int,(ys=[.ref ka,.ref t.a,.int one,.int two])->(qN L0 L ka fa ks<|pre++t::post)->(ks.length<=200)->(∀L' ks' fo',qN L0 L' ka fa ks' fo'->ks'.length<=ks.length+1->fo'.length=(pre++t::post).length->Km ks (pre++t::post) ks' fo'->Q .non L')->iF ys L Q
theorem Vi:∀ys L Q,iF ys L Q->jf Kl.1 6 ys L Q:=by
 rintro ys L Q ⟨L0,T,fa,I,pre,post,t,one,two,rfl,F,be,q⟩;have big:=a_;have mt:t∈pre++t::post:=by simp
 have B:=F.b;obtain⟨ta,tb⟩:=B.ht t mt;have le:=ax B mt;have s:=B.sr t mt;have U:∀E:X2,(zr E).length=E.length:=λE=>Ab ..;refine qb ta<|qb tb ?_;refine zo (λc=>?_) λc=>?_
 ·exact jw<|q L I _ F (CI _) rfl ⟨⟨[],(AG _).symm,λk hk=>by cases hk⟩,λh=>h⟩
 have c:¬(((zr t.E).length:Int)<2):=c;rw[U] at c;have ad:=B.ad;have nkf:=B.nkf;have nk:=B.nk;have r:t.a≠t.b:=by rw[AH,AH,AO,Bg,Az,Az] at ad;have:=ad.2.2.2.1.1;simpa[Tr.ads] using this
 obtain⟨C,x,e1,a1,a2,a3,a4⟩:=uS (k:=two) le.1;refine qb ta (qb tb (qb ta (qb tb ⟨(by show(0:Int)<((zr t.E).length:Int);rw[U];omega),qh tb ⟨a1,a2,qj a3 ?_⟩⟩)));rw[a4];have bh:(t.E.eraseIdx C).length+1=t.E.length:=by have:=(xf e1).length_eq;rw[Au] at this;lia
 have a5:qg L t.b (.lst<|zr<|t.E.eraseIdx C) t.a=some (.lst [je t.R,.ref t.b]):=by rw[qd r];exact ta
 obtain⟨j2,y,e2,b1,b2,b3,b4⟩:=uS (E:=t.E.eraseIdx C) (k:=one) (by lia);refine qb a5 (qb q9 (qb a5 (qb q9 ⟨(by show(0:Int)<((zr<|t.E.eraseIdx C).length:Int);rw[U];omega),qh q9 ⟨b1,b2,qj b3 ?_⟩⟩)));rw[b4,vi];have bf:((t.E.eraseIdx C).eraseIdx j2).length+1=(t.E.eraseIdx C).length:=by have:=(xf e2).length_eq;rw[Au] at this;lia
 have pE:t.E.Perm (x::y::(t.E.eraseIdx C).eraseIdx j2):=(xf e1).trans<|(xf e2).cons _;generalize (t.E.eraseIdx C).eraseIdx j2=j at bf pE;have nt:=nk t mt;have k1:=Hv (L:=L) (a:=t.b) (o:=.lst<|zr j);have ab:qg L t.b (.lst<|zr j) t.b=some (.lst<|zr j):=q9;generalize qg L t.b _=L1 at k1 ab ⊢;have ac:=k1 _ _ (AN nt.2.2.2) B.hk;refine qb ac (qh ac ⟨big _ (by rw[Ab];exact dP),?_⟩);have ek:v9 I++[.tup [.str "either",.int ((x:Nat):Int),.int ((y:Nat):Int)]]=v9 (I++[.nd true x y]):=by unfold v9;rw[Aw];rfl
 rw[ek];have nn:(((v9<|I++[.nd true x y]).length:Nat):Int)-1=((I.length:Nat):Int):=by rw[Ab,Ac];simp
 have k2:=Hv (L:=L1) (a:=T) (o:=.lst<|v9<|I++[.nd true x y]);have a0:qg L1 T (.lst<|v9<|I++[.nd true x y]) T=some (.lst<|v9<|I++[.nd true x y]):=q9;generalize qg L1 T _=L2 at k2 a0 ⊢;have al:=k2 _ _ nt.2.2.1<|k1 _ _ r ta;refine qb a0<|qb al<|qh al<|qj (v:=0) rfl ?_;generalize hL:qg L2 t.a _=L3;have aL:L3 t.a=some (.lst [je<|.ei I.length t.R,.ref t.b]):=by rw[<-hL,q9];dsimp only;rw[nn];rfl
 have k3:∀z o,z≠t.a->L2 z=some o->L3 z=some o:=by rw[<-hL];exact Hv
 clear hL;have ba:=k3 _ _ (AN nt.2.2.1) a0;have bb:=k3 _ _ (AN r)<|k2 _ _ nt.2.2.2 ab;have g:∀b u,b≠t.a->b≠t.b->b≠T->L b=some u->L3 b=some u:=λb u n1 n2 n3 e=>k3 _ _ n1<|k2 _ _ n3<|k1 _ _ n2 e;refine qb aL (qb bb (qb ba (qh bb ⟨big _ (by rw[U];lia),?_⟩)));have en:zr j++[.int<|(((v9<|I++[.nd true x y]).length:Nat):Int)-1]=zr (j++[I.length]):=by rw[nn];unfold zr;rw[Aw];rfl
 have l:=pE.nodup_iff.mp s.nod;rw[AH,AH] at l;have hx:x∈t.E:=pE.mem_iff.mpr (by simp);have hy:y∈t.E:=pE.mem_iff.mpr (by simp);have bg:∀u∈pre++post,u.a≠t.a/\u.a≠t.b/\u.b≠t.a/\u.b≠t.b:=λu J=>by have p:(pre++t::post).Perm (t::(pre++post)):=B7;have bc:=(p.flatMap_right Tr.ads).nodup_iff.mp (by rw[AH,AH] at ad;exact ad.2.2);rw[Bg,Az] at bc;have k:=bc.2.2;have ma:u.a∈(pre++post).flatMap Tr.ads:=Bw.mpr ⟨u,J,by simp[Tr.ads]⟩;have mb:u.b∈(pre++post).flatMap Tr.ads:=Bw.mpr ⟨u,J,by simp[Tr.ads]⟩;exact⟨λe=>k t.a (by simp[Tr.ads]) u.a ma e.symm,λe=>k t.b (by simp[Tr.ads]) u.a ma e.symm,λe=>k t.a (by simp[Tr.ads]) u.b mb e.symm,λe=>k t.b (by simp[Tr.ads]) u.b mb e.symm⟩
 refine jw (q _ (I++[.nd true x y]) (pre++⟨t.a,t.b,.ei I.length t.R,j++[I.length]⟩::post) ⟨?_,?_⟩ (by rw[Ac];exact Ak _) (by simp) ⟨⟨_,rfl,λk hk=>⟨_,_,_,Av.mp hk⟩⟩,λh u J=>?_⟩)
 rotate_right
 ·rcases An.mp J with J|J
  ·exact h u<|Ay _ J
  ·rcases Ap.mp J with rfl|J
   ·exact h t mt
   ·exact h u<|Al _<|Af _ J
 ·have B':=B.perm (fo':=[t]++(pre++post)) B7;have st:=bD.step (old:=[t]) (rest:=pre++post) (t':=⟨t.a,t.b,.ei I.length t.R,j++[I.length]⟩) (ms:=[.nd true x y]) (L':=qg L3 t.b<|.lst<|zr j++[.int<|(((v9<|I++[.nd true x y]).length:Nat):Int)-1]) B' ?_ ⟨?_,?_⟩ (λu J=>?_) (λb o e=>?_) ?_ (λz hz=>?_) ?_ ?_ ?_
  ·exact st.perm (by have p1:((pre++post)++[(⟨t.a,t.b,.ei I.length t.R,j++[I.length]⟩:Tr)]).Perm ((⟨t.a,t.b,.ei I.length t.R,j++[I.length]⟩:Tr)::(pre++post)):=B9 _ _;exact p1.trans B7.symm)
  ·rw[qd<|AN (nk t mt).2.2.2];exact ba
  ·rw[qd r];exact aL
  ·rw[q9,en]
  ·have bd:u∈pre++t::post:=by rcases An.mp J with h|h;exact Ay _ h;exact Al _ (Af _ h)
   obtain⟨n1,n2,n3,n4⟩:=bg u J;obtain⟨k1,k2,k3,k4⟩:=nk u bd;obtain⟨h1,h2⟩:=B.ht u bd;rw[h1,h2,qd n2,qd n4];exact⟨g _ _ n1 n2 k3 h1,g _ _ n3 n4 k4 h2⟩
  ·have fr:=B.fr;have n0:∀z,L0 z=none->b≠z:=λz hz w=>by rw[w,hz] at e;cases e
   have n1:=n0 T<|fr T (by simp);have n2:=n0 t.a<|fr t.a (by simp[Tr.ads]);have n3:=n0 t.b<|fr t.b (by simp[Tr.ads]);rw[qd n3];exact g _ _ n2 n3 n1<|B.sub _ _ e
  ·have p:(pre++t::post).Perm ((pre++post)++[t]):=B7.trans (B9 _ _).symm;have e:((pre++post)++[(⟨t.a,t.b,.ei I.length t.R,j++[I.length]⟩:Tr)]).flatMap Tr.ads=((pre++post)++[t]).flatMap Tr.ads:=by simp[AO,Tr.ads]
   rw[e];exact(((p.flatMap_right Tr.ads).cons _).cons _).nodup_iff.mp ad
  ·have hz:z=t.a\/z=t.b:=by simpa[Tr.ads] using hz
   rcases hz with rfl|rfl
   ·exact B.fr _ (by simp[Tr.ads])
   ·exact B.fr _ (by simp[Tr.ads])
  ·exact B.ok.snoc ⟨s.lt x<|s.sub x hx,s.lt y<|s.sub y hy⟩
  ·refine .ei (cf _ _ _) (s.more _) hx hy (λe=>l.1 (by rw[e];exact Ao ..)) (λz=>?_) ?_
   ·rw[An,Av];have hm:=pE.mem_iff (a:=z);rw[Ap,Ap] at hm;have h1:z∈j->z≠x/\z≠y:=λh=>⟨λe=>l.1 (by rw[<-e];exact Af _ h),λe=>l.2.1<|e▸h⟩;constructor
    ·rintro(h|h)
     ·exact .inl ⟨hm.mpr<|.inr<|.inr h,h1 h⟩
     ·exact .inr h
    ·rintro(⟨h,c1,c2⟩|h)
     ·rcases hm.mp h with e|e|e
      ·exact absurd e c1
      ·exact absurd e c2
      ·exact .inl e
     ·exact .inr h
   ·rw[Az];refine⟨l.2.2,by simp,λu J v hv e=>?_⟩;rw[Av.mp hv] at e;have:u∈t.E:=pE.mem_iff.mpr<|Af _<|Af _ J;have:=s.lt u<|s.sub u this;lia
  ·show(I.length::qy t.R).Perm (List.range' I.length 1++([t].flatMap λt=>qy t.R));simp[CP]
 ·have nf:=nk t mt;rw[qd<|AN nf.2.1];have:=g fa _ (AN nf.1) (AN nf.2.1) (AN nkf) F.hf;rw[this];unfold zn;rw[Aw,Aw];rfl
def Vj(I:x5)(p1:x5)(p2:x5)(p3:x5):dR:=(xa (vo (lO tN (ql 1)<|qr (a9 sw (ql 3)<|yP 1) jn)<|qp 4)
 (xa (vo (a9 h_ (fg 4 1)<|a9 sw (a9 IX (ql 3)<|cD 64)<|rD E8<|ix<|fg 4 1)<|qp 5)
 (xa (vo (xw I<|gJ (ql 0)<|ql 5)<|qp 6)
 (xa (vo (Hs (yC .non)<|yC .non)<|f8 2<|jx (qp 7)<|jx (qp 8) dF)
 (xa (zD (zJ<|ix<|yP 1) (qp 9)<|zD (cz<|a9 h_ (a9 h_ (ql 1)<|ql 9)<|cD 1) (qp 10)<|fO (qB (yB<|oz false<|ql 7)<|e_ (xw I<|gJ (ql 0)<|ql 10)<|xw p1<|ix<|ql 6) (vo (cX<|qr (a9 h_ (ql 1)<|ql 9)<|ix<|ql 10)<|f8 2<|jx (qp 7)<|jx (qp 8) dF) fT)
 (xa (fO (qB (yB<|oz false<|ql 7)<|yB<|a9 Rn (xw p2<|ix<|ql 6)<|cD 5) (xa (aA<|lO jq (ql 1)<|ix<|ql 4)
 IC) fT)
 (rh (fO (yB<|oz false<|ql 7) (xa (vo (xw p3<|gJ (ql 0)<|ql 6)<|JY 3<|jx (qp 11)<|jx (qp 8)<|jx (qp 12) dF)
 (vo (gd<|qr (ql 11)<|qr (gd<|gJ (ql 8)<|ql 12) jn)<|qp 7))<|aA<|lO me (ql 1)<|ix<|ql 7)
 (xa (vo (u_ 1 (cz<|a9 vJ (fg 4 1)<|fg 7 1) (qp 14) (yB<|a9 (xR true) (ql 14)<|Hs (ql 5)<|ql 8)<|ql 14)<|qp 13)
 (fO (e_ (a9 sw (ql 2)<|cD 2)<|cD 0) (aA<|lO jq (ql 1)<|qr (gd<|qr (cX<|qr (o_ "cut")<|qr (ql 5)<|qr (ql 8)<|gJ (fg 4 0)<|fg 7 0)<|ix<|ql 13) jn)<|aA<|lO jq (ql 1)<|qr (gd<|qr (cX<|qr (o_ "cut")<|qr (ql 8)<|qr (ql 5)<|gJ (fg 7 0)<|fg 4 0)<|ix<|ql 13) jn)))))))))
theorem uA:∀a b:List Da,Da.eqs a b=true->a.length=b.length
 |[],[],_=>rfl
 |[],_::_,h=>by cases h
 |_::_,[],h=>by cases h
 |x::r,y::q,h=>by have h:(Da.eq x y&&Da.eqs r q)=true:=h;rw[Ba] at h;rw[Au,Au,uA r q h.2]
def Vk(u:Wd):∀v:Wd,Da.eq (o5 u) (o5 v)=true->u=v:=by
 induction u with
 |leaf t n=>
  intro v h;cases v with
  |leaf T n'=>
   rw[Vc,Ba] at h;rw[of_decide_eq_true h.1,of_decide_eq_true h.2]
  |node e l r=>exact absurd (uA _ _ h) (by intro z;cases z)
 |node e l r g j=>
  intro v h;cases v with
  |leaf t n=>exact absurd (uA _ _ h) (by intro z;cases z)
  |node I J U=>
   have h:(gH (.str<|kN e) (.str<|kN I)&&(Da.eq (o5 l) (o5 J)&&(Da.eq (o5 r) (o5 U)&&true)))=true:=h;rw[Ba,Ba,Ba] at h;obtain⟨o,p,C,_⟩:=h;have:e=I:=by cases e<;>cases I<;>first|rfl|(exfalso;revert o;decide +kernel)
   rw[this,g J p,j U C]
def aI:Ru->Nat
 |.link _ _=>1
 |.ei _ A=>aI A+1
 |.bo _ A B=>max (aI A) (aI B)+1
 |.cu _ _ A B=>max (aI A) (aI B)+1
theorem aQ:∀R:Ru,aI R+1<=(qy R).length
 |.link _ _=>Ak _
 |.ei _ A=>by have:=aQ A;simp[aI,qy];lia
 |.bo _ A B=>by have:=aQ A;have:=aQ B;simp[aI,qy];lia
 |.cu _ _ A B=>by have:=aQ A;have:=aQ B;simp[aI,qy];lia
def bW:Ru->Da
 |.link p q=>.tup [.s<|.str "link",.s<|.int (p:Int),.s<|.int (q:Int)]
 |.ei r A=>.tup [.s<|.str "either",.s<|.int (r:Int),bW A]
 |.bo r A B=>.tup [.s<|.str "both",.s<|.int (r:Int),bW A,bW B]
 |.cu p q A B=>.tup [.s<|.str "cut",.s<|.int (p:Int),.s<|.int (q:Int),bW A,bW B]
theorem cr{L:qi}:∀{R:Ru} {n:Nat},aI R<=n->jd L n (je R) (bW R)
 |.link p q,n+1,_=>bu<|.cons (EU _)<|.cons (EN _)<|.cons (EN _) .nil
 |.ei r A,n+1,h=>bu (.cons (EU _) (.cons (EN _) (.cons (cr (by simp[aI] at h;lia)) .nil)))
 |.bo r A B,n+1,h=>bu (.cons (EU _) (.cons (EN _) (.cons (cr (by simp[aI] at h;lia)) (.cons (cr (by simp[aI] at h;lia)) .nil))))
 |.cu p q A B,n+1,h=>bu (.cons (EU _) (.cons (EN _) (.cons (EN _) (.cons (cr (by simp[aI] at h;lia)) (.cons (cr (by simp[aI] at h;lia)) .nil)))))
 |.link _ _,0,h=>by simp[aI] at h
 |.ei _ _,0,h=>by simp[aI] at h
 |.bo _ _ _,0,h=>by simp[aI] at h
 |.cu _ _ _ _,0,h=>by simp[aI] at h
theorem aq:∀R:Ru,Da.eq (bW R) (bW R)=true
 |.link p q=>by simp[bW,Da.eq,Da.eqs,gH]
 |.ei r A=>by simp[bW,Da.eq,Da.eqs,gH,aq A]
 |.bo r A B=>by simp[bW,Da.eq,Da.eqs,gH,aq A,aq B]
 |.cu p q A B=>by simp[bW,Da.eq,Da.eqs,gH,aq A,aq B]
def gA(E:X2):List Da:=E.map λn:Nat=>Da.s<|.int (n:Int)
theorem sm{L:qi}{n:Nat}:∀E:X2,Paired (jd L n) (zr E)<|gA E
 |[]=>.nil
 |_::r=>.cons (EN _)<|sm r
theorem m6:∀E I:X2,Da.eqs (gA E) (gA I)=true↔E=I
 |[],[]=>by simp[gA,Da.eqs]
 |[],_::_=>by simp[gA,Da.eqs]
 |_::_,[]=>by simp[gA,Da.eqs]
 |x::r,y::J=>by
  have U:=m6 r J;show(Da.eq (.s<|.int (x:Int)) (.s<|.int (y:Int))&&Da.eqs (gA r) (gA J))=true↔_;rw[Ba,U];have:Da.eq (.s<|.int (x:Int)) (.s<|.int (y:Int))=true↔x=y:=by show decide ((x:Int)=(y:Int))=true↔_;rw[DG];lia
  rw[this];constructor
  ·rintro⟨rfl,rfl⟩;rfl
  ·intro e;injection e with g j;exact⟨g,j⟩
def fI(t:Tr):Da:=.lst [bW t.R,.lst<|gA t.E]
def sj{t:Tr}{n:Nat}(I:L t.a=some (.lst [je t.R,.ref t.b]))(J:L t.b=some (.lst<|zr t.E))(h:aI t.R<=n+1):jd L (n+2) (.ref t.a) (fI t):=
 w4 I (.cons (cr h)<|.cons (w4 J<|sm _) .nil)
def Vl{t u:Tr}:Da.eq (fI t) (fI u)=true->t.E=u.E:=by intro h;have h:(Da.eq (bW t.R) (bW u.R)&&(Da.eqs (gA t.E) (gA u.E)&&true))=true:=h;rw[Ba,Ba] at h;exact(m6 _ _).mp h.2.1
def Vm(t:Tr):Da.eq (fI t) (fI t)=true:=by show(Da.eq (bW t.R) (bW t.R)&&(Da.eqs (gA t.E) (gA t.E)&&true))=true;rw[aq,(m6 _ _).mpr rfl];rfl
def bD.rd(h:bD L0 L ka fa ks fo){t:Tr}(I:t∈fo):aI t.R<=ks.length:=by
 have U:=aQ t.R;have nd:(qy t.R).Nodup:=by obtain⟨a,b,rfl⟩:=Ca I;have:=h.nd;rw[AO,Bg,Az,Az] at this;exact this.2.1.1
 have:=bG _ _ nd λx J=>(h.sr t I).lt x J;exact Ip
def bD.one(h:bD L0 L ka fa ks fo){t u:Tr}(hi:fo[i]?=some t)(I:fo[j]?=some u)(e:t.E=u.E):i=j:=by
 by_cases c:i=j
 ·exact c
 ·exfalso;have s:=h.sr t<|AB hi;have l:=s.ends h.ok;obtain⟨x,J⟩:∃x,x∈t.E:=by cases g:t.E with|nil=>rw[g] at l;simp at l|cons x r=>exact⟨x,Ao ..⟩
  have o:=h.sr u<|AB I;have p:=xf hi;have C:(u::(fo.eraseIdx i))=_:=rfl;have U:u∈fo.eraseIdx i:=by have:fo[j]?=some u:=I;rw[List.mem_eraseIdx_iff_getElem?];exact⟨j,λz=>c z.symm,I⟩
  obtain⟨a,b,T⟩:=Ca U;have nd:=(p.flatMap_right λt:Tr=>qy t.R).nodup_iff.mp h.nd;rw[Bg,Az] at nd;exact nd.2.2 x (s.sub x J) x (Bw.mpr ⟨u,U,o.sub x<|e▸J⟩) rfl
theorem o8:∀w:Wd,w.turn.turn=w
 |.leaf t n=>by simp[Wd.turn]
 |.node e l r=>by simp[Wd.turn,o8 l,o8 r]
theorem cQ:∀w:Wd,w.turn.depth=w.depth
 |.leaf t n=>rfl
 |.node e l r=>by simp[Wd.turn,Wd.depth,cQ l,cQ r]
def Fd(ks:Yo)(w:Wd)(rest:Yq)(I J:Y):Prop:=(I=.non/\J=.non)\/∃(j:Nat) (u:Tr) (q:Nat),rest[j]?=some u/\q∈u.E/\cw ks q w.turn/\I=.ref u.a/\J=.int (q:Int)
def Vn{g j:qi}{t1 u:Tr}{x q:Nat}{w:Wd}(B:bD L0 g ka fa ks<|t1::u::rest){fs:LO}(hf:g fa=some fs)(hx:x∈t1.E)(hq:q∈u.E)(o:cw ks x w)(p:cw ks q w.turn){I:Addr}(s:qf g j)(a0:g I=none)
 (he:j I=some (.lst<|zr<|kg t1.E u.E x q)) (J:j pa=none) (hR:R=.cu x q t1.R u.R\/R=.cu q x u.R t1.R):bD L0 (qg j pa<|.lst [je R,.ref I]) ka fa ks (rest++[⟨pa,I,R,kg t1.E u.E x q⟩]):=by
 have t:I≠pa:=vt he J;have C:=B.sr t1 (by simp);have T:=B.sr u (by simp);have U:∀z,z∈t1.E->z∈u.E->False:=λz h1 h2=>B.two z (C.sub z h1)<|T.sub z h2;have bm:=zP (E1:=t1.E) (E2:=u.E) (λh=>U x hx h) λh=>U q h hq;have nod:=Kp (l:=x) (r:=q) C.nod T.nod U;have st:=bD.put (M:=g) (L':=qg j pa<|.lst [je R,.ref I]) (old:=[t1,u]) (ms:=[]) (R:=R) (E:=kg t1.E u.E x q) (pa:=pa) (pb:=I) B (λ_ _ _ e=>e) (by rw[AG];exact B.hk) hf (s.none J) a0 (AN t) (s.trans<|By J) q9 (by rw[qd t];exact he) (by rw[AG];exact B.ok) ?_ ?_
 ·rw[AG] at st;exact st
 ·rw[AG];rcases hR with rfl|rfl
  ·exact .cu C T hx hq o p bm nod
  ·exact .cu (w:=w.turn) T C hq hx p (by rw[o8];exact o) (λz=>by rw[bm];exact Or.comm) nod
 ·rcases hR with rfl|rfl
  ·show(qy t1.R++qy u.R).Perm _;simp
  ·show(qy u.R++qy t1.R).Perm _;simpa using Bk
def CJ(L0:qi)(ka fa:Addr)(ks:Yo)(one two:Int)(t1:Tr)(x:Nat)(w:Wd)(n:Nat)(τ:jc)(L:qi):Prop:=∃ms u q rest g I J U,τ=[some<|.ref ka,some<|.ref fa,some<|.int one,some<|.int two,some<|.ref t1.a,some<|.int (x:Int),some<|ay w,some<|.ref u.a,some<|.int ((q:Nat):Int),g,I,J,U,none]/\
 bD L0 L ka fa (ks++ms) (t1::u::rest)/\L fa=some (.lst<|zn rest)/\q∈u.E/\cw (ks++ms) q w.turn/\ms.length<=10/\rest.length<=n
inductive md(ys:List Y)(L:qi)(Q:YK):Prop
 |mk:∀L0 ka fa ks fo,∀one two:Int,(ys=[.ref ka,.ref fa,.int one,.int two])->(qN L0 L ka fa ks fo)->(1<=fo.length)->(fo.length<=110)->(ks.length<=110)->(∀L' ks' fo',qN L0 L' ka fa ks' fo'->ks'.length<=ks.length+10->1<=fo'.length->fo'.length<=fo.length->Q .non L')->md ys L Q
theorem Vo{FS MS:x5}(hF:∀ys L Q,aB 120 ys L Q->FS ys L Q)(hM:∀ys L Q,aO 5 ys L Q->MS ys L Q):∀ys L Q,md ys L Q->jf (Vj (xg 120) FS (ar 120) MS) 14 ys L Q:=by
 rintro ys L Q ⟨L0,ka,fa,ks,fo,one,two,rfl,F,h1,c4,bn,q⟩;have big:=a_;have C:∀fo:Yq,(zn fo).length=fo.length:=λfo=>Ab ..;obtain⟨j1,I,bd,a1,a2,a3,g⟩:=xP (k:=two) F.hf (by assumption);have l1:(fo.eraseIdx j1).length+1=fo.length:=by have:=(xf bd).length_eq;rw[Au] at this;lia
 refine qb F.hf (qb F.hf ⟨(by show(0:Int)<((zn fo).length:Int);rw[C];lia),qh F.hf ⟨a1,a2,qj a3 ?_⟩⟩);have B:=(F.b.perm<|xf bd).setF<|.lst<|(zn fo).eraseIdx (two % ((zn fo).length:Int)).toNat;generalize qg L fa _=L1 at g B ⊢;generalize fo.eraseIdx j1=rest at l1 g B;clear a1 a2 a3;have m1:I∈I::rest:=by simp
 obtain⟨a0,a5⟩:=B.ht I m1;have ab:=ax B m1;have s1:=B.sr I m1;obtain⟨x,hx,ex⟩:=sn ab.1<|two / 64;refine qb a0 ⟨⟨by decide,by decide⟩,qb a0 (qb a5 ⟨(by show(0:Int)<((zr I.E).length:Int);rw[Ab];omega),qb a5<|qj ex ?_⟩)⟩;obtain⟨w,hw,c6,be⟩:=nI B.ok (x+1) x (by exact BE _)<|s1.lt x<|s1.sub x hx;have c7:=s1.lt x<|s1.sub x hx;refine⟨ka,v9 ks,x,w,rfl,B.hk,hw,by lia,?_⟩;have c8:w.turn.depth=w.depth:=cQ w;refine qb g ⟨⟨by show _<=(((zn rest).length:Nat):Int);exact A6 _,by show(((zn rest).length:Nat):Int)<_;rw[C];omega⟩,?_⟩;refine I9 (λi τ L'=>∃v7 v8 c9 T,τ=[some<|.ref ka,some<|.ref fa,some<|.int one,some<|.int two,some<|.ref I.a,some<|.int (x:Int),some<|ay w,some v7,some v8,c9,T,none,none,none]/\L'=L1/\Fd ks w rest v7 v8) ⟨_,_,_,_,rfl,rfl,.inl ⟨rfl,rfl⟩⟩ ?_ ?_
 ·rintro i τ L' hi ⟨v7,v8,c9,T,rfl,rfl,fd⟩;have hi:i<rest.length:=by have:i<(((zn rest).length:Nat):Int).toNat:=hi;rw[C] at this;assumption
  obtain⟨u,hu⟩:∃u,rest[i]?=some u:=⟨_,Ag hi⟩;have mu:u∈I::rest:=Af _<|AB hu;obtain⟨ua,ub⟩:=B.ht u mu;have ei:(zn rest)[i]?=some (.ref u.a):=by unfold zn;rw[Ai,hu];rfl
  have e0:(0:Int)+(i:Int)=((i:Nat):Int):=by simp +arith only
  rw[e0];have bf:jU (zn rest) ((i:Nat):Int)=some (.ref u.a):=vd ei;have le:=ax B mu;have su:=B.sr u mu;refine qb g<|qj bf<|qb ua ?_;refine zL (ys:=zr u.E) (wx ub) (λk τ ac=>∃v7 v8 T,τ=[some<|.ref ka,some<|.ref fa,some<|.int one,some<|.int two,some<|.ref I.a,some<|.int (x:Int),some<|ay w,some v7,some v8,some<|.int ((i:Nat):Int),T,none,none,none]/\ac=L'/\Fd ks w rest v7 v8) ⟨_,_,_,rfl,rfl,fd⟩ ?_ ?_ ?_
  ·rintro k τ _ ⟨_,_,_,_,rfl,_⟩;rfl
  ·rintro k y τ ac ey ⟨v7,v8,T,rfl,rfl,fd⟩;obtain⟨z,ez,rfl⟩:∃z:Nat,u.E[k]?=some z/\y=Y.int (z:Int):=by rw[Ai] at ey;obtain⟨z,e1,e2⟩:=Am.mp ey;exact⟨z,e1,e2.symm⟩
   have hz:z∈u.E:=AB ez;rcases fd with⟨rfl,rfl⟩|⟨j,t,q0,h1,h2,h3,rfl,rfl⟩
   ·have c0:=su.lt z<|su.sub z hz;obtain⟨v,hv,ca,c5⟩:=nI B.ok (z+1) z (by exact BE _) c0;refine⟨ka,v9 ks,z,v,rfl,B.hk,hv,by lia,hF _ _ _ ⟨w,rfl,by lia,?_⟩⟩;refine oO (u:=v) (v:=w.turn) (by lia) ?_;show wb (Da.eq (o5 v)<|o5 w.turn) _ _;refine sJ (λc=>?_) λc=>?_
    ·have hh:=Vk _ _ c;refine qb g<|qj bf ?_;refine⟨_,EC _,?_⟩;exact⟨_,_,_,rfl,rfl,.inr ⟨i,u,z,hu,hz,hh▸hv,rfl,rfl⟩⟩
    ·refine⟨_,EC _,?_⟩;exact⟨_,_,_,rfl,rfl,.inl ⟨rfl,rfl⟩⟩
   ·refine⟨_,EC _,?_⟩;exact⟨_,_,_,rfl,rfl,.inr ⟨j,t,q0,h1,h2,h3,rfl,rfl⟩⟩
  ·rintro τ ac ⟨v7,v8,T,rfl,rfl,fd⟩;refine⟨_,EC _,?_⟩;exact⟨_,_,_,_,rfl,rfl,fd⟩
 ·rintro τ L' ⟨v7,v8,c9,T,rfl,rfl,fd⟩;rcases fd with⟨rfl,rfl⟩|⟨j,u,q0,hj,al,aL,rfl,rfl⟩
  case' inl=>
   refine⟨w,rfl,by lia,?_⟩;show wb (decide<|(w.size:Int) > 5) _ _;refine zo (λc=>?_) λc=>?_
   case' refine_1=>
    refine qb g (qh g ⟨big _ (by rw[C];lia),?_⟩);rw[<-ft];exact jw (q _ ks (rest++[I]) ⟨(B.perm (B9 _ _).symm).setF _,q9⟩ (by exact Bd _ _) (by simp) (by rw[Ac];simp;exact vQ))
   case' refine_2=>
    refine⟨CJ L0 ka fa ks one two I x w rest.length,?_,?_⟩
    ·refine hM _ _ _ ⟨ka,ks,w,rfl,B.hk,(by have h1:=w.depth_le;have h2:=w.size_eq;lia),(by decide),be,B.ok,by lia,λms R tp sp p hp a4=>?_⟩;refine qh q9 ?_;intro pb ba pa J;have bb:qg L' ka (.lst<|v9<|ks++ms) p=none:=by rw[qd<|AN<|vt B.hk hp];exact hp
     have bg:pb≠pa:=vt q9 J;have nb:=(By bb).none ba;have na:=((By bb).trans<|By ba).none J;have bh:qg L' ka (.lst<|v9<|ks++ms) fa=some (.lst<|zn rest):=by rw[qd<|AN B.nkf];exact g
     generalize hL:qg (qg (qg _ p _) pb _) pa _=LF;have sA:qf (qg L' ka<|.lst<|v9<|ks++ms) LF:=by rw[<-hL];exact((By bb).trans<|By ba).trans (By J)
     have ea:LF pa=some (.lst [je R,.ref pb]):=by rw[<-hL];exact q9
     have eb:LF pb=some (.lst<|zr [tp,sp]):=by rw[<-hL,qd bg];exact q9
     clear hL;refine⟨ms,⟨pa,pb,R,[tp,sp]⟩,tp,rest,_,_,_,_,rfl,?_,sA _ _ bh,Ao ..,a4.wt,by have:=a4.len;lia,Ak _⟩;have st:=bD.put (old:=[]) B (λz o n e=>(qd n).trans e) q9 bh na nb (AN bg) sA ea eb a4.ok a4.sr (by rw[Dp,AG];exact(Be a4.nd DM).mpr λz=>by rw[a4.tm,Dh]);exact st.perm<|(B9 _ _).trans<|List.Perm.swap _ _ _
  case' inr=>
   refine⟨CJ L0 ka fa ks one two I x w rest.length,?_,?_⟩
   ·refine qb g<|qh g ⟨rest.map fI,fI u,120,120,j,by decide,?_,?_,?_,⟨fI u,?_,Vm u⟩,λk d hk ek=>?_,?_⟩
    ·have dd:∀l:Yq,(∀t∈l,t∈I::rest)->Paired (jd L' 120) (zn l) (l.map fI):=λl=>by
      induction l with
      |nil=>intro _;exact .nil
      |cons t r ih=>
       intro h;have mt:=h t<|Ao ..;obtain⟨h1,h2⟩:=B.ht t mt;have:=B.rd mt;exact .cons (sj (n:=118) h1 h2 (by lia))<|ih λt ht=>h t<|Af _ ht
     exact dd rest λt ht=>Af _ ht
    ·have mt:u∈I::rest:=Af _<|AB hj;obtain⟨h1,h2⟩:=B.ht u mt;have:=B.rd mt;exact sj (n:=118) h1 h2 (by omega)
    ·rw[Ab];exact(AM.mp hj).1
    ·rw[Ai,hj];rfl
    ·rw[Ai] at ek;obtain⟨v,ev,rfl⟩:=Am.mp ek;cases c:Da.eq (fI v) (fI u) with
     |false=>rfl
     |true=>
      have:=B.one (i:=k+1) (j:=j+1) (by simpa using ev) (by simpa using hj)<|Vl c;lia
    ·rw[oT];have B2:=(B.perm<|(xf hj).cons _).setF<|.lst<|zn<|rest.eraseIdx j;exact⟨[],u,q0,rest.eraseIdx j,_,_,_,_,rfl,(AG ks).symm▸B2,q9,al,(AG ks).symm▸aL,A3 _,C7 ..⟩
  all_goals
   rintro cc L' ⟨ms,u,q0,U,c9,T,ck,cl,rfl,B',hf,al,aL,cm,cn⟩;have m1:I∈I::u::U:=by simp
   have m2:u∈I::u::U:=by simp
   obtain⟨a0,a5⟩:=B'.ht I m1;obtain⟨bc,c1⟩:=B'.ht u m2;have ab:=ax B' m1;have c2:=ax B' m2;rw[Ac] at ab c2;refine qb a0 (qb bc ⟨_,_,a5,c1,dY (by rw[Ab,Ab];omega),λpp bi=>?_⟩);rw[<-jE];refine Ko (E:=I.E++u.E) (l:=x) (r:=q0) (k:=14) q9 (by rw[Ac];omega) (λy' Q' h=>h) (λ_=>rfl) λpe bj=>?_;have bm:L' pe=none:=(By bi).none bj;generalize hL:qg (qg L' pp _) pe _=L4;have s4:qf L' L4:=by rw[<-hL];exact(By bi).trans (By bj)
   have c3:L4 pe=some (.lst<|zr<|kg I.E u.E x q0):=by rw[<-hL];exact q9
   have done:∀(R:Ru) pa,L4 pa=none->(R=.cu x q0 I.R u.R\/R=.cu q0 x u.R I.R)->Q .non (qg (qg L4 pa<|.lst [je R,.ref pe]) fa<|.lst<|zn U++[.ref pa]):=λR pa J hR=>by rw[<-ft U ⟨pa,pe,R,kg I.E u.E x q0⟩];exact q _ (ks++ms) (U++[⟨pa,pe,R,kg I.E u.E x q0⟩]) ⟨(Vn B' hf hx al (hw.more ms) aL s4 bm c3 J hR).setF _,q9⟩ (by rw[Ac];omega) (by simp) (by rw[Ac];simp;omega)
   refine⟨(by show(0:Int)<2;decide),?_⟩;show wb (decide<|one % 2=0) _ _;refine zo (λc=>?_) λc=>?_
   ·refine qb (s4 _ _ hf)<|qb (s4 _ _ a0)<|qb (s4 _ _ bc) λpa J=>?_;refine qh (By J _ _<|s4 _ _ hf) ⟨big _ (by rw[C];omega),?_⟩;exact jw<|done _ pa J<|.inl rfl
   ·refine qb (s4 _ _ hf)<|qb (s4 _ _ bc)<|qb (s4 _ _ a0) λpa J=>?_;refine qh (By J _ _<|s4 _ _ hf) ⟨big _ (by rw[C];omega),?_⟩;exact jw<|done _ pa J<|.inr rfl
def Kq(g:x5)(I:x5)(J:x5)(U:x5)(l:x5):RD "_law_tree" kO 128 ["_law_cells","_law_seed","_law_room","_law_knots","_law_forest","_law_k","_law_cell","_law_one","_law_two","_law_deed","_law_at"] (λV=>Ga V g/\JJ V I/\JL V J/\JK V U/\JM V l):=⟨_,λV B c _ _ _ _ _ _ _ o hN p=>(qa (S_ 3 hN<|zc x9)<|qa (S_ 4 hN<|zc x9)<|qa (vv xT rfl (bK rfl B.be<|qv 0) (vz (n:=2) rfl<|qz (G_ 5 hN)<|qz (G_ 6 hN) x4)<|qa (IU (i:=7) (j:=8) rfl hN rfl rfl (by decide) rfl rfl (v5 (C_ c.1 o<|ag (qv 6) (qv 5) qe)<|C_ c.1 o<|ag (qv 6) (qv 5) qe) rfl)<|qa (ze (jl FZ (qk j7 (qk j7 (L_ B.ba<|qv 3)<|L_ B.ba<|qv 4) qe) (qv 2)<|jk _) (qc vE) qt)<|qa (S_ 9 hN<|qk jh (qv 7) qe)<|qa (S_ 7 hN<|qk v4 (qv 7) qe)<|qc<|ze (vn<|im (jl iJ (qv 9) qe<|jk _)<|cg<|E_ p (qv 4)<|zc x9) (qa (qw<|qx (qv 3)<|zx<|zf<|v5 qo<|C_ c.2.1 o<|v5 (qv 1)<|qk jh (qv 8) qe)<|qa (qw<|qx (qv 3)<|zx<|zf<|v5 qo<|C_ c.2.1 o<|v5 (qv 1)<|qk jh (qv 8) qe)<|x6 (ze (E_ p (qk jh (qv 7) qe) qe) (qc<|qw<|qx (qv 3)<|zx<|bp (qv 3)<|zx<|qk aw (L_ B.ba<|qv 3) qe) qt)<|qa (S_ 10 hN<|qk aw (L_ B.ba<|qv 3) qe)<|qc<|qw<|qx (qv 4)<|zx<|zc<|v5 (zf<|ag qo (qv 10)<|qk j7 (qv 10) qe)<|zc<|v5 (qv 10)<|qk j7 (qv 10) qe)<|qc<|ze (jl iJ (qv 9) qe<|jk _) (qc<|qw<|C_ c.2.2.1 o<|xl (qv 3)<|ag (I_ (qv 4)<|qk jh (qv 8)<|L_ B.ba<|qv 4) (qv 7)<|qk v4 (qv 8) qe)<|qc<|ze (vn<|wc (jl iJ (qv 9) qe<|jk _)<|va<|jl FZ (L_ B.ba<|qv 4) qe<|jk _) (qc<|qw<|C_ c.2.2.2.1 o<|xl (qv 3)<|ag (qv 4) (qv 7)<|qv 8)<|qc<|qw<|C_ c.2.2.2.2 o<|xl (qv 3)<|ag (qv 4) (qv 7)<|qv 8)<|x6 (ze (E_ p (qv 4)<|zc x9) (qa (qw<|qx (qv 3)<|zx<|zf<|v5 qo<|C_ c.2.1 o<|v5 (qv 1) qe)<|qa (qw<|qx (qv 3)<|zx<|zf<|v5 qo<|C_ c.2.1 o<|v5 (qv 1) qe)<|qc<|qw<|qx (qv 4)<|zx<|zc<|v5 (zf<|ag qo qe qe)<|zc<|v5 qe qe) qt)<|qa (iM xT (jl FZ (L_ B.ba<|qv 4) qe<|jk _)<|qc<|qw<|C_ c.2.2.2.1 o<|xl (qv 3)<|ag (qv 4) (qk j7 (qk v4 (qv 1) qe)<|L_ B.ba<|qv 4)<|qk v4 (qv 1) qe)<|qc<|qm<|zf<|v5 (qv 3)<|I_ (J_ 4) qe)⟩
theorem qN.mono(h:qN L0 L ka fa ks fo)(s:qf L L'):qN L0 L' ka fa ks fo:=⟨h.b.mono s,s _ _ h.hf⟩
def bD.plus{I:qi}{t':Tr}{fs:LO}(B:bD L0 L ka fa ks rest)(j:L fa=some fs)(sA:qf (qg L ka<|.lst<|v9<|ks++ms) I)(ea:I t'.a=some (.lst [je t'.R,.ref t'.b]))(eb:I t'.b=some (.lst<|zr t'.E))
 (J:qg L ka (.lst<|v9<|ks++ms) t'.a=none) (U:qg L ka (.lst<|v9<|ks++ms) t'.b=none) (g:t'.a≠t'.b) (ok:aZ<|ks++ms) (l:SR (ks++ms) t'.R t'.E) (p:∀x,x∈qy t'.R↔ks.length<=x/\x<ks.length+ms.length) (nd:(qy t'.R).Nodup):
 bD L0 I ka fa (ks++ms) (rest++[t']):=by
 exact bD.put (old:=[]) B (λz o n e=>(qd n).trans e) q9 (by rw[qd<|AN B.nkf];exact j) J U g sA ea eb ok l (by rw[Dp,AG];exact(Be nd DM).mpr λz=>by rw[p,Dh])
theorem qN.link(F:qN L0 L ka fa ks fo){nm:Str}(j:aF nm)(b:Bool)(J:qg L ka (.lst<|v9<|ks++[.lf b nm,.lf (!b) nm]) pb=none)
 (U:qg (qg L ka<|.lst<|v9<|ks++[.lf b nm,.lf (!b) nm]) pb (.lst<|zr [ks.length,ks.length+1]) pa=none) {fs:List Y} (g:fs=zn fo++[.ref pa]):
 qN L0 (qg (qg (qg (qg L ka<|.lst<|v9<|ks++[.lf b nm,.lf (!b) nm]) pb<|.lst<|zr [ks.length,ks.length+1]) pa<|.lst [je<|.link ks.length<|ks.length+1,.ref pb]) fa<|.lst fs) ka fa (ks++[.lf b nm,.lf (!b) nm]) (fo++[⟨pa,pb,.link ks.length<|ks.length+1,[ks.length,ks.length+1]⟩]):=by
 have I:pb≠pa:=vt q9 U;have M:=wW F.b.ok (t:=!b) j;rw[Bool.not_not] at M;refine⟨(bD.plus F.b F.hf ((By J).trans<|By U) q9 (by rw[qd I];exact q9) ((By J).none U) J (AN I) M.ok M.sr M.tm M.nd).setF _,?_⟩;rw[q9,g];unfold zn;rw[Aw];rfl
def bD.dats(h:bD L0 L ka fa ks fo)(o:ks.length<=120):Paired (jd L 124) (zn fo) (fo.map fI):=by
 have J:∀l:Yq,(∀t∈l,t∈fo)->Paired (jd L 124) (zn l) (l.map fI):=λl=>by
  induction l with
  |nil=>intro _;exact .nil
  |cons t r U=>
   intro k;have mt:=k t<|Ao ..;obtain⟨g,j⟩:=h.ht t mt;have:=h.rd mt;exact .cons (sj (n:=122) g j (by lia))<|U λt I=>k t<|Af _ I
 exact J fo λt I=>I
def Kr(fo:Yq):Da.eqs (fo.map fI) []=decide (fo=[]):=by cases fo<;>rfl
inductive iU(ys:List Y)(L:qi)(Q:YK):Prop
 |mk:∀cy,∀ns:X7,∀s:Int,∀room:Nat,(ys=[cy,.int s,.int (room:Int)])->(cy=.sq (ns.map Y.int))->(ns.length<=1000)->(room<=120)->(∀ka ks R E,L ka=none->aZ ks->SR ks R E->(qy R).Perm (List.range ks.length)->ks.length<=max room 2->Q (.tup [.ref ka,je R]) (qg L ka<|.lst<|v9 ks))->iU ys L Q
def TW(L0:qi)(ka fa:Addr)(s:Int)(room:Nat)(τ:jc)(L:qi):Prop:=∃J U g j l o I ks fo,τ=[J,some<|.int s,some<|.int (room:Int),some<|.ref ka,some<|.ref fa,U,g,j,l,o,I]/\qN L0 L ka fa ks fo/\ks.length+fo.length<=room
def TW.of{s:Int}{room:Nat}{J U g j l o I:Option Y}(F:qN L0 L ka fa ks fo)(h:ks.length+fo.length<=room):TW L0 ka fa s room [J,some<|.int s,some<|.int (room:Int),some<|.ref ka,some<|.ref fa,U,g,j,l,o,I] L:=⟨_,_,_,_,_,_,_,ks,fo,rfl,F,h⟩
def alt:∀ys L Q,iU ys L Q->jf (Kq bN gU iF nF md).1 11 ys L Q:=by
 rintro ys L Q ⟨cy,ns,s,room,rfl,bb,be,bc,q⟩;have big:=a_;have U:∀fo:Yq,(zn fo).length=fo.length:=λfo=>Ab ..;have C:∀I:Yo,(v9 I).length=I.length:=λI=>Ab ..;intro J ab g ac;have nkf:J≠g:=vt q9 ac;have aL:L g=none:=(By ab).none ac;have F0:qN L (qg (qg L J<|.lst []) g<|.lst []) J g [] []:=by
  refine⟨⟨by rw[qd nkf];exact q9,λt ht=>by simp at ht,λt ht=>by simp at ht,by simp,by simp,by simp[nkf],λp k e=>by simp at e,(By ab).trans<|By ac,λx hx=>?_⟩,q9⟩;rcases Ap.mp hx with rfl|hx
  ·exact ab
  ·rw[Av.mp hx];exact aL
 generalize qg (qg L J<|.lst []) g (.lst [])=L1 at F0;subst bb
 all_goals
  refine ve ⟨λ_ τ L'=>TW L J g s room τ L',?_,?_,?_,?_⟩
  ·exact TW.of F0<|A3 _
  ·rintro i τ L' ⟨T,c5,c6,c7,c8,c9,l,I,fo,rfl,F,hb⟩;exact True.intro
  ·rintro i y τ L' ey ⟨T,c5,c6,c7,c8,c9,l,I,fo,rfl,F,hb⟩;obtain⟨z,ez,rfl⟩:=aT ey;obtain⟨cell,ec,rfl⟩:∃cell:Int,ns[i]?=some cell/\z=Y.int cell:=by rw[Ai] at ez;obtain⟨z,e1,e2⟩:=Am.mp ez;exact⟨z,e1,e2.symm⟩
   have hi:=(AM.mp ec).1;refine⟨cell,((i:Nat):Int),48271,rfl,by exact A6 _,by omega,by decide,by decide,λone h1 bf=>⟨cell,((i:Nat):Int),69621,rfl,by exact A6 _,by omega,by decide,by decide,λtwo h2 bg=>?_⟩⟩;refine qb F.b.hk<|qb F.hf ?_;refine zo (λc=>?_) λc=>?_
   ·exact⟨_,EC _,TW.of F hb⟩
   have c:¬((((v9 I).length:Nat):Int)+(((zn fo).length:Nat):Int)+12 > (room:Int)):=c;rw[C,U] at c;refine⟨(by decide:(0:Int)<9),⟨by decide,by decide⟩,?_⟩;refine zo (λc3=>?_) λc3=>?_
   case' refine_1=>
    obtain⟨L2,ba⟩:∃L2,L2=L':=⟨_,rfl⟩;rw[<-ba];have F':qN L L2 J g I fo:=by rw[ba];exact F
   case' refine_2=>
    intro p hp;refine aY (by decide) (By hp _ _ F.hf) q9 ((F.b.mono<|By hp).dats (by lia)) (.nil:Paired (jd _ 0) _ []) ?_;show wb (Da.eqs (fo.map fI) []) _ _;rw[Kr];have F':qN L (qg L' p<|.lst []) J g I fo:=F.mono<|By hp;generalize qg L' p (.lst [])=L2 at F';refine zo (λT=>?_) λT=>?_
   case' refine_2.refine_2=>
    have bd:0<fo.length:=by cases fo with|nil=>exact absurd rfl T|cons _ _=>simp
    have F:=F';refine zo (λc6=>?_) λc6=>?_
    ·obtain⟨j,t,ej,lj,et⟩:=jA bd two;refine qb F.hf ⟨(by show(0:Int)<((zn fo).length:Int);rw[U];lia),qb F.hf (qj (v:=.ref t.a) (by show jU (zn fo) (two % ((zn fo).length:Int))=_;rw[U,ej];exact vd (by unfold zn;rw[Ai,et];rfl)) ?_)⟩;obtain⟨pre,post,ep⟩:=Ca<|AB et;rw[ep] at F hb;refine⟨⟨by decide,by decide⟩,L,J,g,I,pre,post,t,one / 9,two / 64,rfl,F,by lia,λL3 a0 a1 F3 h1 h2 _=>?_⟩;refine⟨_,EC _,?_⟩;exact TW.of F3 (by rw[ep] at c;lia)
    refine zo (λc8=>?_) λc8=>?_
    ·refine qb F.hf ?_;refine zo (λc1=>?_) λc1=>?_
     ·have c1:(((zn fo).length:Nat):Int) > 1:=c1;rw[U] at c1;refine⟨L,J,g,I,fo,one / 9,two,rfl,F,by lia,by lia,by lia,λL3 a0 a1 F3 h1 h2 _=>?_⟩;refine⟨_,EC _,?_⟩;exact TW.of F3 (by lia)
     ·refine⟨L,J,g,I,fo,one / 9,two,rfl,F,by assumption,by lia,by lia,λL3 a0 a1 F3 h1 h2 h3=>?_⟩;refine⟨_,EC _,?_⟩;exact TW.of F3 (by lia)
    ·refine⟨L,J,g,I,fo,one / 9,two,rfl,F,by lia,by lia,by lia,λL3 a0 a1 F3 h1 h2 h3=>?_⟩;refine⟨_,EC _,?_⟩;exact TW.of F3 (by lia)
   all_goals
    obtain⟨nm,a2⟩:∃nm,nm=jo (a8 s<|two % 3):=⟨_,rfl⟩;have al:aF nm:=by rw[a2];exact ue _ _
    refine qb F'.b.hk ⟨(by decide:(0:Int)<3),s,two % 3,rfl,qh F'.b.hk ⟨big _ (by rw[C];omega),?_⟩⟩;refine qb q9 ⟨(by decide:(0:Int)<3),s,two % 3,rfl,qh q9 ⟨big _ (by rw[Ac,C];simp;omega),?_⟩⟩;rw[<-a2,vi];have e1:(v9 I++[.tup [.str "plain",.str nm]])++[.tup [.str "turned",.str nm]]=v9 (I++[.lf false nm,.lf true nm]):=by unfold v9;rw[Aw,Aq];rfl
    rw[e1];refine⟨λτ L3=>∃(b:Bool) (d0 d10:Option Y),τ=[d0,some<|.int s,some<|.int (room:Int),some<|.ref J,some<|.ref g,some<|.int ((i:Nat):Int),some<|.int cell,some<|.int<|one / 9,some<|.int two,some<|.int<|one % 9,d10]/\L3=qg L2 J (.lst<|v9<|I++[.lf b nm,.lf (!b) nm]),?_,?_⟩
    ·refine⟨(by decide:(0:Int)<2),?_⟩;show wb (decide<|one / 9 % 2=1) _ _;refine zo (λc2=>?_) λc2=>?_
     ·have l2:(v9<|I++[Kn.lf false nm,.lf true nm]).length=I.length+2:=by rw[C,Ac];rfl
      have t2:((((v9<|I++[Kn.lf false nm,.lf true nm]).length:Nat):Int)-2).toNat=I.length:=by rw[l2];omega
      refine qb q9<|qb q9<|qb q9<|qh q9 ⟨?_,?_,qj (v:=sC<|.lf false nm) ?_ ?_⟩
      ·show(0:Int)<=(((v9<|I++[Kn.lf false nm,.lf true nm]).length:Nat):Int)-2;rw[l2];omega
      ·show(((v9<|I++[Kn.lf false nm,.lf true nm]).length:Nat):Int)-2<_;omega
      ·show(v9<|I++[Kn.lf false nm,.lf true nm])[((((v9<|I++[Kn.lf false nm,.lf true nm]).length:Nat):Int)-2).toNat]?=_;rw[t2];unfold v9;rw[Ai,cf];rfl
      ·rw[vi];refine qh q9 ⟨big _ ?_,?_⟩
       ·refine AE (C7 ..) ?_;show(v9<|I++[Kn.lf false nm,.lf true nm]).length<=20000;rw[l2];omega
       ·refine⟨true,_,_,rfl,?_⟩;rw[vi];have e3:(v9<|I++[Kn.lf false nm,.lf true nm]).eraseIdx ((((v9<|I++[Kn.lf false nm,.lf true nm]).length:Nat):Int)-2).toNat++[sC<|.lf false nm]=v9 (I++[.lf true nm,.lf false nm]):=by rw[t2];unfold v9;rw[Aw,List.eraseIdx_append_of_length_le (by simp),Ab,CB,Aw,Aq];rfl
        rw[e3];rfl
     ·exact⟨false,_,_,rfl,rfl⟩
    ·rintro bh L3 ⟨b,d0,d10,rfl,rfl⟩;have l2:(v9<|I++[Kn.lf b nm,.lf (!b) nm]).length=I.length+2:=by rw[C,Ac];rfl
     have nn:(((v9<|I++[Kn.lf b nm,.lf (!b) nm]).length:Nat):Int)-2=((I.length:Nat):Int):=by rw[l2];omega
     have a3:qg L2 J (.lst<|v9<|I++[.lf b nm,.lf (!b) nm]) g=some (.lst<|zn fo):=by rw[qd<|AN nkf];exact F'.hf
     have en:∀z:Int,z=((I.length:Nat):Int)->zr [I.length,I.length+1]=[.int z,.int<|z+1]:=λz e=>by rw[e];rfl
     have er:∀z:Int,z=((I.length:Nat):Int)->je (.link I.length<|I.length+1)=.tup [.str "link",.int z,.int<|z+1]:=λz e=>by rw[e];rfl
     have en:=en _ nn;have er:=er _ nn;refine qb q9<|qb a3 λpb a4 pa a5=>?_;have H:=F'.link al b (pb:=pb) (pa:=pa) a4 (by rw[en];exact a5) rfl;refine qh (((By a4).trans<|By a5) _ _ a3) ⟨big _ (by rw[U];omega),?_⟩;rw[en,er] at H;refine⟨_,EC _,?_⟩;exact TW.of H (by rw[Ac,Ac];simp;omega)
  ·rintro τ L' ⟨T,c5,c6,c7,c8,c9,l,I,fo,rfl,F,hb⟩;refine⟨λτ L3=>∃T c5 c6 c7 c8 c9 l I fo,τ=[T,some<|.int s,some<|.int (room:Int),some<|.ref J,some<|.ref g,c5,c6,c7,c8,c9,l]/\qN L L3 J g I fo/\1<=fo.length/\I.length+fo.length<=max room 3,?_,?_⟩
   ·intro p hp;refine aY (by decide) (By hp _ _ F.hf) q9 ((F.b.mono<|By hp).dats (by lia)) (.nil:Paired (jd _ 0) _ []) ?_;show wb (Da.eqs (fo.map fI) []) _ _;rw[Kr];have F':qN L (qg L' p<|.lst []) J g I fo:=F.mono<|By hp;generalize qg L' p (.lst [])=L2 at F';refine zo (λT=>?_) λT=>?_
    ·subst T;have k0:I=[]:=by cases I with|nil=>rfl|cons k r=>exact absurd ((F.b.tm 0).mpr (by simp)) (by simp)
     subst k0;obtain⟨nm,a2⟩:∃nm,nm=jo (a8 s 0):=⟨_,rfl⟩;have al:aF nm:=by rw[a2];exact ue _ _
     refine qb F'.b.hk ⟨s,0,rfl,qh F'.b.hk ⟨big _ (by decide),?_⟩⟩;refine qb q9 ⟨s,0,rfl,qh q9 ⟨big _ (by show 1<=20000;decide),?_⟩⟩;rw[<-a2,vi];have a3:∀o,qg L2 J o g=some (.lst<|zn []):=λo=>by rw[qd<|AN nkf];exact F'.hf
     refine qb (a3 _) λpb a4 pa a5=>?_;have H:=F'.link al true (pb:=pb) (pa:=pa) a4 a5 rfl;refine qh (((By a4).trans<|By a5) _ _<|a3 _) ⟨big _ (by show 0<=20000;decide),?_⟩;exact⟨_,_,_,_,_,_,_,_,_,rfl,H,by simp,by simp;lia⟩
    ·exact⟨_,_,_,_,_,_,_,I,fo,rfl,F',(by cases fo with|nil=>exact absurd rfl T|cons _ _=>simp),by lia⟩
   ·rintro τ L' ⟨T,c5,c6,c7,c8,c9,l,I,fo,rfl,F,h1,hb⟩;refine⟨λm τ L3=>∃T c5 c6 c7 c8 c9 l I fo,τ=[T,some<|.int s,some<|.int (room:Int),some<|.ref J,some<|.ref g,c5,c6,c7,c8,c9,l]/\qN L L3 J g I fo/\1<=fo.length/\fo.length=m/\I.length+fo.length<=max room 3,⟨_,_,_,_,_,_,_,_,_,_,rfl,F,h1,rfl,hb⟩,?_⟩;rintro m τ L' ⟨T,c5,c6,c7,c8,c9,l,I,fo,rfl,F,h1,hm,hb⟩;refine qb F.hf ?_;refine zo (λc1=>?_) λc1=>?_
    ·have c1:(((zn fo).length:Nat):Int) > 1:=c1;rw[U] at c1;refine⟨λτ L3=>∃T c5 c6 c7 c8 c9 l I fo,τ=[T,some<|.int s,some<|.int (room:Int),some<|.ref J,some<|.ref g,c5,c6,c7,c8,c9,l]/\qN L L3 J g I fo/\1<=fo.length/\fo.length+1=m/\I.length+fo.length<=max room 3,?_,?_⟩
     ·rintro τ L3 ⟨d0,d5,d6,d7,d8,d9,d10,a0,a1,rfl,F3,g1,g2,g3⟩;exact⟨m-1,by lia,_,_,_,_,_,_,_,_,_,rfl,F3,g1,by lia,g3⟩
     ·refine⟨⟨by decide,by decide⟩,qb F.hf ⟨⟨by decide,by decide⟩,L,J,g,I,fo,_,_,rfl,F,by lia,by lia,by lia,λL3 a0 a1 F3 g1 g2 _=>?_⟩⟩;exact⟨_,EC _,_,_,_,_,_,_,_,a0,a1,rfl,F3,by lia,by lia,by lia⟩
    ·have c1:¬((((zn fo).length:Nat):Int) > 1):=c1;rw[U] at c1;obtain⟨t,rfl⟩:∃t,fo=[t]:=by
      match fo,h1,c1 with
      |[t],_,_=>exact⟨t,rfl⟩
      |t::u::r,_,c=>exact absurd (show(((t::u::r).length:Nat):Int) > 1 by simp;lia) c
     have ta:=(F.b.ht t<|Ao ..).1;refine qb F.hf<|qb ta ?_;refine bC (qf.put F.b.sub F.b.hk)<|q J I t.R t.E ab F.b.ok (F.b.sr t<|Ao ..) ?_ ?_
     ·have nd:=F.b.nd;have tm:=F.b.tm;simp at nd tm;exact(Be nd Cz).mpr λx=>by rw[tm,A2]
     ·simp at hb;lia
def db(p q:Yb):Prop:=p.1<q.1\/(p.1=q.1/\p.2<=q.2)
def kY(p:Yb):Int×Int:=((p.1:Int),(p.2:Int))
def rE{p q:Yb}(h:kY p=kY q):p=q:=by obtain⟨a,b⟩:=p;obtain⟨c,d⟩:=q;have I:(a:Int)=c:=Bs Prod.fst h;have J:(b:Int)=d:=Bs Prod.snd h;rw[Co.mp I,Co.mp J]
def gm(ps:XX):z9 ps=(ps.map kY).map FA:=by rw[BH];rfl
def vL{a:Addr}{ps:XX}{Q:YK}(U:L a=some (.lst<|z9 ps))(g:∀p∈ps,p.2<1000000)(nd:ps.Nodup)(j:ps.length<=127)
 (q:∀D qs,L D=none->qs.Perm ps->qs.Pairwise db->Q (.ref D) (qg L D<|.lst<|z9 qs)):dk [.ref a] L Q:=by
 refine qh U ⟨ps.map kY,gm ps,λp l=>?_,?_,by rw[Ab];exact j,λD qs o pm t=>?_⟩
 ·obtain⟨r,C,rfl⟩:=Bj.mp l;have:=g r C;exact⟨A6 _,by show((r.2:Nat):Int)<1000000;omega⟩
 ·exact bX (λx _ y _ e=>rE e) nd
 ·obtain⟨T,pT,rfl⟩:=rS kY pm rfl;rw[<-gm];refine q D T o pT<|(BN.mp t).imp λ{x y} z=>?_;unfold db;rcases z with z|⟨I,J⟩
  ·left;have z:((x.1:Nat):Int)<y.1:=z;lia
  ·right;have I:((x.1:Nat):Int)=y.1:=I;have J:((x.2:Nat):Int)<=y.2:=J;exact⟨by lia,by lia⟩
def xB{m:Yb->Yb}{keep:qi->Prop}{Q:YK}(hz:lk.length<=127)(l:keep L)
 (turn:∀(i:Nat) (I:Yb) (R:List Y->qi->Prop) zs,lk[i]?=some I->R (zs++[qP<|m I]) L->g (qP I) (τ++List.replicate 2 none) L λJ L2=>tc J L2 λb L3=>wb b (te J L3 λz o=>R (zs++[z]) o)<|R zs L3)
 (r:∀p,L p=none->Q (.ref p) (qg L p<|.lst<|z9<|lk.map m)):yb (z9 lk) keep 2 g tc te τ L Q:=by
 refine wf (λi zs=>zs=z9 ((lk.take i).map m)) (by rw[Ab];exact AW hz (by decide)) l rfl ?_ ?_
 ·rintro i y zs U rfl;rw[Ai] at U;obtain⟨I,j,rfl⟩:=Am.mp U;refine turn i I _ _ j ⟨L,EC _,rfl,?_⟩;rw[AZ,j,Aw];show _=(_++_:XX).map qP;rw[Aw];rfl
 ·rintro zs rfl p t;rw[Ab,AX];exact r p t
structure yg(L0:qi)(ks:List<|Yp)(qs:X2)(d w D:Addr)(i ex:Nat)(f:X_)(wd:List<|Yp)(kvs:List<|ja×Y)(L:qi):Prop where
 sub:qf L0 L
 hd:L d=some (.dct kvs)
 hw:L w=some (.lst<|xz wd)
 hD:L D=some (.lst<|nY qs)
 len:kvs.length<=i
 val:∀p:Nat,aX kvs (.inl (p:Int))=if p∈qs.take i then some (.int (f p:Int)) else none
 gap:uR ks (qs.take i) f wd
 wlen:wd.length<=2*i+ex
def mmP(f:X_)(p:Yb):Yb:=(min (f p.1)<|f p.2,max (f p.1)<|f p.2)
def ppP(f:X_)(p:Yb):Yb:=(f p.1,f p.2)
structure Ren(f:X_)(ks wd:List<|Yp):Prop where
 gap:uR ks (List.range ks.length) f wd
 len:wd.length<=2*ks.length+1
inductive cB(Pt:Addr)(ys:List Y)(L:qi)(Q:YK):Prop
 |mk:∀a l c,∀ks:List (Yp),∀lk ct:XY,∀s:Int,∀b:Bool,(ys=[.ref a,.ref l,.ref c,.int s,.bl b])->(L a=some (.lst<|xz ks))->(L l=some (.lst<|z9 lk))->(L c=some (.lst<|z9 ct))->(qF ks)->(ks.length<=127)->(L Pt=some (.tb lamQ))->(lk.Nodup)->((∀p∈lk,p.1<p.2/\p.2<ks.length))->(lk.length<=127)->(ct.Nodup)->((∀p∈ct,p.1<ks.length/\p.2<ks.length))->(ct.length<=127)->(∀f wd lk' ct' wa la ca L',Ren f ks wd->lk'.Perm (lk.map<|mmP f)->lk'.Pairwise db->ct'.Perm (ct.map<|ppP f)->ct'.Pairwise db->qf L L'->L wa=none->L la=none->L ca=none->wa≠la->wa≠ca->la≠ca->L' wa=some (.lst<|xz wd)->L' la=some (.lst<|z9 lk')->L' ca=some (.lst<|z9 ct')->Q (fJ wa la ca) L')->cB Pt ys L Q
def dr(wd:List<|Yp)(k:Yp):xz wd++[fP k]=xz (wd++[k]):=by unfold xz;rw[Aw];rfl
def wr(wd:List<|Yp):(xz wd).length=wd.length:=Ab ..
def yg.wide{ks:List<|Yp}{d w D:Addr}{ex ex':Nat}{f:X_}{wd':List<|Yp}{kvs:List<|ja×Y}(G:yg L0 ks qs d w D i ex f wd kvs L)(U:L0 w=none)(I:d≠w)(J:w≠D)(g:uR ks (qs.take i) f wd')(h:wd'.length<=2*i+ex'):
 yg L0 ks qs d w D i ex' f wd' kvs (qg L w<|.lst<|xz wd'):=
 ⟨G.sub.upd U,(qd I).trans G.hd,q9,(qd<|AN J).trans G.hD,G.len,G.val,g,h⟩
theorem uR.gaps{ks:List<|Yp}{ps:X2}{f:X_}(h:uR ks ps f wd):∀n,uR ks ps f<|wd++List.replicate n none
 |0=>by rw[List.replicate_zero,AG];exact h
 |n+1=>by rw[CM,<-Aq];exact(h.gaps n).gap
def Vp{a b c:Nat}(h1:min a b=min c d)(h2:max a b=max c d):(a=c/\b=d)\/(a=d/\b=c):=by lia
theorem Vq :∀ys L Q,cB Pt ys L Q->jf (ph (i4 Pt) bN) 9 ys L Q:=by
 rintro ys L Q ⟨a,l,c,j,lk,ct,s,b,rfl,ha,hl,hc,ok,hz,hP,c9,a3,ca,cc,a4,ck,q⟩;have big:=a_;intro d hd w hw;have bd:L w=none:=xr hw;have a0:d≠w:=vt q9 hw;have s0:qf L (qg (qg L d<|.dct []) w<|.lst []):=(By hd).trans<|By hw;refine⟨a,j,s,rfl,s0 _ _ ha,ok,by exact dP,s0 _ _ hP,λD I hD pm pf=>?_⟩;have dj:L D=none:=xr<|xr hD;have ba:w≠D:=vt q9 hD;have be:d≠D:=vt ((qd a0).trans q9) hD;have lq:I.length=j.length:=by rw[pm.length_eq,Ci]
 have cl:I.Nodup:=pm.nodup_iff.mpr Cz;have mq:∀p∈I,p<j.length:=λp C=>A2.mp<|pm.mem_iff.mp C;have G0:yg L j I d w D 0 0 (λ_=>0) [] [] (qg (qg (qg L d<|.dct []) w<|.lst []) D<|.lst<|nY I):=
  ⟨s0.trans<|By hD,(qd be).trans<|(qd a0).trans q9,(qd ba).trans q9,q9,Ak _,λp=>rfl,uR.nil _ _,Ak _⟩
 refine zp q9 λkeep kp=>ve ⟨λi τ L'=>∃f T J c7 c8,τ=[some<|Y.ref a,some<|Y.ref l,some<|Y.ref c,some<|.int s,some<|.bl b,some<|Y.ref d,some<|Y.ref w,c7,c8]/\yg L j I d w D i 0 f T J L',⟨_,_,_,_,_,rfl,G0⟩,?_,?_,?_⟩
 ·rintro i τ L' ⟨f,T,J,c7,c8,rfl,G⟩;exact kp L' (by rw[G.hD,q9])
 ·rintro i y τ L' hy ⟨f,T,J,c7,c8,rfl,G⟩;obtain⟨p,ep,rfl⟩:=Kf hy;have hi:=zd ep;have C:p<j.length:=mq p<|AB ep;obtain⟨k,hk⟩:∃k,j[p]?=some k:=⟨_,Ag C⟩;have pn:p∉I.take i:=λhm=>by
   have e2:I=I.take i++p::I.drop (i+1):=by rw[Ag hi] at ep;rw[<-Bb ep,Dg,A1]
   have nd:=cl;rw[e2] at nd;exact(Az.mp nd).2.2 p hm p (Ao ..) rfl
  have et:I.take (i+1)=I.take i++[p]:=by rw[AZ,ep];rfl
  refine⟨λa2 L1=>∃wd',a2=[some<|Y.ref a,some<|Y.ref l,some<|Y.ref c,some<|.int s,some<|.bl b,some<|Y.ref d,some<|Y.ref w,some<|.int (p:Nat),c8]/\yg L j I d w D i 1 f wd' J L1,?_,?_⟩
  ·have plain:yg L j I d w D i 1 f T J L':=⟨G.sub,G.hd,G.hw,G.hD,G.len,G.val,G.gap,by have:=G.wlen;exact zF⟩;cases b with
   |false=>exact⟨T,rfl,plain⟩
   |true=>
    refine⟨s,(p:Nat),40692,rfl,by exact A6 _,by omega,by decide,by decide,λv h0 h1=>?_⟩;refine⟨show(0:Int)<3 by decide,?_⟩;refine zo (λg=>?_) λg=>⟨T,rfl,plain⟩;refine qb G.hw (qh G.hw ⟨by rw[wr];have:=G.wlen;exact big _ (by lia),?_⟩);refine⟨T++[none],rfl,?_⟩;have:=G.wide (wd':=T++[none]) (ex':=1) bd a0 ba G.gap.gap (by rw[Ac];have:=G.wlen;show T.length+1<=_;exact vB);rw[<-dr] at this;exact this
  ·rintro a2 L1 ⟨wd',rfl,G1⟩;have al:∀e i' j',k=some (.nd e i' j')->i'∈I.take i/\j'∈I.take i:=λe i' j' z=>nR ok pm pf ep (by rw[hk,z]);have bb:∀x∈I.take i,∀e i' j',j[x]?=some (some<|.nd e i' j')->i'∈I.take i/\j'∈I.take i:=λx hx e i' j' z=>by
    obtain⟨n,hn⟩:=Dt hx;have cm:=zd hn;rw[AJ] at cm;rw[DP (by lia)] at hn;obtain⟨h1,h2⟩:=nR ok pm pf hn z;have sb:∀y,y∈I.take n->y∈I.take i:=λy hy=>by
     have:I.take n=(I.take i).take n:=by rw[List.take_take,BC (by lia)]
     rw[this] at hy;exact Bz hy
    exact⟨sb _ h1,sb _ h2⟩
   have vp:∀y:Nat,aX (qL J (.inl (p:Int))<|.int ((wd'.length:Nat):Int)) (.inl (y:Int))=if y∈I.take i++[p] then some (.int (((if y=p then wd'.length else f y):Nat):Int)) else none:=λy=>by
    rw[Vd];by_cases e:y=p
    ·subst e;rw[AF rfl,AF rfl,AF<|Al _<|Av.mpr rfl]
    ·rw[AA λz=>e<|Co.mp<|Sum.inl.inj z,AA e,G1.val];by_cases h:y∈I.take i
     ·rw[AF h,AF<|Ay _ h]
     ·rw[AA h,AA λz=>(An.mp z).elim h λz=>e<|Av.mp z]
   have wl:=G1.wlen;have kl:=G1.len;refine qb G1.hw ?_;rw[wr];refine wz G1.hd ⟨big _ (by lia),?_⟩;have cn:a≠d:=vt ha hd;refine qb ((qd cn).trans<|G1.sub _ _ ha)<|qj (xm hk) ?_;have dp:∀{o},qg L1 d o d=some o:=q9;refine⟨λa2 L2=>a2=[some<|Y.ref a,some<|Y.ref l,some<|Y.ref c,some<|.int s,some<|.bl b,some<|Y.ref d,some<|Y.ref w,some<|.int (p:Nat),some<|fP<|jX f k]/\L2=qg L1 d (.dct<|qL J (.inl (p:Int))<|.int ((wd'.length:Nat):Int)),?_,?_⟩
   ·cases k with
    |none=>exact⟨rfl,rfl⟩
    |some k=>
     cases k with
     |lf t n=>exact⟨rfl,rfl⟩
     |nd e p1 p2=>
      obtain⟨m1,m2⟩:=al e p1 p2 rfl;have v1:=vp p1;have v2:=vp p2;rw[AF<|Ay _ m1,AA λ(z:p1=p)=>pn<|z▸m1] at v1;rw[AF<|Ay _ m2,AA λ(z:p2=p)=>pn<|z▸m2] at v2;refine wz q9<|qj v1 ?_;refine wz q9<|qj v2 ?_;exact⟨rfl,rfl⟩
   ·rintro a2 L2 ⟨rfl,rfl⟩;have bf:qg L1 d (.dct<|qL J (.inl (p:Int))<|.int ((wd'.length:Nat):Int)) w=some (.lst<|xz wd'):=(qd<|AN a0).trans G1.hw;refine qb bf (qh bf ⟨by rw[wr];exact big _ (by lia),?_⟩);rw[dr];have hb:∀x∈I.take i,x<j.length:=λx hx=>mq x<|Bz hx;refine⟨_,EC _,λx=>if x=p then wd'.length else f x,wd'++[jX f k],_,_,_,rfl,(G1.sub.upd hd).upd bd,(qd a0).trans q9,q9,(qd<|AN ba).trans<|(qd<|AN be).trans G1.hD,?_,λy=>?_,?_,?_⟩
    ·have:=Ve J (.inl (p:Int))<|.int ((wd'.length:Nat):Int);lia
    ·rw[et];exact vp y
    ·rw[et];exact G1.gap.step hb pn hk bb al
    ·rw[Ac];show wd'.length+1<=_;exact vB
 ·rintro τ L' ⟨f,T,J,c7,c8,rfl,G⟩;have eq:(nY I).length=I.length:=Ab ..;rw[eq] at G;have et:I.take I.length=I:=AX;have val:∀p,p<j.length->aX J (.inl (p:Int))=some (.int (f p:Int)):=λp C=>by rw[G.val,et,AF<|pm.mem_iff.mpr<|A2.mpr C]
  have gap:uR j (List.range j.length) f T:=by have g:=G.gap;rw[et] at g;exact⟨λp C=>g.at_ p<|pm.mem_iff.mpr C,λp C r hr=>g.inj p (pm.mem_iff.mpr C) r<|pm.mem_iff.mpr hr,λx k hx=>let ⟨r,hr,e⟩:=g.only x k hx;⟨r,pm.mem_iff.mp hr,e⟩,g.ok⟩
  have flt:∀p,p<j.length->f p<T.length:=λp C=>gap.lt (A2.mpr C) C;have inj:∀p r,p<j.length->r<j.length->f p=f r->p=r:=λp r C hr e=>gap.inj p (A2.mpr C) r (A2.mpr hr) e;have wl:T.length<=2*j.length:=by have:=G.wlen;rw[lq] at this;lia
  refine zp (G.sub _ _ hl) λkeep kp=>xB (m:=mmP f) ca (kp _ rfl) (λi U R zs bc hR=>?_) λp1 bg=>?_
  ·obtain⟨l1,l2⟩:=a3 U<|AB bc;have v1:=val U.1 (by exact tW);have v2:=val U.2 l2;refine wz G.hd<|qj v1 ?_;refine wz G.hd<|qj v2 ?_;refine wz G.hd<|qj v1 ?_;refine wz G.hd<|qj v2 ?_;have e1:min ((f U.1:Nat):Int) ((f U.2:Nat):Int)=((min (f U.1) (f U.2):Nat):Int):=UJ _ _;have e2:max ((f U.1:Nat):Int) ((f U.2:Nat):Int)=((max (f U.1) (f U.2):Nat):Int):=UK _ _;have cv:R (zs++[.tup [.int<|min ((f U.1:Nat):Int) ((f U.2:Nat):Int),.int<|max ((f U.1:Nat):Int) ((f U.2:Nat):Int)]]) L':=by rw[e1,e2];exact hR
   exact cv
  have b1:∀p∈lk.map (mmP f),p.2<1000000:=λp C=>by obtain⟨r,hr,rfl⟩:=Bj.mp C;obtain⟨h1,h2⟩:=a3 r hr;have:=flt r.1 (by lia);have:=flt r.2 h2;exact Nat.max_lt.mpr ⟨by lia,by lia⟩
  have n1:(lk.map<|mmP f).Nodup:=bX (λx hx y hy e=>by
   obtain⟨x1,x2⟩:=a3 x hx;obtain⟨y1,y2⟩:=a3 y hy;have m1:min (f x.1) (f x.2)=min (f y.1) (f y.2):=Bs Prod.fst e;have m2:max (f x.1) (f x.2)=max (f y.1) (f y.2):=Bs Prod.snd e;have a1:x.1=y.1/\x.2=y.2:=by
    rcases Vp m1 m2 with⟨c1,c2⟩|⟨c1,c2⟩
    ·exact⟨inj x.1 y.1 (Dc x1 x2) (Dc y1 y2) c1,inj x.2 y.2 x2 y2 c2⟩
    ·have e3:=inj x.1 y.2 (Dc x1 x2) y2 c1;have e4:=inj x.2 y.1 x2 (Dc y1 y2) c2;rw[e3,e4] at x1;exact absurd x1 (Nat.lt_asymm y1)
   exact Et a1.1 a1.2) c9
  dsimp only[jn];refine vL (ps:=lk.map<|mmP f) q9 b1 n1 (by rw[Ab];exact dP) λD1 bh bi cy cA=>?_;have de:L p1=none:=G.sub.none bg;have bj:=xr bi;have bm:L D1=none:=G.sub.none bj;have S1:qf L' (qg (qg L' p1<|.lst<|z9<|lk.map<|mmP f) D1<|.lst<|z9 bh):=(By bg).trans<|By bi;refine zp (S1 _ _<|G.sub _ _ hc) λkeep kp=>xB (m:=ppP f) ck (kp _ rfl) (λi U R zs bc hR=>?_) λp2 a5=>?_
  ·obtain⟨l1,l2⟩:=a4 U<|AB bc;refine wz (S1 _ _ G.hd)<|qj (val U.1 l1) ?_;refine wz (S1 _ _ G.hd)<|qj (val U.2 l2) ?_;exact hR
  have b2:∀p∈ct.map (ppP f),p.2<1000000:=λp C=>by obtain⟨r,hr,rfl⟩:=Bj.mp C;obtain⟨h1,h2⟩:=a4 r hr;have:=flt r.2 h2;show f r.2<1000000;lia
  have n2:(ct.map<|ppP f).Nodup:=bX (λx hx y hy e=>by obtain⟨x1,x2⟩:=a4 x hx;obtain⟨y1,y2⟩:=a4 y hy;exact Et (inj _ _ x1 y1<|Bs Prod.fst e)<|inj _ _ x2 y2<|Bs Prod.snd e) cc
  dsimp only[jn];refine vL (ps:=ct.map<|ppP f) q9 b2 n2 (by rw[Ab];exact dP) λD2 bn c0 cI cP=>?_;have aL:=xr c0;have S2:=S1.trans<|(By a5).trans<|By (o:=.lst<|z9 bn) c0;have c3:L D2=none:=G.sub.none<|S1.none aL;have ab:D1≠D2:=vt q9 aL;obtain⟨m,hm,dt⟩:∃m:Nat,(if b=true then(1:Int) else 0)=(m:Int)/\m<=1:=by cases b;exact⟨0,rfl,by exact A3 _⟩;exact⟨1,rfl,by exact BE _⟩
  walk_at "w";rw[hm];refine⟨⟨by exact A6 _,by omega⟩,?_⟩;rw[Cg];refine yu (λi zs=>zs=xz (List.replicate i none)) (big _ (by exact dP)) rfl ?_ ?_
  ·rintro i zs hi rfl;refine⟨_,EC _,rfl,?_⟩;rw[CM];exact dr _ none
  rintro zs rfl p3 ac;have S3:=S2.trans<|By (o:=.lst<|xz<|List.replicate m none) ac;refine⟨_,_,S3 _ _ G.hw,q9,?_,λp4 c4=>?_⟩
  ·rw[wr,wr,AS];exact Bp<|big _ (by lia)
  have h4:=xr c4;have d0:L p4=none:=G.sub.none<|S2.none h4;have c5:D2≠p4:=vt q9 h4;have c6:D1≠p4:=vt ((qd ab).trans<|(qd<|vt q9 a5).trans q9) h4;have di:=xr ac;have dc:D1≠p3:=vt ((qd ab).trans<|(qd<|vt q9 a5).trans q9) ac;have dd:D2≠p3:=vt q9 ac;have eo:xz T++xz (List.replicate m none)=xz (T++List.replicate m none):=by unfold xz;rw[Aw]
  rw[eo];refine jw<|q f (T++List.replicate m none) bh bn p4 D1 D2 _ ⟨gap.gaps m,?_⟩ cy cA cI cP ((G.sub.trans S3).trans<|By c4) d0 bm c3 (AN c6) (AN c5) ab q9 ?_ ?_
  ·rw[Ac,AS];exact Qg
  ·rw[qd c6,qd dc,qd ab,qd<|vt q9 a5,q9]
  ·rw[qd c5,qd dd,q9]
def kE:RD "_law_told" mF 0 ["_law_rule","_law_links","_law_cuts","_law_todo","_law_here"] (λ_=>True):=⟨_,λV B c _ _ _ _ _ _ _ J hN I=>(qa (U3 (i:=1) (j:=2) (k:=3) rfl hN rfl rfl rfl (by decide) (by decide) (by decide) rfl rfl rfl (ag (zc x9) (zc x9)<|zc<|zx<|qv 0) rfl)<|qa (iM xT (N_ I (qv 3)<|zc x9)<|qa (S_ 4 hN<|IW<|qv 3)<|x6 (ze (E_ I (J_ 4) qo) (qc<|qw<|qx (qv 1)<|zx<|zf<|v5 (J_ 4)<|J_ 4) qt)<|x6 (ze (E_ I (J_ 4) qo) (qc<|qw<|qx (qv 2)<|zx<|zf<|v5 (J_ 4)<|J_ 4) qt)<|qc<|qw<|bR (qv 3)<|zx<|aV ["_law_arm"] (EI (by rfl)) rfl (U6<|vq (U5 _ _ _) (qv 4) (w5 qe) aE) (fK 5) (λ_ _ _ _=>cV<|xh<|w6 .tuple rfl B.b_isinstance rfl B.b_tuple hG<|qv 5) λ_ _ _ _=>(qv 5))<|qc<|qm<|zf<|v5 (zy dC rfl B.bb ww<|zx<|qv 1)<|zy dC rfl B.bb ww<|zx<|qv 2)⟩
def zg:Ru->XY
 |.link p q=>[(p,q)]
 |.ei _ A=>zg A
 |.bo _ A B=>zg A++zg B
 |.cu _ _ A B=>zg A++zg B
def zh:Ru->XY
 |.link _ _=>[]
 |.ei _ A=>zh A
 |.bo _ A B=>zh A++zh B
 |.cu p q A B=>(p,q)::(zh A++zh B)
def mZ:Ru->Nat
 |.link _ _=>1
 |.ei _ A=>mZ A+1
 |.bo _ A B=>mZ A+mZ B+1
 |.cu _ _ A B=>mZ A+mZ B+1
def aS:Ru->List Ru
 |.link _ _=>[]
 |.ei _ A=>[A]
 |.bo _ A B=>[A,B]
 |.cu _ _ A B=>[A,B]
def pU:Ru->XY
 |.link p q=>[(p,q)]
 |_=>[]
def uI:Ru->XY
 |.cu p q _ _=>[(p,q)]
 |_=>[]
def ym(A:Ru):zg A=pU A++(aS A).flatMap zg:=by cases A<;>simp[zg,pU,aS]
def Vr(A:Ru):zh A=uI A++(aS A).flatMap zh:=by cases A<;>simp[zh,uI,aS]
def vO(A:Ru):((aS A).map mZ).sum+1=mZ A:=by cases A<;>simp[mZ,aS]
def Vs(A:Ru):0<mZ A:=by cases A<;>simp[mZ]
def Vt{A B:Ru}(h:B∈aS A):aI B<aI A:=by cases A<;>simp[aS] at h<;>(try rcases h with rfl|rfl)<;>(try subst h)<;>simp[aI]<;>omega
def o9:Ru->List Y
 |.link _ q=>[.int ((q:Nat):Int)]
 |.ei _ A=>[je A]
 |.bo _ A B=>[je A,je B]
 |.cu _ q A B=>[.int ((q:Nat):Int),je A,je B]
def Gj:Y->Option Y
 |.tup ys=>some<|.tup ys
 |_=>none
def zQ(A:Ru):Gj (je A)=some (je A):=by cases A<;>rfl
def Ks(i:Int):Gj (.int i)=none:=rfl
def Vu(A:Ru):(o9 A).filterMap Gj=(aS A).map je:=by cases A<;>simp[o9,aS,CT,zQ,Ks]
def Vv{A:Ru}(h:y∈o9 A):(∃q:Nat,y=.int (q:Int))\/∃B,y=je B:=by
 cases A<;>simp[o9] at h
 ·exact .inl ⟨_,h⟩
 ·exact .inr ⟨_,h⟩
 ·rcases h with h|h<;>exact .inr ⟨_,h⟩
 ·rcases h with h|h|h
  ·exact .inl ⟨_,h⟩
  ·exact .inr ⟨_,h⟩
  ·exact .inr ⟨_,h⟩
structure mG(R:Ru)(lk ct:XX)(st:List Ru):Prop where
 pl:(lk++st.flatMap zg).Perm (zg R)
 pc:(ct++st.flatMap zh).Perm (zh R)
 sz:(st.map mZ).sum<=mZ R
 dp:∀A∈st,aI A<=aI R
def mG.start(R:Ru):mG R [] [] [R]:=⟨by simp,by simp,by simp,λA I=>by simp at I;subst I;exact Ak _⟩
def mG.step{A:Ru}{st:List Ru}(h:mG R lk ct<|st++[A]):mG R (lk++pU A) (ct++uI A) (st++aS A):=by
 have pm:∀{X U V W:XX},(X++U++(V++W)).Perm (X++(V++(U++W))):=λ{X U V W}=>by rw[Aq];refine Do X ?_;rw[<-Aq,<-Aq];exact Di W Bk
 refine⟨?_,?_,?_,λB I=>?_⟩
 ·refine List.Perm.trans ?_ h.pl;rw[AO,AO];have:[A].flatMap zg=pU A++(aS A).flatMap zg:=by rw[<-ym];simp
  rw[this];exact pm
 ·refine List.Perm.trans ?_ h.pc;rw[AO,AO];have:[A].flatMap zh=uI A++(aS A).flatMap zh:=by rw[<-Vr];simp
  rw[this];exact pm
 ·have:=h.sz;have:=vO A;simp at *;lia
 ·rcases An.mp I with I|I
  ·exact h.dp B<|Ay _ I
  ·have:=Vt I;have:=h.dp A<|Al _<|Av.mpr rfl;exact Ip
inductive gL(ys:List Y)(L:qi)(Q:YK):Prop
 |mk:∀R:Ru,(ys=[je R])->(aI R<=120)->(mZ R<=1000)->((zg R).Nodup)->((zh R).Nodup)->((∀p∈zg R,p.2<1000000))->((∀p∈zh R,p.2<1000000))->((zg R).length<=127)->((zh R).length<=127)->(∀la ca lk ct,L la=none->L ca=none->la≠ca->lk.Perm (zg R)->lk.Pairwise db->ct.Perm (zh R)->ct.Pairwise db->Q (.tup [.ref la,.ref ca]) (qg (qg L la<|.lst<|z9 lk) ca<|.lst<|z9 ct))->gL ys L Q
def iu(l:XX)(p:Yb):z9 l++[qP p]=z9 (l++[p]):=by unfold z9;rw[Aw];rfl
def Vw(st:List Ru):Da.eqs (st.map bW) []=decide (st=[]):=by cases st<;>rfl
theorem nU{L:qi}{n:Nat}:∀{st:List Ru},(∀A∈st,aI A<=n)->Paired (jd L n) (st.map je) (st.map bW)
 |[],_=>.nil
 |A::r,h=>.cons (cr<|h A<|Ao ..)<|nU λB I=>h B<|Af _ I
def Vx:∀ys L Q,gL ys L Q->jf kE.1 5 ys L Q:=by
 rintro ys L Q ⟨R,rfl,hd,hz,bd,be,b1,b2,z1,z2,q⟩;have big:=a_;intro g ab J a5 I a0;have a1:g≠J:=vt q9 a5;have a2:J≠I:=vt q9 a0;have a3:g≠I:=vt ((qd a1).trans q9) a0;have ac:L J=none:=xr a5;have a4:L I=none:=xr<|xr a0;have S0:qf L (qg (qg (qg L g<|.lst []) J<|.lst []) I<|.lst [je R]):=((By ab).trans<|By a5).trans<|By a0;refine⟨λm τ j=>∃lk t st c4,τ=[some<|je R,some<|Y.ref g,some<|Y.ref J,some<|Y.ref I,c4]/\qf L j/\j g=some (.lst<|z9 lk)/\j J=some (.lst<|z9 t)/\j I=some (.lst<|st.map je)/\mG R lk t st/\m=(st.map mZ).sum,⟨_,[],[],[R],_,rfl,S0,(qd a3).trans<|(qd a1).trans q9,(qd a2).trans q9,q9,mG.start R,rfl⟩,?_⟩;rintro m τ j ⟨lk,t,st,c4,rfl,s,h1,h2,h3,T,rfl⟩;intro p hp;refine aY (n:=120) (m:=0) (by decide) (By hp _ _ h3) q9 (nU λA hA=>AE (T.dp A hA) hd) (.nil:Paired (jd _ 0) _ []) ?_;have bf:g≠p:=vt h1 hp;have bg:J≠p:=vt h2 hp;have bh:I≠p:=vt h3 hp;have s2:qf L (qg j p<|.lst []):=s.trans<|By hp;replace h1:=(qd (o:=.lst []) bf).trans h1;replace h2:=(qd (o:=.lst []) bg).trans h2;replace h3:=(qd (o:=.lst []) bh).trans h3;generalize qg j p (.lst [])=L2 at s2 h1 h2 h3 ⊢;show wb (!(Da.eqs (st.map bW) [])) _ _;rw[Vw];rcases List.eq_nil_or_concat st with rfl|⟨gK,A,rfl⟩
 ·refine jz rfl ?_;have pl:lk.Perm (zg R):=by have:=T.pl;simpa using this
  have pc:t.Perm (zh R):=by have:=T.pc;simpa using this
  dsimp only[oG,cX,rD,qr,ix,gJ,Hs,ql,uw,jn];refine vL h1 (λx hx=>b1 x<|pl.mem_iff.mp hx) (pl.nodup_iff.mpr bd) (by rw[pl.length_eq];exact dP) λD1 bi al bj bm=>?_;have n1:J≠D1:=vt h2 al;refine vL ((qd n1).trans h2) (λx hx=>b2 x<|pc.mem_iff.mp hx) (pc.nodup_iff.mpr be) (by rw[pc.length_eq];exact dP) λD2 bn aL c0 c3=>?_;have c5:D1≠D2:=vt q9 aL;have ba:=s2.none al;have bb:=s2.none<|xr aL;refine⟨_,λz o e=>?_,q D1 D2 bi bn ba bb c5 (bj.trans pl) bm (c0.trans pc) c3⟩;by_cases c1:z=D2
  ·subst c1;rw[q9] at e ⊢;exact e
  ·rw[qd c1] at e ⊢;by_cases c2:z=D1
   ·subst c2;rw[q9] at e ⊢;exact e
   ·rw[qd c2] at e ⊢;exact s2 _ _ e
 ·rw[List.concat_eq_append] at *;have T1:=T.step;have ne:gK++[A]≠[]:=by simp
  rw[Ar ne];refine vg rfl ⟨λU j=>∃m',m'<((gK++[A]).map mZ).sum/\∃lk t st c4,U=[some<|je R,some<|Y.ref g,some<|Y.ref J,some<|Y.ref I,c4]/\qf L j/\j g=some (.lst<|z9 lk)/\j J=some (.lst<|z9 t)/\j I=some (.lst<|st.map je)/\mG R lk t st/\m'=(st.map mZ).sum,λU j h=>h,?_⟩;rw[Aw] at h3;refine Ja h3 ?_;refine⟨λU L3=>U=[some<|je R,some<|Y.ref g,some<|Y.ref J,some<|Y.ref I,some<|je A]/\qf L L3/\L3 g=some (.lst<|z9<|lk++pU A)/\L3 J=some (.lst<|z9 t)/\L3 I=some (.lst<|gK.map je),?_,?_⟩
  ·have C:qf L (qg L2 I<|.lst<|gK.map je):=s2.upd a4;have g1:qg L2 I (.lst<|gK.map je) g=some (.lst<|z9 lk):=(qd a3).trans h1;have g2:qg L2 I (.lst<|gK.map je) J=some (.lst<|z9 t):=(qd a2).trans h2;have g3:qg L2 I (.lst<|gK.map je) I=some (.lst<|gK.map je):=q9;generalize qg L2 I (.lst<|gK.map je)=L3 at C g1 g2 g3 ⊢;cases A with
   |link p0 q0=>
    refine qb g1<|qh g1 ⟨?_,?_⟩
    ·have:=T.pl.length_eq;rw[Ac] at this;rw[Ab];exact big _ (by lia)
    ·exact⟨rfl,C.upd ab,by rw[q9];exact Bs (λl=>some<|LO.lst l)<|iu lk (p0,q0),(qd<|AN a1).trans g2,(qd<|AN a3).trans g3⟩
   |ei r0 A0=>exact⟨rfl,C,by rw[g1];simp[pU],g2,g3⟩
   |bo r0 A0 B0=>exact⟨rfl,C,by rw[g1];simp[pU],g2,g3⟩
   |cu p0 q0 A0 B0=>exact⟨rfl,C,by rw[g1];simp[pU],g2,g3⟩
  ·rintro U L3 ⟨rfl,C,g1,g2,g3⟩;refine⟨λU L3=>U=[some<|je R,some<|Y.ref g,some<|Y.ref J,some<|Y.ref I,some<|je A]/\qf L L3/\L3 g=some (.lst<|z9<|lk++pU A)/\L3 J=some (.lst<|z9<|t++uI A)/\L3 I=some (.lst<|gK.map je),?_,?_⟩
   ·cases A with
    |cu p0 q0 A0 B0=>
     refine qb g2<|qh g2 ⟨?_,?_⟩
     ·have:=T.pc.length_eq;rw[Ac] at this;rw[Ab];exact big _ (by lia)
     ·exact⟨rfl,C.upd ac,(qd a1).trans g1,by rw[q9];exact Bs (λl=>some<|LO.lst l)<|iu t (p0,q0),(qd<|AN a2).trans g3⟩
    |ei r0 A0=>exact⟨rfl,C,g1,by rw[g2];simp[uI],g3⟩
    |bo r0 A0 B0=>exact⟨rfl,C,g1,by rw[g2];simp[uI],g3⟩
    |link p0 q0=>exact⟨rfl,C,g1,by rw[g2];simp[uI],g3⟩
   ·rintro U L3 ⟨rfl,C,g1,g2,g3⟩;obtain⟨ys,e,c6⟩:∃ys,je A=.tup ys/\fw ys (some 2) none=o9 A:=by cases A<;>exact⟨_,rfl,rfl⟩
    rw[e];have key:∀(zs:List Y) (keep:qi->Prop) (Q':YK),zs=o9 A->keep L3->(∀p,L3 p=none->Q' (.ref p) (qg L3 p<|.lst<|(aS A).map je))->yb zs keep 1 (qp 5) (yB<|IA lv.tuple<|ql 5) (ql 5) [some<|je R,some<|Y.ref g,some<|Y.ref J,some<|Y.ref I,some<|.tup ys] L3 Q':=by
     rintro zs keep Q' rfl hk hq;refine sQ Gj ?_ hk (λi y W us ey hW=>?_) (by rw[Vu];exact hq)
     ·cases A<;>exact big _ (by simp[o9])
     ·rcases Vv (AB ey) with⟨n,rfl⟩|⟨B,rfl⟩
      ·rw[Ks] at hW;refine⟨_,EC _,?_⟩;simpa using hW
      ·rw[zQ] at hW;cases B<;>exact⟨_,EC _,hW⟩
    refine qb g3 ?_;walk_at "w";refine⟨by cases A<;>(cases e;first|exactλh=>absurd (show HT.sIx 3 0 (some 2)=0 from h.1) (by decide)|exactλh=>absurd (show HT.sIx 4 0 (some 2)=0 from h.1) (by decide)|exactλh=>absurd (show HT.sIx 5 0 (some 2)=0 from h.1) (by decide)),?_⟩;walk_at "w";refine key (fw ys (some 2) none) (λ_=>True) _ c6 trivial λp hp=>?_;have c7:I≠p:=vt g3 hp;have c8:g≠p:=vt g1 hp;have c9:J≠p:=vt g2 hp;have cc:=T.sz;have ck:=vO A;have cl:=T1.sz;have bc:∀l:List Ru,l.length<=(l.map mZ).sum:=λl=>by induction l with|nil=>exact Ak _|cons B r ih=>have:=Vs B;simp;lia
    have l1:=bc<|gK++aS A;refine qh ((qd c7).trans g3)<|qh q9 ⟨?_,?_⟩
    ·rw[Ab,Ab];rw[Ac] at l1;exact Bp<|big _ (by lia)
    refine⟨_,EC _,((gK++aS A).map mZ).sum,?_,lk++pU A,t++uI A,gK++aS A,_,rfl,(C.trans<|By hp).upd a4,(qd a3).trans<|(qd c8).trans g1,(qd a2).trans<|(qd c9).trans g2,?_,T1,rfl⟩
    ·simp;exact vQ
    ·rw[q9,Aw]
def ot(ks:Yo):Nat->Nat->Nat
 |0,_=>1
 |n+1,p=>match ks[p]? with
  |some (.nd _ i j)=>1+ot ks n i+ot ks n j
  |_=>1
def bB(ks:Yo)(p:Nat):Nat:=ot ks (p+1) p
theorem Vy(ks:Yo):∀n p,1<=ot ks n p
 |0,_=>Ak _
 |n+1,p=>by
  unfold ot;split
  ·simp +arith only
  ·exact Ak _
theorem ij{ks:Yo}(ok:aZ ks):∀(n m p:Nat),p<n->p<m->ot ks n p=ot ks m p
 |0,_,_,h,_=>absurd h<|CF _
 |_+1,0,_,_,h=>absurd h<|CF _
 |n+1,m+1,p,I,J=>by
  show(match ks[p]? with|some (.nd _ i j)=>1+ot ks n i+ot ks n j|_=>1)=match ks[p]? with|some (.nd _ i j)=>1+ot ks m i+ot ks m j|_=>1
  cases e:ks[p]? with
  |none=>rfl
  |some k=>
   cases k with
   |lf t n=>rfl
   |nd b i j=>
    have:=ok p _ e;have:i<p/\j<p:=this;show 1+ot ks n i+ot ks n j=1+ot ks m i+ot ks m j;rw[ij ok n m i (by lia) (by lia),ij ok n m j (by lia) (by lia)]
def Vz(ks:Yo)(p:Nat):1<=bB ks p:=Vy ks _ _
def yd{p:Nat}{n:Str}(e:ks[p]?=some (.lf t n)):bB ks p=1:=by show(match ks[p]? with|some (.nd _ i j)=>1+ot ks p i+ot ks p j|_=>1)=1;rw[e]
def yS(ok:aZ ks){p:Nat}{b:Bool}(e:ks[p]?=some (.nd b i j)):bB ks p=1+bB ks i+bB ks j:=by have h:i<p/\j<p:=ok p _ e;show(match ks[p]? with|some (.nd _ i j)=>1+ot ks p i+ot ks p j|_=>1)=_;rw[e];show 1+ot ks p i+ot ks p j=1+ot ks (i+1) i+ot ks (j+1) j;rw[ij ok p (i+1) i (by omega) (by exact BE _),ij ok p (j+1) j (by omega) (by exact BE _)]
def km(f:X_)(l:X2):Nat:=(l.map f).sum
def kz(f:X_)(x:Nat)(l:X2):km f (x::l)=f x+km f l:=by unfold km;rw[AD,Dr]
def ko(f:X_)(l m:X2):km f (l++m)=km f l+km f m:=by unfold km;rw[Aw,Dw]
def wu{f:X_}{l:X2}{x:Nat}(h:x∈l):km f l=f x+km f (l.erase x):=by have:=((List.perm_cons_erase h).map f).sum_nat;unfold km;rw[this,AD,Dr]
theorem df{f:X_}:∀{E U:X2},E.Nodup->(∀x∈E,x∈U)->km f E<=km f U
 |[],_,_,_=>A3 _
 |x::E,U,nd,h=>by obtain⟨J,g⟩:=AH.mp nd;rw[kz,wu<|h x<|Ao ..];have:=df (f:=f) (E:=E) (U:=U.erase x) g λy I=>(BJ λ(z:y=x)=>J<|z▸I).mpr<|h y<|Af _ I;lia
def bO(f:X_)(l:XX):Nat:=(l.map λc=>f c.1+f c.2).sum
def kG(f:X_)(l m:XX):bO f (l++m)=bO f l+bO f m:=by unfold bO;rw[Aw,Dw]
def SR.weight(ok:aZ ks){E:X2}(h:SR ks R E):km (bB ks) E+bO (bB ks) (zh R)<=(qy R).length:=by
 induction h with
 |@link p q t n E C h2 g I l=>
  have:=df (f:=bB ks) (U:=[p,q]) l λx J=>by rcases (I x).mp J with rfl|rfl<;>simp
  have e:km (bB ks) [p,q]=2:=by unfold km;simp[yd h2,yd g]
  show km (bB ks) E+0<=2;lia
 |@ei r i j A o E C h2 g I l h6 T ih=>
  have hj:j∈o.erase i:=(BJ<|AN l).mpr I;have s1:=df (f:=bB ks) (U:=(o.erase i).erase j++[r]) T λx J=>by
   rcases (h6 x).mp J with⟨a,b,c⟩|rfl
   ·exact Ay _<|(BJ c).mpr<|(BJ b).mpr a
   ·simp
  have s2:=wu (f:=bB ks) g;have s3:=wu (f:=bB ks) hj;have s4:=yS ok C;rw[ko,kz] at s1;have e0:km (bB ks) []=0:=rfl;show _+bO _ (zh A)<=(r::qy A).length;rw[Au];lia
 |@bo r i j A B o EB E C h2 g I l h6 T a0 a1=>
  have s1:=df (f:=bB ks) (U:=o.erase i++(EB.erase j++[r])) T λx J=>by
   rcases (h6 x).mp J with⟨a,b⟩|⟨a,b⟩|rfl
   ·exact Ay _<|(BJ b).mpr a
   ·exact Al _<|Ay _<|(BJ b).mpr a
   ·simp
  have s2:=wu (f:=bB ks) I;have s3:=wu (f:=bB ks) l;have s4:=yS ok C;rw[ko,ko,kz] at s1;have e0:km (bB ks) []=0:=rfl;show _+bO _ (zh A++zh B)<=(r::(qy A++qy B)).length;rw[Au,Ac,kG];lia
 |@cu p q A B o EB E w C h2 g I l h6 T h8 a0 a1=>
  have s1:=df (f:=bB ks) (U:=o.erase p++EB.erase q) h8 λx J=>by
   rcases (T x).mp J with⟨a,b⟩|⟨a,b⟩
   ·exact Ay _<|(BJ b).mpr a
   ·exact Al _<|(BJ b).mpr a
  have s2:=wu (f:=bB ks) g;have s3:=wu (f:=bB ks) I;rw[ko] at s1;have e1:bO (bB ks) (zh<|.cu p q A B)=bB ks p+bB ks q+(bO (bB ks) (zh A)+bO (bB ks) (zh B)):=by show bO _ ((p,q)::(zh A++zh B))=_;rw[<-kG];unfold bO;rw[AD,Dr]
  show _<=(qy A++qy B).length;rw[Ac,e1];lia
def VA(a b:Nat):decide ((a:Int)=(b:Int))=decide (a=b):=by
 by_cases c:a=b
 ·rw[Ax c];exact Ax (by lia)
 ·rw[Ar c];exact Ar (by lia)
open Classical in
def VB{b:Bool}{A B:Prop}(h1:b=true->A)(h2:b=false->B):wb b A B:=by cases b with|true=>exact h1 rfl|false=>exact h2 rfl
def za(lk:XX):X2:=lk.flatMap λx=>[x.1,x.2]
def jv(a b:XX):za (a++b)=za a++za b:=by unfold za;rw[AO]
def aD(x:Yb):za [x]=[x.1,x.2]:=by simp[za]
def xq(lk:XX):(za lk).length=2*lk.length:=by
 induction lk with
 |nil=>rfl
 |cons x r I=>
  have:=jv [x] r;rw[Dm] at this;rw[this,Ac,I,aD,Au];simp;exact CO _ _
inductive gg(ys:List Y)(L:qi)(Q:YK):Prop
 |mk:∀a,∀lk:XY,(ys=[.ref a])->(L a=some (.lst<|z9 lk))->(lk.length<=1000)->(∀p,L p=none->Q (.ref p) (qg L p<|.lst<|nY<|za lk))->gg ys L Q
def VC:∀ys L Q,gg ys L Q->jf lL.1 4 ys L Q:=by
 rintro ys L Q ⟨a,lk,rfl,l,T,q⟩;intro p o;have I:a≠p:=vt l o;refine zL (ys:=z9 lk) (wx<|(qd I).trans l) (λi J U=>∃g j,J=[some<|.ref a,some<|.ref p,g,j]/\U=qg L p (.lst<|nY<|za<|lk.take i)) ⟨_,_,rfl,rfl⟩ ?_ ?_ ?_
 ·rintro i J U ⟨g,j,rfl,rfl⟩;rw[qd I,qd I]
 ·rintro i y J U r ⟨g,j,rfl,rfl⟩;rw[Ai] at r;obtain⟨x,ex,rfl⟩:=Am.mp r;have t:lk.take (i+1)=lk.take i++[x]:=by rw[AZ,ex];rfl
  have C:(nY<|za<|lk.take i).length<=2000:=by rw[cM,xq,AJ];lia
  refine qb q9<|qh q9 ⟨AW C (by decide),?_⟩;refine qb q9 (qh q9 ⟨AW (by rw[Ac,BU];exact vB:_<=2001) (by decide),_,EC _,_,_,rfl,?_⟩);rw[vi,vi,t,jv,aD,dy,Aq];rfl
 ·rintro J U ⟨g,j,rfl,rfl⟩;rw[Ab,AX];exact jw<|q p o
def VD{f:Yp->Bool}{ks:List<|Yp}{p:Nat}{k:Yp}(h:ks[p]?=some k)(I:f k=true)(hi:p<i):p∈uj f ks i:=by unfold uj;refine AR.mpr ⟨A2.mpr hi,?_⟩;simp only[h];exact I
theorem bL{α β:Type}{R:α->β->Prop}:∀{xs:List α} {ys:List β} {x:α} {y:β},Paired R xs ys->R x y->Paired R (xs++[x]) (ys++[y])
 |_,_,_,_,.nil,r=>.cons r .nil
 |_,_,_,_,.cons a t,r=>.cons a<|bL t r
def uN(m:Nat)(l:X2):xG (fS<|.int (m:Int)) ((nY l).map fS)=decide (m∈l):=by
 induction l with
 |nil=>rfl
 |cons n r I=>
  have e:xG (fS<|.int (m:Int)) ((nY<|n::r).map fS)=(gH (fS<|.int (n:Int)) (fS<|.int (m:Int))||xG (fS<|.int (m:Int)) ((nY r).map fS)):=rfl;rw[e,I];have J:gH (fS<|.int (n:Int)) (fS<|.int (m:Int))=decide (n=m):=VA n m;rw[J];by_cases c:n=m
  ·subst c;simp
  ·by_cases d:m∈r
   ·simp[d]
   ·simp[c,d,AN c]
def tJ(l:X2):(nY l).all fY=true:=by rw[BV];intro y I;obtain⟨n,_,rfl⟩:=Bj.mp I;rfl
def eB:RD "_law_beneath" dm 0 ["_law_knots","_law_cuts","_law_todo","_law_p","_law_q","_law_beneath_here"] (λ_=>True):=⟨_,λV B c _ _ _ _ _ _ _ J hN I=>(qa (S_ 2 hN<|zc x9)<|qa (vv xT rfl (j9<|qv 1) (vz (n:=2) rfl<|qz (G_ 3 hN)<|qz (G_ 4 hN) x4)<|qc<|qw<|bR (qv 2)<|zx<|zc<|v5 (qv 3)<|qv 4)<|qa (S_ 5 hN<|zc x9)<|qa (iM xT (N_ I (qv 2)<|zc x9)<|qa (S_ 3 hN<|IW<|qv 2)<|qa (qw<|qx (qv 5)<|zx<|qv 3)<|qc<|ze (E_ I (L_ B.ba<|I_ (qv 0)<|qv 3) qe) (qc<|qw<|bR (qv 2)<|zx<|zc<|v5 (I_ (I_ (qv 0)<|qv 3) qe)<|I_ (I_ (qv 0)<|qv 3) qe) qt)<|qc<|qm<|qv 5)⟩
structure nV(ks:Yo)(ct:XX)(qs st:X2):Prop where
 cut:∀c∈ct,(c.1∈qs\/c.1∈st)/\(c.2∈qs\/c.2∈st)
 part:∀p∈qs,∀e i j,ks[p]?=some (.nd e i j)->(i∈qs\/i∈st)/\(j∈qs\/j∈st)
 lt:∀p∈st,p<ks.length
 sz:qs.length+km (bB ks) st<=1000
theorem iY(ks:Yo):∀l:X2,l.length<=km (bB ks) l
 |[]=>Ak _
 |x::r=>by have:=iY ks r;have:=Vz ks x;rw[kz,Au];lia
theorem ao(f:X_):∀l:XY,km f (za l)=bO f l
 |[]=>rfl
 |c::r=>by
  have e:za (c::r)=[c.1,c.2]++za r:=by rw[<-aD,<-jv];rfl
  rw[e,ko,ao f r,kz,kz];show f c.1+(f c.2+km f [])+bO f r=_;have I:km f []=0:=rfl;unfold bO;rw[I,AD,Dr];rfl
def bU{c:Yb}(h:c∈ct):c.1∈za ct/\c.2∈za ct:=by
 induction ct with
 |nil=>cases h
 |cons d r I=>
  have e:za (d::r)=[d.1,d.2]++za r:=by rw[<-aD,<-jv];rfl
  rw[e];rcases Ap.mp h with rfl|h
  ·simp
  ·obtain⟨a,b⟩:=I h;exact⟨Al _ a,Al _ b⟩
def VE{x:Nat}(h:x∈za ct):∃c∈ct,x=c.1\/x=c.2:=by
 induction ct with
 |nil=>cases h
 |cons d r I=>
  have e:za (d::r)=[d.1,d.2]++za r:=by rw[<-aD,<-jv];rfl
  rw[e] at h;rcases An.mp h with h|h
  ·exact⟨d,Ao ..,by simpa using h⟩
  ·obtain⟨c,J,U⟩:=I h;exact⟨c,Af _ J,U⟩
def mN(ks:Yo)(p:Nat):X2:=match ks[p]? with
 |some (.nd _ i j)=>[i,j]
 |_=>[]
def nV.step(ok:aZ ks){st:X2}{p:Nat}(h:nV ks ct qs<|st++[p]):nV ks ct (qs++[p]) (st++mN ks p)/\km (bB ks) (st++mN ks p)<km (bB ks) (st++[p]):=by
 have J:∀x,(x∈qs\/x∈st++[p])->(x∈qs++[p]\/x∈st++mN ks p):=λx I=>by
  rcases I with I|I
  ·exact .inl<|Ay _ I
  ·rcases An.mp I with I|I
   ·exact .inr<|Ay _ I
   ·exact .inl<|Al _ I
 have o:=h.sz;have r:km (bB ks) (st++[p])=km (bB ks) st+bB ks p:=by rw[ko,kz];rfl
 have C:km (bB ks) (st++mN ks p)+1=km (bB ks) st+bB ks p:=by
  rw[ko];unfold mN;cases e:ks[p]? with
  |none=>
   have:=h.lt p<|Al _<|Av.mpr rfl;rw[Ag this] at e;cases e
  |some k=>
   cases k with
   |lf t n=>
    have:=yd e;show km _ st+0+1=_;lia
   |nd b i j=>
    have:=yS ok e;show km (bB ks) st+km (bB ks) [i,j]+1=_;rw[kz,kz];have T:km (bB ks) []=0:=rfl;lia
 refine⟨⟨λc g=>⟨J _ (h.cut c g).1,J _ (h.cut c g).2⟩,λx I e i j U=>?_,λx I=>?_,?_⟩,by lia⟩
 ·rcases An.mp I with I|I
  ·exact⟨J _ (h.part x I e i j U).1,J _ (h.part x I e i j U).2⟩
  ·have I:=Av.mp I;subst I;have:mN ks x=[i,j]:=by unfold mN;rw[U]
   rw[this];simp
 ·rcases An.mp I with I|I
  ·exact h.lt x<|Ay _ I
  ·unfold mN at I;split at I
   ·rename_i b i j e;have:=zd e;have l:i<p/\j<p:=ok p _ e;have:x=i\/x=j:=by simpa using I
    lia
   ·cases I
 ·rw[Ac,BU];lia
inductive cx(ys:List Y)(L:qi)(Q:YK):Prop
 |mk:∀a c,∀ks:Yo,∀ct:XY,(ys=[.ref a,.ref c])->(L a=some (.lst<|v9 ks))->(L c=some (.lst<|z9 ct))->(aZ ks)->((∀x∈ct,x.1<ks.length/\x.2<ks.length))->(bO (bB ks) ct<=1000)->(ks.length<=1000)->(∀D qs,L D=none->nV ks ct qs []->Q (.ref D) (qg L D<|.lst<|nY qs))->cx ys L Q
def VF(l:X2):Da.eqs (gA l) []=decide (l=[]):=by cases l<;>rfl
theorem yX:∀ys L Q,cx ys L Q->jf eB.1 6 ys L Q:=by
 rintro ys L Q ⟨a,c,l,r,rfl,ha,hc,ok,hb,hz,hn,q⟩;have big:=a_;have lp:(za r).length<=1000:=AE (iY l _) (by rw[ao];exact hz);intro I C;have s0:qf L (qg L I<|.lst []):=By C;refine zp (s0 _ _ hc) λkeep kp=>ve ⟨λi τ g=>∃T c4 c5,τ=[some<|Y.ref a,some<|Y.ref c,some<|Y.ref I,T,c4,c5]/\qf L g/\g I=some (.lst<|nY<|za<|r.take i),⟨_,_,_,rfl,s0,q9⟩,?_,?_,?_⟩
 ·rintro i τ g ⟨T,c4,c5,rfl,s,h⟩;exact kp g (by rw[s _ _ hc,s0 _ _ hc])
 ·rintro i y τ g hy ⟨T,c4,c5,rfl,s,h⟩;rw[Ai] at hy;obtain⟨pr,ep,rfl⟩:=Am.mp hy;have et:r.take (i+1)=r.take i++[pr]:=by rw[AZ,ep];rfl
  refine qb h ?_;intro p hp;have a5:I≠p:=vt h hp;have ll:(za<|r.take i).length<=(za r).length:=by rw[xq,xq,AJ];lia
  refine qh ((qd a5).trans h)<|qh q9 ⟨?_,?_⟩
  ·rw[cM];exact Bp (big _ (by simp;lia))
  ·refine⟨_,EC _,_,_,_,rfl,(s.trans<|By hp).upd C,?_⟩;rw[q9,et,jv,aD,dy];rfl
 ·rintro τ g ⟨T,c4,c5,rfl,s,h⟩;rw[Ab,AX] at h;intro J a2;have a0:I≠J:=vt h a2;have a1:L J=none:=s.none a2;have B0:nV l r [] (za r):=⟨λx hx=>⟨.inr (bU hx).1,.inr (bU hx).2⟩,λx hx=>(Bh hx).elim,λx hx=>by obtain⟨d,hd,e⟩:=VE hx;have:=hb d hd;lia,by rw[ao];show 0+_<=1000;lia⟩
  refine⟨λm τ g=>∃U st T c4,τ=[some<|Y.ref a,some<|Y.ref c,some<|Y.ref I,T,c4,some<|Y.ref J]/\qf L g/\g I=some (.lst<|nY st)/\g J=some (.lst<|nY U)/\nV l r U st/\m=km (bB l) st,⟨_,[],za r,_,_,rfl,s.trans<|By a2,(qd a0).trans h,q9,B0,rfl⟩,?_⟩;rintro m τ L1 ⟨U,st,T,c4,rfl,s1,h1,h2,B,rfl⟩;intro p hp;refine aY (n:=0) (m:=0) (by decide) (By hp _ _ h1) q9 (sm st) (.nil:Paired (jd _ 0) _ []) ?_;have ab:I≠p:=vt h1 hp;have ac:J≠p:=vt h2 hp;have s2:qf L (qg L1 p<|.lst []):=s1.trans<|By hp;replace h1:=(qd (o:=.lst []) ab).trans h1;replace h2:=(qd (o:=.lst []) ac).trans h2;generalize qg L1 p (.lst [])=L2 at s2 h1 h2 ⊢;show wb (!(Da.eqs (gA st) [])) _ _;rw[VF];rcases List.eq_nil_or_concat st with rfl|⟨gK,x,rfl⟩
  ·refine jz rfl ?_;refine⟨qg L J<|.lst<|nY U,λb o e=>?_,q J U a1 B⟩;by_cases cc:b=J
   ·subst cc;rw[q9] at e;rw[<-e];exact h2
   ·rw[qd cc] at e;exact s2 _ _ e
  ·rw[List.concat_eq_append] at *;obtain⟨B1,n_⟩:=B.step ok;have ne:gK++[x]≠[]:=by simp
   rw[Ar ne];refine vg rfl ⟨λa4 g=>∃m',m'<km (bB l) (gK++[x])/\∃U st T c4,a4=[some<|Y.ref a,some<|Y.ref c,some<|Y.ref I,T,c4,some<|Y.ref J]/\qf L g/\g I=some (.lst<|nY st)/\g J=some (.lst<|nY U)/\nV l r U st/\m'=km (bB l) st,λa4 g h=>h,?_⟩;rw[dy] at h1;refine Ja h1 ?_;have g1:qg L2 I (.lst<|nY gK) I=some (.lst<|nY gK):=q9;have g2:qg L2 I (.lst<|nY gK) J=some (.lst<|nY U):=(qd<|AN a0).trans h2;have s3:qf L (qg L2 I<|.lst<|nY gK):=s2.upd C;generalize qg L2 I (.lst<|nY gK)=L3 at g1 g2 s3 ⊢;have al:=B.sz;refine qb g2 (qh g2 ⟨by rw[cM];exact big _ (by lia),?_⟩);have k1:qg L3 J (.lst<|nY U++[.int ((x:Nat):Int)]) I=some (.lst<|nY gK):=(qd a0).trans g1;have k2:qg L3 J (.lst<|nY U++[.int ((x:Nat):Int)]) J=some (.lst<|nY<|U++[x]):=by rw[q9,dy];rfl
   have s4:qf L (qg L3 J<|.lst<|nY U++[.int ((x:Nat):Int)]):=s3.upd a1;generalize qg L3 J (.lst<|nY U++[.int ((x:Nat):Int)])=L4 at k1 k2 s4 ⊢;have hx:=B.lt x<|Al _<|Av.mpr rfl;obtain⟨k,ek⟩:∃k,l[x]?=some k:=⟨_,Ag hx⟩;have ga:=s4 _ _ ha;refine qb ga<|qj (xm ek) ?_;cases k with
   |lf t n=>
    have e0:mN l x=[]:=by unfold mN;rw[ek]
    rw[e0,AG] at B1 n_;exact⟨_,EC _,_,n_,U++[x],gK,_,_,rfl,s4,k1,k2,B1,rfl⟩
   |nd b i j=>
    have e0:mN l x=[i,j]:=by unfold mN;rw[ek]
    rw[e0] at B1 n_;refine qb k1 ?_;refine qb ga<|qj (xm ek) ?_;refine qb ga<|qj (xm ek) ?_;intro p2 a3;have n1:I≠p2:=vt k1 a3;have n2:J≠p2:=vt k2 a3;have l1:=iY l<|gK++[i,j];have z1:=B1.sz;refine qh ((qd n1).trans k1)<|qh q9 ⟨?_,?_⟩
    ·rw[cM];rw[Ac] at l1;exact Bp (big _ (by simp at l1 ⊢;lia))
    ·refine⟨_,EC _,_,n_,U++[x],gK++[i,j],_,_,rfl,(s4.trans<|By a3).upd C,?_,(qd<|AN a0).trans<|(qd n2).trans k2,B1,rfl⟩;rw[q9,dy];rfl
def qK(I:x5)(p1:x5):dR:=(xa (vo (xw I<|gJ (ql 0)<|ql 1)<|qp 4)
 (xa (vo (gd jn)<|qp 5)
 (xa (zD (cz<|ql 0) (qp 6)<|fO (e_ (yP 6)<|cD 3) (aA<|lO m5 (ql 5)<|qr (gd<|gJ (fg 6 1)<|fg 6 2) jn) fT)
 (xa (Gi 6<|vo (rD E8<|qr (u_ 1 (cz<|ql 0) (qp 11) (e_ (fg 11 0)<|o_ "either")<|ql 11) jn)<|qp 7)
 (xa (vo (gd jn)<|qp 8)
 (xa (zD (xK<|ql 0) (f8 2<|jx (qp 9)<|jx (qp 6) dF) (xa (vo (a9 sw (xw p1<|qr (ql 2)<|gJ (ql 9)<|cD 30269)<|cD 8)<|qp 10)
 (fO (GY (e_ (yP 6)<|cD 2)<|yB<|a9 (xR false) (ql 9)<|ql 4) (aA<|lO jq (ql 8)<|ix<|ql 6) (fO (e_ (a9 sw (a9 IX (ql 2)<|cD 3)<|cD 2)<|cD 1) (aA<|lO jq (ql 8)<|qr (FT (qB (e_ (a9 sw (ql 10)<|cD 2)<|cD 0)<|yB<|a9 (xR true) (ql 9)<|ql 5) (yC .non)<|ql 6) jn) (fO (qB (yB<|a9 G4 (ql 10)<|cD 3)<|e_ (fg 6 0)<|o_ "either") (xa (aA<|lO jq (ql 8)<|qr (cX<|qr (o_ "both")<|gJ (fg 6 1)<|fg 6 2) jn)
 (vo (a9 yU (ql 7)<|cD 1)<|qp 7)) (fO (qB (yB<|a9 G4 (ql 10)<|cD 3)<|yB<|a9 G4 (ql 7)<|ql 3) (xa (aA<|lO jq (ql 8)<|qr (cX<|qr (o_ "either")<|gJ (fg 6 1)<|fg 6 2) jn)
 (vo (a9 vJ (ql 7)<|cD 1)<|qp 7))<|aA<|lO jq (ql 8)<|ix<|ql 6))))))
 (oG<|ql 8)))))))
def D':Kn->X2
 |.nd _ i j=>[i,j]
 |.lf _ _=>[]
def a6(ks:Yo):X2:=ks.flatMap D'
def vH{r:Nat}{e:Bool}(h:ks[r]?=some (.nd e i j)):i∈a6 ks/\j∈a6 ks:=
 ⟨Bw.mpr ⟨_,AB h,by simp[D']⟩,Bw.mpr ⟨_,AB h,by simp[D']⟩⟩
def VG(ks:Yo):(a6 ks).length<=2*ks.length:=by
 induction ks with
 |nil=>exact Ak _
 |cons k r I=>
  have e:a6 (k::r)=D' k++a6 r:=Bg ..;have:(D' k).length<=2:=by cases k<;>simp[D']
  rw[e,Ac,Au];lia
def rH(ks:Yo)(k:Kn):a6 (ks++[k])=a6 ks++D' k:=by unfold a6;rw[AO,Bg,Dp,AG]
structure aj(ks:Yo)(kept:X2)(n:Nat)(eA:List<|Yp):Prop where
 len:eA.length=n
 lf:∀p t m,p<n->ks[p]?=some (.lf t m)->eA[p]?=some (some<|.lf t m)
 kp:∀p∈kept,p<n->∀k,ks[p]?=some k->eA[p]?=some (some k)
 nd:∀p e i j,p<n->ks[p]?=some (.nd e i j)->(eA[p]?=some none/\p∉a6 ks)\/∃e',eA[p]?=some (some<|.nd e' i j)
def aj.nil(ks:Yo)(kept:X2):aj ks kept 0 []:=⟨rfl,λ_ _ _ h=>absurd h<|CF _,λ_ _ h=>absurd h<|CF _,λ_ _ _ _ h=>absurd h<|CF _⟩
def aj.snoc{kept:X2}{n:Nat}(T:aj ks kept n eA){k:Kn}{o:Yp}(h:ks[n]?=some k)(U:∀t m,k=.lf t m->o=some k)(g:n∈kept->o=some k)
 (l:∀e i j,k=.nd e i j->(o=none/\n∉a6 ks)\/∃J,o=some (.nd J i j)):aj ks kept (n+1) (eA++[o]):=by
 have old:∀p,p<n->(eA++[o])[p]?=eA[p]?:=λp I=>AC (by rw[T.len];exact I);have new:(eA++[o])[n]?=some o:=by rw[<-T.len];exact cf eA o []
 refine⟨by rw[Ac,T.len];rfl,λp t m I e=>?_,λp I r C e=>?_,λp b i j I e=>?_⟩
 ·by_cases c:p<n
  ·rw[old p c];exact T.lf p t m c e
  ·have:p=n:=by lia
   subst this;rw[h] at e;cases e;rw[new,U t m rfl]
 ·by_cases c:p<n
  ·rw[old p c];exact T.kp p I c C e
  ·have:p=n:=by lia
   subst this;rw[h] at e;cases e;rw[new,g I]
 ·by_cases c:p<n
  ·rw[old p c];exact T.nd p b i j c e
  ·have:p=n:=by lia
   subst this;rw[h] at e;cases e;rw[new];rcases l b i j rfl with⟨a1,a2⟩|⟨J,a⟩
   ·exact .inl ⟨by rw[a1],a2⟩
   ·exact .inr ⟨J,by rw[a]⟩
def bE(o:Yp):Nat:=if UH true o=true then 1 else 0
def cE(l:List<|Yp):Nat:=(l.map bE).sum
def cK(l:Yo):Nat:=cE<|l.map some
def Kt(l:List<|Yp)(o:Yp):cE (l++[o])=cE l+bE o:=by unfold cE;rw[Aw,Dw];simp
structure Mny(ks:Yo)(eA:List<|Yp)(i:Nat)(mn m:Int):Prop where
 a:(cE eA:Int)+((cK (ks.drop i):Nat):Int)<=mn
 b:mn<=max (cK ks:Int) m
def Mny.step{U m I:Int}{k:Kn}{o:Yp}(M:Mny ks eA i U m)(J:ks[i]?=some k)(h:(bE o:Int)+U<=I+((bE (some k):Nat):Int))(j:I<=max (cK ks:Int) m):Mny ks (eA++[o]) (i+1) I m:=by
 have g:=zd J;have e:cK (ks.drop i)=bE (some k)+cK (ks.drop<|i+1):=by rw[BS g];rw[Ag g] at J;rw[Bb J];rfl
 have:=M.a;rw[e] at this;exact⟨by rw[Kt];omega,j⟩
inductive bw(ys:List Y)(L:qi)(Q:YK):Prop
 |mk:∀a c,∀ks:Yo,∀ct:XY,∀s m:Int,(ys=[.ref a,.ref c,.int s,.int m])->(L a=some (.lst<|v9 ks))->(L c=some (.lst<|z9 ct))->(aZ ks)->((∀x∈ct,x.1<ks.length/\x.2<ks.length))->(bO (bB ks) ct<=1000)->(ks.length<=1000)->(∀D qs eA,L D=none->nV ks ct qs []->aj ks qs ks.length eA->(cE eA:Int)<=max (cK ks:Int) m->Q (.ref D) (qg L D<|.lst<|xz eA))->bw ys L Q
theorem VH:∀ys L Q,bw ys L Q->jf (qK cx bN) 11 ys L Q:=by
 rintro ys L Q ⟨a,c,U,ct,s,m,rfl,ha,hc,ok,hb,hz,hn,q⟩;have big:=a_;refine⟨a,c,U,ct,rfl,ha,hc,ok,hb,hz,hn,λD l hD B=>?_⟩;have s1:qf L (qg L D<|.lst<|nY l):=By hD;have a2:qg L D (.lst<|nY l) D=some (.lst<|nY l):=q9;generalize qg L D (.lst<|nY l)=L1 at s1 a2 ⊢;intro r a3;have s2:qf L (qg L1 r<|.lst []):=s1.trans<|By a3;have ab:L r=none:=s1.none a3;have ac:D≠r:=vt a2 a3;refine zp (s2 _ _ ha) λkeep kp=>ve ⟨λi τ J=>∃c6 c7 c8 c9 g,τ=[some<|Y.ref a,some<|Y.ref c,some<|.int s,some<|.int m,some<|Y.ref D,some<|Y.ref r,c6,c7,c8,c9,g]/\qf L J/\J D=some (.lst<|nY l)/\J r=some (.lst<|nY<|a6<|U.take i),⟨_,_,_,_,_,rfl,s2,(qd ac).trans a2,q9⟩,?_,?_,?_⟩
 ·rintro i τ J ⟨c6,c7,c8,c9,g,rfl,C,_⟩;exact kp J (by rw[C _ _ ha,s2 _ _ ha])
 ·rintro i y τ J hy ⟨c6,c7,c8,c9,g,rfl,C,g1,g2⟩;rw[Ai] at hy;obtain⟨k,ek,rfl⟩:=Am.mp hy;have et:U.take (i+1)=U.take i++[k]:=by rw[AZ,ek];rfl
  have pl:=VG<|U.take i;rw[AJ] at pl;cases k with
  |lf t n=>exact⟨_,EC _,_,_,_,_,_,rfl,C,g1,by rw[et,rH];show _=some (LO.lst<|nY<|a6 (U.take i)++[]);rw[AG];exact g2⟩
  |nd e p1 p2=>
   refine qb g2 ?_;intro p hp;have n1:r≠p:=vt g2 hp;have n2:D≠p:=vt g1 hp;refine qh ((qd n1).trans g2)<|qh q9 ⟨?_,?_⟩
   ·rw[cM];exact Bp (big _ (by simp;lia))
   ·refine⟨_,EC _,_,_,_,_,_,rfl,(C.trans<|By hp).upd ab,(qd ac).trans<|(qd n2).trans g1,?_⟩;rw[q9,et,rH,dy];rfl
 ·rintro τ J ⟨c6,c7,c8,c9,g,rfl,C,g1,g2⟩;rw[Ab,AX] at g2;refine zp (C _ _ ha) λkeep kp=>wf (λi zs=>zs.length=cK (U.take i)) (by rw[Ab];exact big _ (by exact dP)) (kp _ rfl) rfl ?_ ?_
  ·rintro i y zs ey hl;rw[Ai] at ey;obtain⟨k,ek,rfl⟩:=Am.mp ey;have et:cK (U.take<|i+1)=cK (U.take i)+bE (some k):=by rw[AZ,ek];show cE (((U.take i)++[k]).map some)=_;rw[Aw];exact Kt _ _
   have no:bE (some k)=0->iP (λzs a4=>a4=J/\zs.length=cK (U.take<|i+1)) zs J:=λh=>⟨_,EC _,rfl,by rw[et,h];exact hl⟩;have yes:∀z,bE (some k)=1->iP (λzs a4=>a4=J/\zs.length=cK (U.take<|i+1)) (zs++[z]) J:=λz h=>⟨_,EC _,rfl,by rw[Ac,BU,et,h,hl]⟩;cases k with
   |lf t n=>cases t<;>exact no rfl
   |nd e p1 p2=>
    cases e with|true=>exact yes _ rfl|false=>exact no rfl
  rintro zs al p hp;rw[Ab,AX] at al;refine qh q9 ?_;rw[al];have s3:qf L (qg J p<|.lst zs):=C.trans<|By hp;have k1:qg J p (.lst zs) D=some (.lst<|nY l):=(qd<|vt g1 hp).trans g1;have k2:qg J p (.lst zs) r=some (.lst<|nY<|a6 U):=(qd<|vt g2 hp).trans g2;generalize qg J p (.lst zs)=L2 at s3 k1 k2 ⊢;intro mk a0;have a1:L mk=none:=s3.none a0;have s4:qf L (qg L2 mk<|.lst []):=s3.trans<|By a0;have aL:D≠mk:=vt k1 a0;have ba:r≠mk:=vt k2 a0;refine zp (s4 _ _ ha) λkeep kp=>ve ⟨λi τ J=>∃c6,∃j:Int,∃c9 g I,τ=[some<|Y.ref a,some<|Y.ref c,some<|.int s,some<|.int m,some<|Y.ref D,some<|Y.ref r,c6,some<|.int j,some<|Y.ref mk,c9,g]/\qf L J/\J D=some (.lst<|nY l)/\J r=some (.lst<|nY<|a6 U)/\J mk=some (.lst<|xz I)/\aj U l i I/\Mny U I i j m,⟨_,_,_,_,[],rfl,s4,(qd aL).trans k1,(qd ba).trans k2,q9,aj.nil _ _,⟨by show((0:Nat):Int)+(cK U:Int)<=_;omega,by omega⟩⟩,?_,?_,?_⟩
  ·rintro i τ J ⟨c6,j,c9,g,I,rfl,C,_⟩;exact kp J (by rw[C _ _ ha,s4 _ _ ha])
  ·rintro i y τ J hy ⟨c6,j,c9,g,I,rfl,C,g1,g2,g3,T,M⟩;obtain⟨z,ez,rfl⟩:=aT hy;rw[Ai] at ez;obtain⟨k,ek,rfl⟩:=Am.mp ez;have hi:=zd ek;have ol:=T.len;refine⟨s,i,30269,rfl,by exact A6 _,by omega,by decide,by decide,λv h0 h1=>?_⟩;refine⟨show(0:Int)<8 by decide,?_⟩;have add:∀(o:Yp) (y:Y) (a5:Int),fP o=y->aj U l (i+1) (I++[o])->Mny U (I++[o]) (i+1) a5 m->iP (λ(τ:jc) (J:qi)=>∃c6,∃j:Int,∃c9 g I,τ=[some<|Y.ref a,some<|Y.ref c,some<|.int s,some<|.int m,some<|Y.ref D,some<|Y.ref r,c6,some<|.int j,some<|Y.ref mk,c9,g]/\qf L J/\J D=some (.lst<|nY l)/\J r=some (.lst<|nY<|a6 U)/\J mk=some (.lst<|xz I)/\aj U l (i+1) I/\Mny U I (i+1) j m) [some<|Y.ref a,some<|Y.ref c,some<|.int s,some<|.int m,some<|Y.ref D,some<|Y.ref r,some<|sC k,some<|.int a5,some<|Y.ref mk,some<|.int ((i:Nat):Int),some<|.int<|v % 8] (qg J mk<|.lst<|xz I++[y]):=λo y a5 ey T' M'=>
    ⟨_,EC _,_,_,_,_,I++[o],rfl,C.upd a1,(qd aL).trans g1,(qd ba).trans g2,by rw[q9,<-ey,dr],T',M'⟩
   have len:(xz I).length<sizeLine:=by rw[wr,ol];exact big _ (by lia)
   have M0:Mny U (I++[some k]) (i+1) j m:=M.step ek (by omega) M.b;cases k with
   |lf t n=>
    have T':aj U l (i+1) (I++[some<|.lf t n]):=T.snoc ek (λ_ _ h=>by rw[h]) (λ_=>rfl) (λ_ _ _ h=>by cases h);exact qb g3<|qh g3 ⟨len,add _ _ j rfl T' M0⟩
   |nd e p1 p2=>
    refine qb g1 ⟨rfl,tJ _,?_⟩;rw[uN];by_cases ck:i∈l
    ·have T':aj U l (i+1) (I++[some<|.nd e p1 p2]):=T.snoc ek (λ_ _ h=>by cases h) (λ_=>rfl) (λ_ _ _ h=>.inr ⟨e,by cases h;rfl⟩);refine vg (by rw[Ax ck];rfl) ?_;exact qb g3<|qh g3 ⟨len,add _ _ j rfl T' M0⟩
    refine jz (by rw[Ar ck];rfl) ?_;have T':∀e',aj U l (i+1) (I++[some<|.nd e' p1 p2]):=λe'=>T.snoc ek (λ_ _ h=>by cases h) (λh=>absurd h ck) (λ_ _ _ h=>.inr ⟨e',by cases h;rfl⟩);refine⟨⟨by decide,by decide⟩,show(0:Int)<2 by decide,?_⟩;refine zo (λh=>?_) λh=>?_
    ·refine qb g3 ?_;refine⟨show(0:Int)<2 by decide,?_⟩;refine zo (λh2=>?_) λh2=>?_
     ·refine qb g2 ⟨rfl,tJ _,?_⟩;rw[uN];by_cases cp:i∈a6 U
      ·refine jz (by rw[Ax cp];rfl) ?_;exact qh g3 ⟨len,add _ _ j rfl (T' e) M0⟩
      ·refine vg (by rw[Ar cp];rfl) ?_;have T2:aj U l (i+1) (I++[none]):=T.snoc ek (λ_ _ h=>by cases h) (λh=>absurd h ck) λ_ _ _ h=>.inl ⟨rfl,cp⟩;exact qh g3 ⟨len,add _ _ j rfl T2 (M.step ek (by have:bE (none:Yp)=0:=rfl;omega) M.b)⟩
     ·exact qh g3 ⟨len,add _ _ j rfl (T' e) M0⟩
    ·have same:=add (some<|.nd e p1 p2) _ j rfl (T' e) M0;refine zo (λh2=>?_) λh2=>?_
     ·cases e with
      |true=>exact qb g3 (qh g3 ⟨len,add (some<|.nd false p1 p2) _ (j-1) rfl (T' false) (M.step ek (by show((0:Nat):Int)+j<=j-1+((1:Nat):Int);omega) (by have:=M.b;omega))⟩)
      |false=>
       refine zo (λh2=>?_) λh2=>?_
       ·refine zo (λh3=>?_) λh3=>?_
        ·exact qb g3 (qh g3 ⟨len,add (some<|.nd true p1 p2) _ (j+1) rfl (T' true) (M.step ek (by show((1:Nat):Int)+j<=j+1+((0:Nat):Int);omega) (by omega))⟩)
        ·exact qb g3<|qh g3 ⟨len,same⟩
       ·exact qb g3<|qh g3 ⟨len,same⟩
     ·refine zo (λh3=>absurd h3 h2) λh3=>?_;exact qb g3<|qh g3 ⟨len,same⟩
  ·rintro τ J ⟨c6,j,c9,g,I,rfl,C,g1,g2,g3,T,M⟩;rw[ky,Ab] at T M;have mb:(cE I:Int)<=max (cK U:Int) m:=by have:=M.a;have:=M.b;omega
   refine⟨qg L mk<|.lst<|xz I,λb o e=>?_,q mk l I a1 B T mb⟩;by_cases cc:b=mk
   ·subst cc;rw[q9] at e;rw[<-e];exact g3
   ·rw[qd cc] at e;exact C _ _ e
def eL:RD "_law_crossed" da 0 ["_law_knots","_law_links","_law_one","_law_two","_law_first","_law_mates","_law_second","_law_a","_law_b","_law_c","_law_d","_law_rest"] (λ_=>True):=⟨_,λV B c _ _ _ _ _ _ _ J hN I=>(qa (aa (i:=4) hN rfl (Or.inr rfl)<|I_ (qv 1)<|qk jh (qv 2)<|L_ B.ba<|qv 1)<|qa (a7 ["_law_x"] (i:=5) hN rfl (Or.inl rfl) (EI (by rfl)) rfl (j9<|qv 1) (fK 12) (λ_ _ _ _=>cV<|vn<|wc (N_ I (qv 12)<|qv 4)<|va<|E_ I (I_ (I_ (qv 0)<|J_ 12) qe)<|I_ (I_ (qv 0)<|J_ 4) qe) λ_ _ _ _=>(qv 12))<|qa (ze (E_ I (qv 5)<|zc x9) (qc<|qm<|qv 1) qt)<|qa (aa (i:=6) hN rfl (Or.inr rfl)<|I_ (qv 5)<|qk jh (qv 3)<|L_ B.ba<|qv 5)<|qa (fj (dX (E_ I (I_ (I_ (qv 0)<|J_ 4) qe) qo) (qv 4)<|zf<|v5 (J_ 4)<|J_ 4)<|vz (n:=2) rfl<|qz (G_ 7 hN)<|qz (G_ 8 hN) x4)<|qa (fj (dX (E_ I (I_ (I_ (qv 0)<|J_ 6) qe) qo) (qv 6)<|zf<|v5 (J_ 6)<|J_ 6)<|vz (n:=2) rfl<|qz (G_ 9 hN)<|qz (G_ 10 hN) x4)<|qa (a7 ["_law_x"] (i:=11) hN rfl (Or.inl rfl) (EI (by rfl)) rfl (j9<|qv 1) (fK 12) (λ_ _ _ _=>cV<|vn<|wc (N_ I (qv 12)<|qv 4)<|va<|N_ I (qv 12)<|qv 6) λ_ _ _ _=>(qv 12))<|qc<|qm<|zy dC rfl B.bb ww<|zx<|qk j7 (qv 11)<|zc<|v5 (zf<|v5 (zy zO rfl B.bh sW<|v5 (qv 7)<|qv 10)<|zy F1 rfl B.bj t9<|v5 (qv 7)<|qv 10)<|zf<|v5 (zy zO rfl B.bh sW<|v5 (qv 9)<|qv 8)<|zy F1 rfl B.bj t9<|v5 (qv 9)<|qv 8)⟩
def gt(x:Yb):Da:=.tup [.s<|.int (x.1:Int),.s<|.int (x.2:Int)]
def mW(x y:Yb):Da.eq (gt x) (gt y)=decide (x=y):=by show(decide ((x.1:Int)=(y.1:Int))&&(decide ((x.2:Int)=(y.2:Int))&&true))=_;rw[Bool.and_true,<-Bool.decide_and];exact decide_eq_decide.mpr ⟨λ⟨I,J⟩=>Et (Co.mp I)<|Co.mp J,λh=>by subst h;exact⟨rfl,rfl⟩⟩
def ip(x:Yb):jd L 1 (qP x) (gt x):=bu<|.cons (EN _)<|.cons (EN _) .nil
theorem iC{L:qi}:∀l:XY,Paired (jd L 1) (z9 l)<|l.map gt
 |[]=>.nil
 |_::r=>.cons (bu<|.cons (EN _)<|.cons (EN _) .nil)<|iC r
def VI(l:XX):Da.eqs (l.map gt) []=decide (l=[]):=by cases l<;>rfl
def Ku{f:Yb->Bool}{keep:qi->Prop}{Q:YK}(hz:lk.length<=1000)(o:keep L)
 (turn:∀(i:Nat) (I:Yb) (R:List Y->qi->Prop) zs,lk[i]?=some I->(f I=true->R (zs++[qP I]) L)->(f I=false->R zs L)->g (qP I) (τ++List.replicate 1 none) L λJ L2=>tc J L2 λb L3=>wb b (te J L3 λz r=>R (zs++[z]) r)<|R zs L3)
 (t:∀p,L p=none->Q (.ref p) (qg L p<|.lst<|z9<|lk.filter f)):yb (z9 lk) keep 1 g tc te τ L Q:=by
 refine wf (λi zs=>zs=z9 ((lk.take i).filter f)) (by rw[Ab];exact AW hz (by decide)) o rfl ?_ ?_
 ·rintro i y zs U rfl;rw[Ai] at U;obtain⟨I,j,rfl⟩:=Am.mp U;have l:lk.take (i+1)=lk.take i++[I]:=by rw[AZ,j];rfl
  refine turn i I _ _ j (λh=>⟨L,EC _,rfl,?_⟩) λh=>⟨L,EC _,rfl,?_⟩
  ·rw[l,BB,Ec h,C1,<-iu]
  ·rw[l,BB,Eb (by rw[h];simp),C1,AG]
 ·rintro zs rfl p C;rw[Ab,AX];exact t p C
structure LkI(ks:Yo)(lk:XX):Prop where
 nd:(za lk).Nodup
 lt:∀p∈lk,p.1<p.2
 at_:∀p∈lk,∃t n,ks[p.1]?=some (.lf t n)/\ks[p.2]?=some (.lf (!t) n)
def ji(c:Yb)(r:XX):za (c::r)=c.1::c.2::za r:=by
 have e:za (c::r)=[c.1,c.2]++za r:=by rw[<-aD,<-jv];rfl
 rw[e];rfl
def xp{m:XX}(h:l.Perm m):(za l).Perm (za m):=by
 induction h with
 |nil=>exact .nil
 |cons x _ I=>rw[ji,ji];exact(I.cons _).cons _
 |swap x y l=>
  rw[ji,ji,ji,ji];exact(Bk (l₁:=[y.1,y.2]) (l₂:=[x.1,x.2])).append_right (za l)
 |trans _ _ J U=>exact J.trans U
theorem vk:∀{l:XX},(za l).Nodup->l.Nodup
 |[],_=>BW
 |c::r,h=>by rw[ji] at h;have I:=AH.mp h;have J:=AH.mp I.2;exact AH.mpr ⟨λU=>I.1<|Af _ (bU U).1,vk J.2⟩
def VJ(nd:l.Nodup){x y:Yb}(U:x∈l)(g:y∈l)(ne:x≠y):l.Perm (x::y::l.filter λz=>decide (z≠x)&&decide (z≠y)):=by
 refine(Be nd ?_).mpr λz=>?_
 ·refine AH.mpr ⟨λh=>?_,AH.mpr ⟨λh=>?_,nd.filter _⟩⟩
  ·rcases Ap.mp h with h|h
   ·exact ne h
   ·simp at h
  ·simp at h
 ·by_cases I:z=x
  ·subst I;simp[U]
  ·by_cases J:z=y
   ·subst J;simp[g]
   ·simp[I,J]
def cR(a b:Nat):Yb:=(min a b,max a b)
def Kv(a b:Nat)(r:X2):(min a b::max a b::r).Perm (a::b::r):=by
 by_cases c:a<=b
 ·rw[BC c,Cu c]
 ·rw[Cs (by lia),CD (by lia)];exact List.Perm.swap ..
def j8(t:Bool)(p:Yb):Yb:=if t=true then(p.2,p.1) else p
def lW(t:Bool)(p:Yb)(r:X2):((j8 t p).1::(j8 t p).2::r).Perm (p.1::p.2::r):=by cases t with|true=>exact List.Perm.swap ..|false=>exact .refl _
def LkI.cross(I:LkI ks lk){x y:Yb}(C:x∈lk)(T:y∈lk)(ne:x≠y){u:Bool}{n:Str}(x1:ks[x.1]?=some (.lf t n))(g:ks[x.2]?=some (.lf (!t) n))(j:ks[y.1]?=some (.lf u n))(l:ks[y.2]?=some (.lf (!u) n)):
 (za<|(lk.filter λz=>decide (z≠x)&&decide (z≠y))++[cR (j8 t x).1 (j8 u y).2,cR (j8 u y).1 (j8 t x).2]).Perm (za lk)/\
 LkI ks ((lk.filter λz=>decide (z≠x)&&decide (z≠y))++[cR (j8 t x).1 (j8 u y).2,cR (j8 u y).1 (j8 t x).2]):=by
 have pm:=xp<|VJ (vk I.nd) C T ne;rw[ji,ji] at pm;generalize o:(lk.filter λz=>decide (z≠x)&&decide (z≠y))=rest at pm;have r:(za<|rest++[cR (j8 t x).1 (j8 u y).2,cR (j8 u y).1 (j8 t x).2]).Perm (za lk):=by rw[jv,ji,aD];refine Bk.trans<|List.Perm.trans ?_ pm.symm;refine(Kv (j8 t x).1 (j8 u y).2 _).trans ?_;refine(((Kv (j8 u y).1 (j8 t x).2<|za rest).cons _).cons _).trans ?_;refine List.Perm.trans ?_<|lW t x _;refine List.Perm.cons _ ?_;refine List.Perm.trans ?_<|(lW u y _).cons _;refine(Bk (l₁:=[(j8 u y).2,(j8 u y).1]) (l₂:=[(j8 t x).2])).append_right (za rest) |>.trans ?_;exact(List.Perm.swap ..).cons _
 have J:ks[(j8 t x).1]?=some (.lf false n)/\ks[(j8 t x).2]?=some (.lf true n):=by cases t;exact⟨x1,g⟩;exact⟨g,x1⟩
 have U:ks[(j8 u y).1]?=some (.lf false n)/\ks[(j8 u y).2]?=some (.lf true n):=by cases u;exact⟨j,l⟩;exact⟨l,j⟩
 have two:∀a b,ks[a]?=some (.lf false n)->ks[b]?=some (.lf true n)->(cR a b).1<(cR a b).2/\∃t n,ks[(cR a b).1]?=some (.lf t n)/\ks[(cR a b).2]?=some (.lf (!t) n):=λa b ea eb=>by
  have a0:a≠b:=λh=>by subst h;rw[ea] at eb;cases eb
  unfold cR;by_cases c:a<b
  ·rw[BC (by exact gc),Cu (by lia)];exact⟨c,false,n,ea,eb⟩
  ·rw[Cs (by exact Fs),CD (by lia)];exact⟨by show b<a;lia,true,n,eb,ea⟩
 refine⟨r,r.nodup_iff.mpr I.nd,λp h=>?_,λp h=>?_⟩
 ·rcases An.mp h with h|h
  ·rw[<-o] at h;exact I.lt p (AR.mp h).1
  ·rcases Ap.mp h with rfl|h
   ·exact(two _ _ J.1 U.2).1
   ·rw[Av.mp h];exact(two _ _ U.1 J.2).1
 ·rcases An.mp h with h|h
  ·rw[<-o] at h;exact I.at_ p (AR.mp h).1
  ·rcases Ap.mp h with rfl|h
   ·exact(two _ _ J.1 U.2).2
   ·rw[Av.mp h];exact(two _ _ U.1 J.2).2
def LkI.perm{m:XX}(I:LkI ks l)(p:m.Perm l):LkI ks m:=⟨(xp p).nodup_iff.mpr I.nd,λx J=>I.lt x<|p.mem_iff.mp J,λx J=>I.at_ x<|p.mem_iff.mp J⟩
inductive az(ys:List Y)(L:qi)(Q:YK):Prop
 |mk:∀a l,∀ks:Yo,∀lk:XY,∀one two:Int,(ys=[.ref a,.ref l,.int one,.int two])->(L a=some (.lst<|v9 ks))->(L l=some (.lst<|z9 lk))->(LkI ks lk)->(lk≠[])->(lk.length<=125)->(ks.length<=1000)->(Q (.ref l) L)->(∀D lk',L D=none->LkI ks lk'->lk'.length=lk.length->(za lk').Perm (za lk)->lk'.Pairwise db->Q (.ref D) (qg L D<|.lst<|z9 lk'))->az ys L Q
def iS(ks:Yo)(p:Nat):Str:=match ks[p]? with
 |some (.lf _ n)=>n
 |_ => ""
def mf{p:Nat}{n:Str}(e:ks[p]?=some (.lf t n)):iS ks p=n:=by unfold iS;rw[e]
def Kw{x:Yb}(h:l[i]?=some x):(z9 l)[i]?=some (qP x):=by rw[Ai,h];rfl
def VL:dR:=(xa (vo (u_ 1 (cz<|ql 1) (qp 12) (qB (Kb (ql 12)<|ql 4)<|Kb (ql 12)<|ql 6)<|ql 12)<|qp 11)
 (oG<|rD dk<|qr (a9 vJ (ql 11)<|gd<|qr (cX<|qr (rD Fu<|gJ (ql 7)<|ql 10)<|qr (rD E9<|gJ (ql 7)<|ql 10) jn)<|qr (cX<|qr (rD Fu<|gJ (ql 9)<|ql 8)<|qr (rD E9<|gJ (ql 9)<|ql 8) jn) jn) jn))
def VM{I:XX}{A B C D:Nat}{p:Addr}{Q:YK}(h:L p=some (.lst<|z9 I))(hz:I.length<=125)(nd:(I++[cR A D,cR C B]).Nodup)(r:∀p∈I++[cR A D,cR C B],p.2<1000000)
 (q:∀L' J qs,qf L L'->L' J=none->qs.Perm (I++[cR A D,cR C B])->qs.Pairwise db->Q (.ref J) (qg L' J<|.lst<|z9 qs)):
 ∀p2,L p2=none->vJ (.ref p) (.ref p2) (qg L p2<|.lst [Y.tup [.int<|min (A:Int) (D:Int),.int<|max (A:Int) (D:Int)],Y.tup [.int<|min (C:Int) (B:Int),.int<|max (C:Int) (B:Int)]]) λy L'=>dk [y] L' Q:=by
 have big:=a_;intro p2 g;have l:∀a b:Nat,(Y.tup [.int<|min (a:Int) (b:Int),.int<|max (a:Int) (b:Int)])=qP (cR a b):=λa b=>by
  have t:min (a:Int) (b:Int)=((min a b:Nat):Int):=by omega
  have T:max (a:Int) (b:Int)=((max a b:Nat):Int):=by omega
  unfold qP cR;rw[t,T]
 rw[l,l];have j:=By (o:=.lst [qP<|cR A D,qP<|cR C B]) g;refine⟨_,_,j _ _ h,q9,?_,λp3 U=>?_⟩
 ·rw[Ab];exact Bp (big _ (by show _+2<=_;lia))
 generalize qg L p2 (.lst [qP<|cR A D,qP<|cR C B])=L1 at j U ⊢;rw[show z9 I++[qP<|cR A D,qP<|cR C B]=z9 (I++[cR A D,cR C B]) by unfold z9;rw[Aw];rfl];exact vL (ps:=I++[cR A D,cR C B]) q9 r nd (by rw[Ac];show I.length+2<=_;lia) λJ qs hD pm pw=>q _ J qs (j.trans<|By U) hD pm pw
def cW{j:xu}{o J r t:Option Y}{l:Addr}{x y:Yb}{A B C D:Nat}(T:L l=some (.lst<|z9 lk))(hz:lk.length<=125)
 (nd:((lk.filter λz=>decide (z≠x)&&decide (z≠y))++[cR A D,cR C B]).Nodup) (hb:∀p∈(lk.filter λz=>decide (z≠x)&&decide (z≠y))++[cR A D,cR C B],p.2<1000000)
 (q:∀L' U qs,qf L L'->L' U=none->qs.Perm ((lk.filter λz=>decide (z≠x)&&decide (z≠y))++[cR A D,cR C B])->qs.Pairwise db->j.rt (.ref U) (qg L' U<|.lst<|z9 qs)):
 VL j [o,some<|.ref l,J,r,some<|qP x,t,some<|qP y,some<|.int (A:Int),some<|.int (B:Int),some<|.int (C:Int),some<|.int (D:Int),none] L:=by
 have big:=a_;refine zp T λkeep kp=>Ku (f:=λz=>decide (z≠x)&&decide (z≠y)) (by exact dP) (kp _ rfl) (λi I R zs ep hy g=>?_) λp hp=>?_
 ·refine⟨rfl,rfl,1,1,gt I,gt x,by decide,ip I,ip x,?_⟩;rw[mW];by_cases c:I=x
  ·refine jz (by rw[Ax c];rfl) (g (by rw[Ar (by simpa using c)];rfl))
  ·refine vg (by rw[Ar c];rfl) ?_;refine⟨rfl,rfl,1,1,gt I,gt y,by decide,ip I,ip y,?_⟩;rw[mW];by_cases J:I=y
   ·refine jz (by rw[Ax J];rfl)<|g (by rw[Ar (by simpa using J:¬I≠y),DA])
   ·refine vg (by rw[Ar J];rfl) (hy (by rw[Ax c,Ax J];rfl))
 exact VM q9 (AE (Dn ..) hz) nd hb λL' U qs sl=>q L' U qs<|(By hp).trans sl
def yZ:∀ys L Q,az ys L Q->jf eL.1 12 ys L Q:=by
 rintro ys L Q ⟨a,l,J,lk,one,two,rfl,ha,hl,I,ne,hz,hn,q0,q⟩;have big:=a_;have a1:0<lk.length:=CW.mpr ne;obtain⟨j1,x,e1,h1,ex⟩:=jA a1 one;have pl:(z9 lk).length=lk.length:=Ab ..;have mx:=AB ex;obtain⟨t,n,x1,x2⟩:=I.at_ x mx;refine qb hl ⟨by show(0:Int)<((z9 lk).length:Int);rw[pl];lia,qb hl (qj (by rw[pl,e1];exact vd (Kw ex):jU (z9 lk) (one % ((z9 lk).length:Int))=some (qP x)) ?_)⟩;refine zp hl λkeep kp=>Ku (f:=λz=>decide (z≠x)&&decide (iS J z.1=iS J x.1)) (by exact dP) (kp _ rfl) (λi pr R zs ep hy a2=>?_) λp hp=>?_
 ·obtain⟨t2,n2,p1,p2⟩:=I.at_ pr<|AB ep;refine⟨rfl,rfl,1,1,gt pr,gt x,by decide,ip pr,ip x,?_⟩;rw[mW];by_cases c:pr=x
  ·refine jz (by rw[Ax c];rfl) (a2 (by rw[Ar (by simpa using c)];rfl))
  ·refine vg (by rw[Ar c];rfl) ?_;refine qb ha<|qj (xm p1) ?_;refine qb ha<|qj (xm x1) ?_;have en:(decide<|iS J pr.1=iS J x.1)=decide (n2=n):=by rw[mf p1,mf x1]
   refine zo (λh=>hy ?_) λh=>a2 ?_
   ·rw[en,Ax h,Ax c];rfl
   ·rw[en,Ar h,DA]
 have np:l≠p:=vt hl hp;have s1:qf L (qg L p<|.lst<|z9<|lk.filter λz=>decide (z≠x)&&decide (iS J z.1=iS J x.1)):=By hp;have g1:qg L p (.lst<|z9<|lk.filter λz=>decide (z≠x)&&decide (iS J z.1=iS J x.1)) p=some (.lst<|z9<|lk.filter λz=>decide (z≠x)&&decide (iS J z.1=iS J x.1)):=q9;obtain⟨mt,C⟩:∃mt,mt=lk.filter λz=>decide (z≠x)&&decide (iS J z.1=iS J x.1):=⟨_,rfl⟩;rw[<-C] at s1 g1 ⊢;have lm:mt.length<=lk.length:=by rw[C];exact Dn ..
 generalize qg L p (.lst<|z9 mt)=L1 at s1 g1 ⊢;intro p2 T;refine aY (n:=1) (m:=0) (by decide) (By T _ _ g1) q9 (iC mt) (.nil:Paired (jd _ 0) _ []) ?_;have s2:qf L (qg L1 p2<|.lst []):=s1.trans<|By T;have g2:qg L1 p2 (.lst []) p=some (.lst<|z9 mt):=By T _ _ g1;generalize qg L1 p2 (.lst [])=L2 at s2 g2 ⊢;show wb (Da.eqs (mt.map gt) []) _ _;rw[VI];by_cases cm:mt=[]
 ·refine vg (by rw[Ax cm]) ?_;exact⟨L,s2,q0⟩
 refine jz (by rw[Ar cm]) ?_;obtain⟨j2,y,e2,h2,ey⟩:=jA (CW.mpr cm) two;have pm:(z9 mt).length=mt.length:=Ab ..;have my:=AB ey;rw[C] at my;obtain⟨my,cy⟩:=AR.mp my;rw[Ba,DG,DG] at cy;obtain⟨u,n',y1,y2⟩:=I.at_ y my;have a3:n'=n:=by rw[<-mf y1,<-mf x1];exact cy.2
 subst a3;have U:=s2 _ _ hl;have a0:=s2 _ _ ha;refine qb g2 ⟨by show(0:Int)<((z9 mt).length:Int);rw[pm];have:=CW.mpr cm;lia,qb g2 (qj (by rw[pm,e2];exact vd (Kw ey):jU (z9 mt) (two % ((z9 mt).length:Int))=some (qP y)) ?_)⟩;obtain⟨cp,cI⟩:=I.cross mx my (AN cy.1) x1 x2 y1 y2;have tail:∀L' r qs,qf L2 L'->L' r=none->qs.Perm ((lk.filter λz=>decide (z≠x)&&decide (z≠y))++[cR (j8 t x).1 (j8 u y).2,cR (j8 u y).1 (j8 t x).2])->qs.Pairwise db->bM Q (.ref r) (qg L' r<|.lst<|z9 qs):=λL' r qs sl hD pq pw=>by
  have a4:L r=none:=s2.none<|sl.none hD;refine⟨qg L r<|.lst<|z9 qs,λb o e=>?_,q r qs a4 (cI.perm pq) ?_ ((xp pq).trans cp) pw⟩
  ·by_cases c:b=r
   ·subst c;rw[q9] at e ⊢;exact e
   ·rw[qd c] at e ⊢;exact sl _ _<|s2 _ _ e
  ·have l1:=cp.length_eq;rw[xq,xq] at l1;rw[pq.length_eq];lia
 have g:=vk cI.nd;have j:∀p∈(lk.filter λz=>decide (z≠x)&&decide (z≠y))++[cR (j8 t x).1 (j8 u y).2,cR (j8 u y).1 (j8 t x).2],p.2<1000000:=λp hp=>by obtain⟨_,_,_,h⟩:=cI.at_ p hp;have:=zd h;lia
 refine qb a0<|qj (xm x1) ?_;cases t with
 |false=>
  refine qb a0<|qj (xm y1) ?_;cases u with|false=>exact cW U hz g j tail|true=>exact cW U hz g j tail
 |true=>
  refine qb a0<|qj (xm y1) ?_;cases u with|false=>exact cW U hz g j tail|true=>exact cW U hz g j tail
def gD(l:x5)(g:x5)(j:x5)(I:x5)(J:x5)(U:x5):RD "_law_web" oW 129 ["_law_script","_law_seed","_law_room","_law_most","_law_bits","_law_gaps","_law_knots","_law_rule","_law_links","_law_cuts","_law_k"] (λV=>Ga V l/\JN V g/\JO V j/\JP V I/\JQ V J/\JR V U):=⟨_,λV B c _ _ _ _ _ _ _ o hN p=>(qa (S_ 4 hN<|C_ c.1 o<|ag (qv 1) qe qe)<|qa (S_ 5 hN<|kj (dH _ _ _ p) (qk jh (qv 4) qe) qe<|jk _)<|x6 (ze (xh<|qv 5) (qc<|S_ 2 hN<|zy zO rfl B.bh sW<|v5 (qv 2) qe) qt)<|qa (fj (C_ c.2.1 o<|ag (qv 0) (qv 1)<|qv 2)<|vz (n:=2) rfl<|qz (G_ 6 hN)<|qz (G_ 7 hN) x4)<|qa (fj (C_ c.2.2.1 o<|zx<|qv 7)<|vz (n:=2) rfl<|qz (G_ 8 hN)<|qz (G_ 9 hN) x4)<|qa (vv xT rfl (bY rfl B.bg<|zx<|qk jh (qk v4 (qv 4) qe) qe) (G_ 10 hN)<|qc<|S_ 8 hN<|C_ c.2.2.2.1 o<|xl (qv 6)<|ag (qv 8) (C_ c.1 o<|ag (qv 1) (qk j7 qe<|qv 10) qe)<|C_ c.1 o<|ag (qv 1) (qk j7 qe<|qv 10) qe)<|x6 (ze (E_ p (qk jh (qk v4 (qv 4) qe) qe) qe) (qc<|S_ 6 hN<|C_ c.2.2.2.2.1 o<|xl (qv 6)<|ag (qv 9) (qv 1)<|qv 3) qt)<|qc<|qm<|C_ c.2.2.2.2.2 o<|xl (qv 6)<|xl (qv 8)<|ag (qv 9) (qv 1)<|qv 5)⟩
theorem bq:∀R:Ru,mZ R+1<=(qy R).length
 |.link _ _=>Ak _
 |.ei r A=>by have:=bq A;show mZ A+1+1<=(r::qy A).length;rw[Au];exact vB
 |.bo r A B=>by have:=bq A;have:=bq B;show mZ A+mZ B+1+1<=(r::(qy A++qy B)).length;rw[Au,Ac];lia
 |.cu _ _ A B=>by have:=bq A;have:=bq B;show mZ A+mZ B+1+1<=(qy A++qy B).length;rw[Ac];lia
theorem kq:∀R:Ru,∃rest,(za (zg R)++rest).Perm<|qy R
 |.link p q=>⟨[],.refl _⟩
 |.ei r A=>by obtain⟨u,h⟩:=kq A;exact⟨r::u,B7.trans<|h.cons r⟩
 |.bo r A B=>by obtain⟨u,h⟩:=kq A;obtain⟨v,k⟩:=kq B;refine⟨r::(u++v),?_⟩;show(za (zg A++zg B)++r::(u++v)).Perm (r::(qy A++qy B));rw[jv];refine B7.trans<|List.Perm.cons r ?_;refine List.Perm.trans ?_<|h.append k;rw[Aq,Aq];refine Do _ ?_;rw[<-Aq,<-Aq];exact Di _ Bk
 |.cu p q A B=>by obtain⟨u,h⟩:=kq A;obtain⟨v,k⟩:=kq B;refine⟨u++v,?_⟩;show(za (zg A++zg B)++(u++v)).Perm (qy A++qy B);rw[jv];refine List.Perm.trans ?_<|h.append k;rw[Aq,Aq];refine Do _ ?_;rw[<-Aq,<-Aq];exact Di _ Bk
def SR.links{E:X2}(h:SR ks R E):∀p∈zg R,p.1<p.2/\∃t n,ks[p.1]?=some (.lf t n)/\ks[p.2]?=some (.lf (!t) n):=by induction h with|@link p q t n E g j l r C=>intro x U;rw[Av.mp U];exact⟨g,t,n,j,l⟩|ei _ _ _ _ _ _ _ o=>exact o|bo _ _ _ _ _ _ _ I J=>intro x U;exact(An.mp U).elim (I x) (J x)|cu _ _ _ _ _ _ _ _ I J=>intro x U;exact(An.mp U).elim (I x) (J x)
def SR.lkI{E:X2}(h:SR ks R E)(nd:(qy R).Nodup):LkI ks (zg R):=by obtain⟨u,J⟩:=kq R;exact⟨(Az.mp<|J.nodup_iff.mpr nd).1,λp I=>(h.links p I).1,λp I=>(h.links p I).2⟩
def SR.cuts{E:X2}(h:SR ks R E):(qy R).Nodup->(za<|zh R).Nodup/\(∀x∈za (zh R),x∉E/\x∈qy R):=by
 induction h with
 |link _ _ _ _ _=>exactλ_=>⟨BW,λx I=>by cases I⟩
 |@ei r i j A EA E h1 h2 o h4 h5 t h7 ih=>
  intro nd;obtain⟨n1,n2⟩:=AH.mp<|show(r::qy A).Nodup from nd;obtain⟨a,b⟩:=ih n2;refine⟨a,λx I=>⟨λJ=>?_,Af _ (b x I).2⟩⟩;rcases (t x).mp J with⟨z,_⟩|rfl
  ·exact(b x I).1 z
  ·exact n1 (b x I).2
 |@bo r i j A B EA EB E h1 h2 o h4 h5 t h7 g l=>
  intro nd;obtain⟨n1,n2⟩:=AH.mp<|show(r::(qy A++qy B)).Nodup from nd;obtain⟨m1,m2,m3⟩:=Az.mp n2;obtain⟨a1,b1⟩:=g m1;obtain⟨a2,b2⟩:=l m2;have sA:=h2.sub;have C:=o.sub;show(za<|zh A++zh B).Nodup/\∀x∈za (zh A++zh B),x∉E/\x∈r::(qy A++qy B);rw[jv];refine⟨Az.mpr ⟨a1,a2,λx I y hy=>m3 x (b1 x I).2 y (b2 y hy).2⟩,λx I=>?_⟩;rcases An.mp I with I|I
  ·refine⟨λJ=>?_,Af _<|Ay _ (b1 x I).2⟩;rcases (t x).mp J with⟨z,_⟩|⟨z,_⟩|rfl
   ·exact(b1 x I).1 z
   ·exact m3 x (b1 x I).2 x (C x z) rfl
   ·exact n1<|Ay _ (b1 _ I).2
  ·refine⟨λJ=>?_,Af _<|Al _ (b2 x I).2⟩;rcases (t x).mp J with⟨z,_⟩|⟨z,_⟩|rfl
   ·exact m3 x (sA x z) x (b2 x I).2 rfl
   ·exact(b2 x I).1 z
   ·exact n1<|Al _ (b2 _ I).2
 |@cu p q A B EA EB E w h1 h2 o h4 h5 t h7 h8 g l=>
  intro nd;obtain⟨m1,m2,m3⟩:=Az.mp<|show(qy A++qy B).Nodup from nd;obtain⟨a1,b1⟩:=g m1;obtain⟨a2,b2⟩:=l m2;have sA:=h1.sub;have C:=h2.sub;show(za<|(p,q)::(zh A++zh B)).Nodup/\∀x∈za ((p,q)::(zh A++zh B)),x∉E/\x∈qy A++qy B;rw[ji,jv];have tp:=sA p o;have tq:=C q h4;have a0:p≠q:=λe=>m3 p tp q tq e;have T:∀x,x∈za (zh A)++za (zh B)->x≠p/\x≠q:=λx I=>by
   rcases An.mp I with I|I
   ·exact⟨λe=>(b1 x I).1<|e▸o,λe=>m3 x (b1 x I).2 q tq e⟩
   ·exact⟨λe=>m3 p tp x (b2 x I).2 e.symm,λe=>(b2 x I).1<|e▸h4⟩
  refine⟨AH.mpr ⟨λh=>?_,AH.mpr ⟨λh=>(T q h).2 rfl,Az.mpr ⟨a1,a2,λx I y hy=>m3 x (b1 x I).2 y (b2 y hy).2⟩⟩⟩,λx I=>?_⟩
  ·rcases Ap.mp h with h|h
   ·exact a0 h
   ·exact(T p h).1 rfl
  ·have U:x∈E->(x∈EA/\x≠p)\/(x∈EB/\x≠q):=(h7 x).mp;rcases Ap.mp I with rfl|I
   ·exact⟨λJ=>(U J).elim (λz=>z.2 rfl) λz=>m3 x tp x (C x z.1) rfl,Ay _ tp⟩
   ·rcases Ap.mp I with rfl|I
    ·exact⟨λJ=>(U J).elim (λz=>m3 x (sA x z.1) x tq rfl) λz=>z.2 rfl,Al _ tq⟩
    ·rcases An.mp I with I|I
     ·exact⟨λJ=>(U J).elim (λz=>(b1 x I).1 z.1) λz=>m3 x (b1 x I).2 x (C x z.1) rfl,Ay _ (b1 x I).2⟩
     ·exact⟨λJ=>(U J).elim (λz=>m3 x (sA x z.1) x (b2 x I).2 rfl) λz=>(b2 x I).1 z.1,Al _ (b2 x I).2⟩
structure pX(wd:List<|Yp)(lk' ct':XX):Prop where
 ex:∃(ks:Yo) (R:Ru) (E:X2) (lk ct:XX) (eA:List<|Yp) (f:X_),aZ ks/\SR ks R E/\(qy R).Perm (List.range ks.length)/\ks.length<=120/\
  LkI ks lk/\(za lk).Perm (za<|zg R)/\ct.Perm (zh R)/\(eA=ks.map some\/∃qs,nV ks ct qs []/\aj ks qs ks.length eA)/\Ren f eA wd/\lk'.Perm (lk.map<|mmP f)/\lk'.Pairwise db/\ct'.Perm (ct.map<|ppP f)/\ct'.Pairwise db
def aj.okO(ok:aZ ks)(T:aj ks qs ks.length eA):qF eA:=by
 intro p e i j h;have J:p<ks.length:=by have:=zd h;rw[T.len] at this;exact this
 cases I:ks[p]? with
 |none=>rw[Ag J] at I;cases I
 |some k=>
  cases k with
  |lf t n=>
   have:=T.lf p t n J I;rw[h] at this;cases this
  |nd l U g=>
   have lt:U<p/\g<p:=ok p _ I;rcases T.nd p l U g J I with⟨z,_⟩|⟨o,z⟩
   ·rw[h] at z;cases z
   ·rw[h] at z;cases z;exact lt
def i9(ok:aZ ks):qF (ks.map some):=by intro p e i j h;rw[Ai] at h;obtain⟨k,I,J⟩:=Am.mp h;cases J;exact ok p _ I
def wB(ks:Yo):xz (ks.map some)=v9 ks:=by show(ks.map some).map fP=ks.map sC;rw[BH];rfl
def ui(ks:Yo):∀l:XY,2*l.length<=bO (bB ks) l:=λl=>by have:=iY ks<|za l;rw[ao,xq] at this;exact this
def VN{f:X_}{m:XX}(h:l.Perm m):bO f l=bO f m:=by rw[<-ao,<-ao];exact((xp h).map f).sum_nat
inductive tD(Pt:Addr)(ys:List Y)(L:qi)(Q:YK):Prop
 |mk:∀cy,∀ns:X7,∀s m:Int,∀room:Nat,(ys=[cy,.int s,.int (room:Int),.int m])->(cy=.sq (ns.map Y.int))->(ns.length<=1000)->(room<=120)->(L Pt=some (.tb lamQ))->(∀wa la ca wd lk ct L',pX wd lk ct->qf L L'->L wa=none->L la=none->L ca=none->wa≠la->wa≠ca->la≠ca->L' wa=some (.lst<|xz wd)->L' la=some (.lst<|z9 lk)->L' ca=some (.lst<|z9 ct)->Q (fJ wa la ca) L')->tD Pt ys L Q
structure VO(room:Nat)(m:Int)(wd:List<|Yp):Prop where
 ex:∃(ks:Yo) (R:Ru) (E:X2) (eA:List<|Yp) (f:X_),SR ks R E/\(qy R).Perm (List.range ks.length)/\ks.length<=max room 2/\eA.length=ks.length/\(cE eA:Int)<=max (cK ks:Int) m/\Ren f eA wd
inductive Kx(Pt:Addr)(ys:List Y)(L:qi)(Q:YK):Prop
 |mk:∀cy,∀ns:X7,∀s m:Int,∀room:Nat,(ys=[cy,.int s,.int (room:Int),.int m])->(cy=.sq (ns.map Y.int))->(ns.length<=1000)->(room<=120)->(L Pt=some (.tb lamQ))->(∀wa la ca wd lk ct L',pX wd lk ct->VO room m wd->qf L L'->L wa=none->L la=none->L ca=none->wa≠la->wa≠ca->la≠ca->L' wa=some (.lst<|xz wd)->L' la=some (.lst<|z9 lk)->L' ca=some (.lst<|z9 ct)->Q (fJ wa la ca) L')->Kx Pt ys L Q
def VP :∀ys L Q,Kx Pt ys L Q->jf (gD bN iU gL az bw<|cB Pt).1 11 ys L Q:=by
 rintro ys L Q ⟨cy,ns,s,m,room,rfl,be,bf,a5,hP,q⟩;have big:=a_;refine⟨s,5,16807,rfl,by decide,by decide,by decide,by decide,λv h0 h1=>?_⟩;refine⟨show(0:Int)<4 by decide,?_⟩;refine⟨λa1 C=>∃J:Nat,(J<=120/\J<=room)/\a1=[some cy,some<|.int s,some<|.int (J:Int),some<|.int m,some<|.int v,some<|.bl<|decide<|v % 4=1,none,none,none,none,none]/\C=L,?_,?_⟩
 ·refine zo (λh=>?_) λh=>?_
  ·refine⟨min room 57,⟨by lia,by lia⟩,?_,rfl⟩;have e:min (room:Int) 57=((min room 57:Nat):Int):=by lia
   rw[<-e,Ax h];rfl
  ·exact⟨room,⟨a5,Ak _⟩,by rw[Ar h];rfl,rfl⟩
 rintro a1 C ⟨J,⟨hr,c9⟩,rfl,rfl⟩;refine⟨cy,ns,s,J,rfl,be,bf,hr,λg I R E bg ok a0 tp kl=>?_⟩;have ab:I.length<=120:=by lia
 have tl:(qy R).length=I.length:=by rw[tp.length_eq,Ci]
 have tn:(qy R).Nodup:=tp.nodup_iff.mpr Cz;have ac:∀x∈qy R,x<I.length:=λx hx=>A2.mp<|tp.mem_iff.mp hx;have LI:=a0.lkI tn;obtain⟨cn,al⟩:=a0.cuts tn;have cc:=a0.weight ok;have ck:bO (bB I) (zh R)<=120:=by lia
 have cl:=ui I<|zh R;have aL:∀x∈zh R,x.1<I.length/\x.2<I.length:=λx hx=>⟨ac _ (al _ (bU hx).1).2,ac _ (al _ (bU hx).2).2⟩;have ll:2*(zg R).length<=I.length:=by obtain⟨u,hu⟩:=kq R;have:=hu.length_eq;rw[Ac,xq] at this;lia
 have bh:∀x∈zg R,x.1<I.length/\x.2<I.length:=λx hx=>by obtain⟨_,t,n,a,b⟩:=a0.links x hx;exact⟨zd a,zd b⟩
 have bi:zg R≠[]:=by
  have:∀R:Ru,1<=(zg R).length:=λR=>by induction R with|link p q=>exact Ak _|ei r A ih=>exact ih|bo r A B ih _=>show 1<=(zg A++zg B).length;rw[Ac];exact GO|cu p q A B ih _=>show 1<=(zg A++zg B).length;rw[Ac];lia
  intro e;have:=this R;rw[e] at this;simp at this
 have s1:qf C (qg C g<|.lst<|v9 I):=By bg;have rd:=aQ R;have rz:=bq R;refine⟨R,rfl,by lia,by lia,vk LI.nd,vk cn,λp hp=>by have:=(bh p hp).2;lia,λp hp=>by have:=(aL p hp).2;lia,by lia,by lia,λla j lk o ba bb bc pl cm pc cv=>?_⟩;have bj:g≠la:=vt q9 ba;have bm:g≠j:=vt q9 bb;have bd:(qg (qg C g<|.lst<|v9 I) la<|.lst<|z9 lk) j=none:=(qd<|AN bc).trans bb;have s2:qf C (qg (qg (qg C g<|.lst<|v9 I) la<|.lst<|z9 lk) j<|.lst<|z9 o):=(s1.trans<|By ba).trans<|By bd;have g1:qg (qg (qg C g<|.lst<|v9 I) la<|.lst<|z9 lk) j (.lst<|z9 o) g=some (.lst<|v9 I):=(qd bm).trans<|(qd bj).trans q9;have g2:qg (qg (qg C g<|.lst<|v9 I) la<|.lst<|z9 lk) j (.lst<|z9 o) la=some (.lst<|z9 lk):=(qd bc).trans q9;have g3:qg (qg (qg C g<|.lst<|v9 I) la<|.lst<|z9 lk) j (.lst<|z9 o) j=some (.lst<|z9 o):=q9;generalize qg (qg (qg C g<|.lst<|v9 I) la<|.lst<|z9 lk) j (.lst<|z9 o)=L1 at s2 g1 g2 g3 ⊢;have b0:(0:Int)<=v / 4 % 3:=C2 _ (by decide);have b1:v / 4 % 3<3:=C5 _ (by decide);have rng:∃r:Nat,v / 4 % 3=(r:Int)/\r<3:=⟨(v / 4 % 3).toNat,by lia,by lia⟩;obtain⟨r,er,cA⟩:=rng;have a3:∀l2:XY,(za l2).Perm (za<|zg R)->l2.length=(zg R).length:=λl2 p=>by have:=p.length_eq;rw[xq,xq] at this;lia
 refine⟨⟨by decide,by decide⟩,show(0:Int)<3 by decide,⟨by lia,by lia⟩,?_⟩;refine I9 (λi τ L2=>∃l lk2 a2,τ=[some cy,some<|.int s,some<|.int (J:Int),some<|.int m,some<|.int v,some<|.bl<|decide<|v % 4=1,some<|.ref g,some<|je R,some<|.ref l,some<|.ref j,a2]/\qf C L2/\L2 g=some (.lst<|v9 I)/\L2 l=some (.lst<|z9 lk2)/\L2 j=some (.lst<|z9 o)/\LkI I lk2/\(za lk2).Perm (za<|zg R)) ⟨la,lk,_,rfl,s2,g1,g2,g3,LI.perm pl,xp pl⟩ ?_ ?_
 ·rintro i τ L2 hi ⟨l,lk2,a2,rfl,s3,k1,k2,k3,I2,p2⟩;have l2:=a3 lk2 p2;refine⟨s,11+(0+(i:Int)),16807,rfl,by exact A6 _,by omega,by decide,by decide,λv1 _ _=>?_⟩;refine⟨s,17+(0+(i:Int)),40692,rfl,by exact A6 _,by omega,by decide,by decide,λv2 _ _=>?_⟩;refine⟨g,l,I,lk2,v1,v2,rfl,k1,k2,I2,λe=>?_,by lia,by exact dP,?_,λD lk3 hD I3 l3 p3 cI=>?_⟩
  ·rw[e] at l2;exact bi<|BM l2.symm
  ·exact⟨_,EC _,l,lk2,_,rfl,s3,k1,k2,k3,I2,p2⟩
  ·have bn:g≠D:=vt k1 hD;have c0:j≠D:=vt k3 hD;exact⟨_,EC _,D,lk3,_,rfl,s3.trans<|By hD,(qd bn).trans k1,q9,(qd c0).trans k3,I3,p3.trans p2⟩
 rintro τ L2 ⟨l,lk2,a2,rfl,s3,k1,k2,k3,I2,p2⟩;have l2:=a3 lk2 p2;have lc:o.length=(zh R).length:=pc.length_eq;have a4:∀x∈o,x.1<I.length/\x.2<I.length:=λx hx=>aL x<|pc.mem_iff.mp hx;refine⟨λa1 L3=>∃kb U,a1=[some cy,some<|.int s,some<|.int (J:Int),some<|.int m,some<|.int v,some<|.bl<|decide<|v % 4=1,some<|.ref kb,some<|je R,some<|.ref l,some<|.ref j,a2]/\qf C L3/\L3 kb=some (.lst<|xz U)/\L3 l=some (.lst<|z9 lk2)/\L3 j=some (.lst<|z9 o)/\(U=I.map some\/∃qs,nV I o qs []/\aj I qs I.length U)/\(cE U:Int)<=max (cK I:Int) m,?_,?_⟩
 ·refine⟨⟨by decide,by decide⟩,show(0:Int)<2 by decide,?_⟩;refine zo (λh=>?_) λh=>?_
  ·refine⟨g,j,I,o,s,m,rfl,k1,k3,ok,a4,by rw[VN pc];exact dP,by exact dP,λD qs U hD B T M=>?_⟩;exact⟨D,U,rfl,s3.trans<|By hD,q9,(qd<|vt k2 hD).trans k2,(qd<|vt k3 hD).trans k3,.inr ⟨qs,B,T⟩,M⟩
  ·exact⟨g,I.map some,rfl,s3,by rw[wB];exact k1,k2,k3,.inl rfl,by show(cK I:Int)<=_;omega⟩
 rintro a1 L3 ⟨kb,U,rfl,s4,j1,j2,j3,ho,hM⟩;have okO:qF U:=by
  rcases ho with rfl|⟨qs,B,T⟩
  ·exact i9 ok
  ·exact T.okO ok
 have lo:U.length=I.length:=by
  rcases ho with rfl|⟨qs,B,T⟩
  ·exact Ab ..
  ·exact T.len
 refine⟨kb,l,j,U,lk2,o,s,_,rfl,j1,j2,j3,okO,by lia,s4 _ _ hP,vk I2.nd,λp hp=>⟨I2.lt p hp,?_⟩,by lia,pc.nodup_iff.mpr<|vk cn,λp hp=>by rw[lo];exact a4 p hp,by lia,λf wd c1 c2 wa c3 c4 L4 rn c5 c6 c7 c8 sl nw nl nc n1 n2 n3 e1 e2 e3=>?_⟩
 ·obtain⟨_,_,_,h⟩:=I2.at_ p hp;rw[lo];exact zd h
 ·exact jw<|q wa c3 c4 wd c1 c2 L4 ⟨I,R,E,lk2,o,U,f,ok,a0,tp,ab,I2,p2,pc,ho,rn,c5,c6,c7,c8⟩ ⟨I,R,E,U,f,a0,tp,by lia,lo,hM,rn⟩ (s4.trans sl) (s4.none nw) (s4.none nl) (s4.none nc) n1 n2 n3 e1 e2 e3
def VQ :∀ys L Q,tD Pt ys L Q->jf (gD bN iU gL az bw<|cB Pt).1 11 ys L Q:=by rintro ys L Q ⟨I,J,s,m,room,U,g,j,l,o,q⟩;exact VP ys L Q ⟨I,J,s,m,room,U,g,j,l,o,λp r t C lk T L' W _=>q p r t C lk T L' W⟩
def KW.lf{p:Nat}{n:Str}(h:wd[p]?=some (some<|.lf t n)):KW (xz wd) p (.leaf t n):=by show(xz wd)[p]?=_;rw[Ai,h];rfl
def KW.nd{p:Nat}{e:Bool}{l r:Wd}(h:wd[p]?=some (some<|.nd e i j))(I:KW (xz wd) i l)(J:KW (xz wd) j r):KW (xz wd) p (.node e l r):=
 ⟨i,j,by rw[Ai,h];rfl,I,J⟩
def VR{k:Kn}{n:Str}(h:sC k=.tup [.str<|kL t,.str n]):k=.lf t n:=by
 cases k with
 |lf u m=>
  have I:kL u=kL t:=by injection h with h;injection h with h _;injection h
  have J:m=n:=by injection h with h;injection h with _ h;injection h with h _;injection h
  subst J;cases u<;>cases t<;>first|rfl|(exfalso;revert I;decide)
 |nd e i j=>injection h with h;injection h with _ h;injection h with _ h;cases h
def VS{k:Kn}{e:Bool}(h:sC k=.tup [.str<|kN e,.int (i:Int),.int (j:Int)]):k=.nd e i j:=by
 cases k with
 |lf u m=>injection h with h;injection h with _ h;injection h with _ h;cases h
 |nd b U g=>
  have l:kN b=kN e:=by injection h with h;injection h with h _;injection h
  have I:((U:Nat):Int)=i:=by injection h with h;injection h with _ h;injection h with h _;injection h
  have J:((g:Nat):Int)=j:=by injection h with h;injection h with _ h;injection h with _ h;injection h with h _;injection h
  have I:=Co.mp I;have J:=Co.mp J;subst I J;cases b<;>cases e<;>first|rfl|(exfalso;revert l;decide)
def Ky{p:Nat}(h:(xz wd)[p]?=some y):∃o,wd[p]?=some o/\fP o=y:=by rw[Ai] at h;obtain⟨o,a,b⟩:=Am.mp h;exact⟨o,a,b⟩
def KW.inv_lf{p:Nat}{n:Str}(h:KW (xz wd) p<|.leaf t n):wd[p]?=some (some<|.lf t n):=by
 obtain⟨o,a,b⟩:=Ky<|show(xz wd)[p]?=some (.tup [.str<|kL t,.str n]) from h;cases o with
 |none=>cases b
 |some k=>rw[a,VR b]
def KW.inv_nd{p:Nat}{e:Bool}{l r:Wd}(h:KW (xz wd) p<|.node e l r):∃i j,wd[p]?=some (some<|.nd e i j)/\KW (xz wd) i l/\KW (xz wd) j r:=by
 obtain⟨i,j,I,J,U⟩:=h;obtain⟨o,a,b⟩:=Ky I;cases o with
 |none=>cases b
 |some k=>exact⟨i,j,by rw[a,VS b],J,U⟩
theorem KW.dep{wd:List<|Yp}(ok:qF wd):∀{w:Wd} {p:Nat},KW (xz wd) p w->w.depth<=p+1
 |.leaf t n,p,_=>by show 1<=p+1;exact B3 _
 |.node e l r,p,h=>by obtain⟨i,j,a,I,J⟩:=h.inv_nd;have:=ok p e i j a;have:=KW.dep ok I;have:=KW.dep ok J;show max l.depth r.depth+1<=p+1;lia
def gj(wd:List<|Yp):Prop:=∀(p:Nat) (e:Bool) (i j:Nat),wd[p]?=some (some<|.nd e i j)->(∃k,wd[i]?=some (some k))/\∃k,wd[j]?=some (some k)
theorem uD{wd:List<|Yp}(ok:qF wd)(th:gj wd):∀(n p:Nat) (k:Kn),p<n->wd[p]?=some (some k)->∃w,KW (xz wd) p w
 |0,_,_,h,_=>absurd h<|CF _
 |n+1,p,.lf t m,_,e=>⟨_,KW.lf e⟩
 |n+1,p,.nd b i j,h,e=>by have:=ok p b i j e;obtain⟨⟨I,J⟩,U,g⟩:=th p b i j e;obtain⟨l,o⟩:=uD ok th n i I (by lia) J;obtain⟨r,C⟩:=uD ok th n j U (by lia) g;exact⟨_,KW.nd e o C⟩
def yK(ok:aZ ks):gj (ks.map some):=by
 intro p e i j h;have lt:=i9 ok p e i j h;have I:=zd h;rw[Ab] at I;have at_:∀x,x<ks.length->∃k,(ks.map some)[x]?=some (some k):=λx J=>⟨ks[x],by rw[Ai,Ag J];rfl⟩
 exact⟨at_ i (by omega),at_ j (by lia)⟩
def aj.inv(T:aj ks qs ks.length eA){p:Nat}{e:Bool}(h:eA[p]?=some (some<|.nd e i j)):∃I,ks[p]?=some (.nd I i j):=by
 have U:p<ks.length:=by have:=zd h;rw[T.len] at this;exact this
 cases J:ks[p]? with
 |none=>rw[Ag U] at J;cases J
 |some k=>
  cases k with
  |lf t n=>
   have:=T.lf p t n U J;rw[h] at this;cases this
  |nd I g l=>
   rcases T.nd p I g l U J with⟨z,_⟩|⟨o,z⟩
   ·rw[h] at z;cases z
   ·rw[h] at z;cases z;exact⟨I,rfl⟩
def aj.there(ok:aZ ks)(T:aj ks qs ks.length eA):gj eA:=by
 intro p e i j h;obtain⟨o,I⟩:=T.inv h;have lt:i<p/\j<p:=ok p _ I;have r:=zd I;obtain⟨U,g⟩:=vH I;have at_:∀x,x<ks.length->x∈a6 ks->∃k,eA[x]?=some (some k):=λx J l=>by
  cases ex:ks[x]? with
  |none=>rw[Ag J] at ex;cases ex
  |some k=>
   cases k with
   |lf t n=>exact⟨_,T.lf x t n J ex⟩
   |nd b a c=>
    rcases T.nd x b a c J ex with⟨_,z⟩|⟨C,z⟩
    ·exact absurd l z
    ·exact⟨_,z⟩
 exact⟨at_ i (by lia) U,at_ j (by lia) g⟩
def Ren.inv{f:X_}(r:Ren f eA wd){x:Nat}{k:Kn}(h:wd[x]?=some (some k)):∃p,p<eA.length/\x=f p/\∃o,eA[p]?=some o/\jX f o=some k:=by obtain⟨p,I,e⟩:=r.gap.only x k h;have I:=A2.mp I;have:=r.gap.at_ p (A2.mpr I) _<|Ag I;rw[<-e,h] at this;exact⟨p,I,e,_,Ag I,(Bb this).symm⟩
def Ren.there{f:X_}(r:Ren f eA wd)(th:gj eA):gj wd:=by
 intro x e i j h;obtain⟨p,hp,rfl,o,g,I⟩:=r.inv h;cases o with
 |none=>cases I
 |some k=>
  cases k with
  |lf t n=>cases I
  |nd b a c=>
   cases I;obtain⟨⟨l,C⟩,T,e2⟩:=th p e a c g;have J:∀y k,eA[y]?=some (some k)->∃k',wd[f y]?=some (some k'):=λy k U=>by have:=r.gap.at_ y (A2.mpr<|zd U) _ U;cases k with|lf t n=>exact⟨_,this⟩|nd b a c=>exact⟨_,this⟩
   exact⟨J a l C,J c T e2⟩
theorem Ren.word{f:X_}(r:Ren f eA wd):∀{w:Wd} {p:Nat},KW (xz eA) p w->KW (xz wd) (f p) w
 |.leaf t n,p,h=>by have e:=h.inv_lf;exact KW.lf<|r.gap.at_ p (A2.mpr<|zd e) _ e
 |.node b l rr,p,h=>by obtain⟨i,j,e,I,J⟩:=h.inv_nd;exact KW.nd (r.gap.at_ p (A2.mpr<|zd e) _ e) (r.word I)<|r.word J
def SR.cutw{E:X2}(h:SR ks R E):∀c∈zh R,∃w,cw ks c.1 w/\cw ks c.2 w.turn:=by
 induction h with
 |link _ _ _ _ _=>intro c g;cases g
 |ei _ _ _ _ _ _ _ j=>exact j
 |bo _ _ _ _ _ _ _ I J=>intro x U;exact(An.mp U).elim (I x) (J x)
 |@cu p q A B r t E w C T h3 h4 l o h7 h8 I J=>
  intro x U;rcases Ap.mp U with rfl|U
  ·exact⟨w,l,o⟩
  ·exact(An.mp U).elim (I x) (J x)
theorem fB{ks:Yo}{ct:XX}{qs:X2}{eA:List<|Yp}(B:nV ks ct qs [])(T:aj ks qs ks.length eA):∀{w:Wd} {p:Nat},p∈qs->KW (xz<|ks.map some) p w->KW (xz eA) p w
 |.leaf t n,p,J,h=>by have e:=h.inv_lf;rw[Ai] at e;obtain⟨k,I,U⟩:=Am.mp e;cases U;exact KW.lf<|T.kp p J (zd I) _ I
 |.node b l r,p,J,h=>by obtain⟨i,j,e,C,hr⟩:=h.inv_nd;rw[Ai] at e;obtain⟨k,I,U⟩:=Am.mp e;cases U;obtain⟨g,o⟩:=B.part p J _ _ _ I;have g:i∈qs:=g.resolve_right<|Bh;have o:j∈qs:=o.resolve_right<|Bh;exact KW.nd (T.kp p J (zd I) _ I) (fB B T g C)<|fB B T o hr
structure VT(wd:List<|Yp)(ct:XX):Prop where
 ok:qF wd
 len:wd.length<=241
 there:gj wd
 word:∀x k,wd[x]?=some (some k)->∃w,KW (xz wd) x w/\w.depth<=120
 cut:∀c∈ct,∃w,KW (xz wd) c.1 w/\KW (xz wd) c.2 w.turn/\w.depth<=120
 ctl:ct.length<=60
theorem pX.webI(W:pX wd lk ct):VT wd ct/\lk.length<=60:=by
 obtain⟨U,R,E,a3,a4,J,f,ok,C,tp,hk,I,pl,pc,ho,g,a2,_,a0,_⟩:=W.ex;have okO:qF J:=by
  rcases ho with rfl|⟨qs,B,T⟩
  ·exact i9 ok
  ·exact T.okO ok
 have lo:J.length=U.length:=by
  rcases ho with rfl|⟨qs,B,T⟩
  ·exact Ab ..
  ·exact T.len
 have th:gj J:=by
  rcases ho with rfl|⟨qs,B,T⟩
  ·exact yK ok
  ·exact T.there ok
 have tl:(qy R).length=U.length:=by rw[tp.length_eq,Ci]
 have wg:=C.weight ok;have cl:=ui U<|zh R;have ll:2*(zg R).length<=U.length:=by obtain⟨u,hu⟩:=kq R;have:=hu.length_eq;rw[Ac,xq] at this;lia
 have l1:lk.length=(zg R).length:=by have h1:=a2.length_eq;have h2:=pl.length_eq;rw[Ab] at h1;rw[xq,xq] at h2;lia
 have l2:ct.length=(zh R).length:=by have h1:=a0.length_eq;rw[Ab,pc.length_eq] at h1;exact h1
 refine⟨⟨g.gap.ok,by have:=g.len;lia,g.there th,λx k e=>?_,λc hc=>?_,by lia⟩,by lia⟩
 ·obtain⟨p,hp,rfl,o,eo,ek⟩:=g.inv e;cases o with
  |none=>cases ek
  |some k0=>
   obtain⟨w,hw⟩:=uD okO th (p+1) p k0 (by exact BE _) eo;have:=KW.dep okO hw;exact⟨w,g.word hw,by lia⟩
 ·obtain⟨c0,a1,rfl⟩:=Bj.mp<|a0.mem_iff.mp hc;obtain⟨w,w1,w2⟩:=C.cutw c0<|pc.mem_iff.mp a1;have q1:KW (xz J) c0.1 w/\KW (xz J) c0.2 w.turn:=by
   have e:∀{p w},cw U p w->KW (xz<|U.map some) p w:=λh=>by rw[wB];exact h
   rcases ho with rfl|⟨qs,B,T⟩
   ·exact⟨e w1,e w2⟩
   ·obtain⟨m1,m2⟩:=B.cut c0 a1;exact⟨fB B T (m1.resolve_right Bh)<|e w1,fB B T (m2.resolve_right Bh)<|e w2⟩
  have hp:c0.1<U.length:=by
   have:∀{w:Wd} {p:Nat},KW (xz J) p w->p<J.length:=λ{w p} h=>by cases w with|leaf t n=>exact zd h.inv_lf|node e l r=>obtain⟨i,j,a,_⟩:=h.inv_nd;exact zd a
   rw[<-lo];exact this q1.1
  have:=KW.dep okO q1.1;exact⟨w,g.word q1.1,g.word q1.2,by lia⟩
def nK(I:x5):RD "parts_in" nJ 2 ["knots","parts","knot"] (λV=>Hh V I):=⟨_,λV B c _ _ _ _ _ _ _ J hN U=>(qa (S_ 1 hN<|zc x9)<|qa (vv xT rfl (j9<|qv 0) (G_ 2 hN)<|qc<|qw<|bR (qv 1)<|zx<|C_ c J<|zx<|qv 2)<|qc<|qm<|qv 1)⟩
def lS:RD "_law_copy" kF 0 ["_law_web_here"] (λ_=>True):=⟨_,λV B c _ _ _ _ _ _ _ I hN J=>(qc<|qm<|zf<|ag (vm nX rfl B.bf cU<|zx<|J_ 0) (vm nX rfl B.bf cU<|zx<|J_ 0)<|vm nX rfl B.bf cU<|zx<|J_ 0)⟩
def kc(wd:List<|Yp):X2:=wd.flatMap jg
def y8(wd:List<|Yp)(k:Yp):kc (wd++[k])=kc wd++jg k:=by unfold kc;rw[AO,Bg,Dp,AG]
def pG(k:Yp):(jg k).length<=2:=by cases k with|none=>exact A3 _|some k=>cases k with|lf t n=>exact A3 _|nd e i j=>exact Ak _
def rm(wd:List<|Yp):(kc wd).length<=2*wd.length:=by
 induction wd with
 |nil=>exact Ak _
 |cons k r I=>
  have e:kc (k::r)=jg k++kc r:=Bg ..;have:=pG k;rw[e,Ac,Au];lia
inductive gq(ys:List Y)(L:qi)(Q:YK):Prop
 |mk:∀a,∀wd:List (Yp),(ys=[.ref a])->(L a=some (.lst<|xz wd))->(wd.length<=1000)->(∀p,L p=none->Q (.ref p) (qg L p<|.lst<|nY<|kc wd))->gq ys L Q
def VU:∀ys L Q,gq ys L Q->jf (nK eQ).1 3 ys L Q:=by
 rintro ys L Q ⟨a,J,rfl,l,hz,q⟩;have big:=a_;intro p r;have t:qf L (qg L p<|.lst []):=By r;refine zp (t _ _ l) λkeep kp=>ve ⟨λi U I=>∃j,U=[some<|Y.ref a,some<|Y.ref p,j]/\qf L I/\I p=some (.lst<|nY<|kc<|J.take i),⟨_,rfl,t,q9⟩,?_,?_,?_⟩
 ·rintro i U I ⟨j,rfl,s,_⟩;exact kp I (by rw[s _ _ l,t _ _ l])
 ·rintro i y U I C ⟨j,rfl,s,g⟩;rw[Ai] at C;obtain⟨k,ek,rfl⟩:=Am.mp C;have et:J.take (i+1)=J.take i++[k]:=by rw[AZ,ek];rfl
  have pl:=rm<|J.take i;have pk:=pG k;rw[AJ] at pl;refine qb g ⟨k,rfl,λd hd=>?_⟩;have n1:p≠d:=vt g hd;refine qh ((qd n1).trans g)<|qh q9 ⟨?_,?_⟩
  ·rw[cM,cM];exact Bp<|big _ (by lia)
  ·refine⟨_,EC _,_,rfl,(s.trans<|By hd).upd r,?_⟩;rw[q9,et,y8,dy]
 ·rintro U I ⟨j,rfl,s,g⟩;rw[Ab,AX] at g;refine⟨qg L p<|.lst<|nY<|kc J,λb o e=>?_,q p r⟩;by_cases T:b=p
  ·subst T;rw[q9] at e;rw[<-e];exact g
  ·rw[qd T] at e;exact s _ _ e
inductive nG(ys:List Y)(L:qi)(Q:YK):Prop
 |mk:∀a l c,∀xs zs us:List Y,(ys=[fJ a l c])->(L a=some (.lst xs))->(L l=some (.lst zs))->(L c=some (.lst us))->(∀a' l' c' L',qf L L'->L a'=none->L l'=none->L c'=none->a'≠l'->a'≠c'->l'≠c'->L' a'=some (.lst xs)->L' l'=some (.lst zs)->L' c'=some (.lst us)->Q (fJ a' l' c') L')->nG ys L Q
def VW:∀ys L Q,nG ys L Q->jf lS.1 1 ys L Q:=by rintro ys L Q ⟨a,l,c,xs,zs,us,rfl,ha,hl,hc,q⟩;refine qb ha λj h1=>?_;have p:=By (o:=.lst xs) h1;refine qb (p _ _ hl) λr t=>?_;have C:=p.trans<|By (o:=.lst zs) t;refine qb (C _ _ hc) λT g=>?_;have I:j≠r:=vt q9 t;have J:r≠T:=vt q9 g;have U:j≠T:=vt ((qd I).trans q9) g;exact jw<|q j r T _ (C.trans<|By g) h1 (p.none t) (C.none g) I U J ((qd U).trans<|(qd I).trans q9) ((qd J).trans q9) q9
def mM(ks:Yo)(l:X2):X2:=l.flatMap λp=>jg ks[p]?
def hJ(ks:Yo)(a b:X2):mM ks (a++b)=mM ks a++mM ks b:=by unfold mM;rw[AO]
def bv(ks:Yo)(x:Nat)(l:X2):mM ks (x::l)=jg ks[x]?++mM ks l:=Bg ..
def bT{E:X2}(h:E.Nodup)(hi:i∈E):E.Perm ([i]++E.filter λx=>!decide (x=i)):=by
 refine(Be h ?_).mpr λx=>?_
 ·refine AH.mpr ⟨λz=>?_,h.filter _⟩;have:=(AR.mp z).2;simp at this
 ·rw[An,Av,AR];constructor
  ·intro I;by_cases c:x=i
   ·exact .inl c
   ·exact .inr ⟨I,by simp[c]⟩
  ·rintro(rfl|I)
   ·exact hi
   ·exact I.1
def SR.part{E:X2}(h:SR ks R E):(qy R).Nodup->(mM ks (qy R)++(za (zh R)++E)).Perm (qy R):=by
 induction h with
 |@link p q t n U h1 h2 h3 o C=>
  intro _;have e:mM ks [p,q]=[]:=by rw[bv,bv,h2,h3];rfl
  show(mM ks [p,q]++([]++U)).Perm [p,q];rw[e,BZ,BZ];refine(Be C (by simp;lia)).mpr λx=>?_;rw[o x];simp
 |@ei r i j A g U h1 T h3 o C h6 h7 ih=>
  intro nd;obtain⟨n1,n2⟩:=AH.mp nd;have ih:=ih n2;have l:g.Nodup:=(Az.mp (Az.mp<|ih.nodup_iff.mpr n2).2.1).2.1;have p1:=bT l h3;have p2:(g.filter λx=>!decide (x=i)).Perm _:=bT (l.filter _) (i:=j) (AR.mpr ⟨o,by simp;exact AN C⟩);have p3:U.Perm ([r]++(g.filter λx=>!decide (x=i)).filter λx=>!decide (x=j)):=by
   refine(Be h7<|AH.mpr ⟨λz=>n1<|T.sub _ (AR.mp (AR.mp z).1).1,(l.filter _).filter _⟩).mpr λx=>?_;rw[h6 x,Ap,AR,AR];simp only[DN,decide_eq_false_iff_not];constructor
   ·rintro(⟨a,b,c⟩|rfl)
    ·exact .inr ⟨⟨a,b⟩,c⟩
    ·exact .inl rfl
   ·rintro(rfl|⟨⟨a,b⟩,c⟩)
    ·exact .inr rfl
    ·exact .inl ⟨a,b,c⟩
  show(mM ks (r::qy A)++(za (zh A)++U)).Perm ([r]++qy A);rw[bv,h1];show((([i]++[j])++mM ks (qy A))++(za (zh A)++U)).Perm _;refine CY.mpr λa=>?_;have c1:=p1.count_eq a;have c2:=p2.count_eq a;have c3:=p3.count_eq a;have c4:=ih.count_eq a;simp only[Dj] at c1 c2 c3 c4 ⊢;lia
 |@bo r i j A B g EB U h1 T hB o C h6 h7 I J=>
  intro nd;obtain⟨n1,n2⟩:=AH.mp nd;obtain⟨m1,m2,m3⟩:=Az.mp n2;have I:=I m1;have J:=J m2;have l:g.Nodup:=(Az.mp (Az.mp<|I.nodup_iff.mpr m1).2.1).2.1;have nB:EB.Nodup:=(Az.mp (Az.mp<|J.nodup_iff.mpr m2).2.1).2.1;have p1:=bT l o;have p2:=bT nB C;have p3:U.Perm ([r]++((g.filter λx=>!decide (x=i))++EB.filter λx=>!decide (x=j))):=by
   refine(Be h7<|AH.mpr ⟨λz=>n1 ?_,Az.mpr ⟨l.filter _,nB.filter _,λa ha b hb=>m3 a (T.sub _ (AR.mp ha).1) b<|hB.sub _ (AR.mp hb).1⟩⟩).mpr λx=>?_
   ·rcases An.mp z with z|z
    ·exact Ay _<|T.sub _ (AR.mp z).1
    ·exact Al _<|hB.sub _ (AR.mp z).1
   ·rw[h6 x,Ap,An,AR,AR];simp only[DN,decide_eq_false_iff_not];constructor
    ·rintro(a|a|rfl)
     ·exact .inr<|.inl a
     ·exact .inr<|.inr a
     ·exact .inl rfl
    ·rintro(rfl|a|a)
     ·exact .inr<|.inr rfl
     ·exact .inl a
     ·exact .inr<|.inl a
  show(mM ks (r::(qy A++qy B))++(za (zh A++zh B)++U)).Perm ([r]++(qy A++qy B));rw[bv,h1,hJ,jv];show((([i]++[j])++(mM ks (qy A)++mM ks (qy B)))++((za (zh A)++za (zh B))++U)).Perm _;refine CY.mpr λa=>?_;have c1:=p1.count_eq a;have c2:=p2.count_eq a;have c3:=p3.count_eq a;have c4:=I.count_eq a;have c5:=J.count_eq a;simp only[Dj] at c1 c2 c3 c4 c5 ⊢;lia
 |@cu p q A B g EB U w T hB h3 o C h6 h7 h8 I J=>
  intro n2;obtain⟨m1,m2,m3⟩:=Az.mp<|show(qy A++qy B).Nodup from n2;have I:=I m1;have J:=J m2;have l:g.Nodup:=(Az.mp (Az.mp<|I.nodup_iff.mpr m1).2.1).2.1;have nB:EB.Nodup:=(Az.mp (Az.mp<|J.nodup_iff.mpr m2).2.1).2.1;have p1:=bT l h3;have p2:=bT nB o;have p3:U.Perm ((g.filter λx=>!decide (x=p))++EB.filter λx=>!decide (x=q)):=by refine(Be h8<|Az.mpr ⟨l.filter _,nB.filter _,λa ha b hb=>m3 a (T.sub _ (AR.mp ha).1) b<|hB.sub _ (AR.mp hb).1⟩).mpr λx=>?_;rw[h7 x,An,AR,AR];simp only[DN,decide_eq_false_iff_not]
  show(mM ks (qy A++qy B)++(za ((p,q)::(zh A++zh B))++U)).Perm (qy A++qy B);rw[hJ,ji,jv];show((mM ks (qy A)++mM ks (qy B))++(([p]++[q]++(za (zh A)++za (zh B)))++U)).Perm _;refine CY.mpr λa=>?_;have c1:=p1.count_eq a;have c2:=p2.count_eq a;have c3:=p3.count_eq a;have c4:=I.count_eq a;have c5:=J.count_eq a;simp only[Dj] at c1 c2 c3 c4 c5 ⊢;lia
structure bJ(wd:List<|Yp):Prop where
 ne:∀(p:Nat) (e:Bool) (i j:Nat),wd[p]?=some (some<|.nd e i j)->i≠j
 un:∀(p q:Nat) (k l:Kn) (x:Nat),wd[p]?=some (some k)->wd[q]?=some (some l)->x∈jg (some k)->x∈jg (some l)->p=q
def rg{x:Nat}(h:x∈kc wd):∃(p:Nat) (k:Kn),wd[p]?=some (some k)/\x∈jg (some k):=by
 obtain⟨o,J,I⟩:=Bw.mp h;obtain⟨p,e⟩:=Dt J;cases o with
 |none=>cases I
 |some k=>exact⟨p,k,e,I⟩
theorem bJ.nodup:∀{wd:List<|Yp},bJ wd->(kc wd).Nodup
 |[],_=>BW
 |k::r,U=>by
  have e:kc (k::r)=jg k++kc r:=Bg ..;rw[e];refine Az.mpr ⟨?_,bJ.nodup ⟨λp e i j h=>U.ne (p+1) e i j h,λp q k l x I J o C=>Nat.succ.inj<|U.un (p+1) (q+1) k l x I J o C⟩,λa g b T z=>?_⟩
  ·cases k with
   |none=>exact BW
   |some k=>
    cases k with
    |lf t n=>exact BW
    |nd b i j=>
     have:=U.ne 0 b i j rfl;show [i,j].Nodup;simp[this]
  ·subst z;obtain⟨p,l,I,J⟩:=rg T;cases k with
   |none=>cases g
   |some k=>exact absurd (U.un 0 (p+1) k l a rfl I g J) (Nat.succ_ne_zero p).symm
def VX{l:X2}(h:(mM ks l).Nodup)(all:∀p,p<ks.length->p∈l):bJ (ks.map some):=by
 have at_:∀{p:Nat} {k:Kn},(ks.map some)[p]?=some (some k)->ks[p]?=some k/\p∈l:=λ{p k} e=>by rw[Ai] at e;obtain⟨k',o,r⟩:=Am.mp e;cases r;exact⟨o,all p<|zd o⟩
 clear all;constructor
 ·intro p e i j I;obtain⟨J,U⟩:=at_ I;obtain⟨a,b,rfl⟩:=Ca U;rw[hJ,bv,J] at h;have:=(Az.mp (Az.mp h).2.1).1;have:[i,j].Nodup:=this;simpa using this
 ·intro p q k m x I t C T;obtain⟨J,U⟩:=at_ I;obtain⟨h3,h4⟩:=at_ t;by_cases c:p=q
  ·exact c
  ·exfalso;obtain⟨a,b,rfl⟩:=Ca U;have hm:q∈a++b:=by
    rcases An.mp h4 with z|z
    ·exact Ay _ z
    ·rcases Ap.mp z with z|z
     ·exact absurd z.symm c
     ·exact Al _ z
   have pm:(mM ks<|a++p::b).Perm (jg (some k)++mM ks (a++b)):=by rw[hJ,bv,J,hJ];refine CY.mpr λz=>?_;simp only[Dj];lia
   have n:=pm.nodup_iff.mp h;have g:x∈mM ks (a++b):=Bw.mpr ⟨q,hm,by rw[h3];exact T⟩;exact(Az.mp n).2.2 x C x g rfl
def bJ.recT(U:bJ<|ks.map some)(T:aj ks qs ks.length eA):bJ eA:=by
 have dn:∀{p:Nat} {k:Kn} {x:Nat},eA[p]?=some (some k)->x∈jg (some k)->∃I,(ks.map some)[p]?=some (some I)/\x∈jg (some I):=λ{p k x} h J=>by
  cases k with
  |lf t n=>cases J
  |nd e i j=>
   obtain⟨g,o⟩:=T.inv h;exact⟨.nd g i j,by rw[Ai,o];rfl,J⟩
 constructor
 ·intro p e i j h;obtain⟨g,o⟩:=T.inv h;exact U.ne p g i j (by rw[Ai,o];rfl)
 ·intro p q k l x r C J hy;obtain⟨I,a1,a2⟩:=dn r J;obtain⟨l',b1,b2⟩:=dn C hy;exact U.un p q I l' x a1 b1 a2 b2
def Ren.part{f:X_}(r:Ren f eA wd){x y:Nat}{k:Kn}(h:wd[x]?=some (some k))(I:y∈jg (some k)):∃(p:Nat) (o:Kn) (a:Nat),x=f p/\eA[p]?=some (some o)/\y=f a/\a∈jg (some o):=by
 obtain⟨p,g,e,o,U,J⟩:=r.inv h;cases o with
 |none=>cases J
 |some o=>
  cases o with
  |lf t n=>cases J;cases I
  |nd b i j=>
   cases J;have I:y∈[f i,f j]:=I;rcases Ap.mp I with I|I
   ·exact⟨p,_,i,e,U,I,Ao ..⟩
   ·exact⟨p,_,j,e,U,Av.mp I,Af _<|Ao ..⟩
def oJ(ok:qF eA){p a:Nat}{o:Kn}(h:eA[p]?=some (some o))(I:a∈jg (some o)):a<eA.length:=by
 cases o with
 |lf t n=>cases I
 |nd e i j=>
  have:=ok p e i j h;have:=zd h;have I:a∈[i,j]:=I;rcases Ap.mp I with rfl|I
  ·lia
  ·rw[Av.mp I];lia
theorem Ren.inj{f:X_}(r:Ren f eA wd){a b:Nat}(I:a<eA.length)(J:b<eA.length)(e:f a=f b):a=b:=r.gap.inj a (A2.mpr I) b (A2.mpr J) e
def bJ.ren{f:X_}(U:bJ eA)(ok:qF eA)(r:Ren f eA wd):bJ wd:=by
 constructor
 ·intro x e i j h;obtain⟨p,hp,rfl,o,J,I⟩:=r.inv h;cases o with
  |none=>cases I
  |some o=>
   cases o with
   |lf t n=>cases I
   |nd b a c=>
    cases I;have:=ok p e a c J;exactλz=>U.ne p e a c J<|r.inj (by lia) (by lia) z
 ·intro x y k l z h1 h2 hz hw;obtain⟨p,o,a,rfl,g,rfl,C⟩:=r.part h1 hz;obtain⟨q,o',b,rfl,T,eb,hb⟩:=r.part h2 hw;cases r.inj (oJ ok g C) (oJ ok T hb) eb;rw[U.un p q o o' a g T C hb]
def f_:Yp->Bool
 |some (.lf _ _)=>true
 |_=>false
def SR.leaves{E:X2}(h:SR ks R E):(za<|zg R).Perm ((qy R).filter λp=>f_ ks[p]?):=by
 induction h with
 |@link p q t n g U h2 l o C=>
  show(za [(p,q)]).Perm ([p,q].filter λp=>f_ ks[p]?);rw[aD,Cy,Cy,h2,l];exact Cv _
 |@ei r i j A T g U hA l o C h6 h7 ih=>
  show(za<|zg A).Perm ((r::qy A).filter λp=>f_ ks[p]?);rw[Cy,U];exact ih
 |@bo r i j A B T EB g U hA hB o C h6 h7 I J=>
  show(za<|zg A++zg B).Perm ((r::(qy A++qy B)).filter λp=>f_ ks[p]?);rw[Cy,U,jv];show(za (zg A)++za (zg B)).Perm ((qy A++qy B).filter λp=>f_ ks[p]?);rw[BB];exact I.append J
 |@cu p q A B T EB g w hA hB l o C h6 h7 h8 I J=>
  show(za<|zg A++zg B).Perm ((qy A++qy B).filter λp=>f_ ks[p]?);rw[jv,BB];exact I.append J
theorem Kz(f:X_):∀lk:XY,(za<|lk.map<|mmP f).Perm<|(za lk).map f
 |[]=>Cv _
 |c::r=>by
  have I:=Kz f r;rw[AD,ji,ji,AD,AD];show(min (f c.1) (f c.2)::max (f c.1) (f c.2)::_).Perm _;by_cases h:f c.1<=f c.2
  ·rw[BC h,Cu h];exact(I.cons _).cons _
  ·rw[Cs (by lia),CD (by lia)];exact((I.cons _).cons _).trans (List.Perm.swap _ _ _)
theorem tO(f:X_):∀ct:XY,za (ct.map<|ppP f)=(za ct).map f
 |[]=>rfl
 |c::r=>by rw[AD,ji,ji,AD,AD,tO f r];rfl
theorem jJ{f:X_}:∀{l:X2},l.Nodup->(∀a∈l,∀b∈l,f a=f b->a=b)->(l.map f).Nodup
 |[],_,_=>BW
 |a::r,h,g=>by obtain⟨J,U⟩:=AH.mp h;rw[AD,AH];refine⟨λz=>?_,jJ U λx j y o=>g x (Af _ j) y<|Af _ o⟩;obtain⟨b,I,e⟩:=Bj.mp z;exact J<|g b (Af _ I) a (Ao ..) e▸I
structure VY(wd:List<|Yp)(ct:XX):Prop where
 ok:qF wd
 len:wd.length<=241
 there:gj wd
 word:∀x k,wd[x]?=some (some k)->∃w,KW (xz wd) x w/\w.depth<=120
 cut:∀c∈ct,∃w,KW (xz wd) c.1 w/\KW (xz wd) c.2 w.turn/\w.depth<=120
 ctl:ct.length<=61
structure FD(wd:List<|Yp)(lk ct:XX):Prop where
 web:VY wd ct
 pu:bJ wd
 lkA:∀c∈lk,c.1<c.2/\∃t n,wd[c.1]?=some (some<|.lf t n)/\wd[c.2]?=some (some<|.lf (!t) n)
 lkN:(za lk).Nodup
 lkL:∀p,p∈za lk↔∃t n,wd[p]?=some (some<|.lf t n)
 lkS:lk.Pairwise db
 ctP:∀x∈za ct,x∉kc wd
 ctN:(za ct).Nodup
 ctS:ct.Pairwise db
 ll:lk.length<=60
 nm:∀(p:Nat) (t:Bool) (n:Str),wd[p]?=some (some<|.lf t n)->n.length<=8
def pX.snd(W:pX wd lk ct):FD wd lk ct/\∃(x:Nat) (k:Kn),wd[x]?=some (some k)/\x∉kc wd/\x∉za ct:=by
 obtain⟨WI,ll⟩:=W.webI;obtain⟨U,R,E,a2,ba,J,f,ok,C,tp,hk,I,pl,pc,ho,rn,a3,bb,a4,bc⟩:=W.ex;have nd:(qy R).Nodup:=tp.nodup_iff.mpr Cz;have lt:∀x∈qy R,x<U.length:=λx hx=>A2.mp<|tp.mem_iff.mp hx;have N:=(C.part nd).nodup_iff.mpr nd;obtain⟨N1,N2,N3⟩:=Az.mp N;obtain⟨_,_,N4⟩:=Az.mp N2;have U0:bJ (U.map some):=VX N1 λp hp=>tp.mem_iff.mpr<|A2.mpr hp;have okO:qF J:=by
  rcases ho with rfl|⟨qs,B,T⟩
  ·exact i9 ok
  ·exact T.okO ok
 have lo:J.length=U.length:=by
  rcases ho with rfl|⟨qs,B,T⟩
  ·exact Ab ..
  ·exact T.len
 have U1:bJ J:=by
  rcases ho with rfl|⟨qs,B,T⟩
  ·exact U0
  ·exact U0.recT T
 have a0:∀(p:Nat) (t:Bool) (n:Str),U[p]?=some (.lf t n)->J[p]?=some (some<|.lf t n):=λp t n h=>by
  rcases ho with rfl|⟨qs,B,T⟩
  ·rw[Ai,h];rfl
  ·exact T.lf p t n (zd h) h
 have dn:∀(p:Nat) (k:Kn),J[p]?=some (some k)->∃k',U[p]?=some k'/\jg (some k')=jg (some k)/\(∀t n,k=.lf t n->k'=.lf t n):=λp k h=>by
  have hp:p<U.length:=by have:=zd h;lia
  rcases ho with rfl|⟨qs,B,T⟩
  ·rw[Ai] at h;obtain⟨k',e1,e2⟩:=Am.mp h;cases e2;exact⟨k,e1,rfl,λ_ _ e=>e⟩
  ·cases k with
   |lf t n=>
    cases l:U[p]? with
    |none=>rw[Ag hp] at l;cases l
    |some k'=>
     cases k' with
     |lf t' n'=>
      have:=T.lf p t' n' hp l;rw[h] at this;cases this;exact⟨_,rfl,rfl,λ_ _ e=>e⟩
     |nd e i j=>
      rcases T.nd p e i j hp l with⟨z,_⟩|⟨e',z⟩
      ·rw[h] at z;cases z
      ·rw[h] at z;cases z
   |nd e i j=>
    obtain⟨e',l⟩:=T.inv h;exact⟨_,l,rfl,λ_ _ z=>by cases z⟩
 have up:∀{p:Nat} {o:Yp},J[p]?=some o->wd[f p]?=some (jX f o):=λ{p o} h=>rn.gap.at_ p (A2.mpr<|zd h) _ h;have a5:∀x,x∈kc wd->∃(a p:Nat) (k:Kn),x=f a/\a<U.length/\J[p]?=some (some k)/\a∈jg (some k)/\a∈mM U (qy R):=λx hx=>by obtain⟨y,k,h1,h2⟩:=rg hx;obtain⟨p,o,a,_,h3,e,h4⟩:=rn.part h1 h2;have:=oJ okO h3 h4;obtain⟨k',e1,e2,_⟩:=dn p o h3;exact⟨a,p,o,e,by lia,h3,h4,Bw.mpr ⟨p,tp.mem_iff.mpr<|A2.mpr<|zd e1,by rw[e1,e2];exact h4⟩⟩
 have inj:∀a b,a<U.length->b<U.length->f a=f b->a=b:=λa b ha hb=>rn.inj (by lia) (by lia);have ab:∀x,x∈za ct->∃y,y∈za (zh R)/\x=f y:=λx hx=>by have:=(xp a4).mem_iff.mp hx;rw[tO] at this;obtain⟨y,r,e⟩:=Bj.mp this;exact⟨y,(xp pc).mem_iff.mp r,e.symm⟩
 have a1:∀y∈za (zh R),y<U.length:=λy r=>lt y<|(C.part nd).mem_iff.mp<|Al _<|Ay _ r;have Gs:∀y∈za a2,y<U.length:=λy r=>by have:=C.leaves.mem_iff.mp<|pl.mem_iff.mp r;exact lt y (AR.mp this).1
 have ac:(za lk).Perm ((za a2).map f):=(xp a3).trans<|Kz f a2;have al:∀p t n,wd[p]?=some (some<|.lf t n)->∃y,f y=p/\U[y]?=some (.lf t n):=λp t n h=>by
  obtain⟨y,r,rfl,o,eo,l⟩:=rn.inv h;cases o with
  |none=>cases l
  |some o=>
   cases o with
   |nd b i j=>cases l
   |lf t' n'=>
    cases l;obtain⟨k',e1,_,e3⟩:=dn y _ eo;rw[e3 _ _ rfl] at e1;exact⟨y,rfl,e1⟩
 refine⟨⟨⟨WI.ok,WI.len,WI.there,WI.word,WI.cut,by have:=WI.ctl;lia⟩,U1.ren okO rn,λc hc=>?_,?_,λp=>?_,bb,λx hx z=>?_,?_,bc,ll,λp t n h=>let ⟨y,_,e⟩:=al p t n h;(ok y _ e).2.1⟩,?_⟩
 ·obtain⟨c0,aL,rfl⟩:=Bj.mp<|a3.mem_iff.mp hc;obtain⟨t,n,h1,h2⟩:=I.at_ c0 aL;have l0:=I.lt c0 aL;have w1:=up<|a0 _ _ _ h1;have w2:=up<|a0 _ _ _ h2;have ne:f c0.1≠f c0.2:=λz=>by have:=inj _ _ (zd h1) (zd h2) z;lia
  show min (f c0.1) (f c0.2)<max (f c0.1) (f c0.2)/\∃t n,wd[min (f c0.1)<|f c0.2]?=some (some<|.lf t n)/\wd[max (f c0.1)<|f c0.2]?=some (some<|.lf (!t) n);by_cases h:f c0.1<=f c0.2
  ·rw[BC h,Cu h];exact⟨by lia,t,n,w1,w2⟩
  ·rw[Cs (by lia),CD (by lia)];exact⟨by lia,!t,n,w2,by rw[Bool.not_not];exact w1⟩
 ·exact ac.nodup_iff.mpr<|jJ I.nd λa ha b hb=>inj a b (Gs a ha)<|Gs b hb
 ·rw[ac.mem_iff,Bj];constructor
  ·rintro⟨y,r,rfl⟩;have:=(AR.mp<|C.leaves.mem_iff.mp<|pl.mem_iff.mp r).2;cases e:U[y]? with
   |none=>rw[e] at this;cases this
   |some k=>
    cases k with|lf t n=>exact⟨t,n,up<|a0 y t n e⟩|nd b i j=>rw[e] at this;cases this
  ·rintro⟨t,n,h⟩;obtain⟨y,e,e1⟩:=al p t n h;exact⟨y,pl.mem_iff.mpr (C.leaves.mem_iff.mpr (AR.mpr ⟨tp.mem_iff.mpr<|A2.mpr<|zd e1,by rw[e1];rfl⟩)),e⟩
 ·obtain⟨y,r,rfl⟩:=ab x hx;obtain⟨a,p,k,e,ha,_,_,hr⟩:=a5 _ z;cases inj _ _ (a1 y r) ha e;exact N3 y hr y (Ay _ r) rfl
 ·have e:(za ct).Perm ((za ba).map f):=by rw[<-tO];exact xp a4
  refine e.nodup_iff.mpr<|jJ ((xp pc).nodup_iff.mpr (Az.mp N2).1) λa ha b hb=>inj a b (a1 a<|(xp pc).mem_iff.mp ha)<|a1 b<|(xp pc).mem_iff.mp hb
 ·obtain⟨g,h0⟩:=List.exists_mem_of_length_pos<|C.ends ok;have t0:=C.sub g h0;have l0:=lt g t0;have nr:g∉mM U (qy R):=λz=>N3 g z g (Al _ h0) rfl;have nc:∀y,y∈za (zh R)->y≠g:=λy r z=>N4 y r g h0 z;have free:∀(a:Nat) (k:Kn),J[a]?=some (some k)->(a∉mM U (qy R)\/∀(p:Nat) (k:Kn),J[p]?=some (some k)->a∉jg (some k))->a∉za (zh R)->∃(x:Nat) (k:Kn),wd[x]?=some (some k)/\x∉kc wd/\x∉za ct:=λa k h1 h2 h3=>by
   have la:a<U.length:=by have:=zd h1;lia
   obtain⟨k',bd⟩:∃k',wd[f a]?=some (some k'):=by have:=up h1;cases k<;>exact⟨_,this⟩
   refine⟨f a,k',bd,λz=>?_,λz=>?_⟩
   ·obtain⟨b,p,k,e,hb,g1,g2,g3⟩:=a5 _ z;cases inj _ _ la hb e;exact h2.elim (λh=>h g3) λh=>h p k g1 g2
   ·obtain⟨y,r,e⟩:=ab _ z;cases inj _ _ la (a1 y r) e;exact h3 r
  have e0:J[g]?=some J[g]:=Ag (by lia);cases eo:J[g] with
  |some k=>exact free g k (by rw[e0,eo]) (.inl nr) λz=>nc g z rfl
  |none=>
   rw[eo] at e0;rcases ho with rfl|⟨qs,B,T⟩
   ·rw[Ai] at e0;obtain⟨_,_,z⟩:=Am.mp e0;cases z
   ·cases l:U[g]? with
    |none=>rw[Ag l0] at l;cases l
    |some k=>
     cases k with
     |lf t n=>rw[a0 g t n l] at e0;cases e0
     |nd e i j=>
      have pi:=(vH l).1;have oi:=ok g _ l;have oi:i<g/\j<g:=oi;have ir:i∈mM U (qy R):=Bw.mpr ⟨g,t0,by rw[l];exact Ao ..⟩;obtain⟨ki,hi⟩:∃ki,J[i]?=some (some ki):=by
       cases ei:U[i]? with
       |none=>rw[Ag (by lia)] at ei;cases ei
       |some m=>
        cases m with
        |lf t n=>exact⟨_,a0 i t n ei⟩
        |nd b a c=>
         rcases T.nd i b a c (by lia) ei with⟨_,z⟩|⟨e2,z⟩
         ·exact absurd pi z
         ·exact⟨_,z⟩
      refine free i ki hi (.inr λp k hp hm=>?_) λz=>N3 i ir i (Ay _ z) rfl;obtain⟨k',e1,e2,_⟩:=dn p k hp;have:=U0.un g p _ k' i (by rw[Ai,l];rfl) (by rw[Ai,e1];rfl) (Ao ..) (by rw[e2];exact hm);rw[<-this,e0] at hp;cases hp
end L3
namespace TS
open PySem PyProof.Rows PySem.W
section
variable {w:Yg}
def IntV(v:Yc):Prop:=∃i t,v=.int i t
noncomputable def nmI(x:Keyed):Int:=match x.1 with
 |.int i _=>i
 |_=>0
def al8:Ord prog w A s oneType' (λx=>IntV x.1) nmI:=by
 constructor;rintro x y ⟨i,t,I⟩ ⟨j,u,J⟩ E Q h;have U:nmI x=i:=by unfold nmI;rw[I]
 have g:nmI y=j:=by unfold nmI;rw[J]
 rw[U,g] at h;rw[I,J];exact kat_lt_int h
theorem wO:∀{vs:XZ},(∀v∈vs,IntV v)->∃ns,IntsAre vs ns
 |[],_=>⟨[],.nil⟩
 |v::r,h=>by obtain⟨i,t,rfl⟩:=h v<|Ao ..;obtain⟨ns,k⟩:=wO (vs:=r) λu I=>h u<|Af _ I;exact⟨_,.cons i t k⟩
def VZ(h:∀v∈vs,IntV v)(h2:¬vs.length<2):keyKind' vs.toArray=pure oneType':=by
 obtain⟨I,k⟩:=wO h
 match vs,k,h2 with
 |[],_,h2=>exact absurd (Nat.zero_lt_succ 1) h2
 |[_],_,h2=>exact absurd (BE 1) h2
 |_::_::_,k,_=>exact keyKind_ints k
def w_sortedI{l:Addr}(J:s.heap.IsList l vs.toArray)(hz:vs.length<=127)(I:∀v∈vs,IntV v)
 (h:∀h' tk (xs:Yr) D c,s.heap.objs.size<=D->(∀b o,s.heap.get? b=some o->h'.get? b=some o)->h'.get? D=some (seqObj "list" (List.toArray (xs.map (·.2))) c)->xs.Perm (vs.zip vs)->(xs.Pairwise λx y=>nmI x<=nmI y)->Q (.ref D) {s with heap:=h',toks:=tk}):
 wpAny (model prog w) A (call (.builtin "sorted") [.ref l]) Q E s:=by
 exact rU J hz (λA E g _=>⟨⟨λx y U j=>al8.lt x y (I _ (mem_self_zip U).1)<|I _ (mem_self_zip j).1⟩,λp Q q=>by rw[VZ I p];exact Aj q⟩) h
end
end TS
namespace L2
open PySem PySem.Spec PyProof.Rows
theorem gB:∀{ns:X7} {vs:XZ},zk (ns.map V.int) vs->IntsAre vs ns
 |[],_,.nil=>.nil
 |n::_,_,.cons ⟨t,e⟩ p=>by subst e;exact .cons n t<|gB p
theorem uu:∀{vs:XZ} {ns:X7},IntsAre vs ns->(vs.zip vs).map TS.nmI=ns
 |_,_,.nil=>rfl
 |_,_,.cons n t h=>by rw[DF,AD,uu h];rfl
def vY:∀{vs:XZ} {ns:X7},IntsAre vs ns->∀v∈vs,TS.IntV v:=by
 intro vs ns h
 induction h with
 |nil=>intro v h;cases h
 |cons n t k I=>
  intro v h;rcases Ap.mp h with rfl|h
  ·exact⟨n,t,rfl⟩
  ·exact I v h
theorem wU:∀{xs:List PyProof.Rows.Keyed},(∀x∈xs,TS.IntV x.1/\x.1=x.2)->zk ((xs.map TS.nmI).map V.int) (xs.map (·.2))
 |[],_=>.nil
 |x::r,h=>by obtain⟨⟨i,t,e⟩,I⟩:=h x<|Ao ..;refine .cons ⟨t,?_⟩<|wU λy J=>h y<|Af _ J;show x.2=Value.int (TS.nmI x) t;rw[<-I,e];unfold TS.nmI;rw[e]
def V0(X:Cx):Yj->Hp->VK->Prop:=λxs H Q=>∃(l:Addr) (ns:X7),xs=[.ref l]/\aH X.K H l (ns.map V.int)/\ns.length<=127/\
 ∀(D:Addr) (ms:X7),H D=none->ms.Perm ns->ms.Pairwise (λa b:Int=>a<=b)->Q (.ref D) (upd H D<|.lst<|ms.map V.int)
theorem yj:zq X (.builtin "sorted") (V0 X):=by
 rintro p s σ H xs us Q I r⟨l,t,rfl,hl,J,q⟩;obtain⟨u,rfl,ru⟩:=r.one;cases (show u=Value.ref l from ru);obtain⟨g,C,pl,hz⟩:=I.list hl;have j:=gB C;have l1:t.length=g.length:=by have:=C.length;rw[Ab] at this;exact this
 refine j4 I.tk (TS.w_sortedI pl.isList (by rw[<-l1];exact J) (vY j) λh' tk U D c T hk hg pm pw ht=>?_);have mk:∀x∈U,TS.IntV x.1/\x.1=x.2:=λx hx=>by obtain⟨m1,m2⟩:=TS.mem_self_zip<|pm.mem_iff.mp hx;exact⟨vY j _ m1,m2⟩
 have pn:(U.map TS.nmI).Perm t:=by rw[<-uu j];exact pm.map _
 refine⟨.ref D,_,I.laid (t':=tk) (o:=.lst<|(U.map TS.nmI).map V.int) hk T ⟨?_,U.map (·.2),c,wU mk,hg⟩,rfl,q D _ (I.hok.fresh T) pn<|BN.mpr pw⟩;rw[Ab,pn.length_eq,<-Ab (f:=V.int)];exact hz
def wS(ns:X7):Nat:=(firstMet (λi=>ns.getD i 0) ns.length).length
def V1(X:Cx)(te:TE):TE:=λσ H Q=>te σ H λx H1=>∃(a:Addr) (ns:X7),x=.ref a/\aH X.K H1 a (ns.map V.int)/\ns.length<=4000/\Q (.int (wS ns:Nat)) H1
def V2:bootBuiltins "set"=some (.type "set"):=by decide +kernel
def acl{te:TE}{ps:Pos}(hc:X.calm=true)(l:Gl X "len")(p:X.mg "len"=none)(r:Gl X "set")(C:X.mg "set"=none)(he:PE X e te)(h1:starEach [e] X.env=(false,eval e X.env)::starEach [] X.env:=by rfl):
 PE X (.Call (.Name "len" p1) [.Call (.Name "set" p2) [e] [] ps] [] pos) (V1 X te):=by
 intro J s T H Q I h;refine wpAny_Call_Name_kw<|dD I l p Iw ?_;refine callWith_builtin1 ?_ rfl rfl;show wpAny _ _ (spliced<|(false,eval (.Call (.Name "set" p2) [e] [] ps) X.env)::[]) _ _ s;refine yp ?_;refine wpAny_Call_Name_kw<|dD I r C V2 ?_;refine callWith_type1 ?_ h1 rfl;rw[h1];show wpAny _ _ (spliced<|(false,eval e X.env)::[]) _ _ s;refine yp<|wq (he J s T H _ I h) λu s1 ⟨x,H1,g,r1,q1⟩=>?_;obtain⟨a,ns,rfl,hq,hz,q⟩:=q1;cases (show u=Value.ref a from r1);obtain⟨U,rv,pl,_⟩:=g.list hq;have ia:=gB rv;have l1:ns.length=U.length:=by have:=rv.length;rw[Ab] at this;exact this
 have sb:(4001:Nat)<scanBound:=by decide
 refine DT ?_;refine j4 g.tk (call_set_list (g.ok.hd hc) pl.isList (ns:=ns) (by simpa using ia) (by rw[As];lia) λh' tk hS hk ht=>?_);have sz:U.toArray.size=ns.length:=by rw[As,l1]
 rw[sz] at hS;obtain⟨o,ho,hex,es,ep,t,hd,_,_,j,hf⟩:=hS.objOf;have I2:z0 X J T H1 {s1 with heap:=h',toks:=tk}:=g.kept (λb o e=>hk b o (wh e) e) ht;have le:wS ns<=ns.length:=firstMet_length_le _ _;have j:es.size=wS ns:=j;refine DT (call_len_set (s:={s1 with heap:=h',toks:=tk}) ho hex hd hf (by rw[j];lia) ?_);rw[j];exact⟨.int (wS ns:Nat),H1,I2.kept (λ_ _ e=>e)<|B3 _,⟨_,rfl⟩,q⟩
end L2
namespace L3
open PySem L2
def KA(xs:List Y)(L:qi)(Q:YK):Prop:=match xs with
 |[.ref a]=>cb L a λys=>∃ns:X7,ys=ns.map Y.int/\ns.length<=127/\∀(D:Addr) (ms:X7),L D=none->ms.Perm ns->ms.Pairwise (λa b:Int=>a<=b)->Q (.ref D) (qg L D<|.lst<|ms.map Y.int)
 |_=>False
theorem sG{G:G3}{H:Hp}:∀{ns:X7} {xs:Yj},x8 G H (ns.map Y.int) xs->xs=ns.map V.int
 |[],_,h=>h
 |n::r,_,⟨x,I,e,J,s⟩=>by subst e;cases (show x=V.int n from J);rw[sG s];rfl
theorem KC{G:G3}{H:Hp}:∀ns:X7,x8 G H (ns.map Y.int)<|ns.map V.int
 |[]=>rfl
 |n::r=>⟨_,_,rfl,rfl,KC r⟩
theorem V3 :zq X (.builtin "sorted") (b_ X.g3 KA):=EM yj λC H Q T L Q3 j J z k=>by
 unfold KA at z;split at z
 ·rename_i a;obtain⟨zs,e,l,rfl,I,z⟩:=xb z;obtain⟨vs,o,r⟩:=J a _ e;obtain⟨u,rfl,p⟩:=j.inv1;cases (show u=V.ref a from p);cases sG r;exact⟨a,l,rfl,EV o,I,λD g U pm t=>k _ _ _ _ (EF U) (J.newL U<|KC g) (by rfl)<|z D g (J.none U) pm t⟩
 ·exact z.elim
def V4(ta:jp)(τ:jc)(L:qi)(Q:YK):Prop:=ta τ L λx L1=>match x with
 |.ref a=>cb L1 a λys=>∃ns:X7,ys=ns.map Y.int/\ns.length<=4000/\Q (.int (wS ns:Nat)) L1
 |_=>False
def V5{ps:Pos}(hc:X.calm=true)(J:Gl X "len")(U:X.mg "len"=none)(g:Gl X "set")(j:X.mg "set"=none)(p:QE X e te)(h1:starEach [e] X.env=(false,eval e X.env)::starEach [] X.env:=by rfl):
 QE X (.Call (.Name "len" p1) [.Call (.Name "set" p2) [e] [] ps] [] pos) (V4 te):=EH (acl hc J U g j p h1) λσ H Q t L Q3 C T z k=>
 ⟨t,L,_,C,T,z,λv H1 y L1 t1 I l o=>by
  cases y with
  |ref a=>
   obtain⟨zs,e,ns,rfl,hz,z⟩:=xb o;obtain⟨vs,e2,r⟩:=I a _ e;cases sG r;exact⟨a,ns,l,EV e2,hz,k _ H1 _ L1 t1 I (by rfl) z⟩
  |_=>exact o.elim⟩
def V6{ns:X7}(h:ns.Nodup):wS ns=ns.length:=by
 have key:∀i,i<=ns.length->PyProof.Rows.firstMet (λi=>ns.getD i 0) i=ns.take i:=by
  intro i
  induction i with
  |zero=>intro _;rfl
  |succ i g=>
   intro J;rw[PyProof.Rows.firstMet_succ,g<|Nat.le_of_succ_le J];have e:ns[i]?=some ns[i]:=Ag J;have l:ns.getD i 0=ns[i]:=by rw[Bm,e];rfl
   rw[l,AZ,e,Option.toList_some];unfold PyProof.Rows.step_dedup;rw[AA];intro I;have I:ns[i]∈ns.take i:=by simpa using I
   obtain⟨j,o,U⟩:=BG I;rw[AJ] at o;rw[Bx] at U;have:=(List.getElem_inj h).mp U;lia
 unfold wS;rw[key _<|Ak _,AX]
open PySem L2 Words
def gi(I:x5):RD "holds_leaf" gx 1 ["knot"] (λV=>Ff V I):=⟨_,λV B c _ _ _ _ _ _ _ J hN U=>(qc<|qm<|we (mV<|qv 0)<|aP<|C_ c J<|zx<|qv 0)⟩
def lC:RD "each_once" lU 0 ["places"] (λ_=>True):=⟨_,λV B c _ _ _ _ _ _ _ J hN I=>(qc<|qm<|kj (dH _ _ _ I) (V5 rfl rfl B.ba rfl B.b_set<|qv 0) (L_ B.ba<|qv 0)<|jk _)⟩
def kW(J:x5)(I:x5):RD "parts_fit" mB 2 ["knots","place","parts","fit"] (λV=>Hh V J/\F9 V I):=⟨_,λV B c _ _ _ _ _ _ _ U hN g=>(qa (S_ 2 hN<|C_ c.1 U<|zx<|I_ (qv 0)<|qv 1)<|qa (S_ 3 hN<|zy rR rfl B.b_all jR<|zx<|aV ["part"] (EI (by rfl)) rfl (j9<|qv 2) (fK 4) (λ_ _ _ _=>wm) λ_ _ _ _=>(we (dq qe<|dz zC (qv 4)<|dh iJ<|qv 1)<|aP<|mV<|I_ (qv 0)<|qv 4))<|qc<|qm<|we (qv 3)<|aP<|C_ c.2 U<|zx<|qv 2)⟩
def lQ(I:x5):RD "are_knots" kZ 3 ["knots","fit"] (λV=>Jp V I):=⟨_,λV B c _ _ _ _ _ _ _ J hN U=>(qa (S_ 1 hN<|zy rR rfl B.b_all jR<|zx<|aV ["place"] (EI (by rfl)) rfl (bY rfl B.bg<|zx<|L_ B.ba<|qv 0) (fK 2) (λ_ _ _ _=>wm) λ_ _ _ _=>(C_ c J<|v5 (qv 0)<|qv 2))<|qc<|qm<|we (qv 1)<|aP<|zy R9 rfl B.b_any Sa<|zx<|aV ["knot"] (EI (by rfl)) rfl (j9<|qv 0) (fK 2) (λ_ _ _ _=>wm) λ_ _ _ _=>(mV<|qv 2))⟩
def rQ(J:x5)(I:x5):RD "is_link" rG 122 ["knots","p","q"] (λV=>Hf V J/\Hg V I):=⟨_,λV B c _ _ _ _ _ _ _ U hN g=>(qa (ze (bQ<|wL qe<|jL zC (qv 1)<|jL iJ (qv 2)<|rB iJ<|L_ B.ba<|qv 0) (qc<|qm fW) qt)<|qc<|qm<|we (C_ c.2 U<|zx<|I_ (qv 0)<|qv 1)<|aP<|kj (dH _ _ _ g) (I_ (qv 0)<|qv 2) (C_ c.1 U<|zx<|I_ (qv 0)<|qv 1)<|jk _)⟩
def kJ(U:x5)(I:x5)(J:x5):RD "are_links" lI 123 ["knots","links","fit","leaves"] (λV=>Jr V U/\Hg V I/\Hj V J):=⟨_,λV B c _ _ _ _ _ _ _ g hN j=>(qa (S_ 2 hN<|zy rR rfl B.b_all jR<|zx<|aV ["p","q" ] (EI (by rfl)) rfl (j9<|qv 1) (Gb 4) (λ_ _ _ _=>wm) λ_ _ _ _=>(C_ c.1 g<|ag (qv 0) (qv 4)<|qv 5))<|qa (a7 ["place","knot" ] (i:=3) hN rfl (Or.inl rfl) (EI (by rfl)) rfl (bK rfl B.be<|qv 0) (Gb 4) (λ_ _ _ _=>cV<|xh<|C_ c.2.1 g<|zx<|qv 5) λ_ _ _ _=>(qv 4))<|qc<|qm<|we (qv 2)<|we (kj (dH _ _ _ j) (zy V3 rfl B.bb ww<|zx<|C_ c.2.2 g<|zx<|qv 1) (qv 3)<|jk _)<|aP<|kj (dH _ _ _ j) (qv 1) (zy dC rfl B.bb ww<|zx<|qv 1)<|jk _)⟩
def gp(I:x5):RD "can_be_cut" iX 3 ["knots","place"] (λV=>Hi V I):=⟨_,λV B c _ _ _ _ _ _ _ J hN U=>(qc<|qm<|we (dq qe<|dz zC (qv 1)<|dh iJ<|L_ B.ba<|qv 0)<|we (mV<|I_ (qv 0)<|qv 1)<|aP<|kj (oZ _ _ _) (qv 1) (C_ c J<|zx<|qv 0) (by with_unfolding_all rfl))⟩
def vT(I:x5)(J:x5)(U:x5):RD "is_cut" wH 122 ["knots","p","q"] (λV=>Jt V I/\Jo V J/\Hf V U):=⟨_,λV B c _ _ _ _ _ _ _ g hN j=>(qa (ze (bQ<|vn<|wc (xh<|C_ c.1 g<|v5 (qv 0)<|qv 1)<|va<|xh<|C_ c.1 g<|v5 (qv 0)<|qv 2) (qc<|qm fW) qt)<|qc<|qm<|kj (dH _ _ _ j) (C_ c.2.1 g<|v5 (qv 0)<|qv 2) (C_ c.2.2 g<|zx<|C_ c.2.1 g<|v5 (qv 0)<|qv 1)<|jk _)⟩
def oK(U:x5)(I:x5)(J:x5):RD "are_cuts" oI 123 ["knots","cuts","fit"] (λV=>Ju V U/\F9 V I/\Hj V J):=⟨_,λV B c _ _ _ _ _ _ _ g hN j=>(qa (S_ 2 hN<|zy rR rfl B.b_all jR<|zx<|aV ["p","q" ] (EI (by rfl)) rfl (j9<|qv 1) (Gb 3) (λ_ _ _ _=>wm) λ_ _ _ _=>(C_ c.1 g<|ag (qv 0) (qv 3)<|qv 4))<|qc<|qm<|we (qv 2)<|we (C_ c.2.1 g<|zx<|C_ c.2.2 g<|zx<|qv 1)<|aP<|kj (dH _ _ _ j) (qv 1) (zy dC rfl B.bb ww<|zx<|qv 1)<|jk _)⟩
def wM:RD "demand" xD 0 ["holds","words"] (λ_=>True):=⟨_,λV B c _ _ _ _ _ _ _ I hN J=>(qc<|ze (bQ<|xh<|qv 0) (qc av) qt)⟩
def fc(l:x5)(I:x5)(J:x5)(g:x5)(U:x5)(j:x5):RD "checked_web" fb 124 ["web","knots"] (λV=>Jw V l/\Jq V I/\F9 V J/\Hi V g/\Js V U/\Jv V j):=⟨_,λV B c _ _ _ _ _ _ _ o hN p=>(qa (S_ 1 hN<|J_ 0)<|qa (qw<|C_ c.1 o<|v5 (C_ c.2.1 o<|zx<|qv 1) qo)<|qa (qw<|C_ c.1 o<|v5 (C_ c.2.2.1 o<|zx<|C_ c.2.2.2.1 o<|zx<|qv 1) qo)<|qa (qw<|C_ c.1 o<|v5 (C_ c.2.2.2.2.1 o<|v5 (qv 1)<|J_ 0) qo)<|qa (qw<|C_ c.1 o<|v5 (C_ c.2.2.2.2.2 o<|v5 (qv 1)<|J_ 0) qo)<|qc<|qm fW)⟩
def sH(l:X2):nY l=(l.map λn:Nat=>(n:Int)).map Y.int:=by unfold nY;rw[BH];rfl
def xM{l:X2}(h:l.Nodup):(l.map λn:Nat=>(n:Int)).Nodup:=bX (λ_ _ _ _ e=>Co.mp e) h
inductive fH(ys:List Y)(L:qi)(Q:YK):Prop
 |mk:∀a,∀l:X2,(ys=[.ref a])->(L a=some (.lst<|nY l))->(l.length<=1000)->(l.Nodup)->(Q (.bl true) L)->fH ys L Q
def V7:∀ys L Q,fH ys L Q->jf lC.1 1 ys L Q:=by rintro ys L Q ⟨a,l,rfl,I,U,J,q⟩;refine qh I ⟨_,sH l,by rw[Ab];lia,qb I ?_⟩;show bM Q (.bl<|nb false<|decide<|((wS (l.map λn:Nat=>(n:Int)):Nat):Int)=((nY l).length:Int)) L;rw[V6<|xM J,Ab,cM,Ax rfl];exact jw q
inductive dw(ys:List Y)(L:qi)(Q:YK):Prop
 |mk:∀k:Yp,(ys=[fP k])->(Q (.bl<|f_ k) L)->dw ys L Q
def V8:∀ys L Q,dw ys L Q->jf (gi kw).1 1 ys L Q:=by
 rintro ys L Q ⟨k,rfl,q⟩;cases k with
 |none=>exact jw q
 |some k=>
  cases k with|lf t n=>exact⟨true,t,_,rfl,jw q⟩|nd e i j=>exact⟨false,e,_,rfl,jw q⟩
def i5(n:Nat):(List.replicate n true).all id=true:=by induction n with|zero=>rfl|succ n I=>rw[List.replicate_succ];exact I
def tj(n:Nat):(List.replicate n true).map Y.bl++[.bl true]=(List.replicate (n+1) true).map Y.bl:=by rw[CM,Aw];rfl
structure KnS(wd:List<|Yp):Prop where
 ok:qF wd
 there:gj wd
 pu:bJ wd
def KnS.at_(S:KnS wd){p:Nat}{k:Yp}(h:wd[p]?=some k)(I:m∈jg k):m<p/\∃J,wd[m]?=some (some J):=by
 cases k with
 |none=>cases I
 |some k=>
  cases k with
  |lf t n=>cases I
  |nd e i j=>
   obtain⟨a,b⟩:=S.ok p e i j h;obtain⟨c,d⟩:=S.there p e i j h;have I:m∈[i,j]:=I;rcases Ap.mp I with rfl|I
   ·exact⟨a,c⟩
   ·rw[Av.mp I];exact⟨b,d⟩
theorem KnS.nd(S:KnS wd){p:Nat}{k:Yp}(h:wd[p]?=some k):(jg k).Nodup:=by
 cases k with
 |none=>exact BW
 |some k=>
  cases k with
  |lf t n=>exact BW
  |nd e i j=>
   have:=S.pu.ne p e i j h;show [i,j].Nodup;simp[this]
inductive nE(ys:List Y)(L:qi)(Q:YK):Prop
 |mk:∀a,∀wd:List (Yp),∀p:Nat,∀pi:Int,(ys=[.ref a,.int pi])->(pi=(p:Int))->(L a=some (.lst<|xz wd))->(p<wd.length)->(KnS wd)->(Q (.bl true) L)->nE ys L Q
def V9:∀ys L Q,nE ys L Q->jf (kW eQ fH).1 4 ys L Q:=by
 rintro ys L Q ⟨a,U,p,pi,rfl,rfl,l,C,S,q⟩;have J:U[p]?=some U[p]:=Ag C;generalize U[p]=k at J;refine qb l<|qj (xm J) ⟨k,rfl,λg T=>?_⟩;have r:=By (o:=.lst<|nY<|jg k) T;have pl:=fD k;refine zp q9 λkeep kp=>wf (λi I=>I=(List.replicate i true).map Y.bl) (by rw[cM];exact AW pl (by decide)) (kp _ rfl) rfl ?_ ?_
 ·rintro i y I hy rfl;obtain⟨m,em,rfl⟩:=Kf hy;obtain⟨j,k',h3⟩:=S.at_ J<|AB em;refine vg (Ax<|Ej.mpr j)<|qb (r _ _ l)<|qj (xm h3) ?_;have z:iP (λI L'=>L'=qg L g (.lst<|nY<|jg k)/\I=(List.replicate (i+1) true).map Y.bl) ((List.replicate i true).map Y.bl++[.bl true]) (qg L g<|.lst<|nY<|jg k):=⟨_,EC _,rfl,tj i⟩;cases k'<;>exact z
 rintro I rfl p2 j;have t:=By (o:=.lst<|(List.replicate (nY<|jg k).length true).map Y.bl) j;refine⟨rfl,qb q9<|qj (bA _) ?_⟩;rw[i5];exact⟨g,jg k,rfl,t _ _ q9,by lia,S.nd J,bC (r.trans t) q⟩
inductive fE(ys:List Y)(L:qi)(Q:YK):Prop
 |mk:∀a,∀wd:List (Yp),(ys=[.ref a])->(L a=some (.lst<|xz wd))->(wd.length<=1000)->(KnS wd)->((∃(x:Nat) (k:Kn),wd[x]?=some (some k)))->(Q (.bl true) L)->fE ys L Q
def V':∀ys L Q,fE ys L Q->jf (lQ nE).1 2 ys L Q:=by
 rintro ys L Q ⟨a,I,rfl,U,hz,S,⟨x,kx,ex⟩,q⟩;have big:=a_;refine qb U ⟨⟨A6 _,by rw[wr];lia⟩,?_⟩;rw[wr,Cg];refine yu (λi J=>J=(List.replicate i true).map Y.bl) (big _ (by lia)) rfl ?_ ?_
 ·rintro i J p rfl;exact⟨a,I,i,_,rfl,Int.zero_add _,U,p,S,_,EC _,rfl,tj i⟩
 rintro J rfl g r;have j:=By (o:=.lst<|(List.replicate I.length true).map Y.bl) r;refine⟨rfl,qb q9<|qj (bA _) ?_⟩;rw[i5];refine zp (j _ _ U) λkeep t=>wf (λi J=>J=((I.take i).map fv).map Y.bl) (by rw[wr];exact big _ (by lia)) (t _ rfl) rfl ?_ ?_
 ·rintro i y J l rfl;rw[Ai] at l;obtain⟨k,C,rfl⟩:=Am.mp l;have z:iP (λJ T=>T=qg L g (.lst<|(List.replicate I.length true).map Y.bl)/\J=((I.take<|i+1).map fv).map Y.bl) (((I.take i).map fv).map Y.bl++[.bl<|fv k]) (qg L g<|.lst<|(List.replicate I.length true).map Y.bl):=⟨_,EC _,rfl,by rw[AZ,C,Aw,Aw];rfl⟩;cases k with
  |none=>exact z
  |some k=>cases k<;>exact z
 rintro J rfl p2 h2;rw[wr,AX];have s2:=By (o:=.lst<|(I.map fv).map Y.bl) h2;refine⟨rfl,qb q9<|qj (bA _) ?_⟩;have e:(I.map fv).any id=true:=List.any_eq_true.mpr ⟨true,Bj.mpr ⟨_,AB ex,rfl⟩,rfl⟩;show bM Q (.bl<|(I.map fv).any id) _;rw[e];exact bC (j.trans s2) q
inductive eV(ys:List Y)(L:qi)(Q:YK):Prop
 |mk:∀a,∀wd:List (Yp),∀p r:Nat,∀t:Bool,∀n:Str,(ys=[.ref a,.int (p:Int),.int (r:Int)])->(L a=some (.lst<|xz wd))->(p<r)->(wd[p]?=some (some<|.lf t n))->(wd[r]?=some (some<|.lf (!t) n))->(Q (.bl true) L)->eV ys L Q
def Wa:∀ys L Q,eV ys L Q->jf (rQ (aM 120) dw).1 3 ys L Q:=by rintro ys L Q ⟨a,j,p,r,t,n,rfl,I,J,U,g,q⟩;have l:=zd g;refine vg (Ax<|Ej.mpr J)<|qb I ?_;refine jz (by show(!decide ((r:Int)<((xz j).length:Int)))=false;rw[wr,Ax<|Ej.mpr l];rfl) ?_;refine qb I<|qj (xm U) ⟨some<|.lf t n,rfl,?_⟩;refine qb I<|qj (xm g)<|qb I<|qj (xm U) ⟨.leaf t n,rfl,(show 1<=120 by decide),?_⟩;refine oO (u:=.leaf (!t) n) (v:=.leaf (!t) n) (show 1<=128 by decide) ?_;show bM Q (.bl<|Da.eq _ _) L;rw[hX];exact jw q
theorem jK{L:qi}:∀xs:X7,Paired (jd L 0) (xs.map Y.int)<|xs.map λx=>Da.s<|.int x
 |[]=>.nil
 |_::r=>.cons ⟨rfl,rfl⟩<|jK r
def Wb(l:X2):Da.eqs ((l.map λn:Nat=>(n:Int)).map λx=>Da.s<|.int x) ((l.map λn:Nat=>(n:Int)).map λx=>Da.s<|.int x)=true:=by rw[BH];exact(m6 l l).mpr rfl
theorem KE:∀l:XY,Da.eqs (l.map gt) (l.map gt)=true
 |[]=>rfl
 |x::r=>by rw[AD,Da.eqs,mW,KE r,Ax rfl];rfl
def Wc(f:Yp->Bool)(wd:List<|Yp)(n:Nat):(uj f wd n).Pairwise λa b=>a<b:=by unfold uj;exact List.Pairwise.filter _ List.pairwise_lt_range
def We(hN:(za lk).Nodup)(J:∀p,p∈za lk↔∃t n,wd[p]?=some (some<|.lf t n)){ms:X7}(pm:ms.Perm ((za lk).map λn:Nat=>(n:Int)))(U:ms.Pairwise λa b:Int=>a<=b):ms=(uj f_ wd wd.length).map λn:Nat=>(n:Int):=by
 have g:(uj f_ wd wd.length).Nodup:=by unfold uj;exact Cz.filter _
 have l:(za lk).Perm (uj f_ wd wd.length):=(Be hN g).mpr λx=>by
  rw[J x];constructor
  ·rintro⟨t,n,e⟩;exact VD e rfl<|zd e
  ·intro h;obtain⟨_,k,e,I⟩:=UG h;cases k with
   |none=>cases I
   |some k=>
    cases k with|lf t n=>exact⟨t,n,e⟩|nd b i j=>cases I
 refine DU (le:=λa b:Int=>a<=b) (λa b _ _ o r=>Int.le_antisymm o r) U ?_<|pm.trans<|l.map _;exact BN.mpr<|(Wc f_ wd wd.length).imp λh=>Int.ofNat_le.mpr<|Bp h
def wQ(I:lk.Pairwise db){qs:List<|Int×Int}(pm:qs.Perm<|lk.map kY)(J:qs.Pairwise oB):qs=lk.map kY:=by
 refine DU (le:=oB) (λa b _ _ U g=>?_) J ?_ pm
 ·unfold oB at U g;exact Et (by lia) (by lia)
 ·refine BN.mpr<|I.imp λ{a b} h=>?_;unfold db at h;show(a.1:Int)<(b.1:Int)\/((a.1:Int)=(b.1:Int)/\(a.2:Int)<=(b.2:Int));lia
def ln{l:Addr}{Q:YK}(I:L l=some (.lst<|z9 lk))(J:lk.Pairwise db)(hN:lk.Nodup)(hz:lk.length<=127)(U:∀c∈lk,c.2<1000000)(q:∀L',qf L L'->Q (.bl true) L'):dk [.ref l] L λy L'=>l_ false (.ref l) y L' Q:=by
 refine qh I ⟨lk.map kY,gm lk,λp g=>?_,bX (λx _ y _ e=>rE e) hN,by rw[Ab];lia,λD C j pm r=>?_⟩
 ·obtain⟨c,t,rfl⟩:=Bj.mp g;have:=U c t;show(0:Int)<=(c.2:Int)/\(c.2:Int)<1000000;lia
 ·rw[wQ J pm r,<-gm];have s:=By (o:=.lst<|z9 lk) j;refine aY (n:=1) (m:=1) (by decide) (s _ _ I) q9 (iC lk) (iC lk) ?_;show Q (.bl<|Da.eqs _ _) _;rw[KE];exact q _ s
inductive e9(ys:List Y)(L:qi)(Q:YK):Prop
 |mk:∀a l,∀wd:List (Yp),∀lk ct:XY,(ys=[.ref a,.ref l])->(L a=some (.lst<|xz wd))->(L l=some (.lst<|z9 lk))->(FD wd lk ct)->(Q (.bl true) L)->e9 ys L Q
def Wf:∀ys L Q,e9 ys L Q->jf (kJ eV dw gg).1 4 ys L Q:=by
 rintro ys L Q ⟨a,l,I,lk,ct,rfl,T,p,S,q⟩;have big:=a_;have z1:=S.web.len;have z2:=S.ll;have pl:=xq lk;refine zp p λkeep r=>wf (λi g=>g=(List.replicate i true).map Y.bl) (by rw[Ab];exact big _ (by lia)) (r _ rfl) rfl ?_ ?_
 ·rintro i y g hy rfl;rw[Ai] at hy;obtain⟨c,ec,rfl⟩:=Am.mp hy;obtain⟨lt,t,n,J,U⟩:=S.lkA c<|AB ec;exact⟨a,I,c.1,c.2,t,n,rfl,T,lt,J,U,_,EC _,rfl,tj i⟩
 rintro g rfl p1 J;have s1:=By (o:=.lst<|(List.replicate (z9 lk).length true).map Y.bl) J;refine⟨rfl,qb q9<|qj (bA _) ?_⟩;rw[i5];refine zp (s1 _ _ T) λkeep r=>UI (f:=f_) (by lia) (r _ rfl) (λi k R g ek J U=>⟨k,rfl,VB J U⟩) λp2 U=>?_;refine fN U λL2 j g2=>?_;have j:=s1.trans j;refine⟨l,lk,rfl,j _ _ p,by lia,λp3 h3=>?_⟩;have s3:=j.trans<|By (o:=.lst<|nY<|za lk) h3;refine qh q9 ⟨_,sH<|za lk,by rw[Ab];lia,λD ms hD pm pw=>?_⟩;rw[We S.lkN S.lkL pm pw];have C:=By (o:=.lst<|((uj f_ I I.length).map λn:Nat=>(n:Int)).map Y.int) hD;have g4:=C _ _<|By (o:=.lst<|nY<|za lk) h3 _ _ g2;rw[sH<|uj f_ I I.length] at g4;refine⟨rfl,rfl,1,1,_,_,by decide,w4 q9<|jK _,w4 g4<|jK _,?_⟩;refine vg (Wb _) ?_;exact ln ((s3.trans C) _ _ p) S.lkS (vk S.lkN) (by lia) (λc hc=>by obtain⟨_,t,n,_,e⟩:=S.lkA c hc;have:=zd e;lia) λL' s5=>bC ((s3.trans C).trans s5) q
inductive t7(ys:List Y)(L:qi)(Q:YK):Prop
 |mk:∀a,∀wd:List (Yp),∀p:Nat,∀k:Kn,(ys=[.ref a,.int (p:Int)])->(L a=some (.lst<|xz wd))->(wd.length<=1000)->(wd[p]?=some (some k))->(p∉kc wd)->(Q (.bl true) L)->t7 ys L Q
def Wg:∀ys L Q,t7 ys L Q->jf (gp gq).1 2 ys L Q:=by
 rintro ys L Q ⟨a,J,p,k,rfl,U,l,j,o,q⟩;refine qb U (vg (by show decide ((p:Int)<((xz J).length:Int))=true;rw[wr];exact Ax<|Ej.mpr<|zd j) ?_);refine qb U<|qj (xm j) ?_;have key:∀I,L I=none->bM Q (.bl<|nb true<|xG (fS<|.int (p:Int))<|(nY<|kc J).map fS) (qg L I<|.lst<|nY<|kc J):=λI g=>by rw[uN,Ar o];exact bC (By g) q
 cases k<;>exact⟨a,J,rfl,U,l,λI g=>qb q9 ⟨rfl,tJ _,key I g⟩⟩
def KW.ex{p:Nat}{w:Wd}(h:KW (xz wd) p w):∃k,wd[p]?=some (some k):=by cases w with|leaf t n=>exact⟨_,h.inv_lf⟩|node e l r=>obtain⟨i,j,a,_⟩:=h.inv_nd;exact⟨_,a⟩
inductive iH(ys:List Y)(L:qi)(Q:YK):Prop
 |mk:∀a,∀wd:List (Yp),∀p r:Nat,∀w:Wd,(ys=[.ref a,.int (p:Int),.int (r:Int)])->(L a=some (.lst<|xz wd))->(wd.length<=1000)->(KW (xz wd) p w)->(KW (xz wd) r w.turn)->(w.depth<=120)->(p∉kc wd)->(r∉kc wd)->(Q (.bl true) L)->iH ys L Q
def Wh:∀ys L Q,iH ys L Q->jf (vT t7 (xg 120)<|aM 120).1 3 ys L Q:=by rintro ys L Q ⟨a,I,p,r,w,rfl,J,U,g,j,hd,l,o,q⟩;obtain⟨t,C⟩:=g.ex;obtain⟨T,e2⟩:=j.ex;have dt:w.turn.depth=w.depth:=cQ w;refine⟨a,I,p,t,rfl,J,U,C,l,?_⟩;refine⟨a,I,r,T,rfl,J,U,e2,o,?_⟩;refine⟨a,xz I,r,w.turn,rfl,J,j,by lia,?_⟩;refine⟨a,xz I,p,w,rfl,J,g,hd,⟨w,rfl,hd,?_⟩⟩;refine oO (u:=w.turn) (v:=w.turn) (by lia) ?_;show bM Q (.bl<|Da.eq _ _) L;rw[hX];exact jw q
inductive iV(ys:List Y)(L:qi)(Q:YK):Prop
 |mk:∀a c,∀wd:List (Yp),∀lk ct:XY,(ys=[.ref a,.ref c])->(L a=some (.lst<|xz wd))->(L c=some (.lst<|z9 ct))->(FD wd lk ct)->(Q (.bl true) L)->iV ys L Q
def Wi:∀ys L Q,iV ys L Q->jf (oK iH fH gg).1 3 ys L Q:=by
 rintro ys L Q ⟨a,c,C,lk,I,rfl,T,J,S,q⟩;have big:=a_;have z1:=S.web.len;have z2:=S.web.ctl;have pl:=xq I;refine zp J λkeep kp=>wf (λi U=>U=(List.replicate i true).map Y.bl) (by rw[Ab];exact big _ (by lia)) (kp _ rfl) rfl ?_ ?_
 ·rintro i y U p rfl;rw[Ai] at p;obtain⟨x,ex,rfl⟩:=Am.mp p;have r:=AB ex;obtain⟨w,g,j,hd⟩:=S.web.cut x r;obtain⟨m1,m2⟩:=bU r;exact⟨a,C,x.1,x.2,w,rfl,T,by lia,g,j,hd,S.ctP _ m1,S.ctP _ m2,_,EC _,rfl,tj i⟩
 rintro U rfl p1 g;have l:=By (o:=.lst<|(List.replicate (z9 I).length true).map Y.bl) g;refine⟨rfl,qb q9<|qj (bA _) ?_⟩;rw[i5];generalize qg L p1 (.lst<|(List.replicate (z9 I).length true).map Y.bl)=L1 at l ⊢;refine⟨c,I,rfl,l _ _ J,by lia,λp3 h3=>?_⟩;have t:=l.trans<|By (o:=.lst<|nY<|za I) h3;refine⟨p3,za I,rfl,q9,by lia,S.ctN,?_⟩;refine ln (t _ _ J) S.ctS (vk S.ctN) (by lia) (λx hx=>?_) λL' s5=>bC (t.trans s5) q;obtain⟨w,_,j,_⟩:=S.web.cut x hx;obtain⟨k,e⟩:=j.ex;have:=zd e;lia
inductive eU(ys:List Y)(L:qi)(Q:YK):Prop
 |mk:∀s:Str,(ys=[.bl true,.str s])->(Q .non L)->eU ys L Q
def Wj:∀ys L Q,eU ys L Q->jf wM.1 2 ys L Q:=by rintro ys L Q ⟨s,rfl,q⟩;exact jw q
inductive mR(ys:List Y)(L:qi)(Q:YK):Prop
 |mk:∀a l c,∀wd:List (Yp),∀lk ct:XY,(ys=[fJ a l c])->(L a=some (.lst<|xz wd))->(L l=some (.lst<|z9 lk))->(L c=some (.lst<|z9 ct))->(FD wd lk ct)->((∃(x:Nat) (k:Kn),wd[x]?=some (some k)))->(Q (.bl true) L)->mR ys L Q
def Wk:∀ys L Q,mR ys L Q->jf (fc eU fE fH gq e9 iV).1 2 ys L Q:=by rintro ys L Q ⟨a,l,c,I,lk,g,rfl,U,j,p,S,ex,q⟩;have C:=S.web.len;have T:=rm I;refine⟨a,I,rfl,U,by lia,⟨S.web.ok,S.web.there,S.pu⟩,ex,⟨_,rfl,?_⟩⟩;refine⟨a,I,rfl,U,by lia,λr t=>?_⟩;have J:=By (o:=.lst<|nY<|kc I) t;refine⟨r,kc I,rfl,q9,by lia,S.pu.nodup,⟨_,rfl,?_⟩⟩;refine⟨a,l,I,lk,g,rfl,J _ _ U,J _ _ j,S,⟨_,rfl,?_⟩⟩;exact⟨a,c,I,lk,g,rfl,J _ _ U,J _ _ p,S,⟨_,rfl,bC J q⟩⟩
def oY{n:Nat}{xs:List Y}(h:∀x∈xs,dO L n x x):Paired (dO L n) xs xs:=by induction xs with|nil=>exact .nil|cons x r I=>exact .cons (h x<|Ao ..)<|I λy J=>h y<|Af _ J
def uZ{n:Nat}(l:XX):Paired (dO L<|n+2) (z9 l) (z9 l):=oY λx I=>by obtain⟨m,_,rfl⟩:=Bj.mp I;exact .inr<|.inl ⟨_,_,rfl,rfl,.cons (.flat rfl)<|.cons (.flat rfl) .nil⟩
def Wl{n:Nat}(l:List<|Yp):Paired (dO L<|n+2) (xz l) (xz l):=oY λx I=>by
 obtain⟨m,_,rfl⟩:=Bj.mp I;cases m with
 |none=>exact .flat rfl
 |some k=>
  cases k with|lf t n=>exact .inr (.inl ⟨_,_,rfl,rfl,.cons (.flat rfl)<|.cons (.flat rfl) .nil⟩)|nd e i j=>exact .inr<|.inl ⟨_,_,rfl,rfl,.cons (.flat rfl)<|.cons (.flat rfl)<|.cons (.flat rfl) .nil⟩
def gF{n:Nat}{a b:Addr}{xs:List Y}(I:L a=some (.lst xs))(J:L b=some (.lst xs))(p:Paired (dO L n) xs xs):dO L (n+1) (.ref a) (.ref b):=.inr<|.inr ⟨a,b,xs,xs,rfl,rfl,I,J,p⟩
open PySem L2 PyProof.Rows
end L3
namespace L2
open PySem PySem.Spec PyProof.Rows
end L2
namespace L2
open PySem PySem.Spec PyProof.Rows
def Wm :zq X (.type "str") (λxs H Q=>∃n:Int,xs=[.int n]/\n.natAbs.log2<1920/\Q (.str<|toString n) H):=by rintro J s j H xs l Q I r⟨n,rfl,U,q⟩;obtain⟨u,rfl,g⟩:=lG r;obtain⟨t,rfl⟩:=g;exact PySem.P.str_of_int U ⟨.str _,H,I.tok _,⟨_,rfl⟩,q⟩
def Wn :zq X (.type "int") (λxs H Q=>∃(x:Str) (n:Int),xs=[.str x]/\PySem.intText? x=some n/\x.length<=640/\Q (.int n) H):=by rintro J s l H xs o Q I r⟨x,n,rfl,U,g,q⟩;obtain⟨u,rfl,j⟩:=lG r;obtain⟨t,rfl⟩:=j;exact PySem.W.KIN.call_text U g ⟨.int n,H,I.tok _,⟨_,rfl⟩,q⟩
end L2
namespace L3
open PySem L2
def Gk(xs:List Y)(L:qi)(Q:YK):Prop:=match xs with
 |[.int n]=>n.natAbs.log2<1920/\Q (.str<|toString n) L
 |_=>False
theorem fz :zq X (.type "str") (b_ X.g3 Gk):=EM Wm λg H Q j L l I J z k=>by
 unfold Gk at z;split at z
 ·rename_i n;obtain⟨u,rfl,U⟩:=I.inv1;cases (show u=V.int n from U);exact⟨n,rfl,z.1,k _ H _ L (ED _) J (by rfl) z.2⟩
 ·exact z.elim
def KG(xs:List Y)(L:qi)(Q:YK):Prop:=match xs with
 |[.str x]=>∃n,PySem.intText? x=some n/\x.length<=640/\Q (.int n) L
 |_=>False
theorem Wo :zq X (.type "int") (b_ X.g3 KG):=EM Wn λl H Q o L p I J z k=>by
 unfold KG at z;split at z
 ·rename_i x;obtain⟨u,rfl,U⟩:=I.inv1;cases (show u=V.str x from U);obtain⟨n,g,j,z⟩:=z;exact⟨x,n,rfl,g,j,k _ H _ L (ED _) J (by rfl) z⟩
 ·exact z.elim
end L3
namespace L2
open PySem PySem.W
section
variable {K:Ah}(T:K.lookup Pt=some (PySem.W.tabObj #[]))
include T
end
section
variable {K:Ah}(T:K.lookup Pt=some (PySem.W.tabObj #[]))
include T
end
end L2
namespace L3
open PySem L2
open PySem L2 Words
def rX(l:X2):(jo l).cps.toList=l:=by show l.toArray.toList=l;simp
def dE(l:X2):(jo l).length=l.length:=by rw[<-Txs.len_list,rX]
def bF(a b:X2):jo a++jo b=jo (a++b):=str_list (by rw[Ur,rX,rX,rX])
def dg(n:Nat):X2:=if n<10 then [48+n] else if n<100 then [48+n / 10,48+n % 10] else [48+n / 100,48+n / 10 % 10,48+n % 10]
def bP{n:Nat}(h:n<250):Str.ofString (toString ((n:Nat):Int))=jo (dg n):=(by decide +kernel:∀n:Fin 250,Str.ofString (toString ((n.val:Nat):Int))=jo (dg n.val)) ⟨n,h⟩
def Wp{n:Nat}(h:n<250):PySem.intText? (jo<|dg n)=some ((n:Nat):Int):=(by decide +kernel:∀n:Fin 250,PySem.intText? (jo<|dg n.val)=some ((n.val:Nat):Int)) ⟨n,h⟩
def GW(w:X2):Prop:=w≠[]/\32∉w/\10∉w/\w.length<=10
instance (w:X2):Decidable (GW w):=by unfold GW;exact inferInstance
def bz{n:Nat}(h:n<250):GW (dg n):=(by decide +kernel:∀n:Fin 250,GW<|dg n.val) ⟨n,h⟩
def sgC:Bool->Nat
 |false=>43
 |true=>45
def Wq{n:Str}(h:aF n):GW (sgC t::n.cps.toList):=by
 have I:∀c:Nat,c<97->c∉n.cps.toList:=λc U z=>by have:=(h.2.2 c z).1;lia
 have J:=h.2.1;rw[<-Txs.len_list] at J;refine⟨by simp,?_,?_,by rw[Au];lia⟩
 ·rw[Ap];rintro(e|e)
  ·cases t<;>cases e
  ·exact I 32 (by decide) e
 ·rw[Ap];rintro(e|e)
  ·cases t<;>cases e
  ·exact I 10 (by decide) e
def m7:Yp->List (X2)
 |none=>[("gone" : Str).cps.toList]
 |some (.lf t n)=>[sgC t::n.cps.toList]
 |some (.nd e i j)=>[(kN e).cps.toList,dg i,dg j]
def A_:Yp->Prop
 |none=>True
 |some (.lf _ n)=>aF n
 |some (.nd _ i j)=>i<250/\j<250
def KH(e:Bool):GW (kN e).cps.toList:=by cases e<;>decide +kernel
def KI{k:Yp}(h:A_ k):∀w∈m7 k,GW w:=by
 intro w hw
 match k,h with
 |none,_=>rw[Av.mp hw];decide +kernel
 |some (.lf t n),h=>rw[Av.mp hw];exact Wq h
 |some (.nd e i j),h=>
  rcases Ap.mp hw with rfl|hw
  ·exact KH e
  ·rcases Ap.mp hw with rfl|hw
   ·exact bz h.1
   ·rw[Av.mp hw];exact bz h.2
def sS(k:Yp):(m7 k).length<=3/\m7 k≠[]:=by
 match k with
 |none=>exact⟨by decide,by simp[m7]⟩
 |some (.lf t n)=>exact⟨by show 1<=3;decide,by simp[m7]⟩
 |some (.nd e i j)=>exact⟨Ak _,by simp[m7]⟩
def gy(p:Nat)(k:Yp):List (X2):=("knot" : Str).cps.toList::dg p::m7 k
def ke:Nat->List (Yp)->List (List<|X2)
 |_,[]=>[]
 |p,k::r=>gy p k::ke (p+1) r
theorem gC(k:Yp):∀(wd:List<|Yp) (p:Nat),ke p (wd++[k])=ke p wd++[gy (p+wd.length) k]
 |[],p=>rfl
 |x::r,p=>by show gy p x::ke (p+1) (r++[k])=gy p x::ke (p+1) r++[gy (p+(r.length+1)) k];rw[gC k r<|p+1,Dq,CO 1];rfl
theorem vj:∀(wd:List<|Yp) (p:Nat),(ke p wd).length=wd.length
 |[],_=>rfl
 |x::r,p=>Bs (· + 1)<|vj r<|p+1
theorem oC:∀{wd:List<|Yp} {p i:Nat} {k:Yp},wd[i]?=some k->(ke p wd)[i]?=some (gy (p+i) k)
 |x::r,p,0,k,h=>by cases h;rfl
 |x::r,p,i+1,k,h=>by have:=oC (wd:=r) (p:=p+1) (i:=i) (k:=k) h;show(ke (p+1) r)[i]?=_;rw[this,Dq,CO 1]
def GR(ws:List<|X2):Prop:=ws≠[]/\∀w∈ws,GW w
def Wr{p:Nat}{k:Yp}(I:p<250)(h:A_ k):GR (gy p k):=by
 refine⟨by simp[gy],λw hw=>?_⟩;rcases Ap.mp hw with rfl|hw
 ·decide +kernel
 ·rcases Ap.mp hw with rfl|hw
  ·exact bz I
  ·exact KI h w hw
theorem oE:∀{wd:List<|Yp} {p:Nat},p+wd.length<=250->(∀k∈wd,A_ k)->∀ws∈ke p wd,GR ws
 |x::r,p,I,h,ws,hw=>by
  rw[Au] at I;rcases Ap.mp hw with rfl|hw
  ·exact Wr (by lia)<|h x<|Ao ..
  ·exact oE (p:=p+1) (by lia) (λk J=>h k<|Af _ J) ws hw
def uQ(rows:List<|List<|X2):Nat:=(rows.map List.length).sum
def gR(a b:List<|List<|X2):uQ (a++b)=uQ a+uQ b:=by unfold uQ;rw[Aw,Dw]
theorem tU:∀(wd:List<|Yp) (p:Nat),uQ (ke p wd)<=5*wd.length
 |[],_=>Ak _
 |x::r,p=>by have:=tU r<|p+1;have:=(sS x).1;show(gy p x).length+uQ (ke (p+1) r)<=5*(r.length+1);show((m7 x).length+1+1)+_<=_;lia
def wy(w:Str)(c:Yb):List (X2):=[w.cps.toList,dg c.1,dg c.2]
def ah(wd:List<|Yp)(lk ct:XX):List (List<|X2):=ke 0 wd++(lk.map (wy "link")++ct.map (wy "cut"))
structure WbO(wd:List<|Yp)(lk ct:XX):Prop where
 ks:∀k∈wd,A_ k
 len:wd.length<=241
 lA:∀c∈lk,c.1<250/\c.2<250
 cA:∀c∈ct,c.1<250/\c.2<250
 ll:lk.length<=60
 cl:ct.length<=60
def KJ{w:Str}{c:Yb}(hw:GW w.cps.toList)(h:c.1<250/\c.2<250):GR (wy w c):=by
 refine⟨by simp[wy],λx I=>?_⟩;rcases Ap.mp I with rfl|I
 ·exact hw
 ·rcases Ap.mp I with rfl|I
  ·exact bz h.1
  ·rw[Av.mp I];exact bz h.2
def WbO.gr(T:WbO wd lk ct):∀ws∈ah wd lk ct,GR ws:=λws hw=>by
 rcases An.mp hw with hw|hw
 ·exact oE (by have:=T.len;lia) T.ks ws hw
 ·rcases An.mp hw with hw|hw
  ·obtain⟨c,I,rfl⟩:=Bj.mp hw;exact KJ (by decide +kernel)<|T.lA c I
  ·obtain⟨c,I,rfl⟩:=Bj.mp hw;exact KJ (by decide +kernel)<|T.cA c I
theorem tS(w:Str):∀l:XY,uQ (l.map<|wy w)=3*l.length
 |[]=>rfl
 |c::r=>by show 3+uQ (r.map<|wy w)=3*(r.length+1);rw[tS w r];lia
def jF(wd:List<|Yp)(lk ct:XX):(ah wd lk ct).length=wd.length+(lk.length+ct.length):=by unfold ah;rw[Ac,Ac,vj,Ab,Ab]
def WbO.n(T:WbO wd lk ct):uQ (ah wd lk ct)<=1600/\(ah wd lk ct).length<=370:=by have I:=tU wd 0;have J:=T.len;have U:=T.ll;have g:=T.cl;refine⟨?_,by rw[jF];lia⟩;unfold ah;rw[gR,gR,tS,tS];lia
def pP(rows:List<|List<|X2):X2:=rows.flatMap λws=>Txs.gl [32] ws++[10]
def vh(l:X2):List (List<|X2):=((Txs.spl 10 l).map Txs.wds).filter λr=>!r.isEmpty
def qT{M X:X2}(h:10∉M):vh (M++10::X)=([Txs.wds M].filter λr=>!r.isEmpty)++vh X:=by unfold vh;rw[Txs.spl_app,Aw,BB,Txs.spl_one h];rfl
def vM{M X:X2}{ws:List<|X2}(h:10∉M)(e:Txs.wds M=ws)(I:ws≠[]):vh (M++10::X)=ws::vh X:=by rw[qT h,e];cases ws with|nil=>exact absurd rfl I|cons a r=>rfl
def Ws{M X:X2}(h:10∉M)(e:Txs.wds M=[]):vh (M++10::X)=vh X:=by rw[qT h,e];rfl
def Wt(l:X2):vh (l++[10])=vh l:=by unfold vh;rw[Txs.spl_app,Aw,BB];show _++[]=_;rw[AG]
theorem tI:∀{ws:List<|X2},(∀w∈ws,GW w)->Txs.wds (Txs.gl [32] ws)=ws
 |[],_=>rfl
 |[p],h=>by rw[iq];exact Txs.wds_one (h p<|Ao ..).2.1 (h p<|Ao ..).1
 |p::q::r,h=>by rw[aC];show Txs.wds (p++32::Txs.gl [32] (q::r))=_;rw[Txs.wds_app,tI λw hw=>h w<|Af _ hw,Txs.wds_one (h p<|Ao ..).2.1 (h p<|Ao ..).1];rfl
def sT{ws:List<|X2}(h:∀w∈ws,GW w):10∉Txs.gl [32] ws:=λz=>by
 rcases J' z with z|⟨l,I,z⟩
 ·simp at z
 ·exact(h l I).2.2.1 z
def eJ{ws:List<|X2}(h:∀w∈ws,GW w):(Txs.gl [32] ws).length<=ws.length*11:=J9 [32] 10 ws λl I=>(h l I).2.2.2
theorem ut:∀{rows:List<|List<|X2},(∀ws∈rows,GR ws)->vh (pP rows)=rows
 |[],_=>rfl
 |ws::r,h=>by obtain⟨J,I⟩:=h ws<|Ao ..;show vh ((Txs.gl [32] ws++[10])++pP r)=_;rw[Aq];show vh (Txs.gl [32] ws++10::pP r)=_;rw[vM (sT I) (tI I) J,ut λw hw=>h w<|Af _ hw]
theorem gM:∀{rows:List<|List<|X2},(∀ws∈rows,GR ws)->(pP rows).length<=11*uQ rows+rows.length
 |[],_=>Ak _
 |ws::r,h=>by have I:=gM λw hw=>h w<|Af ws hw;have J:=eJ (h ws<|Ao ..).2;show((Txs.gl [32] ws++[10])++pP r).length<=11*(ws.length+uQ r)+(r.length+1);rw[Ac,Ac];show _+1+_<=_;lia
def KL(a b:List<|List<|X2):pP (a++b)=pP a++pP b:=AO
theorem xQ:∀n,Txs.wds (bl n)=[]
 |0=>rfl
 |n+1=>by have:=Txs.wds_app []<|bl n;rw[BZ] at this;show Txs.wds (32::bl n)=[];rw[this,xQ n];rfl
theorem Wu(N:X2):∀n,Txs.wds (N++bl n)=Txs.wds N
 |0=>by rw[show bl 0=[] from rfl,AG]
 |n+1=>by show Txs.wds (N++32::bl n)=_;rw[Txs.wds_app,xQ,AG]
def mj(n:Nat):10∉bl n:=λh=>by have:=List.eq_of_mem_replicate h;lia
def sg(n:Nat):sh " " n=jo (bl n):=by refine str_list ?_;rw[rX];show((List.replicate n<|(" " : Str).cps.toList).flatten).toArray.toList=_;rw[show((" " : Str).cps.toList)=[32] by decide +kernel];simp
def lD:RD "is_number" lM 0 ["word"] (λ_=>True):=⟨_,λV B c _ _ _ _ _ _ _ J hN I=>(qa (ze (bQ<|vn<|wc (wL qe<|jL zC (L_ B.ba<|qv 0)<|rB zC<|Jm B.v_MOST_FIGURES rfl)<|va<|xh<|zy rR rfl B.b_all jR<|zx<|aV ["sign"] (EI (by rfl)) rfl (JV<|qv 0) (fK 1) (λ_ _ _ _=>wm) λ_ _ _ _=>(dq qo<|dz Gc (qv 1)<|dh Gc qo)) (qc<|qm fW) qt)<|qc<|qm<|Q7 (kj (dH _ _ _ I) (L_ B.ba<|qv 0) qe<|jk _)<|aP<|kj (IP _ _ _ I) (J_ 0) qo<|jk _)⟩
def f6(I:x5):RD "number_from" f7 1 ["word"] (λV=>JE V I):=⟨_,λV B c _ _ _ _ _ _ _ J hN U=>(qa (ze (bQ<|xh<|C_ c J<|zx<|qv 0) (qc av) qt)<|qc<|qm<|vm Wo rfl B.bi uJ<|zx<|qv 0)⟩
def gY(I:x5):RD "shown_knot" iR 1 ["knot","kind","left","right"] (λV=>Ff V I):=⟨_,λV B c _ _ _ _ _ _ _ J hN U=>(qa (ze (nS<|qv 0) (qc<|qm qo) qt)<|qa (ze (xh<|C_ c J<|zx<|qv 0) (qc<|qm<|qk j7 (I_ (kA B.k_LEAF_SIGNS rfl)<|J_ 0)<|J_ 0) qt)<|qa (S_ 1 hN<|J_ 0)<|qa (S_ 2 hN<|J_ 0)<|qa (S_ 3 hN<|J_ 0)<|qc<|qm<|tf<|vf (yE<|qv 1)<|vf qo<|vf (iK<|qv 2)<|vf qo<|vf (iK<|qv 3) y9)⟩
def dG(I:x5):RD "written_knots" dM 2 ["knots","lines","place","knot","shown"] (λV=>Jy V I):=⟨_,λV B c _ _ _ _ _ _ _ J hN U=>(qa (S_ 1 hN<|zc x9)<|qa (vv xT rfl (bK rfl B.be<|qv 0) (vz (n:=2) rfl<|qz (G_ 2 hN)<|qz (G_ 3 hN) x4)<|qa (S_ 4 hN<|C_ c J<|zx<|qv 3)<|qc<|qw<|qx (qv 1)<|zx<|tf<|vf qo<|vf (iK<|qv 2)<|vf qo<|vf (yE<|qv 4)<|vf qo y9)<|qc<|qm<|cO qo<|zx<|qv 1)⟩
def dN:RD "written_pairs" dI 0 ["word","pairs"] (λ_=>True):=⟨_,λV B c _ _ _ _ _ _ _ I hN J=>(qc<|qm<|cO qo<|zx<|aV ["p","q" ] (EI (by rfl)) rfl (j9<|qv 1) (Gb 2) (λ_ _ _ _=>wm) λ_ _ _ _=>(tf<|vf (yE<|qv 0)<|vf qo<|vf (iK<|qv 2)<|vf qo<|vf (iK<|qv 3)<|vf qo y9))⟩
def fU(I:x5)(J:x5):RD "written_web" fi 3 ["web"] (λV=>Jz V I/\JA V J):=⟨_,λV B c _ _ _ _ _ _ _ U hN g=>(qc<|qm<|qk j7 (qk j7 (C_ c.1 U<|zx<|J_ 0)<|C_ c.2 U<|v5 qo<|J_ 0)<|C_ c.2 U<|v5 qo<|J_ 0)⟩
def lV(I:x5):RD "leaf_from" lF 1 ["word","sign","name"] (λV=>Jn V I):=⟨_,λV B c _ _ _ _ _ _ _ J hN U=>(qa (S_ 1 hN<|J_ 0)<|qa (S_ 2 hN<|vq (eE _ _ _) (qv 0) (w5 qe) aE)<|qa (ze (vn<|im (jl (Ta _ _ _) (qv 1) (kA B.k_SIGN_KINDS rfl) (by with_unfolding_all rfl))<|cg<|bQ<|xh<|C_ c J<|zx<|qv 2) (qc av) qt)<|qc<|qm<|zf<|v5 (I_ (kA B.k_SIGN_KINDS rfl)<|qv 1)<|qv 2)⟩
def l7(J:x5)(I:x5):RD "knot_from" lK 2 ["words"] (λV=>JF V J/\F_ V I):=⟨_,λV B c _ _ _ _ _ _ _ U hN g=>(qa (ze (E_ g (qv 0)<|zc<|zx qo) (qc<|qm jO) qt)<|qa (ze (E_ g (L_ B.ba<|qv 0) qe) (qc<|qm<|C_ c.1 U<|zx<|J_ 0) qt)<|qa (ze (vn<|im (N_ g (L_ B.ba<|qv 0) qe)<|cg<|jl (oZ _ _ _) (J_ 0) (kA B.k_KNOT_KINDS rfl) (by with_unfolding_all rfl)) (qc av) qt)<|qc<|qm<|zf<|ag (J_ 0) (C_ c.2 U<|zx<|J_ 0)<|C_ c.2 U<|zx<|J_ 0)⟩
def gQ(I:x5)(J:x5):RD "knots_from" iD 3 ["rows","knots","place","row"] (λV=>F_ V I/\JG V J):=⟨_,λV B c _ _ _ _ _ _ _ U hN g=>(qa (S_ 1 hN<|zc x9)<|qa (vv xT rfl (bK rfl B.be<|qv 0) (vz (n:=2) rfl<|qz (G_ 2 hN)<|qz (G_ 3 hN) x4)<|qa (ze (vn<|im (jl iJ (L_ B.ba<|qv 3) qe<|jk _)<|cg<|N_ g (C_ c.1 U<|zx<|J_ 3)<|qv 2) (qc av) qt)<|qc<|qw<|qx (qv 1)<|zx<|C_ c.2 U<|zx<|vq (eE _ _ _) (qv 3) (w5 qe) aE)<|qc<|qm<|qv 1)⟩
def KN(I:x5):RD "pair_from" lE 2 ["row"] (λV=>F_ V I):=⟨_,λV B c _ _ _ _ _ _ _ J hN U=>(qa (ze (N_ U (L_ B.ba<|qv 0) qe) (qc av) qt)<|qc<|qm<|zf<|v5 (C_ c J<|zx<|J_ 0)<|C_ c J<|zx<|J_ 0)⟩
def Wv(c:Nat):pS "0" ⟨#[c]⟩=decide (48<=c):=by show(!decide ([c]<[48]))=decide (48<=c);rw[n_,Cc];simp
def Ww(c:Nat):pS ⟨#[c]⟩ "9" = decide (c<=57):=by show(!decide ([57]<[c]))=decide (c<=57);rw[n_,Cc];simp
def Wx{n:Nat}(h:n<250):((jo<|dg n).length=1\/((jo<|dg n).length=2\/(jo<|dg n).length=3)/\∃c,(jo<|dg n).cps.toList[0]?=some c/\c≠48)/\(jo<|dg n).cps.all (· < 128)=true/\∀c∈(jo<|dg n).cps.toList,48<=c/\c<=57:=by
 have I:∀c∈(jo<|dg n).cps.toList,48<=c/\c<=57:=by rw[rX];exact(by decide +kernel:∀n:Fin 250,∀c∈dg n.val,48<=c/\c<=57) ⟨n,h⟩
 refine⟨?_,?_,I⟩
 ·rw[dE,rX];unfold dg;by_cases c:n<10
  ·rw[AF c];exact .inl rfl
  ·rw[AA c];by_cases J:n<100
   ·rw[AF J];exact .inr ⟨.inl rfl,_,rfl,by lia⟩
   ·rw[AA J];exact .inr ⟨.inr rfl,_,rfl,by lia⟩
 ·rw[<-Array.all_toList,BV];exactλc z=>Ax (by have:=(I c z).2;lia)
inductive gS(ys:List Y)(L:qi)(Q:YK):Prop
 |mk:∀n:Nat,(ys=[.str<|jo<|dg n])->(n<250)->(Q (.bl true) L)->gS ys L Q
def Wy:∀ys L Q,gS ys L Q->jf lD.1 1 ys L Q:=by
 rintro ys L Q ⟨n,rfl,C,q⟩;obtain⟨I,o,hd⟩:=Wx C;generalize jo (dg n)=z at I o hd ⊢;have r:1<=z.length/\z.length<=3:=by lia
 have J:z.length<=sizeLine:=AE r.2 (by decide);refine⟨J,wD (show(1:Int)<=z.length by lia)<|wD (show(z.length:Int)<=4 by lia) ⟨o,?_⟩⟩;refine wf (λi U=>U=(List.replicate i true).map Y.bl) (by unfold j_;rw[Ab,Txs.len_list];exact AW r.2 (by decide)) trivial rfl ?_ ?_
 ·rintro i y U g rfl;unfold j_ at g;rw[Ai] at g;obtain⟨c,l,rfl⟩:=Am.mp g;obtain⟨T,h9⟩:=hd c<|AB l;refine vg (by rw[Wv];exact Ax T) ⟨L,EC _,rfl,?_⟩;rw[Ww,Ax h9,CM,Aw];rfl
 ·rintro U rfl p t;refine⟨rfl,qb q9<|qj (bA _) ?_⟩;refine jz (by simp) ⟨J,?_⟩;rcases I with I|⟨I,c,l,hc⟩
  ·refine vg (by show decide _=true;exact Ax (by lia))<|bC (By t) q
  ·refine jz (by show decide _=false;exact Ar (by lia)) ⟨J,qj (vd (j:=0) l) ?_⟩;refine bC (By t) ?_;have:¬(⟨#[c]⟩:Str) = "0" := λe=>hc (by
    have:=Bs (λs:Str=>s.cps.toList) e;have e0:("0" : Str).cps.toList=[48]:=by decide +kernel
    simp only[e0] at this;simpa using this)
   show Q (.bl<|!decide _) _;rw[Ar this];exact q
inductive eh(ys:List Y)(L:qi)(Q:YK):Prop
 |mk:∀n:Nat,(ys=[.str<|jo<|dg n])->(n<250)->(Q (.int ((n:Nat):Int)) L)->eh ys L Q
def Wz{n:Nat}(h:n<250):(jo<|dg n).length<=10:=by rw[dE];exact(bz h).2.2.2
def WA:∀ys L Q,eh ys L Q->jf (f6 gS).1 1 ys L Q:=by rintro ys L Q ⟨n,rfl,I,q⟩;exact⟨n,rfl,I,_,Wp I,AE (Wz I) (by decide),jw q⟩
def js{a b:X2}{n:Nat}{y:Str}{u:Str->jp}{Q:YK}(I:a.length<=n)(e:y=jo b)(J:b.length<=m)(k:(a++b).length<=n+m->u (jo<|a++b) τ L Q)(h:n+m<=30000:=by decide):(jo a++y).length<=sizeLine/\u (jo a++y) τ L Q:=by
 have l:(a++b).length<=n+m:=by rw[Ac];exact Nat.add_le_add I J
 rw[e,bF];exact⟨by rw[dE];exact AE (AE l h) (by decide),k l⟩
def lg{n:Nat}(h:n<250):((n:Nat):Int).natAbs.log2<1920:=(by decide +kernel:∀n:Fin 250,((n.val:Nat):Int).natAbs.log2<1920) ⟨n,h⟩
def uc:(" " : Str)=jo [32]:=by decide +kernel
def rp:("\n" : Str)=jo [10]:=by decide +kernel
inductive tK(ys:List Y)(L:qi)(Q:YK):Prop
 |mk:∀k:Yp,(ys=[fP k])->(A_ k)->(Q (.str<|jo<|Txs.gl [32]<|m7 k) L)->tK ys L Q
def WB(e:Bool):(kN e).cps.toList.length<=10:=(KH e).2.2.2
def WC:∀ys L Q,tK ys L Q->jf (gY kw).1 4 ys L Q:=by
 rintro ys L Q ⟨k,rfl,I,q⟩
 match k,I with
 |none,_=>
  have e:jo (Txs.gl [32]<|m7 none) = "gone" := by decide +kernel
  rw[e] at q;exact jw q
 |some (.lf t n),I=>
  have e:jo (Txs.gl [32]<|m7<|some<|.lf t n)=jo [sgC t]++n:=by rw[show m7 (some<|.lf t n)=[sgC t::n.cps.toList] from rfl,iq,<-xj n,bF,rX];rfl
  rw[e] at q;have r:=I.2.1;refine⟨true,t,_,rfl,?_⟩;cases t with|false=>exact⟨AE (m:=9) (by show 1+n.length<=9;lia) (by decide),jw q⟩|true=>exact⟨AE (m:=9) (by show 1+n.length<=9;lia) (by decide),jw q⟩
 |some (.nd e i j),⟨J,U⟩=>
  have g:=WB e;have l:=(bz J).2.2.2;have o:=(bz U).2.2.2;have p:Txs.gl [32] (m7<|some<|.nd e i j)=[]++(kN e).cps.toList++[32]++dg i++[32]++dg j:=by show Txs.gl [32] [(kN e).cps.toList,dg i,dg j]=_;rw[aC,aC,iq];simp
  rw[p] at q;refine⟨false,e,_,rfl,⟨by rw[<-Txs.len_list];exact AE g (by decide),js (Ak 0) (xj _).symm g λh=>js h uc (Ak 1) λh=>⟨lg J,js h (bP J) l λh=>js h uc (Ak 1) λh=>⟨lg U,js h (bP U) o λh=>⟨?_,jw q⟩⟩⟩⟩⟩;rw[dE];exact AE h (by decide)
def WD(p:Nat)(k:Yp):Txs.gl [32] (gy p k)=("knot " : Str).cps.toList++dg p++[32]++Txs.gl [32] (m7 k):=by
 have e:("knot " : Str).cps.toList=("knot" : Str).cps.toList++[32]:=by decide +kernel
 rw[e];unfold gy;have:=(sS k).2;cases h:m7 k with|nil=>exact absurd h this|cons w r=>rw[aC,aC];simp
def KO(h:(xz wd)[i]?=some y):∃k,wd[i]?=some k/\y=fP k:=by rw[Ai] at h;obtain⟨k,e,r⟩:=Am.mp h;exact⟨k,e,r.symm⟩
def r_(ws:List<|X2):Str:=jo<|Txs.gl [32] ws++[10]
def oX(rows:List<|List<|X2):Txt.join "" (rows.map r_)=jo (pP rows):=by refine str_list ?_;rw[iB,rX,List.flatMap_map];unfold pP r_;congr 1
def tz(rows:List<|List<|X2):((rows.map r_).map (·.length)).sum=(pP rows).length:=by unfold pP;rw[List.length_flatMap,BH];congr 1
inductive tH(ys:List Y)(L:qi)(Q:YK):Prop
 |mk:∀a,∀wd:List (Yp),(ys=[.ref a])->(L a=some (.lst<|xz wd))->((∀k∈wd,A_ k))->(wd.length<=241)->(Q (.str<|jo<|pP<|ke 0 wd) L)->tH ys L Q
def WE:∀ys L Q,tH ys L Q->jf (dG tK).1 5 ys L Q:=by
 rintro ys L Q ⟨a,J,rfl,T,hk,hl,q⟩;have big:∀m:Nat,m<=25000->m<sizeLine:=λm h=>AW h (by decide);intro l I;refine zp (By I _ _ T) λkeep kp=>ve ⟨λi j o=>∃r t C,j=[some<|.ref a,some<|.ref l,r,t,C]/\o=qg L l (.lst<|((ke 0<|J.take i).map r_).map Y.str),⟨_,_,_,rfl,rfl⟩,?_,?_,?_⟩
 ·rintro i j o ⟨r,t,C,rfl,rfl⟩;exact kp _<|(qd<|vt T I).trans (qd<|vt T I).symm
 ·rintro i y j o ey ⟨r,t,C,rfl,rfl⟩;obtain⟨z,ez,rfl⟩:=aT ey;obtain⟨k,ek,rfl⟩:=KO ez;have hi:i<J.length:=(AM.mp ek).1;have g:=hk k<|AB ek;have h1:(Txs.gl [32]<|m7 k).length<=33:=by have:=eJ<|KI g;have:=(sS k).1;lia
  have U:i<250:=by lia
  refine⟨k,rfl,g,?_⟩;have lt:(List.take i J).length=i:=B6<|Bp hi;refine qh q9 (js (Ak 0) (xj _).symm (show _<=5 by decide +kernel) λh=>⟨lg U,js h (bP U) (bz U).2.2.2 λh=>js h uc (Ak 1) λh=>⟨by rw[dE];exact AE h1 (by decide),js h rfl h1 λh=>js h rp (Ak 1) λh=>⟨?_,?_⟩⟩⟩)
  ·rw[dE];exact AE h (by decide)
  ·refine qh q9 ⟨by rw[Ab,Ab,vj,lt];exact big _ (by lia),?_⟩;refine⟨_,EC _,_,_,_,rfl,?_⟩;rw[vi,AZ,ek];show _=qg L l (.lst<|((ke 0<|J.take i++[k]).map r_).map Y.str);rw[gC,Aw,Aw,CC,lt];show _=qg L l (.lst<|_++[Y.str<|jo<|Txs.gl [32] (gy i k)++[10]]);rw[WD];rfl
 ·rintro j o ⟨r,t,C,rfl,rfl⟩;rw[ky,Ab,AX];refine qh q9 ⟨(ke 0 J).map r_,rfl,?_,bC (By I) ?_⟩
  ·rw[tz];have h1:=gM<|oE (p:=0) (by lia) hk;have h2:=tU J 0;have h3:=vj J 0;have h0:("" : Str).length=0:=rfl;rw[h0];lia
  ·rw[oX];exact q
def xY(h:(z9 l)[i]?=some y):∃c,l[i]?=some c/\y=.tup [.int ((c.1:Nat):Int),.int ((c.2:Nat):Int)]:=by rw[Ai] at h;obtain⟨c,e,r⟩:=Am.mp h;exact⟨c,e,r.symm⟩
def KP(w:Str)(c:Yb):Txs.gl [32] (wy w c)++[10]=[]++w.cps.toList++[32]++dg c.1++[32]++dg c.2++[10]:=by unfold wy;rw[aC,aC,iq];simp
inductive t8(ys:List Y)(L:qi)(Q:YK):Prop
 |mk:∀a,∀w:Str,∀l:XY,(ys=[.str w,.ref a])->(L a=some (.lst<|z9 l))->(w.cps.toList.length<=10)->((∀c∈l,c.1<250/\c.2<250))->(l.length<=60)->(Q (.str<|jo<|pP<|l.map<|wy w) L)->t8 ys L Q
def WF:∀ys L Q,t8 ys L Q->jf dN.1 2 ys L Q:=by
 rintro ys L Q ⟨a,w,l,rfl,j,o,J,T,q⟩;have big:∀m:Nat,m<=25000->m<sizeLine:=λm h=>AW h (by decide);refine zp j λkeep t=>wf (λi U=>U=(((l.take i).map<|wy w).map r_).map Y.str) (by rw[Ab];exact big _ (by lia)) (t _ rfl) rfl ?_ ?_
 ·rintro i y U ey rfl;obtain⟨c,C,rfl⟩:=xY ey;obtain⟨I,g⟩:=J c<|AB C;refine⟨by rw[<-Txs.len_list];exact AE o (by decide),js (Ak 0) (xj _).symm o λh=>js h uc (Ak 1) λh=>⟨lg I,js h (bP I) (bz I).2.2.2 λh=>js h uc (Ak 1) λh=>⟨lg g,js h (bP g) (bz g).2.2.2 λh=>js h rp (Ak 1) λh=>⟨?_,L,EC _,rfl,?_⟩⟩⟩⟩
  ·rw[dE];exact AE h (by decide)
  ·rw[<-KP,AZ,C,Aw,Aw,Aw];rfl
 ·rintro U rfl p hp;rw[Ab,AX];refine qh q9 ⟨(l.map<|wy w).map r_,rfl,?_,bC (By hp) ?_⟩
  ·rw[tz];have e:(l.map<|wy w).length=l.length:=Ab ..;have I:(pP<|l.map<|wy w).length<=40*l.length:=by
    clear q j T e t
    induction l with
    |nil=>exact Ak _
    |cons c r ih=>
     have:=ih λx hx=>J x<|Af _ hx;obtain⟨k1,k2⟩:=J c<|Ao ..;have d1:=(bz k1).2.2.2;have d2:=(bz k2).2.2.2;show((Txs.gl [32] (wy w c)++[10])++pP (r.map<|wy w)).length<=40*(r.length+1);rw[KP];simp only[Ac,Au,BR];lia
   have h0:("" : Str).length=0:=rfl;rw[h0];lia
  ·rw[oX];exact q
inductive sD(ys:List Y)(L:qi)(Q:YK):Prop
 |mk:∀a l c,∀wd:List (Yp),∀lk ct:XY,(ys=[fJ a l c])->(L a=some (.lst<|xz wd))->(L l=some (.lst<|z9 lk))->(L c=some (.lst<|z9 ct))->(WbO wd lk ct)->(Q (.str<|jo<|pP<|ah wd lk ct) L)->sD ys L Q
def WG:∀ys L Q,sD ys L Q->jf (fU tH t8).1 1 ys L Q:=by
 rintro ys L Q ⟨a,l,c,I,lk,J,rfl,g,j,o,T,q⟩;have U:=gM T.gr;have p:=T.n;have e:pP (ah I lk J)=pP (ke 0 I)++pP (lk.map<|wy "link")++pP (J.map<|wy "cut"):=by unfold ah;rw[KL,KL,Aq]
 rw[e] at q U;simp only[Ac] at U;refine⟨a,I,rfl,g,T.ks,T.len,l,"link",lk,rfl,j,by decide +kernel,T.lA,T.ll,⟨by rw[dE,dE];exact AE (m:=30000) (by lia) (by decide),?_⟩⟩;rw[bF];refine⟨c,"cut",J,rfl,o,by decide +kernel,T.cA,T.cl,⟨by rw[dE,dE,Ac];exact AE (m:=30000) (by lia) (by decide),?_⟩⟩;rw[bF];exact jw q
def oy:RD "words_in" pI 0 ["line"] (λ_=>True):=⟨_,λV B c _ _ _ _ _ _ _ J hN I=>(qc<|qm<|aV ["word"] (EI (by rfl)) rfl (j9<|vR (qv 0)<|zx qo) (fK 1) (λ_ _ _ _=>cV<|N_ I (qv 1) qo) λ_ _ _ _=>(qv 1))⟩
def rK(I:x5):RD "rows_in" rO 1 ["text","rows"] (λV=>JB V I):=⟨_,λV B c _ _ _ _ _ _ _ J hN U=>(qa (a7 ["line"] (i:=1) hN rfl (Or.inl rfl) (EI (by rfl)) rfl (j9<|vR (qv 0)<|zx qo) (fK 2) (λ_ _ _ _=>wm) λ_ _ _ _=>(C_ c J<|zx<|qv 2))<|qc<|qm<|aV ["row"] (EI (by rfl)) rfl (j9<|qv 1) (fK 2) (λ_ _ _ _=>cV<|N_ U (qv 2)<|zc x9) λ_ _ _ _=>(qv 2))⟩
def gW:RD "rows_ahead" i7 0 ["rows","word","count"] (λ_=>True):=⟨_,λV B c _ _ _ _ _ _ _ J hN I=>(qa (S_ 2 hN qe)<|qa (iM xT (vn<|wc (jl iJ (qv 2) (L_ B.ba<|qv 0)<|jk _)<|va<|E_ I (I_ (I_ (qv 0)<|qv 2) qe)<|qv 1)<|qc<|Ra (i:=2) hN rfl (Or.inl rfl) qe Rp)<|qc<|qm<|vq (eE _ _ _) (qv 0) aE<|w5<|qv 2)⟩
theorem Paired.len{α β:Type}{F:α->β->Prop}:∀{xs:List α} {ys:List β},Paired F xs ys->xs.length=ys.length
 |_,_,.nil=>rfl
 |_,_,.cons _ r=>Bs (· + 1)<|Paired.len r
abbrev EG:=@Paired.len
def i0(ws:List<|X2):List Y:=(ws.map jo).map Y.str
def sd(ws:List<|X2):(i0 ws).length=ws.length:=by unfold i0;rw[Ab,Ab]
def jT{ws:List<|X2}{w:X2}(h:ws[i]?=some w):jU (i0 ws) (i:Int)=some (.str<|jo w):=xm (f:=Y.str) (by rw[Ai,h];rfl)
theorem mP{L:qi}:∀ws:List (X2),Paired (jd L 0) (i0 ws)<|ws.map λw=>Da.s<|.str<|jo w
 |[]=>.nil
 |w::r=>.cons (EU _)<|mP r
def WH(c:Nat)(l:X2):Txt.slice (jo<|c::l) (some 1) none=jo l:=by refine str_list ?_;rw[eY,rX,rX,dE,show(some (1:Int))=some ((1:Nat):Int) from rfl,HT.sIx_nat,HT.sIx_none,Au,BC (by lia)];show l.take _=l;exact AY (by lia)
inductive iL(ys:List Y)(L:qi)(Q:YK):Prop
 |mk:∀t:Bool,∀n:Str,(ys=[.str<|jo<|sgC t::n.cps.toList])->(aF n)->(Q (.tup [.str<|kL t,.str n]) L)->iL ys L Q
def WJ:∀ys L Q,iL ys L Q->jf (lV cN).1 3 ys L Q:=by
 rintro ys L Q ⟨t,n,rfl,I,q⟩;have U:=I.2.1;have J:(jo<|sgC t::n.cps.toList).length<=sizeLine:=by rw[dE,Au,Txs.len_list];exact AE (m:=9) (by lia) (by decide)
 refine⟨J,qj (v:=sgC t) (vd (j:=0) (by rw[rX];rfl)) ⟨J,?_⟩⟩;rw[WH,xj];have look:([("+","plain"),("-","turned")]:List<|Str×Str).lookup ⟨#[sgC t]⟩=some (kL t):=by cases t<;>decide +kernel
 refine jz (by show(!(List.lookup _ _).isSome)=false;rw[look];rfl) ⟨n,rfl,yt I,by lia,?_⟩;rw[Uq I];exact qj look<|jw q
inductive hZ(ys:List Y)(L:qi)(Q:YK):Prop
 |mk:∀a,∀k:Yp,(ys=[.ref a])->(L a=some (.lst<|i0<|m7 k))->(A_ k)->(Q (fP k) L)->hZ ys L Q
theorem WK:∀ys L Q,hZ ys L Q->jf (l7 iL eh).1 1 ys L Q:=by
 rintro ys L Q ⟨a,k,rfl,I,J,q⟩;intro p U;have s:=By (o:=.lst [Y.str "gone"]) U;refine aY (n:=0) (m:=0) (by decide) (s _ _ I) q9 (mP _) (.cons (EU _) .nil) ?_;have I:=s _ _ I;generalize qg L p (.lst [Y.str "gone"])=r at s I ⊢
 match k,J with
 |none,_=>
  refine vg ?_<|bC s q;show Da.eqs [Da.s<|.str<|jo ("gone" : Str).cps.toList] [Da.s<|.str "gone"]=true;rw[xj];simp[Da.eqs,Da.eq,gH]
 |some (.lf t n),J=>
  refine jz ?_ ?_
  ·have:¬jo (sgC t::n.cps.toList) = "gone" := λe=>by
    have e:=Bs (λs:Str=>s.cps.toList[0]?) e;simp only[rX] at e;have g:("gone" : Str).cps.toList[0]?=some 103:=by decide +kernel
    rw[g] at e;cases t<;>simp[sgC] at e
   show Da.eqs [Da.s<|.str<|jo<|sgC t::n.cps.toList] [Da.s<|.str "gone"]=false;simp[Da.eqs,Da.eq,gH,this]
  ·refine qb I ?_;exact qb I<|qj (jT (i:=0) rfl) ⟨t,n,rfl,J,bC s q⟩
 |some (.nd e i j),J=>
  refine jz ?_ ?_
  ·show Da.eqs [Da.s<|.str<|jo (kN e).cps.toList,Da.s<|.str<|jo<|dg i,Da.s<|.str<|jo<|dg j] [Da.s<|.str "gone"]=false;simp[Da.eqs]
  ·have l:i0 (m7<|some<|.nd e i j)=[.str<|kN e,.str<|jo<|dg i,.str<|jo<|dg j]:=by show [Y.str<|jo (kN e).cps.toList,Y.str<|jo<|dg i,Y.str<|jo<|dg j]=_;rw[xj]
   rw[l] at I;refine qb I ?_;refine qb I ?_;refine qb I ⟨by rfl,by rfl,?_⟩;refine jz (b:=nb true<|xG (V.str<|kN e) [.str "both",.str "either"]) (by cases e<;>decide +kernel) ?_;exact qb I<|qb I ⟨i,rfl,J.1,qb I ⟨j,rfl,J.2,bC s q⟩⟩
abbrev pQ(L:qi)(r:Addr)(ws:List<|X2):Prop:=L r=some (.lst<|i0 ws)
inductive fA(ys:List Y)(L:qi)(Q:YK):Prop
 |mk:∀a,∀rs:List Addr,∀wd:List (Yp),(ys=[.ref a])->(L a=some (.lst<|rs.map Y.ref))->(Paired (pQ L) rs<|ke 0 wd)->((∀k∈wd,A_ k))->(wd.length<=241)->(∀w,L w=none->Q (.ref w) (qg L w<|.lst<|xz wd))->fA ys L Q
def WL:∀ys L Q,fA ys L Q->jf (gQ eh hZ).1 4 ys L Q:=by
 rintro ys L Q ⟨a,rs,J,rfl,ha,pr,hk,hl,q⟩;have big:∀m:Nat,m<=25000->m<sizeLine:=λm h=>AW h (by decide);have rl:rs.length=J.length:=(EG pr).trans<|vj J 0;intro l I;refine zp (By I _ _ ha) λkeep kp=>ve ⟨λi j t=>∃C T,j=[some<|.ref a,some<|.ref l,C,T]/\t=qg L l (.lst<|xz<|J.take i),⟨_,_,rfl,rfl⟩,?_,?_,?_⟩
 ·rintro i j t ⟨C,T,rfl,rfl⟩;exact kp _<|(qd<|vt ha I).trans (qd<|vt ha I).symm
 ·rintro i y j t ey ⟨C,T,rfl,rfl⟩;obtain⟨z,ez,rfl⟩:=aT ey;rw[Ai] at ez;obtain⟨r,er,rfl⟩:=Am.mp ez;have hi:i<J.length:=rl▸(AM.mp er).1;have ek:=Ag hi;generalize J[i]=k at ek;have a0:=hk k<|AB ek;have g:=EK pr er<|oC (p:=0) ek;rw[CC] at g;have g:L r=some (.lst<|i0<|gy i k):=g;have U:=(qd (o:=.lst<|xz<|J.take i)<|vt g I).trans g;refine qb U ?_;refine qb U<|qj (jT (i:=1) rfl) ⟨i,rfl,by lia,?_⟩;refine jz (b:=nb true<|decide<|(i:Int)=i) (by rw[Ax rfl];rfl) ?_;refine qh q9<|qh U λp hp=>⟨p,k,rfl,?_,a0,?_⟩
  ·rw[q9,show(some (2:Int))=some ((2:Nat):Int) from rfl,fF];rfl
  ·refine qh ((qd<|vt q9 hp).trans q9) ⟨by rw[Ab];exact big _ (by rw[AJ];lia),qg L l<|.lst<|xz<|J.take<|i+1,?_,_,_,rfl,rfl⟩;have e:xz (J.take i)++[fP k]=xz (J.take<|i+1):=by rw[AZ,ek,dr];rfl
   rw[e];exact qf.put (λb o h=>by
    by_cases c:b=l
    ·subst c;rw[I] at h;cases h
    ·rw[qd c];exact By hp _ _<|(qd c).trans h) q9
 ·rintro j t ⟨C,T,rfl,rfl⟩;rw[ky,Ab,rl,AX];exact jw<|q l I
def ow(y:Str):Txt.split y "\n" = (Txs.spl 10 y.cps.toList).map jo:=by
 have h:=Txs.split_one y 10 (by decide);rw[show("\n" : Str)=⟨#[10]⟩ by decide +kernel,<-h,BH]
 conv=>lhs;rw[<-List.map_id (Txt.split y ⟨#[10]⟩)]
 exact Dy λa _=>(xj a).symm
theorem sE(c:Nat):∀l:X2,(Txs.spl c l).length<=l.length+1
 |[]=>Ak _
 |d::r=>by
  have J:=sE c r;by_cases e:d=c
  ·rw[Txs.spl_yes e,Au,Au];lia
  ·obtain⟨h,t,I⟩:=Txs.spl_ex c r;rw[Txs.spl_no e I,Au,Au];rw[I,Au] at J;lia
inductive cJ(ys:List Y)(L:qi)(Q:YK):Prop
 |mk:∀z:Str,(ys=[.str z])->(z.length<=100000)->(∀p,L p=none->Q (.ref p) (qg L p<|.lst<|i0<|Txs.wds z.cps.toList))->cJ ys L Q
def yT:∀ys L Q,cJ ys L Q->jf oy.1 1 ys L Q:=by
 rintro ys L Q ⟨z,rfl,o,q⟩;refine⟨by decide +kernel,o,λp g=>zp q9 λkeep r=>?_⟩;refine sQ FC ?_ (r _ rfl) ?_ λj U=>?_
 ·rw[xE,Ab,Ab];have:=sE 32 z.cps.toList;rw[Txs.len_list] at this;exact AW (show _<=100001 by lia) (by decide)
 ·intro i y W t l I;rw[Ai] at l;obtain⟨s,C,rfl⟩:=Am.mp l;have I:W (t++(if s = "" then none else some (Y.str s)).toList) _:=I;by_cases h:s = ""
  ·rw[AF h] at I;refine jz (by show(!decide (s = ""))=false;rw[Ax h];rfl) ⟨_,EC _,?_⟩;rw[Option.toList_none,AG] at I;exact I
  ·rw[AA h] at I;exact vg (by show(!decide (s = ""))=true;rw[Ar h];rfl) ⟨_,EC _,I⟩
 ·rw[xE,Uo];have J:L j=none:=Ud (By g) U;exact bC (qf.put ((By g).upd J) q9)<|q j J
inductive fG(ys:List Y)(L:qi)(Q:YK):Prop
 |mk:∀z:Str,(ys=[.str z])->(z.length<=100000)->(∀p rs L',qf L L'->L' p=some (.lst<|rs.map Y.ref)->Paired (pQ L') rs (vh z.cps.toList)->Q (.ref p) L')->fG ys L Q
def WM:∀ys L Q,fG ys L Q->jf (rK cJ).1 2 ys L Q:=by
 rintro ys L Q ⟨z,rfl,hz,q⟩;have len:((Txt.split z "\n").map Y.str).length<sizeLine:=by rw[ow,Ab,Ab];have:=sE 10 z.cps.toList;rw[Txs.len_list] at this;exact AW (show _<=100001 by lia) (by decide)
 refine⟨by decide +kernel,hz,λp hp=>fN hp λL1 s1 g1=>?_⟩;refine zp g1 λkeep kp=>xW ⟨len,λi U C=>∃o:List Addr,U=o.map Y.ref/\qf L1 C/\Paired (pQ C) o (((Txs.spl 10 z.cps.toList).take i).map Txs.wds),⟨[],rfl,EC _,.nil⟩,?_,?_,?_⟩
 ·rintro i U C ⟨o,_,s,_⟩;exact kp C<|(s _ _ g1).trans g1.symm
 ·rintro i y U C g ⟨o,rfl,s,j⟩;rw[ow,Ai,Ai] at g;cases el:(Txs.spl 10 z.cps.toList)[i]? with
  |none=>rw[el] at g;cases g
  |some l=>
   rw[el] at g;cases g;have hl:=(uB _ _ _<|AB el).2;rw[Txs.len_list] at hl;refine⟨jo l,rfl,by rw[dE];lia,λp2 h2=>?_⟩;rw[rX];refine fN h2 λL2 s2 g2=>⟨_,EC _,o++[p2],by rw[Aw];rfl,s.trans s2,?_⟩;rw[AZ,el,Aw];exact bL (EE j λb t T=>s2 _ _ T) g2
 ·rintro U C ⟨o,rfl,s,j⟩ p3 h3;have a0:(o.map Y.ref).length<sizeLine:=by rw[Ab,EG j,Ab];refine AW (List.length_take_le _ _) len
  rw[show((Txt.split z "\n").map Y.str).length=(Txs.spl 10 z.cps.toList).length by rw[ow,Ab,Ab],AX] at j;refine fN h3 λL3 s3 g3=>?_;replace j:=EE j λb t T=>s3 _ _ T;refine zp g3 λa1 a2=>wf (λi U=>∃I:List Addr,U=I.map Y.ref/\Paired (pQ L3) I ((((Txs.spl 10 z.cps.toList).map Txs.wds).take i).filter λr=>!r.isEmpty)) a0 (a2 _ rfl) ⟨[],rfl,.nil⟩ ?_ ?_
  ·rintro i y U g ⟨I,rfl,J⟩;rw[Ai] at g;obtain⟨r,er,rfl⟩:=Am.mp g;obtain⟨ws,ew,hr⟩:=EL j er;have hr:L3 r=some (.lst<|i0 ws):=hr;intro p4 h4;refine aY (n:=0) (m:=0) (by decide) (By h4 _ _ hr) q9 (mP ws) (.nil:Paired (jd _ 0) _ []) ?_;rw[AZ,ew,BB];cases ws with
   |nil=>
    refine jz rfl ⟨L3,By h4,rfl,I,rfl,?_⟩;show Paired _ I (_++[]);rw[AG];exact J
   |cons w r'=>exact vg rfl ⟨L3,By h4,rfl,I++[r],by rw[Aw];rfl,bL J hr⟩
  ·rintro U ⟨I,rfl,J⟩ p5 h5;rw[Ab,EG j,AX] at J;refine fN h5 λL5 s5 g5=>?_;exact jw<|q p5 I L5 (((s1.trans s).trans s3).trans s5) g5<|EE J λb t T=>s5 _ _ T
theorem Paired.takeP{α β:Type}{F:α->β->Prop}:∀{xs:List α} {ys:List β} (n:Nat),Paired F xs ys->Paired F (xs.take n) (ys.take n)
 |_,_,0,_=>.nil
 |_,_,_+1,.nil=>.nil
 |_,_,n+1,.cons h t=>.cons h<|Paired.takeP n t
inductive eS(ys:List Y)(L:qi)(Q:YK):Prop
 |mk:∀a,∀w:Str,∀rs:List Addr,∀rows:List (List<|X2),∀n:Nat,(ys=[.ref a,.str w])->(L a=some (.lst<|rs.map Y.ref))->(Paired (pQ L) rs rows)->(n<=rows.length)->((∀i,i<n->∃r,rows[i]?=some (w.cps.toList::r)))->((∀ws,rows[n]?=some ws->∃v r,ws=v::r/\jo v≠w))->(∀p,L p=none->Q (.ref p) (qg L p<|.lst<|(rs.take n).map Y.ref))->eS ys L Q
def WN:∀ys L Q,eS ys L Q->jf gW.1 3 ys L Q:=by
 rintro ys L Q ⟨a,w,U,rows,n,rfl,l,C,hn,h1,h2,q⟩;have rl:=EG C;refine⟨λm T J=>J=L/\∃c:Nat,T=[some<|.ref a,some<|.str w,some<|.int (c:Int)]/\c<=n/\m=n-c,⟨_,rfl,0,rfl,A3 _,rfl⟩,?_⟩;rintro m T J ⟨rfl,c,rfl,hc,rfl⟩;have g:c=n->∀p,J p=none->bM Q (.ref p) (qg J p<|.lst<|fw (U.map Y.ref) none<|some (c:Int)):=λe p hp=>by rw[Jb,<-Es,e];exact jw<|q p hp
 refine qb l ?_;refine zo (λI=>?_) λI=>?_
 ·have I:(c:Int)<(((U.map Y.ref).length:Nat):Int):=I;rw[Ab] at I;have t:=Ag (show c<U.length by lia);generalize U[c]'_=r at t;obtain⟨ws,ew,o⟩:=EL C t;have o:J r=some (.lst<|i0 ws):=o;refine qb l<|qj (xm t) ?_;by_cases h:c<n
  ·obtain⟨v,e⟩:=h1 c h;rw[ew] at e;cases e;refine qb o<|qj (jT (i:=0) rfl) ?_;refine vg (b:=nb false<|decide<|jo w.cps.toList=w) (by rw[xj];exact Ax rfl) ⟨λj L2=>L2=J/\j=[some<|.ref a,some<|.str w,some<|.int ((c+1:Nat):Int)],?_,_,EC _,rfl,rfl⟩;rintro j L2 ⟨rfl,rfl⟩;exact⟨_,by lia,rfl,c+1,rfl,h,rfl⟩
  ·have ec:c=n:=by lia
   obtain⟨v,r',rfl,nv⟩:=h2 ws<|ec▸ew;refine qb o<|qj (jT (i:=0) rfl) ?_;refine jz (b:=nb false<|decide<|jo v=w) (Ar nv) ?_;exact qh l<|g ec
 ·have I:¬(c:Int)<(((U.map Y.ref).length:Nat):Int):=I;rw[Ab] at I;exact qh l<|g (by lia)
inductive eM(ys:List Y)(L:qi)(Q:YK):Prop
 |mk:∀r,∀w:Str,∀c:Yb,(ys=[.ref r])->(pQ L r<|wy w c)->(c.1<250)->(c.2<250)->(Q (.tup [.int ((c.1:Nat):Int),.int ((c.2:Nat):Int)]) L)->eM ys L Q
def WO:∀ys L Q,eM ys L Q->jf (KN eh).1 1 ys L Q:=by rintro ys L Q ⟨r,w,c,rfl,I,J,U,q⟩;have I:L r=some (.lst<|i0<|wy w c):=I;exact qb I<|qb I<|qj (jT (i:=1) rfl) ⟨c.1,rfl,J,qb I<|qj (jT (i:=2) rfl) ⟨c.2,rfl,U,jw q⟩⟩
def oo(j:x5)(J:x5)(g:x5)(U:x5)(I:x5):RD "read_web" oU 125 ["text","rows","knot_rows","link_rows","cut_rows","links","cuts","web"] (λV=>JC V j/\JD V J/\JI V g/\JH V U/\Jx V I):=⟨_,λV B c _ _ _ _ _ _ _ l hN o=>(qa (S_ 1 hN<|C_ c.1 l<|zx<|qv 0)<|qa (S_ 2 hN<|C_ c.2.1 l<|v5 (qv 1) qo)<|qa (S_ 1 hN<|vq (eE _ _ _) (qv 1) (w5<|L_ B.ba<|qv 2) aE)<|qa (S_ 3 hN<|C_ c.2.1 l<|v5 (qv 1) qo)<|qa (S_ 4 hN<|vq (eE _ _ _) (qv 1) (w5<|L_ B.ba<|qv 3) aE)<|qa (ze (N_ o (qv 4)<|C_ c.2.1 l<|v5 (qv 4) qo) (qc av) qt)<|qa (a7 ["row"] (i:=5) hN rfl (Or.inl rfl) (EI (by rfl)) rfl (j9<|qv 3) (fK 8) (λ_ _ _ _=>wm) λ_ _ _ _=>(C_ c.2.2.1 l<|zx<|qv 8))<|qa (a7 ["row"] (i:=6) hN rfl (Or.inl rfl) (EI (by rfl)) rfl (j9<|qv 4) (fK 8) (λ_ _ _ _=>wm) λ_ _ _ _=>(C_ c.2.2.1 l<|zx<|qv 8))<|qa (S_ 7 hN<|zf<|ag (C_ c.2.2.2.1 l<|zx<|qv 2) (qv 5)<|qv 6)<|qa (qw<|C_ c.2.2.2.2 l<|zx<|qv 7)<|qc<|qm<|qv 7)⟩
def xL{X:List<|List<|X2}(i:Nat)(h:i<wd.length):∃r,(ke 0 wd++X)[i]?=some (("knot" : Str).cps.toList::r):=by rw[AC (by rw[vj];exact h),oC<|Ag h];exact⟨_,rfl⟩
def nN{w:Str}{X:List<|List<|X2}(i:Nat)(h:i<l.length):∃r,(l.map (wy w)++X)[i]?=some (w.cps.toList::r):=by rw[AC (by rw[Ab];exact h),Ai,Ag h];exact⟨_,rfl⟩
def iw{w v:Str}(h:v≠w){ws:List<|X2}(e:(l.map<|wy v)[0]?=some ws):∃x r,ws=x::r/\jo x≠w:=by cases l with|nil=>cases e|cons c r=>cases e;exact⟨_,_,rfl,by rw[xj];exact h⟩
def KQ{a b:List α}{n:Nat}(h:a.length=n):(a++b).take n=a:=by subst h;exact List.take_left ..
def KR{a b:List α}{n:Nat}(h:a.length=n):(a++b).drop n=b:=by subst h;exact List.drop_left ..
def vS(ws:List<|X2):Da:=.lst<|ws.map λw=>Da.s<|.str<|jo w
theorem KS:∀ws:List (X2),Da.eqs (ws.map λw=>Da.s<|.str<|jo w) (ws.map λw=>Da.s<|.str<|jo w)=true
 |[]=>rfl
 |w::r=>by rw[AD,Da.eqs,KS r];simp[Da.eq,gH]
theorem vU:∀rows:List (List<|X2),Da.eqs (rows.map vS) (rows.map vS)=true
 |[]=>rfl
 |ws::r=>by rw[AD,Da.eqs,vU r];show(Da.eqs _ _&&true)=true;rw[KS];rfl
theorem jS{L:qi}:∀{I:List Addr} {rows:List<|List<|X2},Paired (pQ L) I rows->Paired (jd L 1) (I.map Y.ref) (rows.map vS)
 |_,_,.nil=>.nil
 |_,_,.cons h t=>.cons (w4 h<|mP _)<|jS t
inductive gZ(ys:List Y)(L:qi)(Q:YK):Prop
 |mk:∀z:Str,∀wd:List (Yp),∀lk ct:XY,(ys=[.str z])->(z.length<=100000)->(vh z.cps.toList=ah wd lk ct)->(WbO wd lk ct)->(FD wd lk ct)->((∃(x:Nat) (k:Kn),wd[x]?=some (some k)))->(∀a l c L',qf L L'->L' a=some (.lst<|xz wd)->L' l=some (.lst<|z9 lk)->L' c=some (.lst<|z9 ct)->Q (fJ a l c) L')->gZ ys L Q
def WP(l:XX)(c:Yb):z9 l++[.tup [.int ((c.1:Nat):Int),.int ((c.2:Nat):Int)]]=z9 (l++[c]):=by unfold z9;rw[Aw];rfl
def WQ:∀ys L Q,gZ ys L Q->jf (oo fG eS eM fA mR).1 8 ys L Q:=by
 rintro ys L Q ⟨z,U,lk,j,rfl,hz,er,T,S,ex,q⟩;have big:∀m:Nat,m<=25000->m<sizeLine:=λm h=>AW h (by decide);refine⟨z,rfl,hz,λp g L1 s1 g1 o=>?_⟩;rw[er] at o;unfold ah at o;have rl:=EG o;rw[Ac,Ac,vj,Ab,Ab] at rl;have kr:=vj U 0;refine⟨p,"knot",g,_,U.length,rfl,g1,o,by rw[Ac,kr];lia,xL,λws e=>?_,λpk hk=>fN hk λL2 s2 g2=>?_⟩
 ·rw[AI (by rw[kr];exact Ak _),kr,CB] at e;cases lk with|nil=>exact iw (by decide +kernel) e|cons c r=>exact iw (l:=c::r) (v:="link") (by decide +kernel) e
 have l1:((g.take U.length).map Y.ref).length=U.length:=by rw[Ab,AJ];lia
 refine qb g2<|qh (s2 _ _ g1) λp3 h3=>?_;rw[l1,fF,<-DV];refine fN h3 λL3 s3 g3=>?_;have a1:=EE o λb t (J:pQ L1 b t)=>(show pQ L3 b t from s3 _ _<|s2 _ _ J);have pK:=Paired.takeP U.length a1;rw[KQ kr] at pK;have pD:=Paired.dropP U.length a1;rw[KR kr] at pD;generalize al:g.drop U.length=rd at g3 pD ⊢;have ld:=EG pD;rw[Ac,Ab,Ab] at ld;refine⟨p3,"link",rd,_,lk.length,rfl,g3,pD,by rw[Ac,Ab];lia,nN,λws e=>?_,λp4 h4=>fN h4 λL4 s4 g4=>?_⟩
 ·rw[AI (by rw[Ab];exact Ak _),Ab,CB] at e;exact iw (v:="cut") (by decide +kernel) e
 have l4:((rd.take lk.length).map Y.ref).length=lk.length:=by rw[Ab,AJ];lia
 refine qb g4<|qh (s4 _ _ g3) λp5 h5=>?_;rw[l4,fF,<-DV];refine fN h5 λL5 s5 g5=>?_;have a2:=EE pD λb t (J:pQ L3 b t)=>(show pQ L5 b t from s5 _ _<|s4 _ _ J);have pL:=Paired.takeP lk.length a2;rw[KQ<|Ab ..] at pL;have pC:=Paired.dropP lk.length a2;rw[KR<|Ab ..] at pC;generalize rd.drop lk.length=rc at g5 pC ⊢;generalize rd.take lk.length=rk at g4 pL;have lc:=EG pC;rw[Ab] at lc;refine⟨p5,"cut",rc,j.map<|wy "cut",j.length,rfl,g5,pC,by rw[Ab];exact Ak _,λi hi=>?_,(λws e=>by rw[Cb (by rw[Ab];exact Ak _)] at e;cases e),λp6 h6=>?_⟩
 ·have:=nN (w:="cut") (X:=[]) i hi;rw[AG] at this;exact this
 rw[AY (by lia)];refine fN h6 λL6 s6 g6=>?_;have C:=EE pC λb t (J:pQ L5 b t)=>(show pQ L6 b t from s6 _ _ J);refine⟨rfl,rfl,2,2,_,_,by decide,w4 (s6 _ _ g5)<|jS C,w4 g6<|jS C,?_⟩;refine jz (b:=nb true<|Da.eqs ((j.map<|wy "cut").map vS)<|(j.map<|wy "cut").map vS) (by rw[vU];rfl) ?_;have turn:∀(w:Str) (l:XX) (g:List Addr) (M:qi) (i:Nat) (y:Y) (I:List Y),Paired (pQ M) g (l.map<|wy w)->(∀c∈l,c.1<250/\c.2<250)->(g.map Y.ref)[i]?=some y->I=z9 (l.take i)->eM [y] M λz L4=>iP (λI L'=>L'=M/\I=z9 (l.take<|i+1)) (I++[z]) L4:=λw l g M i y I o hl ey e=>by rw[Ai] at ey;obtain⟨r,er,rfl⟩:=Am.mp ey;obtain⟨ws,ew,hr⟩:=EL o er;rw[Ai] at ew;obtain⟨c,ec,rfl⟩:=Am.mp ew;obtain⟨k1,k2⟩:=hl c<|AB ec;refine⟨r,w,c,rfl,hr,k1,k2,M,EC _,rfl,?_⟩;rw[e,WP,AZ,ec];rfl
 have a0:=EG pL;rw[Ab] at a0;have a3:=EE pL λb t (J:pQ L5 b t)=>(show pQ L6 b t from s6 _ _ J);refine zp (s6 _ _<|s5 _ _ g4) λkeep kp=>wf (λi I=>I=z9 (lk.take i)) (by rw[Ab,a0];exact big _ (by have:=T.ll;lia)) (kp _ rfl) rfl (λi y I ey e=>turn "link" lk rk L6 i y I a3 T.lA ey e) ?_;rintro I rfl pl a4;rw[Ab,a0,AX];refine fN a4 λL7 s7 g7=>?_;have a5:=EE C λb t (J:pQ L6 b t)=>(show pQ L7 b t from s7 _ _ J);refine zp (s7 _ _<|s6 _ _ g5) λkeep kp=>wf (λi I=>I=z9 (j.take i)) (by rw[Ab,lc];exact big _ (by have:=T.cl;lia)) (kp _ rfl) rfl (λi y I ey e=>turn "cut" j rc L7 i y I a5 T.cA ey e) ?_;rintro I rfl pc ab;rw[Ab,lc,AX];refine fN ab λL8 s8 g8=>?_;have sK:=(((s4.trans s5).trans s6).trans s7).trans s8;have ac:=EE pK λb t (J:pQ L3 b t)=>(show pQ L8 b t from sK _ _ J);refine⟨pk,g.take U.length,U,rfl,sK _ _<|s3 _ _ g2,ac,T.ks,T.len,λw hw=>fN hw λL9 s9 g9=>?_⟩;exact⟨w,pl,pc,U,lk,j,rfl,g9,s9 _ _<|s8 _ _ g7,s9 _ _ g8,S,ex,jw<|q w pl pc L9 ((((s1.trans s2).trans s3).trans sK).trans s9) g9 (s9 _ _<|s8 _ _ g7)<|s9 _ _ g8⟩
def oP:RD "_law_lines" gh 0 ["_law_web_here","_law_lines_here","_law_p","_law_knot","_law_tail","_law_q"] (λ_=>True):=⟨_,λV B c _ _ _ _ _ _ _ J hN I=>(qa (S_ 1 hN<|zc x9)<|qa (vv xT rfl (bK rfl B.be<|J_ 0) (vz (n:=2) rfl<|qz (G_ 2 hN)<|qz (G_ 3 hN) x4)<|qa (S_ 4 hN<|zc<|zx qo)<|x6 (ze (vn<|wc (m9<|qv 3)<|va<|E_ I (L_ B.ba<|qv 3) qe) (qa (S_ 4 hN<|zc<|zx<|qk j7 qo<|J_ 3)<|qc<|ze (E_ I (J_ 3) qo) (qc<|S_ 4 hN<|zc<|zx<|qk j7 qo<|J_ 3) qt) qt)<|x6 (ze (vn<|wc (m9<|qv 3)<|va<|E_ I (L_ B.ba<|qv 3) qe) (qc<|S_ 4 hN<|zc<|ag (J_ 3) (vm fz rfl B.b_str cq<|zx<|J_ 3)<|vm fz rfl B.b_str cq<|zx<|J_ 3) qt)<|qc<|qw<|qx (qv 1)<|zx<|qk j7 (zc<|v5 qo<|vm fz rfl B.b_str cq<|zx<|qv 2)<|qv 4)<|qa (vv xT rfl (j9<|J_ 0) (vz (n:=2) rfl<|qz (G_ 2 hN)<|qz (G_ 5 hN) x4)<|qc<|qw<|qx (qv 1)<|zx<|zc<|ag qo (vm fz rfl B.b_str cq<|zx<|qv 2)<|vm fz rfl B.b_str cq<|zx<|qv 5)<|qa (vv xT rfl (j9<|J_ 0) (vz (n:=2) rfl<|qz (G_ 2 hN)<|qz (G_ 5 hN) x4)<|qc<|qw<|qx (qv 1)<|zx<|zc<|ag qo (vm fz rfl B.b_str cq<|zx<|qv 2)<|vm fz rfl B.b_str cq<|zx<|qv 5)<|qc<|qm<|qv 1)⟩
def qW:RD "_law_text" kI 0 ["_law_lines_here"] (λ_=>True):=⟨_,λV B c _ _ _ _ _ _ _ I hN J=>(qc<|qm<|cO qo<|zx<|aV ["_law_line"] (EI (by rfl)) rfl (j9<|qv 0) (fK 1) (λ_ _ _ _=>wm) λ_ _ _ _=>(qk j7 (cO qo<|zx<|qv 1) qo))⟩
def oN(I:x5):RD "_law_loose" iI 1 ["_law_lines_here","_law_seed","_law_text_here","_law_k","_law_line","_law_bits","_law_at","_law_row"] (λV=>Ga V I):=⟨_,λV B c _ _ _ _ _ _ _ U hN J=>(qa (S_ 2 hN qo)<|qa (vv xT rfl (bK rfl B.be<|qv 0) (vz (n:=2) rfl<|qz (G_ 3 hN)<|qz (G_ 4 hN) x4)<|qa (S_ 5 hN<|C_ c U<|ag (qv 1) (qv 3) qe)<|x6 (ze (E_ J (qk jh (qv 5) qe) qe) (qc<|S_ 2 hN<|qk j7 (qk j7 (qv 2)<|qk uH qo<|qk jh (qk v4 (qv 5) qe) qe) qo) qt)<|qa (S_ 6 hN<|qk j7 qe<|qk jh (qk v4 (qv 5) qe)<|qk aw (L_ B.ba<|qv 4) qe)<|qa (S_ 7 hN<|qk j7 (qk j7 (cO qo<|zx<|vq (eE _ _ _) (qv 4) aE<|w5<|qv 6)<|qk uH qo<|qk j7 qe<|qk jh (qk v4 (qv 5) qe) qe)<|cO qo<|zx<|vq (eE _ _ _) (qv 4) (w5<|qv 6) aE)<|qc<|S_ 2 hN<|qk j7 (qk j7 (qk j7 (qk j7 (qv 2)<|qk uH qo<|qk jh (qk v4 (qv 5) qe) qe)<|qv 7)<|qk uH qo<|qk jh (qk v4 (qv 5) qe) qe) qo)<|qa (ze (E_ J (qk jh (qk v4 (qv 1) qe) qe) qe) (qc<|qm<|vq (eE _ _ _) (qv 2) aE<|w5<|qk aw (L_ B.ba<|qv 2) qe) qt)<|qc<|qm<|qv 2)⟩
def mO{n:Nat}(h:n<=30000):n<=sizeLine:=AE h (by decide)
def tG:((" " : Str).cps.toList)=[32]:=by decide +kernel
def WR(P:Addr)(L:qi)(r:Addr)(ws:List<|X2):Prop:=r≠P/\L r=some (.lst<|i0 ws)
def KU:Yp->List (X2)
 |some (.lf t n)=>m7<|some<|.lf t n
 |_=>m7 none
def LnI(P:Addr)(L0 L:qi)(rows:List<|List<|X2):Prop:=∃I:List Addr,qf L0 L/\L P=some (.lst<|I.map Y.ref)/\Paired (WR P L) I rows
def LnI.mono{P:Addr}(h:LnI P L0 L rows)(s:qf L L'):LnI P L0 L' rows:=by obtain⟨I,a,b,c⟩:=h;exact⟨I,a.trans s,s _ _ b,EE c λr ws k=>⟨k.1,s _ _ k.2⟩⟩
def LnI.put{P r:Addr}{ws:List<|X2}{Q:YK}(U:L0 P=none)(h:LnI P L0 L rows)(j:L r=some (.lst<|i0 ws))(l:rows.length<=1000)(I:r≠P)(q:∀L',LnI P L0 L' (rows++[ws])->Q .non L'):jq (.ref P) [.ref r] L Q:=by
 obtain⟨o,s,g,J⟩:=h;have p:=EG J;refine qh g ⟨by rw[Ab,p];exact AW l (by decide),q _ ⟨o++[r],s.upd U,?_,?_⟩⟩
 ·rw[q9,Aw];rfl
 ·exact bL (EE J λb t k=>⟨k.1,(qd k.1).trans k.2⟩) ⟨I,(qd I).trans j⟩
inductive si(ys:List Y)(L:qi)(Q:YK):Prop
 |mk:∀a l c,∀wd:List (Yp),∀lk ct:XY,(ys=[fJ a l c])->(L a=some (.lst<|xz wd))->(L l=some (.lst<|z9 lk))->(L c=some (.lst<|z9 ct))->(WbO wd lk ct)->(∀p rs L',qf L L'->L' p=some (.lst<|rs.map Y.ref)->Paired (pQ L') rs (ah wd lk ct)->Q (.ref p) L')->si ys L Q
def WS(w:Str):dR:=aA<|lO jq (ql 1)<|qr (gd<|qr (yC<|.str w)<|qr (rD Gk<|qr (ql 2) jn)<|qr (rD Gk<|qr (ql 5) jn) jn) jn
def KY{w:Str}{P:Addr}{c:Yb}{v0:Y}{I J:Option Y}(j:L0 P=none)(h:LnI P L0 L rows)(l:rows.length<=1000)(hc:c.1<250/\c.2<250)(q:∀L',LnI P L0 L' (rows++[wy w c])->D.nx [some v0,some<|.ref P,some<|.int ((c.1:Nat):Int),I,J,some<|.int ((c.2:Nat):Int)] L'):
 WS w D [some v0,some<|.ref P,some<|.int ((c.1:Nat):Int),I,J,some<|.int ((c.2:Nat):Int)] L:=by
 obtain⟨t,s,g,C⟩:=id h;refine qh g ⟨lg hc.1,lg hc.2,λp U=>?_⟩;have o:p≠P:=AN<|vt g U;refine(h.mono<|By U).put (Q:=λ_ r=>D.nx _ r) j (ws:=wy w c) ?_ l o q;rw[q9,bP hc.1,bP hc.2];show _=some (LO.lst [Y.str<|jo w.cps.toList,_,_]);rw[xj]
def WT:∀ys L Q,si ys L Q->jf oP.1 6 ys L Q:=by
 rintro ys L Q ⟨a,l,c,wd,lk,ct,rfl,ha,hl,hc,T,q⟩;have n:=T.n.2;rw[jF] at n;intro P hP;have s0:=By (o:=.lst []) hP;refine zp (s0 _ _ ha) λkeep kp=>ve ⟨λi j U=>(∃C c3 c4 r,j=[some<|fJ a l c,some<|.ref P,C,c3,c4,r])/\LnI P L U (ke 0<|wd.take i),⟨⟨_,_,_,_,rfl⟩,[],s0,q9,.nil⟩,?_,?_,?_⟩
 ·rintro i j U ⟨_,rs,s,_⟩;exact kp _<|(s _ _ ha).trans (s0 _ _ ha).symm
 ·rintro i y j L1 ey ⟨⟨C,c3,c4,r,rfl⟩,I⟩;obtain⟨z,ez,rfl⟩:=aT ey;obtain⟨k,ek,rfl⟩:=KO ez;have hi:i<wd.length:=(AM.mp ek).1;have J:=T.ks k<|AB ek;have a2:i<250:=by have:=T.len;lia
  intro t0 a3;refine fN a3 λL2 s2 g2=>?_;have I2:=I.mono s2;have g2:L2 t0=some (.lst<|i0<|m7 none):=by rw[g2];show _=some (LO.lst [Y.str<|jo ("gone" : Str).cps.toList]);rw[xj]
  refine⟨λa0 U=>∃t,a0=[some<|fJ a l c,some<|.ref P,some<|.int (i:Int),some<|fP k,some<|.ref t,r]/\qf L2 U/\U t=some (.lst<|i0<|KU k),?_,?_⟩
  ·match k,J with
   |none,_=>exact⟨t0,rfl,EC _,g2⟩
   |some (.nd e x y),_=>exact⟨t0,rfl,EC _,g2⟩
   |some (.lf t n),J=>
    have l8:=J.2.1;have e1:∀(t:Bool) (x:Str),x=jo [sgC t]->some (LO.lst [Y.str<|x++n])=some (.lst<|i0<|KU<|some<|.lf t n):=λt x e=>by subst e;show _=some (LO.lst [Y.str<|jo<|sgC t::n.cps.toList]);have:=bF [sgC t] n.cps.toList;rw[xj] at this;rw[this];rfl
    have l1:∀x:Str,x.length=1->x.length+n.length<=sizeLine:=λx h=>mO (by lia);refine⟨l1 "+" (by decide +kernel),λp hp=>?_⟩;cases t with|false=>exact⟨p,rfl,By hp,q9.trans<|e1 false "+" (by decide +kernel)⟩|true=>exact⟨l1 "-" (by decide +kernel),λp2 a1=>⟨p2,rfl,(By hp).trans<|By a1,q9.trans<|e1 true "-" (by decide +kernel)⟩⟩
  ·rintro a0 L3 ⟨t,rfl,s3,g3⟩;refine⟨λa0 U=>∃t,a0=[some<|fJ a l c,some<|.ref P,some<|.int (i:Int),some<|fP k,some<|.ref t,r]/\qf L2 U/\U t=some (.lst<|i0<|m7 k),?_,?_⟩
   ·match k,J with
    |none,_=>exact⟨t,rfl,s3,g3⟩
    |some (.lf _ _),_=>exact⟨t,rfl,s3,g3⟩
    |some (.nd e x y),J=>
     refine⟨lg J.1,lg J.2,λp hp=>⟨p,rfl,s3.trans<|By hp,?_⟩⟩;rw[q9,bP J.1,bP J.2];show _=some (LO.lst [Y.str<|jo (kN e).cps.toList,_,_]);rw[xj]
   ·rintro a0 L4 ⟨t,rfl,s4,g4⟩;have I4:=I2.mono s4;obtain⟨rs,_,g,_⟩:=id I4;refine qh g ⟨lg a2,λp hp=>⟨_,_,q9,By hp _ _ g4,?_,λp2 a1=>?_⟩⟩
    ·rw[sd];have:=(sS k).1;exact mO (by show 2+_<=30000;lia)
    have I5:=(I4.mono<|By hp).mono<|By (o:=.lst<|[Y.str "knot",Y.str<|Str.ofString<|toString ((i:Nat):Int)]++i0 (m7 k)) a1;refine I5.put (Q:=λ_ L1=>iP _ _ L1) hP (ws:=gy i k) ?_ (by rw[vj,AJ];have:=T.len;lia) (AN<|vt (By hp _ _ g) a1) λL6 I6=>⟨_,EC _,⟨_,_,_,_,rfl⟩,?_⟩
    ·rw[q9,bP a2];show _=some (LO.lst<|Y.str (jo ("knot" : Str).cps.toList)::_);rw[xj];rfl
    ·rw[AZ,ek];show LnI P L L6 (ke 0<|wd.take i++[k]);rw[gC,CC,B6<|Bp hi];exact I6
 ·rintro j L1 ⟨⟨C,c3,c4,r,rfl⟩,I⟩;rw[ky,Ab,AX] at I;obtain⟨_,s1,_,_⟩:=id I;refine zp (s1 _ _ hl) λkeep kp=>ve ⟨λi j U=>(∃C c3 c4 r,j=[some<|fJ a l c,some<|.ref P,C,c3,c4,r])/\LnI P L U (ke 0 wd++(lk.take i).map (wy "link")),⟨⟨_,_,_,_,rfl⟩,by rw[DC,CA,AG];exact I⟩,?_,?_,?_⟩
  ·rintro i j U ⟨_,rs,s,_⟩;exact kp _<|(s _ _ hl).trans (s1 _ _ hl).symm
  ·rintro i y j L2 ey ⟨⟨C,c3,c4,r,rfl⟩,I⟩;obtain⟨d,ed,rfl⟩:=xY ey;refine KY (w:="link") hP I (by rw[Ac,vj,Ab,AJ];lia) (T.lA d<|AB ed) λU I'=>⟨_,EC _,⟨_,_,_,_,rfl⟩,?_⟩;rw[AZ,ed,Aw,<-Aq];exact I'
  ·rintro j L2 ⟨⟨C,c3,c4,r,rfl⟩,I⟩;rw[Ab,AX] at I;obtain⟨_,s2,_,_⟩:=id I;refine zp (s2 _ _ hc) λkeep kp=>ve ⟨λi j U=>(∃C c3 c4 r,j=[some<|fJ a l c,some<|.ref P,C,c3,c4,r])/\LnI P L U (ke 0 wd++lk.map (wy "link")++(ct.take i).map (wy "cut")),⟨⟨_,_,_,_,rfl⟩,by rw[DC,CA,AG];exact I⟩,?_,?_,?_⟩
   ·rintro i j U ⟨_,rs,s,_⟩;exact kp _<|(s _ _ hc).trans (s2 _ _ hc).symm
   ·rintro i y j L3 ey ⟨⟨C,c3,c4,r,rfl⟩,I⟩;obtain⟨d,ed,rfl⟩:=xY ey;refine KY (w:="cut") hP I (by rw[Ac,Ac,vj,Ab,Ab,AJ];lia) (T.cA d<|AB ed) λU I'=>⟨_,EC _,⟨_,_,_,_,rfl⟩,?_⟩;rw[AZ,ed,Aw,<-Aq];exact I'
   ·rintro j L3 ⟨⟨C,c3,c4,r,rfl⟩,rs,s,g,pr⟩;rw[Ab,AX,Aq] at pr;exact jw<|q P rs L3 s g<|EE pr λb t k=>k.2
def oh(z:Str)(ls:List<|X2):Txt.join z (ls.map jo)=jo (Txs.gl z.cps.toList ls):=by
 refine str_list ?_;rw[rX];show(Builtin.Str.glued z<|ls.map jo).cps.toList=_;rw[Txs.glued_list,BH];congr 1
 conv=>rhs;rw[<-List.map_id ls]
 exact Dy λl _=>rX l
theorem KZ:∀{ws:List<|X2} {M:Nat},(∀w∈ws,w.length<=M)->((ws.map jo).map (·.length)).sum<=M*ws.length
 |[],_,_=>A3 _
 |w::r,M,h=>by have J:=h w<|Ao ..;have U:=KZ λv I=>h v<|Af _ I;show(jo w).length+((r.map jo).map (·.length)).sum<=M*(r.length+1);rw[dE,Nat.mul_succ];lia
def sV{ws:List<|X2}(g:∀w∈ws,GW w)(J:ws.length<=1600):((ws.map jo).map (·.length)).sum+(ws.map jo).length*(" " : Str).length<=16777216:=by
 have U:=KZ λw hw=>(g w hw).2.2.2;have I:(" " : Str).length=1:=by decide +kernel
 rw[I,Ab];lia
structure RwI(L:qi)(a:Addr)(rows:List<|List<|X2):Prop where
 ex:∃rs:List Addr,L a=some (.lst<|rs.map Y.ref)/\Paired (pQ L) rs rows
 gr:∀ws∈rows,GR ws
 n:uQ rows<=1600
 len:rows.length<=370
 two:∀ws∈rows,2<=ws.length
theorem RwI.ws{a:Addr}(h:RwI L a rows){ws:List<|X2}(hw:ws∈rows):ws.length<=1600:=by obtain⟨u,v,e⟩:=Ca hw;have:=h.n;rw[e,gR] at this;have:uQ u+(ws.length+uQ v)<=1600:=this;lia
inductive gb(ys:List Y)(L:qi)(Q:YK):Prop
 |mk:∀a,∀rows:List (List<|X2),(ys=[.ref a])->(RwI L a rows)->(Q (.str<|jo<|pP rows) L)->gb ys L Q
def WU:∀ys L Q,gb ys L Q->jf qW.1 1 ys L Q:=by
 rintro ys L Q ⟨a,rows,rfl,I,q⟩;have big:=a_;obtain⟨rs,T,l⟩:=I.ex;have o:=EG l;have hn:=I.len;refine zp T λkeep kp=>wf (λi J=>J=((rows.take i).map r_).map Y.str) (by rw[Ab,o];exact big _ (by lia)) (kp _ rfl) rfl ?_ ?_
 ·rintro i y J t rfl;rw[Ai] at t;obtain⟨r,er,rfl⟩:=Am.mp t;obtain⟨ws,C,U⟩:=EL l er;have j:=AB C;have g:=(I.gr ws j).2;have U:L r=some (.lst<|i0 ws):=U;refine qh U ⟨ws.map jo,rfl,sV g<|I.ws j,?_⟩;rw[oh,tG];refine⟨?_,L,EC _,rfl,?_⟩
  ·have:=eJ g;have:=I.ws j;rw[dE,rp,dE];exact mO (by simp only[Au,BR];lia)
  ·rw[rp,bF,AZ,C,Aw,Aw];rfl
 ·rintro J rfl p hp;rw[Ab,o,AX];refine qh q9 ⟨rows.map r_,rfl,?_,bC (By hp) ?_⟩
  ·rw[tz];have h1:=gM I.gr;have h2:=I.n;have h0:("" : Str).length=0:=rfl;rw[h0];lia
  ·rw[oX];exact q
structure LoT(rows:List<|List<|X2)(T:X2):Prop where
 on:∀X,vh (T++X)=rows++vh X
def LoT.blank{T:X2}(h:LoT rows T)(n:Nat):LoT rows (T++bl n++[10]):=⟨λX=>by rw[Aq,Aq,h.on];show _++vh (bl n++10::X)=_;rw[Ws (mj n)<|xQ n]⟩
def LoT.row{T N:X2}{ws:List<|X2}(h:LoT rows T)(I:10∉N)(e:Txs.wds N=ws)(J:ws≠[])(n:Nat):LoT (rows++[ws]) (T++N++bl n++[10]):=⟨λX=>by
 have U:T++N++bl n++[10]++X=T++((N++bl n)++10::X):=by simp
 have g:10∉N++bl n:=λz=>(An.mp z).elim I<|mj n;rw[U,h.on,vM g ((Wu N n).trans e) J];simp⟩
theorem jZ(X:X2):∀n,Txs.wds (bl n++X)=Txs.wds X
 |0=>rfl
 |n+1=>by have:=Txs.wds_app []<|bl n++X;rw[BZ] at this;show Txs.wds (32::(bl n++X))=_;rw[this,jZ X n];rfl
def WV{u v:List<|X2}(I:∀w∈u,GW w)(J:∀w∈v,GW w)(b n:Nat):Txs.wds (bl b++(Txs.gl [32] u++bl (n+1)++Txs.gl [32] v))=u++v:=by rw[jZ,Aq];show Txs.wds (Txs.gl [32] u++32::(bl n++Txs.gl [32] v))=_;rw[Txs.wds_app,jZ,tI I,tI J]
def m4(x:Int):0<=x % 4/\x % 4<=1000/\(x % 4).toNat<=3:=by omega
def m3(x:Int):0<=x % 3/\x % 3<=1000/\(x % 3).toNat<=2:=by omega
def Gm:(" " : Str).length<=100:=by decide +kernel
inductive cT(ys:List Y)(L:qi)(Q:YK):Prop
 |mk:∀a,∀rows:List (List<|X2),∀s:Int,(ys=[.ref a,.int s])->(RwI L a rows)->(rows≠[])->(∀T,vh T=rows->T.length<=30000->Q (.str<|jo T) L)->cT ys L Q
def yr(l:X2)(c:Nat)(k:Int)(e:k=(l.length:Int)):Txt.slice (jo<|l++[c]) none (some k)=jo l:=by subst e;refine str_list ?_;rw[eY,rX,rX,dE,HT.sIx_none,HT.sIx_nat,Ac,BC (by lia),Eh,Df,List.take_left]
theorem zH:∀ys L Q,cT ys L Q->jf (oN bN).1 8 ys L Q:=by
 rintro ys L Q ⟨a,rows,s,rfl,I,r0,q⟩;have big:=a_;obtain⟨rs,ha,pr⟩:=I.ex;have rl:=EG pr;have hn:=I.len;have mono:∀i,uQ (rows.take i)<=1600:=λi=>by have:=gR (rows.take i)<|rows.drop i;rw[A1] at this;have:=I.n;lia
 refine zp ha λkeep kp=>ve ⟨λi p g=>g=L/\∃T c3 c4 c5 t C,p=[some<|.ref a,some<|.int s,some<|.str<|jo T,c3,c4,c5,t,C]/\LoT (rows.take i) T/\T.length<=14*i+11*uQ (rows.take i)/\(0<i->∃J,T=J++[10]),⟨rfl,[],_,_,_,_,_,rfl,⟨λX=>rfl⟩,A3 _,λh=>absurd h<|CZ _⟩,?_,?_,?_⟩
 ·rintro i p g ⟨rfl,_⟩;exact kp _ rfl
 ·rintro i y p g ey ⟨rfl,T,c3,c4,c5,t,C,rfl,lo,lT,_⟩;obtain⟨z,ez,rfl⟩:=aT ey;rw[Ai] at ez;obtain⟨r,er,rfl⟩:=Am.mp ez;obtain⟨ws,ew,j⟩:=EL pr er;have j:g r=some (.lst<|i0 ws):=j;have hi:i<rows.length:=(AM.mp ew).1;have mw:=AB ew;obtain⟨w0,gw⟩:=I.gr ws mw;have w2:=I.two ws mw;have et:rows.take (i+1)=rows.take i++[ws]:=by rw[AZ,ew];rfl
  have en:uQ (rows.take<|i+1)=uQ (rows.take i)+ws.length:=by rw[et,gR];show _+(ws.length+0)=_;rfl
  have m1:=mono<|i+1;refine⟨s,(i:Int),16807,rfl,by lia,by lia,by decide,by decide,λn _ _=>?_⟩;refine⟨λl L2=>L2=g/\∃o,l=[some<|.ref a,some<|.int s,some<|.str<|jo o,some<|.int (i:Int),some<|.ref r,some<|.int n,t,C]/\LoT (rows.take i) o/\o.length<=T.length+4,⟨(show(0:Int)<5 by decide),sJ (λ_=>?_) λ_=>⟨rfl,T,rfl,lo,by lia⟩⟩,?_⟩
  ·obtain⟨b0,b1,b2⟩:=m4<|n / 5;refine⟨⟨by decide,by decide⟩,(show(0:Int)<4 by decide),⟨b0,b1,Gm⟩,?_⟩;rw[sg];generalize (n / 5 % 4).toNat=b at b2;refine⟨by rw[dE,dE,AS];exact mO (by lia),?_⟩;rw[bF,rp];refine⟨by rw[dE,dE,Ac,AS];exact mO (by simp only[Au,BR];lia),?_⟩;rw[bF];exact⟨rfl,_,rfl,lo.blank b,by simp only[Ac,AS,Au,BR];lia⟩
  ·rintro l L2 ⟨rfl,o,rfl,lo1,l1⟩;refine⟨⟨by decide,by decide⟩,qb j ⟨by show(0:Int)<(((i0 ws).length:Nat):Int)-1;rw[sd];lia,?_⟩⟩;obtain⟨k,ek,k0,k1⟩:∃k:Nat,1+n / 20 % ((((i0 ws).length:Nat):Int)-1)=(k:Int)/\0<k/\k<ws.length:=by rw[sd];have h0:=C2 (n / 20) (show((ws.length:Nat):Int)-1≠0 by lia);have h1:=C5 (n / 20) (show(0:Int)<((ws.length:Nat):Int)-1 by lia);exact⟨(1+n / 20 % (((ws.length:Nat):Int)-1)).toNat,by lia,by lia,by lia⟩
   walk_at "w";rw[ek];have gu:∀w∈ws.take k,GW w:=λw hw=>gw w<|Bz hw;have gv:∀w∈ws.drop k,GW w:=λw hw=>gw w<|Cj hw;have hU:=eJ gu;have hV:=eJ gv;rw[AJ] at hU;rw[BD] at hV;refine qh j λp5 h5=>?_;have e5:fw (i0 ws) none (some (k:Int))=i0 (ws.take k):=by rw[Jb];unfold i0;rw[Es,Es]
   rw[e5];have wl:=I.ws mw;refine fN h5 λL5 s5 g5=>?_;refine qh g5 ⟨(ws.take k).map jo,rfl,sV gu (by rw[AJ];lia),?_⟩;rw[oh,tG];obtain⟨b0,b1,b2⟩:=m4<|n / 100;refine⟨⟨by decide,by decide⟩,(show(0:Int)<4 by decide),⟨by lia,by lia,Gm⟩,?_⟩;have e4:(1+n / 100 % 4).toNat=(n / 100 % 4).toNat+1:=by lia
   rw[sg,e4];generalize (n / 100 % 4).toNat=m at b2;refine⟨by rw[dE,dE,AS];exact mO (by lia),?_⟩;rw[bF];refine qh (s5 _ _ j) λp6 h6=>?_;have e6:fw (i0 ws) (some (k:Int)) none=i0 (ws.drop k):=by rw[fF];unfold i0;rw[DV,DV]
   rw[e6];refine fN h6 λL6 s6 g6=>?_;refine qh g6 ⟨(ws.drop k).map jo,rfl,sV gv (by rw[BD];lia),?_⟩;rw[oh,tG];refine⟨by rw[dE,dE,Ac,AS];exact mO (by lia),?_⟩;rw[bF];generalize hN:Txs.gl [32] (ws.take k)++bl (m+1)++Txs.gl [32] (ws.drop k)=N;have lN:N.length<=11*ws.length+4:=by rw[<-hN];simp only[Ac,AS];lia
   obtain⟨b0,b1,b3⟩:=m3<|n / 400;refine⟨⟨by decide,by decide⟩,(show(0:Int)<3 by decide),⟨b0,b1,Gm⟩,?_⟩;rw[sg];generalize (n / 400 % 3).toNat=b at b3;refine⟨by rw[dE,dE,AS];exact mO (by lia),?_⟩;rw[bF];refine⟨by rw[dE,dE,Ac,AS];exact mO (by lia),?_⟩;rw[bF];obtain⟨d0,d1,d3⟩:=m3<|n / 1200;refine⟨⟨by decide,by decide⟩,(show(0:Int)<3 by decide),⟨d0,d1,Gm⟩,?_⟩;rw[sg];generalize (n / 1200 % 3).toNat=b' at d3;refine⟨by rw[dE,dE,Ac,Ac,AS,AS];exact mO (by lia),?_⟩;rw[bF,rp];refine⟨by rw[dE,dE];simp only[Ac,AS,Au,BR];exact mO (by lia),?_⟩;rw[bF];refine⟨_,s5.trans s6,rfl,_,_,_,_,_,_,rfl,?_,?_,λ_=>⟨_,rfl⟩⟩
   ·rw[et,Aq o];refine lo1.row (N:=bl b++N) (λz=>?_) ?_ w0 b'
    ·rcases An.mp z with z|z
     ·exact mj b z
     ·rw[<-hN] at z;rcases An.mp z with z|z
      ·exact(An.mp z).elim (sT gu) (mj _)
      ·exact sT gv z
    ·rw[<-hN,WV gu gv,A1]
   ·rw[en];simp only[Ac,AS,Au,BR];lia
 ·rintro p g ⟨rfl,T,c3,c4,c5,t,C,rfl,lo,lT,U⟩;rw[ky,Ab,rl,AX] at lo lT;rw[ky,Ab,rl] at U;have e:=lo.on [];rw[AG] at e;have e:vh T=rows:=e.trans<|AG _;have hw:=I.n;obtain⟨J,eT⟩:=U<|CW.mpr r0;clear U lo;rw[eT] at e lT ⊢;rw[Ac] at lT;refine⟨⟨by decide,by decide⟩,(show(0:Int)<2 by decide),sJ (λ_=>?_) λ_=>jw (q _ e (by rw[Ac];lia))⟩;have lz:(jo<|J++[10]).length<=sizeLine:=by rw[dE,Ac];exact mO (by lia)
  refine⟨lz,lz,?_⟩;show bM Q (Y.str<|Txt.slice (jo<|J++[10]) none<|some<|(((jo<|J++[10]).length:Nat):Int)-1) _;rw[yr J 10 _ (by rw[dE,Ac];show((J.length+1:Nat):Int)-1=_;lia)];exact jw<|q J ((Wt J).symm.trans e) (by lia)
def WW(I:x5)(p1:x5)(p2:x5)(p3:x5)(p4:x5)(p5:x5)(p6:x5)(p7:x5)(p8:x5):dR:=(xa (vo (a9 sw (xw I<|gJ (ql 0)<|cD 0)<|a9 Rm (cD 10)<|cD 9)<|qp 1)
 (xa (vo (xw p1<|qr (ql 0)<|qr (ql 1)<|gJ (cD 80)<|cD 100)<|qp 2)
 (xa (vo (xw p2<|ix<|ql 2)<|qp 3)
 (xa (vo (xw p3<|ix<|ql 3)<|qp 4)
 (xa (vo (xw p4<|ix<|ql 2)<|qp 5)
 (xa (fO (GY (FR<|yB<|xw p5<|qr (xw p6<|ix<|ql 5)<|ix<|ql 4)<|FR<|yB<|xw p5<|gJ (ql 5)<|ql 2) (oG<|yC<|.bl false) fT)
 (xa (fO (FR<|yB<|xw p5<|qr (xw p7<|ix<|ql 4)<|ix<|ql 2) (oG<|yC<|.bl false) fT)
 (oG<|xw p5<|qr (xw p7<|qr (xw p8<|gJ (ql 3)<|ql 1) jn)<|ix<|ql 2))))))))
def pX.nmo(W:pX wd lk ct){p:Nat}{n:Str}(h:wd[p]?=some (some<|.lf t n)):aF n:=by
 obtain⟨l,R,E,C,a0,a1,f,ok,a2,tp,hk,I,pl,pc,ho,rn,_⟩:=W.ex;obtain⟨y,hy,rfl,o,U,J⟩:=rn.inv h;cases o with
 |none=>cases J
 |some o=>
  cases o with
  |nd b i j=>cases J
  |lf t' n'=>
   cases J;rcases ho with rfl|⟨qs,B,T⟩
   ·rw[Ai] at U;obtain⟨k,e,r⟩:=Am.mp U;cases r;exact ok y _ e
   ·have g:y<l.length:=by have:=zd U;rw[T.len] at this;exact this
    have J:=Ag g;generalize l[y]=k at J;cases k with
    |lf t2 n2=>
     have e:=T.lf y t2 n2 g J;rw[U] at e;cases e;exact ok y _ J
    |nd e i j=>
     rcases T.nd y e i j g J with⟨e,_⟩|⟨_,e⟩
     ·rw[U] at e;cases e
     ·rw[U] at e;cases e
def KW.ltp{p:Nat}{w:Wd}(h:KW (xz wd) p w):p<wd.length:=by
 have:∃y,(xz wd)[p]?=some y:=by cases w with|leaf t n=>exact⟨_,h⟩|node e l r=>obtain⟨i,j,h,_⟩:=h;exact⟨_,h⟩
 obtain⟨y,e⟩:=this;have:=zd e;rwa[Ab] at this
def pX.wbo(W:pX wd lk ct):WbO wd lk ct:=by
 obtain⟨I,o⟩:=W.webI;obtain⟨S,_⟩:=W.snd;have r:=I.len;refine⟨λk C=>?_,r,λc J=>?_,λc J=>?_,o,I.ctl⟩
 ·obtain⟨p,U⟩:=List.mem_iff_getElem?.mp C;cases k with
  |none=>trivial
  |some k=>
   cases k with
   |lf t n=>exact W.nmo U
   |nd e i j=>
    have:=I.ok p e i j U;have T:=zd U;exact⟨by lia,by lia⟩
 ·obtain⟨_,t,n,g,l⟩:=S.lkA c J;have:=zd g;have:=zd l;exact⟨by lia,by lia⟩
 ·obtain⟨w,g,l,_⟩:=I.cut c J;have:=g.ltp;have:=l.ltp;exact⟨by lia,by lia⟩
def WbO.two :∀ws∈ah wd lk ct,2<=ws.length:=λws hw=>by
 have I:∀(wd:List<|Yp) (p:Nat),∀ws∈ke p wd,2<=ws.length:=λwd=>by
  induction wd with
  |nil=>intro p ws h;cases h
  |cons k r J=>
   intro p ws h;rcases Ap.mp h with rfl|h
   ·show 2<=(m7 k).length+1+1;lia
   ·exact J _ ws h
 rcases An.mp hw with hw|hw
 ·exact I _ _ ws hw
 ·rcases An.mp hw with hw|hw
  ·obtain⟨c,_,rfl⟩:=Bj.mp hw;show 2<=3;decide
  ·obtain⟨c,_,rfl⟩:=Bj.mp hw;show 2<=3;decide
def jM{n:Nat}{a l c I J:Addr}(h1:L a=some (.lst<|xz wd))(h2:L l=some (.lst<|z9 lk))(U:L c=some (.lst<|z9 ct))(g1:L I=some (.lst<|xz wd))(g2:L J=some (.lst<|z9 lk))(g3:L c'=some (.lst<|z9 ct)):dO L (n+4) (fJ I J c') (fJ a l c):=
 .inr (.inl ⟨_,_,rfl,rfl,.cons (gF g1 h1<|Wl _)<|.cons (gF g2 h2<|uZ _)<|.cons (gF g3 U<|uZ _) .nil⟩)
theorem WX :∀ys L Q,nH Pt lamQ ys L Q->jf (WW cj (tD Pt) si gb nG (eX 124) sD gZ cT) 6 ys L Q:=by
 rintro ys L Q ⟨ns,rfl,a0,hL,q⟩;have hP:L Pt=some (.tb lamQ):=by rw[hL];exact q9
 clear hL;refine⟨ns,0,rfl,by decide,λv=>⟨⟨by decide,by decide,by decide⟩,(show(0:Int)<10 ^ (9:Int).toNat by decide),_,ns,_,100,80,rfl,rfl,by lia,by decide,hP,λwa la ca J lk U L1 W s1 nw nl nc n1 n2 n3 C e2 e3=>?_⟩⟩;have X:=W.wbo;obtain⟨S,x0,k0,l,_⟩:=W.snd;have ex:∃(x:Nat) (k:Kn),J[x]?=some (some k):=⟨x0,k0,l⟩;have p:=X.n;have r0:ah J lk U≠[]:=λz=>by have e:=Bs List.length z;rw[jF] at e;have:=zd l;have e:J.length+(lk.length+U.length)=0:=e;lia
 clear W hP nw nl nc s1 n1 n2 n3;refine⟨wa,la,ca,J,lk,U,rfl,C,e2,e3,X,λr rs L2 j g2 pr=>?_⟩;have I:RwI L2 r (ah J lk U):=⟨⟨rs,g2,pr⟩,X.gr,p.1,p.2,WbO.two⟩;refine⟨r,_,rfl,I,?_⟩;refine⟨wa,la,ca,_,_,_,rfl,j _ _ C,j _ _ e2,j _ _ e3,λa' l' c' L3 o _ _ _ _ _ _ f1 f2 f3=>?_⟩;have h1:=o _ _<|j _ _ C;have h2:=o _ _<|j _ _ e2;have h3:=o _ _<|j _ _ e3;have tl:=gM X.gr;refine⟨a',l',c',J,lk,U,rfl,f1,f2,f3,X,⟨_,_,rfl,.flat rfl,⟨_,_,rfl,jM (n:=120) h1 h2 h3 f1 f2 f3,?_⟩⟩⟩;refine⟨_,J,lk,U,rfl,by rw[dE];lia,by rw[rX,ut X.gr],X,S,ex,λa4 l4 c4 L4 g y1 y2 y3=>⟨_,_,rfl,jM (n:=120) (g _ _ h1) (g _ _ h2) (g _ _ h3) y1 y2 y3,?_⟩⟩;have I4:RwI L4 r (ah J lk U):=⟨⟨rs,g _ _<|o _ _ g2,EE pr λb t k=>g _ _<|o _ _ k⟩,X.gr,p.1,p.2,WbO.two⟩;exact⟨r,_,_,rfl,I4,r0,λT eT lT=>⟨_,J,lk,U,rfl,by rw[dE];lia,by rw[rX,eT],X,S,ex,λa5 l5 c5 L5 s5 y1 y2 y3=>⟨_,_,rfl,jM (n:=120) (s5 _ _<|g _ _ h1) (s5 _ _<|g _ _ h2) (s5 _ _<|g _ _ h3) y1 y2 y3,jw<|q _⟩⟩⟩
end L3
end
set_option maxRecDepth 100000
set_option maxHeartbeats 8000000
namespace K15
open PySem L2 L3 Words
abbrev ng:Str:="_law_knots"
abbrev nh:Str:="_law_script"
abbrev ni:Str:="_law_p"
abbrev nj:Str:="_law_seed"
abbrev nq:Str:="_law_knot"
theorem WY{us:XZ}{n:Nat}(h:us.length=n+1):∃a r,us=a::r/\r.length=n:=by cases us with|nil=>cases h|cons a r=>exact⟨a,r,rfl,Nat.succ.inj h⟩
structure DD(K:Ah):Prop where
 D0:zj K "is_name" r9
 D1:zj K "is_leaf" qQ
 D2:zj K "turned" vG
 D3:zj K "word_at" rC
 D4:zj K "holds_leaf" gx
 D5:zj K "parts_of" nL
 D6:zj K "parts_in" nJ
 D7:zj K "places_in" kQ
 D8:zj K "each_once" lU
 D9:zj K "parts_fit" mB
 D10:zj K "are_knots" kZ
 D11:zj K "is_link" rG
 D12:zj K "are_links" lI
 D13:zj K "can_be_cut" iX
 D14:zj K "is_cut" wH
 D15:zj K "are_cuts" oI
 D16:zj K "demand" xD
 D17:zj K "checked_web" fb
 D18:zj K "shown_knot" iR
 D19:zj K "written_knots" dM
 D20:zj K "written_pairs" dI
 D21:zj K "written_web" fi
 D22:zj K "words_in" pI
 D23:zj K "rows_in" rO
 D24:zj K "rows_ahead" i7
 D25:zj K "is_number" lM
 D26:zj K "number_from" f7
 D27:zj K "leaf_from" lF
 D28:zj K "knot_from" lK
 D29:zj K "knots_from" iD
 D30:zj K "pair_from" lE
 D31:zj K "read_web" oU
 D32:zj K "_law_cell_at" dW
 D33:zj K "_law_same" kK
 D34:zj K "_law_mix" nM
 D35:zj K "_law_name" mD
 D36:zj K "_law_word" mE
 D37:zj K "_law_flip" lB
 D38:zj K "_law_weight" fZ
 D39:zj K "_law_mirror" qM
 D40:zj K "_law_join" l6
 D41:zj K "_law_fold" lh
 D42:zj K "_law_cut" yO
 D43:zj K "_law_tree" kO
 D44:zj K "_law_told" mF
 D45:zj K "_law_crossed" da
 D46:zj K "_law_beneath" dm
 D47:zj K "_law_recast" qA
 D49:zj K "_law_gapped" qE
 D50:zj K "_law_web" oW
 D51:zj K "_law_copy" kF
 D52:zj K "_law_lines" gh
 D53:zj K "_law_text" kI
 D54:zj K "_law_loose" iI
 D55:zj K "law" vN
structure B_(V:V_):Prop extends B0_ V,DD V.K where
 hp:∃h:Yh,V.K.In h/\h.Ns mainGlobals V.mg
 D48:DefInT V.K "_law_order" s__law_order V.Pt
local macro_rules|`(tactic| walk_at "s")=>`(tactic| exact⟨rfl,rfl,rfl,by decide +kernel,rfl,by decide +kernel,by decide +kernel⟩)
local macro_rules|`(tactic| walk_at "l")=>`(tactic| (rintro _ _ _ h;cases h;subst_vars;rfl))
local macro_rules|`(tactic| walk_at "x")=>`(tactic| (intro _;walk_at "l"))
local macro_rules|`(tactic| walk_at "b")=>`(tactic| (intro _ _ _ _ _ _ us hl;(repeat (obtain⟨_,_,e,h⟩:=WY hl;clear hl;subst e;have hl:=h;clear h));cases List.eq_nil_of_length_eq_zero hl;rfl))
section
variable {f:Addr}{fd:FuncData}{x q:Str}{st:Stmt}{ps:X4}(V:V_)(k:Nat)(N:X4)
theorem W_{sp:x5}{t:dR}(F:Fun V.K x q st f fd)(j:∀ys L Q,sp ys L Q->jf t N.length ys L Q)(h:Fz V k N q st f t)(U:ak N ps (zb st):=by walk_at "s")(len:∀ys L Q,sp ys L Q->ys.length=ps.length:=by walk_at "l"):Fn3 V.P V.w V.K V.mg V.base (k+1) f fd ps sp:=
 Rh F U len λJ A I s H E g=>⟨t,h J A I s H E g U.nd<|Ix g,j⟩
theorem M_{sp:x5}{t:dR}(I:∃h:Yh,V.K.In h/\h.Ns mainGlobals V.mg)(D:zj V.K x st)(J:∀ys L Q,sp ys L Q->jf t N.length ys L Q)(h:∀f,Fz V k N x st f t)(U:ak N ps (zb st):=by walk_at "s")(len:∀ys L Q,sp ys L Q->ys.length=ps.length:=by walk_at "l")(g:Hk x st ps:=by walk_at "b"):Q_ V (k+1) x ps sp:=by obtain⟨_,X,G⟩:=I;obtain⟨f,fd,F,b,m⟩:=D.use X G g;exact Cal.of (W_ V k N F J (h f) U len) b F.kp m
theorem R_{sp:Nat->x5}{t:Nat->dR}(I:∃h:Yh,V.K.In h/\h.Ns mainGlobals V.mg)(D:zj V.K x st)(no:∀ys L Q,¬sp 0 ys L Q)(J:∀n ys L Q,sp (n+1) ys L Q->jf (t n) N.length ys L Q)(h:∀n f,Q_ V (n+k) x ps (sp n)->Fz V (n+k) N x st f (t n))(n:Nat)(U:ak N ps (zb st):=by walk_at "s")(len:∀n ys L Q,sp n ys L Q->ys.length=ps.length:=by walk_at "x")(g:Hk x st ps:=by walk_at "b"):Q_ V (n+k) x ps (sp n):=by
 obtain⟨_,X,G⟩:=I;obtain⟨f,fd,F,b,m⟩:=D.use X G g
 induction n with|zero=>exact Cal.of (Fn3.never no) b F.kp m|succ n j=>rw[Nat.add_right_comm];exact Cal.of (W_ V (n+k) N F (J n) (h n f j) U<|len _) b F.kp m
theorem T_{sp:x5}{t:dR}(U:∃h:Yh,V.K.In h/\h.Ns mainGlobals V.mg)(D:DefInT V.K x st V.Pt)(g:∀ys L Q,sp ys L Q->jf t N.length ys L Q)(h:∀f,∀(eW:Yc) (A:Around) (outer:List Env) (s:Yd) (H:Hp) (E:XK),Fh V.K eW V.Pt->am k (A.deeper<|PyProof.Rows.envOfC x (zb st) s.heap.objs.size f eW)->N.Nodup->(A.deeper<|PyProof.Rows.envOfC x (zb st) s.heap.objs.size f eW).units+128<cLine->d_ (qO CX0 V.P V.w V.K V.mg V.base N x (zb st) f eW A outer s H E).nox (jy st) t)(I:ak N ps (zb st):=by walk_at "s")(len:∀ys L Q,sp ys L Q->ys.length=ps.length:=by walk_at "l")(j:Hk x st ps:=by walk_at "b"):Q_ V (k+1) x ps sp:=by obtain⟨_,X,G⟩:=U;obtain⟨f,fd,F,b,m⟩:=D.use X G j;exact Cal.of (UR F I len λeW A outer s H E C J=>⟨t,h f eW A outer s H E C J I.nd<|Ix J,g⟩) b F.kp m
end
section
variable {V:V_}(B:B_ V)
include B
theorem d1:Jn V (cN):=M_ V _ _ B.hp B.D0 yo<|(qR).2 V B.toB0_ ⟨⟩
theorem d2:Ff V (kw):=M_ V _ _ B.hp B.D1 yQ<|(qU).2 V B.toB0_ ⟨⟩
theorem d3:Hf V (aM 120):=R_ V _ _ B.hp B.D2 Ue Uc (λn=>(u8 _ _).2 V B.toB0_ (d2 B) n) 120
theorem d4:Jo V (xg 120):=R_ V _ _ B.hp B.D3 ou yJ (λn=>(rf _ _).2 V B.toB0_ (d2 B) n) 120
theorem d5:Hg V (dw):=M_ V _ _ B.hp B.D4 V8<|(gi _).2 V B.toB0_<|d2 B
theorem d6:Hh V (eQ):=M_ V _ _ B.hp B.D5 UF<|(o7 _).2 V B.toB0_<|d2 B
theorem d7:Hi V (gq):=M_ V _ _ B.hp B.D6 VU<|(nK _).2 V B.toB0_<|d6 B
theorem d8:Hj V (gg):=M_ V _ _ B.hp B.D7 VC<|(lL).2 V B.toB0_ ⟨⟩
theorem d9:F9 V (fH):=M_ V _ _ B.hp B.D8 V7<|(lC).2 V B.toB0_ ⟨⟩
theorem d10:Jp V (nE):=M_ V _ _ B.hp B.D9 V9<|(kW _ _).2 V B.toB0_ ⟨(d6 B),(d9 B)⟩
theorem WZ:Jq V (fE):=M_ V _ _ B.hp B.D10 V'<|(lQ _).2 V B.toB0_<|d10 B
theorem W0:Jr V (eV):=M_ V _ _ B.hp B.D11 Wa<|(rQ _ _).2 V B.toB0_ ⟨(d3 B),(d5 B)⟩
theorem W1:Js V (e9):=M_ V _ _ B.hp B.D12 Wf<|(kJ _ _ _).2 V B.toB0_ ⟨(W0 B),(d5 B),(d8 B)⟩
theorem W2:Jt V (t7):=M_ V _ _ B.hp B.D13 Wg<|(gp _).2 V B.toB0_<|d7 B
theorem W3:Ju V (iH):=M_ V _ _ B.hp B.D14 Wh<|(vT _ _ _).2 V B.toB0_ ⟨(W2 B),(d4 B),(d3 B)⟩
theorem W4:Jv V (iV):=M_ V _ _ B.hp B.D15 Wi<|(oK _ _ _).2 V B.toB0_ ⟨(W3 B),(d9 B),(d8 B)⟩
theorem W5:Jw V (eU):=M_ V _ _ B.hp B.D16 Wj<|(wM).2 V B.toB0_ ⟨⟩
theorem W6:Jx V (mR):=M_ V _ _ B.hp B.D17 Wk<|(fc _ _ _ _ _ _).2 V B.toB0_ ⟨(W5 B),(WZ B),(d9 B),(d7 B),(W1 B),(W4 B)⟩
theorem W7:Jy V (tK):=M_ V _ _ B.hp B.D18 WC<|(gY _).2 V B.toB0_<|d2 B
theorem W8:Jz V (tH):=M_ V _ _ B.hp B.D19 WE<|(dG _).2 V B.toB0_<|W7 B
theorem W9:JA V (t8):=M_ V _ _ B.hp B.D20 WF<|(dN).2 V B.toB0_ ⟨⟩
theorem W':Sy V (sD):=M_ V _ _ B.hp B.D21 WG<|(fU _ _).2 V B.toB0_ ⟨(W8 B),(W9 B)⟩
theorem Xa:JB V (cJ):=M_ V _ _ B.hp B.D22 yT<|(oy).2 V B.toB0_ ⟨⟩
theorem Xb:JC V (fG):=M_ V _ _ B.hp B.D23 WM<|(rK _).2 V B.toB0_<|Xa B
theorem Xc:JD V (eS):=M_ V _ _ B.hp B.D24 WN<|(gW).2 V B.toB0_ ⟨⟩
theorem Xd:JE V (gS):=M_ V _ _ B.hp B.D25 Wy<|(lD).2 V B.toB0_ ⟨⟩
theorem Hw:F_ V (eh):=M_ V _ _ B.hp B.D26 WA<|(f6 _).2 V B.toB0_<|Xd B
theorem Xe:JF V (iL):=M_ V _ _ B.hp B.D27 WJ<|(lV _).2 V B.toB0_<|d1 B
theorem Xf:JG V (hZ):=M_ V _ _ B.hp B.D28 WK<|(l7 _ _).2 V B.toB0_ ⟨(Xe B),(Hw B)⟩
theorem Xg:JH V (fA):=M_ V _ _ B.hp B.D29 WL<|(gQ _ _).2 V B.toB0_ ⟨(Hw B),(Xf B)⟩
theorem Xh:JI V (eM):=M_ V _ _ B.hp B.D30 WO<|(KN _).2 V B.toB0_<|Hw B
theorem K1:Sz V (gZ):=M_ V _ _ B.hp B.D31 WQ<|(oo _ _ _ _ _).2 V B.toB0_ ⟨(Xb B),(Xc B),(Xh B),(Xg B),(W6 B)⟩
theorem Xi:SA V (cj):=M_ V _ _ B.hp B.D32 yx<|(eF).2 V B.toB0_ ⟨⟩
theorem Gn:SD V (eX 124):=R_ V _ _ B.hp B.D33 sR Ui (λn=>(lH _).2 V B.toB0_ ⟨⟩ n) 124
theorem Fj:Ga V (bN):=M_ V _ _ B.hp B.D34 Uf<|(ox).2 V B.toB0_ ⟨⟩
theorem Xj:JJ V (gU):=M_ V _ _ B.hp B.D35 Vb<|(uV).2 V B.toB0_ ⟨⟩
theorem K2:SE V (xg 120):=R_ V _ _ B.hp B.D36 tE uW (λn=>(lu _).2 V B.toB0_ ⟨⟩ n) 120
theorem Hx:SF V (aB 120):=R_ V _ _ B.hp B.D37 Ut Uu (λn=>(Ka _).2 V B.toB0_ ⟨⟩ n) 120
theorem Xk:SG V (ar 120):=R_ V _ _ B.hp B.D38 oD Uh (λn=>(f9 _).2 V B.toB0_ ⟨⟩ n) 120
theorem Xl:SH V (aO 5):=R_ V 122 [ng,"_law_word_here","_law_left","_law_right","_law_turn","_law_same_here","_law_low","_law_high"] B.hp B.D39 UD (UE (FS:=aB 120) λ_ _ _ h=>h) (λ_ _ I _ _ _ _ _ _ J hN U=>(qa (ze (E_ U (L_ B.ba<|qv 1) qe) (qa (qw<|qx (qv 0)<|zx<|C_ (Hx B) J<|zx<|qv 1)<|qa (qw<|qx (qv 0)<|zx<|qv 1)<|qc<|qm<|zc<|ag (zf<|ag qo (qk aw (L_ B.ba<|qv 0) qe)<|qk aw (L_ B.ba<|qv 0) qe) (qk aw (L_ B.ba<|qv 0) qe)<|qk aw (L_ B.ba<|qv 0) qe) qt)<|qa (S_ 2 hN<|C_ I J<|v5 (qv 0)<|J_ 1)<|qa (S_ 3 hN<|C_ I J<|v5 (qv 0)<|J_ 1)<|qa (qw<|qx (qv 0)<|zx<|zf<|ag (I_ (C_ (Hx B) J<|zx<|qv 1) qe) (J_ 2)<|J_ 3)<|qa (qw<|qx (qv 0)<|zx<|zf<|ag (J_ 1) (J_ 2)<|J_ 3)<|qa (IU (i:=4) (j:=5) rfl hN rfl rfl (by decide) rfl rfl (v5 (qk aw (L_ B.ba<|qv 0) qe)<|qk aw (L_ B.ba<|qv 0) qe) rfl)<|qa (S_ 6 hN<|dX (E_ U (J_ 1) qo) (qv 4)<|qv 5)<|qa (S_ 7 hN<|dX (E_ U (J_ 1) qo) (qv 5)<|qv 4)<|qc<|qm<|zc<|ag (zf<|ag qo (qv 7)<|zf<|xl qo<|ag (qv 6) (J_ 2)<|J_ 3) (qv 4)<|qv 5)) 5
theorem Xm:JK V (nF):=M_ V _ _ B.hp B.D40 Vh<|(Kk).2 V B.toB0_ ⟨⟩
theorem Xn:JL V (iF):=M_ V _ _ B.hp B.D41 Vi<|(Kl).2 V B.toB0_ ⟨⟩
theorem Xo:JM V (md):=M_ V 127 [ng,"_law_forest","_law_one","_law_two","_law_first",ni,"_law_word_here","_law_second","_law_q","_law_at","_law_end","_law_rule","_law_same_here","_law_ends"] B.hp B.D42 (Vo (FS:=aB 120) (MS:=aO 5) (λ_ _ _ h=>h) λ_ _ _ h=>h) λ_ _ _ _ _ _ _ I hN J=>(qa (S_ 4 hN<|bp (qv 1)<|zx<|qk jh (qv 3)<|L_ B.ba<|qv 1)<|qa (aa (i:=5) hN rfl (Or.inr rfl)<|I_ (J_ 4)<|qk jh (qk v4 (qv 3) qe)<|L_ B.ba<|J_ 4)<|qa (S_ 6 hN<|C_ (K2 B) I<|v5 (qv 0)<|qv 5)<|qa (fj (zf<|v5 jO jO)<|vz rfl<|qz (G_ 7 hN)<|qz (mo (i:=8) hN rfl<|Or.inr rfl) x4)<|qa (vv xT rfl (bY rfl B.bg<|zx<|L_ B.ba<|qv 1) (G_ 9 hN)<|qc<|vv xT rfl (j9<|I_ (I_ (qv 1)<|qv 9) qe) (G_ 10 hN)<|qc<|ze (vn<|wc (nS<|qv 7)<|va<|E_ J (C_ (K2 B) I<|v5 (qv 0)<|qv 10)<|C_ (Hx B) I<|zx<|qv 6) (qc<|fj (zf<|v5 (I_ (qv 1)<|qv 9)<|qv 10)<|vz rfl<|qz (G_ 7 hN)<|qz (mo (i:=8) hN rfl<|Or.inr rfl) x4) qt)<|qa (ze (vn<|wc (nS<|qv 7)<|va<|jl FZ (C_ (Xk B) I<|zx<|qv 6) qe<|jk _) (qa (qw<|qx (qv 1)<|zx<|qv 4)<|qc IT) qt)<|x6 (ze (nS<|qv 7) (qa (fj (C_ (Xl B) I<|v5 (qv 0)<|qv 6)<|Tq rfl<|qz (G_ 11 hN)<|qz (mo (i:=8) hN rfl<|Or.inr rfl)<|qz (G_ 12 hN) x4)<|qc<|S_ 7 hN<|zc<|v5 (qv 11)<|zc<|v5 (qv 8)<|qv 12)<|qc<|qw<|Tt J (qv 1)<|zx<|qv 7)<|qa (a7 ["_law_x"] (i:=13) hN rfl (Or.inl rfl) (EI (by rfl)) rfl (j9<|qk j7 (J_ 4)<|J_ 7) (i8 q_ (λ_ _ _ _=>Or.inl rfl) λ_ _ _ _=>rfl) (λ_ _ _ _=>cV<|jl (oZ _ _ _) (qv 14) (zf<|v5 (qv 5)<|qv 8) (by with_unfolding_all rfl)) λ_ _ _ _=>(qv 14))<|qc<|ze (E_ J (qk jh (qv 2) qe) qe) (qc<|qw<|qx (qv 1)<|zx<|zc<|v5 (zf<|xl qo<|xl (qv 5)<|ag (qv 8) (J_ 4)<|J_ 7)<|qv 13)<|qc<|qw<|qx (qv 1)<|zx<|zc<|v5 (zf<|xl qo<|xl (qv 8)<|ag (qv 5) (J_ 7)<|J_ 4)<|qv 13)
theorem Xp:JN V (iU):=M_ V _ _ B.hp B.D43 alt<|(Kq _ _ _ _ _).2 V B.toB0_ ⟨(Fj B),(Xj B),(Xn B),(Xm B),(Xo B)⟩
theorem Xq:JO V (gL):=M_ V _ _ B.hp B.D44 Vx<|(kE).2 V B.toB0_ ⟨⟩
theorem Xr:JP V (az):=M_ V _ _ B.hp B.D45 yZ<|(eL).2 V B.toB0_ ⟨⟩
theorem Xs:SI V (cx):=M_ V _ _ B.hp B.D46 yX<|(eB).2 V B.toB0_ ⟨⟩
theorem Xu:JQ V (bw):=M_ V 1 [ng,"_law_cuts",nj,"_law_most","_law_kept","_law_parts",nq,"_law_many","_law_made",ni,"_law_bits"] B.hp B.D47 VH λ_ _ _ _ _ _ _ J hN I=>(qa (S_ 4 hN<|C_ (Xs B) J<|v5 (qv 0)<|qv 1)<|qa (S_ 5 hN<|zc x9)<|qa (vv xT rfl (j9<|qv 0) (G_ 6 hN)<|qc<|ze (E_ I (L_ B.ba<|qv 6) qe) (qc<|qw<|bR (qv 5)<|zx<|zc<|v5 (J_ 6)<|J_ 6) qt)<|qa (sO "_law_knot'"<|aa (i:=7) q_ rfl (Or.inl rfl)<|L_ B.ba<|aV [nq] (EI (by rfl)) rfl (j9<|qv 0) (i8 q_ (λ_ _ _ _=>Or.inl rfl) λ_ _ _ _=>rfl) (λ_ _ _ _=>cV<|E_ I (J_ 11) qo) λ_ _ _ _=>(qv 11))<|qa (S_ 8 hN<|zc x9)<|qa (vv xT rfl (bK rfl B.be<|qv 0) (vz rfl<|qz (G_ 9 hN)<|qz (G_ 6 hN) x4)<|qa (S_ 10 hN<|qk jh (C_ (Fj B) J<|ag (qv 2) (qv 9) qe) qe)<|qc<|ze (vn<|im (E_ I (L_ B.ba<|qv 6) qe)<|cg<|jl (IK _ _ _) (qv 9) (qv 4) (by with_unfolding_all rfl)) (qc<|qw<|qx (qv 8)<|zx<|qv 6)<|qc<|ze (E_ I (qk jh (qk v4 (qv 2) qe) qe) qe) (qc<|qw<|qx (qv 8)<|zx<|dX (vn<|wc (E_ I (qk jh (qv 10) qe) qe)<|va<|jl (oZ _ _ _) (qv 9) (qv 5) (by with_unfolding_all rfl)) jO<|qv 6)<|qc<|ze (vn<|wc (jl iJ (qv 10) qe<|jk _)<|va<|E_ I (J_ 6) qo) (qa (qw<|qx (qv 8)<|zx<|zf<|ag qo (J_ 6)<|J_ 6)<|qc<|S_ 7 hN<|qk aw (qv 7) qe)<|qc<|ze (vn<|wc (jl iJ (qv 10) qe<|jk _)<|va<|jl iJ (qv 7) (qv 3)<|jk _) (qa (qw<|qx (qv 8)<|zx<|zf<|ag qo (J_ 6)<|J_ 6)<|qc<|S_ 7 hN<|qk j7 (qv 7) qe)<|qc<|qw<|qx (qv 8)<|zx<|qv 6)<|qc<|qm<|qv 8)
theorem Xv:SJ V (i4 V.Pt):=T_ V 1 [ng,nj,"_law_keys",ni,nq,"_law_rank"] B.hp B.D48 U_ λ_ _ _ _ _ _ _ C I hN J=>(qa (aa (i:=2) hN rfl (Or.inr rfl)<|zc x9)<|qa (vv xT rfl (bK rfl B.be<|qv 0) (vz rfl<|qz (G_ 3 hN)<|qz (G_ 4 hN) x4)<|qa (S_ 5 hN<|qk jh (C_ (Fj B) I<|ag (qv 1) (qv 3) qe) qe)<|x6 (ze (vn<|wc (m9<|qv 4)<|va<|E_ J (L_ B.ba<|qv 4) qe) (qc<|S_ 5 hN<|qk j7 (qk j7 (qv 5) qe)<|zy F1 rfl B.bj t9<|v5 (I_ (qv 2)<|J_ 4)<|I_ (qv 2)<|J_ 4) qt)<|qc<|qw<|qx (qv 2)<|zx<|qv 5)<|qc<|qm<|UQ rfl B.bb (yG rfl rfl B.bf rfl B.bg<|L_ B.ba<|qv 0) ⟨rfl,rfl,rfl,by decide +kernel,rfl,rfl,by decide,by decide,by decide⟩ C (U7 I) rfl rfl rfl ⟨_,rfl,rfl⟩ rfl λ_ _ _ _ _ _ _=>rfl)
theorem Xw:JR V (cB V.Pt):=M_ V 2 [ng,"_law_links","_law_cuts",nj,"_law_gaps","_law_at","_law_wide",ni,nq] B.hp B.D49 Vq λ_ _ _ _ _ _ _ J hN I=>(qa (aa (i:=5) hN rfl (Or.inr rfl) Sg)<|qa (S_ 6 hN<|zc x9)<|qa (vv xT rfl (j9<|C_ (Xv B) J<|v5 (qv 0)<|qv 3) (G_ 7 hN)<|x6 (ze (vn<|wc (xh<|qv 4)<|va<|E_ I (qk jh (C_ (Fj B) J<|ag (qv 3) (qv 7) qe) qe) qe) (qc<|qw<|qx (qv 6)<|zx jO) qt)<|qa (Sh I (qv 5) (qv 7)<|L_ B.ba<|qv 6)<|qa (S_ 8 hN<|I_ (qv 0)<|qv 7)<|x6 (ze (vn<|wc (m9<|qv 8)<|va<|E_ I (L_ B.ba<|qv 8) qe) (qc<|S_ 8 hN<|zf<|ag (J_ 8) (bH I (qv 5) (J_ 8) λ_ _=>rfl)<|bH I (qv 5) (J_ 8) λ_ _=>rfl) qt)<|qc<|qw<|qx (qv 6)<|zx<|qv 8)<|qa (sO "_law_p'"<|aa (i:=1) q_ rfl (Or.inl rfl)<|zy dC rfl B.bb ww<|zx<|aV [ni,"_law_q" ] (EI (by rfl)) rfl (j9<|qv 1) (sP rfl q_ (λ_ _ _ _=>rfl) λ_ _ _ _=>rfl) (λ_ _ _ _=>wm) λ_ _ _ _=>(zf<|v5 (zy zO rfl B.bh sW<|v5 (bH I (qv 5) (qv 9) λ_ _=>rfl)<|bH I (qv 5) (qv 10) λ_ _=>rfl)<|zy F1 rfl B.bj t9<|v5 (bH I (qv 5) (qv 9) λ_ _=>rfl)<|bH I (qv 5) (qv 10) λ_ _=>rfl))<|qa (sO "_law_p'"<|aa (i:=2) q_ rfl (Or.inl rfl)<|zy dC rfl B.bb ww<|zx<|aV [ni,"_law_q" ] (EI (by rfl)) rfl (j9<|qv 2) (sP rfl q_ (λ_ _ _ _=>rfl) λ_ _ _ _=>rfl) (λ_ _ _ _=>wm) λ_ _ _ _=>(zf<|v5 (bH I (qv 5) (qv 9) λ_ _=>rfl)<|bH I (qv 5) (qv 10) λ_ _=>rfl))<|qc<|qm<|zf<|ag (qk j7 (qv 6)<|aV ["_law_k"] (EI (by rfl)) rfl (bY rfl B.bg<|zx<|vm TF rfl B.bi uJ<|zx<|qv 4) (i8 q_ (λ_ _ _ _=>Or.inl rfl) λ_ _ _ _=>rfl) (λ_ _ _ _=>wm) λ_ _ _ _=>jO) (qv 1)<|qv 2)
theorem Xx:SK V (tD V.Pt):=M_ V _ _ B.hp B.D50 VQ<|(gD _ _ _ _ _ _).2 V B.toB0_ ⟨(Fj B),(Xp B),(Xq B),(Xr B),(Xu B),(Xw B)⟩
theorem Xy:SM V (nG):=M_ V _ _ B.hp B.D51 VW<|(lS).2 V B.toB0_ ⟨⟩
theorem Xz:SN V (si):=M_ V _ _ B.hp B.D52 WT<|(oP).2 V B.toB0_ ⟨⟩
theorem XA:SO V (gb):=M_ V _ _ B.hp B.D53 WU<|(qW).2 V B.toB0_ ⟨⟩
theorem XB:SQ V (cT):=M_ V _ _ B.hp B.D54 zH<|(oN _).2 V B.toB0_<|Fj B
theorem dL{f:Addr}{fd:FuncData}(F:Fun V.K "law" "law" vN f fd):Fn3 V.P V.w V.K V.mg V.base 131 f fd [nh] (nH V.Pt lamQ):=
 W_ V 130 [nh,nj,"_law_web_here","_law_lines_here","_law_due","_law_handed"] F WX λ_ _ _ _ _ _ I hN J=>(qa (S_ 1 hN<|qk jh (C_ (Xi B) I<|v5 (qv 0) qe)<|qk QX qe qe)<|qa (S_ 2 hN<|C_ (Xx B) I<|xl (qv 0)<|ag (qv 1) qe qe)<|qa (S_ 3 hN<|C_ (Xz B) I<|zx<|qv 2)<|qa (S_ 4 hN<|C_ (XA B) I<|zx<|qv 3)<|qa (S_ 5 hN<|C_ (Xy B) I<|zx<|qv 2)<|qa (ze (vn<|im (bQ<|xh<|C_ (Gn B) I<|v5 (C_ (W' B) I<|zx<|qv 5)<|qv 4)<|cg<|bQ<|xh<|C_ (Gn B) I<|v5 (qv 5)<|qv 2) (qc<|qm fW) qt)<|qa (ze (bQ<|xh<|C_ (Gn B) I<|v5 (C_ (K1 B) I<|zx<|qv 4)<|qv 2) (qc<|qm fW) qt)<|qc<|qm<|C_ (Gn B) I<|v5 (C_ (K1 B) I<|zx<|C_ (XB B) I<|v5 (qv 3)<|qv 1)<|qv 2)
end
theorem all_mk{l:PySem.W.OpenLaw}{w:Yg}{K:Ah}{h:Yh}{mg:XW}{fa:Addr}{a2:Tok}{g:Addr}{bi:Option Addr}{bj:Nat}{bm:Array<|X8}{a5 ab:Tok}{I:Addr}{a3:Nat}{o p r t C T a0 a1:Tok}{J:Addr}{bn:Nat}{ac al ba bb:Tok}{a4:Tok}{U:Addr}{c0:Nat}{bc bd be bf:Tok}{j:Addr}{c1:Option Addr}{c2:Nat}{c3:Array<|X8}{bg bh:Tok}{Pt:Addr}(X:K.In h)(G:h.Ns mainGlobals mg)(c4:mg "law"=some (.ref fa))
 (D:DD K)
 (D48:DefInT K "_law_order" s__law_order Pt)
 (aMOST_LETTERS:PySem.W.nsIn K mainGlobals "MOST_LETTERS"=some (some<|.int 8 a2))
 (aLEAF_KINDS:PySem.W.nsIn K mainGlobals "LEAF_KINDS"=some (some<|.ref g))
 (lLEAF_KINDS:K.lookup g=some ⟨.type "tuple",bi,.seq #[.str "plain" a5,.str "turned" ab] bj,bm⟩)
 (aTURNED_KINDS:PySem.W.nsIn K mainGlobals "TURNED_KINDS"=some (some<|.ref I))
 (lTURNED_KINDS:K.lookup I=some ⟨.type "dict",none,.dict ((([("plain",o,"turned",C),("turned",p,"plain",T),("both",r,"either",a0),("either",t,"both",a1)]:List<|Str×Tok×Str×Tok).map<|qZ w).toArray) a3,#[]⟩)
 (hTURNED_KINDS:(I==sysModules)=false)
 (aLEAF_SIGNS:PySem.W.nsIn K mainGlobals "LEAF_SIGNS"=some (some<|.ref J))
 (lLEAF_SIGNS:K.lookup J=some ⟨.type "dict",none,.dict ((([("plain",ac,"+",ba),("turned",al,"-",bb)]:List<|Str×Tok×Str×Tok).map<|qZ w).toArray) bn,#[]⟩)
 (hLEAF_SIGNS:(J==sysModules)=false)
 (aMOST_FIGURES:PySem.W.nsIn K mainGlobals "MOST_FIGURES"=some (some<|.int 4 a4))
 (aSIGN_KINDS:PySem.W.nsIn K mainGlobals "SIGN_KINDS"=some (some<|.ref U))
 (lSIGN_KINDS:K.lookup U=some ⟨.type "dict",none,.dict ((([("+",bc,"plain",be),("-",bd,"turned",bf)]:List<|Str×Tok×Str×Tok).map<|qZ w).toArray) c0,#[]⟩)
 (hSIGN_KINDS:(U==sysModules)=false)
 (aKNOT_KINDS:PySem.W.nsIn K mainGlobals "KNOT_KINDS"=some (some<|.ref j))
 (lKNOT_KINDS:K.lookup j=some ⟨.type "tuple",c1,.seq #[.str "both" bg,.str "either" bh] c2,c3⟩)
 (zall:PySem.W.nsIn K mainGlobals "all"=some none)
 (zlen:PySem.W.nsIn K mainGlobals "len"=some none)
 (zset:PySem.W.nsIn K mainGlobals "set"=some none)
 (zrange:PySem.W.nsIn K mainGlobals "range"=some none)
 (zany:PySem.W.nsIn K mainGlobals "any"=some none)
 (zenumerate:PySem.W.nsIn K mainGlobals "enumerate"=some none)
 (zsorted:PySem.W.nsIn K mainGlobals "sorted"=some none)
 (zint:PySem.W.nsIn K mainGlobals "int"=some none)
 (zisinstance:PySem.W.nsIn K mainGlobals "isinstance"=some none)
 (zbool:PySem.W.nsIn K mainGlobals "bool"=some none)
 (zlist:PySem.W.nsIn K mainGlobals "list"=some none)
 (ztuple:PySem.W.nsIn K mainGlobals "tuple"=some none)
 (zzip:PySem.W.nsIn K mainGlobals "zip"=some none)
 (zstr:PySem.W.nsIn K mainGlobals "str"=some none)
 (zmax:PySem.W.nsIn K mainGlobals "max"=some none)
 (zmin:PySem.W.nsIn K mainGlobals "min"=some none):
 ∃fd:FuncData,(∀(s:Yd) (v:Yc),BindsTo s fd ⟨[v],[]⟩ [(nh,v)])/\∀base:Yh,K.In base->base.Ns mainGlobals mg->bV l.prog w K mg base CX0 131 fa fd [nh] (spTopT lamQ K Pt):=by
 obtain⟨fL,kV,c5,pm,an,c6,ct,aL,FL⟩:=D.D55.ex;have e:=c4.symm.trans<|BP X G aL;cases e;refine⟨PySem.W.fnOf "law" "law" (kh vN) (jy vN) (zb vN) .none kV c5 pm an c6 ct,λs v=>.of_eq rfl,λbase _ _=>?_⟩;have B:B_ ⟨l.prog,w,K,mg,base,Pt⟩:=⟨⟨Bc X G zall,Bc X G zlen,Bc X G zset,Bc X G zrange,Bc X G zany,Bc X G zenumerate,Bc X G zsorted,Bc X G zint,Bc X G zisinstance,Bc X G zbool,Bc X G zlist,Bc X G ztuple,Bc X G zzip,Bc X G zstr,Bc X G zmax,Bc X G zmin,⟨_,BP X G aMOST_LETTERS,⟨_,rfl⟩,λ_ _=>rfl⟩,⟨g,BP X G aLEAF_KINDS,λH=>⟨g,[V.str "plain",V.str "turned"],rfl,.inr ⟨_,_,_,lLEAF_KINDS,rfl,rfl,by show 2<=sizeLine;decide,.cons ⟨_,rfl⟩<|.cons ⟨_,rfl⟩<|.nil⟩,⟨_,_,rfl,rfl,⟨_,_,rfl,rfl,rfl⟩⟩⟩⟩,⟨I,BP X G aTURNED_KINDS,λH=>⟨I,rfl,GU _ lTURNED_KINDS hTURNED_KINDS (by show 4<=1000;decide) (by show List.Nodup ([Sum.inr "plain",Sum.inr "turned",Sum.inr "both",Sum.inr "either"]:Yl);decide +kernel)⟩⟩,⟨J,BP X G aLEAF_SIGNS,λH=>⟨J,rfl,GU _ lLEAF_SIGNS hLEAF_SIGNS (by show 2<=1000;decide) (by show List.Nodup ([Sum.inr "plain",Sum.inr "turned"]:Yl);decide +kernel)⟩⟩,⟨_,BP X G aMOST_FIGURES,⟨_,rfl⟩,λ_ _=>rfl⟩,⟨U,BP X G aSIGN_KINDS,λH=>⟨U,rfl,GU _ lSIGN_KINDS hSIGN_KINDS (by show 2<=1000;decide) (by show List.Nodup ([Sum.inr "+",Sum.inr "-"]:Yl);decide +kernel)⟩⟩,⟨j,BP X G aKNOT_KINDS,λH=>⟨j,[V.str "both",V.str "either"],rfl,.inr ⟨_,_,_,lKNOT_KINDS,rfl,rfl,by show 2<=sizeLine;decide,.cons ⟨_,rfl⟩<|.cons ⟨_,rfl⟩<|.nil⟩,⟨_,_,rfl,rfl,⟨_,_,rfl,rfl,rfl⟩⟩⟩⟩⟩,D,⟨h,X,G⟩,D48⟩;exact bV.imp (dL B FL) λvs H Q E q=>US q
theorem def_inT{K:Ah}{x:Str}{st:Stmt}{f Pt:Addr}{oc:Yc}{od an:Option Addr}{pR:Array<|X8}{kV hQ pm eW ct:Yc}(a:PySem.W.nsIn K mainGlobals x=some (some<|.ref f))
 (l:K.lookup f=some ⟨oc,od,.func<|PySem.W.fnOf x x (kh st) (jy st) (zb st) .none kV hQ pm an eW ct,pR⟩) (c:PySem.W.codeIn K eW x=true) (k:PySem.W.keepIn K (.ref f)=true) (C:Fh K eW Pt):DefInT K x st Pt:=
 ⟨f,kV,hQ,pm,an,eW,ct,a,⟨⟨oc,od,kV,hQ,pm,an,eW,ct,pR,rfl,l,c,C⟩,k⟩⟩
end K15
namespace H15
noncomputable section
open PySem PySem.W PySem.W.X L2 L3 PyProof.Rows
abbrev rr:=PySem.Challenge.rw_oncewise_k15_written_and_read
abbrev p:Ye:=PySem.Challenge.pw_oncewise_k15_written_and_read
abbrev top:=L3.top
abbrev s(x:Yi):Str:=Str.ofString x
noncomputable abbrev S (x:Yi) (t:Tok):Yc:=.str (Str.ofString x) t
noncomputable abbrev I (i:Int) (t:Tok):Yc:=.int i t
noncomputable abbrev R (a:Addr):Yc:=.ref a
abbrev E(P:Params)(k:Yi)(t:Tok)(v:Yc):DictEntry:=⟨PyData.keyHash P<|Str.ofString k,.str (Str.ofString k) t,v⟩
noncomputable abbrev O (c:Yc) (d:Data):Obj:=⟨c,none,d,#[]⟩
abbrev FN(n q:Yi)(st:Stmt)(I kV hQ pm:Yc)(an:Option Addr)(cd ct:Yc):FuncData:=fnOf (Str.ofString n) (Str.ofString q) (kh st) (jy st) (zb st) I kV hQ pm an cd ct
abbrev FG(n q:Yi)(st:Stmt):FuncData:={fnOf (Str.ofString n) (Str.ofString q) (kh st) (jy st) (zb st) .none .none .none .none none .none .none with globals:=0}
abbrev tu(l:X0):Obj:=O (.type "tuple")<|.seq l 0
abbrev fo(f:FuncData):Obj:=O (.type "function")<|.func f
abbrev go(f:FuncData):Obj:=O .none<|.func f
abbrev co(n q:Yi)(t l a b c J v:Nat)(o:Bool)(m k:Nat)(x y z u:Yc)(d:Nat):Obj:=O (.type "code")<|.fields #[S n t,S q<|t+1,S "/claim/cut.py"<|t+2,I l 0,I a 0,I b 0,I c 0,I J 0,R v,.bool o,I m 0,R k,x,y,z,u,I d 0,I l 0,S "/claim/cut.py"<|d+1]
abbrev mU:Yc:=S "law_oncewise_k15_written_and_read" 525
abbrev zA:Yc:=S "oncewise.webs" 280
abbrev f':Yc:=S "oncewise.webtext" 397
abbrev Hy:Yc:=S "oncewise.words" 239
abbrev fX(n:Yi)(i:Nat)(m:Yc)(r:Nat):Obj:=fo<|FN n n (top i) .none .none .none m none (R r) .none
abbrev gX(n:Yi)(i:Nat):Obj:=go<|FG n n<|top i
abbrev cF(n:Yi)(t l a v d:Nat):Obj:=co n n t l a 0 0 3 v true 181 (v+1) .none (R<|v+2) (R<|v+3) (R<|v+4) d
abbrev cC(n:Yi)(t l v d:Nat):Obj:=co n n t l 0 0 0 0 v false 181 (v+1) .none .none .none .none d
abbrev cS(n:Yi)(a ns k t v:Nat):Obj:=⟨.type "type",none,.cls<|ClassData.mk (s n) [R 24] [R a,R 24,.type "ValueError",.type "Exception",.type "BaseException",.type "object"] ns (s n) true [] [] false none false,#[some<|R k,none,some<|S n t,some<|S n v,some<|.builtin "ValueError.__new__",some<|.bool true]⟩
abbrev dA(P:Params)(a b:Nat)(l:Int)(c d r e:Nat):Obj:=O (.type "dict")<|.dict #[E P "__module__" a<|S "oncewise.errors" 187,E P "__firstlineno__" b<|I l c,E P "__static_attributes__" d<|R r,E P "__doc__" e .none] 2
abbrev dB(P:Params)(a q:Nat)(n:Yi)(J b:Nat)(l:Int)(c d r:Nat):Obj:=O (.type "dict")<|.dict #[E P "__module__" a<|S "oncewise.errors" 187,E P "__qualname__" q<|S n J,E P "__firstlineno__" b<|I l c,E P "__static_attributes__" d<|R r] 4
abbrev fR(a b:Nat):Obj:=⟨.type "frame",none,.plain,#[some<|R a,some<|R 3,some<|R b,none,some<|S "oncewise.errors" 187,none,some<|R 0]⟩
abbrev bI(a:Nat):Obj:=O (.type "builtin_function_or_method")<|.fields #[.builtin "object.__init_subclass__",R a]
abbrev sU(a:Nat):Obj:=O (.type "super")<|.fields #[R a,R a,R a]
abbrev Ob:=Params->Obj
def ev{α:Type}:Bool->List α->List α
 |_,[]=>[]
 |true,x::r=>x::ev false r
 |false,_::r=>ev true r
def bt:Nat->List Obj->BT
 |0,_=>.nil
 |_,[]=>.nil
 |n+1,x::r=>.node x (bt n<|ev true r)<|bt n<|ev false r
def env0:Env:={scope:=p.main.scope,locals:=mainNs,globals:=mainNs,cells:=[],code:=.ref 13,frame:=some 14}
abbrev cE:Code:=.body (behindTheImports p) env0
abbrev q0:Pos:=⟨0,0,0,0⟩
abbrev an:X8:=some<|.ref 6
abbrev Pc(n:Nat)(S I:Yg->OsState->SharedT)(l:X6)(q J:Pos)(w:Yg):Prop:=(λos=>segRunT treeTable p w 11 an 1 n (S w os)<|piecesOf l env0 cE q [topFrame q0])=λos=>some (Flow.next,I w os,cE,J)
abbrev b0:=PySem.W.boot_o_0
abbrev b1:=PySem.W.boot_o_1
abbrev b2:=PySem.W.boot_o_2
abbrev b3:=PySem.W.boot_o_3
abbrev b4:=PySem.W.boot_o_4
abbrev b5:=PySem.W.boot_o_5
abbrev b6:=PySem.W.boot_o_6
abbrev b7:=PySem.W.boot_o_7
abbrev b8:=PySem.W.boot_o_8
abbrev b9:=PySem.W.boot_o_9
abbrev Go:=PySem.W.boot_o_10
def ju:Ob:=λ_=>tu #[]
def wv:Ob:=λ_=>O .none<|.fields #[]
def Gp:Ob:=λ_=>cC "<module>" 182 1 11 185
def Hz:Ob:=λ_=>⟨(.type "frame"),none,.plain,#[(some<|R 13),(some<|R 3),(some<|R 3),none,(some<|S "__main__" 164),none,(some<|R 0)]⟩
def K3:Ob:=λP=>O (.type "dict")<|.dict #[(E P "__module__" 196<|S "oncewise.errors" 187),(E P "__firstlineno__" 200<|I 2 199),(E P "__static_attributes__" 201<|R 22),(E P "__weakref__" 203<|R 25),(E P "__doc__" 204 .none)] 3
def K4:Ob:=λ_=>O (.type "getset_descriptor")<|.fields #[S "__weakref__" 202,R 24,(.builtin "ExceptionGroup.__weakref__"),.none]
def HA:Ob:=λ_=>O (.type "builtin_function_or_method")<|.fields #[(.builtin "type.__prepare__"),(.type "type")]
def K5:Ob:=λ_=>cS "BadText" 37 36 28 207 215
def K6:Ob:=λP=>dA P 214 218 4 217 219 35 220
def K7:Ob:=λ_=>tu #[R 24]
def K8:Ob:=λ_=>cF "turned" 272 16 1 66 277
def K9:Ob:=λ_=>fX "is_leaf" 9 Hy 64
def K_:Ob:=λ_=>cS "BadWeb" 49 48 40 223 231
def K':Ob:=λ_=>co "is_name" "is_name" 259 12 1 0 0 3 54 true 181 55 .none .none .none (R 56) 262
def La:Ob:=λP=>O (.type "dict")<|.dict #[(E P "plain" 246<|S "turned" 247),(E P "turned" 248<|S "plain" 249),(E P "both" 250<|S "either" 251),(E P "either" 252<|S "both" 253)] 4
def Lb:Ob:=λ_=>cF "is_leaf" 265 14 1 59 269
def Lc:Ob:=λP=>dA P 230 234 6 233 235 47 236
def Ld:Ob:=λ_=>⟨(.type "type"),none,(.cls<|ClassData.mk (s "OnceError") [(.type "ValueError")] [R 24,(.type "ValueError"),(.type "Exception"),(.type "BaseException"),(.type "object")] 23 (s "OnceError") true [] [R 37,R 49] false none false),#[(some<|R 15),none,(some<|S "OnceError" 189),(some<|S "OnceError" 197),(some<|.builtin "ValueError.__new__"),(some<|.bool true)]⟩
def Le:Ob:=λ_=>fX "turned" 10 Hy 71
def Lf:Ob:=λ_=>tu #[S "plain" 243,S "turned" 244]
def Lg:Ob:=λ_=>fX "is_name" 8 Hy 57
def Lh:Ob:=λ_=>fX "word_at" 12 zA 78
def Li:Ob:=λ_=>fX "can_be_cut" 22 zA 142
def Lj:Ob:=λ_=>co "are_links" "are_links" 352 57 2 0 0 3 132 true 181 133 .none .none .none (R 134) 355
def Lk:Ob:=λ_=>fX "parts_fit" 18 zA 118
def Ll:Ob:=λ_=>fX "is_link" 20 zA 130
def Lm:Ob:=λ_=>cF "parts_in" 305 33 1 94 311
def Ln:Ob:=λ_=>fX "places_in" 16 zA 106
def Lo:Ob:=λ_=>fX "are_cuts" 24 zA 154
def Lp:Ob:=λ_=>co "are_knots" "are_knots" 337 50 1 0 0 3 120 true 181 121 .none .none .none (R 122) 340
def Lq:Ob:=λ_=>cF "each_once" 324 44 1 108 328
def Lr:Ob:=λ_=>cF "holds_leaf" 291 27 1 80 295
def Ls:Ob:=λ_=>cF "is_cut" 366 63 3 144 372
def Lu:Ob:=λ_=>fX "parts_of" 14 zA 92
def Lv:Ob:=λ_=>fX "are_links" 21 zA 135
def Lw:Ob:=λ_=>fX "parts_in" 15 zA 99
def Lx:Ob:=λ_=>cF "parts_of" 298 29 1 87 302
def Ly:Ob:=λ_=>fX "are_knots" 19 zA 123
def Lz:Ob:=λ_=>cF "is_link" 343 53 3 125 349
def LA:Ob:=λ_=>fX "each_once" 17 zA 113
def LB:Ob:=λ_=>cF "places_in" 314 38 1 101 321
def LC:Ob:=λ_=>co "are_cuts" "are_cuts" 375 67 2 0 0 3 151 true 181 152 .none .none .none (R 153) 378
def LD:Ob:=λ_=>fX "holds_leaf" 13 zA 85
def LG:Ob:=λ_=>fX "is_cut" 23 zA 149
def LH:Ob:=λ_=>co "parts_fit" "parts_fit" 331 46 2 0 0 3 115 true 181 116 .none .none .none (R 117) 334
def LJ:Ob:=λ_=>cF "word_at" 282 22 2 73 288
def LK:Ob:=λ_=>cF "can_be_cut" 358 61 2 137 363
def LL:Ob:=λ_=>fX "written_pairs" 34 f' 190
def LM:Ob:=λ_=>co "rows_in" "rows_in" 458 106 1 0 0 3 204 true 181 205 .none .none .none (R 206) 461
def LN:Ob:=λ_=>fX "rows_ahead" 38 f' 214
def LP:Ob:=λ_=>fX "shown_knot" 32 f' 178
def LQ:Ob:=λ_=>fX "words_in" 36 f' 202
def LR:Ob:=λP=>O (.type "dict")<|.dict #[(E P "+" 408<|S "plain" 409),(E P "-" 410<|S "turned" 411)] 2
def LS:Ob:=λ_=>co "is_number" "is_number" 473 114 1 0 0 3 216 true 181 217 .none .none .none (R 218) 476
def LU:Ob:=λ_=>cF "demand" 381 70 2 156 386
def LV:Ob:=λ_=>fX "checked_web" 26 zA 168
def LW:Ob:=λ_=>cF "written_knots" 428 94 1 180 436
def LX:Ob:=λ_=>cF "written_web" 445 102 1 192 449
def LY:Ob:=λ_=>fX "rows_in" 37 f' 207
def LZ:Ob:=λ_=>cF "checked_web" 389 73 1 163 394
def Ma:Ob:=λ_=>tu #[S "both" 415,S "either" 416]
def Mb:Ob:=λ_=>fX "is_number" 39 f' 219
def Mc:Ob:=λ_=>fX "demand" 25 zA 161
def Md:Ob:=λ_=>cF "shown_knot" 418 85 1 173 425
def Me:Ob:=λ_=>co "words_in" "words_in" 452 104 1 0 0 3 199 true 181 200 .none .none .none (R 201) 455
def Mf:Ob:=λP=>O (.type "dict")<|.dict #[(E P "plain" 401<|S "+" 402),(E P "turned" 403<|S "-" 404)] 2
def Mg:Ob:=λ_=>fX "written_knots" 33 f' 185
def Mh:Ob:=λ_=>fX "written_web" 35 f' 197
def Mi:Ob:=λ_=>cF "rows_ahead" 464 109 2 209 470
def Mj:Ob:=λ_=>co "written_pairs" "written_pairs" 439 100 2 0 0 3 187 true 181 188 .none .none .none (R 189) 442
def Mk:Ob:=λ_=>fX "pair_from" 44 f' 254
def Ml:Ob:=λ_=>cF "knots_from" 502 136 1 242 509
def Mm:Ob:=λ_=>co "read_web" "read_web" 519 147 1 0 0 3 256 true 181 257 .none .none .none (R 258) 522
def Mn:Ob:=λ_=>fX "number_from" 40 f' 226
def Mo:Ob:=λ_=>fX "_law_weight" 53 mU 306
def Mp:Ob:=λ_=>fX "_law_cell_at" 47 mU 266
def Mq:Ob:=λ_=>cF "_law_flip" 569 198 1 294 574
def Mr:Ob:=λ_=>cF "_law_same" 535 165 2 268 542
def Ms:Ob:=λ_=>fX "knot_from" 42 f' 240
def Mt:Ob:=λ_=>cF "leaf_from" 486 122 1 228 492
def Mu:Ob:=λ_=>fX "_law_mix" 49 mU 280
def Mv:Ob:=λ_=>fX "_law_word" 51 mU 292
def Mw:Ob:=λ_=>co "_law_name" "_law_name" 554 184 2 0 0 3 282 true 181 283 .none .none .none (R 284) 557
def Mx:Ob:=λ_=>cF "knot_from" 495 128 1 235 499
def My:Ob:=λ_=>cF "_law_mix" 545 182 3 275 551
def Mz:Ob:=λ_=>fX "knots_from" 43 f' 247
def MA:Ob:=λ_=>fX "read_web" 45 f' 259
def MB:Ob:=λ_=>cF "_law_word" 560 193 2 287 566
def MC:Ob:=λ_=>fX "_law_flip" 52 mU 299
def MD:Ob:=λ_=>cF "number_from" 479 118 1 221 483
def ME:Ob:=λ_=>fX "_law_same" 48 mU 273
def MF:Ob:=λ_=>cF "_law_weight" 577 203 1 301 581
def MG:Ob:=λ_=>cF "_law_cell_at" 527 161 2 261 532
def MJ:Ob:=λ_=>fX "leaf_from" 41 f' 233
def MK:Ob:=λ_=>fX "_law_name" 50 mU 285
def MN:Ob:=λ_=>cF "pair_from" 512 143 1 249 516
def MO:Ob:=λ_=>fX "_law_join" 55 mU 318
def MQ:Ob:=λ_=>fX "_law_order" 63 mU 366
def MT:Ob:=λ_=>co "_law_recast" "_law_recast" 663 318 4 0 0 3 356 true 181 357 .none .none .none (R 358) 666
def MU:Ob:=λ_=>fX "_law_told" 59 mU 342
def MV:Ob:=λ_=>fX "_law_beneath" 61 mU 354
def MW:Ob:=λ_=>co "_law_gapped" "_law_gapped" 681 349 5 0 0 3 368 true 181 369 .none .none .none (R 370) 684
def MX:Ob:=λ_=>fX "_law_cut" 57 mU 330
def MY:Ob:=λ_=>co "_law_crossed" "_law_crossed" 645 297 4 0 0 3 344 true 181 345 .none .none .none (R 346) 648
def MZ:Ob:=λ_=>fX "_law_web" 65 mU 378
def M5:Ob:=λ_=>cF "_law_tree" 622 258 3 332 636
def M6:Ob:=λ_=>cF "_law_mirror" 584 207 2 308 595
def M7:Ob:=λ_=>cF "_law_fold" 604 228 4 320 613
def M8:Ob:=λ_=>fX "_law_recast" 62 mU 359
def M9:Ob:=λ_=>fX "_law_gapped" 64 mU 371
def Na:Ob:=λ_=>fX "_law_crossed" 60 mU 347
def Nb:Ob:=λ_=>cF "_law_beneath" 651 307 2 349 660
def Nc:Ob:=λ_=>fX "_law_tree" 58 mU 337
def Nd:Ob:=λ_=>co "_law_cut" "_law_cut" 616 236 4 0 0 3 327 true 181 328 .none .none .none (R 329) 619
def Nf:Ob:=λ_=>fX "_law_mirror" 54 mU 313
def Ng:Ob:=λ_=>cF "_law_web" 687 363 4 373 701
def Nh:Ob:=λ_=>fX "_law_fold" 56 mU 325
def Ni:Ob:=λ_=>co "_law_told" "_law_told" 639 287 1 0 0 3 339 true 181 340 .none .none .none (R 341) 642
def HB:Ob:=λ_=>cF "_law_order" 669 341 2 361 678
def Nj:Ob:=λ_=>co "_law_join" "_law_join" 598 220 4 0 0 3 315 true 181 316 .none .none .none (R 317) 601
def Nk:Ob:=λP=>O (.type "dict")<|.dict #[(E P "__name__" 165<|S "law_oncewise_k15_written_and_read" 525),(E P "__doc__" 166 .none),(E P "__package__" 167 .none),(E P "__loader__" 168<|.builtin "__main__.__loader__#opaque"),(E P "__spec__" 169 .none),(E P "__annotations__" 170<|R 6),(E P "__builtins__" 171<|R 4),(E P "__file__" 173<|S "/claim/cut.py" 172),(E P "__cached__" 174 .none),(E P "OnceError" 206<|R 24),(E P "BadText" 222<|R 37),(E P "BadWeb" 238<|R 49),(E P "MOST_LETTERS" 242<|I 8 241),(E P "LEAF_KINDS" 245<|R 52),(E P "TURNED_KINDS" 258<|R 53),(E P "is_name" 264<|R 58),(E P "is_leaf" 271<|R 65),(E P "turned" 279<|R 72),(E P "word_at" 290<|R 79),(E P "holds_leaf" 297<|R 86),(E P "parts_of" 304<|R 93),(E P "parts_in" 313<|R 100),(E P "places_in" 323<|R 107),(E P "each_once" 330<|R 114),(E P "parts_fit" 336<|R 119),(E P "are_knots" 342<|R 124),(E P "is_link" 351<|R 131),(E P "are_links" 357<|R 136),(E P "can_be_cut" 365<|R 143),(E P "is_cut" 374<|R 150),(E P "are_cuts" 380<|R 155),(E P "demand" 388<|R 162),(E P "checked_web" 396<|R 169),(E P "MOST_FIGURES" 400<|I 4 399),(E P "LEAF_SIGNS" 407<|R 170),(E P "SIGN_KINDS" 414<|R 171),(E P "KNOT_KINDS" 417<|R 172),(E P "shown_knot" 427<|R 179),(E P "written_knots" 438<|R 186),(E P "written_pairs" 444<|R 191),(E P "written_web" 451<|R 198),(E P "words_in" 457<|R 203),(E P "rows_in" 463<|R 208),(E P "rows_ahead" 472<|R 215),(E P "is_number" 478<|R 220),(E P "number_from" 485<|R 227),(E P "leaf_from" 494<|R 234),(E P "knot_from" 501<|R 241),(E P "knots_from" 511<|R 248),(E P "pair_from" 518<|R 255),(E P "read_web" 524<|R 260),(E P "_law_cell_at" 534<|R 267),(E P "_law_same" 544<|R 274),(E P "_law_mix" 553<|R 281),(E P "_law_name" 559<|R 286),(E P "_law_word" 568<|R 293),(E P "_law_flip" 576<|R 300),(E P "_law_weight" 583<|R 307),(E P "_law_mirror" 597<|R 314),(E P "_law_join" 603<|R 319),(E P "_law_fold" 615<|R 326),(E P "_law_cut" 621<|R 331),(E P "_law_tree" 638<|R 338),(E P "_law_told" 644<|R 343),(E P "_law_crossed" 650<|R 348),(E P "_law_beneath" 662<|R 355),(E P "_law_recast" 668<|R 360),(E P "_law_order" 680<|R 367),(E P "_law_gapped" 686<|R 372),(E P "_law_web" 703<|R 379),(E P "_law_copy" 710<|R 386),(E P "_law_lines" 722<|R 393),(E P "_law_text" 728<|R 398),(E P "_law_loose" 742<|R 405),(E P "law" 754<|R 412)] 75
def Nl:Ob:=λ_=>cF "law" 743 407 1 406 752
def Nm:Ob:=λ_=>cF "_law_copy" 704 375 1 380 708
def Nn:Ob:=λ_=>fX "_law_lines" 67 mU 392
def No:Ob:=λ_=>fX "_law_loose" 69 mU 404
def Np:Ob:=λ_=>co "_law_text" "_law_text" 723 393 1 0 0 3 394 true 181 395 .none .none .none (R 396) 726
def Nq:Ob:=λ_=>cF "_law_lines" 711 377 1 387 720
def Nr:Ob:=λ_=>cF "_law_loose" 729 395 2 399 740
def Nt:Ob:=λ_=>fX "law" 70 mU 411
def Nu:Ob:=λ_=>fX "_law_copy" 66 mU 385
def Nv:Ob:=λ_=>fX "_law_text" 68 mU 397
def aw9:List Ob:=[b0,b1,b2,b3,b4,b5,b6,b7,b8,b9,Go,ju,wv,Gp,Hz]
def atn:List Ob:=[b0,b1,b2,Nk,b4,b5,b6,b7,b8,b9,Go,ju,λ_=>O .none<|.fields #[I 2 0,I 0 0,R 20,I 4 0,I 0 0,R 33,I 6 0,I 0 0,R 45,I 12 0,I 0 0,R 57,I 14 0,I 0 0,R 64,I 16 0,I 0 0,R 71,I 22 0,I 0 0,R 78,I 27 0,I 0 0,R 85,I 29 0,I 0 0,R 92,I 33 0,I 0 0,R 99,I 38 0,I 0 0,R 106,I 44 0,I 0 0,R 113,I 46 0,I 0 0,R 118,I 50 0,I 0 0,R 123,I 53 0,I 0 0,R 130,I 57 0,I 0 0,R 135,I 61 0,I 0 0,R 142,I 63 0,I 0 0,R 149,I 67 0,I 0 0,R 154,I 70 0,I 0 0,R 161,I 73 0,I 0 0,R 168,I 85 0,I 0 0,R 178,I 94 0,I 0 0,R 185,I 100 0,I 0 0,R 190,I 102 0,I 0 0,R 197,I 104 0,I 0 0,R 202,I 106 0,I 0 0,R 207,I 109 0,I 0 0,R 214,I 114 0,I 0 0,R 219,I 118 0,I 0 0,R 226,I 122 0,I 0 0,R 233,I 128 0,I 0 0,R 240,I 136 0,I 0 0,R 247,I 143 0,I 0 0,R 254,I 147 0,I 0 0,R 259,I 161 0,I 0 0,R 266,I 165 0,I 0 0,R 273,I 182 0,I 0 0,R 280,I 184 0,I 0 0,R 285,I 193 0,I 0 0,R 292,I 198 0,I 0 0,R 299,I 203 0,I 0 0,R 306,I 207 0,I 0 0,R 313,I 220 0,I 0 0,R 318,I 228 0,I 0 0,R 325,I 236 0,I 0 0,R 330,I 258 0,I 0 0,R 337,I 287 0,I 0 0,R 342,I 297 0,I 0 0,R 347,I 307 0,I 0 0,R 354,I 318 0,I 0 0,R 359,I 341 0,I 0 0,R 366,I 349 0,I 0 0,R 371,I 363 0,I 0 0,R 378,I 375 0,I 0 0,R 385,I 377 0,I 0 0,R 392,I 393 0,I 0 0,R 397,I 395 0,I 0 0,R 404,I 407 0,I 0 0,R 411],Gp,Hz,λ_=>tu #[(.type "ValueError")],HA,λP=>dB P 196 198 "OnceError" 197 200 2 199 201 22,ju,wv,λ_=>cC "OnceError" 191 2 18 194,λ_=>fR 20 17,ju,K3,Ld,K4,λ_=>sU 24,λ_=>bI 24,K7,HA,λP=>dB P 214 216 "BadText" 215 218 4 217 219 35,ju,wv,λ_=>cC "BadText" 209 4 31 212,λ_=>fR 33 30,ju,K6,K5,λ_=>sU 37,λ_=>bI 37,K7,HA,λP=>dB P 230 232 "BadWeb" 231 234 6 233 235 47,ju,wv,λ_=>cC "BadWeb" 225 6 43 228,λ_=>fR 45 42,ju,Lc,K_,λ_=>sU 49,λ_=>bI 49,Lf,La,ju,wv,λ_=>gX "is_name" 8,K',Lg,ju,wv,λ_=>tu #[S "word" 268],ju,λ_=>gX "is_leaf" 9,Lb,K9,ju,wv,λ_=>tu #[S "word" 275,S "kind" 276],ju,λ_=>gX "turned" 10,K8,Le,ju,wv,λ_=>tu #[S "knots" 285,S "place" 286,S "knot" 287],ju,λ_=>gX "word_at" 12,LJ,Lh,ju,wv,λ_=>tu #[S "knot" 294],ju,λ_=>gX "holds_leaf" 13,Lr,LD,ju,wv,λ_=>tu #[S "knot" 301],ju,λ_=>gX "parts_of" 14,Lx,Lu,ju,wv,λ_=>tu #[S "knots" 308,S "parts" 309,S "knot" 310],ju,λ_=>gX "parts_in" 15,Lm,Lw,ju,wv,λ_=>tu #[S "pairs" 317,S "places" 318,S "p" 319,S "q" 320],ju,λ_=>gX "places_in" 16,LB,Ln,ju,wv,λ_=>tu #[S "places" 327],ju,λ_=>gX "each_once" 17,Lq,LA,ju,wv,λ_=>gX "parts_fit" 18,LH,Lk,ju,wv,λ_=>gX "are_knots" 19,Lp,Ly,ju,wv,λ_=>tu #[S "knots" 346,S "p" 347,S "q" 348],ju,λ_=>gX "is_link" 20,Lz,Ll,ju,wv,λ_=>gX "are_links" 21,Lj,Lv,ju,wv,λ_=>tu #[S "knots" 361,S "place" 362],ju,λ_=>gX "can_be_cut" 22,LK,Li,ju,wv,λ_=>tu #[S "knots" 369,S "p" 370,S "q" 371],ju,λ_=>gX "is_cut" 23,Ls,LG,ju,wv,λ_=>gX "are_cuts" 24,LC,Lo,ju,wv,λ_=>tu #[S "holds" 384,S "words" 385],ju,λ_=>gX "demand" 25,LU,Mc,ju,wv,λ_=>tu #[S "web" 392,S "knots" 393],ju,λ_=>gX "checked_web" 26,LZ,LV,Mf,LR,Ma,ju,wv,λ_=>tu #[S "knot" 421,S "kind" 422,S "left" 423,S "right" 424],ju,λ_=>gX "shown_knot" 32,Md,LP,ju,wv,λ_=>tu #[S "knots" 431,S "lines" 432,S "place" 433,S "knot" 434,S "shown" 435],ju,λ_=>gX "written_knots" 33,LW,Mg,ju,wv,λ_=>gX "written_pairs" 34,Mj,LL,ju,wv,λ_=>tu #[S "web" 448],ju,λ_=>gX "written_web" 35,LX,Mh,ju,wv,λ_=>gX "words_in" 36,Me,LQ,ju,wv,λ_=>gX "rows_in" 37,LM,LY,ju,wv,λ_=>tu #[S "rows" 467,S "word" 468,S "count" 469],ju,λ_=>gX "rows_ahead" 38,Mi,LN,ju,wv,λ_=>gX "is_number" 39,LS,Mb,ju,wv,λ_=>tu #[S "word" 482],ju,λ_=>gX "number_from" 40,MD,Mn,ju,wv,λ_=>tu #[S "word" 489,S "sign" 490,S "name" 491],ju,λ_=>gX "leaf_from" 41,Mt,MJ,ju,wv,λ_=>tu #[S "words" 498],ju,λ_=>gX "knot_from" 42,Mx,Ms,ju,wv,λ_=>tu #[S "rows" 505,S "knots" 506,S "place" 507,S "row" 508],ju,λ_=>gX "knots_from" 43,Ml,Mz,ju,wv,λ_=>tu #[S "row" 515],ju,λ_=>gX "pair_from" 44,MN,Mk,ju,wv,λ_=>gX "read_web" 45,Mm,MA,ju,wv,λ_=>tu #[S "_law_script" 530,S "_law_k" 531],ju,λ_=>gX "_law_cell_at" 47,MG,Mp,ju,wv,λ_=>tu #[S "_law_found" 538,S "_law_due" 539,S "_law_one" 540,S "_law_other" 541],ju,λ_=>gX "_law_same" 48,Mr,ME,ju,wv,λ_=>tu #[S "_law_cell" 548,S "_law_k" 549,S "_law_factor" 550],ju,λ_=>gX "_law_mix" 49,My,Mu,ju,wv,λ_=>gX "_law_name" 50,Mw,MK,ju,wv,λ_=>tu #[S "_law_knots" 563,S "_law_p" 564,S "_law_knot" 565],ju,λ_=>gX "_law_word" 51,MB,Mv,ju,wv,λ_=>tu #[S "_law_word_here" 572,S "_law_sides" 573],ju,λ_=>gX "_law_flip" 52,Mq,MC,ju,wv,λ_=>tu #[S "_law_word_here" 580],ju,λ_=>gX "_law_weight" 53,MF,Mo,ju,wv,λ_=>tu #[S "_law_knots" 587,S "_law_word_here" 588,S "_law_left" 589,S "_law_right" 590,S "_law_turn" 591,S "_law_same_here" 592,S "_law_low" 593,S "_law_high" 594],ju,λ_=>gX "_law_mirror" 54,M6,Nf,ju,wv,λ_=>gX "_law_join" 55,Nj,MO,ju,wv,λ_=>tu #[S "_law_knots" 607,S "_law_tree_here" 608,S "_law_one" 609,S "_law_two" 610,S "_law_left" 611,S "_law_right" 612],ju,λ_=>gX "_law_fold" 56,M7,Nh,ju,wv,λ_=>gX "_law_cut" 57,Nd,MX,ju,wv,λ_=>tu #[S "_law_cells" 625,S "_law_seed" 626,S "_law_room" 627,S "_law_knots" 628,S "_law_forest" 629,S "_law_k" 630,S "_law_cell" 631,S "_law_one" 632,S "_law_two" 633,S "_law_deed" 634,S "_law_at" 635],ju,λ_=>gX "_law_tree" 58,M5,Nc,ju,wv,λ_=>gX "_law_told" 59,Ni,MU,ju,wv,λ_=>gX "_law_crossed" 60,MY,Na,ju,wv,λ_=>tu #[S "_law_knots" 654,S "_law_cuts" 655,S "_law_todo" 656,S "_law_p" 657,S "_law_q" 658,S "_law_beneath_here" 659],ju,λ_=>gX "_law_beneath" 61,Nb,MV,ju,wv,λ_=>gX "_law_recast" 62,MT,M8,ju,wv,λ_=>tu #[S "_law_knots" 672,S "_law_seed" 673,S "_law_p" 674,S "_law_knot" 675,S "_law_rank" 676],λ_=>tu #[S "_law_keys" 677],λ_=>gX "_law_order" 63,HB,MQ,ju,wv,λ_=>gX "_law_gapped" 64,MW,M9,ju,wv,λ_=>tu #[S "_law_script" 690,S "_law_seed" 691,S "_law_room" 692,S "_law_most" 693,S "_law_bits" 694,S "_law_gaps" 695,S "_law_knots" 696,S "_law_rule" 697,S "_law_links" 698,S "_law_cuts" 699,S "_law_k" 700],ju,λ_=>gX "_law_web" 65,Ng,MZ,ju,wv,λ_=>tu #[S "_law_web_here" 707],ju,λ_=>gX "_law_copy" 66,Nm,Nu,ju,wv,λ_=>tu #[S "_law_web_here" 714,S "_law_lines_here" 715,S "_law_p" 716,S "_law_knot" 717,S "_law_tail" 718,S "_law_q" 719],ju,λ_=>gX "_law_lines" 67,Nq,Nn,ju,wv,λ_=>gX "_law_text" 68,Np,Nv,ju,wv,λ_=>tu #[S "_law_lines_here" 732,S "_law_seed" 733,S "_law_text_here" 734,S "_law_k" 735,S "_law_line" 736,S "_law_bits" 737,S "_law_at" 738,S "_law_row" 739],ju,λ_=>gX "_law_loose" 69,Nr,No,ju,wv,λ_=>tu #[S "_law_script" 746,S "_law_seed" 747,S "_law_web_here" 748,S "_law_lines_here" 749,S "_law_due" 750,S "_law_handed" 751],ju,λ_=>gX "law" 70,Nl,Nt]
def awp:List Ob:=[b0,b1,b2,b3,b4,b5,b6,b7,b8,b9,Go,ju,wv,Gp,Hz]
def aw7:List Ob:=atn
def XC(P:Params):Yh:=⟨⟨aw9.map (· P)⟩,{}⟩
def Gq(P:Params):Yh:=⟨⟨atn.map (· P)⟩,{}⟩
def XD(P:Params):BT:=bt 20 (awp.map (· P))
def XE(P:Params):BT:=bt 20 (aw7.map (· P))
def sA(w:Yg)(os:OsState):Yd:=⟨XC w.params,#[],{},187,os⟩
def sZ(w:Yg)(os:OsState):Yd:=⟨Gq w.params,#[],{},755,os⟩
def gK(w:Yg)(os:OsState):SharedT:=⟨XD w.params,15,{},#[],{},187,os⟩
def Gr(w:Yg)(os:OsState):SharedT:=⟨XE w.params,413,{},#[],{},755,os⟩
def FE:X6:=((behindTheImports p).drop 0).take 71
theorem XF(w:Yg):(λos=>topGo treeTable p w 11 an 12 ⟨boot_heap w.params,#[],boot_drawn,boot_toks,os⟩<|topStub p)=λos=>some (sA w os,⟨denote treeTable cE,cE,⟨0,0,0,0⟩,[topFrame q0]⟩):=by kernel_rfl
theorem XG(w:Yg):(λos=>segRun treeTable p w 11 an 1 1 (sA w os)<|blockOf (behindTheImports p) env0 cE ⟨0,0,0,0⟩ [topFrame q0])=λos=>some (.next,(gK w os).abs,cE,⟨0,0,0,0⟩):=by kernel_rfl
theorem XH(w:Yg):Pc 2524 gK Gr FE ⟨0,0,0,0⟩ ⟨407,0,417,85⟩ (w.withFollow "special-get-raises" false):=by kernel_rfl
theorem XI(w:Yg):Pc 2524 gK Gr FE ⟨0,0,0,0⟩ ⟨407,0,417,85⟩ (w.withFollow "special-get-raises" true):=by kernel_rfl
theorem XJ:∀w,Pc 2524 gK Gr FE ⟨0,0,0,0⟩ ⟨407,0,417,85⟩ w:=byRow2 "special-get-raises" XH XI
theorem XM(w:Yg):(λos=>topRun treeTable p w 11 an 2 (Gr w os).abs ⟨doneF .next,cE,⟨407,0,417,85⟩,[topFrame q0]⟩)=λos=>some (sZ w os):=by kernel_rfl
theorem XN:FE++([])=behindTheImports p:=by kernel_rfl
theorem XO(w:Yg)(os:OsState):topRun treeTable p w 11 an (12+(1+(2524+(2)))) ⟨boot_heap w.params,#[],boot_drawn,boot_toks,os⟩ (topStub p)=some (sZ w os):=by have h:=(piece_app (l:=FE) (rest:=[]) (segRun_of<|Ed (XJ w) os)<|piece_nil (env:=env0)<|Ed (XM w) os);rw[XN] at h;exact go_top (Ed (XF w) os)<|piece_block (Ed (XG w) os) h
def as0:X2:=[0,1,2,3,4,5,6,7,8,9,10,13,23,24,25,36,37,48,49,52,53,57,58,64,65,71,72,78,79,85,86,92,93,99,100,106,107,113,114,118,119,123,124,130,131,135,136,142,143,149,150,154,155,161,162,168,169,170,171,172,178,179,185,186,190,191,197,198,202,203,207,208,214,215,219,220,226,227,233,234,240,241,247,248,254,255,259,260,266,267,273,274,280,281,285,286,292,293,299,300,306,307,313,314,318,319,325,326,330,331,337,338,342,343,347,348,354,355,359,360,362,366,367,371,372,378,379,385,386,392,393,397,398,404,405,411,412]
def vw:Ye:={p with main:={p.main with body:=[top 1,top 2,top 3,top 5,top 6,top 7,top 8,top 9,top 10,top 12,top 13,top 14,top 15,top 16,top 17,top 18,top 19,top 20,top 21,top 22,top 23,top 24,top 25,top 26,top 28,top 29,top 30,top 31,top 32,top 33,top 34,top 35,top 36,top 37,top 38,top 39,top 40,top 41,top 42,top 43,top 44,top 45,top 47,top 48,top 49,top 50,top 51,top 52,top 53,top 54,top 55,top 56,top 57,top 58,top 59,top 60,top 61,top 62,top 63,top 64,top 65,top 66,top 67,top 68,top 69,top 70]}}
def K0:Params->Frag:=λP=>(nat_lit 0,b0 P)::(nat_lit 1,b1 P)::(nat_lit 2,b2 P)::(nat_lit 3,Nk P)::(nat_lit 4,b4 P)::(nat_lit 5,b5 P)::(nat_lit 6,b6 P)::(nat_lit 7,b7 P)::(nat_lit 8,b8 P)::(nat_lit 9,b9 P)::(nat_lit 10,Go P)::(nat_lit 13,Gp P)::(nat_lit 23,K3 P)::(nat_lit 24,Ld P)::(nat_lit 25,K4 P)::(nat_lit 36,K6 P)::(nat_lit 37,K5 P)::(nat_lit 48,Lc P)::(nat_lit 49,K_ P)::(nat_lit 52,Lf P)::(nat_lit 53,La P)::(nat_lit 57,K' P)::(nat_lit 58,Lg P)::(nat_lit 64,Lb P)::(nat_lit 65,K9 P)::(nat_lit 71,K8 P)::(nat_lit 72,Le P)::(nat_lit 78,LJ P)::(nat_lit 79,Lh P)::(nat_lit 85,Lr P)::(nat_lit 86,LD P)::(nat_lit 92,Lx P)::(nat_lit 93,Lu P)::(nat_lit 99,Lm P)::(nat_lit 100,Lw P)::(nat_lit 106,LB P)::(nat_lit 107,Ln P)::(nat_lit 113,Lq P)::(nat_lit 114,LA P)::(nat_lit 118,LH P)::(nat_lit 119,Lk P)::(nat_lit 123,Lp P)::(nat_lit 124,Ly P)::(nat_lit 130,Lz P)::(nat_lit 131,Ll P)::(nat_lit 135,Lj P)::(nat_lit 136,Lv P)::(nat_lit 142,LK P)::(nat_lit 143,Li P)::(nat_lit 149,Ls P)::(nat_lit 150,LG P)::(nat_lit 154,LC P)::(nat_lit 155,Lo P)::(nat_lit 161,LU P)::(nat_lit 162,Mc P)::(nat_lit 168,LZ P)::(nat_lit 169,LV P)::(nat_lit 170,Mf P)::(nat_lit 171,LR P)::(nat_lit 172,Ma P)::(nat_lit 178,Md P)::(nat_lit 179,LP P)::(nat_lit 185,LW P)::(nat_lit 186,Mg P)::(nat_lit 190,Mj P)::(nat_lit 191,LL P)::(nat_lit 197,LX P)::(nat_lit 198,Mh P)::(nat_lit 202,Me P)::(nat_lit 203,LQ P)::(nat_lit 207,LM P)::(nat_lit 208,LY P)::(nat_lit 214,Mi P)::(nat_lit 215,LN P)::(nat_lit 219,LS P)::(nat_lit 220,Mb P)::(nat_lit 226,MD P)::(nat_lit 227,Mn P)::(nat_lit 233,Mt P)::(nat_lit 234,MJ P)::(nat_lit 240,Mx P)::(nat_lit 241,Ms P)::(nat_lit 247,Ml P)::(nat_lit 248,Mz P)::(nat_lit 254,MN P)::(nat_lit 255,Mk P)::(nat_lit 259,Mm P)::(nat_lit 260,MA P)::(nat_lit 266,MG P)::(nat_lit 267,Mp P)::(nat_lit 273,Mr P)::(nat_lit 274,ME P)::(nat_lit 280,My P)::(nat_lit 281,Mu P)::(nat_lit 285,Mw P)::(nat_lit 286,MK P)::(nat_lit 292,MB P)::(nat_lit 293,Mv P)::(nat_lit 299,Mq P)::(nat_lit 300,MC P)::(nat_lit 306,MF P)::(nat_lit 307,Mo P)::(nat_lit 313,M6 P)::(nat_lit 314,Nf P)::(nat_lit 318,Nj P)::(nat_lit 319,MO P)::(nat_lit 325,M7 P)::(nat_lit 326,Nh P)::(nat_lit 330,Nd P)::(nat_lit 331,MX P)::(nat_lit 337,M5 P)::(nat_lit 338,Nc P)::(nat_lit 342,Ni P)::(nat_lit 343,MU P)::(nat_lit 347,MY P)::(nat_lit 348,Na P)::(nat_lit 354,Nb P)::(nat_lit 355,MV P)::(nat_lit 359,MT P)::(nat_lit 360,M8 P)::(nat_lit 362,wv P)::(nat_lit 366,HB P)::(nat_lit 367,MQ P)::(nat_lit 371,MW P)::(nat_lit 372,M9 P)::(nat_lit 378,Ng P)::(nat_lit 379,MZ P)::(nat_lit 385,Nm P)::(nat_lit 386,Nu P)::(nat_lit 392,Nq P)::(nat_lit 393,Nn P)::(nat_lit 397,Np P)::(nat_lit 398,Nv P)::(nat_lit 404,Nr P)::(nat_lit 405,No P)::(nat_lit 411,Nl P)::(nat_lit 412,Nt P)::[]
abbrev lamC:Nat:=366
abbrev lamT:Nat:=362
abbrev lamO:Ob:=HB
abbrev ls:X4:=[Str.ofString "TURNED_KINDS",Str.ofString "LEAF_SIGNS",Str.ofString "SIGN_KINDS"]
abbrev Xt:Yd->Bool:=λs=>xlAt vw [] s&&recOk (RowW.records rr.row.toRowW) s
theorem XQ(w:Yg):((boot_heap w.params).isNs mainGlobals&&(#[]:Array GenState).size==0,(boot_heap w.params).objs.size,(boot_heap w.params).nsMap mainGlobals "__annotations__")=(true,11,an):=by kernel_rfl
theorem XR:opening p=plainProg p.main.scope.names:=by kernel_rfl
theorem XS(s:Yd):fenceModules? p s=some s:=by kernel_rfl
theorem Gs(w:Yg):(λos=>(staticsOk (importedModules p.main.body) (boot_heap w.params) (Gq w.params)&&namesBound p (Gq w.params)&&gensDone (sZ w os)&&laidKept (boot_heap w.params) (Gq w.params)))=λ_=>true:=by kernel_rfl
theorem lk2(w:Yg):(λos=>openSeen vw ls (importedModules p.main.body) Xt true<|sZ w os)=λ_=>openGood vw ls:=by kernel_rfl
theorem lk3(w:Yg):(λos=>obsZ as0<|sZ w os)=λ_=>valZ K0 413 755 w:=by kernel_rfl
theorem left_:LeftO p vw ls Xt (obsZ as0) (valZ K0 413 755) 5158:=LeftO.of_pieces (boot_open XR rfl XS) XQ XO rfl λw=>funext λos=>looks_pair (Ed (Gs w) os)<|looks_pair (Ed (lk2 w) os)<|Ed (lk3 w) os
end
end H15
open PySem PySem.W PyProof.Rows
set_option maxRecDepth 100000 in
set_option maxHeartbeats 0 in
theorem PySem.Challenge.cw_oncewise_k15_written_and_read_holds : PySem.Challenge.rw_oncewise_k15_written_and_read.Holds := by
 w_on;refine holds_law (by unfold OpenLaw.wellSaid OpenRow.wellSaid OpenRow.partSaid looksOpen;walk_at "y";walk_at "y";walk_at "y";walk_at "y";walk_at "y";walk_at "y";all_goals decide +kernel) λJ=>?_
 refine holds_openX (q:=H15.vw) (loose:=H15.ls) (Xt:=H15.Xt) (XP:=XL H15.vw []) (Yf:=PySem.W.X.obsZ H15.as0) (Ya:=PySem.W.X.valZ H15.K0 413 755) (N:=5158) H15.left_ (λs e=>xl_of s (Bool.and_eq_true_iff.mp e).1)
  XL.keeps (by rfl) (by rfl) (by rfl) (λs e=>recFacts_of (Bool.and_eq_true_iff.mp e).2)
  (by rfl) (by decide +kernel) (by decide +kernel) ⟨rfl,rfl,rfl,rfl,rfl,by decide +kernel⟩ ?hw ?hc
 case hw=>w_witness2
 k_fill
 refine L2.walk_ofZT (l:=PySem.Challenge.rw_oncewise_k15_written_and_read) (n:=63) (k:=131) (x:="_law_script") (CX:=L2.CX0) (sp:=L3.spTopT L3.lamQ) rfl (by decide) rfl ⟨rfl,by decide,by decide⟩ (λ_=>rfl) (by decide) ?F ?S ?C
 case F=>
  intro w r t h g G I;have T:(H15.K0 w.params).lookup H15.lamT=some (PySem.W.tabObj #[]):=by k_is
  have U:(H15.K0 w.params).lookup H15.lamC=some (H15.lamO w.params):=by k_is
  have hd:∀h:Yh,h.get? H15.lamC=some (H15.lamO w.params)->PySem.W.CodeHd h H15.lamC H15.lamT:=λh e=>⟨_,_,_,_,_,_,_,_,_,e,rfl,rfl,rfl,rfl,rfl,rfl,rfl,rfl,by decide⟩;have j:(H15.K0 w.params).lookup 4=some (PySem.W.boot_o_4 w.params):=by k_is
  have o:L3.DefInT (L2.lessK H15.lamT<|H15.K0 w.params) "_law_order" L3.s__law_order H15.lamT:=by
   refine' K15.def_inT (L2.ns_dn T ?a) (L2.lk_dn T ?l ?n) (L2.code_dn T ?c) (L2.keep_dn T ?k) ?LC
   (case a=>k_is);(case l=>k_is);(case n=>(intro e;cases e));(case c=>k_is);(case k=>k_is)
   refine'⟨⟨H15.lamC,_,rfl,L2.lk_dn T U ?m,hd⟩,⟨4,_,L2.ns_dn T ?b,by decide,by decide,L2.lk_dn T j ?p,rfl,rfl,rfl⟩⟩
   (case m=>(intro e;cases e));(case b=>k_is);(case p=>(intro e;cases e))
  refine⟨H15.lamT,⟨T,⟨H15.lamC,λh X=>hd h<|X _ _ U⟩,by decide⟩,?_⟩;refine' K15.all_mk (K:=L2.lessK H15.lamT<|H15.K0 w.params) (L2.lessK_in g) G I ?D ?D48 ?aMOST_LETTERS ?aLEAF_KINDS ?lLEAF_KINDS ?aTURNED_KINDS ?lTURNED_KINDS ?hTURNED_KINDS ?aLEAF_SIGNS ?lLEAF_SIGNS ?hLEAF_SIGNS ?aMOST_FIGURES ?aSIGN_KINDS ?lSIGN_KINDS ?hSIGN_KINDS ?aKNOT_KINDS ?lKNOT_KINDS ?zall ?zlen ?zset ?zrange ?zany ?zenumerate ?zsorted ?zint ?zisinstance ?zbool ?zlist ?ztuple ?zzip ?zstr ?zmax ?zmin
  (case D=>(constructor<;>(refine' L2.def_in (L2.ns_dn T ?a) (L2.lk_dn T ?l ?n) (L2.code_dn T ?c)<|L2.keep_dn T ?k;(case a=>k_is);(case l=>k_is);(case n=>(intro e;cases e));(case c=>k_is);(case k=>k_is))))
  (case D48=>exact o)
  (case aMOST_LETTERS=>(refine' L2.ns_dn T ?_;k_is))
  (case aLEAF_KINDS=>(refine' L2.ns_dn T ?_;k_is))
  (case lLEAF_KINDS=>(refine' L2.lk_dn T ?x ?n;(case x=>k_is);(case n=>(intro e;cases e))))
  (case aTURNED_KINDS=>(refine' L2.ns_dn T ?_;k_is))
  (case lTURNED_KINDS=>(refine' L2.lk_dn T ?x ?n;(case x=>k_is);(case n=>(intro e;cases e))))
  (case hTURNED_KINDS=>rfl)
  (case aLEAF_SIGNS=>(refine' L2.ns_dn T ?_;k_is))
  (case lLEAF_SIGNS=>(refine' L2.lk_dn T ?x ?n;(case x=>k_is);(case n=>(intro e;cases e))))
  (case hLEAF_SIGNS=>rfl)
  (case aMOST_FIGURES=>(refine' L2.ns_dn T ?_;k_is))
  (case aSIGN_KINDS=>(refine' L2.ns_dn T ?_;k_is))
  (case lSIGN_KINDS=>(refine' L2.lk_dn T ?x ?n;(case x=>k_is);(case n=>(intro e;cases e))))
  (case hSIGN_KINDS=>rfl)
  (case aKNOT_KINDS=>(refine' L2.ns_dn T ?_;k_is))
  (case lKNOT_KINDS=>(refine' L2.lk_dn T ?x ?n;(case x=>k_is);(case n=>(intro e;cases e))))
  (case zall|zlen|zset|zrange|zany|zenumerate|zsorted|zint|zisinstance|zbool|zlist|ztuple|zzip|zstr|zmax|zmin=>(refine' L2.ns_dn T ?_;k_is))
 case S=>exact L3.top_startT
 case C=>exactλ_ _ _ _ z=>z
#print axioms PySem.Challenge.cw_oncewise_k15_written_and_read_holds
